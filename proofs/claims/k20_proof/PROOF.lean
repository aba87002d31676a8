import PyProof.Rows.All
import Wide.All
import OpenK.AllK
import Wide.FinOn
import Lean
import PyProof.EqAt
import PyProof.EqKinds
import PyProof.TupleCall
import PyProof.CompFree
import PyProof.WalkInts
import PyProof.StrBlockI
import PyProof.StrBlockL
import PyProof.Rows.StrJoinMade
import PyProof.ZipIter
import KE.KRevSl
import PyProof.Rows.StrSplitAre
import PyProof.StrBlockH
import PyProof.MeetsSeq
import PyProof.Rows.SortRuns
import KE.KSortTup
import KE.KDictSum
import PyProof.DictValues
import PyProof.SetKind
import PyProof.Rows.SetFrom
import PyProof.TableCode
import PySem.Challenge.RW_turnyard_k20_points
set_option linter.all false
def Wn:=@PySem.wpAny_bind
def Wo:=@PySem.Heap.get?_push_of_some
def Wq:=@List.getElem?_eq_getElem
def Wr:=@List.length_map
def Ws:=@Bool.and_eq_true
def Wt:=@Bool.false_ne_true
def Wu:=@List.mem_cons_of_mem
def Wv:=@PySem.wpAny_pure
def Ww:=@List.mem_singleton
def Wx:=@List.mem_cons_self
def Wy:=@Array.length_toList
def Wz:=@List.getD_eq_getElem?_getD
def WA:=@List.size_toArray
def WB:=@PySem.Heap.get?_push_size
def WC:=@List.length_append
def WD:=@List.mem_map
def WE:=@Nat.le_refl
def WG:=@List.mem_cons
def WH:=@PySem.Heap.lt_size
def WI:=@List.getElem?_map
def WJ:=@List.map_cons
def WK:=@List.getElem?_eq_some_iff
def WL:=@Array.toList_append
def WM:=@List.length_cons
def WN:=@List.mem_append_right
def WO:=@if_pos
def WQ:=@List.mem_append
def WR:=@List.length_singleton
def WS:=@List.getElem?_eq_none
def WT:=@List.getElem?_set_ne
def WU:=@Option.some.inj
def WV:=@if_neg
def WW:=@List.getElem?_set_self
def WX:=@PySem.Heap.get?_update_other
def WY:=@List.mem_append_left
def WZ:=@List.append_assoc
def W2:=@Nat.ne_of_lt
def W4:=@List.map_append
def W5:=@Array.getElem?_eq_getElem
def W6:=@List.map_map
def W7:=@List.mem_range
def W8:=@List.pairwise_append
def W9:=@List.append_nil
def W_:=@PySem.wpAny_newObj_type
def Xa:=@Nat.lt_of_lt_of_le
def Xb:=@PySem.wpAny_call_entry
def Xc:=@List.nodup_iff_pairwise_ne
def Xd:=@List.nodup_cons
def Xe:=@Array.getElem?_toList
def Xf:=@PySem.wpAny_holding
def Xg:=@List.take_of_length_le
def Xh:=@PySem.Heap.SameBut.update
def Xi:=@PySem.wpAny_callSpecial?_slot
def Xj:=@List.getElem?_append_left
def Xk:=@List.pairwise_map
def Xl:=@PySem.mem_of_lookup
def Xm:=@List.length_set
def Xn:=@List.getElem?_append_right
def Xo:=@Array.getElem_mem
def Xp:=@PySem.Heap.get?_update_self
def Xq:=@PySem.Obj.data_mapFields
def Xr:=@Nat.lt_or_ge
def Xs:=@List.drop_eq_getElem_cons
def Xt:=@Ne.symm
def Xu:=@Nat.le_trans
def Xv:=@Nat.lt_irrefl
def Xw:=@List.all_eq_true
def Xx:=@List.mem_filter
def Xy:=@PyProof.Rows.slot_tuple_getitem
def Xz:=@Int.toNat_natCast
def XA:=@Array.toList_reverse
def XB:=@Bool.false_eq_true
def XC:=@List.mem_flatMap
def XD:=@List.ext_getElem?
def XE:=@List.mem_of_getElem?
def XF:=@Nat.zero_le
def XG:=@List.pairwise_cons
def XH:=@Int.emod_lt_of_pos
def XI:=@PySem.F.plain_min_loop
def XJ:=@List.nil_append
def XM:=@PySem.wpAny_ite_split
def XN:=@Int.emod_nonneg
def XO:=@List.length_take
def XQ:=@List.mem_reverse
def XR:=@List.take_sublist
def XS:=@List.drop_sublist
def XT:=@List.nodup_append
def XU:=@PySem.F.slot_dict_keyiterator_next
def XW:=@PySem.Heap.size_push
def XX:=@PySem.wpAny_setField
def XY:=@PyProof.Rows.callWith_type1
def XZ:=@List.length_nil
def X0:=@List.getElem_mem
def X1:=@Option.bind_some
def X2:=@PySem.wpAny_mono
def X3:=@PySem.wpAny_truthy_bool
def X4:=@List.getElem?_range
def X5:=@List.pairwise_iff_getElem
def X6:=@PySem.wpAny_loadPart'
def X7:=@PySem.Obj.isFreed_of_fields
def X8:=@PySem.codeAny_builtin
def X9:=@PySem.wpAny_typeNameOfWhole_keyiter
def X_:=@List.filter_cons
def X':=@Array.toList_extract
def Ya:=@Array.mem_toList_iff
def Yb:=@List.mem_of_mem_take
def Yc:=@Nat.zero_add
def Yd:=@Nat.lt_succ_of_lt
def Ye:=@Array.toList_push
def Yf:=@List.length_range
def Yg:=@PySem.wpAny_field
def Yh:=@PySem.F.slot_tuple_iterator_next
def Yi:=@Nat.lt_succ_self
def Yj:=@List.Perm.append_left
def Yk:=@PySem.Calls.call_function_entry
def Yl:=@PySem.Around.under_plainId
def Ym:=@List.mem_of_mem_drop
def Yn:=@List.range_eq_range'
def Yo:=@PySem.wpAny_passesOwn
def Yp:=@List.forIn_cons
def Yq:=@PySem.wpAny_pyIter_list
def Yr:=@List.find?_cons
def Ys:=@PySem.wpAny_typeNameOf_keyiter
def Yt:=@List.set_eq_of_length_le
def Yu:=@PySem.wpAny_attempt
def Yv:=@List.getElem_of_mem
def Yw:=@List.all_cons
def Yx:=@List.filter_sublist
def Yy:=@PySem.F.plainAttrs_list
def Yz:=@List.length_drop
def YA:=@PySem.wpAny_rule
def YB:=@PySem.Calls.callWith_builtin
def YC:=@PySem.wpAny_pyIter_tuple
def YD:=@List.length_replicate
def YE:=@List.take_append_drop
def YF:=@List.pairwise_reverse
def YG:=@Nat.not_lt_zero
def YH:=@PySem.F.called_set
def YI:=@List.dropLast_eq_take
def YJ:=@PySem.Paired.length
def YK:=@PySem.Obj.cls_mapFields
def YL:=@Array.toList_setIfInBounds
def YM:=@PySem.Around.under_plainId
def YN:=@List.perm_ext_iff_of_nodup
def YO:=@Classical.byContradiction
def YQ:=@List.drop_zero
def YR:=@PySem.wpAny_fieldsOf
def YS:=@List.lookup_cons
def YT:=@List.range'_succ
def YU:=@Array.toList_map
def YV:=@PySem.wpAny_askSetting
def YW:=@List.map_congr_left
def YX:=@Nat.lt_trans
def YY:=@PySem.wpAny_Call_Name_kw
def YZ:=@Option.map_some
def Y0:=@List.getElem?_take
def Y1:=@List.pairwise_singleton
def Y2:=@List.length_zip
def Y3:=@PyProof.Rows.F.plain_set_update_loop
def Y4:=@Option.map_eq_some_iff
def Y5:=@Array.getElem?_eq_none
def Y6:=@Classical.epsilon_spec
def Y7:=@PySem.F.entry_min_loop
def Y8:=@List.pairwise_lt_range
def Y9:=@PySem.wpAny_pyIter_slot
def Y_:=@Array.toList_eraseIdxIfInBounds
def Y':=@PySem.wpAny_setState_of
def Za:=@Bool.not_eq_true'
def Zb:=@List.flatMap_cons
def Zc:=@PySem.wpAny_seqItems
def Zd:=@PySem.codeAny_mono
def Ze:=@PySem.F.args_dict_keyiterator_next_1
def Zf:=@PySem.wpAny_isOneOf_keyiter
def Zg:=@List.eq_nil_or_concat
def Zh:=@List.concat_eq_append
def Zi:=@List.getElem?_replicate_of_lt
def Zj:=@PySem.F.entry_dict_keyiterator_next
def Zk:=@PySem.wpAny_isInstance
def Zl:=@List.not_mem_nil
def Zm:=@PySem.F.args_object_init_2
def Zn:=@PySem.F.args_tuple_iterator_next_1
def Zo:=@PySem.wpAny_newList
def Zp:=@List.filterMap_cons
def Zq:=@List.of_mem_zip
def Zr:=@PySem.F.entry_tuple_iterator_next
def Zt:=@PySem.wpAny_of_eq
def Zu:=@PySem.wpAny_specialOf
def Zv:=@Array.Perm.refl
def Zw:=@PySem.wpAny_setEntries_of
def Zx:=@PySem.Calls.Name_function_global
def Zy:=@Array.perm_iff_toList_perm
def Zz:=@List.length_eraseIdx_of_lt
def ZA:=@Array.getElem?_eq_some_iff
def ZC:=@Nat.le_of_lt
def ZD:=@List.zip_cons_cons
def ZF:=@PySem.wpAny_typeOf
def ZG:=@List.map_nil
def ZH:=@List.lookup_append
def ZI:=@Nat.min_self
def ZJ:=@List.drop_drop
def ZK:=@List.mem_take_iff_getElem
def ZL:=@List.mem_drop_iff_getElem
def ZM:=@PySem.wpAny_tryCatch
def ZN:=@List.getLast?_eq_getElem?
def ZO:=@PySem.wpAny_comprehension_free
def ZP:=@PySem.wpAny_pyIter_enum
def ZQ:=@PySem.F.slot_tuple_index
def ZR:=@Option.isSome_map
def ZS:=@List.reverse_perm
def ZT:=@PySem.wpAny_dictEntries
def ZU:=@PySem.F.slot_dict_values
def ZV:=@PySem.F.slot_list_extend
def ZW:=@PySem.F.type_list_extend
def ZX:=@List.length_erase_of_mem
def ZY:=@Sum.inl.inj
def ZZ:=@PySem.wpAny_standAt
def Z0:=@List.getElem?_replicate
def Z1:=@PySem.wpAny_Call_method0_late
def Z2:=@PySem.wpAny_letGo
def Z3:=@PySem.wpAny_handled
def Z4:=@List.length_eq_zero_iff
def Z5:=@PySem.wpAny_eqBool_int
def Z6:=@Nat.le_of_not_lt
def Z7:=@List.map_snd_zip
def Z8:=@List.drop_length
def Z9:=@List.cons_append
def Z_:=@PySem.wpAny_pyNext_list_item
def Z':=@PySem.W.cellsFrom_some
def aaa:=@List.drop_eq_nil_of_le
def aab:=@List.reverse_singleton
def aac:=@List.filter_eq_nil_iff
def aad:=@PySem.wpAny_execs_nil
def aae:=@Nat.le_of_eq
def aaf:=@List.lookup_cons_self
def aag:=@List.perm_append_comm
def aah:=@PySem.wpAny_dictEpoch
def aai:=@Nat.min_eq_left
def aaj:=@PySem.wpAny_updateSeq
def aak:=@Bool.or_eq_true
def aal:=@List.Pairwise.sublist
def aam:=@List.length_filter_le
def aan:=@Array.toArray_toList
def aao:=@Bool.or_eq_false_iff
def aap:=@List.reverse_reverse
def aaq:=@List.take_take
def aar:=@Nat.mul_le_mul
def aas:=@PyProof.Rows.lt_int
def aat:=@PySem.evalArgs_none
def aau:=@PySem.wpAny_throw
def aav:=@List.map_id
def aaw:=@Prod.mk.inj
def aax:=@List.mem_filterMap
def aay:=@PySem.W.callWith_K
def aaz:=@Option.isSome_some
def aaA:=@List.any_cons
def aaB:=@List.getElem?_drop
def aaC:=@Array.size_extract
def aaD:=@Bool.and_self
def aaE:=@Int.natCast_nonneg
def aaF:=@PySem.Walks.list
def aaG:=@Nat.ne_of_gt
def aaH:=@Nat.add_zero
def aaI:=@Int.le_trans
def aaJ:=@Nat.le_succ
def au(h:¬p->False):p:=YO h
section
variable {q:Prop}{α β γ δ ε ζ η θ ι κ:Sort _}
def cU(x:A/\B/\C)(k:A->B->C->q):q:=k x.1 x.2.1 x.2.2
def xC(x:A/\B/\C/\D)(k:A->B->C->D->q):q:=cU x.2 (k x.1)
def Ja(x:A/\B/\C/\D/\E)(k:A->B->C->D->E->q):q:=xC x.2 (k x.1)
def rZ(x:A/\B/\C/\D/\E/\F)(k:A->B->C->D->E->F->q):q:=Ja x.2 (k x.1)
def QZ(x:A/\B/\C/\D/\E/\F/\G)(k:A->B->C->D->E->F->G->q):q:=rZ x.2 (k x.1)
def Q0(x:A/\B/\C/\D/\E/\F/\G/\H)(k:A->B->C->D->E->F->G->H->q):q:=QZ x.2 (k x.1)
def SJ(x:A/\B/\C/\D/\E/\F/\G/\H/\I)(k:A->B->C->D->E->F->G->H->I->q):q:=Q0 x.2 (k x.1)
def Nz(x:A/\B/\C/\D/\E/\F/\G/\H/\I/\J)(k:A->B->C->D->E->F->G->H->I->J->q):q:=SJ x.2 (k x.1)
variable {A B C D E F G H I J:α->Prop}
def ae(x:∃a,A a/\B a)(k:∀a,A a->B a->q):q:=x.elim λa x=>k a x.1 x.2
def bL(x:∃a,A a/\B a/\C a)(k:∀a,A a->B a->C a->q):q:=x.elim λa x=>cU x (k a)
def Bn(x:∃a,A a/\B a/\C a/\D a)(k:∀a,A a->B a->C a->D a->q):q:=x.elim λa x=>xC x (k a)
def Iy(x:∃a,A a/\B a/\C a/\D a/\E a)(k:∀a,A a->B a->C a->D a->E a->q):q:=x.elim λa x=>Ja x (k a)
def SK(x:∃a,A a/\B a/\C a/\D a/\E a/\F a)(k:∀a,A a->B a->C a->D a->E a->F a->q):q:=x.elim λa x=>rZ x (k a)
def SN(x:∃a,A a/\B a/\C a/\D a/\E a/\F a/\G a)(k:∀a,A a->B a->C a->D a->E a->F a->G a->q):q:=x.elim λa x=>QZ x (k a)
def SO(x:∃a,A a/\B a/\C a/\D a/\E a/\F a/\G a/\H a)(k:∀a,A a->B a->C a->D a->E a->F a->G a->H a->q):q:=x.elim λa x=>Q0 x (k a)
def NA(x:∃a,A a/\B a/\C a/\D a/\E a/\F a/\G a/\H a/\I a/\J a)(k:∀a,A a->B a->C a->D a->E a->F a->G a->H a->I a->J a->q):q:=x.elim λa x=>Nz x (k a)
variable {A B C D E F G H I J:α->β->Prop}
def D5(x:∃a b,A a b)(k:∀a b,A a b->q):q:=x.elim λa x=>x.elim (k a)
def ik(x:∃a b,A a b/\B a b)(k:∀a b,A a b->B a b->q):q:=x.elim λa x=>ae x (k a)
def bC(x:∃a b,A a b/\B a b/\C a b)(k:∀a b,A a b->B a b->C a b->q):q:=x.elim λa x=>bL x (k a)
def gM(x:∃a b,A a b/\B a b/\C a b/\D a b)(k:∀a b,A a b->B a b->C a b->D a b->q):q:=x.elim λa x=>Bn x (k a)
def kc(x:∃a b,A a b/\B a b/\C a b/\D a b/\E a b)(k:∀a b,A a b->B a b->C a b->D a b->E a b->q):q:=x.elim λa x=>Iy x (k a)
def NB(x:∃a b,A a b/\B a b/\C a b/\D a b/\E a b/\F a b)(k:∀a b,A a b->B a b->C a b->D a b->E a b->F a b->q):q:=x.elim λa x=>SK x (k a)
def Q2(x:∃a b,A a b/\B a b/\C a b/\D a b/\E a b/\F a b/\G a b)(k:∀a b,A a b->B a b->C a b->D a b->E a b->F a b->G a b->q):q:=x.elim λa x=>SN x (k a)
def SQ(x:∃a b,A a b/\B a b/\C a b/\D a b/\E a b/\F a b/\G a b/\H a b)(k:∀a b,A a b->B a b->C a b->D a b->E a b->F a b->G a b->H a b->q):q:=x.elim λa x=>SO x (k a)
def NC(x:∃a b,A a b/\B a b/\C a b/\D a b/\E a b/\F a b/\G a b/\H a b/\I a b/\J a b)(k:∀a b,A a b->B a b->C a b->D a b->E a b->F a b->G a b->H a b->I a b->J a b->q):q:=x.elim λa x=>NA x (k a)
variable {A B C D E F G H I J:α->β->γ->Prop}
def MC(x:∃a b c,A a b c)(k:∀a b c,A a b c->q):q:=x.elim λa x=>D5 x (k a)
def r0(x:∃a b c,A a b c/\B a b c)(k:∀a b c,A a b c->B a b c->q):q:=x.elim λa x=>ik x (k a)
def c7(x:∃a b c,A a b c/\B a b c/\C a b c)(k:∀a b c,A a b c->B a b c->C a b c->q):q:=x.elim λa x=>bC x (k a)
def MD(x:∃a b c,A a b c/\B a b c/\C a b c/\D a b c)(k:∀a b c,A a b c->B a b c->C a b c->D a b c->q):q:=x.elim λa x=>gM x (k a)
def sf(x:∃a b c,A a b c/\B a b c/\C a b c/\D a b c/\E a b c)(k:∀a b c,A a b c->B a b c->C a b c->D a b c->E a b c->q):q:=x.elim λa x=>kc x (k a)
def Jb(x:∃a b c,A a b c/\B a b c/\C a b c/\D a b c/\E a b c/\F a b c)(k:∀a b c,A a b c->B a b c->C a b c->D a b c->E a b c->F a b c->q):q:=x.elim λa x=>NB x (k a)
def SR(x:∃a b c,A a b c/\B a b c/\C a b c/\D a b c/\E a b c/\F a b c/\G a b c)(k:∀a b c,A a b c->B a b c->C a b c->D a b c->E a b c->F a b c->G a b c->q):q:=x.elim λa x=>Q2 x (k a)
def SS(x:∃a b c,A a b c/\B a b c/\C a b c/\D a b c/\E a b c/\F a b c/\G a b c/\H a b c)(k:∀a b c,A a b c->B a b c->C a b c->D a b c->E a b c->F a b c->G a b c->H a b c->q):q:=x.elim λa x=>SQ x (k a)
def ND(x:∃a b c,A a b c/\B a b c/\C a b c/\D a b c/\E a b c/\F a b c/\G a b c/\H a b c/\I a b c/\J a b c)(k:∀a b c,A a b c->B a b c->C a b c->D a b c->E a b c->F a b c->G a b c->H a b c->I a b c->J a b c->q):q:=x.elim λa x=>NC x (k a)
variable {A B C D E F G H I J:α->β->γ->δ->Prop}
def ME(x:∃a b c d,A a b c d)(k:∀a b c d,A a b c d->q):q:=x.elim λa x=>MC x (k a)
def Q3(x:∃a b c d,A a b c d/\B a b c d)(k:∀a b c d,A a b c d->B a b c d->q):q:=x.elim λa x=>r0 x (k a)
def E9(x:∃a b c d,A a b c d/\B a b c d/\C a b c d)(k:∀a b c d,A a b c d->B a b c d->C a b c d->q):q:=x.elim λa x=>c7 x (k a)
def Jc(x:∃a b c d,A a b c d/\B a b c d/\C a b c d/\D a b c d)(k:∀a b c d,A a b c d->B a b c d->C a b c d->D a b c d->q):q:=x.elim λa x=>MD x (k a)
def sh(x:∃a b c d,A a b c d/\B a b c d/\C a b c d/\D a b c d/\E a b c d)(k:∀a b c d,A a b c d->B a b c d->C a b c d->D a b c d->E a b c d->q):q:=x.elim λa x=>sf x (k a)
def D6(x:∃a b c d,A a b c d/\B a b c d/\C a b c d/\D a b c d/\E a b c d/\F a b c d)(k:∀a b c d,A a b c d->B a b c d->C a b c d->D a b c d->E a b c d->F a b c d->q):q:=x.elim λa x=>Jb x (k a)
def SU(x:∃a b c d,A a b c d/\B a b c d/\C a b c d/\D a b c d/\E a b c d/\F a b c d/\G a b c d)(k:∀a b c d,A a b c d->B a b c d->C a b c d->D a b c d->E a b c d->F a b c d->G a b c d->q):q:=x.elim λa x=>SR x (k a)
def SV(x:∃a b c d,A a b c d/\B a b c d/\C a b c d/\D a b c d/\E a b c d/\F a b c d/\G a b c d/\H a b c d)(k:∀a b c d,A a b c d->B a b c d->C a b c d->D a b c d->E a b c d->F a b c d->G a b c d->H a b c d->q):q:=x.elim λa x=>SS x (k a)
def NG(x:∃a b c d,A a b c d/\B a b c d/\C a b c d/\D a b c d/\E a b c d/\F a b c d/\G a b c d/\H a b c d/\I a b c d/\J a b c d)(k:∀a b c d,A a b c d->B a b c d->C a b c d->D a b c d->E a b c d->F a b c d->G a b c d->H a b c d->I a b c d->J a b c d->q):q:=x.elim λa x=>ND x (k a)
variable {A B C D E F G H I J:α->β->γ->δ->ε->Prop}
def SW(x:∃a b c d e,A a b c d e/\B a b c d e/\C a b c d e)(k:∀a b c d e,A a b c d e->B a b c d e->C a b c d e->q):q:=x.elim λa x=>E9 x (k a)
def NH(x:∃a b c d e,A a b c d e/\B a b c d e/\C a b c d e/\D a b c d e)(k:∀a b c d e,A a b c d e->B a b c d e->C a b c d e->D a b c d e->q):q:=x.elim λa x=>Jc x (k a)
def MF(x:∃a b c d e,A a b c d e/\B a b c d e/\C a b c d e/\D a b c d e/\E a b c d e)(k:∀a b c d e,A a b c d e->B a b c d e->C a b c d e->D a b c d e->E a b c d e->q):q:=x.elim λa x=>sh x (k a)
def Q4(x:∃a b c d e,A a b c d e/\B a b c d e/\C a b c d e/\D a b c d e/\E a b c d e/\F a b c d e)(k:∀a b c d e,A a b c d e->B a b c d e->C a b c d e->D a b c d e->E a b c d e->F a b c d e->q):q:=x.elim λa x=>D6 x (k a)
def SY(x:∃a b c d e,A a b c d e/\B a b c d e/\C a b c d e/\D a b c d e/\E a b c d e/\F a b c d e/\G a b c d e)(k:∀a b c d e,A a b c d e->B a b c d e->C a b c d e->D a b c d e->E a b c d e->F a b c d e->G a b c d e->q):q:=x.elim λa x=>SU x (k a)
def S0(x:∃a b c d e,A a b c d e/\B a b c d e/\C a b c d e/\D a b c d e/\E a b c d e/\F a b c d e/\G a b c d e/\H a b c d e)(k:∀a b c d e,A a b c d e->B a b c d e->C a b c d e->D a b c d e->E a b c d e->F a b c d e->G a b c d e->H a b c d e->q):q:=x.elim λa x=>SV x (k a)
def NI(x:∃a b c d e,A a b c d e/\B a b c d e/\C a b c d e/\D a b c d e/\E a b c d e/\F a b c d e/\G a b c d e/\H a b c d e/\I a b c d e/\J a b c d e)(k:∀a b c d e,A a b c d e->B a b c d e->C a b c d e->D a b c d e->E a b c d e->F a b c d e->G a b c d e->H a b c d e->I a b c d e->J a b c d e->q):q:=x.elim λa x=>NG x (k a)
variable {A B C D E F G H I J:α->β->γ->δ->ε->ζ->Prop}
def S1(x:∃a b c d e f,A a b c d e f/\B a b c d e f/\C a b c d e f)(k:∀a b c d e f,A a b c d e f->B a b c d e f->C a b c d e f->q):q:=x.elim λa x=>SW x (k a)
def Iz(x:∃a b c d e f,A a b c d e f/\B a b c d e f/\C a b c d e f/\D a b c d e f/\E a b c d e f)(k:∀a b c d e f,A a b c d e f->B a b c d e f->C a b c d e f->D a b c d e f->E a b c d e f->q):q:=x.elim λa x=>MF x (k a)
def S2(x:∃a b c d e f,A a b c d e f/\B a b c d e f/\C a b c d e f/\D a b c d e f/\E a b c d e f/\F a b c d e f/\G a b c d e f)(k:∀a b c d e f,A a b c d e f->B a b c d e f->C a b c d e f->D a b c d e f->E a b c d e f->F a b c d e f->G a b c d e f->q):q:=x.elim λa x=>SY x (k a)
def S3(x:∃a b c d e f,A a b c d e f/\B a b c d e f/\C a b c d e f/\D a b c d e f/\E a b c d e f/\F a b c d e f/\G a b c d e f/\H a b c d e f)(k:∀a b c d e f,A a b c d e f->B a b c d e f->C a b c d e f->D a b c d e f->E a b c d e f->F a b c d e f->G a b c d e f->H a b c d e f->q):q:=x.elim λa x=>S0 x (k a)
def Jd(x:∃a b c d e f,A a b c d e f/\B a b c d e f/\C a b c d e f/\D a b c d e f/\E a b c d e f/\F a b c d e f/\G a b c d e f/\H a b c d e f/\I a b c d e f/\J a b c d e f)(k:∀a b c d e f,A a b c d e f->B a b c d e f->C a b c d e f->D a b c d e f->E a b c d e f->F a b c d e f->G a b c d e f->H a b c d e f->I a b c d e f->J a b c d e f->q):q:=x.elim λa x=>NI x (k a)
variable {A B C D E F G H I J:α->β->γ->δ->ε->ζ->η->Prop}
def S4(x:∃a b c d e f g,A a b c d e f g/\B a b c d e f g/\C a b c d e f g)(k:∀a b c d e f g,A a b c d e f g->B a b c d e f g->C a b c d e f g->q):q:=x.elim λa x=>S1 x (k a)
def Q5(x:∃a b c d e f g,A a b c d e f g/\B a b c d e f g/\C a b c d e f g/\D a b c d e f g/\E a b c d e f g/\F a b c d e f g/\G a b c d e f g)(k:∀a b c d e f g,A a b c d e f g->B a b c d e f g->C a b c d e f g->D a b c d e f g->E a b c d e f g->F a b c d e f g->G a b c d e f g->q):q:=x.elim λa x=>S2 x (k a)
def S5(x:∃a b c d e f g,A a b c d e f g/\B a b c d e f g/\C a b c d e f g/\D a b c d e f g/\E a b c d e f g/\F a b c d e f g/\G a b c d e f g/\H a b c d e f g)(k:∀a b c d e f g,A a b c d e f g->B a b c d e f g->C a b c d e f g->D a b c d e f g->E a b c d e f g->F a b c d e f g->G a b c d e f g->H a b c d e f g->q):q:=x.elim λa x=>S3 x (k a)
variable {A B C D E F G H I J:α->β->γ->δ->ε->ζ->η->θ->Prop}
def nE(x:∃a b c d e f g h,A a b c d e f g h/\B a b c d e f g h/\C a b c d e f g h)(k:∀a b c d e f g h,A a b c d e f g h->B a b c d e f g h->C a b c d e f g h->q):q:=x.elim λa x=>S4 x (k a)
variable {A B C D E F G H I J:α->β->γ->δ->ε->ζ->η->θ->ι->Prop}
def Q6(x:∃a b c d e f g h i,A a b c d e f g h i/\B a b c d e f g h i/\C a b c d e f g h i)(k:∀a b c d e f g h i,A a b c d e f g h i->B a b c d e f g h i->C a b c d e f g h i->q):q:=x.elim λa x=>nE x (k a)
end
set_option bootstrap.genMatcherCode false
set_option genSizeOf false
set_option compiler.extract_closed false
set_option Elab.async false
set_option maxRecDepth 100000
namespace L2
open PySem PySem.Spec PyProof.Rows
abbrev cL:=Sum Int Str
noncomputable def k_:cL->Value->Bool
 | .inl k,v=>Value.isInt k v
 | .inr x,v=>Value.isStrOf x v
noncomputable def NJ(w:World):cL->Int
 | .inl k=>hashInt k
 | .inr x=>hashStr w x
def bh:∀{k:cL}{v:Value},k_ k v=true->(∃i t,k=Sum.inl i/\v=Value.int i t)\/(∃x t,k=Sum.inr x/\v=Value.str x t)
 | .inl i,v,h=>by
  obtain⟨t,e⟩:=Value.isInt_shape (k:=i) (v:=v) h
  exact .inl ⟨i,t,rfl,e⟩
 | .inr x,v,h=>by
  obtain⟨t,e⟩:=Value.isStrOf_shape (x:=x) (v:=v) h
  exact .inr ⟨x,t,rfl,e⟩
def vU(i:Int)(t:Tok):k_ (.inl i) (.int i t)=true:=by simp[k_,Value.isInt]
def vV(x:Str)(t:Tok):k_ (.inr x) (.str x t)=true:=by simp[k_,Value.isStrOf]
def E_(a b:Int):decide ((Sum.inl a:cL)=Sum.inl b)=(a==b):=by
 by_cases e:a=b
 .subst e;simp
 .have h:¬(Sum.inl a:cL)=Sum.inl b:=λq=>e (ZY q)
  rw[decide_eq_false h]
  exact(beq_eq_false_iff_ne.mpr e).symm
def Fb(a b:Str):decide ((Sum.inr a:cL)=Sum.inr b)=decide (a=b):=by
 by_cases e:a=b
 .subst e;simp
 .have h:¬(Sum.inr a:cL)=Sum.inr b:=λq=>e (Sum.inr.inj q)
  rw[decide_eq_false h,decide_eq_false e]
def Fc(a:Int)(b:Str):decide ((Sum.inl a:cL)=Sum.inr b)=false:=decide_eq_false (λq=>nomatch q)
def Fe(a:Str)(b:Int):decide ((Sum.inr a:cL)=Sum.inl b)=false:=decide_eq_false (λq=>nomatch q)
noncomputable def bg(prog:Program)(w:World):PySem.KeyKind prog w cL where
 is:=k_
 hash:=NJ w
 inj:=λv a b ha hb=>by
  rcases bh ha with⟨i,t,rfl,rfl⟩|⟨x,t,rfl,rfl⟩
  .rcases bh hb with⟨j,u,rfl,e⟩|⟨y,u,rfl,e⟩
   .injection e with e1 _;rw[e1]
   .exact nomatch e
  .rcases bh hb with⟨j,u,rfl,e⟩|⟨y,u,rfl,e⟩
   .exact nomatch e
   .injection e with e1 _;rw[e1]
 byValue:=λk v h=>by
  rcases bh h with⟨i,t,rfl,rfl⟩|⟨x,t,rfl,rfl⟩<;>rfl
 pyHash:=λhv h=>by
  rcases bh hv with⟨i,t,rfl,rfl⟩|⟨x,t,rfl,rfl⟩
  .exact wpAny_pyHash_int h
  .exact wpAny_pyHash_str h
 eqBool:=λhu hv h=>by
  rcases bh hu with⟨i,t,rfl,rfl⟩|⟨x,t,rfl,rfl⟩
  .rcases bh hv with⟨j,u,rfl,rfl⟩|⟨y,u,rfl,rfl⟩
   .rw[E_]at h;exact Z5 h
   .rw[Fc]at h;exact SeqAt.EqAt.int_str i t y u _ _ _ _ h
  .rcases bh hv with⟨j,u,rfl,rfl⟩|⟨y,u,rfl,rfl⟩
   .rw[Fe]at h;exact SeqAt.EqAt.str_int x t j u _ _ _ _ h
   .rw[Fb]at h;exact wpAny_eqBool_str h
 «strs»:=λk x t v h=>by
  rcases bh h with⟨i,u,rfl,e⟩|⟨y,u,rfl,e⟩
  .exact nomatch e
  .injection e with e1 _
   subst e1
   cases v<;>rfl
def qd(prog:Program)(w:World)(i:Int)(t:Tok):(bg prog w).is (.inl i) (.int i t)=true:=vU i t
def qf(prog:Program)(w:World)(x:Str)(t:Tok):(bg prog w).is (.inr x) (.str x t)=true:=vV x t
inductive V where
 |fC|bl (b:Bool)|int (i:Int)|str (x:Str)|Je (b:Array UInt8)|NK (b:UInt64)|ref (a:Addr)|ty (n:String)
 deriving DecidableEq
def RelV:V->Value->Prop
 | .fC,u=>u=Value.none
 | .bl b,u=>u=Value.bool b
 | .int i,u=>∃t,u=Value.int i t
 | .str x,u=>∃t,u=Value.str x t
 | .Je b,u=>∃t,u=Value.bytes b t
 | .NK b,u=>∃t,u=Value.float b t
 | .ref a,u=>u=Value.ref a
 | .ty n,u=>u=Value.type n
abbrev aD:List V->List Value->Prop:=Paired RelV
theorem aD.length(r:aD xs us):xs.length=us.length:=YJ r
theorem aD.get:∀{xs:List V}{us:List Value}{i:Nat}{x:V},aD xs us->xs[i]?=some x->∃u,us[i]?=some u/\RelV x u
 |_,_,_,_,.nil,e=>by simp at e
 |_,_,0,_,.cons r _,e=>by simp at e;subst e;exact⟨_,rfl,r⟩
 |_,_,i+1,x,.cons _ t,e=>by
  exact ae (aD.get (i:=i) (x:=x) t (by simpa using e)) λu h1 h2=>⟨u,by simpa using h1,h2⟩
theorem aD.set(r:RelV x u):∀{xs:List V}{us:List Value} (i:Nat),aD xs us->aD (xs.set i x) (us.set i u)
 |_,_,_,.nil => .nil
 |_,_,0,.cons _ t=> .cons r t
 |_,_,i+1,.cons q t=> .cons q (aD.set r i t)
def aD.append:∀{xs ys:List V}{us ws:List Value},aD xs us->aD ys ws->aD (xs++ys) (us++ws):=λ{xs ys us ws} h s=>by
 induction h with
 |nil=>exact s
 |cons r t ih=>exact .cons r ih
theorem aD.take:∀{xs:List V}{us:List Value} (n:Nat),aD xs us->aD (xs.take n) (us.take n)
 |_,_,0,_=> .nil
 |_,_,_+1,.nil => .nil
 |_,_,n+1,.cons r t=> .cons r (aD.take n t)
theorem aD.drop:∀{xs:List V}{us:List Value} (n:Nat),aD xs us->aD (xs.drop n) (us.drop n)
 |_,_,0,r=>r
 |_,_,_+1,.nil => .nil
 |_,_,n+1,.cons _ t=>aD.drop n t
def mV:Option V->Option Value->Prop
 |some v,some u=>RelV v u
 |none,none=>True
 |_,_=>False
def KV{κ:Type}:List (κ×V)->List (κ×Value)->Prop:=Paired λ(p:κ×V) (q:κ×Value)=>p.1=q.1/\RelV p.2 q.2
noncomputable def kV:cL->V
 | .inl i=> .int i
 | .inr x=> .str x
inductive HO where
  |lst (xs:List V)
  |tup (xs:List V)
  |dK (aw:List (cL×V))|dT (aw:List (List cL×V))
  |set (S:Int->Bool) (n:Nat)
  |ins (C dx:Addr) (fs:List (Str×V))
  |own (x:Addr)
  |xd (fs:List (Str×V))
  |met (f x:Addr)
  |c8 (lo hi:Int)
  |dn (o:Obj) (u:HO)
  |Ff (ps:Array Value)
  |ext (φ:Heap->Prop)
abbrev Hp:=Addr->Option HO
noncomputable def upd(H:Hp)(a:Addr)(o:HO):Hp:=λb=>if b=a then some o else H b
def ag:upd H a o a=some o:=by unfold upd;rw[WO rfl]
def ao(h:b≠a):upd H a o b=H b:=by unfold upd;rw[WV h]
def fR{H:Hp}{a b:Addr}{o u:HO}(h:H a=some o)(h':H b=some u)(d:o≠u):a≠b:=by
 intro e;subst e;rw[h]at h';exact d (WU h')
def b6{H:Hp}{a b:Addr}{o:HO}(h:H a=some o)(h':H b=none):a≠b:=by
 intro e;subst e;rw[h]at h';cases h'
def jD(h:Heap)(a:Addr)(items:Array Value):Prop:=∃o,h.get? a=some o/\o.cls= .type "tuple"/\(∃n,o.data= .seq items n)/\o.dict=none
def jD.tup{h:Heap}{a:Addr}{items:Array Value}(x:jD h a items):IsTup h a items:=let ⟨o,e,c,d,_⟩:=x;⟨o,e,c,d⟩
def jD.lt{h:Heap}{a:Addr}{items:Array Value}(x:jD h a items):a<h.objs.size:=let ⟨_,ho,_⟩:=x;WH ho
def jD.new(h:Heap)(items:Array Value):jD (h.push {cls:= .type "tuple",data:= .seq items}) h.objs.size items:=⟨_,WB _ rfl,rfl,⟨_,rfl⟩,rfl⟩
section
variable (P:Program)(w:World)
def aQ(H:Hp)(h:Heap)(a:Addr):HO->Prop
 | .lst xs=>xs.length<=sizeLine/\∃(its:List Value) (n:Nat),aD xs its/\h.get? a=some {cls:= .type "list",data:= .seq its.toArray n}
 | .tup xs=>xs.length<=sizeLine/\∃its:List Value,aD xs its/\jD h a its.toArray
 | .dK aw=>aw.length<=sizeLine/\(a==sysModules)=false/\∃vs,KV aw vs/\h.DictOf (bg P w) a vs
 | .dT aw=>aw.length<=sizeLine/\(a==sysModules)=false/\∃xs:List (List cL×Addr×Value),
   Paired (λ(p:List cL×V) (q:List cL×Addr×Value)=>p.1=q.1/\H q.2.1=some (.tup (p.1.map kV))/\RelV p.2 q.2.2) aw xs/\
   ∃o es ep,h.get? a=some o/\o.ExactDict/\o.data= .dict es ep/\es.toList=xs.map (entryOfKey (tupleKind (bg P w)))/\(xs.map (·.1)).Nodup
 | .set S n=>h.SetOf (intKind P w) a S n
 | .ins C dx fs=>H dx=some (.own a)/\fs.length<=1000/\dx≠a/\h.get? a=some (PySem.W.instObj C dx)/\
   ∃mA,h.Ns1 dx mA/\(∀f,mV (fs.lookup f) (mA f))/\PySem.Within mA (fs.map (·.1))
 | .own _=>∃o,h.get? a=some o
 | .xd fs=>∃mA,h.Ns1 a mA/\∀f,mV (fs.lookup f) (mA f)
 | .c8 lo hi=>∃t u v,h.get? a=some {cls:= .type "range",data:= .fields #[.int lo t,.int hi u,.int 1 v]}
 | .dn o u=>h.get? a=some o/\aQ H h a u
 | .Ff ps=>h.get? a=some {cls:= .none,data:= .fields ps}
 | .met f x=>h.get? a=some (PySem.W.methodObj (.ref f) (.ref x))
 | .ext φ=>φ h/\(∃o,h.get? a=some o)/\∀h1 h2:Heap,φ h1->(∀o,h1.get? a=some o->h2.get? a=some o)->φ h2
def iB(H:Hp)(h:Heap):Prop:=∀a o,H a=some o->aQ P w H h a o
end
section
variable {P:Program}{w:World}{H H':Hp}{h h':Heap}{a:Addr}{o:HO}
theorem aQ.lt(x:aQ P w H h a o):a<h.objs.size:=by
 cases o with
 |lst xs=>obtain⟨_,_,_,_,e⟩:=x;exact WH e
 |tup xs=>obtain⟨_,_,_,p⟩:=x;exact p.lt
 |dK aw=>obtain⟨_,_,_,_,o,_,_,e,_⟩:=x;exact WH e
 |dT aw=>obtain⟨_,_,_,_,o,_,_,e,_⟩:=x;exact WH e
 |set S n=>obtain⟨o,_,_,_,e,_⟩:=x;exact WH e
 |ins C dx fs=>obtain⟨_,_,_,e,_⟩:=x;exact WH e
 |own y=>obtain⟨_,e⟩:=x;exact WH e
 |xd fs=>obtain⟨_,⟨_,_,_,e,_⟩,_⟩:=x;exact WH e
 |c8 lo hi=>obtain⟨_,_,_,e⟩:=x;exact WH e
 |dn ob u=>obtain⟨e,_⟩:=x;exact WH e
 |Ff ps=>exact WH (show h.get? a=some _ from x)
 |met f y=>exact WH (show h.get? a=some _ from x)
 |ext φ=>obtain⟨_,⟨_,e⟩,_⟩:=x;exact WH e
def Paired.Jf:∀{l₁:List α}{Fg:List β},Paired F l₁ Fg->(∀a b,F a b->G a b)->Paired G l₁ Fg:=λ{l₁ Fg} h f=>by
 induction h with
 |nil=>exact .nil
 |cons r t ih=>exact .cons (f _ _ r) ih
def aQ.mW(x:aQ P w H h a o)(k:∀b u,(b=a\/H b=some (.own a))->h.get? b=some u->h'.get? b=some u)
  (ho:∀b,H b=some (.own a)->H' b=some (.own a)) (ht:∀b xs,H b=some (.tup xs)->H' b=some (.tup xs)):aQ P w H' h' a o:=by
 induction o with
 |lst xs=>obtain⟨z,its,n,r,e⟩:=x;exact⟨z,its,n,r,k _ _ (.inl rfl) e⟩
 |tup xs=>obtain⟨z,its,r,ob,e,c⟩:=x;exact⟨z,its,r,ob,k _ _ (.inl rfl) e,c⟩
 |dK aw=>obtain⟨z,y,vs,r,ob,es,ep,e,c⟩:=x;exact⟨z,y,vs,r,ob,es,ep,k _ _ (.inl rfl) e,c⟩
 |dT aw=>
  obtain⟨z,y,xs,r,ob,es,ep,e,c⟩:=x
  exact⟨z,y,xs,Paired.Jf r λp q z=>⟨z.1,ht _ _ z.2.1,z.2.2⟩,ob,es,ep,k _ _ (.inl rfl) e,c⟩
 |set S n=>obtain⟨ob,es,ep,t,e,c⟩:=x;exact⟨ob,es,ep,t,k _ _ (.inl rfl) e,c⟩
 |ins C dx fs=>
  obtain⟨d,z,ne,e,mA,⟨od,es,ep,e2,c⟩,r⟩:=x
  exact⟨ho _ d,z,ne,k _ _ (.inl rfl) e,mA,⟨od,es,ep,k _ _ (.inr d) e2,c⟩,r⟩
 |own y=>obtain⟨ob,e⟩:=x;exact⟨ob,k _ _ (.inl rfl) e⟩
 |xd fs=>obtain⟨mA,⟨od,es,ep,e,c⟩,r⟩:=x;exact⟨mA,⟨od,es,ep,k _ _ (.inl rfl) e,c⟩,r⟩
 |c8 lo hi=>obtain⟨t,u,v,e⟩:=x;exact⟨t,u,v,k _ _ (.inl rfl) e⟩
 |dn ob u ih=>obtain⟨e,q⟩:=x;exact⟨k _ _ (.inl rfl) e,ih q⟩
 |Ff ps=>
  have e:h.get? a=some {cls:= .none,data:= .fields ps}:=x
  show h'.get? a=some {cls:= .none,data:= .fields ps}
  exact k a _ (.inl rfl) e
 |met f y=>
  have e:h.get? a=some (PySem.W.methodObj (.ref f) (.ref y)):=x
  show h'.get? a=some (PySem.W.methodObj (.ref f) (.ref y))
  exact k a _ (.inl rfl) e
 |ext φ=>obtain⟨p,⟨o,e⟩,st⟩:=x;exact⟨st _ _ p λo q=>k _ _ (.inl rfl) q,⟨o,k _ _ (.inl rfl) e⟩,st⟩
theorem iB.lt(x:iB P w H h)(e:H a=some o):a<h.objs.size:=(x a o e).lt
def iB.fresh(x:iB P w H h)(e:h.objs.size<=a):H a=none:=by
 cases q:H a with
 |none=>rfl
 |some u=>exact absurd (Xa (x.lt q) e) (Xv _)
def iB.kept(x:iB P w H h)(k:∀b u,h.get? b=some u->h'.get? b=some u):iB P w H h':=λa o e=>
 (x a o e).mW (λb u _ q=>k b u q) (λ_ q=>q) λ_ _ q=>q
def iB.laid(x:iB P w H h)(k:∀b u,h.get? b=some u->h'.get? b=some u)(hp:h.objs.size<=a)(new:aQ P w (upd H a o) h' a o):iB P w (upd H a o) h':=λb u e=>by
 have hn:=x.fresh hp
 by_cases hb:b=a
 .subst hb;rw[ag]at e;cases e;exact new
 .rw[ao hb]at e
  exact(x b u e).mW (λc v _ q=>k c v q) (λc q=>by rw[ao (b6 q hn)];exact q) λc xs q=>by rw[ao (b6 q hn)];exact q
end
def Rd(H:Hp)(a:Addr)(u:HO):Prop:=H a=some u\/∃o,H a=some (.dn o u)
def Rd.ok(r:Rd H a u)(x:iB P w H h):aQ P w H h a u:=by
 rcases r with r|⟨o,r⟩
 .exact x a u r
 .obtain⟨_,q⟩:=x a _ r
  exact q
def xN:Option HO->Prop
 |some (.lst _)=>True
 |some (.dK _)=>True
 |some (.dT _)=>True
 |some (.set _ _)=>True
 |some (.ins _ _ _)=>True
 |some (.ext _)=>True
 |_=>False
section
variable {P:Program}{w:World}{H:Hp}{h h':Heap}{x e:Addr}{o':HO}
def iB.write(ok:iB P w H h)(mu:xN (H x))(he:e=x\/H e=some (.own x))(k:∀b u,b≠e->h.get? b=some u->h'.get? b=some u)(D7:∃u,h'.get? e=some u)
  (new:aQ P w (upd H x o') h' x o'):iB P w (upd H x o') h':=λb u q=>by
 have Jg:∀c y,H c=some (.own y)->c≠x:=λc y r z=>by subst z;rw[r]at mu;exact mu
 have NL:∀c xs,H c=some (.tup xs)->c≠x:=λc xs r z=>by subst z;rw[r]at mu;exact mu
 by_cases hb:b=x
 .subst hb;rw[ag]at q;cases q;exact new
 .rw[ao hb]at q
  by_cases Bc:b=e
  .have q':H b=some (.own x):=by
    rcases he with z|z
    .exact absurd (Bc.trans z) hb
    .rw[Bc];exact z
   rw[q]at q';cases q'
   obtain⟨v,hv⟩:=D7
   exact⟨v,by rw[Bc];exact hv⟩
  .refine(ok b u q).mW (λc v hc r=>k c v ?_ r) (λc r=>by rw[ao (Jg c b r)];exact r) λc xs r=>by rw[ao (NL c xs r)];exact r
   rcases hc with rfl|hc
   .exact Bc
   .rintro rfl
    rcases he with z|z
    .exact Jg c b hc z
    .rw[hc]at z;cases z;exact hb rfl
end
structure Un(fs ex:List Addr)(H H':Hp)(h h':Heap):Prop where
 keep:∀b o,h.get? b=some o->H b=none->b∉fs->b∉ex->h'.get? b=some o
 slot:∀b o,h.get? b=some o->H b=none->b∈fs->b∉ex->∃sl,h'.get? b=some {o with slots:=sl}
 free:∀b o,h.get? b=some o->H b=none->b∉ex->H' b=none
 there:∀b o,h.get? b=some o->b∉ex->∃o',h'.get? b=some o'
 oH:∀b xs,H b=some (.tup xs)->H' b=some (.tup xs)
 iC:∀b o u,H b=some (.dn o u)->H' b=some (.dn o u)
 oJ:∀b ps,H b=some (.Ff ps)->∃more,H' b=some (.Ff (ps++more))
section
variable {fs S6 ex VY:List Addr}{H H1 H2:Hp}{h h1 h2 h':Heap}{a x e:Addr}{o:HO}
def Un.any(u:Un fs ex H H1 h h1)(q:h.get? b=some ob)(n:H b=none)(hx:b∉ex):∃sl,h1.get? b=some {ob with slots:=sl}:=by
 by_cases hb:b∈fs
 .exact u.slot b ob q n hb hx
 .exact⟨ob.slots,u.keep b ob q n hb hx⟩
def Un.kept(k:∀b u,h.get? b=some u->h'.get? b=some u):Un fs ex H H h h':=
 ⟨λb ob q _ _ _=>k b ob q,λb ob q _ _ _=>⟨ob.slots,k b ob q⟩,λ_ _ _ n _=>n,λb ob q _=>⟨ob,k b ob q⟩,λ_ _ q=>q,λ_ _ _ q=>q,λ_ ps q=>⟨#[],by rw[q];simp⟩⟩
def Un.refl:Un fs ex H H h h:=Un.kept λ_ _ q=>q
def Un.laid(k:∀b u,h.get? b=some u->h'.get? b=some u)(hp:h.objs.size<=a)(hn:H a=none):Un fs ex H (upd H a o) h h' where
 keep:=λb u q _ _ _=>k b u q
 slot:=λb u q _ _ _=>⟨u.slots,k b u q⟩
 free:=λb u q n _=>by rw[ao (W2 (Xa (WH q) hp))];exact n
 there:=λb u q _=>⟨u,k b u q⟩
 oH:=λb xs q=>by rw[ao (b6 q hn)];exact q
 iC:=λb u xs q=>by rw[ao (b6 q hn)];exact q
 oJ:=λb ps q=>⟨#[],by rw[ao (b6 q hn),q];simp⟩
def Un.write(mu:xN (H x))(he:e=x\/H e=some (.own x))(k:∀b u,b≠e->h.get? b=some u->h'.get? b=some u)(D7:∃u,h'.get? e=some u):Un fs ex H (upd H x o) h h':=by
 have hx:∀b,H b=none->b≠x:=λb n z=>by subst z;rw[n]at mu;exact mu
 have hb:∀b,H b=none->b≠e:=λb n z=>by
  subst z
  rcases he with r|r
  .exact hx b n r
  .rw[n]at r;cases r
 have hm:∀b u,H b=some u->¬xN (some u)->b≠x:=λb u q nm z=>by subst z;rw[q]at mu;exact nm mu
 refine⟨λb u q n _ _=>k b u (hb b n) q,λb u q n _ _=>⟨u.slots,k b u (hb b n) q⟩,λb u q n _=>by rw[ao (hx b n)];exact n,λb u q _=>?_,
  λb xs q=>by rw[ao (hm b _ q λz=>z)];exact q,λb u xs q=>by rw[ao (hm b _ q λz=>z)];exact q,λb ps q=>⟨#[],by rw[ao (hm b _ q λz=>z),q];simp⟩⟩
 by_cases Bc:b=e
 .subst Bc;exact D7
 .exact⟨u,k b u Bc q⟩
end
noncomputable def MG(h:Heap)(H:Hp):List Addr:=(List.range h.objs.size).filter λa=>(H a).isSome
noncomputable def oK(h:Heap)(H:Hp):Heap:=PySem.W.hideAll h (MG h H)
def vW(h:Heap)(H:Hp):(oK h H).objs.size =h.objs.size:=PySem.W.hideAll_size _ _
def xO(e:h.get? b=some o)(n:H b=none):(oK h H).get? b=some o:=
 PySem.W.hideAll_get _ e λhm=>by
  have q:(H b).isSome =true:=(Xx.mp hm).2
  rw[n]at q;simp at q
def Bo(e:(oK h H).get? b=some o):h.get? b=some o/\H b=none:=by
 have e':h.get? b=some o:=PySem.W.of_hideAll (MG h H) e
 refine⟨e',?_⟩
 cases q:H b with
 |none=>rfl
 |some x=>
  have hm:b∈MG h H:=Xx.mpr ⟨W7.mpr (WH e'),by simp[q]⟩
  have z:(oK h H).get? b=none:=PySem.W.hideAll_none (MG h H) hm
  rw[z]at e;cases e
structure Mod(K:PySem.W.Frag)(mg:Str->Option Value)(base:Heap):Prop where
 MH:K.In base
 glob:base.Ns mainGlobals mg
 blt:∃mb,base.Ns builtinsNs mb/\∀x:Str,x≠"__name__"->mb x=bootBuiltins x
 nolimit:base.NoLimit
structure Cx where
 prog:Program
 w:World
 K:PySem.W.Frag
 mg:Str->Option Value
 base:Heap
 A:Around
 N:List Str
 s₀:Shared
 H₀:Hp
 env:Env
 outer:List Env
 stack:List Env
 ex:List Addr
 fn:Str->Bool
 calm:Bool
 pn:List (Addr×Obj)
 xe:Value->Shared->Prop
noncomputable def xP(l:List Env):List Addr:=l.filterMap (·.frame)
noncomputable abbrev Cx.fs(X:Cx):List Addr:=xP X.outer
def vX(sc:Scope)(x:Str):Prop:=sc.names.lookup x=some .local \/sc.names.lookup x=some .cell \/sc.names.lookup x=some .free
def Loc(sc:Scope)(x:Str):Prop:=sc.names.lookup x=some .local \/sc.names.lookup x=some .cell
def Look(env:Env)(h:Heap)(m:Str->Option Value)(x:Str)(u:Value):Prop:=
 (env.kindOf x=some .local /\m x=some u)\/((env.kindOf x=some .cell \/env.kindOf x=some .free)/\∃c,env.cells.lookup x=some c/\h.IsCell c (some u))
structure Cx.Ok(X:Cx):Prop where
 mod:Mod X.K X.mg X.base
 kind:X.env.scope.kind= .function
 glob:X.env.globals=mainGlobals
 blt:X.env.builtins=builtinsNs
 above:X.s₀.heap.objs.size<=X.env.locals
 inj:∀x y c,X.env.cells.lookup x=some c->X.env.cells.lookup y=some c->x=y
 has:∀x,(X.env.kindOf x=some .cell \/X.env.kindOf x=some .free)->∃c,X.env.cells.lookup x=some c
 Jh:∀x c,X.fn x=true->X.env.cells.lookup x=some c->X.s₀.heap.objs.size<=c
 hd:X.calm=true->X.A.handled=none
 frames:X.A.frames=some X.stack
 MI:X.stack=X.outer\/(X.stack=X.env::X.outer/\X.env.frame=some X.env.locals)
 Q7:∀b∈X.ex,b≠X.env.locals/\∀x c,X.env.cells.lookup x=some c->c≠b
 bs:∀b o,X.base.get? b=some o->X.s₀.heap.get? b=some o/\X.H₀ b=none
 xQ:X.base.objs.size<=X.s₀.heap.objs.size
 xR:∀b o,X.base.get? b=some o->b∉X.ex
 Bp:∀b∈X.ex,b∉X.fs
 lg:X.s₀.heap.FunFrames X.base X.outer
 IA:∀b∈X.fs,X.H₀ b=none
structure Inv(X:Cx)(aa:List (Addr×Obj))(σ:List (Option V))(H:Hp)(s:Shared):Prop where
 ok:X.Ok
 os:s.os=X.s₀.os
 bare:AllBare s.gens
 base:Un X.fs X.ex X.H₀ H X.s₀.heap s.heap
 loc:∃m,s.heap.Ns X.env.locals m/\∀(i:Nat) (x:Str) (v:V),X.N[i]?=some x->σ[i]?=some (some v)->vX X.env.scope x->∃u,RelV v u/\Look X.env s.heap m x u
 cell:∀x c,X.env.cells.lookup x=some c->∃v,s.heap.IsCell c v
 free:H X.env.locals=none
 fS:∀x c,X.env.cells.lookup x=some c->H c=none
 pin:∀p∈X.pn++aa,s.heap.get? p.1=some p.2/\H p.1=none/\p.1≠X.env.locals/\p.1∉X.fs/\∀v,p.2.data≠ .cell v
 aR:iB X.prog X.w H s.heap
 len:σ.length=X.N.length
section
variable {X:Cx}{aa:List (Addr×Obj)}{σ:List (Option V)}{H H':Hp}{s:Shared}{h':Heap}
def Cx.Ok.NM(ok:X.Ok)(e:X.base.get? b=some o):b∉X.fs:=λhb=>by
 have:=(ok.lg.mem hb).1
 rw[e]at this;cases this
theorem Inv.bs(I:Inv X aa σ H s):∀b o,X.base.get? b=some o->s.heap.get? b=some o/\H b=none:=λb o e=>
 ⟨I.base.keep b o (I.ok.bs b o e).1 (I.ok.bs b o e).2 (I.ok.NM e) (I.ok.xR b o e),I.base.free b o (I.ok.bs b o e).1 (I.ok.bs b o e).2 (I.ok.xR b o e)⟩
def Inv.bk(I:Inv X aa σ H s):∀b o,X.base.get? b=some o->s.heap.get? b=some o:=λb o e=>(I.bs b o e).1
theorem Inv.mod(I:Inv X aa σ H s):Mod X.K X.mg X.base:=I.ok.mod
def Inv.D8(I:Inv X aa σ H s):X.K.In s.heap:=I.ok.mod.MH.keeps I.bk
theorem Inv.lt(I:Inv X aa σ H s):X.env.locals<s.heap.objs.size:=let ⟨_,hn,_⟩:=I.loc;hn.lt
def Inv.sz(I:Inv X aa σ H s):X.s₀.heap.objs.size<=s.heap.objs.size:=Xu I.ok.above (ZC I.lt)
def Inv.NN(I:Inv X aa σ H s)(h:s.heap.objs.size<=a):a∉X.fs:=λhb=>by
 obtain⟨_,o,ho,_⟩:=I.ok.lg.mem hb
 exact absurd (Xa (WH ho) (Xu I.sz h)) (Xv _)
def Inv.Fh(I:Inv X aa σ H s):∀x c,X.env.cells.lookup x=some c->c≠X.env.locals:=λx c e z=>by
 refine ik (I.cell x c e) λv o ho hd=>?_
 obtain⟨m,⟨o',es,ep,Fi,p8,_⟩,_⟩:=I.loc
 rw[z,Fi]at ho;cases ho;rw[p8]at hd;cases hd
theorem Inv.lg(I:Inv X aa σ H s):s.heap.FunFrames X.base X.outer:=by
 have all:∀(l:List Env),(∀b∈xP l,b∈X.fs)->X.s₀.heap.FunFrames X.base l->s.heap.FunFrames X.base l:=by
  intro l
  induction l with
  |nil=>intro _ _;trivial
  |cons env r ih=>
   intro hs hl
   refine au λnO=>?_
   obtain⟨hk,⟨L,o,hf,hn,ho,hd⟩,hr⟩:=hl
   have hL:L∈X.fs:=hs L (by unfold xP;rw[Zp,hf];exact Wx)
   obtain⟨sl,e⟩:=I.base.slot L o ho (I.ok.IA L hL) hL λz=>I.ok.Bp L z hL
   exact nO<|⟨hk,⟨L,_,hf,hn,e,hd⟩,ih (λb hb=>hs b (by unfold xP;rw[Zp,hf];exact Wu _ hb)) hr⟩
 exact all X.outer (λ_ hb=>hb) I.ok.lg
theorem Inv.stack(I:Inv X aa σ H s):s.heap.FunFrames X.base X.stack:=by
 rcases I.ok.MI with e|⟨e,hf⟩
 .rw[e];exact I.lg
 .rw[e]
  refine ae I.loc λm hn _=> .cons (by rw[I.ok.kind];decide) hf hn ?_ I.lg
  exact Heap.get?_none_of_le (Xu I.ok.xQ I.ok.above)
def Inv.lh(I:Inv X aa σ H s):∀b∈xP X.stack,b∈X.env.locals::X.fs:=λb hb=>by
 rcases I.ok.MI with e|⟨e,hf⟩
 .rw[e]at hb;exact Wu _ hb
 .rw[e]at hb
  unfold xP at hb
  rw[Zp,hf]at hb
  exact hb
def Inv.t9(I:Inv X aa σ H s):∀b∈xP X.stack,H b=none:=λb hb=>by
 rcases WG.mp (I.lh b hb)with e|hb
 .rw[e];exact I.free
 .obtain⟨_,o,ho,_⟩:=I.ok.lg.mem hb
  exact I.base.free b o ho (I.ok.IA b hb) λz=>I.ok.Bp b z hb
def Inv.step{g':Array GenState}{t':Nat}{d':Drawn}{ch:List Addr}(I:Inv X aa σ H s)
  (Be:∀b∈ch,(b∈X.ex\/X.s₀.heap.objs.size<=b)/\b≠X.env.locals/\(∀x c,X.env.cells.lookup x=some c->c≠b)/\∀p∈X.pn++aa,p.1≠b)
  (keep:∀b o,b≠X.env.locals->b∉X.fs->b∉ch->s.heap.get? b=some o->H b=none->h'.get? b=some o)
  (slot:∀b o,b≠X.env.locals->b∈X.fs->b∉ch->s.heap.get? b=some o->H b=none->∃sl,h'.get? b=some {o with slots:=sl}) (free:∀b o,b∉ch->s.heap.get? b=some o->H b=none->H' b=none)
  (there:∀b o,b∉ch->s.heap.get? b=some o->∃o',h'.get? b=some o')
  (oH:∀b xs,H b=some (.tup xs)->H' b=some (.tup xs)) (iC:∀b o u,H b=some (.dn o u)->H' b=some (.dn o u)) (oJ:∀b ps,H b=some (.Ff ps)->∃more,H' b=some (.Ff (ps++more)))
  (ns:∀m,s.heap.Ns X.env.locals m->h'.Ns X.env.locals m) (aR:iB X.prog X.w H' h') (hg:AllBare g'):
  Inv X aa σ H' {s with heap:=h',gens:=g',drawn:=d',toks:=t'}:=by
 have Q8:∀b o,X.s₀.heap.get? b=some o->b≠X.env.locals:=λb o e=>W2 (Xa (WH e) I.ok.above)
 have MJ:∀b o,X.s₀.heap.get? b=some o->b∉X.ex->b∉ch:=λb o e hx hb=>by
  rcases (Be b hb).1 with z|z
  .exact hx z
  .exact absurd (Xa (WH e) z) (Xv _)
 have cellK:∀x c,X.env.cells.lookup x=some c->∀v,s.heap.IsCell c v->h'.IsCell c v:=λx c e v zz=>by
  refine ae zz λo ho hd=>?_
  have Ji:c∉ch:=λz=>(Be c z).2.2.1 x c e rfl
  by_cases hc:c∈X.fs
  .obtain⟨sl,q⟩:=slot c o (I.Fh x c e) hc Ji ho (I.fS x c e)
   exact⟨_,q,hd⟩
  .exact⟨o,keep c o (I.Fh x c e) hc Ji ho (I.fS x c e),hd⟩
 refine⟨I.ok,I.os,hg,⟨λb o e n hb hx=>?_,λb o e n hb hx=>?_,λb o e n hx=>?_,λb o e hx=>?_,λb xs e=>oH b xs (I.base.oH b xs e),λb o xs e=>iC b o xs (I.base.iC b o xs e),λb ps e=>?_⟩,?_,λx c e=>?_,?_,λx c e=>?_,λp hp=>?_,aR,I.len⟩
 .exact keep b o (Q8 b o e) hb (MJ b o e hx) (I.base.keep b o e n hb hx) (I.base.free b o e n hx)
 .obtain⟨sl,e1⟩:=I.base.slot b o e n hb hx
  obtain⟨S7,e2⟩:=slot b _ (Q8 b o e) hb (MJ b o e hx) e1 (I.base.free b o e n hx)
  exact⟨S7,e2⟩
 .obtain⟨o',e1⟩:=I.base.there b o e hx
  exact free b o' (MJ b o e hx) e1 (I.base.free b o e n hx)
 .obtain⟨o',e1⟩:=I.base.there b o e hx
  exact there b o' (MJ b o e hx) e1
 .obtain⟨m1,e1⟩:=I.base.oJ b ps e
  obtain⟨m2,e2⟩:=oJ b _ e1
  exact⟨m1++m2,by rw[e2,Array.append_assoc]⟩
 .refine ae I.loc λm hn hl=>⟨m,ns m hn,λi x v e1 e2 e3=>?_⟩
  refine ae (hl i x v e1 e2 e3) λu r l=>⟨u,r,?_⟩
  rcases l with l|⟨k,c,e,z⟩
  .exact .inl l
  .exact .inr ⟨k,c,e,cellK x c e _ z⟩
 .obtain⟨v,z⟩:=I.cell x c e
  exact⟨v,cellK x c e v z⟩
 .obtain⟨m,⟨o,_,_,ho,_⟩,_⟩:=I.loc
  exact free _ o (λz=>(Be _ z).2.1 rfl) ho I.free
 .exact ik (I.cell x c e) λv o ho hd=>free c o (λz=>(Be c z).2.2.1 x c e rfl) ho (I.fS x c e)
 .refine Ja (I.pin p hp) λe n ne nf d=>?_
  have Ji:p.1∉ch:=λz=>(Be p.1 z).2.2.2 p hp rfl
  exact⟨keep p.1 p.2 ne nf Ji e n,free p.1 p.2 Ji e n,ne,nf,d⟩
def Inv.un{t':Nat}(I:Inv X aa σ H s)(u:Un X.fs [] H H' s.heap h')(aR:iB X.prog X.w H' h'):Inv X aa σ H' {s with heap:=h',toks:=t'}:=by
 refine au λnO=>?_
 obtain⟨m,⟨o,es,ep,ho,r⟩,_⟩:=id I.loc
 obtain⟨sl,hL⟩:=u.any ho I.free (by simp)
 refine nO ?_
 exact I.step (g':=s.gens) (d':=s.drawn) (ch:=[]) (λ_ z=>nomatch z) (λb o _ hb _ e n=>u.keep b o e n hb (by simp)) (λb o _ hb _ e n=>u.slot b o e n hb (by simp)) (λb o _ e n=>u.free b o e n (by simp)) (λb o _ e=>u.there b o e (by simp)) u.oH u.iC u.oJ (λm' hm=>by
  refine au λnO=>r0 hm λo' sj Fj Fi r'=>nO ?_
  rw[ho]at Fi;cases Fi
  exact⟨_,sj,Fj,hL,r'⟩) aR I.bare
def Inv.call{g':Array GenState}{t':Nat}{d':Drawn}{ch:List Addr}(I:Inv X aa σ H s)(u:Un (xP X.stack) ch H H' s.heap h')(aR:iB X.prog X.w H' h')(hg:AllBare g')
  (Be:∀b∈ch,(b∈X.ex\/X.s₀.heap.objs.size<=b)/\b≠X.env.locals/\(∀x c,X.env.cells.lookup x=some c->c≠b)/\∀p∈X.pn++aa,p.1≠b):
  Inv X aa σ H' {s with heap:=h',gens:=g',drawn:=d',toks:=t'}:=by
 refine au λnO=>?_
 obtain⟨m,⟨o,es,ep,ho,r⟩,_⟩:=id I.loc
 obtain⟨sl,hL⟩:=u.any ho I.free λz=>(Be _ z).2.1 rfl
 refine nO ?_
 exact I.step (ch:=ch) Be (λb o hL hb hc e n=>u.keep b o e n (λz=>(WG.mp (I.lh b z)).elim hL hb) hc) (λb o _ _ hc e n=>u.any e n hc) (λb o hc e n=>u.free b o e n hc) (λb o hc e=>u.there b o e hc) u.oH u.iC u.oJ (λm' hm=>by
  refine au λnO=>r0 hm λo' sj Fj Fi r'=>nO ?_
  rw[ho]at Fi;cases Fi
  exact⟨_,sj,Fj,hL,r'⟩) aR hg
def Inv.turned{t':Nat}{it:Addr}(I:Inv X aa σ H s)(k:∀b o,b≠it->s.heap.get? b=some o->h'.get? b=some o)(hn:H it=none)(hL:it≠X.env.locals)
  (h1:it∈X.ex\/X.s₀.heap.objs.size<=it) (h2:∀x c,X.env.cells.lookup x=some c->c≠it) (h3:∀p∈X.pn++aa,p.1≠it):Inv X aa σ H {s with heap:=h',toks:=t'}:=by
 have Jj:∀b u,H b=some u->b≠it:=λb u e z=>by rw[z,hn]at e;cases e
 refine I.step (g':=s.gens) (d':=s.drawn) (ch:=[it]) (λb hb=>?_) (λb o _ _ hc e _=>k b o (λz=>hc (by simp[z])) e) (λb o _ _ hc e _=>⟨o.slots,k b o (λz=>hc (by simp[z])) e⟩) (λ_ _ _ _ n=>n)
  (λb o hc e=>⟨o,k b o (λz=>hc (by simp[z])) e⟩) (λ_ _ e=>e) (λ_ _ _ e=>e) (λb ps e=>⟨#[],by rw[e];simp⟩) (λm hm=>?_) (λb u e=>?_) I.bare
 .have e:b=it:=by simpa using hb
  subst e
  exact⟨h1,hL,h2,h3⟩
 .exact r0 hm λo es ep ho r=>⟨o,es,ep,k _ o (Xt hL) ho,r⟩
 .refine(I.aR b u e).mW (λc v hc q=>k c v ?_ q) (λ_ q=>q) λ_ _ q=>q
  rcases hc with z|z
  .rw[z];exact Jj b u e
  .exact Jj c _ z
def Inv.tok(I:Inv X aa σ H s)(t:Nat):Inv X aa σ H {s with toks:=t}:=I.un (h':=s.heap) (t':=t) Un.refl I.aR
theorem Inv.kept(I:Inv X aa σ H s)(k:∀b u,s.heap.get? b=some u->h'.get? b=some u):Inv X aa σ H {s with heap:=h',toks:=t'}:=I.un (Un.kept k) (I.aR.kept k)
theorem Inv.laid(I:Inv X aa σ H s)(k:∀b u,s.heap.get? b=some u->h'.get? b=some u)(hp:s.heap.objs.size<=a)(new:aQ X.prog X.w (upd H a o) h' a o):
  Inv X aa σ (upd H a o) {s with heap:=h',toks:=t'}:=I.un (Un.laid k hp (I.aR.fresh hp)) (I.aR.laid k hp new)
theorem Inv.write(I:Inv X aa σ H s)(mu:xN (H x))(he:e=x\/H e=some (.own x))(k:∀b u,b≠e->s.heap.get? b=some u->h'.get? b=some u)(D7:∃u,h'.get? e=some u)
  (new:aQ X.prog X.w (upd H x o) h' x o):Inv X aa σ (upd H x o) {s with heap:=h',toks:=t'}:=I.un (Un.write mu he k D7) (I.aR.write mu he k D7 new)
def Inv.weak(I:Inv X aa σ H s)(hl:bX.length=σ.length)(w:∀(i:Nat) v,bX[i]?=some (some v)->σ[i]?=some (some v)):Inv X aa bX H s:=
 ⟨I.ok,I.os,I.bare,I.base,let ⟨m,hn,vY⟩:=I.loc;⟨m,hn,λi x v e1 e2 e3=>vY i x v e1 (w i v e2) e3⟩,I.cell,I.free,I.fS,I.pin,I.aR,hl.trans I.len⟩
def Inv.t_(I:Inv X aa σ H s)(h:∀p∈Jk,s.heap.get? p.1=some p.2/\H p.1=none/\p.1≠X.env.locals/\p.1∉X.fs/\∀v,p.2.data≠ .cell v):Inv X Jk σ H s:=
 ⟨I.ok,I.os,I.bare,I.base,I.loc,I.cell,I.free,I.fS,λp hp=>(WQ.mp hp).elim (λz=>I.pin p (WY _ z)) (h p),I.aR,I.len⟩
def qg{N:List Str}(hN:N.Nodup){i j:Nat}{x:Str}(a:N[i]?=some x)(b:N[j]?=some x):i=j:=by
 obtain⟨h1,e1⟩:=WK.mp a
 obtain⟨h2,e2⟩:=WK.mp b
 exact(List.getElem_inj hN).mp (e1.trans e2.symm)
def nF{M:Model}{A:Around}{E:Value->Shared->Prop}{i:Nat}{x:Str}{v:V}{u:Value}{Q:Unit->Shared->Prop}(I:Inv X aa σ H s)(hN:X.N.Nodup)(hi:X.N[i]?=some x)(hx:Loc X.env.scope x)(r:RelV v u)
  (h:∀s',Inv X aa (σ.set i (some v)) H s'->(∃a,Heap.SameBut a s.heap s'.heap/\(a=X.env.locals\/X.env.cells.lookup x=some a))->Q () s') (hf:X.fn x=true\/X.env.scope.names.lookup x=some .local :=by first|exact .inl rfl|exact .inr rfl|assumption):wpAny M A (storeName X.env x u) Q E s:=by
 obtain⟨m,hn,hl⟩:=id I.loc
 have NO:(X.env.scope.kind == .class||(X.env.scope.kind == .module&&X.env.locals !=X.env.globals))=false:=by rw[I.ok.kind];rfl
 have Jl:i<σ.length:=by rw[I.len];exact(WK.mp hi).1
 have Fh:=I.Fh
 have tracked:∀{a:Addr}{h':Heap},(∃o,s.heap.get? a=some o/\H a=none)->Heap.SameBut a s.heap h'->iB X.prog X.w H h':=λ{a h'} ha hs b ob e=>by
  obtain⟨_,_,D9⟩:=ha
  refine(I.aR b ob e).mW (λc w' hc q=>(hs.2 c ?_).trans q) (λ_ q=>q) λ_ _ q=>q
  rintro rfl
  rcases hc with rfl|hc
  .rw[D9]at e;cases e
  .rw[D9]at hc;cases hc
 rcases hx with hk|hk
 .refine wpAny_storeName_local hk hn (λh' S8 hs=>?_) NO
  refine au λnO=>?_
  obtain⟨oL,_,_,vZ,_⟩:=id hn
  refine nO ?_
  refine h _ ⟨I.ok,I.os,I.bare,⟨λb o e n hb hx=>?_,λb o e n hb hx=>?_,I.base.free,λb o e hx=>?_,I.base.oH,I.base.iC,I.base.oJ⟩,⟨_,S8,λj y v' e1 e2 e3=>?_⟩,λy c e=>?_,I.free,I.fS,λp hp=>?_,tracked ⟨oL,vZ,I.free⟩ hs,by simpa using I.len⟩ ⟨_,hs,.inl rfl⟩
  .exact(hs.2 b (W2 (Xa (WH e) I.ok.above))).trans (I.base.keep b o e n hb hx)
  .obtain⟨sl,e1⟩:=I.base.slot b o e n hb hx
   exact⟨sl,(hs.2 b (W2 (Xa (WH e) I.ok.above))).trans e1⟩
  .obtain⟨o',e1⟩:=I.base.there b o e hx
   exact⟨o',(hs.2 b (W2 (Xa (WH e) I.ok.above))).trans e1⟩
  .by_cases hj:j=i
   .subst hj
    rw[hi]at e1;cases e1
    rw[WW Jl]at e2
    cases e2
    exact⟨u,r,.inl ⟨hk,by simp⟩⟩
   .rw[WT (Xt hj)]at e2
    obtain⟨u',r',q⟩:=hl j y v' e1 e2 e3
    refine⟨u',r',?_⟩
    rcases q with⟨k,e⟩|⟨k,c,e,z⟩
    .refine .inl ⟨k,?_⟩
     have:y≠x:=λe=>hj (qg hN e1 (e▸hi))
     simp[this,e]
    .exact .inr ⟨k,c,e,z.sameBut hs (Fh y c e)⟩
  .obtain⟨w',z⟩:=I.cell y c e
   exact⟨w',z.sameBut hs (Fh y c e)⟩
  .refine au λnO=>?_
   obtain⟨e,n,ne,nf,d⟩:=I.pin p hp
   exact nO<|⟨(hs.2 p.1 ne).trans e,n,ne,nf,d⟩
 .have NP:X.fn x=true:=by
   rcases hf with z|z
   .exact z
   .rw[z]at hk;cases hk
  obtain⟨c,hc⟩:=I.ok.has x (.inl hk)
  obtain⟨w',z⟩:=I.cell x c hc
  refine wpAny_storeName_cell I.ok.kind hk hc z (λh' kJ hs=>?_)
  obtain⟨oc,Q9,NQ⟩:=id z
  refine h {s with heap:=h'} ⟨I.ok,I.os,I.bare,⟨λb o e n hb hx=>?_,λb o e n hb hx=>?_,I.base.free,λb o e hx=>?_,I.base.oH,I.base.iC,I.base.oJ⟩,⟨m,hn.sameBut hs (Xt (Fh x c hc)),λj y v' e1 e2 e3=>?_⟩,λy c' e=>?_,I.free,I.fS,λp hp=>?_,tracked ⟨oc,Q9,I.fS x c hc⟩ hs,by simpa using I.len⟩ ⟨c,hs,.inr hc⟩
  .exact(hs.2 b (W2 (Xa (WH e) (I.ok.Jh x c NP hc)))).trans (I.base.keep b o e n hb hx)
  .obtain⟨sl,e1⟩:=I.base.slot b o e n hb hx
   exact⟨sl,(hs.2 b (W2 (Xa (WH e) (I.ok.Jh x c NP hc)))).trans e1⟩
  .obtain⟨o',e1⟩:=I.base.there b o e hx
   exact⟨o',(hs.2 b (W2 (Xa (WH e) (I.ok.Jh x c NP hc)))).trans e1⟩
  .by_cases hj:j=i
   .subst hj
    rw[hi]at e1;cases e1
    rw[WW Jl]at e2
    cases e2
    exact⟨u,r,.inr ⟨.inl hk,c,hc,kJ⟩⟩
   .rw[WT (Xt hj)]at e2
    obtain⟨u',r',q⟩:=hl j y v' e1 e2 e3
    refine⟨u',r',?_⟩
    rcases q with q|⟨k,c',e,z'⟩
    .exact .inl q
    .refine .inr ⟨k,c',e,z'.sameBut hs ?_⟩
     rintro rfl
     exact hj (qg hN e1 (I.ok.inj _ _ _ e hc▸hi))
  .by_cases Q_:c'=c
   .subst Q_;exact⟨_,kJ⟩
   .obtain⟨w2,z2⟩:=I.cell y c' e
    exact⟨w2,z2.sameBut hs Q_⟩
  .refine au λnO=>?_
   obtain⟨e,n,ne,nf,d⟩:=I.pin p hp
   refine nO ?_
   refine⟨(hs.2 p.1 ?_).trans e,n,ne,nf,d⟩
   intro q
   rw[q,Q9]at e
   have q':oc=p.2:=WU e
   exact d w' (by rw[<-q'];exact NQ)
def qh(I:Inv X aa σ H s)(hN:X.N.Nodup)(hi:X.N[i]?=some x)(hx:Loc X.env.scope x)(r:RelV v u)
  (h:∀s',Inv X aa (σ.set i (some v)) H s'->Q () s') (hf:X.fn x=true\/X.env.scope.names.lookup x=some .local :=by first|exact .inl rfl|exact .inr rfl|assumption):wpAny M A (storeName X.env x u) Q E s:=
 nF I hN hi hx r (λs' I' _=>h s' I') hf
def Inv.Jm(I:Inv X aa σ H s)(ho:s'.os=s.os)(u:Un (xP X.stack) ch H H' s.heap s'.heap)(aR:iB X.prog X.w H' s'.heap)(hg:AllBare s'.gens)
  (Be:∀b∈ch,(b∈X.ex\/X.s₀.heap.objs.size<=b)/\b≠X.env.locals/\(∀x c,X.env.cells.lookup x=some c->c≠b)/\∀p∈X.pn++aa,p.1≠b):Inv X aa σ H' s':=by
 obtain⟨h',g',d',t',o'⟩:=s'
 have e:o'=s.os:=ho
 subst e
 exact I.call (g':=g') (t':=t') (d':=d') u aR hg Be
end
abbrev XK:=Value->Option Addr->Hp->Prop
abbrev St:=List (Option V)
abbrev VK:=V->Hp->Prop
abbrev TE:=St->Hp->VK->Prop
abbrev TT:=St->Hp->(Bool->Hp->Prop)->Prop
abbrev TA:=St->Hp->(List V->Hp->Prop)->Prop
structure xS where
 nx:St->Hp->Prop
 rt:VK
 bk:St->Hp->Prop:=λ_ _=>False
 ct:St->Hp->Prop:=λ_ _=>False
abbrev TS:=xS->St->Hp->Prop
def EP(X:Cx)(aa:List (Addr×Obj))(σ:St)(Q:VK)(u:Value)(s':Shared):Prop:=∃v H',Inv X aa σ H' s'/\RelV v u/\Q v H'
def TP(X:Cx)(aa:List (Addr×Obj))(σ:St)(Q:Bool->Hp->Prop)(b:Bool)(s':Shared):Prop:=∃H',Inv X aa σ H' s'/\Q b H'
def AP(X:Cx)(aa:List (Addr×Obj))(σ:St)(Q:List V->Hp->Prop)(us:List Value)(s':Shared):Prop:=∃vs H',Inv X aa σ H' s'/\aD vs us/\Q vs H'
def SP(X:Cx)(aa:List (Addr×Obj))(D:xS)(f:Flow)(s':Shared):Prop:=
 match f with
 | .next =>∃bX H',Inv X aa bX H' s'/\D.nx bX H'
 | .brk =>∃bX H',Inv X aa bX H' s'/\D.bk bX H'
 | .cont =>∃bX H',Inv X aa bX H' s'/\D.ct bX H'
 | .ret u=>∃v bX H',Inv X aa bX H' s'/\RelV v u/\D.rt v H'
def PE(X:Cx)(e:Expr)(t:TE):Prop:=
 ∀(aa:List (Addr×Obj)) (s:Shared) (σ:St) (H:Hp) (Q:VK),Inv X aa σ H s->t σ H Q->wpAny (model X.prog X.w) X.A (eval e X.env) (EP X aa σ Q) X.xe s
def PT(X:Cx)(e:Expr)(t:TT):Prop:=
 ∀(aa:List (Addr×Obj)) (s:Shared) (σ:St) (H:Hp) (Q:Bool->Hp->Prop),Inv X aa σ H s->t σ H Q->wpAny (model X.prog X.w) X.A (isTrue e X.env (eval e X.env)) (TP X aa σ Q) X.xe s
def PW(X:Cx)(e:Expr)(t:TT):Prop:=
 ∀(whole:Sem Value) (aa:List (Addr×Obj)) (s:Shared) (σ:St) (H:Hp) (Q:Bool->Hp->Prop),Inv X aa σ H s->t σ H Q->wpAny (model X.prog X.w) X.A (isTrue e X.env whole) (TP X aa σ Q) X.xe s
def PW.pt(h:PW X e t):PT X e t:=h _
def PA(X:Cx)(es:List Expr)(t:TA):Prop:=
 ∀(pos:Pos) (aa:List (Addr×Obj)) (s:Shared) (σ:St) (H:Hp) (Q:List V->Hp->Prop),Inv X aa σ H s->t σ H Q->wpAny (model X.prog X.w) X.A (spliced (backTo pos (starEach es X.env))) (AP X aa σ Q) X.xe s
def PS(X:Cx)(st:Stmt)(t:TS):Prop:=
 ∀(aa:List (Addr×Obj)) (s:Shared) (σ:St) (H:Hp) (D:xS),Inv X aa σ H s->t D σ H->wpAny (model X.prog X.w) X.A (exec st X.env) (SP X aa D) X.xe s
def kK(X:Cx)(st:List Stmt)(t:TS):Prop:=
 ∀(aa:List (Addr×Obj)) (s:Shared) (σ:St) (H:Hp) (D:xS),Inv X aa σ H s->t D σ H->wpAny (model X.prog X.w) X.A (execs st X.env) (SP X aa D) X.xe s
def bI(h:wpAny M A t Q E s)(hQ:∀a s,Q a s->Q' a s):wpAny M A t Q' E s:=X2 h hQ λ_ _ x=>x
section
variable {X:Cx}
def cW(i:Nat):TE:=λσ H Q=>∃v,σ[i]?=some (some v)/\Q v H
def tC(v:V):TE:=λ_ H Q=>Q v H
def bJ(hN:X.N[i]?=some x)(hv:vX X.env.scope x)(hd:(x==("__debug__":Str))=false:=by decide)(xT:(x==("__classdict__":Str))=false:=by decide):PE X (.Name x pos) (cW i):=by
 intro aa s σ H Q I h
 refine ae h λv e h=>ae I.loc λm hn hl=>ae (hl i x v hN e hv) λu r l=>?_
 have fin:EP X aa σ Q u s:=⟨v,H,I,r,h⟩
 rcases l with⟨hk,hm⟩|⟨hk,c,hc,ua⟩
 .exact wpAny_Name (wpAny_loadName_local I.ok.kind hk hn hm fin) hd
 .rcases hk with hk|hk
  .exact wpAny_Name (wpAny_loadName_cell I.ok.kind hk hc ua fin) hd
  .exact wpAny_Name (wpAny_loadName_free I.ok.kind hk hc ua fin xT) hd
def Fl:PE X (.Constant (.int i) j pos) (tC (.int i)):=λ_ _ _ H _ I h=>wpAny_Constant_int ⟨.int i,H,I.tok _,⟨_,rfl⟩,h⟩
def Jn:PE X (.Constant (.bool b) j pos) (tC (.bl b)):=λ_ _ _ H _ I h=>Constant_bool ⟨.bl b,H,I,rfl,h⟩
def Fm:PE X (.Constant .none j pos) (tC .fC):=λ_ _ _ H _ I h=>Constant_none ⟨.fC,H,I,rfl,h⟩
def Gl(X:Cx)(x:Str):Prop:=X.env.kindOf x=some .globalImplicit
def oM(I:Inv X aa σ H s)(hg:Gl X x)(hm:X.mg x=some u)(h:Q u s)
  (hd:(x==("__debug__":Str))=false:=by decide):wpAny (model X.prog X.w) X.A (eval (.Name x pos) X.env) Q E s:=
 Zx I.ok.kind hg (Calls.loadGlobal_global (by rw[I.ok.glob];exact I.mod.glob.keeps I.bk) hm h) hd
def jE(I:Inv X aa σ H s)(hg:Gl X x)(hm:X.mg x=none)(hv:bootBuiltins x=some u)(h:Q u s)
  (hn:x≠"__name__":=by decide) (hd:(x==("__debug__":Str))=false:=by decide):wpAny (model X.prog X.w) X.A (eval (.Name x pos) X.env) Q E s:=by
 exact ae I.mod.blt λmb h1 h2=>Zx I.ok.kind hg (Calls.loadGlobal_builtin (by rw[I.ok.glob];exact I.mod.glob.keeps I.bk) hm (by rw[I.ok.blt];exact h1.keeps I.bk) ((h2 x hn).trans hv) h) hd
def Bq(hg:Gl X x)(hm:X.mg x=some u)(r:RelV v u)(hd:(x==("__debug__":Str))=false:=by decide):PE X (.Name x pos) (tC v):=
 λ_ _ _ H _ I h=>oM I hg hm ⟨v,H,I,r,h⟩ hd
variable {a b:Expr}{ta tb:TE}{pos:Pos}
def PC(X:Cx)(op:CmpOp)(a b:Expr)(t:TE):Prop:=
 ∀(aa:List (Addr×Obj)) (s:Shared) (σ:St) (H:Hp) (Q:VK),Inv X aa σ H s->t σ H Q->
  wpAny (model X.prog X.w) X.A (eval a X.env) (λv aZ=>wpAny (model X.prog X.w) X.A (eval b X.env) (λu lj=>wpAny (model X.prog X.w) X.A (compareOp op v u) (EP X aa σ Q) X.xe lj) X.xe aZ) X.xe s
def tB(t:TE):TT:=λσ H Q=>t σ H λx H1=>∃c,x= .bl c/\Q c H1
def Fn(h:PC X op a b t)(h1:behindInMarks op b=false:=by first|exact xU _ (by decide) (by decide)|rfl):PE X (.Compare a [op] [b] pos) t:=λaa s σ H Q I hw=>wpAny_Compare1 (h aa s σ H Q I hw) h1
def Fo(h:PC X op a b t)(h1:behindInMarks op b=false:=by first|exact xU _ (by decide) (by decide)|rfl):PT X (.Compare a [op] [b] pos) (tB t):=by
 intro aa s σ H Q I hw
 refine wpAny_isTrue_Compare1 (bI (h aa s σ H _ I hw) λv s1 h1=>bI h1 λu s2 h2=>bI h2 λc s3 zz=>bC zz λx H1 I1 r1 q1=>?_) h1
 refine ae q1 λd aj q=>?_
 try clear q1
 subst aj
 cases r1
 exact X3 ⟨H1,I1,q⟩
def Fp(h:PE X e t)(he:∀whole,isTrue e X.env whole=(do let v<-whole;standAt e.pos;holding [v] (truthy v)):=by intro _;rfl):PT X e (tB t):=by
 intro aa s σ H Q I hw
 refine isTrue_plain (bI (h aa s σ H _ I hw) λv s1 ⟨x,H1,I1,r1,q1⟩=>?_) (he _)
 refine ae q1 λd aj q=>?_
 try clear q1
 subst aj
 cases r1
 exact X3 ⟨H1,I1,q⟩
variable {tA MK:TT}{bK:List Expr}
def Jo(t u:TT):TT:=λσ H Q=>t σ H λc H1=>if c=true then u σ H1 Q else Q false H1
def S9(t u:TT):TT:=λσ H Q=>t σ H λc H1=>if c=true then Q true H1 else u σ H1 Q
def Br(ha:PT X a tA):PW X (.BoolOp .And [a] pos) tA:=by
 intro wh aa s σ H Q I h
 refine isTrue_and (bI (ha aa s σ H Q I h) λc s1 e=>?_)
 cases c with
 |true=>exact isTrue_and_nil e
 |false=>exact e
def Fq(ha:PT X a tA):PW X (.BoolOp .Or [a] pos) tA:=by
 intro wh aa s σ H Q I h
 refine isTrue_or (bI (ha aa s σ H Q I h) λc s1 e=>?_)
 cases c with
 |false=>exact isTrue_or_nil e
 |true=>exact e
def Fs(ha:PT X a tA)(hb:PW X (.BoolOp .And (b::bK) pos) MK):PW X (.BoolOp .And (a::b::bK) pos) (Jo tA MK):=by
 intro wh aa s σ H Q I h
 refine isTrue_and (bI (ha aa s σ H _ I h) λc s1 zz=>?_)
 refine ae zz λH1 I1 q1=>?_
 cases c with
 |true=>exact hb wh aa s1 σ H1 Q I1 q1
 |false=>exact⟨H1,I1,q1⟩
def Jp(ha:PT X a tA)(hb:PW X (.BoolOp .Or (b::bK) pos) MK):PW X (.BoolOp .Or (a::b::bK) pos) (S9 tA MK):=by
 intro wh aa s σ H Q I h
 refine isTrue_or (bI (ha aa s σ H _ I h) λc s1 zz=>?_)
 refine ae zz λH1 I1 q1=>?_
 cases c with
 |true=>exact⟨H1,I1,q1⟩
 |false=>exact hb wh aa s1 σ H1 Q I1 q1
def Jq(ta tb:TE):TE:=λσ H Q=>ta σ H λx H1=>∃c,x= .bl c/\if c=true then tb σ H1 Q else Q (.bl false) H1
def NR(ta tb:TE):TE:=λσ H Q=>ta σ H λx H1=>∃c,x= .bl c/\if c=true then Q (.bl true) H1 else tb σ H1 Q
def Ft(h:PE X a t):PE X (.BoolOp op [a] pos) t:=λaa s σ H Q I hw=>BoolOp_one (h aa s σ H Q I hw)
def Fu(ha:PE X a ta)(hb:PE X (.BoolOp .And (b::bK) pos) tb):PE X (.BoolOp .And (a::b::bK) pos) (Jq ta tb):=by
 intro aa s σ H Q I h
 refine BoolOp_and (bI (ha aa s σ H _ I h) λv s1 zz=>?_)
 refine au λnO=>?_
 obtain⟨x,H1,I1,r1,q1⟩:=zz
 obtain⟨c,rfl,q1⟩:=q1
 cases r1
 refine nO<|X3 ?_
 cases c with
 |true=>exact hb aa s1 σ H1 Q I1 q1
 |false=>exact⟨.bl false,H1,I1,rfl,q1⟩
def Jr(ha:PE X a ta)(hb:PE X (.BoolOp .Or (b::bK) pos) tb):PE X (.BoolOp .Or (a::b::bK) pos) (NR ta tb):=by
 intro aa s σ H Q I h
 refine BoolOp_or (bI (ha aa s σ H _ I h) λv s1 zz=>?_)
 refine au λnO=>?_
 obtain⟨x,H1,I1,r1,q1⟩:=zz
 obtain⟨c,rfl,q1⟩:=q1
 cases r1
 refine nO<|X3 ?_
 cases c with
 |false=>exact hb aa s1 σ H1 Q I1 q1
 |true=>exact⟨.bl true,H1,I1,rfl,q1⟩
end
def c9(K:PySem.W.Frag)(H:Hp)(a:Addr)(xs:List V):Prop:=
 Rd H a (.lst xs)\/
  ∃(o:Obj) (its:Array Value) (n:Nat),K.lookup a=some o/\o.cls= .type "list"/\o.dict=none/\o.data= .seq its n/\its.size<=sizeLine/\aD xs its.toList/\o.slots=#[]
def dF(K:PySem.W.Frag)(H:Hp)(a:Addr)(xs:List V):Prop:=H a=some (.tup xs)
noncomputable def NS:Value->Option V
 | .none =>some .fC
 | .bool b=>some (.bl b)
 | .int i _=>some (.int i)
 | .str x _=>some (.str x)
 | .bytes b _=>some (.Je b)
 | .float b _=>some (.NK b)
 | .ref a=>some (.ref a)
 | .type n=>some (.ty n)
 |_=>none
def RelV.abs(r:RelV x u):NS u=some x:=by
 cases x with
 |fC=>cases r;rfl
 |bl _=>cases r;rfl
 |int _=>obtain⟨t,rfl⟩:=r;rfl
 |str _=>obtain⟨t,rfl⟩:=r;rfl
 |Je _=>obtain⟨t,rfl⟩:=r;rfl
 |NK _=>obtain⟨t,rfl⟩:=r;rfl
 |ref _=>cases r;rfl
 |ty _=>cases r;rfl
theorem RelV.inj(r:RelV x u)(q:RelV y u):x=y:=WU (r.abs.symm.trans q.abs)
theorem aD.inj:∀{xs ys:List V}{us:List Value},aD xs us->aD ys us->xs=ys:=λ{xs ys us} h=>by
 induction h generalizing ys with
 |nil=>intro h;cases h;rfl
 |cons r t ih=>intro h;cases h with|cons r' t'=>rw[r.inj r',ih t']
section
variable {X:Cx}{aa:List (Addr×Obj)}{σ:St}{H:Hp}{s:Shared}{a:Addr}{xs ys:List V}
def c9.of{K:PySem.W.Frag}(h:H a=some (.lst xs)):c9 K H a xs:= .inl (.inl h)
def dF.of{K:PySem.W.Frag}(h:H a=some (.tup xs)):dF K H a xs:=h
def Inv.list(I:Inv X aa σ H s)(h:c9 X.K H a xs):∃its:List Value,aD xs its/\PlainL s.heap a its.toArray/\xs.length<=sizeLine:=by
 rcases h with h|⟨o,its,n,hk,hc,hd,hs,hz,r,_⟩
 .obtain⟨z,its,n,r,e⟩:=h.ok I.aR
  exact⟨its,r,⟨_,n,e,rfl,rfl,rfl⟩,z⟩
 .refine⟨its.toList,r,⟨o,n,I.D8 a o hk,hc,hd,by simpa using hs⟩,?_⟩
  have e:=r.length
  simp only[Wy]at e
  lia
def Inv.tuple(I:Inv X aa σ H s)(h:dF X.K H a xs):∃its:List Value,aD xs its/\IsTup s.heap a its.toArray/\xs.length<=sizeLine:=by
 obtain⟨z,its,r,p⟩:=I.aR a _ h
 exact⟨its,r,p.tup,z⟩
def Inv.Fv(I:Inv X aa σ H s)(h:dF X.K H a xs):∃its:List Value,aD xs its/\jD s.heap a its.toArray/\xs.length<=sizeLine:=by
 obtain⟨z,its,r,p⟩:=I.aR a _ h
 exact⟨its,r,p,z⟩
def Inv.qi(I:Inv X aa σ H s)(h:c9 X.K H a xs)(h':c9 X.K H a ys):xs=ys:=by
 refine au λnO=>?_
 obtain⟨its,r,⟨o,n,e,_,_,d⟩,_⟩:=I.list h
 obtain⟨its',r',⟨o',n',e',_,_,d'⟩,_⟩:=I.list h'
 refine nO ?_
 rw[e]at e';cases e'
 rw[d]at d'
 injection d' with d1 _
 have:its=its':=by simpa using congrArg Array.toList d1
 subst this
 exact r.inj r'
def Inv.jF(I:Inv X aa σ H s)(h:dF X.K H a xs)(h':dF X.K H a ys):xs=ys:=by
 obtain⟨its,r,⟨o,e,_,n,d⟩,_⟩:=I.tuple h
 obtain⟨its',r',⟨o',e',_,n',d'⟩,_⟩:=I.tuple h'
 rw[e]at e';cases e'
 rw[d]at d'
 injection d' with d1 _
 have:its=its':=by simpa using congrArg Array.toList d1
 subst this
 exact r.inj r'
end
noncomputable abbrev Cx.mX(X:Cx)(E:Value->Shared->Prop):Cx:={X with xe:=E}
noncomputable abbrev Cx.Js(X:Cx):Cx:=X.mX λ_ _=>False
theorem Cx.Ok.mX{X:Cx}(ok:X.Ok)(E:Value->Shared->Prop):(X.mX E).Ok :=
 ⟨ok.mod,ok.kind,ok.glob,ok.blt,ok.above,ok.inj,ok.has,ok.Jh,ok.hd,ok.frames,ok.MI,ok.Q7,ok.bs,ok.xQ,ok.xR,ok.Bp,ok.lg,ok.IA⟩
def Cx.Ok.gm{X:Cx}{E:Value->Shared->Prop}(ok:(X.mX E).Ok):X.Ok:=
 ⟨ok.mod,ok.kind,ok.glob,ok.blt,ok.above,ok.inj,ok.has,ok.Jh,ok.hd,ok.frames,ok.MI,ok.Q7,ok.bs,ok.xQ,ok.xR,ok.Bp,ok.lg,ok.IA⟩
section
variable {X:Cx}{aa:List (Addr×Obj)}{σ:St}{H:Hp}{s:Shared}{E:Value->Shared->Prop}
theorem Inv.mX(I:Inv X aa σ H s)(E:Value->Shared->Prop):Inv (X.mX E) aa σ H s:=⟨I.ok.mX E,I.os,I.bare,I.base,I.loc,I.cell,I.free,I.fS,I.pin,I.aR,I.len⟩
theorem Inv.gm(I:Inv (X.mX E) aa σ H s):Inv X aa σ H s:=⟨I.ok.gm,I.os,I.bare,I.base,I.loc,I.cell,I.free,I.fS,I.pin,I.aR,I.len⟩
theorem SP.gm(h:SP (X.mX E) aa D f s'):SP X aa D f s':=by
 cases f with
 |next=>obtain⟨bX,H',I,q⟩:=h;exact⟨bX,H',I.gm,q⟩
 |brk=>obtain⟨bX,H',I,q⟩:=h;exact⟨bX,H',I.gm,q⟩
 |cont=>obtain⟨bX,H',I,q⟩:=h;exact⟨bX,H',I.gm,q⟩
 |ret u=>obtain⟨v,bX,H',I,r,q⟩:=h;exact⟨v,bX,H',I.gm,r,q⟩
theorem kK.Js{st:List Stmt}{t:TS}(h:kK X.Js st t):kK X st t:=λaa s σ H D I hw=>
 X2 (h aa s σ H D (I.mX _) hw) (λ_ _ q=>q.gm) λ_ _ z=>False.elim z
end
section
variable {X:Cx}{st:Stmt}{bK:List Stmt}{t u:TS}{e:Expr}{te:TE}{pos:Pos}
def ub:TS:=λD σ H=>D.nx σ H
def oN(t u:TS):TS:=λD σ H=>t {D with nx:=u D} σ H
def iN:kK X [] ub:=λ_ _ σ H _ I h=>aad ⟨σ,H,I,h⟩
def b7(h1:PS X st t)(h2:kK X bK u):kK X (st::bK) (oN t u):=by
 intro aa s σ H D I h
 refine wpAny_execs_cons (bI (h1 aa s σ H {D with nx:=u D} I h) λf s1 q=>?_)
 cases f with
 |next=>
  exact ik q λbX H' I' q=>h2 aa s1 bX H' D I' q
 |ret v=>exact q
 |brk=>exact q
 |cont=>exact q
def Inv.quiet(I:Inv X aa σ H s):interactive X.env=false:=by simp[interactive,I.ok.kind]
def uc(te:TE):TS:=λD σ H=>te σ H λ_ H1=>D.nx σ H1
def oO(he:PE X e te)(hs:swapsWith e none pos.line X.env=pure false:=by rfl):PS X (.Expr e pos) (uc te):=by
 intro aa s σ H D I h
 exact wpAny_Expr_any (bI (he aa s σ H _ I h) λv s1 zz=>bC zz λx H1 I1 r1 q1=>⟨σ,H1,I1,q1⟩) I.quiet hs
def NT(te:TE):TS:=λD σ H=>te σ H D.rt
def sk(he:PE X e te):PS X (.Return (some e) pos) (NT te):=by
 intro aa s σ H D I h
 exact wpAny_Return_some (bI (he aa s σ H _ I h) λv s1 zz=>bC zz λx H1 I1 r1 q1=>⟨x,σ,H1,I1,r1,q1⟩)
def Bs(c:TT)(t u:TS):TS:=λD σ H=>c σ H λb H1=>if b=true then t D σ H1 else u D σ H1
def D_(hc:PT X c tc)(ha:kK X a t)(hb:kK X b u):PS X (.If c a b pos) (Bs tc t u):=by
 intro aa s σ H D I h
 refine wpAny_If (bI (hc aa s σ H _ I h) λd s1 zz=>?_)
 refine ae zz λH1 I1 q1=>?_
 cases d with
 |true=>exact ha aa s1 σ H1 D I1 q1
 |false=>exact hb aa s1 σ H1 D I1 q1
end
abbrev TG:=V->St->Hp->(St->Hp->Prop)->Prop
abbrev Fw:=List V->St->Hp->(St->Hp->Prop)->Prop
def PG(X:Cx)(target:Expr)(t:TG):Prop:=
 ∀(aa:List (Addr×Obj)) (s:Shared) (σ:St) (H:Hp) (v:V) (u:Value) (Q:St->Hp->Prop),Inv X aa σ H s->RelV v u->t v σ H Q->
  wpAny (model X.prog X.w) X.A (assign target X.env u) (λ_ s'=>∃bX H',Inv X aa bX H' s'/\Q bX H') X.xe s
def IB(X:Cx)(ts:List Expr)(t:Fw):Prop:=
 ∀(aa:List (Addr×Obj)) (s:Shared) (σ:St) (H:Hp) (vs:List V) (us:List Value) (Q:St->Hp->Prop),Inv X aa σ H s->aD vs us->t vs σ H Q->
  wpAny (model X.prog X.w) X.A (assignInOrder ((assignEach ts X.env).map (·.2)) us) (λ_ s'=>∃bX H',Inv X aa bX H' s'/\Q bX H') X.xe s
abbrev Jt:=V->V->V->Hp->(Hp->Prop)->Prop
def Ju(X:Cx)(t:Jt):Prop:=
 ∀(aa:List (Addr×Obj)) (s:Shared) (σ:St) (H:Hp) (o i v:V) (ov iv u:Value) (Q:Hp->Prop),Inv X aa σ H s->RelV o ov->RelV i iv->RelV v u->t o i v H Q->
  wpAny (model X.prog X.w) X.A (setItem ov iv u) (λ_ s'=>∃H',Inv X aa σ H' s'/\Q H') X.xe s
section
variable {X:Cx}{pos:Pos}
def b9(i:Nat):TG:=λv σ H Q=>Q (σ.set i (some v)) H
def gN(hN:X.N.Nodup)(hi:X.N[i]?=some x)(hx:Loc X.env.scope x)(hf:X.fn x=true\/X.env.scope.names.lookup x=some .local :=by first|exact .inl rfl|exact .inr rfl|assumption):PG X (.Name x pos) (b9 i):=by
 intro aa s σ H v u Q I r h
 exact wpAny_assign_Name (qh I hN hi hx r (λs' I'=>⟨_,H,I',h⟩) hf)
def Bt:Fw:=λvs σ H Q=>vs=[]/\Q σ H
def nG(t:TG)(u:Fw):Fw:=λvs σ H Q=>∃v r,vs=v::r/\t v σ H λbX H'=>u r bX H' Q
def ud:IB X [] Bt:=by
 intro aa s σ H vs us Q I r h
 obtain⟨e,h⟩:=h
 subst e
 cases r
 exact assignInOrder_nil ⟨σ,H,I,h⟩
def lu(h1:PG X e t)(h2:IB X es u)
  (hs:(assignEach (e::es) X.env).map (·.2)=assign e X.env::(assignEach es X.env).map (·.2):=by rfl):IB X (e::es) (nG t u):=by
 intro aa s σ H vs us Q I r h
 obtain⟨v,vr,e1,h⟩:=h
 subst e1
 cases r with
 |cons r rr=>
  rw[hs]
  refine assignInOrder_cons (bI (h1 aa s σ H _ _ _ I r h) λ_ s1 zz=>?_)
  obtain⟨Fx,H1,I1,q1⟩:=zz
  exact h2 aa s1 Fx H1 _ _ Q I1 rr q1
def NU(K:PySem.W.Frag)(n:Nat)(t:Fw):TG:=λv σ H Q=>∃a xs,v= .ref a/\dF K H a xs/\xs.length=n/\t xs σ H Q
def Fy(hc:X.calm=true)(h:IB X es t)
  (hn:(assignEach es X.env).length =n:=by rfl) (mY:(assignEach es X.env).findIdx? (·.1)=none:=by rfl):PG X (.Tuple es k pos) (NU X.K n t):=by
 intro aa s σ H v u Q I r hw
 refine au λnO=>?_
 obtain⟨a,xs,e1,hq,hl,hw⟩:=hw
 subst e1
 cases r
 obtain⟨its,rv,ht,hz⟩:=I.tuple hq
 refine nO<|assign_Tuple_tuple (I.ok.hd hc) ht (by simp[hn,<-hl,rv.length]) mY λh' hx=>?_
 have I1:Inv X aa σ H {s with heap:=h'}:=I.kept (t':=s.toks) λb o e=>hx b o (W2 (WH e)) e
 exact h aa _ σ H xs _ Q I1 (by simpa using rv) hw
def NV(to ti:TE)(t:Jt):TG:=λv σ H Q=>to σ H λo H1=>ti σ H1 λi H2=>t o i v H2 λH3=>Q σ H3
def Fz(ho:PE X o to)(hi:PE X i ti)(hs:Ju X t)
  (ha:∀v,assign (.Subscript o i pos) X.env v=(do
   let ov<-holding [v] (eval o X.env)
   let iv<-holding [v,ov] (eval i X.env)
   standAt pos
   holding [v,ov,iv] (setItem ov iv v)
   release [v,ov,iv] []):=by intro _;rfl):PG X (.Subscript o i pos) (NV to ti t):=by
 intro aa s σ H v u Q I r h
 rw[ha]
 refine Wn (Xf (bI (ho aa s σ H _ I h) λov s1 zz=>?_))
 refine bC zz λx H1 I1 r1 q1=>Wn (Xf (bI (hi aa s1 σ H1 _ I1 q1) λiv s2 zz=>?_))
 refine bC zz λy H2 I2 r2 q2=>Wn (ZZ (Wn (Xf (bI (hs aa s2 σ H2 x y v ov iv u _ I2 r1 r2 r q2) λ_ s3 zz=>?_))))
 exact ae zz λH3 I3 q3=>wpAny_release ⟨σ,H3,I3,q3⟩
def mZ(te:TE)(g:TG):TS:=λD σ H=>te σ H λx H1=>g x σ H1 D.nx
def FA(he:PE X e te)(hg:PG X tg g)(hs:swapsWithSole [tg] e pos.line X.env=pure false:=by rfl)(hw:swappedStores [tg] e X.env=pure none:=by rfl)
  (h1:(assignEach [tg] X.env).map (·.2)=[assign tg X.env]:=by rfl):PS X (.Assign [tg] e pos) (mZ te g):=by
 intro aa s σ H D I h
 refine wpAny_Assign_stores (bI (he aa s σ H _ I h) λv s1 zz=>bC zz λx H1 I1 r1 q1=>?_) hs hw
 rw[h1]
 exact bI (hg aa s1 σ H1 x v _ I1 r1 q1) λ_ s2 q=>q
def gn(hN:X.N.Nodup)(hi:X.N[i]?=some x)(hx:Loc X.env.scope x)(he:PE X e te)(hs:swapsWith e (some (.Name x qj)) pos.line X.env=pure false:=by rfl)(hf:X.fn x=true\/X.env.scope.names.lookup x=some .local :=by first|exact .inl rfl|exact .inr rfl|assumption):
  PS X (.Assign [.Name x qj] e pos) (mZ te (b9 i)):=by
 intro aa s σ H D I h
 refine wpAny_Assign_Name (bI (he aa s σ H _ I h) λv s1 zz=>bC zz λy H1 I1 r1 q1=>?_) hs
 exact qh I1 hN hi hx r1 (λs2 I2=>⟨_,H1,I2,q1⟩) hf
def FC(c:TT)(tb:TS):TS:=λD σ H=>∃W:Nat->St->Hp->Prop,(∃m,W m σ H)/\∀m σ H,W m σ H->
 c σ H λb H1=>if b=true then∃N:St->Hp->Prop,(∀bX H',N bX H'->∃m',m'<m/\W m' bX H')/\tb {D with nx:=N,ct:=N,bk:=D.nx} σ H1 else D.nx σ H1
def qk(hp:PassesOwn (model X.prog X.w) X.A X.env X.xe)(hc:PT X c tc)(hb:kK X body tb):PS X (.While c body [] pos) (FC tc tb):=by
 intro aa s σ H D I h
 refine au λnO=>?_
 obtain⟨W,⟨m0,w0⟩,turn⟩:=h
 refine nO ?_
 refine wpAny_While (codeAny_whileLoop (λn s'=>∃bX H',Inv X aa bX H' s'/\W n bX H') ?_ m0 ⟨σ,H,I,w0⟩)
 rintro n s1 ⟨Fx,H1,I1,w1⟩
 refine Yo hp (bI (hc aa s1 Fx H1 _ I1 (turn n Fx H1 w1)) λb s2 zz=>?_)
 refine ae zz λH2 I2 q2=>?_
 cases b with
 |true=>
  refine ae q2 λN hN q2=>?_
  rw[WO rfl]
  refine Yo hp (bI (hb aa s2 Fx H2 _ I2 q2) λf s3 q3=>?_)
  cases f with
  |next=>
   exact au λnO=>ik q3 λv5 H3 I3 n3=>ae (hN v5 H3 n3) λm' hm w3=>nO<|⟨m',hm,v5,H3,I3,w3⟩
  |cont=>
   exact au λnO=>ik q3 λv5 H3 I3 n3=>ae (hN v5 H3 n3) λm' hm w3=>nO<|⟨m',hm,v5,H3,I3,w3⟩
  |brk=>exact q3
  |ret v=>exact q3
 |false=>
  rw[WV Wt]
  exact aad ⟨Fx,H2,I2,q2⟩
end
structure It where
 go:Nat->Hp->Prop
 xV:Nat->Hp->V->Hp->Prop
 stop:Nat->Hp->Prop
def kr(X:Cx)(aa:List (Addr×Obj))(H:Hp)(b:Addr):Prop:=
 H b=none/\b≠X.env.locals/\b∉X.fs/\(b∈X.ex\/X.s₀.heap.objs.size<=b)/\(∀x c,X.env.cells.lookup x=some c->c≠b)/\∀p∈X.pn++aa,p.1≠b
def Inv.so(I:Inv X aa σ H s)(hb:s.heap.objs.size<=b)(hn:H' b=none):kr X aa H' b:=by
 refine⟨hn,aaG (Xa I.lt hb),I.NN hb,.inr (Xu I.sz hb),λx c e z=>?_,λp hp z=>?_⟩
 .obtain⟨v,q⟩:=I.cell x c e
  exact absurd (Xa q.lt (by rw[z];exact hb)) (Xv _)
 .exact absurd (Xa (WH (I.pin p hp).1) (by rw[z];exact hb)) (Xv _)
structure oP(P:Program)(w:World)(K:PySem.W.Frag)(tg:Expr)(J:It)(fp:List Addr)(it:Addr)(tn:Nat->Heap->Prop):Prop where
 mem:it∈fp
 obj:∀i h,tn i h->∀b∈fp,∃o,h.get? b=some o/\∀v,o.data≠ .cell v
 keep:∀i h h',tn i h->(∀b∈fp,∀o,h.get? b=some o->h'.get? b=some o)->tn i h'
 item:∀(X:Cx),X.prog=P->X.w=w->X.K=K->X.calm=true->∀(i:Nat) (aa:List (Addr×Obj)) (s:Shared) (σ:St) (H:Hp) (E:Value->Shared->Prop),Inv X aa σ H s->(∀b∈fp,kr X aa H b)->tn i s.heap->J.go i H->
  wpAny (model P w) X.A (pyNext (.ref it)) (λr s1=>∃u,r=some u/\
   wpAny (model P w) X.A (letOwnedTupleGo tg (.ref it) u) (λ_ s2=>∃x H',Inv X aa σ H' s2/\RelV x u/\J.xV i H x H'/\tn (i+1) s2.heap/\∀b∈fp,H' b=none) E s1) E s
 done:∀(X:Cx),X.prog=P->X.w=w->X.K=K->X.calm=true->∀(i:Nat) (aa:List (Addr×Obj)) (s:Shared) (σ:St) (H:Hp) (E:Value->Shared->Prop),Inv X aa σ H s->(∀b∈fp,kr X aa H b)->tn i s.heap->J.stop i H->
  wpAny (model P w) X.A (pyNext (.ref it)) (λr s1=>r=none/\Inv X aa σ H s1) E s
 self:∀(A:Around) (i:Nat) (s:Shared) (Q:Value->Shared->Prop) (E:Value->Shared->Prop),tn i s.heap->Q (.ref it) s->wpAny (model P w) A (pyIter (.ref it)) Q E s
abbrev TI:=St->Hp->(It->Hp->Prop)->Prop
def Ra(X:Cx)(aa:List (Addr×Obj))(σ:St)(tg:Expr)(R:It->Hp->Prop)(ML:Value)(s2:Shared):Prop:=
 ∃(it:Addr) (fp:List Addr) (tn:Nat->Heap->Prop) (J:It) (H':Hp),ML= .ref it/\Inv X aa σ H' s2/\oP X.prog X.w X.K tg J fp it tn/\tn 0 s2.heap/\(∀b∈fp,kr X aa H' b)/\R J H'
def PI(X:Cx)(tg iter:Expr)(wi:TI):Prop:=
 ∀(aa:List (Addr×Obj)) (s:Shared) (σ:St) (H:Hp) (R:It->Hp->Prop),Inv X aa σ H s->wi σ H R->
  wpAny (model X.prog X.w) X.A (eval iter X.env) (λv s1=>wpAny (model X.prog X.w) X.A (pyIter v) (Ra X aa σ tg R) X.xe s1) X.xe s
def nH(ho:s.heap.get? it=some o)(hc:o.cls= .type n)(hd:o.data= .fields vs)
  (hn:["enumerate","zip","dict_itemiterator","dict_reverseitemiterator","odict_iterator","itertools.zip_longest","itertools.pairwise"].contains n=false) (hQ:Q () s):wpAny M A (letOwnedTupleGo tg (.ref it) u) Q E s:=by
 unfold letOwnedTupleGo
 cases tg<;>first
  |exact Wv hQ
  |(cases u<;>first
    |exact Wv hQ
    |(refine Wn (wpAny_load ho ?_);rw[hc,hd];show wpAny M A (if(["enumerate","zip","dict_itemiterator","dict_reverseitemiterator","odict_iterator","itertools.zip_longest","itertools.pairwise"].contains n&&vs[0]? == some (rawInt _))=true then _ else _) Q E s;rw[WV (by intro h;rw[hn,Bool.false_and]at h;cases h)];exact Wv hQ))
noncomputable def NW(K:PySem.W.Frag)(a:Addr):It:=
 ⟨λi H=>∃xs x,c9 K H a xs/\xs[i]?=some x,λi H x H'=>H'=H/\∀xs,c9 K H a xs->xs[i]?=some x,λi H=>∃xs,c9 K H a xs/\xs.length<=i⟩
noncomputable def NX(K:PySem.W.Frag)(a:Addr):It:=
 ⟨λi H=>∃xs x,dF K H a xs/\xs[i]?=some x,λi H x H'=>H'=H/\∀xs,dF K H a xs->xs[i]?=some x,λi H=>∃xs,dF K H a xs/\xs.length<=i⟩
noncomputable def MM(lo:Int)(n:Nat):It:=⟨λi _=>i<n,λi H x H'=>H'=H/\x= .int (lo+i),λi _=>n<=i⟩
def v8{P:Program}{w:World}{K:PySem.W.Frag}{tg:Expr}(a it:Addr):oP P w K tg (NW K a) [it] it (λi h=>h.IsListIter it a i) where
 mem:=by simp
 obj:=λi h st b hb=>by
  have e:b=it:=by simpa using hb
  subst e
  exact bL st λo e c d=>⟨o,e,λv z=>by rw[d]at z;cases z⟩
 keep:=λi h h' st k=>st.at λo e=>k it (by simp) o e
 item:=by
  intro X hP hw hK hc i aa s σ H E I hf st hg
  subst hP hw hK
  refine ik hg λxs x hq hx=>bL (I.list hq) λits rv p hz=>ae (rv.get hx) λu hu ru=>rZ (hf it (by simp)) λf0 f1 f2 f3 f4 f5=>Z_ st p.isList (x:=u) (by simpa using hu) λh' ak sb=>?_
  have I1:Inv X aa σ H {s with heap:=h'}:=I.turned (t':=s.toks) (λb o hb e=>(sb.2 b hb).trans e) f0 f1 f3 f4 f5
  exact bL (id ak) λo e c d=>⟨u,rfl,nH (s:={s with heap:=h'}) e c d (by decide) ⟨x,H,I1,ru,⟨rfl,λys hy=>by rw[I.qi hy hq];exact hx⟩,ak,λb hb=>(hf b hb).1⟩⟩
 done:=by
  intro X hP hw hK hc i aa s σ H E I hf st hg
  subst hP hw hK
  refine ae hg λxs hq hx=>bL (I.list hq) λits rv p hz=>rZ (hf it (by simp)) λf0 f1 f2 f3 f4 f5=>?_
  have hl:=rv.length
  exact wpAny_pyNext_list_end (I.ok.hd hc) st p.isList (by simp;lia) λh' eb=>⟨rfl,I.turned (t':=s.toks) (λb o hb e=>eb b o hb e) f0 f1 f3 f4 f5⟩
 self:=λ_ _ _ _ _ st h=>wpAny_pyIter_listiter st h
def sq{P:Program}{w:World}{K:PySem.W.Frag}{tg:Expr}(a it:Addr):oP P w K tg (NX K a) [it] it (λi h=>h.IsTupleIter it a i) where
 mem:=by simp
 obj:=λi h st b hb=>by
  have e:b=it:=by simpa using hb
  subst e
  exact bL st λo e c d=>⟨o,e,λv z=>by rw[d]at z;cases z⟩
 keep:=λi h h' st k=>st.at λo e=>k it (by simp) o e
 item:=by
  intro X hP hw hK hc i aa s σ H E I hf st hg
  subst hP hw hK
  refine ik hg λxs x hq hx=>bL (I.tuple hq) λits rv p hz=>ae (rv.get hx) λu hu ru=>rZ (hf it (by simp)) λf0 f1 f2 f3 f4 f5=>wpAny_pyNext_tuple_item st (show s.heap.IsTuple a its.toArray from p) (x:=u) (by simpa using hu) λh' ak sb=>?_
  have I1:Inv X aa σ H {s with heap:=h'}:=I.turned (t':=s.toks) (λb o hb e=>(sb.2 b hb).trans e) f0 f1 f3 f4 f5
  exact bL (id ak) λo e c d=>⟨u,rfl,nH (s:={s with heap:=h'}) e c d (by decide) ⟨x,H,I1,ru,⟨rfl,λys hy=>by rw[I.jF hy hq];exact hx⟩,ak,λb hb=>(hf b hb).1⟩⟩
 done:=by
  intro X hP hw hK hc i aa s σ H E I hf st hg
  subst hP hw hK
  refine ae hg λxs hq hx=>bL (I.tuple hq) λits rv p hz=>rZ (hf it (by simp)) λf0 f1 f2 f3 f4 f5=>?_
  have hl:=rv.length
  exact wpAny_pyNext_tuple_end (I.ok.hd hc) st (show s.heap.IsTuple a its.toArray from p) (by simp;lia) λh' eb=>⟨rfl,I.turned (t':=s.toks) (λb o hb e=>eb b o hb e) f0 f1 f3 f4 f5⟩
 self:=λ_ _ _ _ _ st h=>wpAny_pyIter_tupleiter st h
def sv{P:Program}{w:World}{K:PySem.W.Frag}{tg:Expr}(it:Addr)(lo:Int)(n:Nat):oP P w K tg (MM lo n) [it] it (λi h=>IsRangeIter h it (lo+(i:Nat)*1) ((n:Int)-(i:Nat)) 1) where
 mem:=by simp
 obj:=λi h st b hb=>by
  have e:b=it:=by simpa using hb
  subst e
  exact⟨_,st,λv z=>by
   have z':Data.fields _=Data.cell v:=z
   cases z'⟩
 keep:=λi h h' st k=>k it (by simp) _ st
 item:=by
  intro X hP hw hK hc i aa s σ H E I hf st hg
  subst hP hw hK
  refine rZ (hf it (by simp)) λf0 f1 f2 f3 f4 f5=>?_
  have W:=Walks.range (prog:=X.prog) (w:=X.w) (I.ok.hd hc) it lo 1 n
  refine W.item i s _ _ hg st λv h' tk hv ak kk=>?_
  obtain⟨t,rfl⟩:=hv
  have I1:Inv X aa σ H {s with heap:=h',toks:=tk}:=I.turned (λb o hb e=>kk b o (by simpa using hb) e) f0 f1 f3 f4 f5
  refine⟨_,rfl,nH (s:={s with heap:=h',toks:=tk}) (n:="range_iterator") ak rfl rfl (by decide) ⟨.int (lo+i),H,I1,⟨t,?_⟩,⟨rfl,rfl⟩,ak,λb hb=>(hf b hb).1⟩⟩
  rw[Int.mul_one]
 done:=by
  intro X hP hw hK hc i aa s σ H E I hf st hg
  subst hP hw hK
  exact rZ (hf it (by simp)) λf0 f1 f2 f3 f4 f5=>wpAny_pyNext_range_end (I.ok.hd hc) st (by have:n<=i:=hg;lia) λh' eb=>⟨rfl,I.turned (t':=s.toks) (λb o hb e=>eb b o hb e) f0 f1 f3 f4 f5⟩
 self:=λ_ _ _ _ _ st h=>wpAny_pyIter_rangeiter st h
section
variable {X:Cx}{tg:Expr}
def xW{aa:List (Addr×Obj)}{σ:St}{H:Hp}{s:Shared}{R:It->Hp->Prop}{E:Value->Shared->Prop}{lo hi:Int}{t u v:Tok}{tk:Nat}(I:Inv X aa σ H s)(h1: -(2 ^ 62)<=lo)(h2:lo<2 ^ 62)(h3: -(2 ^ 62)<=hi)(h4:hi<2 ^ 62)
  (q:R (MM lo (hi-lo).toNat) H):wpAny (model X.prog X.w) X.A (pyIter (.ref s.heap.objs.size)) (Ra X aa σ tg R) E {s with heap:=s.heap.push {cls:= .type "range",data:= .fields #[.int lo t,.int hi u,.int 1 v]},toks:=tk}:=by
 refine wpAny_pyIter_range (IsRange.new ..) (small_one h1 h2 h3 h4) ?_
 have I1:Inv X aa σ H {s with heap:=s.heap.push {cls:= .type "range",data:= .fields #[.int lo t,.int hi u,.int 1 v]},toks:=tk}:=I.kept λb o e=>Wo _ e
 refine⟨(s.heap.push {cls:= .type "range",data:= .fields #[.int lo t,.int hi u,.int 1 v]}).objs.size,[(s.heap.push {cls:= .type "range",data:= .fields #[.int lo t,.int hi u,.int 1 v]}).objs.size],_,_,H,rfl,
  I1.kept (t':=tk) λb o e=>Wo _ e,sv _ lo (hi-lo).toNat,?_,λb hb=>?_,q⟩
 .have e1:lo+((0:Nat):Int)*1=lo:=by simp
  have e2:(((hi-lo).toNat :Nat):Int)-((0:Nat):Int)=Builtin.Range.rangeSize lo hi 1:=by rw[rangeSize_one];split<;>lia
  show IsRangeIter _ _ (lo+((0:Nat):Int)*1) ((((hi-lo).toNat :Nat):Int)-((0:Nat):Int)) 1
  rw[e1,e2]
  exact WB _ rfl
 .have e:b=(s.heap.push {cls:= .type "range",data:= .fields #[.int lo t,.int hi u,.int 1 v]}).objs.size :=by simpa using hb
  subst e
  exact I1.so (WE _) (I1.aR.fresh (WE _))
def Jv(ta:TA):TI:=λσ H R=>ta σ H λvs H1=>∃j:Int,vs=[.int j]/\ -(2 ^ 62)<=j/\j<2 ^ 62/\R (MM 0 j.toNat) H1
def v_{a:Expr}{ta:TA}{p pos:Pos}(hg:Gl X "range")(hm:X.mg "range"=none)(ha:PA X [a] ta)(hs:starEach [a] X.env=[(false,eval a X.env)]:=by rfl):PI X tg (.Call (.Name "range" p) [a] [] pos) (Jv ta):=by
 intro aa s σ H R I h
 refine Call_ (jE I hg hm boot_range (XY (bI (ha pos aa s σ H _ I h) λus s1 zz=>bC zz λvs H1 I1 r1 q1=>?_) hs rfl))
 obtain⟨j,e,q1,q2,q⟩:=q1
 subst e
 cases r1 with
 |cons r rr=>
  cases rr
  obtain⟨t,rfl⟩:=r
  exact call_range_1 (xW I1 (by lia) (by lia) q1 q2 (by simpa using q))
def NY(wi:TI)(g:TG)(tb:TS):TS:=λD σ H=>wi σ H λJ H1=>∃W:Nat->Nat->St->Hp->Prop,(∃m,W 0 m σ H1)/\∀i m σ H,W i m σ H->
 (J.stop i H/\D.nx σ H)\/(J.go i H/\∃N:St->Hp->Prop,(∀bX H',N bX H'->∃m',m'<m/\W (i+1) m' bX H')/\∀x H',J.xV i H x H'->g x σ H' λxD H2=>tb {D with nx:=N,ct:=N,bk:=D.nx} xD H2)
noncomputable def lz(fp:List Addr)(h:Heap):List (Addr×Obj):=fp.filterMap λb=>(h.get? b).map λo=>(b,o)
def fE(hb:b∈fp)(e:h.get? b=some o):(b,o)∈lz fp h:=aax.mpr ⟨b,hb,by rw[e];rfl⟩
def wa(hp:p∈lz fp h):p.1∈fp/\h.get? p.1=some p.2:=by
 refine ae (aax.mp hp) λb hb e=>?_
 cases q:h.get? b with
 |none=>rw[q]at e;cases e
 |some o=>
  rw[q]at e
  have e':(b,o)=p:=WU e
  subst e'
  exact⟨hb,q⟩
def Inv.pinned(I:Inv X aa σ H s)(hf:∀b∈fp,kr X aa H b)(ho:∀b∈fp,∃o,s.heap.get? b=some o/\∀v,o.data≠ .cell v):Inv X (aa++lz fp s.heap) σ H s:=
 I.t_ λp hp=>(WQ.mp hp).elim (λz=>I.pin p (WN _ z)) λz=>by
  refine au λnO=>?_
  obtain⟨hb,e⟩:=wa z
  refine xC (hf p.1 hb) λf0 f1 f2 _=>ae (ho p.1 hb) λo e' d=>nO ?_
  rw[e]at e';cases e'
  exact⟨e,f0,f1,f2,d⟩
def Inv.iO(I:Inv X (aa++pl) σ H s):Inv X aa σ H s:=I.t_ λp hp=>I.pin p (WN _ (WY _ hp))
def FD(hp:PassesOwn (model X.prog X.w) X.A X.env X.xe)(hc:X.calm=true)(hi:PI X tg iter wi)(hg:PG X tg g)(hb:kK X body tb)
  (hs:∀x,foldedSetIterable iter X.env x=pure x:=by intro _;rfl):PS X (.For tg iter body [] pos) (NY wi g tb):=by
 intro aa s σ H D I h
 refine wpAny_For (bI (hi aa s σ H _ I h) λv s1 h1=>bI h1 λML s2 h2=>?_) hs
 refine au λnO=>?_
 obtain⟨it,fp,tn,J,H2,e,I2,T,cB,f2,W,⟨m0,w0⟩,turn⟩:=h2
 subst e
 refine nO ?_
 have sA:∀{H':Hp},(∀b∈fp,H' b=none)->∀b∈fp,kr X aa H' b:=λhn b hb=>⟨hn b hb,(f2 b hb).2⟩
 refine codeAny_forLoop_any (λn s'=>∃i bX H',Inv X aa bX H' s'/\tn i s'.heap/\(∀b∈fp,H' b=none)/\W i n bX H') ?_ m0 ⟨0,σ,H2,I2,cB,λb hb=>(f2 b hb).1,w0⟩
 rintro n s3 ⟨i,v5,H3,I3,ku,Rb,w3⟩
 rcases turn i n v5 H3 w3 with⟨stop,qn⟩|⟨go,N,hN,step⟩
 .refine Yo hp (bI (T.done X rfl rfl rfl hc i aa s3 v5 H3 X.xe I3 (sA Rb) ku stop) λr s4 zz=>?_)
  obtain⟨hr,I4⟩:=zz
  subst hr
  exact aad ⟨v5,H3,I4,qn⟩
 .refine Yo hp (bI (T.item X rfl rfl rfl hc i aa s3 v5 H3 X.xe I3 (sA Rb) ku go) λr s4 zz=>?_)
  refine au λnO=>ae zz λu hr h4=>?_
  subst hr
  refine nO ?_
  refine Yo hp (bI h4 λ_ s5 zz=>?_)
  refine au λnO=>kc zz λx H5 I5 r5 y5 wc MN=>nO ?_
  have S_:=I5.pinned (sA MN) (T.obj _ _ wc)
  refine Yo hp (bI (hg _ s5 v5 H5 x u _ S_ r5 (step x H5 y5)) λ_ s6 zz=>?_)
  refine au λnO=>ik zz λTa H6 I6 q6=>nO ?_
  refine Yo hp (bI (hb _ s6 Ta H6 _ I6 q6) λf s7 q7=>?_)
  have again:∀{xX:St}{H7:Hp},Inv X (aa++lz fp s5.heap) xX H7 s7->N xX H7->∃m,m<n/\∃i bX H',Inv X aa bX H' s7/\tn i s7.heap/\(∀b∈fp,H' b=none)/\W i m bX H':=λ{xX H7} I7 n7=>by
   refine ae (hN xX H7 n7) λm' hm w7=>⟨m',hm,i+1,xX,H7,I7.iO,T.keep _ _ _ wc λb hb o e=>(I7.pin (b,o) (WN _ (WN _ (fE hb e)))).1,λb hb=>?_,w7⟩
   exact ae (T.obj _ _ wc b hb) λo e d=>(I7.pin (b,o) (WN _ (WN _ (fE hb e)))).2.1
  cases f with
  |next=>obtain⟨xX,H7,I7,n7⟩:=q7;exact again I7 n7
  |cont=>obtain⟨xX,H7,I7,n7⟩:=q7;exact again I7 n7
  |brk=>obtain⟨xX,H7,I7,q7⟩:=q7;exact⟨xX,H7,I7.iO,q7⟩
  |ret v=>obtain⟨x7,xX,H7,I7,r7,q7⟩:=q7;exact⟨x7,xX,H7,I7.iO,r7,q7⟩
end
abbrev R2:=V->V->Hp->VK->Prop
def nI(X:Cx)(f:Value->Value->Sem Value)(r:R2):Prop:=
 ∀(aa:List (Addr×Obj)) (s:Shared) (σ:St) (H:Hp) (x y:V) (v u:Value) (Q:VK),Inv X aa σ H s->RelV x v->RelV y u->r x y H Q->
  wpAny (model X.prog X.w) X.A (f v u) (EP X aa σ Q) X.xe s
def cH(X:Cx)(f:Value)(r:List V->Hp->VK->Prop):Prop:=
 ∀(aa:List (Addr×Obj)) (s:Shared) (σ:St) (H:Hp) (xs:List V) (us:List Value) (Q:VK),Inv X aa σ H s->aD xs us->r xs H Q->
  wpAny (model X.prog X.w) X.A (call f us) (EP X aa σ Q) X.xe s
def NZ(X:Cx)(r:V->Hp->(Bool->Hp->Prop)->Prop):Prop:=
 ∀(aa:List (Addr×Obj)) (s:Shared) (σ:St) (H:Hp) (x:V) (v:Value) (Q:Bool->Hp->Prop),Inv X aa σ H s->RelV x v->r x H Q->
  wpAny (model X.prog X.w) X.A (truthy v) (TP X aa σ Q) X.xe s
def Ea(r:R2)(ta tb:TE):TE:=λσ H Q=>ta σ H λx H1=>tb σ H1 λy H2=>r x y H2 Q
def rI(C:Int->Int->Prop)(g:Int->Int->V):R2:=λx y H Q=>∃i j,x= .int i/\y= .int j/\C i j/\Q (g i j) H
def Jw(g:Int->Int->V):R2:=λx y H Q=>∃i j,x= .int i/\y= .int j/\Q (g i j) H
section
variable {X:Cx}{a b c:Expr}{ta tb tc:TE}{pos:Pos}
def FF(ha:PE X a ta)(hb:PE X b tb){aa:List (Addr×Obj)}{s:Shared}{σ:St}{H:Hp}{R:V->V->Hp->Prop}(I:Inv X aa σ H s)
  (h:ta σ H λx H1=>tb σ H1 λy H2=>R x y H2) {Q:Value->Shared->Prop}{f:Value->Value->Sem Value}
  (hf:∀v u s2 x y H2,Inv X aa σ H2 s2->RelV x v->RelV y u->R x y H2->wpAny (model X.prog X.w) X.A (f v u) Q X.xe s2):
  wpAny (model X.prog X.w) X.A (eval a X.env) (λv aZ=>wpAny (model X.prog X.w) X.A (eval b X.env) (λu lj=>wpAny (model X.prog X.w) X.A (f v u) Q X.xe lj) X.xe aZ) X.xe s:=by
 exact bI (ha aa s σ H _ I h) λv s1 zz=>bC zz λx H1 I1 r1 q1=>bI (hb aa s1 σ H1 _ I1 q1) λu s2 zz=>bC zz λy H2 I2 r2 q2=>hf v u s2 x y H2 I2 r1 r2 q2
def ql{op:Operator}{r:R2}(ho:nI X (binaryOp op) r)(ha:PE X a ta)(hb:PE X b tb):PE X (.BinOp a op b pos) (Ea r ta tb):=by
 intro aa s σ H Q I h
 exact wpAny_BinOp (FF ha hb I h λv u s2 x y H2 I2 rx ry q=>ho aa s2 σ H2 x y v u Q I2 rx ry q)
def N0{f:Value->Value->Sem Value}{C:Int->Int->Prop}{g:Int->Int->Int}
  (rule:∀(i j:Int) (t u:Tok) (s:Shared) (Q:Value->Shared->Prop) (E:Value->Shared->Prop),C i j->Q (.int (g i j) s.toks) {s with toks:=s.toks+1}->wpAny (model X.prog X.w) X.A (f (.int i t) (.int j u)) Q E s):
  nI X f (rI C λi j=> .int (g i j)):=by
 intro aa s σ H x y v u Q I rx ry h
 refine gM h λi j aj aU hc q=>?_
 try clear h
 subst aj
 subst aU
 obtain⟨t,rfl⟩:=rx
 obtain⟨t',rfl⟩:=ry
 exact rule i j t t' s _ _ hc ⟨.int (g i j),H,I.tok _,⟨_,rfl⟩,q⟩
def N1{f:Value->Value->Sem Value}{g:Int->Int->Int}
  (rule:∀(i j:Int) (t u:Tok) (s:Shared) (Q:Value->Shared->Prop) (E:Value->Shared->Prop),Q (.int (g i j) s.toks) {s with toks:=s.toks+1}->wpAny (model X.prog X.w) X.A (f (.int i t) (.int j u)) Q E s):
  nI X f (Jw λi j=> .int (g i j)):=by
 intro aa s σ H x y v u Q I rx ry h
 refine bC h λi j aj aU q=>?_
 try clear h
 subst aj
 subst aU
 obtain⟨t,rfl⟩:=rx
 obtain⟨t',rfl⟩:=ry
 exact rule i j t t' s _ _ ⟨.int (g i j),H,I.tok _,⟨_,rfl⟩,q⟩
def N2{f:Value->Value->Sem Value}{g:Int->Int->Bool}
  (rule:∀(i j:Int) (t u:Tok) (s:Shared) (Q:Value->Shared->Prop) (E:Value->Shared->Prop),Q (.bool (g i j)) s->wpAny (model X.prog X.w) X.A (f (.int i t) (.int j u)) Q E s):
  nI X f (Jw λi j=> .bl (g i j)):=by
 intro aa s σ H x y v u Q I rx ry h
 refine bC h λi j aj aU q=>?_
 try clear h
 subst aj
 subst aU
 obtain⟨t,rfl⟩:=rx
 obtain⟨t',rfl⟩:=ry
 exact rule i j t t' s _ _ ⟨.bl (g i j),H,I,rfl,q⟩
def N3(i j:Int):Prop:=0<j/\j<1073741824
def Bu(i j:Int):Prop:=(-(2 ^ 64)<i/\i<2 ^ 64)\/(-(2 ^ 64)<j/\j<2 ^ 64)
def Bu.ok(h:Bu i j):IntMulOk i j:=by
 rcases h with⟨h1,h2⟩|⟨h1,h2⟩
 .exact .of_left (intBits_le_64 h1 h2)
 .exact .of_right (intBits_le_64 h1 h2)
def FG:nI X (binaryOp .Add) (Jw λi j=> .int (i+j)):=N1 λ_ _ _ _ _ _ _ q=>add_int q
def FH:nI X (binaryOp .Mult) (rI Bu λi j=> .int (i*j)):=N0 λ_ _ _ _ _ _ _ hc q=>mul_int q hc.ok
def Bv:nI X (binaryOp .FloorDiv) (rI N3 λi j=> .int (i/j)):=N0 λi j _ _ _ _ _ hc q=>by
 have h1:(0:Int)<j:=hc.1
 have h2:j<1073741824:=hc.2
 exact floordiv_int (by lia) (by rw[Int.fdiv_eq_ediv_of_nonneg i (by lia)];exact q) (.inl (PyProof.noPylong_small (by lia)))
def FI:nI X (binaryOp .Mod) (rI (λ_ j=>0<j) λi j=> .int (i%j)):=N0 λi j _ _ _ _ _ hc q=>by
 have h1:(0:Int)<j:=hc
 exact mod_int' (by lia) (by rw[Int.fmod_eq_emod_of_nonneg i (by lia)];exact q)
def Jx:nI X (compareOp .Lt) (Jw λi j=> .bl (decide (i<j))):=N2 λ_ _ _ _ _ _ _ q=>lt_int q
def nI.or(h:nI X f r)(h':nI X f r'):nI X f (λx y H Q=>r x y H Q\/r' x y H Q):=by
 intro aa s σ H x y v u Q I rx ry q
 rcases q with q|q
 .exact h aa s σ H x y v u Q I rx ry q
 .exact h' aa s σ H x y v u Q I rx ry q
def Bw{op:CmpOp}{r:R2}(ho:nI X (compareOp op) r)(ha:PE X a ta)(hb:PE X b tb)(hm:behindInMarks op b=false):PE X (.Compare a [op] [b] pos) (Ea r ta tb):=by
 intro aa s σ H Q I h
 exact wpAny_Compare1 (FF ha hb I h λv u s2 x y H2 I2 rx ry q=>ho aa s2 σ H2 x y v u Q I2 rx ry q) hm
def Jy(t:TE):TT:=λσ H Q=>t σ H λx H'=>∃k,x= .bl k/\Q k H'
def Bx(ho:nI X (compareOp op) r)(ha:PE X a ta)(hb:PE X b tb)(hm:behindInMarks op b=false):PT X (.Compare a [op] [b] pos) (Jy (Ea r ta tb)):=by
 intro aa s σ H Q I h
 refine wpAny_isTrue_Compare1 (bI (ha aa s σ H _ I h) λv s1 ⟨x,H1,I1,r1,q1⟩=>bI (hb aa s1 σ H1 _ I1 q1) λu s2 ⟨y,H2,I2,r2,q2⟩=>
  bI (ho aa s2 σ H2 x y v u _ I2 r1 r2 q2) λc s3 ⟨z,H3,I3,r3,k,e,q3⟩=>?_) hm
 subst e
 cases r3
 exact X3 ⟨H3,I3,q3⟩
def FJ(K:PySem.W.Frag)(x:V)(H:Hp)(k:Bool):Prop:=
 match x with
 | .fC =>k=false
 | .bl b=>k=b
 | .int i=>k=(i !=0)
 | .str y=>y.length<=sizeLine/\k=((y.length:Int) !=0)
 | .Je y=>y.size<=sizeLine/\k=((y.size:Int) !=0)
 | .ref p=>(∃xs,c9 K H p xs/\k=!xs.isEmpty)\/(∃xs,dF K H p xs/\k=!xs.isEmpty)\/∃aw,H p=some (.dK aw)/\k=!aw.isEmpty
 |_=>False
def sC(r:KV aw vs):(!vs.isEmpty)=!aw.isEmpty:=by
 cases r<;>rfl
def lA(r:aD xs its):(!its.toArray.isEmpty)=!xs.isEmpty:=by
 cases r<;>simp
def lB:(sizeLine:Nat)<2 ^ 63:=by rw[sizeLine_eq];decide
def FK:NZ X (λx H Q=>∃k,FJ X.K x H k/\Q k H):=by
 intro aa s σ H x v Q I rx h
 obtain⟨k,e,q⟩:=h
 have hl:=lB
 have hs:sizeLine=16777216:=sizeLine_eq
 cases x with
 |fC=>
  cases rx
  have e':k=false:=e
  subst e'
  exact truthy_none ⟨H,I,q⟩
 |bl b=>
  cases rx
  have e':k=b:=e
  subst e'
  exact X3 ⟨H,I,q⟩
 |int i=>
  obtain⟨t,rfl⟩:=rx
  have e':k=(i !=0):=e
  subst e'
  exact PySem.P.truthy_int ⟨H,I,q⟩
 |str y=>
  obtain⟨t,rfl⟩:=rx
  obtain⟨hy,e'⟩:y.length<=sizeLine/\k=((y.length:Int) !=0):=e
  subst e'
  exact PySem.P.truthy_str (by lia) ⟨H,I.tok _,q⟩
 |Je y=>
  obtain⟨t,rfl⟩:=rx
  obtain⟨hy,e'⟩:y.size<=sizeLine/\k=((y.size:Int) !=0):=e
  subst e'
  exact PySem.W.truthy_bytes (by lia) ⟨H,I.tok _,q⟩
 |ref p=>
  cases rx
  have e':(∃xs,c9 X.K H p xs/\k=!xs.isEmpty)\/(∃xs,dF X.K H p xs/\k=!xs.isEmpty)\/∃aw,H p=some (.dK aw)/\k=!aw.isEmpty:=e
  rcases e' with⟨xs,hx,e'⟩|⟨xs,hx,e'⟩|⟨aw,hx,e'⟩
  .refine au λnO=>?_
   subst e'
   obtain⟨its,r,pl,hz⟩:=I.list hx
   refine nO ?_
   have aS:=r.length
   exact wpAny_truthy_list pl.isList (by simp only[WA];lia) ⟨H,I.tok _,by rw[lA r];exact q⟩
  .refine au λnO=>?_
   subst e'
   obtain⟨its,r,pl,hz⟩:=I.tuple hx
   refine nO ?_
   have aS:=r.length
   exact truthy_tuple pl (by simp only[WA];lia) ⟨H,I.tok _,by rw[lA r];exact q⟩
  .subst e'
   obtain⟨hz,hS,vs,r,m⟩:aw.length<=sizeLine/\(p==sysModules)=false/\∃vs,KV aw vs/\s.heap.DictOf (bg X.prog X.w) p vs:=I.aR p _ hx
   have aS:aw.length=vs.length:=YJ r
   exact wpAny_truthy_dict hS m (by lia) ⟨H,I.tok _,by rw[sC r];exact q⟩
 |_=>exact(show False from e).elim
def lC(ha:PE X a ta)(he:∀whole,isTrue a X.env whole=(do let v<-whole;standAt a.pos;holding [v] (truthy v))):
  PT X a (λσ H Q=>ta σ H λx H'=>∃k,FJ X.K x H' k/\Q k H'):=by
 intro aa s σ H Q I h
 exact isTrue_plain (bI (ha aa s σ H _ I h) λv s1 zz=>bC zz λx H1 I1 r1 q1=>FK aa s1 σ H1 x v Q I1 r1 q1) (he _)
def vals1(r:aD [x] us):∃u,us=[u]/\RelV x u:=by
 cases r with
 |cons r1 r2=>cases r2;exact⟨_,rfl,r1⟩
end
section
variable {prog:Program}{w:World}{A:Around}{E:Value->Shared->Prop}{s:Shared}{K:PySem.W.Frag}{x dx C f:Addr}{mA:Str->Option Value}{name:Str}{v:Value}
end
noncomputable def FL(f:Str)(v:V):List (Str×V)->List (Str×V)
 |[]=>[(f,v)]
 |(g,x)::r=>if g=f then(g,v)::r else(g,x)::FL f v r
def mV.some_of(r:mV (some v) o):∃u,o=some u/\RelV v u:=by
 cases o with
 |none=>exact(show False from r).elim
 |some u=>exact⟨u,rfl,r⟩
section
variable {P:Program}{w:World}{H H':Hp}{h h':Heap}{a C dx:Addr}{fs S6:List (Str×V)}{X:Cx}{aa:List (Addr×Obj)}{σ:St}{s:Shared}{f:Str}{v:V}{A:Around}{E:Value->Shared->Prop}
end
section
variable {X:Cx}{o e value:Expr}{f:Str}{pos qj tpos:Pos}{ta tv:TE}
def FN:V->V->Hp->VK->Prop:=λx y H Q=>∃i j,x= .int i/\y= .int j/\Q (.int (i+j)) H
end
section
variable {X:Cx}{aa:List (Addr×Obj)}{σ:St}{H:Hp}{s:Shared}{A:Around}{E:Value->Shared->Prop}{Q:Value->Shared->Prop}{c:Value}{b:Bool}
end
structure eG(k:Nat)(A:Around):Prop where
 hd:A.handled=none
 dp:A.depth+3*k+5<recursionLimit
 un:A.units+16*k+200<cLine
def eG.mono(r:eG k A)(h:j<=k):eG j A:=⟨r.hd,by have:=r.dp;lia,by have:=r.un;lia⟩
theorem eG.deeper(r:eG (k+1) A)(env:Env):eG k (A.deeper env):=
 ⟨r.hd,by have:=r.dp;show A.depth+1+3*k+5<_;lia,by have:=r.un;show A.units+3+16*k+200<_;lia⟩
theorem eG.depth(r:eG k A):A.depth<recursionLimit:=by have:=r.dp;lia
theorem eG.units(r:eG k A):A.units+64<cLine:=by have:=r.un;lia
def lD:TA:=λ_ H Q=>Q [] H
def cO(ta:TE)(tr:TA):TA:=λσ H Q=>ta σ H λx H1=>tr σ H1 λxs H2=>Q (x::xs) H2
section
variable {X:Cx}{e:Expr}{es:List Expr}{te:TE}{t:TA}{pos:Pos}
def c_:PA X [] lD:=λ_ _ _ _ H Q I h=>Calls.spliced_nil ⟨[],H,I,.nil,h⟩
def cb(ha:PE X e te)(hr:PA X es t)(hs:starEach (e::es) X.env=(false,eval e X.env)::starEach es X.env:=by rfl):PA X (e::es) (cO te t):=by
 intro pos aa s σ H Q I h
 rw[hs]
 show wpAny _ _ (spliced ((false,eval e X.env)::backTo pos (starEach es X.env))) _ _ s
 refine Calls.spliced_cons (bI (ha aa s σ H _ I h) λu s1 zz=>?_)
 exact bC zz λx H1 I1 r1 q1=>bI (hr pos aa s1 σ H1 _ I1 q1) λus s2 zz=>bC zz λxs H2 I2 r2 q2=>⟨x::xs,H2,I2,.cons r1 r2,q2⟩
def N4(t:TA):TE:=λσ H Q=>t σ H λxs H1=>xs.length<=sizeLine/\∀p,H1 p=none->Q (.ref p) (upd H1 p (.tup xs))
def N5(t:TA):TE:=λσ H Q=>t σ H λxs H1=>xs.length<=sizeLine/\∀p,H1 p=none->Q (.ref p) (upd H1 p (.lst xs))
def FO(h:PA X es t):PE X (.Tuple es x1 pos) (N4 t):=by
 intro aa s σ H Q I hq
 refine wpAny_Tuple_spliced (bI (h pos aa s σ H _ I hq) λus s1 ⟨xs,H1,I1,r,z,q⟩=>⟨by rw[<-r.length];exact z,?_⟩)
 have hf:H1 s1.heap.objs.size=none:=I1.aR.fresh (WE _)
 refine⟨.ref s1.heap.objs.size,upd H1 s1.heap.objs.size (.tup xs),I1.laid (t':=s1.toks) (λb u e=>Wo _ e) (WE _) ?_,rfl,q _ hf⟩
 exact⟨z,us,r,jD.new _ _⟩
def FP(h:PA X es t):PE X (.List es pos) (N5 t):=by
 intro aa s σ H Q I hq
 refine wpAny_List_spliced (bI (h pos aa s σ H _ I hq) λus s1 ⟨xs,H1,I1,r,z,q⟩=>⟨by rw[<-r.length];exact z,?_⟩)
 have hf:H1 s1.heap.objs.size=none:=I1.aR.fresh (WE _)
 refine⟨.ref s1.heap.objs.size,upd H1 s1.heap.objs.size (.lst xs),I1.laid (t':=s1.toks) (λb u e=>Wo _ e) (WE _) ?_,rfl,q _ hf⟩
 exact⟨z,us,0,r,WB _ rfl⟩
end
abbrev Sp:=List V->Hp->VK->XK->Prop
abbrev xY:=List Env->Hp->Shared->XK->Value->Shared->Prop
structure By(P:Program)(w:World)(K:PySem.W.Frag)(mg:Str->Option Value)(base:Heap)(A:Around)(outer:List Env)(s:Shared)(H:Hp):Prop where
 frames:A.frames=some outer
 mod:Mod K mg base
 bs:∀b o,base.get? b=some o->s.heap.get? b=some o/\H b=none
 xQ:base.objs.size<=s.heap.objs.size
 lg:s.heap.FunFrames base outer
 IA:∀b∈xP outer,H b=none
 aR:iB P w H s.heap
 bare:AllBare s.gens
def CE(outer:List Env)(P:Program)(w:World)(H:Hp)(s:Shared)(Q:VK)(u:Value)(s':Shared):Prop:=
 ∃v H',s'.os=s.os/\AllBare s'.gens/\Un (xP outer) [] H H' s.heap s'.heap/\iB P w H' s'.heap/\RelV v u/\Q v H'
def CR(CX:xY)(outer:List Env)(P:Program)(w:World)(H:Hp)(s:Shared)(Q:VK)(E:XK)(r:Result)(s':Shared):Prop:=
 match r with
 | .ok (.ret u)=>CE outer P w H s Q u s'
 | .ok _=>False
 | .error e=>CX outer H s E e s'
structure iP(P:Program)(w:World)(K:PySem.W.Frag)(mg:Str->Option Value)(base:Heap)(CX:xY)(k:Nat)(f:Addr)(fd:FuncData)(ps:List Str)(sp:Sp):Prop where
 len:∀vs H Q E,sp vs H Q E->vs.length=ps.length
 run:∀(A:Around) (outer:List Env) (s:Shared) (H:Hp) (args:Args) (us:List Value) (vs:List V) (Q:VK) (E:XK),eG k A->By P w K mg base A outer s H->BindsTo s fd args (ps.zip us)->aD vs us->sp vs H Q E->
  codeAny (model P w) A (.call (.ref f) args) (CR CX outer P w H s Q E) s
section
variable {X:Cx}{aa:List (Addr×Obj)}{σ:St}{H:Hp}{s s':Shared}
def Inv.N6(I:Inv X aa σ H s):By X.prog X.w X.K X.mg X.base X.A X.stack s H:=
 ⟨I.ok.frames,I.ok.mod,I.bs,Xu I.ok.xQ I.sz,I.stack,I.t9,I.aR,I.bare⟩
def Inv.after(I:Inv X aa σ H s)(h:CE X.stack X.prog X.w H s Q u s'):EP X aa σ Q u s':=by
 refine NB h λv H' os bare un aR r q=>?_
 obtain⟨hh,g,d,t,Tb⟩:=s'
 obtain rfl:Tb=s.os:=os
 exact⟨v,H',I.call (h':=hh) (g':=g) (d':=d) (t':=t) (ch:=[]) un aR bare (λb z=>absurd z (by simp)),r,q⟩
end
def Jz(sp:Sp)(Bz:List V)(E:XK)(t:TA):TE:=λσ H Q=>t σ H λvs H1=>sp (vs++Bz) H1 Q E
def Binds(K:PySem.W.Frag)(fd:FuncData)(ps:List Str)(ds:List Value):Prop:=
 ∀(s:Shared) (us:List Value),K.In s.heap->(us++ds).length =ps.length->BindsTo s fd ⟨us,[]⟩ (ps.zip (us++ds))
def Binds.all{K:PySem.W.Frag}{fd:FuncData}{ps:List Str}(h:∀us:List Value,us.length=ps.length->bindArgs fd ⟨us,[]⟩=pure (ps.zip us)):Binds K fd ps []:=λs us _ hl=>by
 rw[W9]at hl⊢
 exact .of_eq (h us hl)
def sD(CX:xY)(X:Cx)(E:XK):Prop:=∀(aa:List (Addr×Obj)) (σ:St) (H:Hp) (s:Shared) (e:Value) (s':Shared),Inv X aa σ H s->CX X.stack H s E e s'->X.xe e s'
section
variable {X:Cx}{CX:xY}{k:Nat}{f C:Addr}{fd:FuncData}{ps:List Str}{sp:Sp}{Bz:List V}{ds:List Value}{E:XK}{x m:Str}{p pos m5:Pos}{e o:Expr}{es:List Expr}{ta:TE}{t:TA}{ks:List Str}{Tc:Pos}{dj:List Keyword}{te:TE}{tk:TA}{nm:Option Str}{g:List Value->List Value->List Value}{gV:List V->List V->List V}
def xZ(F:iP X.prog X.w X.K X.mg X.base CX k f fd ps sp)(hr:eG k X.A)(hb:Binds X.K fd ps ds)(hd:aD Bz ds)(hx:sD CX X E)
  (I:Inv X aa σ H s) (r:aD vs us) (h:sp (vs++Bz) H Q E):wpAny (model X.prog X.w) X.A (call (.ref f) us) (EP X aa σ Q) X.xe s:=by
 have r2:aD (vs++Bz) (us++ds):=r.append hd
 have hl:(us++ds).length =ps.length:=by rw[<-r2.length];exact F.len _ _ _ _ h
 refine wpAny_call (Zd (F.run X.A X.stack s H ⟨us,[]⟩ (us++ds) (vs++Bz) Q E hr I.N6 (hb s us I.D8 hl) r2 h) λr s' hq=>?_)
 cases r with
 |error e=>exact hx aa σ H s e s' I hq
 |ok fl=>
  cases fl with
  |ret u=>exact I.after hq
  |next=>exact False.elim hq
  |brk=>exact False.elim hq
  |cont=>exact False.elim hq
def ue(F:iP X.prog X.w X.K X.mg X.base CX k f fd ps sp)(hr:eG k X.A)(hg:Gl X x)(hm:X.mg x=some (.ref f))(hk:PySem.W.keepIn X.K (.ref f)=true)(hb:Binds X.K fd ps ds)(hd:aD Bz ds)(hx:sD CX X E)
  (ha:PA X (e::es) t) (Bf:(x==("__debug__":Str))=false:=by decide) (he:starEach (e::es) X.env=(false,eval e X.env)::starEach es X.env:=by rfl) (jG:(backTo pos (starEach es X.env)).any (·.1)=false:=by rfl):
  PE X (.Call (.Name x p) (e::es) [] pos) (Jz sp Bz E t):=by
 intro aa s σ H Q I h
 refine YY (oM I hg hm ?_ Bf)
 refine aay (h₀:=X.base) I.ok.mod.MH hk (bI (ha pos aa s σ H _ I h) λus s1 zz=>bC zz λvs H1 I1 r q=>⟨I1.D8,?_⟩) he jG
 exact xZ F hr hb hd hx I1 r q
end
structure gO(N P:List Str)(sc:Scope):Prop where
 kind:sc.kind= .function
 co:sc.isCoroutine=false
 gen:sc.isGenerator=false
 nd:N.Nodup
 pre:N.take P.length=P
 par:∀x∈P,sc.names.lookup x=some .local \/sc.names.lookup x=some .cell
 FQ:∀y∈sc.names,y.2≠ .free
theorem nJ{kindOf:Str->Option NameKind}{x:Str}:∀{binds:List (Str×Value)}{m:Str->Option Value},(∀v,(x,v)∉binds)->bindL kindOf binds m x=m x
 |[],_,_=>rfl
 |(n,v)::r,m,h=>by
  unfold bindL
  rw[nJ λw hw=>h w (Wu _ hw)]
  split
  .have:x≠n:=by rintro rfl;exact h v Wx
   simp[this]
  .rfl
theorem nK{kindOf:Str->Option NameKind}{x:Str}:∀{binds:List (Str×Value)}{m:Str->Option Value},(∀v,(x,v)∉binds)->bindC kindOf binds m x=m x
 |[],_,_=>rfl
 |(n,v)::r,m,h=>by
  unfold bindC
  rw[nK λw hw=>h w (Wu _ hw)]
  split
  .rfl
  .have:x≠n:=by rintro rfl;exact h v Wx
   simp[this]
theorem nL{kindOf:Str->Option NameKind}{x:Str}{v:Value}:∀{P:List Str}{vs:List Value}{i:Nat}{m:Str->Option Value},P.Nodup->P[i]?=some x->vs[i]?=some v->kindOf x=some .local ->
  bindL kindOf (P.zip vs) m x=some v
 |[],_,_,_,_,h,_,_=>by simp at h
 |_::_,[],_,_,_,_,h,_=>by simp at h
 |p::P,w::vs,0,m,nd,h1,h2,hk=>by
  simp at h1 h2;subst h1;subst h2
  show bindL kindOf ((p,w)::P.zip vs) m p=_
  unfold bindL
  rw[nJ λv hv=>(Xd.mp nd).1 (Zq hv).1,WO hk]
  simp
 |p::P,w::vs,i+1,m,nd,h1,h2,hk=>by
  show bindL kindOf ((p,w)::P.zip vs) m x=_
  unfold bindL
  exact nL (i:=i) (Xd.mp nd).2 (by simpa using h1) (by simpa using h2) hk
theorem nM{kindOf:Str->Option NameKind}{x:Str}{v:Value}:∀{P:List Str}{vs:List Value}{i:Nat}{m:Str->Option Value},P.Nodup->P[i]?=some x->vs[i]?=some v->kindOf x≠some .local ->
  bindC kindOf (P.zip vs) m x=some v
 |[],_,_,_,_,h,_,_=>by simp at h
 |_::_,[],_,_,_,_,h,_=>by simp at h
 |p::P,w::vs,0,m,nd,h1,h2,hk=>by
  simp at h1 h2;subst h1;subst h2
  show bindC kindOf ((p,w)::P.zip vs) m p=_
  unfold bindC
  rw[nK λv hv=>(Xd.mp nd).1 (Zq hv).1,WV hk]
  simp
 |p::P,w::vs,i+1,m,nd,h1,h2,hk=>by
  show bindC kindOf ((p,w)::P.zip vs) m x=_
  unfold bindC
  exact nM (i:=i) (Xd.mp nd).2 (by simpa using h1) (by simpa using h2) hk
noncomputable def start(N:List Str)(vs:List V):St:=vs.map some++List.replicate (N.length-vs.length) none
noncomputable def sE(CX:xY)(P:Program)(w:World)(K:PySem.W.Frag)(mg:Str->Option Value)(base:Heap)(N:List Str)(qual:Str)(scope:Scope)(f:Addr)(cd:Value)(A:Around)(outer:List Env)(s:Shared)(H:Hp)(E:XK):Cx where
 prog:=P
 w:=w
 K:=K
 mg:=mg
 base:=base
 A:=A.deeper (envOfC qual scope s.heap.objs.size f cd)
 N:=N
 s₀:=s
 H₀:=H
 env:=envOfC qual scope s.heap.objs.size f cd
 outer:=outer
 stack:=envOfC qual scope s.heap.objs.size f cd::outer
 ex:=[]
 calm:=true
 fn:=λ_=>true
 pn:=[]
 xe:=λe s'=>wpAny (model P w) (A.deeper (envOfC qual scope s.heap.objs.size f cd)) (leaving (envOfC qual scope s.heap.objs.size f cd) e) (λ_ JA=>CX outer H s E e JA) (λe' JA=>CX outer H s E e' JA) s'
def qm{sc:Scope}{n:Nat}{x:Str}(h:sc.names.lookup x=some .cell):∃c,(cellsFrom n sc.names []).lookup x=some c:=by
 have q:=Z' sc.names n [] (.inl h)
 exact Option.isSome_iff_exists.mp q
def wd{CX:xY}{P:Program}{w:World}{K:PySem.W.Frag}{mg:Str->Option Value}{base:Heap}{N ps:List Str}{qual:Str}{scope:Scope}{f:Addr}{cd:Value}{A:Around}{outer:List Env}{s s1:Shared}{H:Hp}{E:XK}{us:List Value}{vs:List V}
  (S:gO N ps scope) (hd:A.handled=none) (e0:By P w K mg base A outer s H) (hl:vs.length=ps.length) (r:aD vs us)
  (x:InCallC s s.heap.objs.size (bindL (envOfC qual scope s.heap.objs.size f cd).kindOf (ps.zip us) λ_=>none) (cellsFrom (s.heap.objs.size+1) scope.names []) (bindC (envOfC qual scope s.heap.objs.size f cd).kindOf (ps.zip us) λ_=>none) s1):
  Inv (sE CX P w K mg base N qual scope f cd A outer s H E) [] (start N vs) H s1:=by
 have jG:ps.length<=N.length:=by have:=congrArg List.length S.pre;rw[XO]at this;lia
 refine ik x.done λh1 tk aj hk=>?_
 subst aj
 have JB:∀b:Addr,b∉(sE CX P w K mg base N qual scope f cd A outer s H E).ex :=λb z=>absurd (show b∈([]:List Addr) from z) (by simp)
 refine⟨⟨e0.mod,S.kind,rfl,rfl,WE _,λy z c h1 h2=>?_,λy hy=>?_,λy c _ h=>?_,λ_=>hd,Around.frames_deeper e0.frames,.inr ⟨rfl,rfl⟩,λb z=>absurd z (JB b),e0.bs,e0.xQ,λb _ _=>JB b,λb z=>absurd z (JB b),e0.lg,e0.IA⟩,
  rfl,e0.bare,Un.kept hk,⟨_,x.toInCall.ns,λi y v h1 h2 h3=>?_⟩,λy c h=>⟨_,x.cell y c h⟩,e0.aR.fresh (WE _),λy c h=>?_,λp hp=>absurd (show p∈([]:List (Addr×Obj)) from hp) (by simp),e0.aR.kept hk,?_⟩
 .exact name_of_addr x.apart (Xl h1) (Xl h2)
 .have hy:scope.names.lookup y=some .cell \/scope.names.lookup y=some .free :=hy
  rcases hy with hy|hy
  .exact qm hy
  .exact absurd rfl (S.FQ _ (Xl hy))
 .exact ZC (x.above y c (Xl h))
 .have hi:i<vs.length:=by
   unfold start at h2
   by_cases hi:i<vs.length
   .exact hi
   .rw[Xn (by simpa using hi),Z0]at h2
    split at h2<;>cases h2
  have ha:vs[i]?=some v:=by
   unfold start at h2
   rw[Xj (by simpa using hi),WI]at h2
   cases e:vs[i]? with
   |none=>rw[e]at h2;cases h2
   |some a=>rw[e]at h2;cases h2;rfl
  refine ae (r.get ha) λu hu rv=>?_
  have hp:ps[i]?=some y:=by
   rw[<-S.pre,List.getElem?_take_of_lt (by lia)];exact h1
  have Rc:ps.Nodup:=by rw[<-S.pre];exact S.nd.sublist (XR _ _)
  refine⟨u,rv,?_⟩
  rcases S.par y (XE hp)with k|k
  .exact .inl ⟨k,nL Rc hp hu k⟩
  .obtain⟨c,e⟩:=qm (n:=s.heap.objs.size+1) k
   refine .inr ⟨.inl k,c,e,?_⟩
   have q:=x.cell y c e
   rw[nM Rc hp hu (by show scope.names.lookup y≠_;rw[k];decide)]at q
   exact q
 .exact e0.aR.fresh (ZC (x.above y c (Xl h)))
 .unfold start
  show _=N.length
  rw[WC,Wr,YD]
  lia
def JC{CX:xY}{P:Program}{w:World}{K:PySem.W.Frag}{mg:Str->Option Value}{base:Heap}{k:Nat}{f:Addr}{name qual:Str}{params:Arguments}{body:List Stmt}{scope:Scope}{dV kV gZ pm eL ct oc:Value}{an od:Option Addr}
  {BA:Array (Option Value)}{N ps:List Str}{sp:Sp} (lk:K.lookup f=some ⟨oc,od,.func (PySem.W.fnOf name qual params body scope dV kV gZ pm an eL ct),BA⟩) (xT:PySem.W.codeIn K eL qual=true) (S:gO N ps scope)
  (len:∀vs H Q E,sp vs H Q E->vs.length=ps.length)
  (x8:∀(A:Around) (outer:List Env) (s:Shared) (H:Hp) (vs:List V) (Q:VK) (E:XK),eG k (A.deeper (envOfC qual scope s.heap.objs.size f eL))->sp vs H Q E->
   ∃t,kK (sE CX P w K mg base N qual scope f eL A outer s H E) body t/\t {nx:=λ_ H'=>Q .fC H',rt:=Q} (start N vs) H):
  iP P w K mg base CX (k+1) f (PySem.W.fnOf name qual params body scope dV kV gZ pm an eL ct) ps sp:=by
 refine⟨len,λA outer s H args us vs Q E hr e0 hb r Eb=>?_⟩
 have hl:=len _ _ _ _ Eb
 have KX:K.In s.heap:=e0.mod.MH.keeps λb o e=>(e0.bs b o e).1
 have lim:s.heap.NoLimit:=e0.mod.nolimit.keeps λb o e=>(e0.bs b o e).1
 have JD:∀y∈ps.zip us,scope.names.lookup y.1=some .local \/(scope.names.lookup y.1=some .cell /\((cellsFrom (s.heap.objs.size+1) scope.names []).lookup y.1).isSome =true):=λ⟨n,v⟩ hy=>by
  rcases S.par n (Zq hy).1 with q|q
  .exact .inl q
  .exact .inr ⟨q,Z' _ _ _ (.inl q)⟩
 refine codeAny_call_function hr.depth (KX _ _ lk) rfl S.co S.gen rfl (PySem.W.codeRec_of KX xT) (hb _ _ _ _ ?_)
 refine wpAny_newFunctionEnv_cells S.kind JD λenv he s1 x=>?_
 subst he
 refine⟨lim.keeps x.toInCall.keep,codeAny_func ?_⟩
 refine ae (x8 A outer s H vs Q E (hr.deeper _) Eb) λt ht hq=>?_
 have I:Inv (sE CX P w K mg base N qual scope f eL A outer s H E) [] (start N vs) H s1:=wd S hr.hd e0 hl r x
 refine X2 (ht [] s1 (start N vs) H _ I hq) (λfl s' hs=>?_) λe s' hs=>hs
 have fin:∀{bX:St}{H':Hp}{v:V}{u:Value},Inv (sE CX P w K mg base N qual scope f eL A outer s H E) [] bX H' s'->RelV v u->Q v H'->CE outer P w H s Q u s':=
  λ{bX H' v u} J rv q=>⟨v,H',J.os,J.bare,J.base,J.aR,rv,q⟩
 cases fl with
 |ret u=>
  exact c7 hs λv bX H' J rv q=>fin J rv q
 |next=>
  exact ik hs λbX H' J q=>fin (v:=V.fC) (u:=Value.none) J rfl q
 |brk=>
  exact ik hs λ_ _ _ q=>False.elim q
 |cont=>
  exact ik hs λ_ _ _ q=>False.elim q
section
variable {X:Cx}{x:Str}{p pos:Pos}{e:Expr}{es:List Expr}{t:TA}{id T:String}{r:List V->Hp->VK->Prop}
def N7(r:List V->Hp->VK->Prop)(t:TA):TE:=λσ H Q=>t σ H λvs H1=>r vs H1 Q
def eM(hc:cH X (.builtin id) r)(hg:Gl X x)(hm:X.mg x=none)(hv:bootBuiltins x=some (.builtin id))(ha:PA X (e::es) t)(hn:x≠"__name__":=by decide)(Bf:(x==("__debug__":Str))=false:=by decide)
  (he:starEach (e::es) X.env=(false,eval e X.env)::starEach es X.env:=by rfl) (jG:(backTo pos (starEach es X.env)).any (·.1)=false:=by rfl):PE X (.Call (.Name x p) (e::es) [] pos) (N7 r t):=by
 intro aa s σ H Q I h
 refine YY (jE I hg hm hv ?_ hn Bf)
 exact PyProof.Rows.callWith_builtin1 (bI (ha pos aa s σ H _ I h) λus s1 zz=>bC zz λvs H1 I1 r1 q1=>hc aa s1 σ H1 vs us Q I1 r1 q1) he jG
def dB(hc:cH X (.type T) r)(hg:Gl X x)(hm:X.mg x=none)(hv:bootBuiltins x=some (.type T))(ha:PA X (e::es) t)(hn:x≠"__name__":=by decide)(Bf:(x==("__debug__":Str))=false:=by decide)
  (he:starEach (e::es) X.env=(false,eval e X.env)::starEach es X.env:=by rfl) (jG:(backTo pos (starEach es X.env)).any (·.1)=false:=by rfl):PE X (.Call (.Name x p) (e::es) [] pos) (N7 r t):=by
 intro aa s σ H Q I h
 refine YY (jE I hg hm hv ?_ hn Bf)
 exact XY (bI (ha pos aa s σ H _ I h) λus s1 zz=>bC zz λvs H1 I1 r1 q1=>hc aa s1 σ H1 vs us Q I1 r1 q1) he jG
end
end L2
namespace HT
open PySem PyProof.Rows
noncomputable def lexLt:List Int->List Int->Bool
 |[],[]=>false
 |[],_::_=>true
 |_::_,[]=>false
 |x::xs,y::ys=>if x=y then lexLt xs ys else decide (x<y)
def sF(x y:Int)(xs ys:List Int):lexLt (x::xs) (y::ys)=if x=y then lexLt xs ys else decide (x<y):=rfl
def m6:lexLt [] []=false:=rfl
def lE(y:Int)(ys:List Int):lexLt [] (y::ys)=true:=rfl
def lF(x:Int)(xs:List Int):lexLt (x::xs) []=false:=rfl
def x_(A:Around)(s:Shared)(a:Int)(t:Tok)(c:Int)(u:Tok):∃e,SeqAt.EqAt A s (.int a t) (.int c u) e/\(e=true↔a=c):=
 ⟨(a==c),SeqAt.EqAt.int_int a t c u,by simp⟩
def ya(A:Around)(s:Shared)(a:Int)(t:Tok)(c:Int)(u:Tok)(prog:Program)(w:World)(E:Value->Shared->Prop)(Q:Value->Shared->Prop)(h:Q (.bool (decide (a<c))) s):
  wpAny (model prog w) A (richCompare .Lt (.int a t) (.int c u)) Q E s:=
 (aas h:wpAny (model prog w) A (compareOp .Lt (.int a t) (.int c u)) Q E s)
section
open PySem.SeqAt
open PySem.AutoSeq1 (wpAny_loadPart')
open PySem.MeetsSeq PySem.MeetsSeq2 PySem.MeetsSeq3
def m7(l b:Addr)(items items2:Array Value)(n n2:Nat)(dd N8:Option Addr)(sl N9:Array (Option Value))(ns ms:List Int)(hi:IntsAre items.toList ns)(hj:IntsAre items2.toList ms):
  Meets (Builtin.«tuple.__lt__» ⟨[.ref l,.ref b],[]⟩)
   (λ_ R s=>s.heap.get? l=some {cls:= .type "tuple",dict:=dd,data:= .seq items n,slots:=sl}/\s.heap.get? b=some {cls:= .type "tuple",dict:=N8,data:= .seq items2 n2,slots:=N9}/\
    R (.ok (.ret (.bool (lexLt ns ms)))) s):=
 .of_wp λprog w A R s h=>by
  obtain⟨hp,g,d,tk,os⟩:=s;obtain⟨hl,hb,h⟩:=h
  have f2:=AutoSeq1.sub_tuple_tuple
  have z1:items.size=ns.length:=by rw[<-hi.length];simp
  have z2:items2.size=ms.length:=by rw[<-hj.length];simp
  wp_walk using X6 hl,X6 hb,wpAny_forIn_list _ (λbK b s'=>b.1=none/\s'=⟨hp,g,d,tk,os⟩/\∃(vs ws:List Value) (fT IC:List Int),bK=vs.zip ws/\
   IntsAre vs fT/\IntsAre ws IC/\fT.length+items2.size=IC.length+items.size/\R (.ok (.ret (.bool (lexLt fT IC)))) ⟨hp,g,d,tk,os⟩) _
  case turn=>
   rintro⟨y,x⟩ bK b s' ⟨jH,rfl,vs,ws,fT,IC,hz,N_,MO,aS,hR⟩
   cases N_ with
   |nil=>rw[List.zip_nil_left]at hz;cases hz
   |cons a t Oa=>
    cases MO with
    |nil=>rw[List.zip_nil_right]at hz;cases hz
    |cons c u Ob=>
     rw[ZD]at hz
     injection hz with JE JF
     injection JE with hy hx
     subst hy hx
     rw[sF]at hR
     simp only[WM]at aS
     obtain⟨e,he,JG⟩:=x_ A.in1 ⟨hp,g,d,tk,os⟩ a t c u
     refine Wn (he prog w _ _ ?_)
     cases e with
     |true=>
      rw[WO (JG.mp rfl)]at hR
      wp_walk
      exact⟨rfl,rfl,_,_,_,_,JF,Oa,Ob,by lia,hR⟩
     |false=>
      rw[WV (λq=>absurd (JG.mpr q) Wt)]at hR
      have Td:=ya A.in1 ⟨hp,g,d,tk,os⟩ a t c u prog w
      wp_walk using Td
      exact⟨_,rfl,by simpa using hR⟩
  case fin=>
   rintro⟨b1,b2⟩ s' ⟨jH,rfl,vs,ws,fT,IC,hz,N_,MO,aS,hR⟩
   simp only at jH
   subst jH
   have hv:lexLt fT IC=decide (items.size<items2.size):=by
    cases N_ with
    |nil=>
     cases MO with
     |nil=>
      simp only[XZ]at aS
      rw[m6]
      exact(decide_eq_false (by lia)).symm
     |cons c u hw=>
      simp only[XZ,WM]at aS
      rw[lE]
      exact(decide_eq_true (by lia)).symm
    |cons a t hv=>
     cases MO with
     |nil=>
      simp only[XZ,WM]at aS
      rw[lF]
      exact(decide_eq_false (by lia)).symm
     |cons c u hw=>
      rw[ZD]at hz
      cases hz
   rw[hv]at hR
   wp_walk
   exact⟨_,rfl,by simpa[Builtin.Tuple.tupleCompareSizes]using hR⟩
  case h=>
   exact⟨rfl,rfl,items.toList,items2.toList,ns,ms,rfl,hi,hj,by lia,h⟩
end
section
variable {prog:Program}{w:World}{A:Around}{E:Value->Shared->Prop}{s:Shared}
def sG(hl:IsTup s.heap l items)(hb:IsTup s.heap b items2)(hi:IntsAre items.toList ns)(hj:IntsAre items2.toList ms)
  (hu:A.units<cLine) (h:Q (.bool (lexLt ns ms)) s):wpAny (model prog w) A (compareOp .Lt (.ref l) (.ref b)) Q E s:=by
 refine au λnO=>?_
 obtain⟨⟨cls,dd,data,sl⟩,ho,hc,n,hd⟩:=id hl
 obtain⟨⟨Te,N8,data2,N9⟩,MP,Rf,n2,sH⟩:=id hb
 refine nO ?_
 simp only at hc hd Rf sH
 subst hc hd Rf sH
 exact richCompare_meets_room (op:= .Lt) ⟨_,ho,rfl⟩ ⟨_,MP,rfl⟩ PySem.F.slot_tuple_lt PySem.F.entry_tuple_lt (PySem.F.args_tuple_lt_2 _ _) (m7 l b items items2 n n2 dd N8 sl N9 ns ms hi hj)
  ⟨ho,MP,show Value.bool (lexLt ns ms)≠Value.notImplemented/\Q (.bool (lexLt ns ms)) s from⟨(λx=>nomatch x),h⟩⟩ hu
noncomputable def cC(n d:Nat):Option Int->Nat
 |none=>d
 |some v=>if v<0 then(v+(n:Int)).toNat else min v.toNat n
def FR(n d:Nat)(hd:d<=n)(o:Option Int):cC n d o<=n:=by
 cases o with
 |none=>exact hd
 |some v=>
  show(if v<0 then(v+(n:Int)).toNat else min v.toNat n)<=n
  by_cases hv:v<0
  .rw[WO hv];lia
  .rw[WV hv];exact Nat.min_le_right _ _
def oQ(v:Int)(n d:Nat):(if v<0 then max (v+(n:Int)) 0 else min v (n:Int))=((cC n d (some v):Nat):Int):=by
 show(if v<0 then max (v+(n:Int)) 0 else min v (n:Int))=(((if v<0 then(v+(n:Int)).toNat else min v.toNat n):Nat):Int)
 by_cases hv:v<0
 .simp only[WO hv];lia
 .simp only[WV hv];lia
def sJ(lo hi:Option Int)(n:Nat):Builtin.Slice.sliceAdjust lo hi 1 (n:Int)=(((cC n 0 lo:Nat):Int),((cC n n hi:Nat):Int)):=by
 have h1:¬((1:Int)<0):=by lia
 unfold Builtin.Slice.sliceAdjust
 simp only[h1,if_false]
 refine Prod.ext ?_ ?_
 .cases lo with
  |none=>rfl
  |some v=>exact oQ v n 0
 .cases hi with
  |none=>rfl
  |some v=>exact oQ v n n
def sL(i j:Nat):Builtin.Slice.slicePlaces (i:Int) (j:Int) 1=j-i:=by
 unfold Builtin.Slice.slicePlaces
 have h1:(1:Int)>0:=by lia
 simp only[h1,if_true,Int.ediv_one]
 split<;>lia
def lG(p:IsPart v o)(h:Q o s):wpAny (model prog w) A (Builtin.Slice.slicePartIndex v) Q E s:=by
 cases p with
 |none=>exact slicePart_none h
 |int i t=>exact slicePart_int h
def eN{sl:Addr}{vl vu:Value}{lo hi:Option Int}{n:Nat}{Q:Int×Int×Nat->Shared->Prop}(hs:s.heap.IsSliceOf sl vl vu .none)(pl:IsPart vl lo)(pu:IsPart vu hi)
  (h:Q (((cC n 0 lo:Nat):Int),1,cC n n hi-cC n 0 lo) s):wpAny (model prog w) A (Builtin.Slice.sliceApplied (.ref sl) (pure (n:Int))) Q E s:=by
 refine bL (id hs) λos sM yb JH=>?_
 unfold Builtin.Slice.sliceApplied Builtin.Slice.sliceFields
 refine Wn (Wn (Yg sM JH (x:=vl) rfl (Wn (Yg sM JH (x:=vu) rfl (Wn (Yg sM JH (x:= .none) rfl (Wv ?_)))))))
 refine Wn (slicePart_none ?_)
 show wpAny _ _ (if((1:Int)==0)=true then _ else _) _ _ s
 rw[WV (by decide)]
 refine Wn (lG pl (Wn (lG pu (Wn (Wv ?_)))))
 show wpAny _ _ (match Builtin.Slice.sliceAdjust lo hi 1 (n:Int)with|(lo,hi)=>pure (lo,(1:Int),Builtin.Slice.slicePlaces lo hi 1)) _ _ s
 rw[sJ lo hi n]
 show wpAny _ _ (pure (((cC n 0 lo:Nat):Int),(1:Int),Builtin.Slice.slicePlaces ((cC n 0 lo:Nat):Int) ((cC n n hi:Nat):Int) 1)) _ _ s
 rw[sL]
 exact Wv h
def yc(xs:Array Value)(i k:Nat):((List.range k).filterMap λ(m:Nat)=>xs[((i:Int)+(m:Int)*1).toNat]?).toArray =((xs.toList.drop i).take k).toArray :=by
 have e:(λ(m:Nat)=>xs[((i:Int)+(m:Int)*1).toNat]?)=λm=>xs[i+m]?:=by
  funext m
  have:((i:Int)+(m:Int)*1).toNat =i+m:=by lia
  rw[this]
 rw[e]
 have:=pick_run xs i k
 rw[List.filterMap_map]at this
 have e2:((λx=>xs[x]?) ∘ λx=>i+x)=λm=>xs[i+m]?:=rfl
 rw[e2]at this
 rw[this]
def iQ{t sl:Addr}{items:Array Value}{vl vu:Value}{lo hi:Option Int}{Q:Value->Shared->Prop}(ht:IsTup s.heap t items)(hs:s.heap.IsSliceOf sl vl vu .none)(pl:IsPart vl lo)(pu:IsPart vu hi)
  (hw:¬(cC items.size 0 lo=0/\cC items.size items.size hi=items.size))
  (h:Q (.ref s.heap.objs.size) {s with heap:=s.heap.push {cls:= .type "tuple",data:= .seq ((items.toList.drop (cC items.size 0 lo)).take (cC items.size items.size hi-cC items.size 0 lo)).toArray}})
  (hsz:items.size<=sizeLine):wpAny (model prog w) A (getItem (.ref t) (.ref sl)) Q E s:=by
 have uf:sizeOk (.seq ((items.toList.drop (cC items.size 0 lo)).take (cC items.size items.size hi-cC items.size 0 lo)).toArray):=by
  show((items.toList.drop (cC items.size 0 lo)).take (cC items.size items.size hi-cC items.size 0 lo)).toArray.size <=sizeLine
  rw[WA,XO,Yz,Wy]
  lia
 have hj:cC items.size items.size hi<=items.size:=FR _ _ (WE _) hi
 refine bL (id hs) λos sM yb JH=>?_
 have BB:s.TypeIs (.ref sl) "slice":=⟨os,sM,yb⟩
 unfold getItem
 try with_reducible refine Xf ?_
 first|refine Wn (Wv ?_)|skip
 refine Wn (wpAny_sequenceKey ht.typeIs (by decide) ?_)
 refine Wn (Xi (name:=Str.ofString "__getitem__") ht.typeIs Xy
  (Xb Xy ht.typeIs entry_tuple_getitem ?_ (args_tuple_getitem _ _)))
 show wpAny _ _ (Builtin.Tuple.tupleItemsOf (.ref t) >>= _) _ _ s
 refine Wn (tupleItemsOf_ ht ?_)
 refine Wn (ZF BB ?_)
 rw[WO (by decide)]
 refine Wn (eN hs pl pu ?_)
 have xE:¬((((cC items.size 0 lo:Nat):Int)==0&&(1:Int)==1&&(cC items.size items.size hi-cC items.size 0 lo)==items.size)=true):=by
  intro q
  rw[Ws,Ws]at q
  have q1:((cC items.size 0 lo:Nat):Int)=0:=eq_of_beq q.1.1
  have q2:cC items.size items.size hi-cC items.size 0 lo=items.size:=eq_of_beq q.2
  exact hw ⟨by lia,by lia⟩
 show wpAny _ _ (if(((cC items.size 0 lo:Nat):Int)==0&&(1:Int)==1&&(cC items.size items.size hi-cC items.size 0 lo)==items.size)=true then _ else _) _ _ s
 rw[WV xE,yc]
 first
  |exact Wn (m:=Builtin.Tuple.tupleExact _) (W_ (Wv ⟨_,rfl,Wv h⟩) uf)
  |exact Wn (m:=Builtin.Tuple.tupleExact _) (W_ (Wn (Wv (Wv ⟨_,rfl,Wv h⟩))) uf)
  |exact Wn (Wn (m:=Builtin.Tuple.tupleExact _) (W_ (Wv (Wv ⟨_,rfl,Wv h⟩)) uf))
  |exact Wn (Wn (m:=Builtin.Tuple.tupleExact _) (W_ (Wv ⟨_,rfl,Wv h⟩) uf))
end
end HT
namespace L2
open PySem PySem.Spec PyProof.Rows
abbrev TO:=St->Hp->(Option Int->Hp->Prop)->Prop
def PO(X:Cx)(e:Option Expr)(t:TO):Prop:=
 ∀(aa:List (Addr×Obj)) (s:Shared) (σ:St) (H:Hp) (Q:Option Int->Hp->Prop),Inv X aa σ H s->t σ H Q->
  wpAny (model X.prog X.w) X.A (evalPart e X.env) (λu s'=>∃o H',Inv X aa σ H' s'/\IsPart u o/\Q o H') X.xe s
def BC:TO:=λ_ H Q=>Q none H
def JI(t:TE):TO:=λσ H Q=>t σ H λx H1=>∃i,x= .int i/\Q (some i) H1
def intsAre_of:∀{us:List Value},aD (ns.map V.int) us->IntsAre us ns:=by
 induction ns with
 |nil=>intro us r;rw[ZG]at r;cases r;exact .nil
 |cons n ns ih=>
  intro us r
  rw[WJ]at r
  cases r with
  |cons r1 r2=>
   obtain⟨t,e⟩:=r1
   subst e
   exact .cons n t (ih r2)
section
variable {X:Cx}{e:Expr}{te:TE}{lo hi:Option Expr}{tl th:TO}{pos p2:Pos}
def BD:PO X none BC:=by
 intro aa s σ H Q I h
 rw[evalPart_none]
 exact Wv ⟨none,H,I,.none,h⟩
def BE(h:PE X e te):PO X (some e) (JI te):=by
 intro aa s σ H Q I hw
 rw[evalPart_some]
 refine bI (h aa s σ H _ I hw) λu s1 zz=>bC zz λx H1 I1 r1 q1=>ae q1 λi aj q=>?_
 try clear q1
 subst aj
 obtain⟨t,rfl⟩:=r1
 exact⟨some i,H1,I1,.int i t,q⟩
def Bg(X:Cx)(r:V->Option Int->Option Int->Hp->VK->Prop):Prop:=
 ∀(aa:List (Addr×Obj)) (s:Shared) (σ:St) (H:Hp) (x:V) (v vl vu:Value) (lo hi:Option Int) (sl:Addr) (Q:VK),Inv X aa σ H s->RelV x v->s.heap.IsSliceOf sl vl vu .none ->IsPart vl lo->IsPart vu hi->r x lo hi H Q->
  ∃T id,typeLookup (.type T) "__getitem__"=pure (some (.builtin id))/\s.TypeIs v T/\wpAny (model X.prog X.w) X.A (getItem v (.ref sl)) (EP X aa σ Q) X.xe s
def Bg.or(h:Bg X r)(h':Bg X r'):Bg X (λx lo hi H Q=>r x lo hi H Q\/r' x lo hi H Q):=by
 intro aa s σ H x v vl vu lo hi sl Q I rx hs pl pu q
 rcases q with q|q
 .exact h aa s σ H x v vl vu lo hi sl Q I rx hs pl pu q
 .exact h' aa s σ H x v vl vu lo hi sl Q I rx hs pl pu q
def Tf(r:V->Option Int->Option Int->Hp->VK->Prop)(te:TE)(tl th:TO):TE:=λσ H Q=>te σ H λx H1=>tl σ H1 λl H2=>th σ H2 λu H3=>r x l u H3 Q
def qp(hr:Bg X r)(he:PE X e te)(hl:PO X lo tl)(hu:PO X hi th):PE X (.Subscript e (.Slice lo hi none p2) pos) (Tf r te tl th):=by
 intro aa s σ H Q I h
 refine Subscript_ (bI (he aa s σ H _ I h) λv s1 zz=>?_)
 refine bC zz λx H1 I1 r1 q1=>wpAny_Slice (bI (hl aa s1 σ H1 _ I1 q1) λvl s2 zz=>bC zz λl H2 I2 pl q2=>bI (hu aa s2 σ H2 _ I2 q2) λvu s3 zz=>?_)
 refine bC zz λu H3 I3 pu q3=>?_
 rw[evalPart_none]
 refine Wv ?_
 have I4:Inv X aa σ H3 {s3 with heap:=s3.heap.push {cls:= .type "slice",data:= .fields #[vl,vu,.none]}}:=I3.kept (t':=s3.toks) λb ob q=>Wo _ q
 refine bC (hr aa {s3 with heap:=s3.heap.push {cls:= .type "slice",data:= .fields #[vl,vu,.none]}} σ H3 x v vl vu l u s3.heap.objs.size Q I4 r1 (Heap.IsSliceOf.new ..) pl pu q3) λT id hT ht hg=>?_
 show wpAny (model X.prog X.w) X.A (subscriptTail e (.Slice lo hi none p2) v (.ref s3.heap.objs.size)) (EP X aa σ Q) X.xe {s3 with heap:=s3.heap.push {cls:= .type "slice",data:= .fields #[vl,vu,.none]}}
 exact tail_any (ops:=[.ref s3.heap.objs.size,v]) ht hT hg (by with_unfolding_all rfl)
noncomputable def qq(xs:List V)(lo hi:Option Int):List V:=(xs.drop (HT.cC xs.length 0 lo)).take (HT.cC xs.length xs.length hi-HT.cC xs.length 0 lo)
def kf(xs:List V)(lo hi:Option Int):(qq xs lo hi).length <=xs.length:=by
 unfold qq
 rw[XO,Yz]
 lia
def JJ(K:PySem.W.Frag):V->Option Int->Option Int->Hp->VK->Prop:=λx lo hi H Q=>∃a xs,x= .ref a/\dF K H a xs/\
 ¬(HT.cC xs.length 0 lo=0/\HT.cC xs.length xs.length hi=xs.length)/\∀p,H p=none->Q (.ref p) (upd H p (.tup (qq xs lo hi)))
def FU:Bg X (JJ X.K):=by
 intro aa s σ H x v vl vu lo hi sl Q I rx hs pl pu h
 refine gM h λa xs aj hx hw q=>?_
 try clear h
 subst aj
 cases rx
 refine bL (I.tuple hx) λits r ht hz=>?_
 have aS:its.toArray.size=xs.length:=by rw[WA];exact r.length.symm
 refine⟨"tuple",_,Xy.lookup,ht.typeIs,?_⟩
 refine HT.iQ ht hs pl pu (by rw[aS];exact hw) ?_ (by rw[aS];exact hz)
 rw[aS]
 refine⟨.ref s.heap.objs.size,_,I.laid (t':=s.toks) (o:= .tup (qq xs lo hi)) (λb ob q=>Wo _ q) (WE _) ?_,rfl,q _ (I.aR.fresh (WE _))⟩
 exact⟨Xu (kf xs lo hi) hz,_,(r.drop (HT.cC xs.length 0 lo)).take (HT.cC xs.length xs.length hi-HT.cC xs.length 0 lo),jD.new _ _⟩
end
noncomputable def ID(n:Nat)(i:Int):Option Nat:=if 0<=i then(if i<n then some i.toNat else none) else if -(n:Int)<=i then some (i+n).toNat else none
noncomputable def Ec{α:Type}(xs:List α)(i:Int):Option α:=(ID xs.length i).bind λj=>xs[j]?
def ug(h:ID n i=some j):seqIndex? i n=some j/\j<n/\ -(n:Int)<=i/\i<n:=by
 unfold ID at h
 by_cases h0:0<=i
 .rw[WO h0]at h
  by_cases h1:i<n
  .rw[WO h1]at h
   have e:i.toNat=j:=WU h
   exact⟨by rw[seqIndex_of h0 h1,e],by lia,by lia,h1⟩
  .rw[WV h1]at h;cases h
 .rw[WV h0]at h
  by_cases h1: -(n:Int)<=i
  .rw[WO h1]at h
   have e:(i+n).toNat =j:=WU h
   exact⟨by rw[seqIndex_neg (by lia) h1,e],by lia,h1,by lia⟩
  .rw[WV h1]at h;cases h
def uh(h:Ec xs i=some v):∃j,seqIndex? i xs.length=some j/\xs[j]?=some v/\j<xs.length/\ -(xs.length:Int)<=i/\i<xs.length:=by
 unfold Ec at h
 cases e:ID xs.length i with
 |none=>rw[e]at h;cases h
 |some j=>
  rw[e]at h
  exact xC (ug e) λh1 h2 h3 h4=>⟨j,h1,h,h2,h3,h4⟩
def oS(b:Expr):Prop:=∀o i,subscripted b false o i=operate [o,i] (getItem o i)
def FV(X:Cx)(r:R2):Prop:=
 ∀(value slice:Expr) (aa:List (Addr×Obj)) (s:Shared) (σ:St) (H:Hp) (x y:V) (v u:Value) (Q:VK),Inv X aa σ H s->RelV x v->RelV y u->r x y H Q->
  subscripted slice false v u=operate [v,u] (getItem v u)->wpAny (model X.prog X.w) X.A (subscriptTail value slice v u) (EP X aa σ Q) X.xe s
def MQ(X:Cx)(id:String)(r:V->List V->Hp->VK->Prop):Prop:=
 ∀(aa:List (Addr×Obj)) (s:Shared) (σ:St) (H:Hp) (x:V) (xs:List V) (v:Value) (us:List Value) (Q:VK),Inv X aa σ H s->RelV x v->aD xs us->r x xs H Q->
  wpAny (model X.prog X.w) X.A (call (.builtin id) (v::us)) (EP X aa σ Q) X.xe s
section
variable {X:Cx}{a b:Expr}{ta tb:TE}{pos:Pos}
def FV.or(h:FV X r)(h':FV X r'):FV X (λx y H Q=>r x y H Q\/r' x y H Q):=by
 intro value slice aa s σ H x y v u Q I rx ry q hs
 rcases q with q|q
 .exact h value slice aa s σ H x y v u Q I rx ry q hs
 .exact h' value slice aa s σ H x y v u Q I rx ry q hs
def Ed(hr:FV X r)(ha:PE X a ta)(hb:PE X b tb)(hs:oS b):PE X (.Subscript a b pos) (Ea r ta tb):=by
 intro aa s σ H Q I h
 exact Subscript_ (FF ha hb I h λv u s2 x y H2 I2 rx ry q=>hr a b aa s2 σ H2 x y v u Q I2 rx ry q (hs _ _))
def BF(K:PySem.W.Frag):R2:=λx y H Q=>∃p xs i v,x= .ref p/\y= .int i/\c9 K H p xs/\Ec xs i=some v/\Q v H
def Oc(K:PySem.W.Frag):R2:=λx y H Q=>∃p xs i v,x= .ref p/\y= .int i/\dF K H p xs/\Ec xs i=some v/\Q v H
def ui:FV X (BF X.K):=by
 intro value slice aa s σ H x y v u Q I rx ry h hs
 refine au λnO=>sh h λp xs i z aj aU hq he q=>?_
 try clear h
 subst aj
 subst aU
 cases rx
 obtain⟨t,rfl⟩:=ry
 refine bL (I.list hq) λits r pl hz=>Iy (uh he) λj h1 h2 h3 h4 h5=>ae (r.get h2) λw ew ye=>nO ?_
 have hl:=r.length
 have hn:=lB
 have fin:EP X aa σ Q w s:=⟨z,H,I,ye,q⟩
 by_cases h0:0<=i
 .have hj:i.toNat=j:=by
   rw[seqIndex_of h0 h5]at h1
   exact WU h1
  exact item_listR pl.isList h0 (by lia) (by rw[hj];simpa using ew) fin hs
 .have hj:(i+(its.toArray.size:Int)).toNat =j:=by
   rw[seqIndex_neg (by lia) h4]at h1
   rw[WA,<-hl]
   exact WU h1
  exact subscriptTail_builtinR (x:=w) pl.isList.typeIs slot_list_getitem.lookup
   (wpAny_getItem_list_neg (Q:=λr s'=>r=w/\EP X aa σ Q r s') pl.isList (by lia) (by rw[WA]<;>lia) (by lia) (by rw[hj];simpa using ew) ⟨rfl,fin⟩) hs
def FW:FV X (Oc X.K):=by
 intro value slice aa s σ H x y v u Q I rx ry h hs
 refine au λnO=>sh h λp xs i z aj aU hq he q=>?_
 try clear h
 subst aj
 subst aU
 cases rx
 obtain⟨t,rfl⟩:=ry
 refine bL (I.tuple hq) λits r pl hz=>Iy (uh he) λj h1 h2 h3 h4 h5=>ae (r.get h2) λw ew ye=>nO ?_
 have hl:=r.length
 have hn:=lB
 have fin:EP X aa σ Q w s:=⟨z,H,I,ye,q⟩
 exact subscriptTail_builtinR (x:=w) pl.typeIs slot_tuple_getitem.lookup
  (getItem_tuple (j:=j) (Q:=λr s'=>r=w/\EP X aa σ Q r s') pl (by lia) (by lia) (by rw[WA,<-hl];exact h1) (by simpa using ew) ⟨rfl,fin⟩) hs
def sN(its:List Value)(n j:Nat)(u:Value):Obj.mapSeq (·.setIfInBounds j u) {cls:= .type "list",data:= .seq its.toArray n}={cls:= .type "list",data:= .seq (its.set j u).toArray n}:=by
 simp[Obj.mapSeq]
theorem Inv.lst{aa:List (Addr×Obj)}{σ:St}{H:Hp}{s:Shared}{p:Addr}{xs:List V}(I:Inv X aa σ H s)(h:H p=some (.lst xs)):
  ∃(its:List Value) (n:Nat),aD xs its/\s.heap.get? p=some {cls:= .type "list",data:= .seq its.toArray n}/\xs.length<=sizeLine:=by
 refine au λnO=>?_
 obtain⟨z,its,n,r,e⟩:=I.aR p _ h
 exact nO<|⟨its,n,r,e,z⟩
def Inv.FX{aa:List (Addr×Obj)}{σ:St}{H:Hp}{s:Shared}{p:Addr}{xs ys:List V}{its its':List Value}{n n':Nat}{f:Obj->Obj}(I:Inv X aa σ H s)(h:H p=some (.lst xs))
  (ho:s.heap.get? p=some {cls:= .type "list",data:= .seq its.toArray n}) (hf:f {cls:= .type "list",data:= .seq its.toArray n}={cls:= .type "list",data:= .seq its'.toArray n'}) (r:aD ys its') (hz:ys.length<=sizeLine) (t:Nat):
  Inv X aa σ (upd H p (.lst ys)) {s with heap:=s.heap.update p f,toks:=t}:=by
 have e:(s.heap.update p f).get? p=some {cls:= .type "list",data:= .seq its'.toArray n'}:=by
  rw[Xp f ho (by rw[hf]<;>rfl),hf]
 exact I.write (x:=p) (e:=p) (by rw[h];trivial) (.inl rfl) (λb u hb q=>(WX _ _ (Xt hb)).trans q) ⟨_,e⟩<|⟨hz,its',n',r,e⟩
def JK:V->V->V->Hp->(Hp->Prop)->Prop:=λo i v H Q=>∃p xs k j,o= .ref p/\i= .int k/\H p=some (.lst xs)/\ID xs.length k=some j/\Q (upd H p (.lst (xs.set j v)))
def yf:Ju X JK:=by
 intro aa s σ H o i v ov iv u Q I ro ri rv h
 refine au λnO=>sh h λp xs k j aj aU hp hj q=>?_
 try clear h
 subst aj
 subst aU
 cases ro
 obtain⟨t,rfl⟩:=ri
 refine bC (I.lst hp) λits n r ho hz=>xC (ug hj) λh1 h2 h3 h4=>nO ?_
 have hl:=r.length
 have hn:=lB
 have I':Inv X aa σ (upd H p (.lst (xs.set j v))) {s with heap:=s.heap.update p (Obj.mapSeq (·.setIfInBounds j u))}:=
  I.FX hp ho (sN its n j u) (r.set rv j) (by rw[Xm];exact hz) s.toks
 by_cases h0:0<=k
 .have hk:k.toNat=j:=by
   rw[seqIndex_of h0 h4]at h1
   exact WU h1
  exact PySem.W.ki_setAt ho h0 (by lia) (by rw[WA,<-hl];exact h4) (by rw[hk];exact⟨_,I',q⟩)
 .have hk:(k+(its.toArray.size:Int)).toNat =j:=by
   rw[seqIndex_neg (by lia) h3]at h1
   rw[WA,<-hl]
   exact WU h1
  exact PySem.W.ki_setBack ho (by lia) (by rw[WA,<-hl];exact h3) (by lia) (by rw[hk];exact⟨_,I',q⟩)
def oT(lo hi:Option Int)(n:Nat):(sliceBounds lo hi none n).1 =((HT.cC n 0 lo:Nat):Int)/\(sliceBounds lo hi none n).2.1 =((HT.cC n n hi:Nat):Int)/\(sliceBounds lo hi none n).2.2 =1:=by
 refine⟨?_,?_,rfl⟩
 .cases lo with
  |none=>simp[sliceBounds,HT.cC]
  |some i=>
   simp only[sliceBounds,HT.cC,Option.getD_none,show(1:Int)>0 by decide,if_true]
   by_cases h:i<0
   .simp only[h,if_true]<;>lia
   .simp only[h,if_false]<;>lia
 .cases hi with
  |none=>simp[sliceBounds,HT.cC]
  |some i=>
   simp only[sliceBounds,HT.cC,Option.getD_none,show(1:Int)>0 by decide,if_true]
   by_cases h:i<0
   .simp only[h,if_true]<;>lia
   .simp only[h,if_false]<;>lia
def m8(its:List Value)(lo hi:Option Int):slicePick its.toArray lo hi none=((its.drop (HT.cC its.length 0 lo)).take (HT.cC its.length its.length hi-HT.cC its.length 0 lo)).toArray :=by
 refine cU (oT lo hi its.toArray.size) λh1 h2 h3=>?_
 unfold slicePick
 rw[h1,h2,h3]
 simp only[sliceRange_one,pick_run,WA]<;>rfl
def Od(K:PySem.W.Frag):V->Option Int->Option Int->Hp->VK->Prop:=λx lo hi H Q=>∃a xs,x= .ref a/\c9 K H a xs/\∀p,H p=none->Q (.ref p) (upd H p (.lst (qq xs lo hi)))
def uj:Bg X (Od X.K):=by
 intro aa s σ H x v vl vu lo hi sl Q I rx hs pl pu h
 refine bC h λa xs aj hx q=>?_
 try clear h
 subst aj
 cases rx
 refine bL (I.list hx) λits r ht hz=>?_
 have aS:=r.length
 refine⟨"list",_,slot_list_getitem.lookup,ht.isList.typeIs,?_⟩
 refine wpAny_getItem_list_slice ht.isList hs pl pu .none (by simp) ?_ (by rw[WA]<;>lia)
 rw[m8,<-aS]
 refine⟨.ref s.heap.objs.size,_,I.laid (t':=s.toks) (o:= .lst (qq xs lo hi)) (λb ob q=>Wo _ q) (WE _) ?_,rfl,q _ (I.aR.fresh (WE _))⟩
 exact⟨Xu (kf xs lo hi) hz,_,0,(r.drop (HT.cC xs.length 0 lo)).take (HT.cC xs.length xs.length hi-HT.cC xs.length 0 lo),WB _ rfl⟩
def oU:cH X (.builtin "len") (λxs H Q=>∃p ys,xs=[.ref p]/\(c9 X.K H p ys\/dF X.K H p ys)/\Q (.int ys.length) H):=by
 intro aa s σ H xs us Q I r h
 refine bC h λp ys aj hq q=>?_
 try clear h
 subst aj
 refine ae (vals1 r) λu aU rx=>?_
 subst aU
 cases rx
 have hn:=lB
 rcases hq with hq|hq
 .refine bL (I.list hq) λits r' pl hz=>?_
  have aS:=r'.length
  exact Calls.call_len_list pl.isList (by simp only[WA]<;>lia) ⟨.int ys.length,H,I.tok _,⟨s.toks+1,by rw[WA,aS]⟩,q⟩
 .refine bL (I.tuple hq) λits r' pl hz=>?_
  have aS:=r'.length
  exact len_tuple pl (by simp only[WA]<;>lia) ⟨.int ys.length,H,I.tok _,⟨s.toks+1,by rw[WA,aS]⟩,q⟩
def cH.or(h:cH X f r)(h':cH X f r'):cH X f (λxs H Q=>r xs H Q\/r' xs H Q):=by
 intro aa s σ H xs us Q I rs q
 rcases q with q|q
 .exact h aa s σ H xs us Q I rs q
 .exact h' aa s σ H xs us Q I rs q
def iR:cH X (.type "list") (λxs H Q=>∃p ys,xs=[.ref p]/\(c9 X.K H p ys\/dF X.K H p ys)/\∀l,H l=none->Q (.ref l) (upd H l (.lst ys))):=by
 intro aa s σ H xs us Q I r h
 refine au λnO=>bC h λp ys aj hq q=>?_
 try clear h
 subst aj
 refine ae (vals1 r) λu aU rx=>?_
 subst aU
 cases rx
 refine nO ?_
 have fin:∀(its:List Value),aD ys its->ys.length<=sizeLine->∀(h':Heap) (c':Nat),(∀b o',s.heap.get? b=some o'->h'.get? b=some o')->
   h'.get? s.heap.objs.size=some {cls:= .type "list",dict:=none,data:= .seq its.toArray c',slots:=#[]}->EP X aa σ Q (.ref s.heap.objs.size) {s with heap:=h'}:=λits r' hz h' c' kp e=>
  ⟨.ref s.heap.objs.size,_,I.laid (t':=s.toks) kp (WE _) (show aQ X.prog X.w _ h' _ (.lst ys) from⟨hz,its,c',r',e⟩),rfl,q _ (I.aR.fresh (WE _))⟩
 rcases hq with hq|hq
 .refine au λnO=>bL (I.list hq) λits r' pl hz=>?_
  have aS:=r'.length
  obtain⟨o,ho,hc,n,hd⟩:=pl.isList
  exact nO<|call_list_seq p (.inl rfl) ho hc hd (λh' c' kp e=>fin its r' hz h' c' kp e) (by simp only[WA]<;>lia)
 .refine au λnO=>bL (I.tuple hq) λits r' pl hz=>?_
  have aS:=r'.length
  obtain⟨o,ho,hc,n,hd⟩:=pl
  exact nO<|call_list_seq p (.inr rfl) ho hc hd (λh' c' kp e=>fin its r' hz h' c' kp e) (by simp only[WA]<;>lia)
def m9:cH X (.type "tuple") (λxs H Q=>∃p ys,xs=[.ref p]/\((c9 X.K H p ys/\∀l,H l=none->Q (.ref l) (upd H l (.tup ys)))\/(dF X.K H p ys/\Q (.ref p) H))):=by
 intro aa s σ H xs us Q I r h
 refine au λnO=>?_
 obtain⟨p,ys,rfl,h⟩:=h
 obtain⟨u,rfl,rx⟩:=vals1 r
 cases rx
 refine nO ?_
 rcases h with⟨hq,q⟩|⟨hq,q⟩
 .refine au λnO=>?_
  obtain⟨its,r',pl,hz⟩:=I.list hq
  refine nO ?_
  have aS:=r'.length
  refine call_tuple_list pl.isList (λh' kp=>?_) (by simp only[WA]<;>lia)
  have I1:Inv X aa σ H {s with heap:=h'}:=I.kept (t':=s.toks) kp
  have I2:Inv X aa σ (upd H h'.objs.size (.tup ys)) {s with heap:=h'.push {cls:= .type "tuple",data:= .seq its.toArray}}:=
   I1.laid (t':=s.toks) (λb o e=>Wo _ e) (WE _) (show aQ X.prog X.w _ _ _ (.tup ys) from⟨hz,its,r',jD.new _ _⟩)
  exact⟨.ref h'.objs.size,_,I2,rfl,q _ (I1.aR.fresh (WE _))⟩
 .refine au λnO=>?_
  obtain⟨its,r',pl,hz⟩:=I.tuple hq
  exact nO<|call_tuple_same pl ⟨.ref p,H,I,rfl,q⟩
def Oe(K:PySem.W.Frag)(T:String)(x:V)(H:Hp):Prop:=match x with
 | .str _=>T="str"
 | .int _=>T="int"
 | .ref p=>(T="list"/\∃xs,c9 K H p xs)\/(T="tuple"/\∃o,K.lookup p=some o/\o.cls= .type "tuple"/\o.dict=none)\/
   (T="dict"/\((∃aw,H p=some (.dK aw))\/∃aw,H p=some (.dT aw)))\/(T="set"/\∃S n,H p=some (.set S n))
 |_=>False
def yg(I:Inv X aa σ H s)(r:RelV x v)(ty:Oe X.K T x H):
  s.TypeIs v T/\∀a,v= .ref a->∃ob,s.heap.get? a=some ob/\ob.dict=none:=by
 cases x with
 |str z=>
  obtain⟨t,rfl⟩:=r
  cases (show T="str" from ty)
  exact⟨typeIs_str s z t,λ_ e=>nomatch e⟩
 |int i=>
  obtain⟨t,rfl⟩:=r
  cases (show T="int" from ty)
  exact⟨typeIs_int s i t,λ_ e=>nomatch e⟩
 |ref p=>
  cases r
  rcases ty with⟨rfl,xs,hq⟩|⟨rfl,o,hk,hc,hd⟩|⟨rfl,hk⟩|⟨rfl,S,n,hk⟩
  .refine bL (I.list hq) λits _ pl _=>⟨pl.isList.typeIs,λa e=>?_⟩
   cases e
   exact gM pl λo n e c hd _=>⟨o,e,hd⟩
  .refine⟨⟨o,I.D8 p o hk,hc⟩,λa e=>?_⟩
   cases e
   exact⟨o,I.D8 _ o hk,hd⟩
  .have z:∃o,s.heap.get? p=some o/\o.ExactDict:=by
    rcases hk with⟨aw,hk⟩|⟨aw,hk⟩
    .obtain⟨_,_,_,_,o,_,_,e,ex,_⟩:=I.aR p _ hk
     exact⟨o,e,ex⟩
    .obtain⟨_,_,_,_,o,_,_,e,ex,_⟩:=I.aR p _ hk
     exact⟨o,e,ex⟩
   refine ae z λo e ex=>⟨⟨o,e,ex.1⟩,λa e2=>?_⟩
   cases e2
   exact⟨o,e,ex.2.1⟩
  .refine E9 (I.aR p _ hk) λo _ _ _ e ex _=>⟨⟨o,e,ex.1⟩,λa e2=>?_⟩
   cases e2
   exact⟨o,e,ex.2.1⟩
 |_=>exact False.elim ty
def Of(K:PySem.W.Frag)(T:String)(r:V->List V->Hp->VK->Prop)(to:TE):TE:=λσ H Q=>to σ H λx H1=>Oe K T x H1/\r x [] H1 Q
def MR(K:PySem.W.Frag)(T:String)(r:V->List V->Hp->VK->Prop)(to:TE)(t:TA):TE:=λσ H Q=>to σ H λx H1=>Oe K T x H1/\t σ H1 λxs H2=>r x xs H2 Q
variable {o e:Expr}{es:List Expr}{to:TE}{t:TA}{name:Str}{m5 fY:Pos}{T id:String}{r:V->List V->Hp->VK->Prop}
def FY(pa:PlainAttrs T)(slot:Slot T name id)(JL:typeOf (.builtin id)=pure (.type "method_descriptor"))(hm:MQ X id r)(ho:PE X o to)
  (iS:attributeBase o name X.env (eval o X.env)=eval o X.env:=by rfl) (iT:(m5.endLine==fY.line)=true:=by rfl):PE X (.Call (.Attribute o name m5) [] [] fY) (Of X.K T r to):=by
 intro aa s σ H Q I h
 refine Z1 iS iT (bI (ho aa s σ H _ I h) λv s1 zz=>?_)
 refine gM zz λx H1 I1 r1 ty q1=>?_
 obtain⟨h1,h2⟩:=yg I1 r1 ty
 exact⟨T,id,pa,slot,JL,h1,h2,YB rfl (aat (hm aa s1 σ H1 x [] v [] Q I1 r1 .nil q1))⟩
def yh(pa:PlainAttrs T)(slot:Slot T name id)(JL:typeOf (.builtin id)=pure (.type "method_descriptor"))(hm:MQ X id r)(ho:PE X o to)(ha:PA X (e::es) t)
  (iS:attributeBase o name X.env (eval o X.env)=eval o X.env:=by rfl)
  (FZ:((backTo fY (starEach (e::es) X.env)).all (λx=>!x.1)&&(backToKw fY (keywordEach [] X.env)).all (λx=>x.1.isSome)
   && decide ((e::es).length+([]:List Keyword).length+(if([]:List Keyword).isEmpty then 0 else 1)<30))=true:=by rfl)
  (iT:(m5.endLine==fY.line)=true:=by rfl) (hs:starEach (e::es) X.env=(false,eval e X.env)::starEach es X.env:=by rfl) (sO:(backTo fY (starEach es X.env)).any (·.1)=false:=by rfl):
  PE X (.Call (.Attribute o name m5) (e::es) [] fY) (MR X.K T r to t):=by
 intro aa s σ H Q I h
 refine wpAny_Call_method_late iS FZ iT rfl (bI (ho aa s σ H _ I h) λv s1 zz=>?_)
 refine gM zz λx H1 I1 r1 ty q1=>?_
 obtain⟨h1,h2⟩:=yg I1 r1 ty
 refine⟨T,id,pa,slot,JL,h1,h2,?_⟩
 have hA:=ha fY aa s1 σ H1 _ I1 q1
 rw[hs]at hA⊢
 refine YB (by show(false||(backTo fY (starEach es X.env)).any (·.1))=false;rw[sO]<;>rfl) (Calls.evalArgs_plain ?_)
 exact bI hA λus s2 zz=>bC zz λvs H2 I2 r2 q2=>hm aa s2 σ H2 x vs v us Q I2 r1 r2 q2
end
def Og(X:Cx)(id:String)(r:V->List V->Hp->VK->Prop):Prop:=
 ∀(aa:List (Addr×Obj)) (s:Shared) (σ:St) (H:Hp) (x:V) (xs:List V) (v:Value) (us:List Value) (Q:VK),Inv X aa σ H s->RelV x v->aD xs us->r x xs H Q->
  wpAny (model X.prog X.w) X.A (call (.builtin id) (v::us)) (EP X aa σ Q) X.xe s
def aD.one(h:aD [x] us):∃u,us=[u]/\RelV x u:=by
 cases h with
 |cons r t=>cases t;exact⟨_,rfl,r⟩
def aD.zero:∀{us:List Value},aD [] us->us=[]
 |_,.nil =>rfl
theorem aD.dropLast(h:aD xs us):aD xs.dropLast us.dropLast:=by
 induction h with
 |nil=>exact .nil
 |cons r t ih=>
  cases t with
  |nil=>exact .nil
  |cons q t'=>exact .cons r ih
def sP(l:List α):l.eraseIdx (l.length-1)=l.dropLast:=by
 induction l with
 |nil=>rfl
 |cons a r ih=>
  cases r with
  |nil=>rfl
  |cons b r=>
   have e:(a::b::r).length-1=((b::r).length-1)+1:=by
    have h1:(a::b::r).length =r.length+2:=rfl
    have h2:(b::r).length =r.length+1:=rfl
    lia
   rw[e,List.eraseIdx_cons_succ,ih]
   all_goals rfl
section
variable {X:Cx}{aa:List (Addr×Obj)}{σ:St}{H:Hp}{s:Shared}{l b:Addr}{xs ys zs:List V}
def Inv.F0{its its':List Value}{n:Nat}{f:Array Value->Array Value}{t':Nat}(I:Inv X aa σ H s)(hH:H l=some (.lst xs))
  (e:s.heap.get? l=some {cls:= .type "list",data:= .seq its.toArray n}) (hf:f its.toArray=its'.toArray) (hv:aD ys its') (hz:ys.length<=sizeLine):
  Inv X aa σ (upd H l (.lst ys)) {s with heap:=s.heap.update l (Obj.mapSeq f),toks:=t'}:=by
 have q:=PySem.IsL.update e f
 rw[hf]at q
 exact I.write (x:=l) (e:=l) (by rw[hH];exact trivial) (.inl rfl) (λb' u hb hu=>(WX s.heap (Obj.mapSeq f) (Xt hb)).trans hu) ⟨_,q⟩<|⟨hz,its',_,hv,q⟩
def Inv.JM(I:Inv X aa σ H s)(hv:aD ys its)(hz:ys.length<=sizeLine):
  Inv X aa σ (upd H s.heap.objs.size (.lst ys)) {s with heap:=s.heap.push {cls:= .type "list",data:= .seq its.toArray},toks:=t'}:=
 I.laid (λ_ _ q=>Wo _ q) (WE _) ⟨hz,its,0,hv,WB _ rfl⟩
theorem Inv.fresh(I:Inv X aa σ H s):H s.heap.objs.size=none:=I.aR.fresh (WE _)
def Inv.F1(I:Inv X aa σ H s)(hH:H l=some (.lst xs)):xs.length<=sizeLine/\∃(its:List Value) (n:Nat),aD xs its/\xs.length=its.length/\s.heap.get? l=some {cls:= .type "list",data:= .seq its.toArray n}:=by
 refine au λnO=>?_
 obtain⟨z,its,n,r,e⟩:=I.aR l _ hH
 exact nO<|⟨z,its,n,r,r.length,e⟩
def yi(h:n<=sizeLine):Builtin.List.listTooLong n=false:=by
 unfold Builtin.List.listTooLong
 exact decide_eq_false (by lia)
end
section
variable {X:Cx}
def BG:V->List V->Hp->VK->Prop:=λx vs H Q=>∃l xs y,x= .ref l/\vs=[y]/\H l=some (.lst xs)/\xs.length<sizeLine/\Q .fC (upd H l (.lst (xs++[y])))
def nN:Og X "list.append" BG:=by
 intro aa s σ H x vs v us Q I rx rv h
 refine au λnO=>sf h λl xs y aj aU hH hz q=>?_
 try clear h
 subst aj
 subst aU
 cases rx
 refine ae rv.one λu fF ru=>?_
 subst fF
 obtain⟨z,its,n,r,hl,e⟩:=I.F1 hH
 refine nO ?_
 refine call_meets F.slot_list_append ⟨_,e,rfl⟩ F.entry_list_append (F.args_list_append_2 _ _) (PySem.list_append l its.toArray n u (by rw[WA];lia)) ⟨e,?_⟩
 refine⟨.fC,_,I.F0 (its':=its++[u]) hH e (by simp) (r.append (.cons ru .nil)) ?_,rfl,q⟩
 rw[WC,WR]
 lia
def Oh:V->List V->Hp->VK->Prop:=λx vs H Q=>∃l xs y,x= .ref l/\vs=[]/\H l=some (.lst xs)/\xs[xs.length-1]?=some y/\Q y (upd H l (.lst xs.dropLast))
def F2:Og X "list.pop" Oh:=by
 intro aa s σ H x vs v us Q I rx rv h
 refine au λnO=>sf h λl xs y aj aU hH hy q=>?_
 try clear h
 subst aj
 subst aU
 cases rx
 have Tg:=rv.zero
 subst Tg
 obtain⟨z,its,n,r,hl,e⟩:=I.F1 hH
 refine ae (r.get hy) λu hu ru=>nO ?_
 have Bh:its.toArray[its.toArray.size-1]?=some u:=by
  show its.toArray[its.length-1]?=some u
  rw[<-Xe,<-hl]
  exact hu
 refine call_meets F.slot_list_pop ⟨_,e,rfl⟩ F.entry_list_pop (F.args_list_pop_1 _) (MeetsSeq.list_pop_last l its.toArray n u Bh (by rw[WA];lia)) ⟨e,?_⟩
 refine⟨y,_,I.F0 (its':=its.dropLast) hH e ?_ r.dropLast ?_,ru,q⟩
 .show its.toArray.eraseIdxIfInBounds (its.toArray.size-1)=its.dropLast.toArray
  rw[WA,List.eraseIdxIfInBounds_toArray,sP]
 .rw[List.length_dropLast]
  lia
end
section
variable {prog:Program}{w:World}{A:Around}{E:Value->Shared->Prop}{s:Shared}{X:Cx}
end
end L2
namespace Rh
open PySem PySem.W PySem.Calls PyProof.Rows
def ky:∀(ns:List Int) (vs:List Value),WellAll P h vs (ns.map WData.int)->IntsAre vs ns:=by
 intro ns
 induction ns with
 |nil=>
  intro vs w
  rw[ZG]at w
  cases w
  exact .nil
 |cons n ns ih=>
  intro vs w
  rw[WJ]at w
  cases w with
  |cons a b=>
   cases a
   exact .cons _ _ (ih _ b)
def wj{l:OpenLaw}{n:Nat}(hn:l.most=some n){P:Params}{h:Heap}{args:List WData}{vals:List Value}
  (BH:l.row.toRowW.claim.pre args=true) (Oi:WellAll P h vals args):
  ∃a vs ns,vals=[Value.ref a]/\args=[WData.list (ns.map WData.int)]/\h.get? a=some {cls:= .type "list",data:= .seq vs.toArray}/\IntsAre vs ns/\ns.length<=n:=by
 have Th:WShape.hasAll [] args [.list .int]=true:=(pre_splitW BH).1
 have hc:l.pre.holds [] {args:=args}=true:=(pre_splitW BH).2
 refine bC (hasAllW_cons Th) λd r aj h1 h2=>?_
 subst aj
 obtain rfl:=hasAllW_nil h2
 refine ae (hasW_list h1) λxs aU h3=>?_
 subst aU
 obtain⟨ns,rfl⟩:=items_int h3
 have aS:ns.length<=n:=by
  unfold OpenLaw.pre at hc
  have h4:(WTm.not (.lt (.lit (.int (n:Int))) (.len (.arg 0)))).holds [] {args:=[.list (ns.map .int)]}=true:=by
   have h4:=(holds_andW hc).1
   rw[hn]at h4
   exact h4
  have h5:=condW_of h4 (w_not (w_lt w_lit (w_len_list (w_arg rfl))))
  rw[Wr]at h5
  refine Z6 λq=>?_
  have q':(n:Int)<((ns.length:Nat):Int):=by lia
  first
   |(rw[decide_eq_true q']at h5;exact absurd h5 (by decide))
   |(simp at h5;lia)
 cases Oi with
 |cons w1 w2=>
  cases w2
  cases w1 with
  |list ho F3=>exact⟨_,_,ns,rfl,rfl,ho,ky ns _ F3,aS⟩
def wk(l:OpenLaw)(args:List WData):l.row.toRowW.claim.post args (.bool true) args=true:=
 postW_of (r:=l.row.toRowW) (X:=(true==true))
  (show WShape.has [] (.bool true) .bool =true by first|rfl|decide|simp[WShape.has,WShape.arms,WShape.armsAll])
  (show(WTm.eq .res (.lit (.bool true))).value [] {args:=args,res:=some (.bool true),after:=args}=some (.bool (true==true)) from w_eq_bool (w_res rfl) w_lit) rfl
def qr{l:OpenLaw}{n:Nat}{q:Program}{loose:List Str}{XP:(Str->Option Value)->Heap->Prop}{YP:World->Heap->Prop}{d:DefRec}
  (hn:l.most=some n) (JN:d.params.defaults=[])
  (call:∀(w:World) (s₀ aZ:Shared) (mg mb:Str->Option Value) (fa:Addr) (o:Obj) (pm cd gZ:Value) (a:Addr) (vs:List Value) (ns:List Int),
   Ground q loose [] XP w s₀ mg mb aZ.heap->YP w aZ.heap->
   aZ.heap.get? fa=some o->o.data= .func (docDef d.name d.params d.body d.scope pm cd gZ)->aZ.heap.CodeRec cd d.name->mg d.name=some (.ref fa)->
   aZ.heap.get? a=some {cls:= .type "list",data:= .seq vs.toArray}->IntsAre vs ns->ns.length<=n->aZ.gens=#[]->
   codeAny (model l.prog w) callerA (.call (.ref fa) ⟨[.ref a],[]⟩) (λr s'=>r= .ok (.ret (.bool true))/\OldK aZ.heap s'.heap/\s'.os=aZ.os/\AllBare s'.gens) aZ):
  WalkO q loose XP YP l.row.toRowW d [] (λf vs=>PySem.call f vs):=by
 intro w s₀ aZ mg mb G Y fa o pm cd gZ dV kV ho hd xT hD JO hg args vals as BH Ti VZ Oi F4
 obtain rfl:dV= .none :=Dflts.none hD JN
 obtain rfl:kV= .none :=Dflts.noKw hD
 refine sf (wj hn BH Oi) λa vs ns aj aU F5 hints aS=>?_
 subst aj
 subst aU
 refine enter_call (Zd (call w s₀ aZ mg mb fa o pm cd gZ a vs ns G Y ho (fd_plain hd) xT JO F5 hints aS hg) λr s' hq=>?_)
 refine xC hq λfF h2 h3 h4=>?_
 try clear hq
 subst fF
 exact⟨.inl ⟨.bool true,.bool true,[],rfl,λ_=>rfl,.bool true,wk l _,λ_=>⟨List.Pairwise.nil,λ_ hm=>(nomatch hm)⟩⟩,h2,h3,h4⟩
section
variable {prog:Program}{w:World}{A:Around}{E:Value->Shared->Prop}{s:Shared}{K:Frag}
end
end Rh
namespace L2
open PySem PySem.Spec PyProof.Rows
def nP:∀{vs:List Value}{ns:List Int},IntsAre vs ns->aD (ns.map V.int) vs:=λ{vs ns} h=>by
 induction h with
 |nil=>exact .nil
 |cons n t h ih=>exact .cons ⟨t,rfl⟩ ih
def F6(H:Hp):Prop:=∀b,H b=none\/∃o xs,H b=some (.dn o (.lst xs))
def yj{P:Program}{w:World}{K:PySem.W.Frag}{mg mb:Str->Option Value}{CX:xY}{k:Nat}{fa a:Addr}{fd:FuncData}{x:Str}{sp:Sp}{aZ:Shared}{vs:List Value}{ns:List Int}
  (KX:K.In aZ.heap) (Ri:aZ.heap.Ns mainGlobals mg) (hb:aZ.heap.Ns builtinsNs mb) (Tj:∀x:Str,x≠"__name__"->mb x=bootBuiltins x) (Oj:aZ.heap.NoLimit) (hg:aZ.gens=#[])
  (ha:aZ.heap.get? a=some {cls:= .type "list",data:= .seq vs.toArray}) (hi:IntsAre vs ns) (hl:ns.length<=sizeLine) (hr:eG k callerA)
  (F:∀base:Heap,K.In base->base.Ns mainGlobals mg->iP P w K mg base CX k fa fd [x] sp) (JP:∀(s:Shared) (u:Value),BindsTo s fd ⟨[u],[]⟩ [(x,u)])
  (Eb:∀H:Hp,F6 H->c9 K H a (ns.map V.int)->sp [.ref a] H (λv _=>v= .bl true) λ_ _ _=>False)
  (Ol:∀H e s',CX [] H aZ (λ_ _ _=>False) e s'->False):
  codeAny (model P w) callerA (.call (.ref fa) ⟨[.ref a],[]⟩) (λr s'=>r= .ok (.ret (.bool true))/\OldK aZ.heap s'.heap/\s'.os=aZ.os/\AllBare s'.gens) aZ:=by
 have rv:=nP hi
 have Om:=hi.length
 have aK:∀H:Hp,F6 H->c9 K H a (ns.map V.int)->iB P w H aZ.heap->(∀b,H b≠none->b=a)->(H a≠none->K.lookup a=none)->
   codeAny (model P w) callerA (.call (.ref fa) ⟨[.ref a],[]⟩) (λr s'=>r= .ok (.ret (.bool true))/\OldK aZ.heap s'.heap/\s'.os=aZ.os/\AllBare s'.gens) aZ:=by
  intro H hO hS aR hA hK
  have kL:∀{b:Addr}{o:Obj},aZ.heap.get? b=some o->H b=none->(oK aZ.heap H).get? b=some o:=λe n=>xO e n
  have JB:∀{b:Addr}{o:Obj}{es:Array DictEntry}{ep:Nat},aZ.heap.get? b=some o->o.data= .dict es ep->H b=none:=λ{b o es ep} e d=>by
   cases q:H b with
   |none=>rfl
   |some u=>
    have e':b=a:=hA b (by rw[q];simp)
    subst e'
    rw[ha]at e;cases e
    have d':Data.seq vs.toArray _=Data.dict es ep:=d
    cases d'
  have MS:∀{b:Addr}{m:Str->Option Value},aZ.heap.Ns b m->(oK aZ.heap H).Ns b m:=λ{b m} zz=>c7 zz λo es ep e d r=>⟨o,es,ep,kL e (JB e d),d,r⟩
  have Rj:K.In (oK aZ.heap H):=λb o e=>kL (KX b o e) (by
   cases q:H b with
   |none=>rfl
   |some u=>
    have e':b=a:=hA b (by rw[q];simp)
    subst e'
    rw[hK (by rw[q];simp)]at e;cases e)
  have hM:Mod K mg (oK aZ.heap H):=⟨Rj,MS Ri,⟨mb,MS hb,Tj⟩,let ⟨mc,h1,h2⟩:=Oj;⟨mc,MS h1,h2⟩⟩
  have e0:By P w K mg (oK aZ.heap H) callerA [] aZ H:=⟨rfl,hM,λb o e=>Bo e,aae (vW _ _),trivial,λb hb=>absurd (show b∈([]:List Addr) from hb) (by simp),aR,.of_eq hg⟩
  refine Zd ((F _ Rj (MS Ri)).run callerA [] aZ H ⟨[.ref a],[]⟩ [.ref a] [.ref a] _ _ hr e0 (JP aZ (.ref a)) (.cons rfl .nil) (Eb H hO hS)) λr s' h=>?_
  cases r with
  |error e=>exact(Ol H e s' h).elim
  |ok fl=>
   cases fl with
   |next=>exact False.elim h
   |brk=>exact False.elim h
   |cont=>exact False.elim h
   |ret u=>
    refine NB h λv H' os bare un Oo r' q=>?_
    have q':v= .bl true:=q
    subst q'
    obtain rfl:u=Value.bool true:=r'
    refine⟨rfl,OldK.of_keep λb o e=>?_,os,bare⟩
    cases q:H b with
    |none=>exact un.keep b o e q (by intro z;exact absurd (show b∈([]:List Addr) from z) (by simp)) (by simp)
    |some u=>
     rcases hO b with z|⟨ob,xs,z⟩
     .rw[q]at z;cases z
     .have z2:=un.iC b ob _ z
      obtain⟨e1,_⟩:=aR b _ z
      obtain⟨e2,_⟩:=Oo b _ z2
      rw[e]at e1;cases e1
      exact e2
 cases hk:K.lookup a with
 |some o=>
  have e:=KX a o hk
  rw[ha]at e
  cases e
  refine aK (λ_=>none) (λ_=> .inl rfl) (.inr ⟨_,vs.toArray,_,hk,rfl,rfl,rfl,by rw[WA,Om];exact hl,by simpa using rv⟩) (λb u z=>by have z':(none:Option HO)=some u:=z;cases z') (λb z=>absurd rfl z) λz=>absurd rfl z
 |none=>
  refine aK (λb=>if b=a then some (.dn {cls:= .type "list",data:= .seq vs.toArray} (.lst (ns.map V.int))) else none) (λb=>?_) (.inl (.inr ⟨{cls:= .type "list",data:= .seq vs.toArray},WO rfl⟩)) (λb u z=>?_) (λb z=>?_) λ_=>hk
  .by_cases hb:b=a
   .exact .inr ⟨_,_,WO hb⟩
   .exact .inl (WV hb)
  .by_cases hb:b=a
   .have z':=(WO hb).symm.trans z
    cases z'
    subst hb
    exact⟨ha,by rw[Wr];exact hl,vs,_,rv,ha⟩
   .have z':=(WV hb).symm.trans z
    cases z'
  .by_cases hb:b=a
   .exact hb
   .exact absurd (WV hb) z
def BI{l:PySem.W.OpenLaw}{n k:Nat}{q:Program}{loose:List Str}{XP:(Str->Option Value)->Heap->Prop}{YP:World->Heap->Prop}{d:DefRec}{K:Params->PySem.W.Frag}{CX:World->xY}{sp:World->Sp}{x:Str}
  (hn:l.most=some n) (JQ:n<=sizeLine) (JN:d.params.defaults=[]) (hr:eG k callerA)
  (hY:∀(w:World) (h:Heap),YP w h->(K w.params).In h)
  (F:∀(w:World) (mg:Str->Option Value) (fa:Addr) (h:Heap),(K w.params).In h->h.Ns mainGlobals mg->mg d.name=some (.ref fa)->
   ∃fd:FuncData,(∀(s:Shared) (u:Value),BindsTo s fd ⟨[u],[]⟩ [(x,u)])/\
    ∀base:Heap,(K w.params).In base->base.Ns mainGlobals mg->iP l.prog w (K w.params) mg base (CX w) k fa fd [x] (sp w))
  (Eb:∀(w:World) (H:Hp) (a:Addr) (ns:List Int),ns.length<=n->F6 H->c9 (K w.params) H a (ns.map V.int)->sp w [.ref a] H (λv _=>v= .bl true) λ_ _ _=>False)
  (Ol:∀(w:World) (H:Hp) (s:Shared) (e:Value) (s':Shared),CX w [] H s (λ_ _ _=>False) e s'->False):
  PySem.W.WalkO q loose XP YP l.row.toRowW d [] (λf vs=>PySem.call f vs):=by
 refine Rh.qr hn JN λw s₀ aZ mg mb fa o pm cd gZ a vs ns G Y ho hd xT JO F5 hints aS hg=>?_
 have KX:=hY w _ Y
 exact ae (F w mg fa _ KX G.T.g JO) λfd hb hF=>yj KX G.T.g G.T.b G.T.builtins G.T.nolimit hg F5 hints (Xu aS JQ) hr hF hb (λH hO hS=>Eb w H a ns aS hO hS) λH e s'=>Ol w H aZ e s'
noncomputable def dq(s:Stmt):Arguments:=match s with
 | .FunctionDef _ a _ _ _ _ _ _ _ _=>a
 |_=>{posonlyargs:=[],args:=[],vararg:=none,kwonlyargs:=[],kw_defaults:=[],kwarg:=none,defaults:=[]}
noncomputable def bY(s:Stmt):List Stmt:=match s with
 | .FunctionDef _ _ b _ _ _ _ _ _ _=>b
 |_=>[]
noncomputable def az(s:Stmt):Scope:=match s with
 | .FunctionDef _ _ _ _ _ _ sc _ _ _=>sc
 |_=>{kind:= .function,names:=[],isGenerator:=false,isCoroutine:=false}
abbrev wm:xY:=λ_ _ _ _ _ _=>False
abbrev E0:XK:=λ_ _ _=>False
def yk:sD wm X E0:=λ_ _ _ _ _ _ _ h=>h.elim
structure Ee(K:PySem.W.Frag)(x qual:Str)(st:Stmt)(f:Addr)(fd:FuncData):Prop where
 ex:∃(oc:Value) (od:Option Addr) (kV gZ pm:Value) (an:Option Addr) (eL ct:Value) (BA:Array (Option Value)),
  fd=PySem.W.fnOf x qual (dq st) (bY st) (az st) .none kV gZ pm an eL ct/\K.lookup f=some ⟨oc,od,.func fd,BA⟩/\PySem.W.codeIn K eL qual=true
 kp:PySem.W.keepIn K (.ref f)=true
section
variable {P:Program}{w:World}{K:PySem.W.Frag}{mg:Str->Option Value}{base:Heap}{X:Cx}
def Ee.ok{x qual:Str}{st:Stmt}{f:Addr}{fd:FuncData}{N ps:List Str}{k:Nat}{sp:Sp}(F:Ee K x qual st f fd)(S:gO N ps (az st))(len:∀vs H Q E,sp vs H Q E->vs.length=ps.length)
  (x8:∀(eL:Value) (A:Around) (outer:List Env) (s:Shared) (H:Hp) (vs:List V) (Q:VK) (E:XK),eG k (A.deeper (envOfC qual (az st) s.heap.objs.size f eL))->sp vs H Q E->
   ∃t,kK (sE wm P w K mg base N qual (az st) f eL A outer s H E).Js (bY st) t/\t {nx:=λ_ H'=>Q .fC H',rt:=Q} (start N vs) H):iP P w K mg base wm (k+1) f fd ps sp:=by
 refine Q6 F.ex λoc od kV gZ pm an eL ct BA aj lk xT=>?_
 subst aj
 exact JC lk xT S len λA outer s H vs Q E hr Eb=>ae (x8 eL A outer s H vs Q E hr Eb) λt h q=>⟨t,h.Js,q⟩
def Ee.binds{x qual:Str}{st:Stmt}{f:Addr}{fd:FuncData}{ps:List Str}(F:Ee K x qual st f fd)
  (h:∀(kV gZ pm:Value) (an:Option Addr) (eL ct:Value) (us:List Value),us.length=ps.length->bindArgs (PySem.W.fnOf x qual (dq st) (bY st) (az st) .none kV gZ pm an eL ct) ⟨us,[]⟩=pure (ps.zip us)):Binds K fd ps []:=by
 refine Q6 F.ex λoc od kV gZ pm an eL ct BA aj lk xT=>?_
 subst aj
 exact .all (h kV gZ pm an eL ct)
def F7{x qual:Str}{st:Stmt}{f:Addr}{oc:Value}{od an:Option Addr}{BA:Array (Option Value)}{kV gZ pm eL ct:Value}(l:K.lookup f=some ⟨oc,od,.func (PySem.W.fnOf x qual (dq st) (bY st) (az st) .none kV gZ pm an eL ct),BA⟩)
  (c:PySem.W.codeIn K eL qual=true) (k:PySem.W.keepIn K (.ref f)=true):Ee K x qual st f (PySem.W.fnOf x qual (dq st) (bY st) (az st) .none kV gZ pm an eL ct):=⟨⟨oc,od,kV,gZ,pm,an,eL,ct,BA,rfl,l,c⟩,k⟩
end
def m_{A B:Prop}(h:B):if false=true then A else B:=by
 rw[WV Wt]
 exact h
def lH{A B:Prop}(h:A):if true=true then A else B:=by
 rw[WO rfl]
 exact h
def af(H H':Hp):Prop:=∀b o,H b=some o->H' b=some o
def af.refl(H:Hp):af H H:=λ_ _ h=>h
def af.trans(a:af H H1)(b:af H1 H2):af H H2:=λc o h=>b c o (a c o h)
def af.seq{K:PySem.W.Frag}{H H':Hp}{a:Addr}{xs:List V}(e:af H H')(h:c9 K H a xs):c9 K H' a xs:=by
 rcases h with (h|⟨o,h⟩)|h
 .exact .inl (.inl (e _ _ h))
 .exact .inl (.inr ⟨o,e _ _ h⟩)
 .exact .inr h
end L2
namespace L2
open PySem
theorem iD(env:Env):∀(l:List (Str×NameKind)) (cs:List (Str×Addr)),(∀y∈l,y.2= .free ->∃c,env.cells.lookup y.1=some c)->
  ∃cl,(forIn l cs λ(x:Str×NameKind) (r:List (Str×Addr))=>if(x.2==NameKind.free)=true then(do let a<-cellOf env x.1;pure (ForInStep.yield ((x.1,a)::r))) else pure (ForInStep.yield r):Sem (List (Str×Addr)))=pure cl/\
   (∀x c,cl.lookup x=some c->cs.lookup x=some c\/(env.cells.lookup x=some c/\(x,NameKind.free)∈l))/\
   (∀x,(x,NameKind.free)∈l\/(∃c,cs.lookup x=some c)->∃c,cl.lookup x=some c)
 |[],cs,_=>⟨cs,rfl,λx c h=> .inl h,λx h=>h.elim (λz=>nomatch z) id⟩
 |(n,k)::l,cs,h=>by
  have hl:∀y∈l,y.2= .free ->∃c,env.cells.lookup y.1=some c:=λy hy=>h y (Wu _ hy)
  by_cases hk:k= .free
  .subst hk
   obtain⟨c,hc⟩:=h (n,.free) Wx rfl
   refine bL (iD env l ((n,c)::cs) hl) λcl e h1 h2=>⟨cl,?_,λx d hx=>?_,λx hx=>?_⟩
   .rw[Yp]
    simp only[beq_self_eq_true,if_true,cellOf,hc]
    exact e
   .rcases h1 x d hx with z|⟨z,m⟩
    .rw[YS]at z
     by_cases IE:(x==n)=true
     .rw[IE]at z
      have:x=n:=eq_of_beq IE
      subst this
      cases z
      exact .inr ⟨hc,Wx⟩
     .have e0:(x==n)=false:=by simpa using IE
      rw[e0]at z
      exact .inl z
    .exact .inr ⟨z,Wu _ m⟩
   .refine h2 x ?_
    rcases hx with hx|⟨d,hd⟩
    .rcases WG.mp hx with e1|hx
     .cases e1
      exact .inr ⟨c,by rw[YS,beq_self_eq_true]⟩
     .exact .inl hx
    .by_cases IE:(x==n)=true
     .exact .inr ⟨c,by rw[YS,IE]⟩
     .have e0:(x==n)=false:=by simpa using IE
      exact .inr ⟨d,by rw[YS,e0];exact hd⟩
  .refine bL (iD env l cs hl) λcl e h1 h2=>?_
   have hb:(k==NameKind.free)=false:=by simpa using hk
   refine⟨cl,?_,λx d hx=>?_,λx hx=>h2 x ?_⟩
   .rw[Yp]
    simp only[hb,XB,if_false]
    exact e
   .rcases h1 x d hx with z|⟨z,m⟩
    .exact .inl z
    .exact .inr ⟨z,Wu _ m⟩
   .rcases hx with hx|hx
    .rcases WG.mp hx with e1|hx
     .cases e1;exact absurd rfl hk
     .exact .inl hx
    .exact .inr hx
def sQ(h:∀y∈sc.names,y.2= .free ->∃c,env.cells.lookup y.1=some c):
  ∃cl,closureFor sc env=pure cl/\(∀x c,cl.lookup x=some c->env.cells.lookup x=some c/\(x,NameKind.free)∈sc.names)/\(∀x,(x,NameKind.free)∈sc.names->∃c,cl.lookup x=some c):=by
 refine bL (iD env sc.names [] h) λcl e h1 h2=>⟨cl,?_,λx c hx=>(h1 x c hx).resolve_left (λz=>by simp at z),λx hx=>h2 x (.inl hx)⟩
 have e':closureFor sc env=(forIn sc.names ([]:List (Str×Addr)) λ(x:Str×NameKind) (r:List (Str×Addr))=>if(x.2==NameKind.free)=true then(do let a<-cellOf env x.1;pure (ForInStep.yield ((x.1,a)::r))) else pure (ForInStep.yield r):Sem (List (Str×Addr))) >>= λr=>pure r:=by
  rfl
 rw[e',e]
 rfl
section
variable {prog:Program}{w:World}{A:Around}{E:Value->Shared->Prop}{R:Result->Shared->Prop}{s:Shared}
def sR(I:Nat->Shared->Prop)
  (turn:∀n s,I n s->wpAny (model prog w) A (pyNext it) (λr aZ=>match r with
   |none=>R (.ok .next) aZ
   |some v=>wpAny (model prog w) A (letOwnedTupleGo target it v) (λ_ Ef=>wpAny (model prog w) A (assign target env v) (λ_ lj=>
     wpAny (model prog w) A (forIn ifs true λc r=>if r=true then do let ok<-isTrue c env (eval c env);pure (ForInStep.yield ok) else pure (ForInStep.yield r)) (λok wo=>
      if ok=true then wpAny (model prog w) A (eval cD env) (λx JR=>
       wpAny (model prog w) A (call (.builtin "list.append") [acc,x]) (λ_ JS=>∃m,m<n/\I m JS) (λ_ _=>False) JR) (λ_ _=>False) wo
      else∃m,m<n/\I m wo) (λ_ _=>False) lj) (λ_ _=>False) Ef) (λ_ _=>False) aZ) (λ_ _=>False) s)
  (n:Nat) (h:I n s):
  codeAny (model prog w) A (.compLoop (.ListComp cD [⟨target,iter,ifs,0⟩] scope pos) 0 it acc env) R s:=by
 refine codeAny_loop rfl I (λn s hI=>?_) n h
 show wpAny _ A ((compTurn (.ListComp cD [⟨target,iter,ifs,0⟩] scope pos) 0 it acc env).onRaise (λx=>do noteFrame x env;theTreesLotGoes x)) _ _ s
 refine wpAny_noted ?_
 rw[compTurn_list]
 refine Wn (ZZ (Wn (X2 (turn n s hI) (λr aZ BJ=>?_) λ_ _ h'=>h'.elim)))
 cases r with
 |none=>exact Wv BJ
 |some v=>
  refine Wn (X2 BJ (λ_ Ef JT=>?_) λ_ _ h'=>h'.elim)
  refine Wn (X2 JT (λ_ lj yl=>Wn (X2 yl (λok wo BK=>?_) λ_ _ h'=>h'.elim)) λ_ _ h'=>h'.elim)
  cases ok with
  |false=>exact Wv ⟨rfl,BK⟩
  |true=>
   exact Wn (Wn (X2 BK (λx JR Oq=>Wn (X2 Oq (λ_ JS Ot=>Wv (Wv ⟨rfl,Ot⟩)) λ_ _ h'=>h'.elim)) λ_ _ h'=>h'.elim))
end
end L2
set_option maxHeartbeats 4000000
namespace L2
open PySem PySem.Spec PyProof.Rows
def Inv.Eg(I:Inv X aa σ H s)(h:c9 X.K H a xs):∃(its:List Value) (n:Nat),aD xs its/\xs.length=its.length/\s.heap.get? a=some {cls:= .type "list",data:= .seq its.toArray n}/\xs.length<=sizeLine:=by
 rcases h with h|⟨o,its,n,hk,hc,hd,hs,hz,r,MT⟩
 .obtain⟨z,its,n,r,e⟩:=h.ok I.aR
  exact⟨its,n,r,r.length,e,z⟩
 .refine⟨its.toList,n,r,r.length,?_,?_⟩
  .rw[I.D8 a o hk]
   obtain⟨c,d,dt,sl⟩:=o
   simp only at hc hd hs MT
   subst hc hd hs MT
   simp
  .have e:=r.length
   simp only[Wy]at e
   lia
theorem MU{env:Env}:∀{names:List (Str×NameKind)}{x:Str},(names.map λ(n,k)=>if(k==NameKind.free&&env.scope.kind == .function&&env.kindOf n==some .cell) then(n,NameKind.cell) else(n,k)).lookup x=
  (names.lookup x).map λk=>if(k==NameKind.free&&env.scope.kind == .function&&env.kindOf x==some .cell)=true then NameKind.cell else k
 |[],_=>rfl
 |(n,k)::r,x=>by
  rw[WJ]
  show List.lookup x ((if(k==NameKind.free&&env.scope.kind == .function&&env.kindOf n==some .cell)=true then(n,NameKind.cell) else(n,k))::_)=_
  cases hx:x==n with
  |true=>
   cases eq_of_beq hx
   rw[aaf,YZ]
   split<;>exact aaf
  |false=>split<;>simp only[YS,hx]<;>exact MU
def g_{sc:Scope}{env:Env}(h:sc.names.lookup x=some .free):(relabel sc env).names.lookup x=some .cell \/(relabel sc env).names.lookup x=some .free :=by
 refine(show _=_ from MU)▸?_
 rw[h,YZ]
 split
 .exact .inl rfl
 .exact .inr rfl
def kg{sc:Scope}{env:Env}(hk:kd= .cell \/kd= .free)(h:(relabel sc env).names.lookup x=some kd):(x,NameKind.free)∈sc.names\/(x,NameKind.cell)∈sc.names:=by
 rw[show(relabel sc env).names.lookup x=_ from MU]at h
 obtain⟨k,h1,h2⟩:=Y4.mp h
 have:=Xl h1
 cases k with
 |free=>exact .inl this
 |cell=>exact .inr this
 |_=>simp at h2;subst h2;rcases hk with z|z<;>cases z
theorem lI:∀{names:List (Str×NameKind)}{n:Nat}{acc:List (Str×Addr)},cellsFrom n names acc=cellsFrom n names []++acc
 |[],_,_=>rfl
 |(x,k)::r,n,acc=>by
  unfold cellsFrom
  split
  .rw[lI,lI (acc:=[(x,n)]),WZ];rfl
  .exact lI
theorem oV:∀{names:List (Str×NameKind)}{n:Nat},(∀x c,(x,c)∈cellsFrom n names []->(x,NameKind.cell)∈names)/\∀x,(x,NameKind.cell)∈names->∃c,(cellsFrom n names []).lookup x=some c
 |[],_=>⟨λ_ _ h=>(nomatch h),λ_ h=>nomatch h⟩
 |(y,k)::r,n=>by
  unfold cellsFrom
  split
  .rename_i hk
   cases eq_of_beq hk
   rw[lI]
   obtain⟨a,b⟩:=@oV r (n+1)
   refine⟨λx c h=>?_,λx h=>?_⟩
   .rcases WQ.mp h with z|z
    .exact Wu _ (a x c z)
    .cases Ww.mp z;exact Wx
   .rw[ZH]
    cases q:(cellsFrom (n+1) r []).lookup x with
    |some c=>exact⟨c,rfl⟩
    |none=>
     rcases WG.mp h with z|z
     .cases z;exact⟨n,by simp⟩
     .obtain⟨c,hc⟩:=b x z
      rw[q]at hc;cases hc
  .rename_i hk
   obtain⟨a,b⟩:=@oV r n
   refine⟨λx c h=>Wu _ (a x c h),λx h=>?_⟩
   rcases WG.mp h with z|z
   .cases z;exact absurd rfl hk
   .exact b x z
def wq(X:Cx)(ifs:List Expr)(t:TT):Prop:=
 ∀(aa:List (Addr×Obj)) (s:Shared) (σ:St) (H:Hp) (Q:Bool->Hp->Prop),Inv X aa σ H s->t σ H Q->
  wpAny (model X.prog X.w) X.A (forIn ifs true λc r=>if r=true then do let ok<-isTrue c X.env (eval c X.env);pure (ForInStep.yield ok) else pure (ForInStep.yield r)) (TP X aa σ Q) X.xe s
theorem nQ:∀(cs:List Expr),(forIn cs false λc r=>if r=true then do let ok<-isTrue c env (eval c env);pure (ForInStep.yield ok) else pure (ForInStep.yield r):Sem Bool)=pure false
 |[]=>rfl
 |c::cs=>by
  rw[Yp,WV Wt]
  exact nQ cs
section
variable {X:Cx}
def BL:wq X [] (λσ H Q=>Q true H):=λ_ _ _ H _ I h=>Wv ⟨H,I,h⟩
def ym(h:PT X c t)(hr:wq X cs u):wq X (c::cs) (Jo t u):=by
 intro aa s σ H Q I hw
 rw[Yp,WO rfl]
 refine Wn (Wn (bI (h aa s σ H _ I hw) λb s1 zz=>ae zz λH1 I1 q1=>Wv ?_))
 cases b with
 |true=>exact hr aa s1 σ H1 Q I1 q1
 |false=>
  show wpAny _ _ (forIn cs false _) _ _ _
  rw[nQ]
  exact Wv ⟨H1,I1,q1⟩
noncomputable def iU(fr:List Nat)(σ:St):St:=fr.map λi=>(σ[i]?).join
noncomputable def hJ(X:Cx)(sc:Scope)(cl:List (Str×Addr))(C:Addr)(N:List Str)(aa:List (Addr×Obj))(s:Shared)(H:Hp)(ex:List Addr):Cx:=
 {X with N:=N,s₀:=s,H₀:=H,env:=compEnvC sc cl C X.env,outer:=X.stack,ex:=ex,fn:=λx=>decide ((x,NameKind.cell)∈sc.names),pn:=X.pn++aa,xe:=λ_ _=>False}
structure F8(N:List Str)(yo:Scope)(sc:Scope)(N':List Str)(k:Nat)(fr:List Nat):Prop where
 kind:sc.kind= .function
 apart:∀y∈sc.names,y.2= .free ->(y.1,NameKind.cell)∉sc.names
 loc:∀y∈sc.names,y.2= .local ->sc.names.lookup y.1=some .local
 free:∀y∈sc.names,y.2= .free ->yo.names.lookup y.1=some .cell \/yo.names.lookup y.1=some .free
 len:N'.length=k+fr.length
 Tn:∀j x,N'[k+j]?=some x->∃i,fr[j]?=some i/\N[i]?=some x/\sc.names.lookup x=some .free
def nR(k:Nat)(fr:List Nat)(wi:TI)(g:TG)(tt:TT)(te:TE):TE:=λσ H Q=>wi σ H λJ H1=>
 ∀p,H1 p=none->∃W:Nat->Nat->Hp->Prop,(∃m,W 0 m (upd H1 p (.lst [])))/\∀i m H,W i m H->
  (J.stop i H/\Q (.ref p) H)\/
  (J.go i H/\∀x H',J.xV i H x H'->g x (List.replicate k none++iU fr σ) H' λxD H2=>tt xD H2 λb H3=>
   if b=true then te xD H3 λv H4=>∃xs m',H4 p=some (.lst xs)/\xs.length<sizeLine/\m'<m/\W (i+1) m' (upd H4 p (.lst (xs++[v])))
   else∃m',m'<m/\W (i+1) m' H3)
def lJ(k:Nat)(g:TG):Prop:=∀x σ H Q,g x σ H Q->g x σ H λxD H2=>Q xD H2/\xD.length=σ.length/\∀i,k<=i->xD[i]?=σ[i]?
def yp(I:Inv X aa σ H s)(S:F8 X.N X.env.scope sc N' k fr)
  (h1:∀x c,cl.lookup x=some c->X.env.cells.lookup x=some c/\(x,NameKind.free)∈sc.names\/(x,NameKind.cell)∈sc.names/\s.heap.objs.size<c/\s4.heap.IsCell c none) (h2:∀x,(x,NameKind.free)∈sc.names\/(x,NameKind.cell)∈sc.names->∃c,cl.lookup x=some c)
  (inj:∀x y c,cl.lookup x=some c->cl.lookup y=some c->x=y) (MV:∀b∈fp,kr X aa H b) (bQ:∀b∈fp,b<s.heap.objs.size) (os:s4.os=s.os) (gens:s4.gens=s.gens) (keep:∀b o,s.heap.get? b=some o->s4.heap.get? b=some o)
  (ns:s4.heap.Ns s.heap.objs.size m):
  Inv (hJ X sc cl s.heap.objs.size N' aa s H fp) [] (List.replicate k none++iU fr σ) H s4:=by
 have kx:∀x,(x,NameKind.free)∈sc.names->X.env.kindOf x=some .cell \/X.env.kindOf x=some .free :=λx hx=>S.free (x,.free) hx rfl
 have Eh:∀x c v,X.env.cells.lookup x=some c->s.heap.IsCell c v->s4.heap.IsCell c v:=λx c v _ ⟨o,ho,hd⟩=>⟨o,keep c o ho,hd⟩
 refine⟨⟨I.ok.mod,S.kind,I.ok.glob,I.ok.blt,WE _,inj,λx hx=>?_,λx c hf hx=>?_,I.ok.hd,I.ok.frames,.inl rfl,λb hb=>⟨?_,λx c hx=>?_⟩,I.bs,Xu I.ok.xQ I.sz,λb o e hb=>?_,λb hb=>?_,I.stack,I.t9⟩,
  os,by rw[gens];exact I.bare,Un.kept keep,⟨m,ns,λi x v e1 e2 e3=>?_⟩,λx c hx=>?_,I.fresh,λx c hx=>?_,λp hp=>?_,I.aR.kept keep,?_⟩
 .rcases hx with hx|hx
  .exact h2 x (kg (.inl rfl) hx)
  .exact h2 x (kg (.inr rfl) hx)
 .rcases h1 x c hx with z|z
  .exact absurd (of_decide_eq_true hf) (S.apart _ z.2 rfl)
  .exact ZC z.2.1
 .exact W2 (bQ b hb)
 .rcases h1 x c hx with z|z
  .exact(MV b hb).2.2.2.2.1 x c z.1
  .exact aaG (YX (bQ b hb) z.2.1)
 .rcases (MV b hb).2.2.2.1 with z|z
  .exact I.ok.xR b o e z
  .exact absurd (Xa (Xa (WH e) I.ok.xQ) z) (Xv _)
 .intro jH
  rcases WG.mp (I.lh b jH)with z|z
  .exact(MV b hb).2.1 z
  .exact(MV b hb).2.2.1 z
 .by_cases hi:i<k
  .rw[Xj (by simpa using hi),Zi hi]at e2
   cases e2
  .have iV:k<=i:=Z6 hi
   rw[Xn (by simpa using iV),YD]at e2
   have p9:N'[k+(i-k)]?=some x:=by rw[Nat.add_sub_cancel' iV];exact e1
   refine bL (S.Tn (i-k) x p9) λj f1 f2 f3=>?_
   unfold iU at e2
   rw[WI,f1]at e2
   have BM:(σ[j]?).join =some v:=by simpa using e2
   have Ou:σ[j]?=some (some v):=by
    cases q:σ[j]? with
    |none=>rw[q]at BM;cases BM
    |some y=>rw[q]at BM;simp at BM;rw[BM]
   refine ae I.loc λmo xE F4=>?_
   have To:vX X.env.scope x:=by
    rcases kx x (Xl f3)with z|z
    .exact .inr (.inl z)
    .exact .inr (.inr z)
   refine ae (F4 j x v f2 Ou To) λu r l=>⟨u,r,?_⟩
   rcases l with⟨z,_⟩|⟨_,c,hc,ua⟩
   .rcases kx x (Xl f3)with y|y
    .rw[y]at z;cases z
    .rw[y]at z;cases z
   .obtain⟨c',kJ⟩:=h2 x (.inl (Xl f3))
    have ec:=(h1 x c' kJ).resolve_right λz=>S.apart _ (Xl f3) rfl z.1
    cases hc.symm.trans ec.1
    refine .inr ⟨?_,c,kJ,Eh x c _ hc ua⟩
    have vz:vX (relabel sc X.env) x:=e3
    rcases vz with z|z|z
    .rcases g_ (env:=X.env) f3 with y|y<;>cases y.symm.trans z
    .exact .inl z
    .exact .inr z
 .rcases h1 x c hx with y|y
  .obtain⟨v,z⟩:=I.cell x c y.1
   exact⟨v,Eh x c v y.1 z⟩
  .exact⟨_,y.2.2⟩
 .rcases h1 x c hx with y|y
  .exact I.fS x c y.1
  .exact I.aR.fresh (ZC y.2.1)
 .have xF:p∈X.pn++aa:=by simpa[hJ]using hp
  refine Ja (I.pin p xF) λe n ne nf d=>⟨keep _ _ e,n,W2 (WH e),λz=>?_,d⟩
  rcases WG.mp (I.lh p.1 z)with y|y
  .exact ne y
  .exact nf y
 .show _=N'.length
  rw[S.len,WC,YD]
  unfold iU
  rw[Wr]
def JU(X:Cx)(aa:List (Addr×Obj))(H:Hp)(C:Addr):Prop:=
 H C=none/\C≠X.env.locals/\X.s₀.heap.objs.size<=C/\(∀x c,X.env.cells.lookup x=some c->c≠C)/\∀p∈X.pn++aa,p.1≠C
def Inv.JV(I:Inv X aa σ H s)(h:JU X aa H C)(hs:Heap.SameBut C s.heap h'):Inv X aa σ H {s with heap:=h'}:=by
 exact Ja h λa b c d e=>I.turned (t':=s.toks) (it:=C) (λb o hb q=>(hs.2 b hb).trans q) a b (.inr c) d e
def nV{aa:List (Addr×Obj)}{σ:St}{H1:Hp}{s2:Shared}{cD tg iter:Expr}{ifs:List Expr}{sc:Scope}{pos:Pos}{N':List Str}{k:Nat}{fr:List Nat}{cl:List (Str×Addr)}{fp:List Addr}{it:Addr}{tn:Nat->Heap->Prop}{J:It}
  {g:TG}{tt:TT}{te:TE}{E:Value->Shared->Prop}{Qe:Addr->Hp->Prop}{RR:Value->Addr->Result->Shared->Prop}
  (I2:Inv X aa σ H1 s2) (T:oP X.prog X.w X.K tg J fp it tn) (cB:tn 0 s2.heap) (f2:∀b∈fp,kr X aa H1 b) (S:F8 X.N X.env.scope sc N' k fr) (hc:X.calm=true)
  (h1:∀x c,cl.lookup x=some c->X.env.cells.lookup x=some c/\(x,NameKind.free)∈sc.names) (h2:∀x,(x,NameKind.free)∈sc.names->∃c,cl.lookup x=some c) (gk:lJ k g)
  (xG:∀cl C s H ex,PG (hJ X sc cl C N' aa s H ex) tg g/\wq (hJ X sc cl C N' aa s H ex) ifs tt/\PE (hJ X sc cl C N' aa s H ex) cD te)
  (hW:∀p,H1 p=none->∃W:Nat->Nat->Hp->Prop,(∃m,W 0 m (upd H1 p (.lst [])))/\∀i m H,W i m H->
   (J.stop i H/\Qe p H)\/
   (J.go i H/\∀x H',J.xV i H x H'->g x (List.replicate k none++iU fr σ) H' λxD H2=>tt xD H2 λb H3=>
    if b=true then te xD H3 λv H4=>∃xs m',H4 p=some (.lst xs)/\xs.length<sizeLine/\m'<m/\W (i+1) m' (upd H4 p (.lst (xs++[v])))
    else∃m',m'<m/\W (i+1) m' H3))
  (Tp:∀a C s' H',Inv X aa σ H' s'->JU X aa H' C->(∃m,s'.heap.Ns C m)->Qe a H'->RR (.ref a) C (.ok .next) s'):
  wpAny (model X.prog X.w) X.A (newList []) (λacc s3=>wpAny (model X.prog X.w) X.A (newFunctionEnv sc X.env.globals cl [] X.env.qual none .none (some X.env)) (λJW s4=>
   codeAny (model X.prog X.w) X.A (.compStart (.ListComp cD [⟨tg,iter,ifs,0⟩] sc pos) 0 (.ref it) acc {JW with scope:=relabel sc X.env}) (RR acc JW.locals) s4) E s3) E s2:=by
 have hD:H1 s2.heap.objs.size=none:=I2.fresh
 refine au λnO=>?_
 obtain⟨W,⟨m0,w0⟩,turn⟩:=hW _ hD
 refine nO ?_
 have Ei:∀b∈fp,b<s2.heap.objs.size:=λb hb=>by
  exact ae (T.obj _ _ cB b hb) λo e _=>WH e
 refine W_ ?_ (XF _)
 have I3:Inv X aa σ (upd H1 s2.heap.objs.size (.lst [])) {s2 with heap:=s2.heap.push {cls:= .type "list",data:= .seq ([]:List Value).toArray}}:=I2.JM (ys:=[]) (its:=[]) (t':=s2.toks) .nil (XF _)
 have Ej:∀b o,s2.heap.get? b=some o->(s2.heap.push {cls:= .type "list",data:= .seq ([]:List Value).toArray}).get? b=some o:=λb o e=>Wo _ e
 have ne:∀b∈fp,b≠s2.heap.objs.size:=λb hb=>W2 (Ei b hb)
 have f3:∀b∈fp,kr X aa (upd H1 s2.heap.objs.size (.lst [])) b:=λb hb=>⟨by rw[ao (ne b hb)];exact(f2 b hb).1,(f2 b hb).2⟩
 have BN:∀b∈fp,b<(s2.heap.push {cls:= .type "list",data:= .seq ([]:List Value).toArray}).objs.size :=λb hb=>by
  rw[XW];exact Yd (Ei b hb)
 have ku:tn 0 (s2.heap.push {cls:= .type "list",data:= .seq ([]:List Value).toArray}):=T.keep _ _ _ cB λb _ o e=>Ej b o e
 generalize Tq:({s2 with heap:=s2.heap.push {cls:= .type "list",data:= .seq ([]:List Value).toArray}}:Shared)=s3 at *
 have Tr:s3.heap=s2.heap.push {cls:= .type "list",data:= .seq ([]:List Value).toArray}:=by rw[<-Tq]
 rw[<-Tr]at Ej BN ku
 simp only[newFunctionEnv,aaz,if_true]
 refine Wn (wpAny_alloc (Wn (wpAny_layCells _ (λname kind cells=>by cases Tt:kind==NameKind.cell<;>simp[Tt]) _ _ _ _ ?_)))
 have ok:=cellsFrom_ok sc.names (s3.heap.push {cls:= .type "dict",data:= .dict #[]}) (s3.heap.objs.size+1) [] ⟨λ_ _ hm=>(nomatch hm),List.Pairwise.nil⟩ (by rw[XW];exact WE _)
 rw[XW]at ok
 rw[show({s3 with heap:=s3.heap.push {cls:= .type "dict",data:= .dict #[]}}:Shared).heap.objs.size =s3.heap.objs.size+1 from XW ..,lI]
 refine Wn (Wv (Wv ?_))
 have Ek:∀b o,s3.heap.get? b=some o->(pushCells (s3.heap.push {cls:= .type "dict",data:= .dict #[]}) sc.names).get? b=some o:=λb o e=>pushCells_keeps _ _ b o (Wo _ e)
 have Tu:=(Heap.Ns.new s3.heap (.type "dict")).keeps (pushCells_keeps sc.names _)
 have g1:∀x c,(cellsFrom (s3.heap.objs.size+1) sc.names []++cl).lookup x=some c->X.env.cells.lookup x=some c/\(x,NameKind.free)∈sc.names\/(x,c)∈cellsFrom (s3.heap.objs.size+1) sc.names []:=λx c e=>by
  rw[ZH]at e
  cases q:(cellsFrom (s3.heap.objs.size+1) sc.names []).lookup x with
  |some c'=>rw[q]at e;cases e;exact .inr (Xl q)
  |none=>rw[q]at e;exact .inl (h1 x c e)
 have g2:∀x,(x,NameKind.free)∈sc.names\/(x,NameKind.cell)∈sc.names->∃c,(cellsFrom (s3.heap.objs.size+1) sc.names []++cl).lookup x=some c:=λx e=>by
  rw[ZH]
  cases q:(cellsFrom (s3.heap.objs.size+1) sc.names []).lookup x with
  |some c=>exact⟨c,rfl⟩
  |none=>
   rcases e with z|z
   .exact h2 x z
   .obtain⟨c,hc⟩:=oV.2 x z
    cases q.symm.trans hc
 have Rk:∀x c,X.env.cells.lookup x=some c->c<s3.heap.objs.size:=λx c e=>by
  obtain⟨v,z⟩:=I3.cell x c e
  exact z.lt
 have gj:∀x y c,(cellsFrom (s3.heap.objs.size+1) sc.names []++cl).lookup x=some c->(cellsFrom (s3.heap.objs.size+1) sc.names []++cl).lookup y=some c->x=y:=λx y c e1 e2=>by
  rcases g1 x c e1 with a|a<;>rcases g1 y c e2 with b|b
  .exact I3.ok.inj x y c a.1 b.1
  .exact absurd (YX (Rk x c a.1) (ok.empty y c b).2) (Xv _)
  .exact absurd (YX (Rk y c b.1) (ok.empty x c a).2) (Xv _)
  .exact name_of_addr ok.apart a b
 have g3:∀x c,(cellsFrom (s3.heap.objs.size+1) sc.names []++cl).lookup x=some c->X.env.cells.lookup x=some c/\(x,NameKind.free)∈sc.names\/(x,NameKind.cell)∈sc.names/\s3.heap.objs.size<c/\(pushCells (s3.heap.push {cls:= .type "dict",data:= .dict #[]}) sc.names).IsCell c none:=λx c e=>(g1 x c e).imp_right λz=>⟨oV.1 x c z,(ok.empty x c z).2,(ok.empty x c z).1⟩
 clear ok g1 h1 h2
 generalize cellsFrom (s3.heap.objs.size+1) sc.names []++cl=cl at *
 generalize pushCells (s3.heap.push {cls:= .type "dict",data:= .dict #[]}) sc.names=h4 at *
 generalize eH:upd H1 s2.heap.objs.size (.lst [])=H3 at *
 generalize eD:s2.heap.objs.size=D at *
 have J4:Inv (hJ X sc cl s3.heap.objs.size N' aa s3 H3 fp) [] (List.replicate k none++iU fr σ) H3 {s3 with heap:=h4,toks:=s3.toks}:=
  yp (s4:={s3 with heap:=h4,toks:=s3.toks}) I3 S g3 g2 gj f3 BN rfl rfl Ek Tu
 have IF:tn 0 h4:=T.keep _ _ _ ku λb _ o e=>Ek b o e
 refine cU (xG cl s3.heap.objs.size s3 H3 fp) λpg pt pe=>?_
 have sA:∀{H':Hp},(∀b∈fp,H' b=none)->∀b∈fp,kr (hJ X sc cl s3.heap.objs.size N' aa s3 H3 fp) [] H' b:=λ{H'} hn b hb=>by
  refine au λnO=>rZ (f3 b hb) λ_ a1 a2 a3 a4 a5=>nO ?_
  refine⟨hn b hb,W2 (BN b hb),λz=>?_,.inl hb,λx c hx=>(g3 x c hx).elim (λz=>a4 x c z.1) λz=>aaG (YX (BN b hb) z.2.1),λp hp=>a5 p (by simpa[hJ]using hp)⟩
  rcases WG.mp (I3.lh b z)with y|y
  .exact a1 y
  .exact a2 y
 have fin:∀{s':Shared}{H':Hp},Inv (hJ X sc cl s3.heap.objs.size N' aa s3 H3 fp) [] (List.replicate k none++iU fr σ) H' s'->Qe D H'->RR (.ref D) s3.heap.objs.size (.ok .next) s':=λ{s' H'} J5 q=>by
  refine Tp D s3.heap.objs.size s' H' ?_ ⟨J5.free,(W2 I3.lt).symm,I3.sz,λx c hx z=>?_,λp hp z=>?_⟩ (let ⟨m,hn,_⟩:=J5.loc;⟨m,hn⟩) q
  .exact I3.Jm (ch:=fp) J5.os J5.base J5.aR J5.bare λb hb=>let ⟨_,a1,a2,a3,a4,a5⟩:=f3 b hb;⟨a3,a1,a4,a5⟩
  .exact au λnO=>ik (I3.cell x c hx) λv o ho _=>nO<|absurd (WH ho) (by rw[z];exact Xv _)
  .exact absurd (WH (I3.pin p hp).1) (by rw[z];exact Xv _)
 have loop:∀s5:Shared,s5={s3 with heap:=h4,toks:=s3.toks}->codeAny (model X.prog X.w) X.A (.compLoop (.ListComp cD [⟨tg,iter,ifs,0⟩] sc pos) 0 (.ref it) (.ref D) (compEnvC sc cl s3.heap.objs.size X.env)) (RR (.ref D) s3.heap.objs.size) s5:=by
  rintro s5 rfl
  refine sR (λn s'=>∃i H',Inv (hJ X sc cl s3.heap.objs.size N' aa s3 H3 fp) [] (List.replicate k none++iU fr σ) H' s'/\tn i s'.heap/\(∀b∈fp,H' b=none)/\W i n H') ?_ m0 ⟨0,H3,J4,IF,λb hb=>(f3 b hb).1,w0⟩
  rintro n s5 ⟨i,H5,J5,wc,MN,w5⟩
  rcases turn i n H5 w5 with⟨stop,qn⟩|⟨go,step⟩
  .refine bI (T.done (hJ X sc cl s3.heap.objs.size N' aa s3 H3 fp) rfl rfl rfl hc i [] s5 _ H5 (λ_ _=>False) J5 (sA MN) wc stop) λr s6 zz=>?_
   obtain⟨hr,J6⟩:=zz
   subst hr
   exact fin J6 qn
  .refine bI (T.item (hJ X sc cl s3.heap.objs.size N' aa s3 H3 fp) rfl rfl rfl hc i [] s5 _ H5 (λ_ _=>False) J5 (sA MN) wc go) λr s6 zz=>au λnO=>ae zz λu hr h6=>?_
   subst hr
   refine nO<|bI h6 λ_ s7 zz=>au λnO=>kc zz λx H7 J7 r7 y7 JX Tv=>nO ?_
   have Tw:=J7.pinned (sA Tv) (T.obj _ _ JX)
   refine bI (pg _ s7 _ H7 x u _ Tw r7 (gk _ _ _ _ (step x H7 y7))) λ_ s8 zz=>au λnO=>gM zz λMW H8 J8 q8 l8 k8=>nO ?_
   have back:∀{s9:Shared}{H9:Hp}{m:Nat},Inv (hJ X sc cl s3.heap.objs.size N' aa s3 H3 fp) ([]++lz fp s7.heap) MW H9 s9->m<n->W (i+1) m H9->
     ∃m,m<n/\∃i H',Inv (hJ X sc cl s3.heap.objs.size N' aa s3 H3 fp) [] (List.replicate k none++iU fr σ) H' s9/\tn i s9.heap/\(∀b∈fp,H' b=none)/\W i m H':=λ{s9 H9 m} J9 hm w9=>by
    refine⟨m,hm,i+1,H9,(J9.iO).weak l8.symm λj v e=>?_,T.keep _ _ _ JX λb hb o e=>(J9.pin (b,o) (WN _ (WN _ (fE hb e)))).1,λb hb=>?_,w9⟩
    .by_cases hj:j<k
     .rw[Xj (by simpa using hj),Zi hj]at e
      cases e
     .rw[k8 j (Z6 hj)];exact e
    .exact ae (T.obj _ _ JX b hb) λo e _=>(J9.pin (b,o) (WN _ (WN _ (fE hb e)))).2.1
   refine bI (pt _ s8 MW H8 _ J8 q8) λb s9 zz=>ae zz λH9 J9 q9=>?_
   cases b with
   |false=>
    rw[WV Wt]at q9⊢
    exact ae q9 λm' hm w'=>back J9 hm w'
   |true=>
    rw[WO rfl]at q9⊢
    refine bI (pe _ s9 MW H9 _ J9 q9) λy Ov zz=>au λnO=>?_
    obtain⟨v,Ow,Tx,Tz,xs,m',hx,hl,hm,w'⟩:=zz
    refine nO<|bI (nN _ Ov MW Ow (.ref D) [v] (.ref D) [y] (λ_ Ox=>∃m',m'<n/\W (i+1) m' Ox) Tx rfl (.cons Tz .nil) ⟨D,xs,v,rfl,rfl,hx,hl,m',hm,w'⟩) λ_ IG zz=>au λnO=>?_
    obtain⟨_,Ox,TB,_,V0,El,TC⟩:=zz
    exact nO<|back TB El TC
 exact codeAny_compStart_list (loop _ rfl) (T.self X.A 0 _ _ _ IF (loop _ rfl))
def qt(I:Inv X aa σ H s)(S:F8 X.N X.env.scope sc N' k fr):
  ∃cl,closureFor sc X.env=pure cl/\(∀x c,cl.lookup x=some c->X.env.cells.lookup x=some c/\(x,NameKind.free)∈sc.names)/\(∀x,(x,NameKind.free)∈sc.names->∃c,cl.lookup x=some c):=
 sQ λy hy hf=>I.ok.has y.1 (S.free y hy hf)
def oX{cD tg iter:Expr}{ifs:List Expr}{sc:Scope}{pos:Pos}{N':List Str}{k:Nat}{fr:List Nat}{wi:TI}{g:TG}{tt:TT}{te:TE}(hi:PI X tg iter wi)(S:F8 X.N X.env.scope sc N' k fr)(hc:X.calm=true)(gk:lJ k g)
  (xG:∀cl C aa s H ex,PG (hJ X sc cl C N' aa s H ex) tg g/\wq (hJ X sc cl C N' aa s H ex) ifs tt/\PE (hJ X sc cl C N' aa s H ex) cD te)
  (hs:∀x,foldedSetIterable iter X.env x=pure x):PE X (.ListComp cD [⟨tg,iter,ifs,0⟩] sc pos) (nR k fr wi g tt te):=by
 intro aa s σ H Q I h
 refine bL (qt I S) λcl Oy h1 h2=>?_
 rw[eval_ListComp]
 refine ZO (use:=none) (g:=⟨tg,iter,ifs,0⟩) (gs:=[]) rfl hs Oy S.kind S.loc<|bI (hi aa s σ H _ I h) λv s1 q1=>bI q1 λML s2 q2=>Q4 q2 λit fp tn J H2 e I2 T cB f2 hW=>?_
 subst e
 refine nV (Qe:=λp H=>Q (.ref p) H) (RR:=λacc C=>compPost (model X.prog X.w) X.A X.xe none (EP X aa σ Q) acc C) I2 T cB f2 S hc h1 h2 gk (λcl C s H ex=>xG cl C aa s H ex) hW ?_
 intro a C s' H' I' off ⟨m,hn⟩ q
 exact⟨m,hn,λh' Em=>⟨.ref a,H',I'.JV off Em,rfl,q⟩⟩
def lK{cD tg iter:Expr}{ifs:List Expr}{sc:Scope}{pos JY py:Pos}{N':List Str}{k:Nat}{fr:List Nat}{wi:TI}{g:TG}{tt:TT}{te:TE}{y:Str}{j:Nat}(hi:PI X tg iter wi)(S:F8 X.N X.env.scope sc N' k fr)(hc:X.calm=true)(gk:lJ k g)
  (xG:∀cl C aa s H ex,PG (hJ X sc cl C N' aa s H ex) tg g/\wq (hJ X sc cl C N' aa s H ex) ifs tt/\PE (hJ X sc cl C N' aa s H ex) cD te)
  (hs:∀x,foldedSetIterable iter X.env x=pure x) (hN:X.N.Nodup) (hj:X.N[j]?=some y) (hy:X.env.scope.names.lookup y=some .local)
  (TF:swapsWith (.ListComp cD [⟨tg,iter,ifs,0⟩] sc pos) (some (.Name y py)) JY.line X.env=pure true):
  PS X (.Assign [.Name y py] (.ListComp cD [⟨tg,iter,ifs,0⟩] sc pos) JY) (mZ (nR k fr wi g tt te) (b9 j)):=by
 intro aa s σ H D I h
 refine bL (qt I S) λcl Oy h1 h2=>?_
 rw[exec_Assign_Name_used _ _ _ _ TF]
 refine Wn (ZZ (Wn ?_))
 show wpAny _ _ (do let _<-comprehension (.ListComp cD [⟨tg,iter,ifs,0⟩] sc pos) sc X.env _ (newList []) false (eval iter X.env) (some (assign (.Name y py) X.env))) _ _ s
 refine Wn (X2 (ZO (g:=⟨tg,iter,ifs,0⟩) (gs:=[]) (use:=some (assign (.Name y py) X.env)) (Q:=λ_ s'=>SP X aa D .next s') rfl hs Oy S.kind S.loc ?_) (λ_ s' hq=>Wv (Wv hq)) λ_ _ e=>e)
 refine bI (hi aa s σ H _ I h) λv s1 q1=>bI q1 λML s2 q2=>Q4 q2 λit fp tn J H2 e I2 T cB f2 hW=>?_
 subst e
 refine nV (Qe:=λp H=>D.nx (σ.set j (some (.ref p))) H) (RR:=λacc C=>compPost (model X.prog X.w) X.A X.xe (some (assign (.Name y py) X.env)) (λ_ s'=>SP X aa D .next s') acc C) I2 T cB f2 S hc h1 h2 gk (λcl C s H ex=>xG cl C aa s H ex) hW ?_
 intro a C s' H' I' off ⟨m,hn⟩ q
 show wpAny _ _ (assign (.Name y py) X.env (.ref a)) _ _ _
 refine wpAny_assign_Name (nF I' hN hj (.inl hy) (v:= .ref a) rfl (λJA TH sb=>?_) (.inr hy))
 refine ae sb λb hb jH=>?_
 have TJ:C≠b:=by
  rintro rfl
  rcases jH with z|z
  .exact off.2.1 z
  .exact off.2.2.2.1 _ _ z rfl
 exact⟨m,hn.sameBut hb TJ,λh' Em=>⟨_,H',TH.JV off Em,q⟩⟩
end
end L2
namespace bU
noncomputable def bD:List Int->List Int->Bool
 |[],[]=>false
 |[],_::_=>true
 |_::_,[]=>false
 |n::u,m::v=>if n=m then bD u v else decide (n<m)
noncomputable def wt(x:List Int):List (List Int)->List (List Int)
 |[]=>[x]
 |y::r=>if bD y x then y::wt x r else x::y::r
noncomputable def bF:List (List Int)->List (List Int)
 |[]=>[]
 |x::r=>wt x (bF r)
noncomputable def hZ:List Int->List (List Int)->List Int
 |a,[]=>a
 |a,b::r=>hZ (if bD b a then b else a) r
end bU
namespace Py
open PySem
set_option genInjectivity false
inductive D where
 |fC|bl (b:Bool)|int (i:Int)|tup (xs:List D)|lst (xs:List D)
  |bM (t:Nat) (ks:List (List Int)) (vs:List D)
 deriving Inhabited
noncomputable def ba:Nat:=16777216
mutual
noncomputable def jI:D->D->Bool
 | .fC,b=>match b with| .fC =>true| .bM _ _ _=>true|_=>false
 | .bl x,b=>match b with| .bl y=>x==y| .int j=>(if x then 1 else 0)==j|_=>false
 | .int i,b=>match b with| .bl y=>i==(if y then 1 else 0)| .int j=>i==j|_=>false
 | .tup xs,b=>match b with| .tup ys=>yr xs ys|_=>false
 | .lst xs,b=>match b with| .lst ys=>yr xs ys|_=>false
 | .bM _ _ _,b=>match b with| .fC =>true| .bM _ _ _=>true|_=>false
noncomputable def yr:List D->List D->Bool
 |[],ys=>match ys with|[]=>true|_=>false
 |x::xs,ys=>match ys with|[]=>false|y::ys=>jI x y&&yr xs ys
end
mutual
noncomputable def ay:D->Bool
 | .tup xs=>aV xs
 | .lst _=>false
 | .bM _ _ _=>false
 |_=>true
noncomputable def aV:List D->Bool
 |[]=>true
 |x::xs=>ay x&&aV xs
end
mutual
noncomputable def ed:D->Nat->Bool
 | .tup xs,n=>match n with|0=>false|n+1=>dG xs n
 | .lst xs,n=>match n with|0=>false|n+1=>dG xs n
 | .bM _ _ _,_=>false
 |_,_=>true
noncomputable def dG:List D->Nat->Bool
 |[],_=>true
 |x::xs,n=>ed x n&&dG xs n
end
theorem eO(n:Nat):∀ns:List Int,dG (ns.map .int) n=true
 |[]=>by simp[dG]
 |i::ns=>by simp[dG,ed,eO n ns]
noncomputable def lL:D->Bool
 | .bM t _ _=>t==2
 |_=>false
@[simp] def F9:D->Bool
 | .bM _ _ _=>false
 |_=>true
inductive sS where
 |len|tuple|list|min|sorted|all
 deriving DecidableEq,Inhabited
inductive Rl where
 |index
 deriving DecidableEq,Inhabited
inductive E where
 |nil|cons (a r:E)
 |var (i:Nat)
 |c (d:D)
 |bin (o:Operator) (a b:E)
 |cmp (o:CmpOp) (a b:E)
 |wu (k:Bool) (es:E)
 |tup (es:E)|lst (es:E)
 |idx (a i:E)
 |sl (a lo hi:E)
 |call (f:Nat) (es:E)
 |prim (p:sS) (es:E)
 |eQ (m:Rl) (o:E) (es:E)
 |comp (fr:List Nat) (tg:Nat) (it ifs cD:E)
 |c8 (es:E)|BO (a:E)|it (a:E)
 |iW (p:sS) (es:E)
  |du (i:Nat) (k:E)
 |qu (neg:Bool) (k:E) (i:Nat)
  |dm (i:Nat)
 |dk (i:Nat)|dv (i:Nat)
 |En (a:E)
  |sset (a:E)
  |lM (fr:List Nat) (a ifs cD:E)
 deriving Inhabited
noncomputable abbrev E.u(i:Nat):E:= .cons (.var i) .nil
noncomputable abbrev E.w(i:Nat)(r:E):E:= .cons (.var i) r
abbrev Env:=List (Option (Bool×D))
abbrev FT:=Nat->List D->Option D
noncomputable def rd(b:Bool)(ρ:Env)(i:Nat):Option D:=
 match ρ[i]? with
 |some (some (o,d))=>if o&&!(b&&F9 d) then none else some d
 |_=>none
noncomputable def kM(ρ:Env)(i:Nat):Bool:=
 match ρ[i]? with
 |some (some (o,_))=>o
 |_=>false
noncomputable def kz(ρ:Env):E->Bool
 | .cons (.var i) r=>kM ρ i||kz ρ r
 | .cons _ r=>kz ρ r
 |_=>false
noncomputable def cE(i j:Int):Bool:=(decide (-(2 ^ 64)<i)&&decide (i<2 ^ 64))||(decide (-(2 ^ 64)<j)&&decide (j<2 ^ 64))
noncomputable def bin(o:Operator)(x y:D):Option D:=
 match o with
 | .Add =>match x,y with
  | .int i,.int j=>some (.int (i+j))
  | .lst a,.lst b=>if a.length+b.length<=ba then some (.lst (a++b)) else none
  |_,_=>none
 | .Mult =>match x,y with
  | .int i,.int j=>if cE i j then some (.int (i*j)) else none
  |_,_=>none
 | .FloorDiv =>match x,y with
  | .int i,.int j=>if 0<j/\j<1073741824 then some (.int (i/j)) else none
  |_,_=>none
 | .Mod =>match x,y with
  | .int i,.int j=>if 0<j then some (.int (i%j)) else none
  |_,_=>none
 |_=>none
noncomputable def aP:List D->Option (List Int)
 |[]=>some []
 | .int i::r=>(aP r).map (i:: ·)
 |_::_=>none
noncomputable def eh:List D->Option (List Bool)
 |[]=>some []
 | .bl b::r=>(eh r).map (b:: ·)
 |_::_=>none
noncomputable def fZ(ns:List Int):List Int:=([0,1,2,3,4]:List Int).filter λk=>decide (k∈ns)
noncomputable def de(t:Nat)(x:D):Option (List Int):=
 match x with
 | .int i=>if t=0 then some [i] else none
 | .tup xs=>if t=0 then none else aP xs
 |_=>none
noncomputable def iE:List (List Int)->List D->List Int->Option D
 |k::ks,v::vs,x=>if k=x then some v else iE ks vs x
 |_,_,_=>none
abbrev Rm:=Nat×List (List Int)×List D
noncomputable def gp(ρ:List (Option (Bool×D)))(i:Nat):Option Rm:=
 match ρ[i]? with
 |some (some (_,.bM t ks vs))=>if t=2 then none else some (t,ks,vs)
 |_=>none
noncomputable def keysAt(ρ:List (Option (Bool×D)))(i:Nat):Option (List D):=
 match ρ[i]? with
 |some (some (false,.bM 0 ks _))=>some (ks.map λk=> .int (k.headD 0))
 |_=>none
noncomputable def oY(ρ:List (Option (Bool×D)))(i:Nat):Option (List D):=
 match ρ[i]? with
 |some (some (false,.bM 0 _ vs))=>some vs
 |_=>none
noncomputable def gq(ρ:List (Option (Bool×D)))(i:Nat):Option (List D):=
 match ρ[i]? with
 |some (some (_,.lst xs))=>some xs
 |_=>none
noncomputable def yt(t:Nat):List D->Option D
 |[k,v]=>(de t k).map λx=> .bM t [x] [v]
 |_=>none
noncomputable def cmp(o:CmpOp)(x y:D):Option Bool:=
 match o with
 | .Eq =>if ed x 60&&ed y 60 then some (jI x y) else none
 | .NotEq =>if ed x 60&&ed y 60 then some (!jI x y) else none
 | .Lt =>match x,y with
  | .int i,.int j=>some (decide (i<j))
  |_,_=>none
 |_=>none
noncomputable def place(n:Nat)(i:Int):Option Nat:=if 0<=i then(if i<n then some i.toNat else none) else if -(n:Int)<=i then some (i+n).toNat else none
noncomputable def item(x i:D):Option D:=
 match x,i with
 | .lst xs,.int k=>(place xs.length k).bind λj=>xs[j]?
 | .tup xs,.int k=>(place xs.length k).bind λj=>xs[j]?
 |_,_=>none
noncomputable def bound(n d:Nat):Option Int->Nat
 |none=>d
 |some v=>(if v<0 then max (v+(n:Int)) 0 else min v (n:Int)).toNat
noncomputable def xH(xs:List D)(lo hi:Option Int):List D:=(xs.drop (bound xs.length 0 lo)).take (bound xs.length xs.length hi-bound xs.length 0 lo)
noncomputable def insI(x:Int):List Int->List Int
 |[]=>[x]
 |y::r=>if x<=y then x::y::r else y::insI x r
noncomputable def sortI:List Int->List Int
 |[]=>[]
 |x::r=>insI x (sortI r)
noncomputable def eI:List D->Option (List (List Int))
 |[]=>some []
 | .tup xs::r=>(aP xs).bind λk=>if k=[] then none else(eI r).map (k:: ·)
 |_::_=>none
noncomputable def nc(k:List Int):D:= .tup (k.map .int)
noncomputable def h_:Int->List Int->Int
 |a,[]=>a
 |a,b::r=>h_ (if b<a then b else a) r
noncomputable def seq:D->Option (List D)
 | .lst xs=>some xs
 | .tup xs=>some xs
 |_=>none
noncomputable def prim(p:sS)(xs:List D):Option D:=
 match p with
 | .len =>match xs with
  |[x]=>(seq x).map λys=> .int ys.length
  |_=>none
 | .tuple =>match xs with
  |[x]=>(seq x).map .tup
  |_=>none
 | .list =>match xs with
  |[x]=>(seq x).map .lst
  |_=>none
 | .min =>match xs with
  |[x]=>(seq x).bind λys=>match aP ys with
   |some ns=>match ns with|[]=>none|a::r=>some (.int (h_ a r))
   |none=>match x with
    | .lst zs=>(eI zs).bind λks=>match ks with|[]=>none|a::r=>some (nc (bU.hZ a r))
    |_=>none
  |_=>none
 | .sorted =>match xs with
  |[x]=>(seq x).bind λys=>(eI ys).map λks=> .lst ((bU.bF ks).map nc)
  |_=>none
 | .all =>match xs with
  |[x]=>match x with
   | .lst ys=>(eh ys).map λbs=> .bl (bs.all id)
   |_=>none
  |_=>none
noncomputable def uk:D->Option D
 | .lst ys=>(aP ys).bind λns=>if(∀n∈ns,0<=n/\n<5)/\ns.length<=1000 then some (.lst ((fZ ns).map .int)) else none
 |_=>none
noncomputable def ef(k:Int):List Int->Option Nat
 |[]=>none
 |n::r=>if n=k then some 0 else(ef k r).map (· + 1)
noncomputable def eQ(m:Rl)(o:D)(xs:List D):Option D:=
 match m,o,xs with
 | .index,.tup ys,[.int k]=>(aP ys).bind λns=>(ef k ns).map λ(i:Nat)=> .int (i:Int)
 |_,_,_=>none
noncomputable def bB(lo:Int):Nat->List D
 |0=>[]
 |n+1=> .int lo::bB (lo+1) n
noncomputable def cM(xs:List D):Option (List D):=
 match xs with
 |[.int n]=>if -(2 ^ 62)<=n/\n<=ba then some (bB 0 n.toNat) else none
 |_=>none
noncomputable def aJ(k:Int):List D->List D
 |[]=>[]
 |x::r=> .tup [.int k,x]::aJ (k+1) r
noncomputable def aA(tg:Nat)(x:D):Option (List D):=
 match tg with
 |0=>some [x]
 |n+1=>match x with
  | .tup xs=>if xs.length=n+1 then some xs else none
  |_=>none
noncomputable def yu(ρ:Env)(fr:List Nat):Env:=fr.map λi=>(ρ[i]?).join
noncomputable def Rn:D->Option Bool
 | .bl b=>some b
 |_=>none
noncomputable def walk(f:D->Option (Option D)):List D->Option (List D)
 |[]=>some []
 |x::r=>match f x with
  |none=>none
  |some none=>walk f r
  |some (some y)=>(walk f r).map (y:: ·)
noncomputable def f6:D->Option Bool
 | .bl b=>some b
 |_=>none
noncomputable def Eo:D->Option Int
 | .int i=>some i
 |_=>none
noncomputable def cutD(x:D)(l h:Option Int):Option D:=
 match x with
 | .lst xs=>some (.lst (xH xs l h))
 | .tup xs=>some (.tup (xH xs l h))
 |_=>none
noncomputable def lN(p:sS)(xs:List D):Option D:=
 match p with
 | .list =>some (.lst xs)
 | .tuple =>some (.tup xs)
 |_=>none
noncomputable def inner(ys:List D)(ρ:Env)(fr:List Nat):Env:=ys.map (λy=>some (false,y))++yu ρ fr
mutual
noncomputable def ev(F:FT):Bool->E->Env->Option D
 |b,.var i,ρ=>rd b ρ i
 |_,.c d,_=>some d
 |_,.bin o a b,ρ=>(ev F true a ρ).bind λx=>(ev F true b ρ).bind λy=>bin o x y
 |_,.cmp o a b,ρ=>(ev F true a ρ).bind λx=>(ev F true b ρ).bind λy=>(cmp o x y).map .bl
 |_,.wu k es,ρ=>(fG F k es ρ).map .bl
 |_,.tup es,ρ=>(cv F false es ρ).bind λxs=>if xs.length<=ba then some (.tup xs) else none
 |_,.lst es,ρ=>(cv F false es ρ).bind λxs=>if xs.length<=ba then some (.lst xs) else none
 |_,.idx a i,ρ=>(ev F true a ρ).bind λx=>(ev F false i ρ).bind λk=>item x k
 |_,.sl a lo hi,ρ=>(ev F true a ρ).bind λx=>(Ep F lo ρ).bind λl=>(Ep F hi ρ).bind λh=>cutD x l h
 |_,.call f es,ρ=>(cv F true es ρ).bind λxs=>(F f xs).bind λd=>if kz ρ es&&!ay d then none else some d
 |_,.prim p es,ρ=>(cv F true es ρ).bind λxs=>prim p xs
 |_,.iW p es,ρ=>((cv F false es ρ).bind cM).bind (lN p)
 |_,.eQ m o es,ρ=>(ev F true o ρ).bind λx=>(cv F true es ρ).bind λxs=>eQ m x xs
 |_,.comp fr tg it ifs cD,ρ=>(kA F true it ρ).bind λxs=>if xs.length<=ba then(walk (λx=>(aA tg x).bind λys=>
   (fG F true ifs (inner ys ρ fr)).bind λk=>if k then(ev F false cD (inner ys ρ fr)).map some else some none) xs).map .lst else none
 |_,.du i k,ρ=>(gp ρ i).bind λd=>((ev F false k ρ).bind (de d.1)).bind λx=>iE d.2.1 d.2.2 x
 |_,.qu neg k i,ρ=>((ev F false k ρ).bind λy=>(gp ρ i).bind λd=>(de d.1 y).map λx=> .bl (if neg then !decide (x∈d.2.1) else decide (x∈d.2.1)))
 |_,.dm i,ρ=>(gp ρ i).bind λd=>if d.1=0 then(if d.2.1.length<64 then some (.lst ((sortI (d.2.1.map λk=>k.headD 0)).map .int)) else none)
   else if []∈d.2.1 then none else some (.lst ((bU.bF d.2.1).map nc))
 |_,.sset a,ρ=>(ev F true a ρ).bind uk
 |_,.lM fr a ifs cD,ρ=>((ev F true a ρ).bind λx=>(seq x).map (aJ 0)).bind λxs=>if xs.length<=ba then(walk (λx=>(aA 2 x).bind λys=>
   (fG F true ifs (inner ys ρ fr)).bind λk=>if k then(ev F false cD (inner ys ρ fr)).map some else some none) xs).map .lst else none
 |_,.nil,_=>none
 |_,.cons _ _,_=>none
 |_,.c8 _,_=>none
 |_,.BO _,_=>none
 |_,.it _,_=>none
 |_,.dk _,_=>none
 |_,.dv _,_=>none
 |_,.En _,_=>none
noncomputable def cv(F:FT):Bool->E->Env->Option (List D)
 |_,.nil,_=>some []
 |b,.cons a r,ρ=>(ev F b a ρ).bind λx=>(cv F b r ρ).bind λxs=>some (x::xs)
 |_,_,_=>none
noncomputable def Ep(F:FT):E->Env->Option (Option Int)
 | .nil,_=>some none
 | .cons a _,ρ=>((ev F false a ρ).bind Eo).map some
 |_,_=>none
noncomputable def fG(F:FT):Bool->E->Env->Option Bool
 |k,.nil,_=>some k
 |k,.cons a r,ρ=>((ev F false a ρ).bind f6).bind λx=>if x=k then fG F k r ρ else some x
 |_,_,_=>none
noncomputable def kA(F:FT):Bool->E->Env->Option (List D)
 |_,.c8 es,ρ=>(cv F false es ρ).bind cM
 |b,.BO a,ρ=>(ev F b a ρ).bind λx=>(seq x).map (aJ 0)
 |b,.it a,ρ=>(ev F b a ρ).bind seq
 |_,.dk i,ρ=>keysAt ρ i
 |_,.dv i,ρ=>oY ρ i
 |b,.En a,ρ=>(ev F false a ρ).bind λx=>match x with| .tup xs=>some xs.reverse|_=>none
 |_,_,_=>none
end
inductive C where
 |skip|seq (a b:C)
 |asg (i:Nat) (e:E)
  |bV (i:Nat) (e:E)
 |lO (i:Nat) (ix e:E)
 |app (i:Nat) (e:E)
 |ret (e:E)
 |ifs (c:E) (t u:C)
 |while (c:E) (b:C)
  |iF (i:Nat) (b:C)
 |for (is:List Nat) (tg:Nat) (it:E) (b:C)
  |ng (i:Nat) (t:Nat) (es:E)
  |kB (i:Nat) (k e:E)
  |Er (i j:Nat)
  |pop (i j:Nat)
  |ext (i:Nat) (e:E)
  |fst (x:Nat) (fr:List Nat) (it k v:E) (c1:C) (y r f:Nat) (c2:C) (m:Nat) (c3:C) (p q u:E) (g:Nat) (w:E)
 deriving Inhabited
inductive il where
 |next (ρ:Env)|brk (ρ:Env)|cont (ρ:Env)|ret (d:D)
 deriving Inhabited
noncomputable def put(ρ:Env)(i:Nat)(o:Bool)(d:D):Env:=ρ.set i (some (o,d))
noncomputable def cI(ρ:Env):List Nat->List D->Option Env
 |[],[]=>some ρ
 |i::is,d::ds=>cI (put ρ i false d) is ds
 |_,_=>none
noncomputable def et:Nat:=1000000
noncomputable def fU(c:Env->Option Bool)(b:Env->Option il):Nat->Env->Option il
 |0,_=>none
 |n+1,ρ=>(c ρ).bind λk=>if k then(b ρ).bind λo=>match o with
   | .next ρ'=>fU c b n ρ'
   | .cont ρ'=>fU c b n ρ'
   | .brk ρ'=>some (.next ρ')
   | .ret d=>some (.ret d)
  else some (.next ρ)
noncomputable def aE(b:D->Env->Option il):List D->Env->Option il
 |[],ρ=>some (.next ρ)
 |x::r,ρ=>(b x ρ).bind λo=>match o with
   | .next ρ'=>aE b r ρ'
   | .cont ρ'=>aE b r ρ'
   | .brk ρ'=>some (.next ρ')
   | .ret d=>some (.ret d)
noncomputable def dH(it:E)(ρ:Env):Env:=
 match it with
 | .it (.var i)=>match ρ[i]? with
  |some (some (true,.lst xs))=>ρ.set i (some (false,.lst xs))
  |_=>ρ
 | .BO (.var i)=>match ρ[i]? with
  |some (some (true,.lst xs))=>ρ.set i (some (false,.lst xs))
  |_=>ρ
 |_=>ρ
noncomputable def ic(ρ:Env)(i:Nat):Option (List D):=
 match ρ[i]? with
 |some (some (true,.lst xs))=>some xs
 |_=>none
noncomputable def yv(ρ:Env)(i:Nat):Option Rm:=
 match ρ[i]? with
 |some (some (true,.bM t ks vs))=>if t=2 then none else some (t,ks,vs)
 |_=>none
noncomputable def yw(T:List D)(q:Nat)(k:List Int)(v:D):Option (List D):=
 match T[q]? with
 |some (.bM 0 ks vs)=>if ks.length<ba/\k∉ks then some (T.set q (.bM 0 (ks++[k]) (vs++[v]))) else none
 |_=>none
noncomputable def sT:D:= .bM 2 [] []
noncomputable def iX(ρ:Env)(x:Nat):Bool:=
 match ρ[x]? with
 |some (some (true,.bM t [] []))=>t==2
 |_=>false
noncomputable def qv(ρ:Env):Bool:=ρ.all λo=>match o with
 |some (_,d)=>!lL d
 |none=>true
noncomputable def iY(F:FT)(x y r f:Nat)(c2:Env->Option il)(m:Nat)(c3:Env->Option il)(p q u:Env->Option D)(g:Nat)(w:Env->Option D)(T:List D)(ρ:Env)(l:List D):Option (List D×Env):=
 (l.getLast?).bind λz=>(F f [.lst T,z]).bind λd=>if ay z&&ay d then
  (c2 (put (put ρ y true (.lst l.dropLast)) r false d)).bind λo=>match o with
  | .next Es=>if iX Es x then(gq Es m).bind λms=>if ms.isEmpty then some (T,Es) else(c3 Es).bind λo=>match o with
   | .next xI=>if iX xI x then(u xI).bind λuv=>if ay uv then((p xI).bind Eo).bind λpi=>(place T.length pi).bind λpq=>((q xI).bind (de 0)).bind λkk=>(yw T pq kk uv).bind λT'=>
     (w xI).bind λwv=>if ay wv then(F g [.lst T',wv]).bind λzd=>match zd with
     | .lst zs=>if aV zs then(ic xI y).bind λws=>if ws.length+zs.length<=ba then some (T',put xI y true (.lst (ws++zs))) else none else none
     |_=>none
     else none
    else none
    else none
   |_=>none
   else none
  |_=>none
 else none
noncomputable def gr(tn:List D->Env->List D->Option (List D×Env))(y:Nat):Nat->List D->Env->Option (List D)
 |0,_,_=>none
 |n+1,T,ρ=>(ic ρ y).bind λl=>if l.isEmpty then some T else(tn T ρ l).bind λs=>gr tn y n s.1 s.2
noncomputable def qw(k v:Env->Option D)(fr:List Nat)(ρ:Env)(x:D):Option (Option D):=
 ((k (inner [x] ρ fr)).bind (de 0)).bind λkk=>(v (inner [x] ρ fr)).bind λd=>if ay d then some (some (.bM 0 [kk] [d])) else none
noncomputable def ex(F:FT):C->Env->Option il
 | .skip,ρ=>some (.next ρ)
 | .seq a b,ρ=>(ex F a ρ).bind λo=>match o with
  | .next ρ'=>ex F b ρ'
  |o=>some o
 | .asg i e,ρ=>(ev F false e ρ).map λd=> .next (put ρ i false d)
 | .bV i e,ρ=>(ev F false e ρ).bind λd=>match d with
  | .lst xs=>some (.next (put ρ i true (.lst xs)))
  |_=>none
 | .lO i ix e,ρ=>(ev F false e ρ).bind λd=>((ev F false ix ρ).bind Eo).bind λk=>match ρ[i]? with
  |some (some (true,.lst xs))=>(place xs.length k).map λj=> .next (put ρ i true (.lst (xs.set j d)))
  |_=>none
 | .app i e,ρ=>(ev F false e ρ).bind λd=>match ρ[i]? with
  |some (some (true,.lst xs))=>if xs.length<ba then some (.next (put ρ i true (.lst (xs++[d])))) else none
  |_=>none
 | .ret e,ρ=>(ev F true e ρ).map .ret
 | .ifs c t u,ρ=>((ev F false c ρ).bind f6).bind λk=>if k then ex F t ρ else ex F u ρ
 | .while c b,ρ=>fU (λρ=>(ev F false c ρ).bind f6) (ex F b) et ρ
 | .iF i b,ρ=>fU (λρ=>((gq ρ i).map λxs=>D.bl !xs.isEmpty).bind f6) (ex F b) et ρ
 | .for is tg it b,ρ=>(kA F false it (dH it ρ)).bind λxs=>aE (λx ρ=>(aA tg x).bind λys=>(cI ρ is ys).bind λρ'=>ex F b ρ') xs (dH it ρ)
 | .ng i t es,ρ=>if t=2 then none else((cv F false es ρ).bind (yt t)).map λd=> .next (put ρ i true d)
 | .kB i k e,ρ=>(ev F false e ρ).bind λy=>(yv ρ i).bind λd=>((ev F false k ρ).bind (de d.1)).bind λx=>
   if d.2.1.length<ba/\x∉d.2.1 then some (.next (put ρ i true (.bM d.1 (d.2.1++[x]) (d.2.2++[y])))) else none
 | .Er i j,ρ=>(ic ρ j).map λxs=> .next (put (ρ.set j (some (false,.lst xs))) i false (.lst xs))
 | .pop i j,ρ=>(ic ρ j).bind λl=>(l.getLast?).map λz=> .next (put (put ρ j true (.lst l.dropLast)) i false z)
 | .ext i e,ρ=>(ev F false e ρ).bind λd=>match d with
  | .lst zs=>(ic ρ i).bind λws=>if ws.length+zs.length<=ba then some (.next (put ρ i true (.lst (ws++zs)))) else none
  |_=>none
 | .fst x fr it k v c1 y r f c2 m c3 p q u g w,ρ=>(kA F true it ρ).bind λxs=>if xs.length<=ba/\x≠y/\x<ρ.length/\qv ρ=true then(walk (qw (ev F false k) (ev F false v) fr ρ) xs).bind λT=>
   (ex F c1 (put ρ x true sT)).bind λo=>match o with
   | .next jA=>if iX jA x then(gr (iY F x y r f (ex F c2) m (ex F c3) (ev F false p) (ev F false q) (ev F false u) g (ev F false w)) y et T jA).map λT=> .ret (.lst T) else none
   |_=>none
  else none
def jJ:ev F b (.var i) ρ=rd b ρ i:=rfl
def vC:ev F m (.c d) ρ=some d:=rfl
def qx:ev F m (.bin o a b) ρ=(ev F true a ρ).bind λx=>(ev F true b ρ).bind λy=>bin o x y:=rfl
def nh:ev F m (.cmp o a b) ρ=(ev F true a ρ).bind λx=>(ev F true b ρ).bind λy=>(cmp o x y).map .bl :=rfl
def Oz:ev F m (.wu k es) ρ=(fG F k es ρ).map .bl :=rfl
def sU:ev F m (.tup es) ρ=(cv F false es ρ).bind λxs=>if xs.length<=ba then some (.tup xs) else none:=rfl
def yx:ev F m (.lst es) ρ=(cv F false es ρ).bind λxs=>if xs.length<=ba then some (.lst xs) else none:=rfl
def sV:ev F m (.idx a i) ρ=(ev F true a ρ).bind λx=>(ev F false i ρ).bind λk=>item x k:=rfl
def MX:ev F m (.sl a l h) ρ=(ev F true a ρ).bind λx=>(Ep F l ρ).bind λl=>(Ep F h ρ).bind λh=>cutD x l h:=rfl
def sW:ev F m (.call f es) ρ=(cv F true es ρ).bind λxs=>(F f xs).bind λd=>if kz ρ es&&!ay d then none else some d:=rfl
def fH:ev F m (.prim p es) ρ=(cv F true es ρ).bind λxs=>prim p xs:=rfl
def yz:ev F m (.iW p es) ρ=((cv F false es ρ).bind cM).bind (lN p):=rfl
def JZ:ev F m (.comp fr tg it ifs cD) ρ=(kA F true it ρ).bind λxs=>if xs.length<=ba then(walk (λx=>(aA tg x).bind λys=>
   (fG F true ifs (inner ys ρ fr)).bind λk=>if k then(ev F false cD (inner ys ρ fr)).map some else some none) xs).map .lst else none:=rfl
def J0:ev F m (.du i k) ρ=(gp ρ i).bind λd=>((ev F false k ρ).bind (de d.1)).bind λx=>iE d.2.1 d.2.2 x:=rfl
def J3:ev F m (.qu n k i) ρ=((ev F false k ρ).bind λy=>(gp ρ i).bind λd=>(de d.1 y).map λx=> .bl (if n then !decide (x∈d.2.1) else decide (x∈d.2.1))):=rfl
def OA:ev F m (.sset a) ρ=(ev F true a ρ).bind uk:=rfl
def wx:ex F .skip ρ=some (.next ρ):=rfl
def br:ex F (.seq a b) ρ=(ex F a ρ).bind λo=>match o with
  | .next ρ'=>ex F b ρ'
  |o=>some o:=rfl
def sX:ex F (.asg i e) ρ=(ev F false e ρ).map λd=> .next (put ρ i false d):=rfl
def oZ:ex F (.bV i e) ρ=(ev F false e ρ).bind λd=>match d with
  | .lst xs=>some (.next (put ρ i true (.lst xs)))
  |_=>none:=rfl
def BP:ex F (.lO i x e) ρ=(ev F false e ρ).bind λd=>((ev F false x ρ).bind Eo).bind λk=>match ρ[i]? with
  |some (some (true,.lst xs))=>(place xs.length k).map λj=> .next (put ρ i true (.lst (xs.set j d)))
  |_=>none:=rfl
def OB:ex F (.app i e) ρ=(ev F false e ρ).bind λd=>match ρ[i]? with
  |some (some (true,.lst xs))=>if xs.length<ba then some (.next (put ρ i true (.lst (xs++[d])))) else none
  |_=>none:=rfl
def ni:ex F (.ret e) ρ=(ev F true e ρ).map .ret :=rfl
def f7:ex F (.ifs c t u) ρ=((ev F false c ρ).bind f6).bind λk=>if k then ex F t ρ else ex F u ρ:=rfl
def yA:ex F (.for l g t b) ρ=(kA F false t (dH t ρ)).bind λxs=>aE (λx ρ=>(aA g x).bind λys=>(cI ρ l ys).bind λρ'=>ex F b ρ') xs (dH t ρ):=rfl
def J_:ex F (.ext i e) ρ=(ev F false e ρ).bind λd=>match d with
  | .lst zs=>(ic ρ i).bind λws=>if ws.length+zs.length<=ba then some (.next (put ρ i true (.lst (ws++zs)))) else none
  |_=>none:=rfl
structure Fd where
 par:Nat
 jB:Nat
 body:C
 deriving Inhabited
noncomputable def ai(d:Fd)(xs:List D):Env:=xs.map (λx=>some (false,x))++List.replicate (d.jB-d.par) none
noncomputable def out:Option il->Option D
 |some (.ret d)=>some d
 |some (.next _)=>some .fC
 |_=>none
noncomputable def run(P:List Fd):Nat->FT
 |0,_,_=>none
 |n+1,f,xs=>match P[f]? with
  |some d=>if xs.length=d.par then out (ex (run P n) d.body (ai d xs)) else none
  |none=>none
end Py
namespace L2
open PySem PyProof.Rows
def qy(val:Nat->Int):∀(k:Nat),∀(ns:List Int),(∀i,i<k->ns[i]?=some (val (i+1)))->val (argBest (λi j=>decide (val i<val j)) k)=Py.h_ (val 0) (ns.take k):=by
 have snoc:∀(ns:List Int) (a b:Int),Py.h_ a (ns++[b])=if b<Py.h_ a ns then b else Py.h_ a ns:=by
  intro ns
  induction ns with
  |nil=>intro a b;rfl
  |cons x ns ih=>intro a b;exact ih _ b
 intro k
 induction k with
 |zero=>intro ns _;rfl
 |succ k ih=>
  intro ns h
  have hk:=h k (Yi k)
  have F_:=ih ns λi hi=>h i (Yd hi)
  have e:ns.take (k+1)=ns.take k++[val (k+1)]:=by
   rw[List.take_add_one,hk];rfl
  rw[e,snoc,<-F_]
  show val (if(decide (val (k+1)<val (argBest _ k)))=true then k+1 else argBest _ k)=_
  by_cases c:val (k+1)<val (argBest (λi j=>decide (val i<val j)) k)
  .rw[WO (decide_eq_true c),WO c]
  .rw[WV (by simpa using c),WV c]
def ints_get:∀{vs:List Value}{ns:List Int},IntsAre vs ns->∀(i:Nat) (v:Value),vs[i]?=some v->∃t,v= .int (ns.getD i 0) t:=λ{vs ns} h=>by
 induction h with
 |nil=>intro i v h;simp at h
 |cons n t r ih=>
  intro i v h
  cases i with
  |zero=>simp at h;subst h;exact⟨t,rfl⟩
  |succ i=>
   obtain⟨t',e⟩:=ih i v (by simpa using h)
   exact⟨t',by simpa using e⟩
section
variable {prog:Program}{w:World}{A:Around}{E:Value->Shared->Prop}{s:Shared}{l:Addr}
def kh(hh:A.handled=none)(hl:s.heap.IsList l vs.toArray\/IsTup s.heap l vs.toArray)(hi:IntsAre vs (n::ns))
  (h:∀h' tk t,(∀b o,s.heap.get? b=some o->h'.get? b=some o)->Q (.int (Py.h_ n ns) t) {s with heap:=h',toks:=tk}):wpAny (model prog w) A (call (.builtin "min") [.ref l]) Q E s:=by
 have len:=hi.length
 have yB:∀(i:Nat) (v:Value),vs.toArray[i]?=some v->∃t,v=Value.int ((n::ns).getD i 0) t:=λi v e=>ints_get hi i v (by simpa using e)
 have best:(n::ns).getD (argBest (λi j=>decide ((n::ns).getD i 0<(n::ns).getD j 0)) ns.length) 0=Py.h_ n ns:=by
  have:=qy (λi=>(n::ns).getD i 0) ns.length ns (λi hi=>by simp[hi])
  simpa using this
 have fin:∀(v:Value) (h':Heap) (tk:Nat),vs.toArray[argBest (λi j=>decide ((n::ns).getD i 0<(n::ns).getD j 0)) (vs.toArray.size-1)]?=some v->(∀b o,s.heap.get? b=some o->h'.get? b=some o)->Q v {s with heap:=h',toks:=tk}:=λv h' tk hP hk=>by
  have e:vs.toArray.size-1=ns.length:=by rw[WA,len];simp
  rw[e]at hP
  obtain⟨t,rfl⟩:=yB _ v hP
  rw[best]
  exact h h' tk t hk
 have pos:0<vs.toArray.size:=by rw[WA,len];simp
 rcases hl with hl|hl
 .have bQ:l<s.heap.objs.size:=by obtain⟨_,e,_⟩:=hl;exact WH e
  refine call_min_walk (Yq hl ?_)
  refine⟨_,[_,l],[_],_,_,_,_,rfl,aaF (A:=A.in1) hh s.heap.objs.size l (W2 bQ) vs.toArray,⟨⟨_,WB _ rfl,rfl,rfl⟩,hl.push _⟩,λb hb=>?_,pos,CmpOf.ints_lt (λi=>(n::ns).getD i 0) yB,λv h' tk hP hk=>fin v h' tk hP λb o e=>hk b o ?_ (Wo _ e)⟩
  .show b<(s.heap.push _).objs.size
   rw[XW]
   rcases WG.mp hb with rfl|hb
   .exact Yi _
   .rw[Ww.mp hb];exact Yd bQ
  .intro hm
   rw[Ww.mp hm]at e
   exact absurd (WH e) (Xv _)
 .have vY:s.heap.IsTuple l vs.toArray:=hl
  have bQ:l<s.heap.objs.size:=by obtain⟨_,e,_⟩:=hl;exact WH e
  refine call_min_walk (YC vY ?_)
  refine⟨_,[_,l],[_],_,_,_,_,rfl,Walks.tuple (A:=A.in1) hh s.heap.objs.size l (W2 bQ) vs.toArray,⟨⟨_,WB _ rfl,rfl,rfl⟩,vY.push _⟩,λb hb=>?_,pos,CmpOf.ints_lt (λi=>(n::ns).getD i 0) yB,λv h' tk hP hk=>fin v h' tk hP λb o e=>hk b o ?_ (Wo _ e)⟩
  .show b<(s.heap.push _).objs.size
   rw[XW]
   rcases WG.mp hb with rfl|hb
   .exact Yi _
   .rw[Ww.mp hb];exact Yd bQ
  .intro hm
   rw[Ww.mp hm]at e
   exact absurd (WH e) (Xv _)
end
open PySem.Spec
open AutoSeq1 (wpAny_loadPart')
noncomputable abbrev qz(l:Addr):Obj:={cls:= .type "tuple_iterator",data:= .fields #[.ref l,.int 0 0]}
noncomputable abbrev F'(it:Addr):Obj:={cls:= .type "enumerate",data:= .fields #[.none,.bool false,.ref it,rawInt 0,.none,.none]}
def qA(l:Addr)(items:Array Value)(n:Nat)(BQ:Option Addr)(sl:Array (Option Value)):
  Meets (Builtin.«enumerate.__new__» ⟨[.type "enumerate",.ref l],[]⟩) (λ_ R s=>s.heap.get? l=some {cls:= .type "tuple",dict:=BQ,data:= .seq items n,slots:=sl}/\
   R (.ok (.ret (.ref (s.heap.push (qz l)).objs.size))) {s with heap:=(s.heap.push (qz l)).push (F' s.heap.objs.size)}):=
 .of_wp λprog w A R s h=>by
  obtain⟨hp,g,d,tk,os⟩:=s
  obtain⟨hl,h⟩:=h
  have sb:=sub_enumerate
  have hL:Heap.IsTuple (Shared.heap ⟨hp,g,d,tk,os⟩) l items:=⟨_,hl,rfl,n,rfl⟩
  wp_walk using X6 hl
  refine wpAny_stack_any λst=>Wv ?_
  split
  .rename_i c _ _ _ _ _
   cases (c==Value.type "enumerate")
   .wp_walk using X6 hl,YC hL
    exact⟨_,rfl,h⟩
   .wp_walk using X6 hl,YC hL
    exact⟨_,rfl,h⟩
  .wp_walk using X6 hl,YC hL
   exact⟨_,rfl,h⟩
section
variable {prog:Program}{w:World}{A:Around}{E:Value->Shared->Prop}{s:Shared}
def sY(hL:s.heap.IsTuple l items)
  (h:∀h',IsEnum h' (s.heap.objs.size+1) s.heap.objs.size 0 .none ->h'.IsTupleIter s.heap.objs.size l 0->h'.objs.size=s.heap.objs.size+2->
   (∀b o,s.heap.get? b=some o->h'.get? b=some o)->Q (.ref (s.heap.objs.size+1)) {s with heap:=h'}):
  wpAny (model prog w) A (call (.type "enumerate") [.ref l]) Q E s:=by
 refine au λnO=>?_
 obtain⟨⟨c,BQ,dt,sl⟩,hl,hc,n,hd⟩:=hL
 have kJ:c= .type "tuple":=hc
 have p8:dt= .seq items n:=hd
 subst kJ p8
 refine nO ?_
 refine callType_new F.called_enumerate (by decide) (F.typeCall_enumerate_1 _) (F.newCall_enumerate_1 _) (λobj=>Zm obj _) F.entry_enumerate_new (qA l items n BQ sl) ⟨hl,?_⟩
 have hz:(s.heap.push (qz l)).objs.size =s.heap.objs.size+1:=XW ..
 have he:IsEnum ((s.heap.push (qz l)).push (F' s.heap.objs.size)) (s.heap.objs.size+1) s.heap.objs.size 0 .none :=by
  have q:=WB (s.heap.push (qz l)) (o:=F' s.heap.objs.size) rfl
  rw[hz]at q
  exact q
 show _/\_
 rw[hz]
 exact⟨⟨_,he,rfl⟩,h _ he ⟨_,Wo _ (WB _ rfl),rfl,rfl⟩ (by rw[XW,hz]) λb o x=>Wo _ (Wo _ x)⟩
def qB(sZ:s.heap.IsTupleIter it l i)(hl:s.heap.IsTuple l items)(hx:items[i]?=some x)
  (hQ:∀h',h'.IsTupleIter it l (i+1)->Heap.SameBut it s.heap h'->Q x {s with heap:=h'}):wpAny (model prog w) A (Builtin.SmallTypes.nextOf (.ref it)) Q E s:=by
 refine bL (id sZ) λo ho hc hd=>?_
 obtain⟨ol,IH,_,nl,II⟩:=hl
 unfold Builtin.SmallTypes.nextOf
 refine Wn (Xi (name:=Str.ofString "__next__") sZ.typeIs Yh (Xb Yh sZ.typeIs Zr ?_ (Zn _)))
 show wpAny _ _ (field (.ref it) 0 >>= _) _ _ s
 refine Wn (Yg ho hd (x:= .ref l) rfl ?_)
 first
  |(show wpAny _ _ (if(Value.ref l==Value.none)=true then _ else _) _ _ s;rw[WV (show¬((Value.ref l==Value.none)=true) from Wt)])
  |skip
 show wpAny _ _ (field (.ref it) 1 >>= _) _ _ s
 refine Wn (Yg ho hd (x:= .int i 0) rfl ?_)
 show wpAny _ _ (seqItems? (.ref l) >>= _) _ _ s
 refine Wn (Zc IH II ?_)
 simp only[Xz,hx]
 refine Wn (XX ho hd (by simp) (Wv ⟨x,rfl,Wv (hQ _ ⟨_,Xp _ ho (X7 (Xq hd _)),(YK ..).trans hc,?_⟩ (Xh ..))⟩))
 rw[Xq hd]
 simp[rawInt]
def qC(hh:A.handled=none)(sZ:s.heap.IsTupleIter it l i)(hl:s.heap.IsTuple l items)(hx:items[i]?=none)
  (hE:∀h' e,Heap.ExtBut it s.heap h'->(∃o,h'.get? e=some o/\o.cls= .type "StopIteration")->E (.ref e) {s with heap:=h'}):wpAny (model prog w) A (Builtin.SmallTypes.nextOf (.ref it)) Q E s:=by
 refine bL (id sZ) λo ho hc hd=>?_
 obtain⟨ol,IH,_,nl,II⟩:=hl
 unfold Builtin.SmallTypes.nextOf
 refine Wn (Xi (name:=Str.ofString "__next__") sZ.typeIs Yh (Xb Yh sZ.typeIs Zr ?_ (Zn _)))
 show wpAny _ _ (field (.ref it) 0 >>= _) _ _ s
 refine Wn (Yg ho hd (x:= .ref l) rfl ?_)
 first
  |(show wpAny _ _ (if(Value.ref l==Value.none)=true then _ else _) _ _ s;rw[WV (show¬((Value.ref l==Value.none)=true) from Wt)])
  |skip
 show wpAny _ _ (field (.ref it) 1 >>= _) _ _ s
 refine Wn (Yg ho hd (x:= .int i 0) rfl ?_)
 show wpAny _ _ (seqItems? (.ref l) >>= _) _ _ s
 refine Wn (Zc IH II ?_)
 simp only[Xz,hx]
 first
  |refine Wn (YA (Wn (XX ho hd (by simp) ?_)))
  |refine Wn (YA (Wn (XX ho hd (by simp) (Wn (Z2 ?_)))))
 show wpAny _ _ (newExc (.type "StopIteration") [] >>= _) _ _ _
 refine Wn ?_
 simp only[newExc,newTuple]
 refine Wn (W_ ?_ (by size_fits))
 refine Wn (m:=firstArgMember _ _) (Zt (a:=Value.none) (by first|rfl|(simp only[firstArgMember];rfl)) ?_)
 refine W_ ?_ (by size_fits)
 simp only[raiseNew]
 refine Wn (Z3 ?_)
 first|rw[show A.in1.handled=none from hh]|rw[hh]
 exact Wn (Wv (aau (hE _ _ (((Xh ..).extBut.push _).push _) ⟨_,WB _ rfl,rfl⟩)))
end
def wy(hh:A.handled=none)(it l:Addr)(eU:l≠it)(items:Array Value):
  Draws prog w A it [it,l] items.size (λi v=>items[i]?=some v) (λi h=>h.IsTupleIter it l i/\h.IsTuple l items) where
 live:=λ_ _ st=>let ⟨o,ho,_⟩:=st.1;⟨o,ho⟩
 frame:=λ_ _ _ st hk=>⟨st.1.at λo e=>hk it (by simp) o e,st.2.at λo e=>hk l (by simp) o e⟩
 item:=λi s Q E hi st hQ=>qB st.1 st.2 (x:=items[i]) (by simp[hi]) λh' OC Em=>hQ _ h' s.toks (by simp[hi]) ⟨OC,st.2.extBut Em.extBut eU⟩ Em
 done:=λs Q E st hE=>qC hh st.1 st.2 (by simp) hE
section
variable {X:Cx}{aa:List (Addr×Obj)}{σ:List (Option V)}{H H':Hp}{s:Shared}{h':Heap}
def Inv.um{t':Nat}{ch:List Addr}(I:Inv X aa σ H s)(k:∀b o,b∉ch->s.heap.get? b=some o->h'.get? b=some o)(hf:∀b∈ch,kr X aa H b):Inv X aa σ H {s with heap:=h',toks:=t'}:=by
 have Jj:∀b u,H b=some u->b∉ch:=λb u e z=>by rw[(hf b z).1]at e;cases e
 refine I.step (g':=s.gens) (d':=s.drawn) (ch:=ch) (λb hb=>?_) (λb o _ _ hc e _=>k b o hc e) (λb o _ _ hc e _=>⟨o.slots,k b o hc e⟩) (λ_ _ _ _ n=>n)
  (λb o hc e=>⟨o,k b o hc e⟩) (λ_ _ e=>e) (λ_ _ _ e=>e) (λb ps e=>⟨#[],by rw[e];simp⟩) (λm hm=>?_) (λb u e=>?_) I.bare
 .exact rZ (hf b hb) λ_ f1 _ f3 f4 f5=>⟨f3,f1,f4,f5⟩
 .exact r0 hm λo es ep ho r=>⟨o,es,ep,k _ o (λz=>(hf _ z).2.1 rfl) ho,r⟩
 .refine(I.aR b u e).mW (λc v hc q=>k c v ?_ q) (λ_ q=>q) λ_ _ q=>q
  rcases hc with z|z
  .rw[z];exact Jj b u e
  .exact Jj c _ z
end
structure Ga(K:PySem.W.Frag)(a it:Addr)(Sq:Hp->List V->Prop)(J':Heap->Array Value->Prop)(Gb:Nat->Heap->Prop):Prop where
 get:∀{X:Cx}{aa:List (Addr×Obj)}{σ:St}{H:Hp}{s:Shared}{xs:List V},X.K=K->Inv X aa σ H s->Sq H xs->∃its:List Value,aD xs its/\J' s.heap its.toArray
 inj:∀{X:Cx}{aa:List (Addr×Obj)}{σ:St}{H:Hp}{s:Shared}{xs ys:List V},X.K=K->Inv X aa σ H s->Sq H xs->Sq H ys->xs=ys
 dr:∀(prog:Program) (w:World) (A:Around) (items:Array Value),A.handled=none->Draws prog w A it [it,a] items.size (λi v=>items[i]?=some v) (λi h=>Gb i h/\J' h items)
 obj:∀{i:Nat}{h:Heap},Gb i h->∃o,h.get? it=some o/\∀v,o.data≠ .cell v
 at':∀{i:Nat}{h h':Heap},Gb i h->(∀o,h.get? it=some o->h'.get? it=some o)->Gb i h'
 ne:∀{h:Heap}{e:Addr}{i:Int}{old:Value}{items:Array Value},IsEnum h e it i old->J' h items->e≠a
noncomputable def MY(Sq:Hp->List V->Prop):It:=
 ⟨λi H=>∃xs x,Sq H xs/\xs[i]?=some x,λi H x H'=>∃(t:Addr) (y:V),H t=none/\x= .ref t/\H'=upd H t (.tup [.int i,y])/\∀xs,Sq H xs->xs[i]?=some y,λi H=>∃xs,Sq H xs/\xs.length=i⟩
def nW{P:Program}{w:World}{K:PySem.W.Frag}{elts:List Expr}{k0:Nat}{tpos:Pos}{a it e:Addr}{Sq:Hp->List V->Prop}{J':Heap->Array Value->Prop}{Gb:Nat->Heap->Prop}(S:Ga K a it Sq J' Gb)(eU:e≠it):
  oP P w K (.Tuple elts k0 tpos) (MY Sq) [e,it] e (λi h=>(∃old,IsEnum h e it i old)/\Gb i h) where
 mem:=by simp
 obj:=λi h st b hb=>by
  obtain⟨⟨old,he⟩,hi⟩:=st
  rcases WG.mp hb with rfl|hb
  .exact⟨_,he,λv z=>by cases z⟩
  .rw[Ww.mp hb];exact S.obj hi
 keep:=λi h h' st k=>⟨let ⟨old,he⟩:=st.1;⟨old,k e (by simp) _ he⟩,S.at' st.2 λo z=>k it (by simp) o z⟩
 item:=by
  intro X hP hw hK hc i aa s σ H E I hf st hg
  subst hP hw hK
  obtain⟨⟨old,he⟩,hi⟩:=st
  refine ik hg λxs x hq hx=>ae (S.get rfl I hq) λits rv hX=>ae (rv.get hx) λu hu ru=>?_
  have bQ:i<its.toArray.size:=by
   have:=(WK.mp hu).1
   simpa using this
  have TK:e∉[it,a]:=λz=>by
   rcases WG.mp z with z|z
   .exact eU z
   .exact S.ne he hX (Ww.mp z)
  refine wpAny_pyNext_enum_itemD (S.dr X.prog X.w X.A.in1 its.toArray (I.ok.hd hc)) he ⟨hi,hX⟩ bQ eU TK λv h' tk hP D7 mY hT hsz hk=>?_
  have hP:its.toArray[i]?=some v:=hP
  have ev:v=u:=by
   have q:its[i]?=some v:=by simpa using hP
   rw[hu]at q
   exact(WU q).symm
  subst ev
  refine⟨_,rfl,wpAny_letOwnedTupleGo_enum D7 λMZ OD BR=>?_⟩
  have BR:Heap.SameBut e h' MZ:=BR
  have TM:e<s.heap.objs.size:=WH he
  have ltI:it<s.heap.objs.size:=by obtain⟨o,ho,_⟩:=S.obj hi;exact WH ho
  have I1:Inv X aa σ (upd H s.heap.objs.size (.tup [.int i,x])) {s with heap:=s.heap.push {cls:= .type "tuple",data:= .seq #[.int i tk,v]}}:=
   I.laid (t':=s.toks) (λb o z=>Wo _ z) (WE _) ⟨by show 2<=sizeLine;decide,[.int i tk,v],.cons ⟨_,rfl⟩ (.cons ru .nil),jD.new s.heap _⟩
  have TN:H s.heap.objs.size=none:=I.aR.fresh (WE _)
  have Ka:∀b∈[e,it],(upd H s.heap.objs.size (.tup [.int i,x])) b=none:=λb hb=>by
   have jH:b≠s.heap.objs.size:=by
    rcases WG.mp hb with rfl|hb
    .exact W2 TM
    .rw[Ww.mp hb];exact W2 ltI
   rw[ao jH];exact(hf b hb).1
  have I2:Inv X aa σ (upd H s.heap.objs.size (.tup [.int i,x])) {s with heap:=MZ,toks:=tk+1}:=by
   have key:∀b o,b∉[e,it]->(s.heap.push {cls:= .type "tuple",data:= .seq #[.int i tk,v]}).get? b=some o->MZ.get? b=some o:=λb o hb z=>by
    have Bc:b≠e:=λq=>hb (by simp[q])
    have Ro:b≠it:=λq=>hb (by simp[q])
    refine(BR.2 b Bc).trans ?_
    rcases Heap.get?_push_cases z with⟨rfl,rfl⟩|z
    .exact hT
    .exact hk b o Bc Ro z
   have J:=I1.um (h':=MZ) (t':=tk+1) (ch:=[e,it]) key λb hb=>⟨Ka b hb,(hf b hb).2⟩
   exact J
  refine⟨.ref s.heap.objs.size,_,I2,rfl,⟨s.heap.objs.size,x,TN,rfl,rfl,λys hy=>by rw[S.inj rfl I hy hq];exact hx⟩,⟨⟨v,?_⟩,S.at' mY.1 λo z=>(BR.2 it (Xt eU)).trans z⟩,Ka⟩
  have:((i+1:Nat):Int)=(i:Int)+1:=by push_cast;rfl
  rw[this]
  exact OD
 done:=by
  intro X hP hw hK hc i aa s σ H E I hf st hg
  subst hP hw hK
  obtain⟨⟨old,he⟩,hi⟩:=st
  refine ae hg λxs hq aj=>?_
  try clear hg
  subst aj
  refine ae (S.get rfl I hq) λits rv hX=>?_
  have hl:xs.length=its.toArray.size:=by rw[WA];exact rv.length
  rw[hl]at hi he
  refine wpAny_pyNext_enum_endD (S.dr X.prog X.w X.A.in1 its.toArray (I.ok.hd hc)) he ⟨hi,hX⟩ λh' hx=>⟨rfl,?_⟩
  exact I.um (t':=s.toks) (ch:=[e,it]) (λb o hb z=>hx b o (λq=>hb (by simp[q])) z) hf
 self:=λ_ _ _ _ _ st h=>let ⟨⟨_,he⟩,_⟩:=st;ZP he h
def yC{K:PySem.W.Frag}{a it:Addr}(h:a≠it):Ga K a it (λH xs=>dF K H a xs) (λh xs=>h.IsTuple a xs) (λi h=>h.IsTupleIter it a i) where
 get:=λhK I q=>by subst hK;obtain⟨its,r,t,_⟩:=I.tuple q;exact⟨its,r,t⟩
 inj:=λhK I q q'=>by subst hK;exact I.jF q q'
 dr:=λprog w A items hh=>wy hh it a h items
 obj:=λzz=>bL zz λo e c d=>⟨o,e,λv z=>by rw[d]at z;cases z⟩
 at':=λst k=>st.at k
 ne:=λhe ⟨o,e,c,_⟩ z=>by subst z;rw[he]at e;cases e;injection c with c;exact absurd c (by decide)
def yD{K:PySem.W.Frag}{a it:Addr}(h:a≠it):Ga K a it (λH xs=>c9 K H a xs) (λh xs=>h.IsList a xs) (λi h=>h.IsListIter it a i) where
 get:=λhK I q=>by subst hK;obtain⟨its,r,t,_⟩:=I.list q;exact⟨its,r,t.isList⟩
 inj:=λhK I q q'=>by subst hK;exact I.qi q q'
 dr:=λprog w A items hh=>Draws.list hh it a h items
 obj:=λzz=>bL zz λo e c d=>⟨o,e,λv z=>by rw[d]at z;cases z⟩
 at':=λst k=>st.at k
 ne:=λhe ⟨o,e,c,_⟩ z=>by subst z;rw[he]at e;cases e;injection c with c;exact absurd c (by decide)
def OF(K:PySem.W.Frag)(ta:TA):TI:=λσ H R=>ta σ H λvs H1=>∃a xs,vs=[.ref a]/\((dF K H1 a xs/\R (MY λH ys=>dF K H a ys) H1)\/(c9 K H1 a xs/\R (MY λH ys=>c9 K H a ys) H1))
def BS{X:Cx}{a:Expr}{ta:TA}{p pos:Pos}{elts:List Expr}{k0:Nat}{tpos:Pos}(hg:Gl X "enumerate")(hm:X.mg "enumerate"=none)(ha:PA X [a] ta)(hs:starEach [a] X.env=[(false,eval a X.env)]:=by rfl):
  PI X (.Tuple elts k0 tpos) (.Call (.Name "enumerate" p) [a] [] pos) (OF X.K ta):=by
 intro aa s σ H R I h
 refine Call_ (jE I hg hm PyProof.Rows.boot_enumerate (XY (bI (ha pos aa s σ H _ I h) λus s1 zz=>bC zz λvs H1 I1 r1 q1=>?_) hs rfl))
 refine ik q1 λb xs aj q=>?_
 try clear q1
 subst aj
 cases r1 with
 |cons r rr=>
  cases rr
  cases r
  have fin:∀(h':Heap),h'.objs.size=s1.heap.objs.size+2->(∀b o,s1.heap.get? b=some o->h'.get? b=some o)->Inv X aa σ H1 {s1 with heap:=h'}/\∀c∈[s1.heap.objs.size+1,s1.heap.objs.size],kr X aa H1 c:=λh' _ hk=>by
   refine⟨I1.kept (t':=s1.toks) hk,λc hc=>?_⟩
   have yE:s1.heap.objs.size<=c:=by
    rcases WG.mp hc with rfl|hc
    .exact aaJ _
    .rw[Ww.mp hc];exact WE _
   exact I1.so yE (I1.aR.fresh yE)
  rcases q with⟨hq,hR⟩|⟨hq,hR⟩
  .refine bL (I1.tuple hq) λits rv t _=>?_
   have ht:s1.heap.IsTuple b its.toArray:=t
   have hb:b≠s1.heap.objs.size:=by obtain⟨o,e,_⟩:=ht;exact W2 (WH e)
   refine sY ht λh' he sZ hsz hk=>?_
   obtain⟨J1,J2⟩:=fin h' hsz hk
   exact ZP he ⟨s1.heap.objs.size+1,[s1.heap.objs.size+1,s1.heap.objs.size],_,_,H1,rfl,J1,nW (yC hb) (Nat.succ_ne_self _),⟨⟨_,he⟩,sZ⟩,J2,hR⟩
  .refine bL (I1.list hq) λits rv t _=>?_
   have ht:s1.heap.IsList b its.toArray:=t.isList
   have hb:b≠s1.heap.objs.size:=by obtain⟨o,e,_⟩:=ht;exact W2 (WH e)
   refine call_enumerate_list ht λh' he sZ hsz hk=>?_
   obtain⟨J1,J2⟩:=fin h' hsz hk
   exact ZP he ⟨s1.heap.objs.size+1,[s1.heap.objs.size+1,s1.heap.objs.size],_,_,H1,rfl,J1,nW (yD hb) (Nat.succ_ne_self _),⟨⟨_,he⟩,sZ⟩,J2,hR⟩
section
variable {prog:Program}{w:World}{A:Around}{E:Value->Shared->Prop}{s:Shared}
theorem qD(eU:t≠it):∀(n i:Nat) (s:Shared) (Q:List Value->Shared->Prop),s.heap.IsListIter it t i->s.heap.IsList t items->i+n<=items.size->
  (∀h',h'.IsListIter it t (i+n)->Heap.SameBut it s.heap h'->Q ((items.toList.drop i).take n) {s with heap:=h'})->wpAny (model prog w) A (draw (.ref it) n) Q E s
 |0,i,s,Q,sZ,_,_,hQ=>Wv (by simpa using hQ s.heap sZ (Heap.SameBut.refl ..))
 |n+1,i,s,Q,sZ,ht,yE,hQ=>by
  have bQ:i<items.size:=by lia
  show wpAny _ _ (pyNext (.ref it) >>= _) Q E s
  refine Wn (Z_ sZ ht (x:=items[i]) (by simp[bQ]) λh1 Gd IJ=>?_)
  refine Wn (Xf (qD eU n (i+1) _ _ Gd (ht.extBut IJ.extBut eU) (by lia) λh2 OG OH=>Wv ?_))
  have hd:items.toList.drop i=items[i]::items.toList.drop (i+1):=by simp[Xs,bQ]
  have q:=hQ h2 (by rw[show i+(n+1)=i+1+n by lia];exact OG) (IJ.trans OH)
  rw[hd,List.take_succ_cons]at q
  exact q
def kC(hh:A.handled=none)(ht:s.heap.IsList t items)
  (hQ:∀h',Heap.ExtBut s.heap.objs.size s.heap h'->Q items.toList {s with heap:=h'}):wpAny (model prog w) A (unpackItems (.ref t) items.size none) Q E s:=by
 have bQ:t≠s.heap.objs.size:=by obtain⟨o,ho,_⟩:=ht;exact W2 (WH ho)
 have push:∀o,(s.heap.push o).IsList t items:=λo=>by obtain⟨ol,e,r⟩:=ht;exact⟨ol,Wo _ e,r⟩
 unfold unpackItems
 refine Wn ?_
 unfold notIterableAtAll
 refine Wn (Zu ht.typeIs F.slot_list_iter.lookup (Wv ?_))
 simp only[XB,if_false]
 refine Wn (Xf (Yq ht ?_))
 refine Wn (Xf (qD bQ items.size 0 _ _ ⟨_,WB _ rfl,rfl,rfl⟩ (push _) (by lia) λh1 Gd IJ=>?_))
 have F3:List.take items.size (List.drop 0 items.toList)=items.toList:=by
  rw[YQ];exact Xg (by simp)
 rw[F3,WV (by simp)]
 have Kb:h1.IsList t items:=(push _).extBut IJ.extBut bQ
 refine Wn (Xf (wpAny_pyNext_list_end hh Gd Kb (by simp) λh2 TQ=>?_))
 simp only[Option.isSome_none,XB,if_false]
 exact Wv (hQ h2 λb o hb e=>TQ b o hb (IJ.extBut b o hb (Wo _ e)))
def s_(hh:A.handled=none)(ht:s.heap.IsList t items)
  (hn:(assignEach elts env).length =items.size) (Kc:(assignEach elts env).findIdx? (·.1)=none)
  (h:∀h',Heap.ExtBut s.heap.objs.size s.heap h'->wpAny (model prog w) A (assignInOrder ((assignEach elts env).map (·.2)) items.toList) Q E {s with heap:=h'}):
  wpAny (model prog w) A (assign (.Tuple elts x1 pos) env (.ref t)) Q E s:=by
 rw[PyProof.Rows.assign_Tuple]
 refine Wn (ZZ ?_)
 unfold unpack
 rw[hn,Kc]
 exact Wn (Xf (kC hh ht h))
end
def BU(K:PySem.W.Frag)(n:Nat)(t:Fw):TG:=λv σ H Q=>∃a xs,v= .ref a/\(c9 K H a xs\/dF K H a xs)/\xs.length=n/\t xs σ H Q
def yF(hc:X.calm=true)(h:IB X es t)
  (hn:(assignEach es X.env).length =n:=by rfl) (mY:(assignEach es X.env).findIdx? (·.1)=none:=by rfl):PG X (.Tuple es k pos) (BU X.K n t):=by
 intro aa s σ H v u Q I r hw
 refine au λnO=>?_
 obtain⟨a,xs,e1,hq,hl,hw⟩:=hw
 subst e1
 cases r
 refine nO ?_
 rcases hq with hq|hq
 .refine au λnO=>?_
  obtain⟨its,rv,ht,hz⟩:=I.list hq
  refine nO<|s_ (I.ok.hd hc) ht.isList (by simp[hn,<-hl,rv.length]) mY λh' hx=>?_
  have I1:Inv X aa σ H {s with heap:=h'}:=I.kept (t':=s.toks) λb o e=>hx b o (W2 (WH e)) e
  exact h aa _ σ H xs _ Q I1 (by simpa using rv) hw
 .exact Fy hc h hn mY aa s σ H (.ref a) (.ref a) Q I rfl ⟨a,xs,rfl,hq,hl,hw⟩
open AutoSeq1 (wpAny_loadPart')
noncomputable abbrev o_(items:Array Value)(x:Value)(i:Nat)(_:Option PySem.Fin×Unit):Sem (ForInStep (Option PySem.Fin×Unit)):=
 match items[i]? with
 |some y=>do
  let c<-eqBool y x
  if c=true then do
   let r<-retInt (i:Int)
   pure (ForInStep.done (some r,()))
  else pure (ForInStep.yield (none,()))
 |_=>pure (ForInStep.yield (none,()))
section
variable {prog:Program}{w:World}{A:Around}{E:Value->Shared->Prop}
theorem qE(hi:IntsAre items.toList ns)(hj:ns[j]?=some k)(xE:∀m,m<j->ns[m]?≠some k):
  ∀(m i:Nat) (s:Shared) (Q:Option PySem.Fin×Unit->Shared->Prop),i<=j->j<i+m->i+m<=items.size->Q (some (.done (.ret (.int j s.toks))),()) {s with toks:=s.toks+1}->
   wpAny (model prog w) A (forIn (List.range' i m) ((none,()):Option PySem.Fin×Unit) (o_ items (.int k t))) Q E s
 |0,i,s,Q,h1,h2,_,_=>absurd h2 (by lia)
 |m+1,i,s,Q,h1,h2,h3,h=>by
  have bQ:i<items.size:=by lia
  have hl:ns.length=items.toList.length:=hi.length.symm
  obtain⟨ti,ei⟩:=ints_get hi i items[i] (by simp[bQ])
  have hn:ns[i]?=some (ns.getD i 0):=by
   rw[Wz,Wq (by rw[hl];simpa using bQ)]
   rfl
  rw[YT,Yp]
  unfold o_
  rw[W5 bQ]
  show wpAny _ _ ((eqBool items[i] (.int k t) >>= _) >>= _) _ _ s
  rw[ei]
  refine Wn (Wn (Z5 ?_))
  by_cases Ge:i=j
  .subst Ge
   rw[hj]at hn
   have e:ns.getD i 0=k:=(WU hn).symm
   rw[e,beq_self_eq_true,WO rfl]
   refine Wn ?_
   unfold retInt ret
   refine Wn (wpAny_mkInt (Wv (Wv (Wv h))))
  .have e:(ns.getD i 0==k)=false:=by
    rw[beq_eq_false_iff_ne]
    exact λz=>xE i (by lia) (by rw[hn,z])
   rw[e,WV Wt]
   exact Wv (qE hi hj xE m (i+1) s Q (by lia) (by lia) (by lia) h)
end
def wz(l:Addr)(items:Array Value)(n:Nat)(dd:Option Addr)(sl:Array (Option Value)){ns:List Int}(hi:IntsAre items.toList ns){k:Int}{t:Tok}{j:Nat}(hj:ns[j]?=some k)(xE:∀m,m<j->ns[m]?≠some k):
  Meets (Builtin.«tuple.index» ⟨[.ref l,.int k t],[]⟩)
   (λA R s=>s.heap.get? l=some {cls:= .type "tuple",dict:=dd,data:= .seq items n,slots:=sl}/\R (.ok (.ret (.int j s.toks))) {s with toks:=s.toks+1}):=by
 intro prog w A R s h
 obtain⟨hp,g,d,tk,os⟩:=s;obtain⟨hl,h⟩:=h
 unfold Builtin.«tuple.index»
 simp only[Std.Legacy.Range.forIn_eq_forIn_range']
 wp_walk using X6 hl
 have V1:j<items.size:=by
  have q:=(WK.mp hj).1
  have:=hi.length
  simp at this
  lia
 have TR:(([:min items.size items.size]:Std.Legacy.Range)).size =items.size:=by simp[Std.Legacy.Range.size]
 rw[TR]
 show wpAny _ _ (forIn (List.range' 0 items.size) ((none,()):Option PySem.Fin×Unit) (o_ items (.int k t))) _ _ _
 exact qE hi hj xE items.size 0 _ _ (XF _) (by lia) (by lia)<|Wv h
def Gf(K:PySem.W.Frag):V->List V->Hp->VK->Prop:=λx vs H Q=>∃(l:Addr) (ns:List Int) (k:Int) (j:Nat),x= .ref l/\vs=[.int k]/\dF K H l (ns.map V.int)/\ns[j]?=some k/\(∀m,m<j->ns[m]?≠some k)/\Q (.int (j:Nat)) H
def yG{X:Cx}:MQ X "tuple.index" (Gf X.K):=by
 intro aa s σ H x vs v us Q I rx rv h
 refine au λnO=>D6 h λl ns k j aj aU hq hj xE q=>?_
 try clear h
 subst aj
 subst aU
 cases rx
 obtain⟨u,rfl,t,rfl⟩:=vals1 rv
 obtain⟨its,r,⟨⟨c,dd,dt,sl⟩,ho,hc,n,hd⟩,hz⟩:=I.tuple hq
 have kJ:c= .type "tuple":=hc
 have p8:dt= .seq its.toArray n:=hd
 subst kJ p8
 refine nO ?_
 have hi:IntsAre its.toArray.toList ns:=by simpa using intsAre_of r
 exact call_meets ZQ ⟨_,ho,rfl⟩ PySem.F.entry_tuple_index (PySem.F.args_tuple_index_2 _ _) (wz l its.toArray n dd sl hi hj xE) ⟨ho,.int j,H,I.tok _,⟨_,rfl⟩,q⟩
def TU(K:PySem.W.Frag)(r:V->List V->Hp->VK->Prop)(to:TE)(t:TA):TE:=λσ H Q=>to σ H λx H1=>(∃a xs,x= .ref a/\dF K H1 a xs)/\t σ H1 λxs H2=>r x xs H2 Q
def Kd{X:Cx}{o e:Expr}{es:List Expr}{to:TE}{t:TA}{name:Str}{m5 fY:Pos}{id:String}{r:V->List V->Hp->VK->Prop}(pa:PlainAttrs "tuple")(slot:Slot "tuple" name id)(JL:typeOf (.builtin id)=pure (.type "method_descriptor"))(hm:MQ X id r)(ho:PE X o to)(ha:PA X (e::es) t)
  (iS:attributeBase o name X.env (eval o X.env)=eval o X.env)
  (FZ:((backTo fY (starEach (e::es) X.env)).all (λx=>!x.1)&&(backToKw fY (keywordEach [] X.env)).all (λx=>x.1.isSome)
   && decide ((e::es).length+([]:List Keyword).length+(if([]:List Keyword).isEmpty then 0 else 1)<30))=true)
  (iT:(m5.endLine==fY.line)=true) (hs:starEach (e::es) X.env=(false,eval e X.env)::starEach es X.env) (sO:(backTo fY (starEach es X.env)).any (·.1)=false):
  PE X (.Call (.Attribute o name m5) (e::es) [] fY) (TU X.K r to t):=by
 intro aa s σ H Q I h
 refine wpAny_Call_method_late iS FZ iT rfl (bI (ho aa s σ H _ I h) λv s1 zz=>?_)
 refine au λnO=>gM zz λx H1 I1 r1 ty q1=>ik ty λa xs aj hq=>?_
 try clear ty
 subst aj
 cases r1
 obtain⟨its,rv,⟨ob,e1,e2,_,e4⟩,_⟩:=I1.Fv hq
 refine nO ?_
 refine⟨"tuple",id,pa,slot,JL,⟨ob,e1,e2⟩,λb z=>by cases z;exact⟨ob,e1,e4⟩,?_⟩
 have hA:=ha fY aa s1 σ H1 _ I1 q1
 rw[hs]at hA⊢
 refine YB (by show(false||(backTo fY (starEach es X.env)).any (·.1))=false;rw[sO]<;>rfl) (Calls.evalArgs_plain ?_)
 exact bI hA λus s2 zz=>bC zz λvs H2 I2 TV q2=>hm aa s2 σ H2 (.ref a) vs (.ref a) us Q I2 rfl TV q2
open AutoSeq1 (wpAny_loadPart')
abbrev Ke(a c:Int):Nat->Value->Prop:=λi v=>∃t,v= .int (a+i*c) t
section
variable {prog:Program}{w:World}{A:Around}{E:Value->Shared->Prop}{s:Shared}
def nj{Q:List Value->Shared->Prop}{r:Addr}{a b c:Int}{t u v:Tok}{n:Nat}(hh:A.handled=none)(hr:IsRange s.heap r a b c t u v)(lP:Builtin.Range.small a b c=true)
  (hn:Builtin.Range.rangeSize a b c=n) (aS:n<=2 ^ 24)
  (hQ:∀h' tk acc,(∀b o,s.heap.get? b=some o->h'.get? b=some o)->ItemsOf (Ke a c) acc n->Q acc.toList {s with heap:=h',toks:=tk}):wpAny (model prog w) A (collect (.ref r)) Q E s:=by
 unfold collect
 refine Wn (wpAny_runValue (X8 F.entry_proto_collect ?_))
 rw[Yl F.plain_proto_collect _]
 show wpAny _ A.in1 (newList [] >>= λl=>again (.builtin "list.__iadd__" ⟨[l,.ref r],[]⟩)) _ _ s
 refine Wn (W_ ?_)
 refine Wv ⟨plainId_quiet F.plain_list_iadd _,X8 F.entry_list_iadd ?_⟩
 rw[Yl F.plain_list_iadd _]
 show wpAny _ A.in1 (Builtin.List.listExtendWith (.ref s.heap.objs.size) (.ref r) (.ref s.heap.objs.size)) _ _ _
 have hS:(s.heap.push {cls:= .type "list",data:= .seq ([]:List Value).toArray}).get? s.heap.objs.size=some {cls:= .type "list",data:= .seq #[] 0}:=WB _ rfl
 let RR:Result->Shared->Prop:=λr s'=>∃(h':Heap) (tk:Nat) (acc:Array Value) (c':Nat),r= .ok (.ret (.ref s.heap.objs.size))/\s'={s with heap:=h',toks:=tk}/\
  (∀b o,s.heap.get? b=some o->h'.get? b=some o)/\h'.get? s.heap.objs.size=some {cls:= .type "list",dict:=none,data:= .seq acc c',slots:=#[]}/\ItemsOf (Ke a c) acc n
 have dw:∀(h':Heap) (tk:Nat) (acc:Array Value) (c':Nat),(∀b o,s.heap.get? b=some o->h'.get? b=some o)->h'.get? s.heap.objs.size=some {cls:= .type "list",dict:=none,data:= .seq acc c',slots:=#[]}->ItemsOf (Ke a c) acc n->
   wpAny (model prog w) A (match Value.ref s.heap.objs.size with
    |Value.ref a=>do
     match (<-load a).data with
      |Data.seq xs _=>pure xs.toList
      |_=>unsupported "internal:collect"
    |_=>unsupported "internal:collect") Q E {s with heap:=h',toks:=tk}:=λh' tk acc c' hk BV kD=>by
  show wpAny _ A (load s.heap.objs.size >>= _) _ _ _
  exact Wn (wpAny_load BV (Wv (hQ h' tk acc hk kD)))
 refine X2 (wpAny_extend_range (A:=A) (R:=RR) (s:={s with heap:=s.heap.push {cls:= .type "list",data:= .seq ([]:List Value).toArray}}) hh (Wo _ hr) lP hn aS _ (.ref s.heap.objs.size) _ hS λh' tk Gg c' hk BV kD=>⟨h',tk,Gg,c',rfl,rfl,λb o e=>hk b o (W2 (WH e)) (Wo _ e),BV,kD⟩) (λfin s' h=>?_) (λe s' h=>?_)
 .cases fin with
  |done f=>
   refine sh h λh' tk acc c' e aj hk BV kD=>?_
   try clear h
   subst aj
   cases e
   exact dw h' tk acc c' hk BV kD
  |again c'=>
   refine⟨h.1,Zd h.2 λr JA hr=>?_⟩
   refine sh hr λh' tk acc c' e aU hk BV kD=>?_
   try clear hr
   subst aU
   subst e
   exact dw h' tk acc c' hk BV kD
 .refine Q3 h λh' tk acc c' e _=>?_
  cases e
end
def tf{r:Addr}{a b c:Int}{t u v:Tok}{n:Nat}(lP:Builtin.Range.small a b c=true)(hn:Builtin.Range.rangeSize a b c=n)(aS:n<=2 ^ 24):
  Meets (Builtin.«tuple.__new__» ⟨[.type "tuple",.ref r],[]⟩)
   (λA R s=>A.handled=none/\IsRange s.heap r a b c t u v/\∀(h':Heap) (tk:Nat) (acc:Array Value),(∀b o,s.heap.get? b=some o->h'.get? b=some o)->ItemsOf (Ke a c) acc n->
    R (.ok (.ret (.ref h'.objs.size))) {s with heap:=h'.push {cls:= .type "tuple",data:= .seq acc},toks:=tk}):=
 .of_wp λprog w A R s h=>by
  obtain⟨hp,g,d,TX,os⟩:=s
  refine cU h λhh hr h=>?_
  have Kf:=sub_tuple_self
  have Rp:=init_tuple_lookup
  have V2:=madeHere_tuple
  have hT:Shared.TypeIs ⟨hp,g,d,TX,os⟩ (.ref r) "range":=⟨_,hr,rfl⟩
  have TY:A.in1.handled=none:=hh
  wp_walk using X6 hr,ZF hT,nj TY hr lP hn aS
  intro h' tk acc hk kD
  show wpAny _ _ (Builtin.Tuple.tupleExact acc.toList.toArray >>= λv=>ret v) _ _ _
  unfold Builtin.Tuple.tupleExact
  refine Wn (W_ ?_ (show acc.toList.toArray.size<=sizeLine by simp only[aan];rw[kD.1,sizeLine_eq];exact aS))
  refine Wv ⟨_,rfl,?_⟩
  have e:acc.toList.toArray=acc:=by simp
  rw[e]
  exact h h' tk acc hk kD
section
variable {prog:Program}{w:World}{A:Around}{E:Value->Shared->Prop}{s:Shared}
def wA{Q:Value->Shared->Prop}{r:Addr}{a b c:Int}{t u v:Tok}{n:Nat}(hh:A.handled=none)(hr:IsRange s.heap r a b c t u v)(lP:Builtin.Range.small a b c=true)(hn:Builtin.Range.rangeSize a b c=n)(aS:n<=2 ^ 24)
  (h:∀(h':Heap) (tk:Nat) (acc:Array Value),(∀b o,s.heap.get? b=some o->h'.get? b=some o)->ItemsOf (Ke a c) acc n->Q (.ref h'.objs.size) {s with heap:=h'.push {cls:= .type "tuple",data:= .seq acc},toks:=tk}):
  wpAny (model prog w) A (call (.type "tuple") [.ref r]) Q E s:=
 callType_new F.called_tuple (by decide) (F.typeCall_tuple_1 _) (F.newCall_tuple_1 _) (λobj=>Zm obj _) F.entry_tuple_new (tf lP hn aS)
  ⟨hh,hr,λh' tk acc hk kD=>⟨⟨_,WB _ rfl,rfl⟩,h h' tk acc hk kD⟩⟩
end
open AutoSeq1 (wpAny_loadPart')
theorem uo:∀{bs:List Bool}{us:List Value},aD (bs.map V.bl) us->us=bs.map Value.bool
 |[],_,.nil =>rfl
 |b::bs,_,.cons r t=>by
  have e:_=Value.bool b:=r
  rw[e,uo t]
  rfl
section
variable {prog:Program}{w:World}{A:Around}{E:Value->Shared->Prop}{s:Shared}{l:Addr}
def qF(A:Around)(bs:List Bool):TruthOf prog w A (λi v=>(bs.map Value.bool).toArray[i]?=some v) (λi=>bs.getD i false):=λi v s Q E hP hQ=>by
 have q:(bs.map Value.bool)[i]?=some v:=by simpa using hP
 rw[WI]at q
 cases e:bs[i]? with
 |none=>rw[e]at q;cases q
 |some b=>
  rw[e]at q
  cases q
  have:bs.getD i false=b:=by rw[Wz,e];rfl
  have Rq:Q (bs.getD i false) s:=hQ
  rw[this]at Rq
  exact X3 Rq
def all_range{bs:List Bool}:(List.range bs.length).all (λi=>bs.getD i false)=bs.all id:=by
 rw[Bool.eq_iff_iff,Xw,Xw]
 constructor
 .intro h b hb
  obtain⟨i,hi,rfl⟩:=List.mem_iff_getElem.mp hb
  have:=h i (W7.mpr hi)
  rw[Wz,Wq hi]at this
  exact this
 .intro h i hi
  have iV:=W7.mp hi
  rw[Wz,Wq iV]
  exact h _ (X0 iV)
def yH{bs:List Bool}{Q:Value->Shared->Prop}(hh:A.handled=none)(hl:s.heap.IsList l (bs.map Value.bool).toArray)
  (h:∀h' tk,(∀b o,s.heap.get? b=some o->h'.get? b=some o)->Q (.bool (bs.all id)) {s with heap:=h',toks:=tk}):wpAny (model prog w) A (call (.builtin "all") [.ref l]) Q E s:=by
 have bQ:l<s.heap.objs.size:=by obtain⟨_,e,_⟩:=hl;exact WH e
 refine call_all_walk (Yq hl ?_)
 refine⟨_,[_,l],[_],_,_,_,_,rfl,aaF (A:=A.in1) hh s.heap.objs.size l (W2 bQ) _,⟨⟨_,WB _ rfl,rfl,rfl⟩,hl.push _⟩,qF _ bs,λh' tk hk=>?_⟩
 have e:(bs.map Value.bool).toArray.size =bs.length:=by simp
 rw[e,all_range]
 refine h h' tk λb o z=>hk b o (λhm=>?_) (Wo _ z)
 rw[Ww.mp hm]at z
 exact absurd (WH z) (Xv _)
end
section
variable {X:Cx}
def wB(hc:X.calm=true):cH X (.builtin "all") (λxs H Q=>∃(p:Addr) (bs:List Bool),xs=[.ref p]/\c9 X.K H p (bs.map V.bl)/\Q (.bl (bs.all id)) H):=by
 intro aa s σ H xs us Q I r zz
 refine bC zz λp bs e hq q=>?_
 subst e
 refine ae (vals1 r) λu aj rx=>?_
 subst aj
 cases rx
 refine bL (I.list hq) λits rv pl hz=>?_
 rw[uo rv]at pl
 exact yH (I.ok.hd hc) pl.isList λh' tk hk=>⟨.bl _,H,I.kept (t':=tk) hk,rfl,q⟩
end
section
variable {prog:Program}{w:World}{A:Around}{E:Value->Shared->Prop}{s:Shared}{X:Cx}
theorem iZ:∀{us:List Value}{ns:List Int},IntsAre us ns->aD (ns.map V.int) us
 |_,_,.nil => .nil
 |_,_,.cons n t r=> .cons ⟨t,rfl⟩ (iZ r)
end
open HT
open AutoSeq1 (wpAny_loadPart')
section
variable {prog:Program}{w:World}{A:Around}{E:Value->Shared->Prop}{s:Shared}
def nk(ht:IsTup s.heap t items)(h:Q true s):wpAny (model prog w) A (Builtin.Tuple.tupleIsExact (.ref t)) Q E s:=by
 unfold Builtin.Tuple.tupleIsExact
 exact Wn (ZF ht.typeIs (Wv (by simpa using h)))
def ie{t sl:Addr}{items:Array Value}{vl vu:Value}{lo hi:Option Int}{Q:Value->Shared->Prop}(ht:IsTup s.heap t items)(hs:s.heap.IsSliceOf sl vl vu .none)(pl:IsPart vl lo)(pu:IsPart vu hi)
  (hw:cC items.size 0 lo=0/\cC items.size items.size hi=items.size) (h:Q (.ref t) s):wpAny (model prog w) A (getItem (.ref t) (.ref sl)) Q E s:=by
 refine bL (id hs) λos sM yb JH=>?_
 have BB:s.TypeIs (.ref sl) "slice":=⟨os,sM,yb⟩
 unfold getItem
 try with_reducible refine Xf ?_
 first|refine Wn (Wv ?_)|skip
 refine Wn (wpAny_sequenceKey ht.typeIs (by decide) ?_)
 refine Wn (Xi (name:=Str.ofString "__getitem__") ht.typeIs Xy (Xb Xy ht.typeIs entry_tuple_getitem ?_ (args_tuple_getitem _ _)))
 show wpAny _ _ (Builtin.Tuple.tupleItemsOf (.ref t) >>= _) _ _ s
 refine Wn (tupleItemsOf_ ht ?_)
 refine Wn (ZF BB ?_)
 rw[WO (by decide)]
 refine Wn (eN hs pl pu ?_)
 have OI:(((cC items.size 0 lo:Nat):Int)==0&&(1:Int)==1&&(cC items.size items.size hi-cC items.size 0 lo)==items.size)=true:=by
  rw[hw.1,hw.2];simp
 show wpAny _ _ (if(((cC items.size 0 lo:Nat):Int)==0&&(1:Int)==1&&(cC items.size items.size hi-cC items.size 0 lo)==items.size)=true then _ else _) _ _ s
 rw[WO OI]
 refine Wn (nk ht ?_)
 rw[WO rfl]
 exact Wn (YA (Wv ⟨_,rfl,Wv h⟩))
end
section
variable {X:Cx}
def Kg(K:PySem.W.Frag):V->Option Int->Option Int->Hp->VK->Prop:=λx lo hi H Q=>∃a xs,x= .ref a/\dF K H a xs/\(cC xs.length 0 lo=0/\cC xs.length xs.length hi=xs.length)/\Q x H
def yI:Bg X (Kg X.K):=by
 intro aa s σ H x v vl vu lo hi sl Q I rx hs pl pu h
 refine gM h λa xs aj hx hw q=>?_
 try clear h
 subst aj
 cases rx
 refine bL (I.tuple hx) λits r ht hz=>?_
 have aS:its.toArray.size=xs.length:=by rw[WA];exact r.length.symm
 exact⟨"tuple",_,Xy.lookup,ht.typeIs,ie ht hs pl pu (by rw[aS];exact hw) ⟨.ref a,H,I,rfl,q⟩⟩
def BW:Bg X (λx lo hi H Q=>JJ X.K x lo hi H Q\/Kg X.K x lo hi H Q):=FU.or yI
end
end L2
namespace L2
open PySem PyProof.Rows
open PySem.Spec
section
variable {κ:Type}[DecidableEq κ]
noncomputable def jK(aw:List (κ×V))(k:κ):Option V:=(aw.find? λkv=>decide (kv.1=k)).map (·.2)
noncomputable def jL(aw:List (κ×V))(k:κ)(v:V):List (κ×V):=
 if(aw.any λkv=>decide (kv.1=k))=true then aw.map (λkv=>if kv.1=k then(kv.1,v) else kv) else aw++[(k,v)]
def i6{p:κ×V}{r:List (κ×V)}{k:κ}(e:p.1=k):jK (p::r) k=some p.2:=by simp[jK,Yr,e]
def i7{p:κ×V}{r:List (κ×V)}{k:κ}(e:¬p.1=k):jK (p::r) k=jK r k:=by simp[jK,Yr,e]
theorem qG(k:κ):∀aw:List (κ×V),(aw.any λkv=>decide (kv.1=k))=(jK aw k).isSome
 |[]=>rfl
 |p::r=>by
  rw[aaA]
  by_cases e:p.1=k
  .simp only[i6 e,decide_eq_true e,Bool.true_or,aaz]
  .rw[i7 e,decide_eq_false e,Bool.false_or];exact qG k r
def kj(aw:List (κ×V))(k:κ)(v:V):(jL aw k v).length <=aw.length+1:=by
 unfold jL
 split
 .rw[Wr];lia
 .rw[WC,WM,XZ];lia
def mV.eV(r:mV o u):o.isSome=u.isSome:=by
 cases o with
 |none=>cases u with
  |none=>rfl
  |some _=>exact(show False from r).elim
 |some _=>cases u with
  |none=>exact(show False from r).elim
  |some _=>rfl
def KV.val{aw:List (κ×V)}{vs:List (κ×Value)}(r:KV aw vs)(k:κ):mV (jK aw k) (valueAt vs k):=by
 unfold KV at r
 induction r with
 |nil=>exact True.intro
 |@cons p q ps qs h t ih=>
  obtain⟨h1,h2⟩:=h
  by_cases e:p.1=k
  .have e':q.1=k:=h1.symm.trans e
   have b:valueAt (q::qs) k=some q.2:=by simp[valueAt,Yr,e']
   rw[i6 e,b];exact h2
  .have e':¬q.1=k:=λz=>e (h1.trans z)
   have b:valueAt (q::qs) k=valueAt qs k:=by simp[valueAt,Yr,e']
   rw[i7 e,b];exact ih
theorem KV.any(r:KV aw vs)(k:κ):(aw.any λkv=>decide (kv.1=k))=vs.any λkv=>decide (kv.1=k):=by
 unfold KV at r
 induction r with
 |nil=>rfl
 |cons h t ih=>rw[aaA,aaA,ih,h.1]
def KV.Gh(r:KV aw vs)(k:κ)(ry:RelV y u):
  KV (aw.map λkv=>if kv.1=k then(kv.1,y) else kv) (vs.map λkv=>if kv.1=k then(kv.1,u) else kv):=by
 unfold KV at r⊢
 induction r with
 |nil=>exact .nil
 |@cons p q ps qs h t ih=>
  rw[WJ,WJ]
  refine .cons ?_ ih
  obtain⟨h1,h2⟩:=h
  by_cases e:p.1=k
  .rw[WO e,WO (h1.symm.trans e)];exact⟨h1,ry⟩
  .rw[WV e,WV (λz=>e (h1.trans z))];exact⟨h1,h2⟩
def KV.put(r:KV aw vs)(k:κ)(ry:RelV y u):KV (jL aw k y) (stored vs k u):=by
 unfold jL stored
 rw[r.any k]
 by_cases e:(vs.any λkv=>decide (kv.1=k))=true
 .rw[WO e,WO e];exact r.Gh k ry
 .rw[WV e,WV e];exact Paired.snoc r ⟨rfl,ry⟩
def KV.keys{aw:List (κ×V)}{vs:List (κ×Value)}(r:KV aw vs):aw.map (·.1)=vs.map (·.1):=by
 unfold KV at r
 induction r with
 |nil=>rfl
 |cons h t ih=>rw[WJ,WJ,ih,h.1]
theorem KV.length(r:KV aw vs):aw.length=vs.length:=YJ r
end
def nX(r:RelV (kV k) u):(bg P w).is k u=true:=by
 cases k with
 |inl i=>obtain⟨t,e⟩:=(show∃t,u=Value.int i t from r);subst e;exact qd P w i t
 |inr x=>obtain⟨t,e⟩:=(show∃t,u=Value.str x t from r);subst e;exact qf P w x t
theorem nY:∀{ks:List cL}{us:List Value},aD (ks.map kV) us->ItemsAre (bg P w) ks us
 |[],_,r=>by rw[ZG]at r;cases r;exact .nil
 |k::ks,_,r=>by
  rw[WJ]at r
  cases r with
  |cons h t=>exact .cons (nX h) (nY t)
abbrev KT(H:Hp):List (List cL×V)->List (List cL×Addr×Value)->Prop:=Paired λp q=>p.1=q.1/\H q.2.1=some (.tup (p.1.map kV))/\RelV p.2 q.2.2
def KT.val{H:Hp}{aw:List (List cL×V)}{xs:List (List cL×Addr×Value)}(r:KT H aw xs)(k:List cL):mV (jK aw k) ((atKey xs k).map (·.2)):=by
 induction r with
 |nil=>exact True.intro
 |@cons p q ps qs h t ih=>
  refine cU h λh1 _ h2=>?_
  by_cases e:p.1=k
  .have e':q.1=k:=h1.symm.trans e
   have b:atKey (q::qs) k=some q.2:=by simp[atKey,Yr,e']
   rw[i6 e,b];exact h2
  .have e':¬q.1=k:=λz=>e (h1.trans z)
   have b:atKey (q::qs) k=atKey qs k:=by simp[atKey,Yr,e']
   rw[i7 e,b];exact ih
def KT.Gh(r:KT H aw xs)(k:List cL)(ry:RelV y u):
  KT H (aw.map λkv=>if kv.1=k then(kv.1,y) else kv) (xs.map (putAt k u)):=by
 induction r with
 |nil=>exact .nil
 |@cons p q ps qs h t ih=>
  rw[WJ,WJ]
  refine .cons ?_ ih
  refine cU h λh1 h2 h3=>?_
  unfold putAt
  by_cases e:p.1=k
  .rw[WO e,WO (h1.symm.trans e)];exact⟨h1,h2,ry⟩
  .rw[WV e,WV (λz=>e (h1.trans z))];exact⟨h1,h2,h3⟩
def KT.put(r:KT H aw xs)(k:List cL)(hb:H b=some (.tup (k.map kV)))(ry:RelV y u):
  KT H (jL aw k y) (storedH xs k b u):=by
 have e:(aw.any λkv=>decide (kv.1=k))=(atKey xs k).isSome :=by
  rw[qG,(r.val k).eV,ZR]
 unfold jL storedH
 rw[e]
 by_cases q:(atKey xs k).isSome =true
 .rw[WO q,WO q];exact r.Gh k ry
 .rw[WV q,WV q];exact Paired.snoc r ⟨rfl,hb,ry⟩
def KT.keeps(r:KT H aw xs)(ht:∀b ys,H b=some (.tup ys)->H' b=some (.tup ys)):KT H' aw xs:=
 Paired.Jf r λ_ _ z=>⟨z.1,ht _ _ z.2.1,z.2.2⟩
section
variable {P:Program}{w:World}{H:Hp}{h:Heap}{a:Addr}
def Et(ok:iB P w H h)(e:Rd H a u):aQ P w H h a u:=e.ok ok
def i8(ok:iB P w H h)(e:Rd H a (.dK aw)):aw.length<=sizeLine/\(a==sysModules)=false/\∃vs,KV aw vs/\h.DictOf (bg P w) a vs:=
 show aQ P w H h a (.dK aw) from Et ok e
def Eu(ok:iB P w H h)(e:H a=some (.dK aw)):aw.length<=sizeLine/\(a==sysModules)=false/\∃vs,KV aw vs/\h.DictOf (bg P w) a vs:=i8 ok (.inl e)
def jM(ok:iB P w H h)(e:H a=some (.tup (ks.map kV))):(tupleKind (bg P w)).is h ks a:=by
 refine au λnO=>?_
 obtain⟨_,its,r,o,h1,h2,⟨n,h3⟩,_⟩:=(show aQ P w H h a (.tup (ks.map kV)) from ok a _ e)
 exact nO<|⟨o,its.toArray,n,h1,h2,h3,by simpa using nY r⟩
def lQ(ok:iB P w H h)(e:Rd H a (.dT aw)):aw.length<=sizeLine/\(a==sysModules)=false/\
  ∃xs,KT H aw xs/\h.DictOfH (tupleKind (bg P w)) a xs:=by
 refine au λnO=>?_
 obtain⟨z,y,xs,r,o,es,ep,h1,h2,h3,h4,h5⟩:=(show aQ P w H h a (.dT aw) from Et ok e)
 refine nO ?_
 refine⟨z,y,xs,r,o,es,ep,h1,h2,h3,h4,λx hx=>?_,h5⟩
 have all:∀{l:List (List cL×V)}{m:List (List cL×Addr×Value)},KT H l m->∀x∈m,(tupleKind (bg P w)).is h x.1 x.2.1:=by
  intro l m q
  induction q with
  |nil=>intro x hx;exact nomatch hx
  |@cons p q ps qs hq t ih=>
   intro x hx
   rcases WG.mp hx with e|hx
   .subst e
    exact jM ok (by rw[<-hq.1];exact hq.2.1)
   .exact ih x hx
 exact all r x hx
def Ew(ok:iB P w H h)(e:H a=some (.dT aw)):aw.length<=sizeLine/\(a==sysModules)=false/\
  ∃xs,KT H aw xs/\h.DictOfH (tupleKind (bg P w)) a xs:=lQ ok (.inl e)
end
def pb(H:Hp)(a:Addr)(y:V)(r:Option V):Prop:=
 (∃aw k,Rd H a (.dK aw)/\y=kV k/\r=jK aw k)\/∃aw k b,Rd H a (.dT aw)/\y= .ref b/\H b=some (.tup (k.map kV))/\r=jK aw k
def Gi(H:Hp)(a:Addr)(y v:V)(H':Hp):Prop:=
 (∃aw k,H a=some (.dK aw)/\y=kV k/\aw.length<sizeLine/\H'=upd H a (.dK (jL aw k v)))\/
 ∃aw k b,H a=some (.dT aw)/\y= .ref b/\H b=some (.tup (k.map kV))/\aw.length<sizeLine/\H'=upd H a (.dT (jL aw k v))
section
variable {X:Cx}{aa:List (Addr×Obj)}{σ:St}{H:Hp}{s:Shared}{a:Addr}{y v:V}{u r:Value}{o:Option V}{A:Around}{E:Value->Shared->Prop}
def Inv.big(I:Inv X aa σ H s):sysModules<s.heap.objs.size:=by
 have h:mainGlobals<s.heap.objs.size:=(I.mod.glob.keeps I.bk).lt
 exact YX (by decide) h
def wC(hu:A.units+1<cLine)(I:Inv X aa σ H s)(g:pb H a y (some v))(ry:RelV y u)(h:∀w' s',Inv X aa σ H s'->RelV v w'->Q w' s'):
  wpAny (model X.prog X.w) A (getItem (.ref a) u) Q E s:=by
 rcases g with⟨aw,k,e,ey,l⟩|⟨aw,k,b,e,ey,eb,l⟩
 .refine au λnO=>?_
  subst ey
  obtain⟨z,hd,vs,eW,dd⟩:=i8 I.aR e
  exact ae (mV.some_of (v:=v) (o:=valueAt vs k) (by rw[l];exact eW.val k)) λw' hw ye=>nO<|wpAny_getItem_of (nX ry) dd.mapOf hw (h w' _ (I.tok _) ye)
 .subst ey
  cases (show u=Value.ref b from ry)
  refine au λnO=>?_
  obtain⟨z,hd,xs,eW,dd⟩:=lQ I.aR e
  refine ae (mV.some_of (v:=v) (o:=(atKey xs k).map (·.2)) (by rw[l];exact eW.val k)) λw' hw ye=>ae (Y4.mp hw) λp hp p_=>nO<|wpAny_getItem_heap (tupleKind_room_in1 hu) (jM I.aR eb) dd hp ?_
  rw[p_]
  exact h w' _ (I.tok _) ye
def OJ(hu:A.units+1<cLine)(I:Inv X aa σ H s)(g:pb H a y o)(ry:RelV y u)(h:∀s',Inv X aa σ H s'->Q (.bool o.isSome) s'):
  wpAny (model X.prog X.w) A (compareOp .In u (.ref a)) Q E s:=by
 rcases g with⟨aw,k,e,ey,l⟩|⟨aw,k,b,e,ey,eb,l⟩
 .refine au λnO=>?_
  subst ey
  obtain⟨z,hd,vs,eW,dd⟩:=i8 I.aR e
  refine nO<|wpAny_in_of (nX ry) hd dd.mapOf ?_
  rw[<-(eW.val k).eV,<-l]
  exact h _ (I.tok _)
 .subst ey
  cases (show u=Value.ref b from ry)
  refine au λnO=>?_
  obtain⟨z,hd,xs,eW,dd⟩:=lQ I.aR e
  refine nO<|wpAny_in_heap (tupleKind_room_in1 hu) (jM I.aR eb) hd dd ?_
  have q:=(eW.val k).eV
  rw[ZR]at q
  rw[<-q,<-l]
  exact h _ (I.tok _)
def BX(hu:A.units+1<cLine)(I:Inv X aa σ H s)(g:pb H a y o)(ry:RelV y u)(h:∀s',Inv X aa σ H s'->Q (.bool (!o.isSome)) s'):
  wpAny (model X.prog X.w) A (compareOp .NotIn u (.ref a)) Q E s:=by
 rcases g with⟨aw,k,e,ey,l⟩|⟨aw,k,b,e,ey,eb,l⟩
 .refine au λnO=>?_
  subst ey
  obtain⟨z,hd,vs,eW,dd⟩:=i8 I.aR e
  refine nO<|wpAny_notIn_of (nX ry) hd dd.mapOf ?_
  rw[<-(eW.val k).eV,<-l]
  exact h _ (I.tok _)
 .subst ey
  cases (show u=Value.ref b from ry)
  refine au λnO=>?_
  obtain⟨z,hd,xs,eW,dd⟩:=lQ I.aR e
  refine nO<|wpAny_notIn_heap (tupleKind_room_in1 hu) (jM I.aR eb) hd dd ?_
  have q:=(eW.val k).eV
  rw[ZR]at q
  rw[<-q,<-l]
  exact h _ (I.tok _)
def kN(I:Inv X aa σ H s)(mu:xN (H a))(hs:Heap.SameBut a s.heap h')(he:∃q,h'.get? a=some q)(new:aQ X.prog X.w (upd H a ob) h' a ob):
  Inv X aa σ (upd H a ob) {s with heap:=h',toks:=t'}:=
 I.write (x:=a) (e:=a) mu (.inl rfl) (λb q hb z=>(hs.2 b hb).trans z) he new
def yJ(z:aw.length<=sizeLine)(hd:(a==sysModules)=false)(eW:KV aw vs)(dd:h'.DictOf (bg P w) a vs):
  aQ P w H' h' a (.dK aw):=⟨z,hd,vs,eW,dd⟩
def wD(hu:A.units+1<cLine)(I:Inv X aa σ H s)(g:Gi H a y v H')(ry:RelV y u)(rv:RelV v r)(h:∀s',Inv X aa σ H' s'->Q () s'):
  wpAny (model X.prog X.w) A (setItem (.ref a) u r) Q E s:=by
 rcases g with⟨aw,k,e,ey,l,eH⟩|⟨aw,k,b,e,ey,eb,l,eH⟩
 .refine au λnO=>?_
  subst ey eH
  obtain⟨z,hd,vs,eW,dd⟩:=Eu I.aR e
  refine nO ?_
  have hz:vs.length<=sizeLine:=by rw[<-eW.length];exact z
  have hl:(jL aw k v).length <=sizeLine:=by have:=kj aw k v;lia
  refine wpAny_setItem_pairs (hsz:=hz) (nX ry) dd λh' BY hs=>h _ ?_
  have he:∃q,h'.get? a=some q:=let ⟨q,_,_,hq,_⟩:=BY;⟨q,hq⟩
  exact kN I (by rw[e];exact True.intro) hs he (yJ hl hd (eW.put k rv) BY)
 .subst ey eH
  cases (show u=Value.ref b from ry)
  refine au λnO=>?_
  obtain⟨z,hd,xs,eW,dd⟩:=Ew I.aR e
  refine nO ?_
  have hz:xs.length<=sizeLine:=by rw[<-YJ eW];exact z
  have hl:(jL aw k v).length <=sizeLine:=by have:=kj aw k v;lia
  refine wpAny_setItem_heap (hsz:=hz) (tupleKind_room_in1 hu) (jM I.aR eb) dd λh' BY hs=>h _<|au λnO=>Jb BY λq es ep hq h2 h3 h4 _ h5=>nO ?_
  refine kN I (by rw[e];exact True.intro) hs ⟨q,hq⟩ ⟨hl,hd,_,(eW.put k eb rv).keeps λc ys ec=>?_,q,es,ep,hq,h2,h3,h4,h5⟩
  rw[ao (fR ec e (λz=>nomatch z))]
  exact ec
end
def BZ(i:Expr):Prop:=∀ov iv,subscripted i false ov iv=operate [ov,iv] (getItem ov iv)
def B0{prog:Program}{w:World}{A:Around}{E:Value->Shared->Prop}{s:Shared}{env:Env}{value slice:Expr}{pos:Pos}{T id:String}{Q:Value->Shared->Prop}
  (hl:typeLookup (.type T) "__getitem__"=pure (some (.builtin id))) (hs:BZ slice)
  (h:wpAny (model prog w) A (eval value env) (λo aZ=>wpAny (model prog w) A (eval slice env) (λi lj=>lj.TypeIs o T/\wpAny (model prog w) A (getItem o i) Q E lj) E aZ) E s):
  wpAny (model prog w) A (eval (.Subscript value slice pos) env) Q E s:=by
 refine Subscript_ (X2 h (λo aZ BJ=>X2 BJ (λi lj yl=>?_) λ_ _ x=>x) λ_ _ x=>x)
 obtain⟨hT,yl⟩:=yl
 unfold subscriptTail
 refine Wn ?_
 rw[getitemInPython_of_ne hT.not_modules]
 refine Wn (Zu hT hl ?_)
 have fin:wpAny (model prog w) A (subscripted slice false o i) (λr wo=>wpAny (model prog w) A (letTemporaryGo value o r >>= λ_=>pure r) Q E wo) E lj:=by
  rw[hs o i]
  exact wpAny_operating (X2 yl (λr wo BK=>Wn (wpAny_letTemporaryGo (Wv BK))) λ_ _ x=>x)
 first
  |exact Wv (Wn fin)
  |exact Wn (Wv (Wn fin))
  |exact Wn fin
def qH(I:Inv X aa σ H s)(g:pb H a y o):s.TypeIs (.ref a) "dict":=by
 rcases g with⟨aw,k,e,_,_⟩|⟨aw,k,b,e,_,_,_⟩
 .obtain⟨_,_,vs,_,dd⟩:=i8 I.aR e
  exact dd.typeIs
 .obtain⟨_,_,xs,_,dd⟩:=lQ I.aR e
  exact dd.typeIs
def Kh(td ty:TE):TE:=λσ H Q=>td σ H λx H1=>ty σ H1 λy H2=>∃a v,x= .ref a/\pb H2 a y (some v)/\Q v H2
def OK(ty td:TE):TE:=λσ H Q=>ty σ H λy H1=>td σ H1 λx H2=>∃a o,x= .ref a/\pb H2 a y o/\Q (.bl o.isSome) H2
def B1(ty td:TE):TE:=λσ H Q=>ty σ H λy H1=>td σ H1 λx H2=>∃a o,x= .ref a/\pb H2 a y o/\Q (.bl (!o.isSome)) H2
def uq(td ty tv:TE):TS:=λD σ H=>tv σ H λv H1=>td σ H1 λx H2=>ty σ H2 λy H3=>∃a H4,x= .ref a/\Gi H3 a y v H4/\D.nx σ H4
section
variable {X:Cx}{o i e value:Expr}{pos qj tpos:Pos}{td ty tv:TE}
def B3(hu:X.A.units+1<cLine)(ho:PE X o td)(hi:PE X i ty)(hs:BZ i):PE X (.Subscript o i pos) (Kh td ty):=by
 intro aa s σ H Q I h
 refine B0 PySem.F.slot_dict_getitem.lookup hs (bI (ho aa s σ H _ I h) λu s1 zz=>bC zz λx H1 I1 rx q1=>bI (hi aa s1 σ H1 _ I1 q1) λiv s2 zz=>?_)
 refine au λnO=>?_
 obtain⟨y,H2,I2,ry,a,v,ex,g,q2⟩:=zz
 subst ex
 refine nO ?_
 obtain rfl:u=Value.ref a:=rx
 exact⟨qH I2 g,wC hu I2 g ry λw' s3 I3 ye=>⟨v,H2,I3,ye,q2⟩⟩
def Gj(hu:X.A.units+1<cLine)(hi:PE X i ty)(ho:PE X o td):PC X .In i o (OK ty td):=by
 intro aa s σ H Q I h
 refine bI (hi aa s σ H _ I h) λiv s1 zz=>bC zz λy H1 I1 ry q1=>bI (ho aa s1 σ H1 _ I1 q1) λu s2 zz=>au λnO=>?_
 obtain⟨x,H2,I2,rx,a,ov,ex,g,q2⟩:=zz
 subst ex
 refine nO ?_
 obtain rfl:u=Value.ref a:=rx
 exact OJ hu I2 g ry λs3 I3=>⟨.bl ov.isSome,H2,I3,rfl,q2⟩
def wF(hu:X.A.units+1<cLine)(hi:PE X i ty)(ho:PE X o td):PC X .NotIn i o (B1 ty td):=by
 intro aa s σ H Q I h
 refine bI (hi aa s σ H _ I h) λiv s1 zz=>bC zz λy H1 I1 ry q1=>bI (ho aa s1 σ H1 _ I1 q1) λu s2 zz=>au λnO=>?_
 obtain⟨x,H2,I2,rx,a,ov,ex,g,q2⟩:=zz
 subst ex
 refine nO ?_
 obtain rfl:u=Value.ref a:=rx
 exact BX hu I2 g ry λs3 I3=>⟨.bl (!ov.isSome),H2,I3,rfl,q2⟩
def ur(hu:X.A.units+1<cLine)(ho:PE X o td)(hi:PE X i ty)(hv:PE X value tv)(hs:swapsWith value (some (.Subscript o i qj)) pos.line X.env=pure false):
  PS X (.Assign [.Subscript o i qj] value pos) (uq td ty tv):=by
 intro aa s σ H D I h
 refine wpAny_Assign_Subscript (bI (hv aa s σ H _ I h) λr s1 ⟨v,H1,I1,rv,q1⟩=>bI (ho aa s1 σ H1 _ I1 q1) λu s2 ⟨x,H2,I2,rx,q2⟩=>bI (hi aa s2 σ H2 _ I2 q2) λiv s3 ⟨y,H3,I3,ry,a,H4,ex,g,q3⟩=>?_) hs
 subst ex
 obtain rfl:u=Value.ref a:=rx
 exact wD hu I3 g ry rv λs4 I4=>⟨σ,H4,I4,q3⟩
end
def yK(h:Heap)(hb:sysModules<h.objs.size):aQ P w H (h.push {cls:= .type "dict",data:= .dict #[]}) h.objs.size (.dK []):=
 ⟨XF _,beq_eq_false_iff_ne.mpr (Xt (W2 hb)),[],.nil,Heap.DictOf.new h⟩
def yL(h:Heap)(hb:sysModules<h.objs.size):aQ P w H (h.push {cls:= .type "dict",data:= .dict #[]}) h.objs.size (.dT []):=
 ⟨XF _,beq_eq_false_iff_ne.mpr (Xt (W2 hb)),[],.nil,_,#[],0,WB _ rfl,⟨rfl,rfl,rfl⟩,rfl,rfl,List.nodup_nil⟩
section
variable {X:Cx}{pos:Pos}
end
def TZ(H:Hp)(a:Addr):Prop:=(∃aw,Rd H a (.dK aw))\/∃aw,Rd H a (.dT aw)
def Gk(I:Inv X aa σ H s)(d:TZ H a):
  s.TypeIs (.ref a) "dict"/\(∀b,Value.ref a= .ref b->∃ob,s.heap.get? b=some ob/\ob.dict=none)/\(a==sysModules)=false:=by
 rcases d with⟨aw,e⟩|⟨aw,e⟩
 .refine au λnO=>?_
  obtain⟨_,hd,vs,_,dd⟩:=i8 I.aR e
  refine nO ?_
  refine⟨dd.typeIs,λb q=>?_,hd⟩
  refine au λnO=>?_
  cases q
  exact c7 dd λob _ _ h1 h2 _=>nO<|⟨ob,h1,h2.2.1⟩
 .refine au λnO=>?_
  obtain⟨_,hd,xs,_,dd⟩:=lQ I.aR e
  refine nO ?_
  refine⟨dd.typeIs,λb q=>?_,hd⟩
  refine au λnO=>?_
  cases q
  exact c7 dd λob _ _ h1 h2 _=>nO<|⟨ob,h1,h2.2.1⟩
section
variable {X:Cx}{aa:List (Addr×Obj)}{σ:St}{H:Hp}{s:Shared}{a:Addr}{y d:V}{u r:Value}{o:Option V}{A:Around}{E:Value->Shared->Prop}
end
section
variable {X:Cx}{o e f:Expr}{m5 fY:Pos}{td ty tx:TE}
end
end L2
namespace bU
open PySem PyProof.Rows
abbrev SM:=StateT SortSt Sem
noncomputable def cc:Bool->Keyed->Array Keyed->Nat->Nat->Nat->SM (Option Nat):=sortPriv% PySem.Builtin.gallop
noncomputable def lR:Array Keyed->Array Keyed->SM (Array Keyed):=sortPriv% PySem.Builtin.mergeLo
noncomputable def lS:Array Keyed->Array Keyed->SM (Array Keyed):=sortPriv% PySem.Builtin.mergeHi
noncomputable abbrev setG(zt:SortSt)(g:Nat):SortSt:=SortSt.mk' (kindOf zt) (arrOf zt) (pendingOf zt) g (failedOf zt)
noncomputable def bj(g:Nat):SM Unit:=modify λs=>setG s g
noncomputable def eA(left:Bool)(key:Keyed)(arr:Array Keyed)(base i:Nat):SM (Option Bool):=do {let x<-elem' arr (base+i);if left then lt' x key else return (<-lt' key x).map (!·)}
section
variable {prog:Program}{w:World}{A:Around}{E:Value->Shared->Prop}{s:Shared}{κ:SortKind}{P:Keyed->Prop}
def bu(hi:i<arr.size)(q:Q arr[i] zt):wpS (model prog w) A E s (elem' arr i) Q zt:=by
 rw[elem'_eq,W5 hi]
 exact wpS_pure q
structure Sm(zt ak:SortSt):Prop where
 k:kindOf ak=kindOf zt
 a:arrOf ak=arrOf zt
 p:pendingOf ak=pendingOf zt
 f:failedOf ak=failedOf zt
def Sm.rfl':Sm zt zt:=⟨rfl,rfl,rfl,rfl⟩
theorem Sm.setG(h:Sm zt ak):Sm zt (setG ak g):=⟨h.k,h.a,h.p,h.f⟩
def Pt(a b out:Array Keyed)(i j:Nat):Prop:=out.toList.Perm (a.toList.take i++b.toList.take j)
def dC(X Y Z:List α):((X++Y)++Z).Perm ((X++Z)++Y):=by
 rw[WZ,WZ]
 exact Yj X aag
section
variable {a b out:Array Keyed}{i j k:Nat}
def eX(a:Array Keyed):a.toList.take i++(a.extract i (i+k)).toList =a.toList.take (i+k):=by
 rw[X']
 unfold List.extract
 rw[show i+k-i=k by lia,List.take_add]
def Pt.ph(h:Pt a b out i j):Pt a b (out++b.extract j (j+k)) i (j+k):=by
 unfold Pt at h⊢
 rw[WL,<-eX b,<-WZ]
 exact h.append_right _
def Pt.pj(h:Pt a b out i j):Pt a b (out++a.extract i (i+k)) (i+k) j:=by
 unfold Pt at h⊢
 rw[WL,<-eX a]
 exact(h.append_right _).trans (dC _ _ _)
def gP(hi:i<a.size):(a.extract i (i+1)).toList =[a[i]]:=by
 rw[X']
 unfold List.extract
 have iV:i<a.toList.length:=by simpa using hi
 rw[show i+1-i=1 by lia,Xs iV]
 simp
def uu(a:Array Keyed)(hi:i<=a.size):a.toList.take i++(a.extract i a.size).toList =a.toList:=by
 have:=eX a (i:=i) (k:=a.size-i)
 rw[show i+(a.size-i)=a.size by lia]at this
 rw[this]
 exact Xg (by simp)
def Pt.done(h:Pt a b out i j)(hi:i<=a.size)(hj:j<=b.size):((out++a.extract i a.size)++b.extract j b.size).toList.Perm (a.toList++b.toList):=by
 unfold Pt at h
 rw[WL,WL]
 refine((h.append_right _).append_right _).trans<|((dC _ _ _).append_right _).trans ?_
 rw[uu a hi,WZ,uu b hj]
def Pt.last(h:Pt a b out i j)(hi:i<=a.size)(hj:j<=b.size):((out++b.extract j b.size)++a.extract i a.size).toList.Perm (a.toList++b.toList):=by
 refine List.Perm.trans ?_ (h.done hi hj)
 simp only[WL]
 exact dC _ _ _
end
def f_[Decidable c](t:c->wpS (model prog w) A E s x Q zt)(f:¬c->wpS (model prog w) A E s y Q zt):wpS (model prog w) A E s (if c then x else y) Q zt:=by
 split
 .exact t ‹_›
 .exact f ‹_›
def Ph(a b out:Array Keyed)(i j:Nat):Prop:=((a.toList.take i++b.toList.take j)++out.toList).Perm (a.toList++b.toList)
section
variable {a b out:Array Keyed}{i j k:Nat}
def qI(a:Array Keyed)(h:k<=i):a.toList.take k++(a.extract k i).toList =a.toList.take i:=by
 have:=eX a (i:=k) (k:=i-k)
 rwa [show k+(i-k)=i by lia]at this
def dI(a:Array Keyed):(a.extract 0 i).toList =a.toList.take i:=by
 rw[X']
 unfold List.extract
 simp
def Ph.pj(h:Ph a b out i j)(hk:k<=i)(_:i<=a.size):Ph a b (out++(a.extract k i).reverse) k j:=by
 unfold Ph at h⊢
 refine List.Perm.trans ?_ h
 rw[WL,XA,<-qI a hk,<-WZ]
 exact(Yj _ (ZS _)).trans<|(dC _ _ _).trans<|(dC _ _ _).append_right _
def Ph.ph(h:Ph a b out i j)(hk:k<=j)(_:j<=b.size):Ph a b (out++(b.extract k j).reverse) i k:=by
 unfold Ph at h⊢
 refine List.Perm.trans ?_ h
 rw[WL,XA,<-qI b hk,<-WZ,<-WZ]
 exact(Yj _ (ZS _)).trans<|dC _ _ _
def i9(h1:1<=i)(hi:i-1<a.size):(a.extract (i-1) i).toList =[a[i-1]]:=by
 have:=gP (a:=a) (i:=i-1) hi
 rwa [show i-1+1=i by lia]at this
def Ph.done(h:Ph a b out i j):((a.extract 0 i++b.extract 0 j)++out.reverse).toList.Perm (a.toList++b.toList):=by
 unfold Ph at h
 refine List.Perm.trans ?_ h
 rw[WL,WL,dI,dI,XA]
 exact Yj _ (ZS _)
def Ph.first(h:Ph a b out i j):((b.extract 0 j++a.extract 0 i)++out.reverse).toList.Perm (a.toList++b.toList):=by
 refine List.Perm.trans ?_ h.done
 simp only[WL]
 exact aag.append_right _
end
end
section
variable {prog:Program}{w:World}{A:Around}{E:Value->Shared->Prop}{s:Shared}{κ:SortKind}{P:Keyed->Prop}
structure Ar(zt ak:SortSt):Prop where
 k:kindOf ak=kindOf zt
 a:(arrOf ak).Perm (arrOf zt)
 p:pendingOf ak=pendingOf zt
 f:failedOf ak=failedOf zt
def Ar.rfl':Ar zt zt:=⟨rfl,Zv _,rfl,rfl⟩
def Ar.set(h:Ar zt ak)(hx:x.Perm (arrOf ak)):Ar zt (setArr ak x):=⟨h.k,hx.trans h.a,h.p,h.f⟩
theorem Ar.size(h:Ar zt ak):(arrOf ak).size =(arrOf zt).size :=h.a.size_eq
def Ar.all(h:Ar zt ak)(hp:∀x∈arrOf zt,P x):∀x∈arrOf ak,P x:=λx hx=>hp x (h.a.mem_iff.mp hx)
def uw(q:Q () (setArr zt (mirror (arrOf zt) i j ((j-i)/2)))):wpS (model prog w) A E s (reverseSlice' i j) Q zt:=by
 rw[reverseSlice'_eq]
 exact wpS_modify q
def qJ(i:Nat):mergeAt' i=(do
  let s<-get
  let (some (sa,na,power),some (sb,nb,_)):=((pendingOf s)[i]?,(pendingOf s)[i+1]?)|unsupported "internal:list.sort.pending"
  set (setPending s (((pendingOf s).setIfInBounds i (sa,na+nb,power)).eraseIdxIfInBounds (i+1)))
  let some k<-cc false (<-elem' (arrOf s) sb) (arrOf s) sa na 0|return false
  let (sa,na):=(sa+k,na-k)
  if na==0 then return true
  let some nb<-cc true (<-elem' (arrOf s) (sa+na-1)) (arrOf s) sb nb (nb-1)|return false
  if nb==0 then return true
  let x:=(arrOf s).extract sa sb
  let y:=(arrOf s).extract sb (sb+nb)
  let merged<-if na<=nb then lR x y else lS x y
  modify λs=>setArr s (merged.toList.zipIdx.foldl (λa (p,j)=>a.setIfInBounds (sa+j) p) (arrOf s))
  return (failedOf (<-get)).isNone):=rfl
def B4{σ:Type}{M:Model}{zt ak:σ}{Q:PUnit->σ->Prop}(h:Q ⟨⟩ ak):wpS M A E s (set ak:StateT σ Sem PUnit) Q zt:=by
 unfold wpS
 rw[StateT.run_set]
 exact Wv ⟨rfl,h⟩
theorem pv:∀(ms:List Keyed) (o j:Nat) (a:Array Keyed),o+j+ms.length<=a.size->
  ((ms.zipIdx j).foldl (λa (p:Keyed×Nat)=>a.setIfInBounds (o+p.2) p.1) a).toList =a.toList.take (o+j)++ms++a.toList.drop (o+j+ms.length)
 |[],o,j,a,h=>by simp
 |m::ms,o,j,a,h=>by
  rw[WM]at h
  rw[List.zipIdx_cons,List.foldl_cons,pv ms o (j+1) _ (by rw[Array.size_setIfInBounds];lia)]
  have e:(a.setIfInBounds (o+j) m).toList =a.toList.set (o+j) m:=YL ..
  have hl:o+j<a.toList.length:=by rw[Wy];lia
  rw[e,List.set_eq_take_append_cons_drop,WO hl,WM]
  have ht:(List.take (o+j) a.toList).length =o+j:=by rw[XO];lia
  have e5:(a.toList.take (o+j)++m::a.toList.drop (o+j+1)).take (o+(j+1))=a.toList.take (o+j)++[m]:=by
   rw[List.take_append,ht,show o+(j+1)-(o+j)=1 by lia,Xg (by rw[ht];lia)]
   rfl
  have e6:(a.toList.take (o+j)++m::a.toList.drop (o+j+1)).drop (o+(j+1)+ms.length)=a.toList.drop (o+j+(ms.length+1)):=by
   rw[List.drop_append,ht,show o+(j+1)+ms.length-(o+j)=ms.length+1 by lia,List.drop_of_length_le (by rw[ht];lia),XJ,List.drop_succ_cons,ZJ]
   congr 1
   lia
  rw[e5,e6]
  simp
def ux{a:Array Keyed}{i j:Nat}{x:Keyed}(h:x∈a.extract i j):x∈a:=by
 rw[<-Ya,X']at h
 unfold List.extract at h
 exact Ya.mp (Ym (Yb h))
def Ki[Decidable c](h1:x+1<n)(h2:y+1<n):(if c then x else y)+1<n:=by split<;>assumption
end
open PySem.W
def jN(h:Heap)(v:Value):Prop:=∃(x:Addr) (o:Obj) (xs:List Value) (n:Nat) (i:Int) (r:List Int),v= .ref x/\h.get? x=some o/\o.cls= .type "tuple"/\o.data= .seq xs.toArray n/\IntsAre xs (i::r)
section
variable {prog:Program}{w:World}{A:Around}{E:Value->Shared->Prop}{s:Shared}
theorem kl:∀{vs:List Value},(∀v∈vs,jN h v)->∃fs,KatTups h vs fs/\(∀f∈fs,∃i t,f=Value.int i t)/\fs.length=vs.length
 |[],_=>⟨[],.nil,λ_ z=>(nomatch z),rfl⟩
 |v::vs,hv=>by
  refine bL (kl (vs:=vs) λz hz=>hv z (Wu _ hz)) λfs h1 h2 h3=>Iz (hv v Wx) λx o xs n i r aj g1 g2 g3 g4=>?_
  subst aj
  cases g4 with
  |cons _ t g5=>exact⟨_,.cons g1 g2 g3 rfl h1,λf hf=>(WG.mp hf).elim (λz=>⟨i,t,z⟩) (h2 f),by rw[WM,WM,h3]⟩
def qK(vs:List Value):(vs.toArray.zip vs.toArray).map (λp:Keyed=>p.2)=vs.toArray:=by
 apply Array.toList_inj.mp
 rw[YU,Array.toList_zip]
 exact Z7 (WE _)
end
end bU
namespace L2
open PySem PySem.Spec PyProof.Rows
def gb(h:Heap)(d:Addr)(es:Array DictEntry)(ep:Nat):Prop:=∃o,h.get? d=some o/\o.ExactDict/\o.data= .dict es ep
def gb.ty{s:Shared}{d:Addr}{es:Array DictEntry}{ep:Nat}(r:gb s.heap d es ep):s.TypeIs (.ref d) "dict":=let ⟨o,e,c,_⟩:=r;⟨o,e,c.1⟩
def gb.on(r:gb h d es ep)(k:∀o,h.get? d=some o->h'.get? d=some o):gb h' d es ep:=let ⟨o,e,c⟩:=r;⟨o,k o e,c⟩
def gb.lt{h:Heap}{d:Addr}{es:Array DictEntry}{ep:Nat}(r:gb h d es ep):d<h.objs.size:=let ⟨_,e,_⟩:=r;WH e
section
variable {prog:Program}{w:World}{A:Around}{E:Value->Shared->Prop}{s:Shared}{d:Addr}{es:Array DictEntry}{ep:Nat}
end
open PySem.W
section
variable {prog:Program}{w:World}{A:Around}{E:Value->Shared->Prop}{s:Shared}{d it:Addr}{es:Array DictEntry}{ep i:Nat}
def qL(hm:(d==sysModules)=false)(r:gb s.heap d es ep)(h:Q (.ref s.heap.objs.size) {s with heap:=s.heap.push {cls:= .type "dict_keyiterator",data:= .fields #[.ref d,.int 0 0,.int es.size 0,.int ep 0]}}):
  wpAny (model prog w) A (pyIter (.ref d)) Q E s:=by
 have T:=r.ty
 refine bL r λo e c dt=>Y9 T F.slot_dict_iter (Xb F.slot_dict_iter T F.entry_dict_iter ?_ (F.args_dict_iter_1 _))
 unfold Builtin.«dict.__iter__» Builtin.Dict.dictSlotNone
 refine Wn (Wn (wpAny_notOrdered_dict T ?_))
 show wpAny _ _ (pure (Value.ref d)) _ _ s
 refine Wv ?_
 show wpAny _ _ (Builtin.Dict.showsAll d >>= λ_=>_) _ _ s
 unfold Builtin.Dict.showsAll
 rw[WV (by rw[hm];exact Wt)]
 refine Wn (Wv (Wn (ZT e dt (Wn (aah e dt ?_)))))
 refine Wn (W_ (Wv ⟨_,rfl,"dict_keyiterator",_,⟨_,WB _ rfl,rfl⟩,XU.lookup,?_⟩))
 simpa[rawInt]using h
def qM(k:s.heap.IsKeyIter it d i es.size ep)(r:gb s.heap d es ep)(hi:i<es.size)
  (h:∀h',h'.IsKeyIter it d (i+1) es.size ep->Heap.SameBut it s.heap h'->Q (some es[i].key) {s with heap:=h'}):wpAny (model prog w) A (pyNext (.ref it)) Q E s:=by
 have T:=k.typeIs
 refine bL (id k) λoi ei ci di=>bL r λo e c dt=>?_
 unfold pyNext
 refine Wn (Yu (Xi (name:=Str.ofString "__next__") T XU (Xb XU T Zj ?_ (Ze _))))
 refine Wn (Wv (Wn (Wn ?_)))
 first|refine Wn (X9 T (Wv (Wn (YR ei di ?_))))|refine Wn (Ys T (Wv (Wn (YR ei di ?_))))
 have own:Builtin.Dict_items.ownsTuple "dict_keyiterator"=false:=by decide
 simp only[own,XB,if_false]
 show wpAny _ _ (if(Value.ref d==Value.none)=true then _ else _) _ _ s
 rw[WV (show¬((Value.ref d==Value.none)=true) from Wt)]
 refine Wn (Wv (Wn (ZT e dt ?_)))
 rw[WV (by simp)]
 refine Wn (Wv (Wn (aah e dt ?_)))
 rw[WV (by simp)]
 refine Wv ?_
 simp only[show¬((i:Int)<0) from by lia,if_false,Xz,W5 hi]
 refine Wn ?_
 first|refine Wn (X9 T (Wv (Wn (Zf T ?_))))|refine Wn (Ys T (Wv (Wn (Zf T ?_))))
 show wpAny _ _ (setField (.ref it) 1 (rawInt ((i:Int)+1)) >>= λ_=>_) _ _ s
 refine Wn (XX ei di (by simp) ?_)
 have k':(s.heap.update it (Obj.mapFields (·.setIfInBounds 1 (rawInt ((i:Int)+1))))).IsKeyIter it d (i+1) es.size ep:=
  ⟨_,Xp _ ei (X7 (Xq di _)),(YK ..).trans ci,by rw[Xq di];simp[rawInt]⟩
 refine Wn (Xf (Wn (Zf (s:={s with heap:=s.heap.update it (Obj.mapFields (·.setIfInBounds 1 (rawInt ((i:Int)+1))))}) k'.typeIs ?_)))
 show wpAny _ _ (pure es[i].key) _ _ _
 exact Wv (Wv ⟨_,rfl,Wv (h _ k' (Xh ..))⟩)
def uy(hh:A.handled=none)(k:s.heap.IsKeyIter it d es.size es.size ep)(r:gb s.heap d es ep)(h:∀h',Heap.ExtBut it s.heap h'->Q none {s with heap:=h'}):wpAny (model prog w) A (pyNext (.ref it)) Q E s:=by
 have T:=k.typeIs
 refine bL (id k) λoi ei ci di=>bL r λo e c dt=>?_
 unfold pyNext
 refine Wn (Yu (Xi (name:=Str.ofString "__next__") T XU (Xb XU T Zj ?_ (Ze _))))
 refine Wn (Wv (Wn (Wn ?_)))
 first|refine Wn (X9 T (Wv (Wn (YR ei di ?_))))|refine Wn (Ys T (Wv (Wn (YR ei di ?_))))
 have own:Builtin.Dict_items.ownsTuple "dict_keyiterator"=false:=by decide
 simp only[own,XB,if_false]
 show wpAny _ _ (if(Value.ref d==Value.none)=true then _ else _) _ _ s
 rw[WV (show¬((Value.ref d==Value.none)=true) from Wt)]
 refine Wn (Wv (Wn (ZT e dt ?_)))
 rw[WV (by simp)]
 refine Wn (Wv (Wn (aah e dt ?_)))
 rw[WV (by simp)]
 refine Wv ?_
 simp only[show¬((es.size:Int)<0) from by lia,if_false,Xz,Y5 (WE es.size)]
 refine Wn ?_
 first|refine Wn (X9 T (Wv ?c))|refine Wn (Ys T (Wv ?c))
 case c=>
  show wpAny _ _ (setField (.ref it) 0 .none >>= λ_=>_) _ _ s
  refine Wn (XX ei di (by simp) ?_)
  show wpAny _ _ (newExc (.type "StopIteration") [] >>= λ_=>_) _ _ _
  refine Wn ?_
  simp only[newExc,newTuple]
  refine Wn (W_ (Wn (m:=firstArgMember _ _) (Zt (a:=Value.none) (by first|rfl|(simp only[firstArgMember];rfl)) (W_ ?_ (by size_fits)))) (by size_fits))
  simp only[raiseNew]
  refine Wn (Z3 ?_)
  rw[show A.in1.handled=none from hh]
  refine(Wn (Wv (aau ?_)))
  refine(Wn (Zk (T:="StopIteration") (b:=true) ⟨_,WB _ rfl,rfl⟩ isSubtype_stop ?_))
  exact Wv (h _ (((Xh ..).extBut.push _).push _))
def qN(k:s.heap.IsKeyIter it d i n ep)(h:Q (.ref it) s):wpAny (model prog w) A (pyIter (.ref it)) Q E s:=wpAny_pyIter_keyiter k h
def wG(hh:A.handled=none)(it d:Addr)(eU:d≠it)(es:Array DictEntry)(ep:Nat):Walks prog w A it [it,d] [it] es.size (λi v=>∃e,es[i]?=some e/\v=e.key) (λi h=>h.IsKeyIter it d i es.size ep/\gb h d es ep) where
 sub:=λb hb=>by simp at hb;simp[hb]
 frame:=λ_ _ _ st hk=>⟨st.1.at λo e=>hk it (by simp) o e,st.2.on λo e=>hk d (by simp) o e⟩
 item:=λi s Q E hi st hQ=>qM st.1 st.2 hi λh' k' hs=>hQ _ h' s.toks ⟨_,W5 hi,rfl⟩ ⟨k',st.2.on λo e=>hs.extBut d o eU e⟩ λb o hb e=>hs.extBut b o (λz=>hb (by simp[z])) e
 done:=λs Q E st hQ=>uy hh st.1 st.2 λh' he=>hQ h' s.toks λb o hb e=>he b o (λz=>hb (by simp[z])) e
 self:=λ_ _ _ _ st hQ=>qN st.1 hQ
def uz(lo:(d==sysModules)=false):KdlSrc prog w "dict" d d es.size (λi v=>∃e,es[i]?=some e/\v=e.key) (λh=>gb h d es ep) where
 type:=λ_ r=>r.ty
 there:=λ_ r=>⟨r.lt,r.lt⟩
 keep:=λ_ _ r hk=>r.on λo e=>hk d (.inl rfl) o e
 notList:=by decide
 notTuple:=by decide
 hint:=λ_ _ _ _ r hq=>kdl_hint_dict r.ty hq
 iter:=λA s hh r=>⟨_,λi h=>h.IsKeyIter s.heap.objs.size d i es.size ep/\gb h d es ep,(λ_ _ hq=>qL lo r hq),wG hh _ d (W2 r.lt) es ep,⟨⟨_,WB _ rfl,rfl,rfl⟩,r.on λo e=>Wo _ e⟩⟩
end
def tj(I:Inv X aa σ H s)(e:Rd H a (.dK aw)):∃es ep,gb s.heap a es ep/\es.size=aw.length/\(a==sysModules)=false/\aw.length<=sizeLine/\∀(i:Nat) (kv:cL×V),aw[i]?=some kv->∃en,es[i]?=some en/\RelV (kV kv.1) en.key:=by
 refine au λnO=>?_
 obtain⟨z,lo,vs,eW,o,es,ep,h1,h2,h3,h4,h5,h6⟩:=i8 I.aR e
 refine nO ?_
 have hl:es.size=aw.length:=by rw[eW.length,<-h5.length];simp
 refine⟨es,ep,⟨o,h1,h2,h3⟩,hl,lo,z,λi kv hi=>?_⟩
 have bQ:i<aw.length:=(WK.mp hi).1
 have yE:i<es.size:=by lia
 have Rr:i<vs.length:=by rw[<-eW.length];exact bQ
 refine⟨es[i],W5 yE,?_⟩
 have hk:=(h5.get? (e:=es[i]) (k:=vs[i].1) (v:=vs[i].2) (i:=i) (by rw[Xe];exact W5 yE) (Wq Rr)).1
 have he:vs[i].1 =kv.1:=by
  have:=congrArg (λl:List cL=>l[i]?) eW.keys
  simp only[WI,hi,Wq Rr,YZ]at this
  exact(WU this).symm
 rw[he]at hk
 rcases bh (show k_ kv.1 es[i].key =true from hk)with⟨n,t,e1,e2⟩|⟨x,t,e1,e2⟩
 .rw[e1,e2];exact⟨t,rfl⟩
 .rw[e1,e2];exact⟨t,rfl⟩
section
variable {X:Cx}
end
noncomputable def OL(a:Addr)(o:Obj)(aw:List (cL×V)):It:=
 ⟨λi H=>H a=some (.dn o (.dK aw))/\i<aw.length,λi H x H'=>H'=H/\(aw[i]?).map (λkv=>kV kv.1)=some x,λi H=>H a=some (.dn o (.dK aw))/\i=aw.length⟩
def uA(I:Inv X aa σ H s)(e:H a=some (.dn o (.dK aw)))(hd:o.data= .dict es ep):
  gb s.heap a es ep/\es.size=aw.length/\∀(i:Nat) (kv:cL×V),aw[i]?=some kv->∃en,es[i]?=some en/\RelV (kV kv.1) en.key:=by
 refine au λnO=>kc (tj I (.inr ⟨o,e⟩)) λsj Fj r1 r2 _ _ r5=>?_
 have ho:s.heap.get? a=some o:=(show aQ X.prog X.w H s.heap a (.dn o (.dK aw)) from I.aR a _ e).1
 refine bL (id r1) λo' g1 g2 g3=>?_
 rw[ho]at g1
 cases g1
 rw[hd]at g3
 cases g3
 exact nO<|⟨r1,r2,r5⟩
def B5{P:Program}{w:World}{K:PySem.W.Frag}{tg:Expr}(a it:Addr)(eU:a≠it)(o:Obj)(aw:List (cL×V))(es:Array DictEntry)(ep:Nat)(hd:o.data= .dict es ep):oP P w K tg (OL a o aw) [it] it (λi h=>h.IsKeyIter it a i es.size ep) where
 mem:=by simp
 obj:=λi h st b hb=>by
  have e:b=it:=by simpa using hb
  refine au λnO=>?_
  subst e
  exact bL st λo e c d=>nO<|⟨o,e,λv z=>by rw[d]at z;cases z⟩
 keep:=λi h h' st k=>st.at λo e=>k it (by simp) o e
 item:=by
  intro X hP hw hK hc i aa s σ H E I hf st hg
  refine au λnO=>?_
  subst hP hw hK
  obtain⟨e1,e2⟩:=hg
  refine cU (uA I e1 hd) λr1 r2 r3=>rZ (hf it (by simp)) λf0 f1 f2 f3 f4 f5=>?_
  have hi:i<es.size:=by lia
  refine ae (r3 i aw[i] (Wq e2)) λen n1 n2=>?_
  rw[W5 hi]at n1
  cases n1
  refine nO<|qM st r1 hi λh' k' hs=>?_
  have I1:Inv X aa σ H {s with heap:=h'}:=I.turned (t':=s.toks) (λb o hb e=>(hs.2 b hb).trans e) f0 f1 f3 f4 f5
  exact au λnO=>bL (id k') λoi g1 g2 g3=>nO<|⟨_,rfl,nH (s:={s with heap:=h'}) g1 g2 g3 (by decide) ⟨_,H,I1,n2,⟨rfl,by rw[Wq e2];rfl⟩,k',λb hb=>(hf b hb).1⟩⟩
 done:=by
  intro X hP hw hK hc i aa s σ H E I hf st hg
  refine au λnO=>?_
  subst hP hw hK
  obtain⟨e1,e2⟩:=hg
  refine cU (uA I e1 hd) λr1 r2 r3=>rZ (hf it (by simp)) λf0 f1 f2 f3 f4 f5=>?_
  have e:i=es.size:=by lia
  subst e
  exact nO<|uy (I.ok.hd hc) st r1 λh' eb=>⟨rfl,I.turned (t':=s.toks) (λb o hb e=>eb b o hb e) f0 f1 f3 f4 f5⟩
 self:=λ_ _ _ _ _ st h=>qN st h
section
variable {X:Cx}{tg:Expr}
def T1(tl:TE):TI:=λσ H R=>tl σ H λx H1=>∃a o aw,x= .ref a/\H1 a=some (.dn o (.dK aw))/\R (OL a o aw) H1
def Kj{l:Expr}{tl:TE}(hl:PE X l tl):PI X tg l (T1 tl):=by
 intro aa s σ H R I h
 refine bI (hl aa s σ H _ I h) λv s1 zz=>bC zz λx H1 I1 r1 q1=>c7 q1 λa o aw e hq q=>?_
 subst e
 cases r1
 refine kc (tj I1 (.inr ⟨o,hq⟩)) λes ep g1 g2 g3 g4 g5=>?_
 have ho:s1.heap.get? a=some o:=(show aQ X.prog X.w H1 s1.heap a (.dn o (.dK aw)) from I1.aR a _ hq).1
 have hd:o.data= .dict es ep:=by
  refine bL (id g1) λo' z1 z2 z3=>?_
  rw[ho]at z1
  cases z1
  exact z3
 refine qL g3 g1 ?_
 refine⟨s1.heap.objs.size,[s1.heap.objs.size],_,_,H1,rfl,I1.kept (t':=s1.toks) λb o e=>Wo _ e,B5 a _ (W2 (WH ho)) o aw es ep hd,⟨_,WB _ rfl,rfl,rfl⟩,λb hb=>?_,q⟩
 have e:b=s1.heap.objs.size:=by simpa using hb
 subst e
 exact I1.so (WE _) (I1.aR.fresh (WE _))
def Kk(tk tv:TE):TE:=λσ H Q=>∀p,H p=none->tk σ (upd H p (.dT [])) λx H1=>tv σ H1 λy H2=>∃b ks,x= .ref b/\H2 b=some (.tup (ks.map kV))/\H2 p=some (.dT [])/\Q (.ref p) (upd H2 p (.dT [(ks,y)]))
def B6(hu:X.A.units+1<cLine)(hk:PE X k tk)(hv:PE X v tv):PE X (.Dict [some k] [v] pos) (Kk tk tv):=by
 intro aa s σ H Q I h
 have hn:H s.heap.objs.size=none:=I.aR.fresh (WE _)
 refine wpAny_Dict_any rfl rfl (by simp) (show 1<=15 by decide) ?_
 have I0:Inv X aa σ (upd H s.heap.objs.size (.dT [])) {s with heap:=s.heap.push {cls:= .type "dict",data:= .dict #[]}}:=I.laid (a:=s.heap.objs.size) (o:= .dT []) (t':=s.toks) (λ_ _ q=>Wo _ q) (WE _) (yL s.heap I.big)
 refine pairTrees_cons_walk (bI (hk aa _ σ _ _ I0 (h _ hn)) λkv s1 ⟨x,H1,I1,r1,q1⟩=>bI (hv aa s1 σ H1 _ I1 q1) λvv s2 ⟨y,H2,I2,r2,q2⟩=>pairTrees_nil_walk ?_)
 refine au λnO=>gM q2 λb ks ex eb ep q3=>?_
 subst ex
 cases r1
 refine nO ?_
 unfold storeAll
 rw[Yp]
 refine au λnO=>?_
 obtain⟨z,hd,xs,eW,dd⟩:=Ew I2.aR ep
 cases eW
 refine nO ?_
 refine Wn (Wn (wpAny_dictSet_heap (hsz:=XF _) (knd:=tupleKind (bg X.prog X.w)) (show X.A.units<cLine by lia) (jM I2.aR eb) dd λh' BY hs=>Wv ?_))
 dsimp only
 rw[List.forIn_nil]
 refine Wv ⟨.ref s.heap.objs.size,_,?_,rfl,q3⟩
 refine au λnO=>Jb BY λo es e2 g1 g2 g3 g4 _ g5=>nO ?_
 refine kN I2 (by rw[ep];exact True.intro) hs ⟨o,g1⟩ ⟨by rw[sizeLine_eq];exact(by decide:(1:Nat)<=16777216),hd,_,?_,o,es,e2,g1,g2,g3,g4,g5⟩
 refine .cons ⟨rfl,?_,r2⟩ .nil
 rw[ao (fR eb ep (λz=>nomatch z))]
 exact eb
end
end L2
namespace bU
open PySem PyProof.Rows
structure Ord(r:Keyed->Keyed->Bool):Prop where
 M0:∀x y,r x y=true->r y x=false
 tr:∀x y z,r y x=false->r z y=false->r z x=false
def le(r:Keyed->Keyed->Bool)(x y:Keyed):Prop:=r y x=false
section
variable {r:Keyed->Keyed->Bool}
def Ord.refl(O:Ord r)(x:Keyed):le r x x:=by
 show r x x=false
 cases h:r x x with
 |false=>rfl
 |true=>exact(O.M0 x x h).symm.trans h |>.symm ▸rfl
def Ord.of_lt(O:Ord r)(h:r x y=true):le r x y:=O.M0 x y h
def Ord.trans(O:Ord r)(h1:le r x y)(h2:le r y z):le r x z:=O.tr x y z h1 h2
end
section
variable {prog:Program}{w:World}{A:Around}{E:Value->Shared->Prop}{s:Shared}{κ:SortKind}{P:Keyed->Prop}{r:Keyed->Keyed->Bool}
def kE(prog:Program)(w:World)(A:Around)(E:Value->Shared->Prop)(s:Shared)(κ:SortKind)(P:Keyed->Prop)(r:Keyed->Keyed->Bool):Prop:=
 ∀(x y:Keyed) (zt:SortSt) (Q:Option Bool->SortSt->Prop),P x->P y->kindOf zt=κ->Q (some (r x y)) zt->wpS (model prog w) A E s (lt' x y) Q zt
noncomputable def tm(r:Keyed->Keyed->Bool)(left:Bool)(key x:Keyed):Bool:=if left then r x key else !r key x
def yM{left:Bool}{key:Keyed}{arr:Array Keyed}{base i:Nat}{zt:SortSt}{Q:Option Bool->SortSt->Prop}(L:kE prog w A E s κ P r)(hk:kindOf zt=κ)(hp:P key)(ha:∀x∈arr,P x)(hi:base+i<arr.size)(q:Q (some (tm r left key arr[base+i])) zt):
  wpS (model prog w) A E s (eA left key arr base i) Q zt:=by
 unfold eA
 refine wpS_bind (bu hi ?_)
 have hx:=ha _ (Xo hi)
 cases left with
 |true=>exact L _ _ zt _ hx hp hk q
 |false=>exact wpS_bind (L _ _ zt _ hp hx hk (wpS_pure q))
def yN(O:Ord r)(h:le r x y)(hy:tm r left key y=true):tm r left key x=true:=by
 unfold tm at hy⊢
 cases left with
 |true=>
  have Bh:r y key=true:=hy
  show r x key=true
  cases e:r x key with
  |true=>rfl
  |false=>
   have:=O.tr key x y e h
   rw[this]at Bh
   cases Bh
 |false=>
  have Bh:(!r key y)=true:=hy
  show(!r key x)=true
  have h1:r key y=false:=by simpa using Bh
  have:=O.tr x y key h h1
  simp[this]
abbrev W3:=Option (Option Nat)×Nat×Nat
noncomputable def OM(left:Bool)(key:Keyed)(arr:Array Keyed)(base n hint l o:Nat):SM (ForInStep W3):=do
 if o ≥ n-hint then return .done (none,l,o)
 let some more<-eA left key arr base (hint+o)|return .done (some none,l,o)
 if !more then return .done (none,l,o)
 return .yield (none,o,2*o+1)
noncomputable def ON(left:Bool)(key:Keyed)(arr:Array Keyed)(base hint l o:Nat):SM (ForInStep W3):=do
 if o ≥ hint+1 then return .done (none,l,o)
 let some found<-eA left key arr base (hint-o)|return .done (some none,l,o)
 if found then return .done (none,l,o)
 return .yield (none,o,2*o+1)
noncomputable def OO(left:Bool)(key:Keyed)(arr:Array Keyed)(base lo hi:Nat):SM (ForInStep W3):=do
 if lo ≥ hi then return .done (none,lo,hi)
 let some more<-eA left key arr base (lo+(hi-lo)/2)|return .done (some none,lo,hi)
 if more then return .yield (none,lo+(hi-lo)/2+1,hi) else return .yield (none,lo,lo+(hi-lo)/2)
noncomputable def M1(left:Bool)(key:Keyed)(arr:Array Keyed)(base n lo hi:Nat):SM (Option Nat):=do
 let c<-forIn [0:n] ((none,lo,hi):W3) λ_ c=>OO left key arr base c.2.1 c.2.2
 match c.1 with
 |some r=>pure r
 |none=>pure (some c.2.2)
def Kl(left:Bool)(key:Keyed)(arr:Array Keyed)(base n hint:Nat):cc left key arr base n hint=(do
  let some right<-eA left key arr base hint|return none
  if right then
   let c<-forIn [0:n] ((none,0,1):W3) λ_ c=>OM left key arr base n hint c.2.1 c.2.2
   match c.1 with
   |some r=>pure r
   |none=>M1 left key arr base n (hint+c.2.1+1) (hint+min c.2.2 (n-hint))
  else
   let c<-forIn [0:n] ((none,0,1):W3) λ_ c=>ON left key arr base hint c.2.1 c.2.2
   match c.1 with
   |some r=>pure r
   |none=>M1 left key arr base n (hint+1-min c.2.2 (hint+1)) (hint-c.2.1)):=by kernel_rfl
section
variable {left:Bool}{key:Keyed}{arr:Array Keyed}{base n hint lo hi:Nat}{zt:SortSt}{Q:Option Nat->SortSt->Prop}{f:Nat->Bool}
def Ex(hB:∀(i:Nat) (Q:Option Bool->SortSt->Prop),i<n->Q (some (f i)) zt->wpS (model prog w) A E s (eA left key arr base i) Q zt)
  (mono:∀i j,i<=j->j<n->f j=true->f i=true) (up:∀i j,i<=j->j<n->f i=false->f j=false) (z1:lo<=hi) (z2:hi<=n) (a1:∀i,i<lo->f i=true) (a2:∀i,hi<=i->i<n->f i=false)
  (q:∀k,k<=n->(∀i,i<k->f i=true)->(∀i,k<=i->i<n->f i=false)->Q (some k) zt):wpS (model prog w) A E s (M1 left key arr base n lo hi) Q zt:=by
 unfold M1
 refine wpS_bind (wpS_mono (wpS_forRange (I:=λi c cB=>cB=zt/\∃lo hi,c=(none,lo,hi)/\lo<=hi/\hi<=n/\hi-lo+i<=n/\(∀i,i<lo->f i=true)/\(∀i,hi<=i->i<n->f i=false)) (Q:=λc cB=>cB=zt/\∃lo hi,c=(none,lo,hi)/\hi<=n/\(∀i,i<hi->f i=true)/\(∀i,hi<=i->i<n->f i=false)) ?_ ?_ ⟨rfl,_,_,rfl,z1,z2,by omega,a1,a2⟩) ?_)
 .rintro i c cB _ _ ⟨rfl,lo,hi,rfl,z1,z2,z3,z4,z5⟩
  show wpS (model prog w) A E s (OO left key arr base lo hi) _ _
  unfold OO
  refine f_ (λhg=>?_) (λhg=>?_)
  .exact wpS_pure ⟨rfl,lo,hi,rfl,z2,λi h=>z4 i (by omega),z5⟩
  .refine wpS_bind (hB _ _ (by omega) ?_)
   cases e2:f (lo+(hi-lo)/2)with
   |true=>exact wpS_pure ⟨rfl,_,hi,rfl,by omega,z2,by omega,λi h=>mono i _ (by omega) (by omega) e2,z5⟩
   |false=>exact wpS_pure ⟨rfl,lo,_,rfl,by omega,by omega,by omega,z4,λi h1 h2=>up _ i h1 h2 e2⟩
 .rintro c cB ⟨rfl,lo,hi,rfl,z1,z2,z3,z4,z5⟩
  exact⟨rfl,lo,hi,rfl,z2,λi h=>z4 i (by omega),z5⟩
 .rintro c cB ⟨rfl,lo,hi,rfl,z2,z4,z5⟩
  exact wpS_pure (q hi z2 z4 z5)
def yO(hn:hint<n)(hB:∀(i:Nat) (Q:Option Bool->SortSt->Prop),i<n->Q (some (f i)) zt->wpS (model prog w) A E s (eA left key arr base i) Q zt)
  (mono:∀i j,i<=j->j<n->f j=true->f i=true)
  (q:∀k,k<=n->(∀i,i<k->f i=true)->(∀i,k<=i->i<n->f i=false)->Q (some k) zt):wpS (model prog w) A E s (cc left key arr base n hint) Q zt:=by
 have up:∀i j,i<=j->j<n->f i=false->f j=false:=λi j h1 h2 h3=>by
  cases e:f j with
  |false=>rfl
  |true=>rw[mono i j h1 h2 e]at h3;cases h3
 rw[Kl]
 refine wpS_bind (hB hint _ hn ?_)
 cases e0:f hint with
 |true=>
  dsimp only
  rw[WO rfl]
  refine wpS_bind (wpS_mono (wpS_forRange (I:=λi c ak=>ak=zt/\∃l o,c=(none,l,o)/\l<o/\i+1<=o/\hint+l<n/\f (hint+l)=true)
   (Q:=λc ak=>ak=zt/\∃l o,c=(none,l,o)/\l<o/\hint+l<n/\f (hint+l)=true/\(n-hint<=o\/(hint+o<n/\f (hint+o)=false))) ?_ ?_ ⟨rfl,0,1,rfl,by omega,by omega,by omega,e0⟩) ?_)
  .rintro i c ak _ _ ⟨rfl,l,o,rfl,g1,g2,g3,g4⟩
   show wpS (model prog w) A E s (OM left key arr base n hint l o) _ _
   unfold OM
   refine f_ (λhg=>?_) (λhg=>?_)
   .exact wpS_pure ⟨rfl,l,o,rfl,g1,g3,g4,.inl hg⟩
   .refine wpS_bind (hB (hint+o) _ (by omega) ?_)
    cases e1:f (hint+o)with
    |true=>exact wpS_pure ⟨rfl,_,_,rfl,by omega,by omega,by omega,e1⟩
    |false=>exact wpS_pure ⟨rfl,_,_,rfl,g1,g3,g4,.inr ⟨by omega,e1⟩⟩
  .rintro c ak ⟨rfl,l,o,rfl,g1,g2,g3,g4⟩
   exact⟨rfl,l,o,rfl,g1,g3,g4,.inl (by omega)⟩
  rintro c ak ⟨rfl,l,o,rfl,g1,g3,g4,g5⟩
  refine Ex hB mono up ?_ ?_ (λi hi=>mono i (hint+l) (by lia) g3 g4) (λi h1 h2=>?_) q
  .dsimp only
   omega
  .dsimp only
   omega
  .dsimp only at h1
   rcases g5 with g5|⟨g5,g6⟩
   .omega
   .exact up (hint+o) i (by omega) h2 g6
 |false=>
  dsimp only
  rw[WV Wt]
  refine wpS_bind (wpS_mono (wpS_forRange (I:=λi c ak=>ak=zt/\∃l o,c=(none,l,o)/\l<o/\i+1<=o/\l<=hint/\f (hint-l)=false)
   (Q:=λc ak=>ak=zt/\∃l o,c=(none,l,o)/\l<o/\l<=hint/\f (hint-l)=false/\(hint+1<=o\/(o<=hint/\f (hint-o)=true))) ?_ ?_ ⟨rfl,0,1,rfl,by omega,by omega,by omega,e0⟩) ?_)
  .rintro i c ak _ _ ⟨rfl,l,o,rfl,g1,g2,g3,g4⟩
   show wpS (model prog w) A E s (ON left key arr base hint l o) _ _
   unfold ON
   refine f_ (λhg=>?_) (λhg=>?_)
   .exact wpS_pure ⟨rfl,l,o,rfl,g1,g3,g4,.inl hg⟩
   .refine wpS_bind (hB (hint-o) _ (by omega) ?_)
    cases e1:f (hint-o)with
    |true=>exact wpS_pure ⟨rfl,_,_,rfl,g1,g3,g4,.inr ⟨by omega,e1⟩⟩
    |false=>exact wpS_pure ⟨rfl,_,_,rfl,by omega,by omega,by omega,e1⟩
  .rintro c ak ⟨rfl,l,o,rfl,g1,g2,g3,g4⟩
   exact⟨rfl,l,o,rfl,g1,g3,g4,.inl (by omega)⟩
  rintro c ak ⟨rfl,l,o,rfl,g1,g3,g4,g5⟩
  refine Ex hB mono up ?_ ?_ (λi hi=>?_) (λi h1 h2=>up (hint-l) i h1 h2 g4) q
  .dsimp only
   omega
  .dsimp only
   omega
  .dsimp only at hi
   rcases g5 with g5|⟨g5,g6⟩
   .omega
   .exact mono i (hint-o) (by omega) (by omega) g6
end
noncomputable abbrev sg(arr:Array Keyed)(base n:Nat):List Keyed:=(arr.toList.drop base).take n
def fI(hi:i<n)(hz:base+n<=arr.size):(sg arr base n)[i]?=some (arr[base+i]'(by omega)):=by
 rw[Y0,WO hi,aaB,Xe,W5]
def dJ(hz:base+n<=arr.size):(sg arr base n).length =n:=by
 rw[XO,Yz,Wy];omega
def cP{left:Bool}{key:Keyed}{arr:Array Keyed}{base n hint:Nat}{zt:SortSt}{Q:Option Nat->SortSt->Prop}(L:kE prog w A E s κ P r)(O:Ord r)(hk:kindOf zt=κ)(hp:P key)(ha:∀x∈arr,P x)(hz:base+n<=arr.size)(hn:hint<n)
  (hS:(sg arr base n).Pairwise (le r))
  (q:∀k,k<=n->(∀x∈(sg arr base n).take k,tm r left key x=true)->(∀x∈(sg arr base n).drop k,tm r left key x=false)->Q (some k) zt):wpS (model prog w) A E s (cc left key arr base n hint) Q zt:=by
 have hl:=dJ hz
 have fe:∀i (h:i<n),(((sg arr base n)[i]?).elim false (tm r left key))=tm r left key (arr[base+i]'(by omega)):=λi h=>by rw[fI h hz];rfl
 refine yO (f:=λi=>((sg arr base n)[i]?).elim false (tm r left key)) hn (λi Q hi hq=>yM L hk hp ha (by omega) (by rw[<-fe i hi];exact hq)) (λi j Ge hj hf=>?_) (λk Gm h1 h2=>q k Gm (λx hx=>?_) (λx hx=>?_))
 .rcases Xr i j with z|z
  .rw[fe j hj]at hf
   rw[fe i (by omega)]
   refine yN O ?_ hf
   have:=(X5.mp hS) i j (by omega) (by omega) z
   have e1:=fI (arr:=arr) (show i<n by omega) hz
   have e2:=fI (arr:=arr) hj hz
   rw[Wq (by omega)]at e1 e2
   rw[WU e1,WU e2]at this
   exact this
  .rw[show i=j by omega];exact hf
 .obtain⟨i,hi,rfl⟩:=Yv hx
  rw[XO]at hi
  have:=h1 i (by omega)
  rw[Wq (by omega)]at this
  rw[List.getElem_take]
  exact this
 .obtain⟨i,hi,rfl⟩:=Yv hx
  rw[Yz]at hi
  have:=h2 (k+i) (by omega) (by omega)
  rw[Wq (by omega)]at this
  rw[List.getElem_drop]
  exact this
structure Ms(r:Keyed->Keyed->Bool)(a b out:Array Keyed)(i j:Nat):Prop where
 p:Pt a b out i j
 s:out.toList.Pairwise (le r)
 ta:∀x∈out.toList,∀y∈a.toList.drop i,le r x y
 tb:∀x∈out.toList,∀y∈b.toList.drop j,le r x y
end
section
variable {r:Keyed->Keyed->Bool}{a b out:Array Keyed}{i j k:Nat}
def dM(a:Array Keyed)(i k:Nat):(a.extract i (i+k)).toList =sg a i k:=by
 rw[X']
 unfold List.extract
 rw[show i+k-i=k by omega]
def yP(a:Array Keyed)(i k:Nat):a.toList.drop i=sg a i k++a.toList.drop (i+k):=by
 have:=(YE k (a.toList.drop i)).symm
 rwa [ZJ]at this
theorem Ms.pj(h:Ms r a b out i j)(sa:a.toList.Pairwise (le r))(hb:∀x∈sg a i k,∀y∈b.toList.drop j,le r x y):Ms r a b (out++a.extract i (i+k)) (i+k) j:=by
 have sd:(a.toList.drop i).Pairwise (le r):=sa.sublist (XS _ _)
 have e:=yP a i k
 rw[e,W8]at sd
 refine cU sd λp1 p2 p3=>?_
 have Km:∀x∈out.toList,∀y∈sg a i k++a.toList.drop (i+k),le r x y:=λx hx y hy=>h.ta x hx y (by rw[e];exact hy)
 refine⟨h.p.pj,?_,λx hx y hy=>?_,λx hx y hy=>?_⟩
 .rw[WL,dM,W8]
  exact⟨h.s,p1,λx hx y hy=>Km x hx y (WY _ hy)⟩
 .rw[WL,dM]at hx
  rcases WQ.mp hx with z|z
  .exact Km x z y (WN _ hy)
  .exact p3 x z y hy
 .rw[WL,dM]at hx
  rcases WQ.mp hx with z|z
  .exact h.tb x z y hy
  .exact hb x z y hy
theorem Ms.ph(h:Ms r a b out i j)(sb:b.toList.Pairwise (le r))(ha:∀x∈sg b j k,∀y∈a.toList.drop i,le r x y):Ms r a b (out++b.extract j (j+k)) i (j+k):=by
 have sd:(b.toList.drop j).Pairwise (le r):=sb.sublist (XS _ _)
 have e:=yP b j k
 rw[e,W8]at sd
 refine cU sd λp1 p2 p3=>?_
 have Ko:∀x∈out.toList,∀y∈sg b j k++b.toList.drop (j+k),le r x y:=λx hx y hy=>h.tb x hx y (by rw[e];exact hy)
 refine⟨h.p.ph,?_,λx hx y hy=>?_,λx hx y hy=>?_⟩
 .rw[WL,dM,W8]
  exact⟨h.s,p1,λx hx y hy=>Ko x hx y (WY _ hy)⟩
 .rw[WL,dM]at hx
  rcases WQ.mp hx with z|z
  .exact h.ta x z y hy
  .exact ha x z y hy
 .rw[WL,dM]at hx
  rcases WQ.mp hx with z|z
  .exact Ko x z y (WN _ hy)
  .exact p3 x z y hy
def Ms.cg(h:Ms r a b out i j)(e:o.toList=out.toList):Ms r a b o i j:=⟨by unfold Pt;rw[e];exact h.p,by rw[e];exact h.s,λx hx=>h.ta x (by rw[<-e];exact hx),λx hx=>h.tb x (by rw[<-e];exact hx)⟩
def Ms.nZ(h:Ms r a b out i j)(sa:a.toList.Pairwise (le r))(hi:i<a.size)(hb:∀y∈b.toList.drop j,le r a[i] y):Ms r a b (out.push a[i]) (i+1) j:=by
 refine(h.pj (k:=1) sa λx hx=>?_).cg (by rw[WL,gP hi,<-Ye])
 rw[<-dM,gP hi,Ww]at hx
 rw[hx];exact hb
def Ms.n6(h:Ms r a b out i j)(sb:b.toList.Pairwise (le r))(hj:j<b.size)(ha:∀y∈a.toList.drop i,le r b[j] y):Ms r a b (out.push b[j]) i (j+1):=by
 refine(h.ph (k:=1) sb λx hx=>?_).cg (by rw[WL,gP hj,<-Ye])
 rw[<-dM,gP hj,Ww]at hx
 rw[hx];exact ha
def Kp(O:Ord r)(sa:a.toList.Pairwise (le r))(hi:i<a.size):∀y∈a.toList.drop i,le r a[i] y:=λy hy=>by
 have iV:i<a.toList.length:=by simpa using hi
 have sd:(a.toList.drop i).Pairwise (le r):=sa.sublist (XS _ _)
 rw[Xs iV]at sd hy
 rcases WG.mp hy with z|z
 .rw[z];exact O.refl _
 .exact(XG.mp sd).1 y z
def pz(O:Ord r)(sa:a.toList.Pairwise (le r))(hi:i<a.size)(h:le r x a[i]):∀y∈a.toList.drop i,le r x y:=λy hy=>O.trans h (Kp O sa hi y hy)
def kO(a:Array Keyed)(hi:i<=a.size):(a.extract i a.size).toList =a.toList.drop i:=by
 have:=dM a i (a.size-i)
 rw[show i+(a.size-i)=a.size by omega]at this
 rw[this]
 exact Xg (by simp)
def Ms.done(h:Ms r a b out i j)(sa:a.toList.Pairwise (le r))(sb:b.toList.Pairwise (le r))(hi:i<=a.size)(hj:j<=b.size)(c:i=a.size\/j=b.size):((out++a.extract i a.size)++b.extract j b.size).toList.Pairwise (le r):=by
 rw[WL,WL,kO a hi,kO b hj]
 have na:i=a.size->a.toList.drop i=[]:=λe=>aaa (by simp[e])
 have nb:j=b.size->b.toList.drop j=[]:=λe=>aaa (by simp[e])
 rcases c with c|c
 .rw[na c,W9,W8]
  exact⟨h.s,sb.sublist (XS _ _),h.tb⟩
 .rw[nb c,W9,W8]
  exact⟨h.s,sa.sublist (XS _ _),h.ta⟩
def Ms.last(h:Ms r a b out i j)(sa:a.toList.Pairwise (le r))(sb:b.toList.Pairwise (le r))(hi:i<=a.size)(hj:j<=b.size)(c:∀y∈b.toList,∀x∈a.toList.drop i,le r y x):((out++b.extract j b.size)++a.extract i a.size).toList.Pairwise (le r):=by
 rw[WL,WL,kO a hi,kO b hj,WZ,W8]
 refine⟨h.s,?_,λx hx y hy=>?_⟩
 .rw[W8]
  exact⟨sb.sublist (XS _ _),sa.sublist (XS _ _),λy hy x hx=>c y (Ym hy) x hx⟩
 .rcases WQ.mp hy with z|z
  .exact h.tb x hx y z
  .exact h.ta x hx y z
end
section
variable {prog:Program}{w:World}{A:Around}{E:Value->Shared->Prop}{s:Shared}{κ:SortKind}{P:Keyed->Prop}{r:Keyed->Keyed->Bool}
def bne{n m:Nat}(h:¬(n==m)=true):n≠m:=λe=>h (by rw[e];simp)
structure Lo(r:Keyed->Keyed->Bool)(a b:Array Keyed)(k:Nat)(out:Array Keyed)(ia ib:Nat):Prop where
 m:Ms r a b out ia ib
 x1:ia+1<a.size
 x2:ib<b.size
 x3:k<=ia+ib
abbrev Dn(r:Keyed->Keyed->Bool)(a b:Array Keyed)(o:Option (Array Keyed)):Prop:=∃o',o=some o'/\o'.toList.Perm (a.toList++b.toList)/\o'.toList.Pairwise (le r)
abbrev Rt(r:Keyed->Keyed->Bool)(a b:Array Keyed)(zt:SortSt)(k:Nat)(c:Option (Array Keyed)×Array Keyed×Nat×Nat×Nat)(ak:SortSt):Prop:=Sm zt ak/\∃out ia ib g,c=(none,out,ia,ib,g)/\Lo r a b k out ia ib
abbrev Q1{β:Type}(r:Keyed->Keyed->Bool)(a b:Array Keyed)(zt:SortSt)(c:Option (Array Keyed)×β)(ak:SortSt):Prop:=Sm zt ak/\Dn r a b c.1
abbrev Kq(r:Keyed->Keyed->Bool)(a b:Array Keyed)(k:Nat)(c:Option (Array Keyed)×Array Keyed×Nat×Nat×Nat×Nat):Prop:=∃out ia ib n m,c=(none,out,ia,ib,n,m)/\Lo r a b k out ia ib
abbrev IK(r:Keyed->Keyed->Bool)(a b:Array Keyed)(k:Nat)(c:Option (Array Keyed)×Array Keyed×Nat×Nat×Nat×Nat×Nat):Prop:=∃out ia ib g n m,c=(none,out,ia,ib,g,n,m)/\Lo r a b k out ia ib
abbrev Pq{β:Type}(J:Option (Array Keyed)×β->Prop)(zt:SortSt)(c:Option (Array Keyed)×β)(ak:SortSt):Prop:=Sm zt ak/\J c
abbrev Qq{β:Type}(r:Keyed->Keyed->Bool)(a b:Array Keyed)(J:Option (Array Keyed)×β->Prop)(zt:SortSt)(c:Option (Array Keyed)×β)(ak:SortSt):Prop:=Sm zt ak/\(Dn r a b c.1\/J c)
abbrev T5:=Option (Array Keyed)×Array Keyed×Nat×Nat×Nat
abbrev T6:=Option (Array Keyed)×Array Keyed×Nat×Nat×Nat×Nat
abbrev T7:=Option (Array Keyed)×Array Keyed×Nat×Nat×Nat×Nat×Nat
noncomputable def Ey(a b out:Array Keyed)(ia ib:Nat):Array Keyed:=(out++a.extract ia a.size)++b.extract ib b.size
noncomputable def M3(a b out:Array Keyed)(ia ib:Nat):Array Keyed:=(out++b.extract ib b.size)++a.extract ia a.size
noncomputable def OP(a b:Array Keyed)(g:Nat)(out:Array Keyed)(ia ib ac bc:Nat):SM (ForInStep T6):=do
 let some w<-lt' (<-elem' b ib) (<-elem' a ia)|return .done (some (Ey a b out ia ib),out,ia,ib,ac,bc)
 if w then
  let o:=out.push (<-elem' b ib)
  if ib+1==b.size then return .done (some (Ey a b o ia (ib+1)),o,ia,ib+1,0,bc+1)
  if bc+1 ≥ g then return .done (none,o,ia,ib+1,0,bc+1)
  return .yield (none,o,ia,ib+1,0,bc+1)
 else
  let o:=out.push (<-elem' a ia)
  if ia+1+1==a.size then return .done (some (M3 a b o (ia+1) ib),o,ia+1,ib,ac+1,0)
  if ac+1 ≥ g then return .done (none,o,ia+1,ib,ac+1,0)
  return .yield (none,o,ia+1,ib,ac+1,0)
noncomputable def B7(a b out:Array Keyed)(ia ib g ac bc:Nat):SM (ForInStep T7):=do
 let o:=out.push (<-elem' a ia)
 if ia+1+1==a.size then return .done (some (M3 a b o (ia+1) ib),o,ia+1,ib,g,ac,bc)
 if ac<7&&bc<7 then return .done (none,o,ia+1,ib,g,ac,bc)
 return .yield (none,o,ia+1,ib,g,ac,bc)
noncomputable def B8(a b out:Array Keyed)(ia ib g ac bc:Nat):SM (ForInStep T7):=do
 let o:=out.push (<-elem' b ib)
 if ib+1==b.size then return .done (some (Ey a b o ia (ib+1)),o,ia,ib+1,g,ac,bc)
 let some k<-cc true (<-elem' a ia) b (ib+1) (b.size-(ib+1)) 0|return .done (some (Ey a b o ia (ib+1)),o,ia,ib+1,g,ac,bc)
 if k>0 then
  let o:=o++b.extract (ib+1) (ib+1+k)
  if ib+1+k==b.size then return .done (some (Ey a b o ia (ib+1+k)),o,ia,ib+1+k,g,ac,k)
  B7 a b o ia (ib+1+k) g ac k
 else B7 a b o ia (ib+1) g ac k
noncomputable def B9(a b out:Array Keyed)(ia ib ac bc g:Nat):SM (ForInStep T7):=do
 bj g
 let some k<-cc false (<-elem' b ib) a ia (a.size-ia) 0|return .done (some (Ey a b out ia ib),out,ia,ib,g,ac,bc)
 if k>0 then
  let o:=out++a.extract ia (ia+k)
  if ia+k+1==a.size then return .done (some (M3 a b o (ia+k) ib),o,ia+k,ib,g,k,bc)
  if ia+k==a.size then return .done (some (Ey a b o (ia+k) ib),o,ia+k,ib,g,k,bc)
  B8 a b o (ia+k) ib g k bc
 else B8 a b out ia ib g k bc
noncomputable def Ru(a b out:Array Keyed)(ia ib g ac bc:Nat):SM (ForInStep T7):=if g>1 then B9 a b out ia ib ac bc (g-1) else B9 a b out ia ib ac bc g
noncomputable def OQ(a b:Array Keyed)(g:Nat)(u:T7):SM (ForInStep T5):=
 match u.1 with
 |some r=>pure (.done (some r,u.2.1,u.2.2.1,u.2.2.2.1,u.2.2.2.2.1))
 |none=>do
  bj (u.2.2.2.2.1+1)
  pure (.yield (none,u.2.1,u.2.2.1,u.2.2.2.1,u.2.2.2.2.1+1))
noncomputable def OS(a b:Array Keyed)(g:Nat)(t:T6):SM (ForInStep T5):=
 match t.1 with
 |some r=>pure (.done (some r,t.2.1,t.2.2.1,t.2.2.2.1,g))
 |none=>do
  rule "list.sort.gallop"
  let u<-forIn [0:a.size+b.size] ((none,t.2.1,t.2.2.1,t.2.2.2.1,g+1,t.2.2.2.2.1,t.2.2.2.2.2):T7) λ_ u=>Ru a b u.2.1 u.2.2.1 u.2.2.2.1 u.2.2.2.2.1 u.2.2.2.2.2.1 u.2.2.2.2.2.2
  OQ a b g u
noncomputable def OU(a b out:Array Keyed)(ia ib g:Nat):SM (ForInStep T5):=do
 let t<-forIn [0:a.size+b.size] ((none,out,ia,ib,0,0):T6) λ_ t=>OP a b g t.2.1 t.2.2.1 t.2.2.2.1 t.2.2.2.2.1 t.2.2.2.2.2
 OS a b g t
def Kr(a b:Array Keyed):lR a b=(do
  rule "list.sort.merge-lo"
  let x<-elem' b 0
  if 1==b.size then return Ey a b #[x] 0 1
  if 0+1==a.size then return M3 a b #[x] 0 1
  let g:=gallopOf (<-get)
  let s<-forIn [0:a.size+b.size] ((none,#[x],0,1,g):T5) λ_ s=>OU a b s.2.1 s.2.2.1 s.2.2.2.1 s.2.2.2.2
  match s.1 with
  |some r=>pure r
  |none=>unsupported "internal:list.sort.merge-bound"):=by kernel_rfl
structure Mg(prog:Program)(w:World)(A:Around)(E:Value->Shared->Prop)(s:Shared)(κ:SortKind)(P:Keyed->Prop)(r:Keyed->Keyed->Bool)(a b:Array Keyed)(zt:SortSt):Prop where
 L:kE prog w A E s κ P r
 O:Ord r
 hk:kindOf zt=κ
 ha:∀x∈a,P x
 hb:∀x∈b,P x
 sa:a.toList.Pairwise (le r)
 sb:b.toList.Pairwise (le r)
def Mg.gA{a b:Array Keyed}{zt ak:SortSt}{ia ib:Nat}{Q':Option Nat->SortSt->Prop}(G:Mg prog w A E s κ P r a b zt)(Bi:ib<b.size)(hS:Sm zt ak)(tq:ia<a.size)(hq:∀k,k<=a.size-ia->(∀x∈sg a ia k,∀y∈b.toList.drop ib,le r x y)->(∀x∈a.toList.drop (ia+k),le r b[ib] x)->Q' (some k) ak):
  wpS (model prog w) A E s (cc false b[ib] a ia (a.size-ia) 0) Q' ak:=by
 have e:sg a ia (a.size-ia)=a.toList.drop ia:=Xg (by simp)
 refine cP G.L G.O (hS.k.trans G.hk) (G.hb _ (Xo _)) G.ha (by lia) (by lia) (by rw[e];exact G.sa.sublist (XS _ _)) λk hk g1 g2=>hq k hk (λx hx=>?_) (λx hx=>?_)
 .have:=g1 x (by rw[e];exact hx)
  have h':le r x b[ib]:=by unfold tm at this;simpa[le]using this
  exact pz G.O G.sb Bi h'
 .have:=g2 x (by rw[e,ZJ];exact hx)
  unfold tm at this
  have h':r b[ib] x=true:=by simpa using this
  exact G.O.of_lt h'
def Mg.gB{a b:Array Keyed}{zt ak:SortSt}{ia ib:Nat}{Q':Option Nat->SortSt->Prop}(G:Mg prog w A E s κ P r a b zt)(tq:ia<a.size)(hS:Sm zt ak)(Bi:ib<b.size)(hq:∀k,k<=b.size-ib->(∀x∈sg b ib k,∀y∈a.toList.drop ia,le r x y)->(∀x∈b.toList.drop (ib+k),le r a[ia] x)->Q' (some k) ak):
  wpS (model prog w) A E s (cc true a[ia] b ib (b.size-ib) 0) Q' ak:=by
 have e:sg b ib (b.size-ib)=b.toList.drop ib:=Xg (by simp)
 refine cP G.L G.O (hS.k.trans G.hk) (G.ha _ (Xo _)) G.hb (by lia) (by lia) (by rw[e];exact G.sb.sublist (XS _ _)) λk hk g1 g2=>hq k hk (λx hx=>?_) (λx hx=>?_)
 .have:=g1 x (by rw[e];exact hx)
  exact pz G.O G.sa tq (G.O.of_lt this)
 .exact g2 x (by rw[e,ZJ];exact hx)
abbrev RI(r:Keyed->Keyed->Bool)(a b:Array Keyed)(zt:SortSt)(K:Nat)(x:ForInStep T6)(ak:SortSt):Prop:=match x with
 | .done c=>Qq r a b (Kq r a b K) zt c ak
 | .yield c=>Pq (Kq r a b K) zt c ak
abbrev RJ(r:Keyed->Keyed->Bool)(a b:Array Keyed)(zt:SortSt)(K:Nat)(x:ForInStep T7)(ak:SortSt):Prop:=match x with
 | .done c=>Qq r a b (IK r a b K) zt c ak
 | .yield c=>Pq (IK r a b K) zt c ak
section
variable {a b out:Array Keyed}{zt ak:SortSt}{ia ib g ac bc K:Nat}
def Ks(G:Mg prog w A E s κ P r a b zt)(dw:∀i,i+1=a.size->∀y∈b.toList,∀x∈a.toList.drop i,le r y x)(hS:Sm zt ak)(h:Lo r a b K out ia ib):wpS (model prog w) A E s (OP a b g out ia ib ac bc) (RI r a b zt K) ak:=by
 have hP:=h.m
 have x1:=h.x1
 have x2:=h.x2
 have x3:=h.x3
 have tq:ia<a.size:=by lia
 unfold OP
 refine wpS_bind (bu x2 (wpS_bind (bu tq (wpS_bind (G.L _ _ _ _ (G.hb _ (Xo _)) (G.ha _ (Xo _)) (hS.k.trans G.hk) ?_)))))
 cases bw:r b[ib] a[ia]with
 |true=>
  dsimp only
  rw[WO rfl]
  refine wpS_bind (bu x2 ?_)
  have nr:=hP.n6 G.sb x2 (pz G.O G.sa tq (G.O.of_lt bw))
  refine f_ (λe1=>?_) (λe1=>?_)
  .exact wpS_pure ⟨hS,.inl ⟨_,rfl,nr.p.done (by lia) (by lia),nr.done G.sa G.sb (by lia) (by lia) (.inr (by simpa using e1))⟩⟩
  .have p9:ib+1<b.size:=by have:=bne e1;lia
   refine f_ (λ_=>?_) (λ_=>?_)
   .exact wpS_pure ⟨hS,.inr ⟨_,_,_,_,_,rfl,nr,x1,p9,by lia⟩⟩
   .exact wpS_pure ⟨hS,_,_,_,_,_,rfl,nr,x1,p9,by lia⟩
 |false=>
  dsimp only
  rw[WV Wt]
  refine wpS_bind (bu tq ?_)
  have nr:=hP.nZ G.sa tq (pz G.O G.sb x2 bw)
  refine f_ (λe1=>?_) (λe1=>?_)
  .exact wpS_pure ⟨hS,.inl ⟨_,rfl,nr.p.last (by lia) (by lia),nr.last G.sa G.sb (by lia) (by lia) (dw _ (by simpa using e1))⟩⟩
  .have p9:ia+1+1<a.size:=by have:=bne e1;lia
   refine f_ (λ_=>?_) (λ_=>?_)
   .exact wpS_pure ⟨hS,.inr ⟨_,_,_,_,_,rfl,nr,p9,x2,by lia⟩⟩
   .exact wpS_pure ⟨hS,_,_,_,_,_,rfl,nr,p9,x2,by lia⟩
def yQ(G:Mg prog w A E s κ P r a b zt)(dw:∀i,i+1=a.size->∀y∈b.toList,∀x∈a.toList.drop i,le r y x)(hS:Sm zt ak)(hP:Ms r a b out ia ib)(x1:ia+1<a.size)(x2:ib<b.size)(x3:K<=ia+ib)(hi:ia<a.size)(y5:∀x∈b.toList.drop ib,le r a[ia] x):
  wpS (model prog w) A E s (B7 a b out ia ib g ac bc) (RJ r a b zt K) ak:=by
 unfold B7
 refine wpS_bind (bu hi ?_)
 have B_:=hP.nZ G.sa hi y5
 refine f_ (λe5=>?_) (λe5=>?_)
 .exact wpS_pure ⟨hS,.inl ⟨_,rfl,B_.p.last (by lia) (by lia),B_.last G.sa G.sb (by lia) (by lia) (dw _ (by simpa using e5))⟩⟩
 have Kt:ia+1+1<a.size:=by have:=bne e5;lia
 refine f_ (λ_=>?_) (λ_=>?_)
 .exact wpS_pure ⟨hS,.inr ⟨_,_,_,_,_,_,rfl,B_,Kt,x2,by lia⟩⟩
 .exact wpS_pure ⟨hS,_,_,_,_,_,_,rfl,B_,Kt,x2,by lia⟩
def yR(G:Mg prog w A E s κ P r a b zt)(dw:∀i,i+1=a.size->∀y∈b.toList,∀x∈a.toList.drop i,le r y x)(hS:Sm zt ak)(hP:Ms r a b out ia ib)(x1:ia+1<a.size)(x2:ib<b.size)(x3:K<=ia+ib)(y3:∀x∈a.toList.drop ia,le r b[ib] x):
  wpS (model prog w) A E s (B8 a b out ia ib g ac bc) (RJ r a b zt (K+1)) ak:=by
 unfold B8
 refine wpS_bind (bu x2 ?_)
 have Ca:=hP.n6 G.sb x2 y3
 refine f_ (λe3=>?_) (λe3=>?_)
 .exact wpS_pure ⟨hS,.inl ⟨_,rfl,Ca.p.done (by lia) (by lia),Ca.done G.sa G.sb (by lia) (by lia) (.inr (by simpa using e3))⟩⟩
 have M4:ib+1<b.size:=by have:=bne e3;lia
 have iV:ia<a.size:=by lia
 refine wpS_bind (bu iV (wpS_bind (G.gB iV hS M4 λkk Rv g1 g2=>?_)))
 dsimp only
 refine f_ (λOV=>?_) (λOV=>?_)
 .have Cb:=Ca.ph G.sb g1
  refine f_ (λe4=>?_) (λe4=>?_)
  .exact wpS_pure ⟨hS,.inl ⟨_,rfl,Cb.p.done (by lia) (by lia),Cb.done G.sa G.sb (by lia) (by lia) (.inr (by simpa using e4))⟩⟩
  exact yQ G dw hS Cb x1 (by have:=bne e4;lia) (by lia) iV g2
 .exact yQ G dw hS Ca x1 M4 (by lia) iV (by rw[show ib+1=ib+1+kk by lia];exact g2)
def yS(G:Mg prog w A E s κ P r a b zt)(dw:∀i,i+1=a.size->∀y∈b.toList,∀x∈a.toList.drop i,le r y x)(hS:Sm zt ak)(h:Lo r a b K out ia ib):wpS (model prog w) A E s (B9 a b out ia ib ac bc g) (RJ r a b zt (K+1)) ak:=by
 have hP:=h.m
 have x1:=h.x1
 have x2:=h.x2
 have x3:=h.x3
 unfold B9 bj
 refine wpS_bind (wpS_modify ?_)
 refine wpS_bind (bu x2 (wpS_bind (G.gA x2 hS.setG (by lia) λk Gm k1 k2=>?_)))
 dsimp only
 refine f_ (λOW=>?_) (λOW=>?_)
 .have Cc:=hP.pj G.sa k1
  refine f_ (λe1=>?_) (λe1=>?_)
  .exact wpS_pure ⟨hS.setG,.inl ⟨_,rfl,Cc.p.last (by lia) (by lia),Cc.last G.sa G.sb (by lia) (by lia) (dw _ (by simpa using e1))⟩⟩
  refine f_ (λe2=>?_) (λe2=>?_)
  .exact wpS_pure ⟨hS.setG,.inl ⟨_,rfl,Cc.p.done (by lia) (by lia),Cc.done G.sa G.sb (by lia) (by lia) (.inl (by simpa using e2))⟩⟩
  exact yR G dw hS.setG Cc (by have:=bne e1;have:=bne e2;lia) x2 (by lia) k2
 .exact yR G dw hS.setG hP x1 x2 x3 (by rw[show ia=ia+k by lia];exact k2)
def Ku(G:Mg prog w A E s κ P r a b zt)(dw:∀i,i+1=a.size->∀y∈b.toList,∀x∈a.toList.drop i,le r y x)(hS:Sm zt ak)(h:Lo r a b K out ia ib):wpS (model prog w) A E s (Ru a b out ia ib g ac bc) (RJ r a b zt (K+1)) ak:=
 f_ (λ_=>yS G dw hS h) λ_=>yS G dw hS h
def Lo.less(h:Lo r a b (K+1) out ia ib):Lo r a b K out ia ib:=⟨h.m,h.x1,h.x2,by have:=h.x3;lia⟩
abbrev R5(r:Keyed->Keyed->Bool)(a b:Array Keyed)(zt:SortSt)(K:Nat)(x:ForInStep T5)(ak:SortSt):Prop:=match x with
 | .done c=>Q1 r a b zt c ak
 | .yield c=>Rt r a b zt K c ak
def Kv{u:T7}(h:Qq r a b (IK r a b K) zt u ak):wpS (model prog w) A E s (OQ a b g u) (R5 r a b zt K) ak:=by
 obtain⟨c,d⟩:=u
 obtain⟨hS,⟨o,hc,hr⟩|⟨out,ia,ib,g',n,m,hc,hL⟩⟩:=h
 .have kJ:c=some o:=hc
  subst kJ
  exact wpS_pure ⟨hS,o,rfl,hr⟩
 .cases hc
  unfold OQ bj
  exact wpS_bind (wpS_modify (wpS_pure ⟨hS.setG,_,_,_,_,rfl,hL⟩))
def Kw{t:T6}(G:Mg prog w A E s κ P r a b zt)(dw:∀i,i+1=a.size->∀y∈b.toList,∀x∈a.toList.drop i,le r y x)(tu:1<=a.size+b.size)(h:Qq r a b (Kq r a b K) zt t ak):wpS (model prog w) A E s (OS a b g t) (R5 r a b zt (K+1)) ak:=by
 obtain⟨c,d⟩:=t
 obtain⟨hS,⟨o,hc,hr⟩|⟨out,ia,ib,n,m,hc,hL⟩⟩:=h
 .have kJ:c=some o:=hc
  subst kJ
  exact wpS_pure ⟨hS,o,rfl,hr⟩
 .cases hc
  unfold OS
  refine wpS_bind (wpS_lift (YA ⟨rfl,?_⟩))
  refine wpS_bind (wpS_mono (wpS_forRange
   (I:=λj=>match j with|0=>Pq (IK r a b K) zt|_+1=>Pq (IK r a b (K+1)) zt)
   (Q:=Qq r a b (IK r a b (K+1)) zt) ?step ?fin ⟨hS,_,_,_,_,_,_,rfl,hL⟩) λu cB h2=>Kv h2)
  case fin=>
   intro c cB h2
   rw[show max 0 (a.size+b.size)=(a.size+b.size-1)+1 by lia]at h2
   exact⟨h2.1,.inr h2.2⟩
  case step=>
   intro j c cB _ _ h2
   have h3:Sm zt cB/\∃out ia ib g n m,c=(none,out,ia,ib,g,n,m)/\Lo r a b K out ia ib:=by
    cases j with
    |zero=>exact h2
    |succ j=>
     obtain⟨z1,out,ia,ib,g,n,m,z2,z3⟩:=h2
     exact⟨z1,out,ia,ib,g,n,m,z2,z3.less⟩
   obtain⟨z1,out,ia,ib,g,n,m,rfl,z3⟩:=h3
   exact wpS_mono (Ku G dw z1 z3) λx _ h=>by cases x<;>exact h
def Kx(G:Mg prog w A E s κ P r a b zt)(dw:∀i,i+1=a.size->∀y∈b.toList,∀x∈a.toList.drop i,le r y x)(tu:1<=a.size+b.size)(hS:Sm zt ak)(h:Lo r a b K out ia ib):wpS (model prog w) A E s (OU a b out ia ib g) (R5 r a b zt (K+1)) ak:=by
 unfold OU
 refine wpS_bind (wpS_mono (wpS_forRange (I:=λ_=>Pq (Kq r a b K) zt) (Q:=Qq r a b (Kq r a b K) zt) ?step (λc cB h2=>⟨h2.1,.inr h2.2⟩) ⟨hS,_,_,_,_,_,rfl,h⟩) λt cB h2=>Kw G dw tu h2)
 intro _ c cB _ _ h2
 obtain⟨z1,out,ia,ib,n,m,rfl,z3⟩:=h2
 exact wpS_mono (Ks G dw z1 z3) λx _ h=>by cases x<;>exact h
end
def wH{a b:Array Keyed}{zt:SortSt}{Q:Array Keyed->SortSt->Prop}(L:kE prog w A E s κ P r)(O:Ord r)(hk:kindOf zt=κ)(ha:∀x∈a,P x)(hb:∀x∈b,P x)(h1:1<=a.size)(h2:1<=b.size)
  (sa:a.toList.Pairwise (le r)) (sb:b.toList.Pairwise (le r)) (first:∀y∈a.toList,le r b[0] y) (final:∀y∈b.toList,∀x∈a.toList.drop (a.size-1),le r y x)
  (q:∀out ak,out.toList.Perm (a.toList++b.toList)->out.toList.Pairwise (le r)->Sm zt ak->Q out ak):wpS (model prog w) A E s (lR a b) Q zt:=by
 have dw:∀i,i+1=a.size->∀y∈b.toList,∀x∈a.toList.drop i,le r y x:=λi hi=>by rw[show i=a.size-1 by lia];exact final
 have G:Mg prog w A E s κ P r a b zt:=⟨L,O,hk,ha,hb,sa,sb⟩
 rw[Kr]
 refine wpS_bind (wpS_lift (YA ⟨rfl,?_⟩))
 refine wpS_bind (bu (by lia) ?_)
 have p0:Ms r a b #[b[0]] 0 1:=by
  have:Ms r a b #[] 0 0:=⟨by unfold Pt;simp,by simp,by simp,by simp⟩
  exact this.n6 sb (by lia) first
 refine f_ (λc1=>?_) (λc1=>?_)
 .exact wpS_pure (q _ _ (p0.p.done (by lia) h2) (p0.done sa sb (by lia) h2 (.inr (by simpa using c1))) .rfl')
 have Bj:1<b.size:=by have:=bne c1;lia
 refine f_ (λc2=>?_) (λc2=>?_)
 .exact wpS_pure (q _ _ (p0.p.last (by lia) h2) (p0.last sa sb (by lia) h2 (dw 0 (by simpa using c2))) .rfl')
 have Ez:0+1<a.size:=by have:=bne c2;lia
 refine wpS_bind (wpS_get ?_)
 refine wpS_bind (wpS_mono (wpS_forRange (I:=λi=>Rt r a b zt (i+1)) (Q:=Q1 r a b zt) ?step ?fin ⟨.rfl',_,_,_,_,rfl,p0,Ez,Bj,WE _⟩) ?post)
 case post=>
  rintro⟨c,d⟩ ak ⟨hS,o,hc,hr,Gn⟩
  have kJ:c=some o:=hc
  subst kJ
  exact wpS_pure (q o ak hr Gn hS)
 case fin=>
  rintro c ak ⟨_,out,ia,ib,g,_,_,x1,x2,x3⟩
  lia
 case step=>
  rintro i c fD _ _ ⟨OX,out,ia,ib,g,rfl,hL⟩
  exact wpS_mono (Kx G dw (by lia) OX hL) λx _ h=>by cases x<;>exact h
end
structure Mh(r:Keyed->Keyed->Bool)(a b out:Array Keyed)(i j:Nat):Prop where
 p:Ph a b out i j
 s:out.toList.Pairwise λx y=>le r y x
 ta:∀x∈out.toList,∀y∈a.toList.take i,le r y x
 tb:∀x∈out.toList,∀y∈b.toList.take j,le r y x
section
variable {r:Keyed->Keyed->Bool}{a b out:Array Keyed}{i j k:Nat}
def i_(a:Array Keyed)(k i:Nat):(a.extract k i).toList =(a.toList.take i).drop k:=by
 rw[X']
 unfold List.extract
 rw[List.drop_take]
def qO(a:Array Keyed)(h:k<=i):a.toList.take i=a.toList.take k++(a.toList.take i).drop k:=by
 have:=(YE k (a.toList.take i)).symm
 rwa [aaq,aai h]at this
theorem Mh.pj(h:Mh r a b out i j)(sa:a.toList.Pairwise (le r))(hk:k<=i)(hi:i<=a.size)(hb:∀x∈(a.toList.take i).drop k,∀y∈b.toList.take j,le r y x):Mh r a b (out++(a.extract k i).reverse) k j:=by
 have sd:(a.toList.take i).Pairwise (le r):=sa.sublist (XR _ _)
 have e:=qO a hk
 rw[e,W8]at sd
 refine cU sd λp1 p2 p3=>?_
 have Km:∀x∈out.toList,∀y∈a.toList.take k++(a.toList.take i).drop k,le r y x:=λx hx y hy=>h.ta x hx y (by rw[e];exact hy)
 have el:(out++(a.extract k i).reverse).toList =out.toList++((a.toList.take i).drop k).reverse :=by rw[WL,XA,i_]
 refine⟨h.p.pj hk hi,?_,λx hx y hy=>?_,λx hx y hy=>?_⟩
 .rw[el,W8]
  exact⟨h.s,YF.mpr p2,λx hx y hy=>Km x hx y (WN _ (XQ.mp hy))⟩
 .rw[el]at hx
  rcases WQ.mp hx with z|z
  .exact Km x z y (WY _ hy)
  .exact p3 y hy x (XQ.mp z)
 .rw[el]at hx
  rcases WQ.mp hx with z|z
  .exact h.tb x z y hy
  .exact hb x (XQ.mp z) y hy
theorem Mh.ph(h:Mh r a b out i j)(sb:b.toList.Pairwise (le r))(hk:k<=j)(hj:j<=b.size)(ha:∀x∈(b.toList.take j).drop k,∀y∈a.toList.take i,le r y x):Mh r a b (out++(b.extract k j).reverse) i k:=by
 have sd:(b.toList.take j).Pairwise (le r):=sb.sublist (XR _ _)
 have e:=qO b hk
 rw[e,W8]at sd
 refine cU sd λp1 p2 p3=>?_
 have Ko:∀x∈out.toList,∀y∈b.toList.take k++(b.toList.take j).drop k,le r y x:=λx hx y hy=>h.tb x hx y (by rw[e];exact hy)
 have el:(out++(b.extract k j).reverse).toList =out.toList++((b.toList.take j).drop k).reverse :=by rw[WL,XA,i_]
 refine⟨h.p.ph hk hj,?_,λx hx y hy=>?_,λx hx y hy=>?_⟩
 .rw[el,W8]
  exact⟨h.s,YF.mpr p2,λx hx y hy=>Ko x hx y (WN _ (XQ.mp hy))⟩
 .rw[el]at hx
  rcases WQ.mp hx with z|z
  .exact h.ta x z y hy
  .exact ha x (XQ.mp z) y hy
 .rw[el]at hx
  rcases WQ.mp hx with z|z
  .exact Ko x z y (WY _ hy)
  .exact p3 y hy x (XQ.mp z)
def Mh.cg(h:Mh r a b out i j)(e:o.toList=out.toList):Mh r a b o i j:=⟨by unfold Ph;rw[e];exact h.p,by rw[e];exact h.s,λx hx=>h.ta x (by rw[<-e];exact hx),λx hx=>h.tb x (by rw[<-e];exact hx)⟩
def Mh.nZ(h:Mh r a b out i j)(sa:a.toList.Pairwise (le r))(h1:1<=i)(hi:i-1<a.size)(hb:∀y∈b.toList.take j,le r y a[i-1]):Mh r a b (out.push a[i-1]) (i-1) j:=by
 refine(h.pj (k:=i-1) sa (by lia) (by lia) λx hx=>?_).cg (by rw[WL,XA,i9 h1 hi,aab,<-Ye])
 rw[<-i_,i9 h1 hi,Ww]at hx
 rw[hx];exact hb
def Mh.n6(h:Mh r a b out i j)(sb:b.toList.Pairwise (le r))(h1:1<=j)(hj:j-1<b.size)(ha:∀y∈a.toList.take i,le r y b[j-1]):Mh r a b (out.push b[j-1]) i (j-1):=by
 refine(h.ph (k:=j-1) sb (by lia) (by lia) λx hx=>?_).cg (by rw[WL,XA,i9 h1 hj,aab,<-Ye])
 rw[<-i_,i9 h1 hj,Ww]at hx
 rw[hx];exact ha
def uB(O:Ord r)(sa:a.toList.Pairwise (le r))(hi:i-1<a.size)(hx:le r a[i-1] x):∀y∈a.toList.take i,le r y x:=λy hy=>by
 obtain⟨m,hm,rfl⟩:=Yv hy
 rw[XO,Wy]at hm
 rw[List.getElem_take]
 rcases Xr m (i-1)with z|z
 .refine O.trans ?_ hx
  have:=(X5.mp sa) m (i-1) (by simp;lia) (by simp;lia) z
  simpa using this
 .have e:m=i-1:=by lia
  subst e
  simpa using hx
def Mh.done(h:Mh r a b out i j)(sa:a.toList.Pairwise (le r))(sb:b.toList.Pairwise (le r))(c:i=0\/j=0):((a.extract 0 i++b.extract 0 j)++out.reverse).toList.Pairwise (le r):=by
 rw[WL,WL,dI,dI,XA,W8]
 refine⟨?_,YF.mpr h.s,λx hx y hy=>?_⟩
 .rcases c with rfl|rfl
  .rw[List.take_zero,XJ];exact sb.sublist (XR _ _)
  .rw[List.take_zero,W9];exact sa.sublist (XR _ _)
 .rcases WQ.mp hx with z|z
  .exact h.ta y (XQ.mp hy) x z
  .exact h.tb y (XQ.mp hy) x z
def Mh.first(h:Mh r a b out i j)(sa:a.toList.Pairwise (le r))(sb:b.toList.Pairwise (le r))(c:∀x∈b.toList.take j,∀y∈a.toList,le r x y):((b.extract 0 j++a.extract 0 i)++out.reverse).toList.Pairwise (le r):=by
 rw[WL,WL,dI,dI,XA,W8]
 refine⟨?_,YF.mpr h.s,λx hx y hy=>?_⟩
 .rw[W8]
  exact⟨sb.sublist (XR _ _),sa.sublist (XR _ _),λx hx y hy=>c x hx y (Yb hy)⟩
 .rcases WQ.mp hx with z|z
  .exact h.tb y (XQ.mp hy) x z
  .exact h.ta y (XQ.mp hy) x z
end
section
variable {prog:Program}{w:World}{A:Around}{E:Value->Shared->Prop}{s:Shared}{κ:SortKind}{P:Keyed->Prop}{r:Keyed->Keyed->Bool}
structure Hi(r:Keyed->Keyed->Bool)(a b:Array Keyed)(k:Nat)(out:Array Keyed)(ia ib:Nat):Prop where
 m:Mh r a b out ia ib
 x1:1<=ia
 x2:ia<=a.size
 x3:2<=ib
 x4:ib<=b.size
 x5:k+ia+ib<=a.size+b.size
abbrev Rw(r:Keyed->Keyed->Bool)(a b:Array Keyed)(k:Nat)(c:Option (Array Keyed)×Nat×Nat×Array Keyed×Nat):Prop:=∃ia ib out g,c=(none,ia,ib,out,g)/\Hi r a b k out ia ib
abbrev Ky(r:Keyed->Keyed->Bool)(a b:Array Keyed)(k:Nat)(c:Option (Array Keyed)×Nat×Nat×Array Keyed×Nat×Nat):Prop:=∃ia ib out n m,c=(none,ia,ib,out,n,m)/\Hi r a b k out ia ib
abbrev IL(r:Keyed->Keyed->Bool)(a b:Array Keyed)(k:Nat)(c:Option (Array Keyed)×Nat×Nat×Array Keyed×Nat×Nat×Nat):Prop:=∃ia ib out g n m,c=(none,ia,ib,out,g,n,m)/\Hi r a b k out ia ib
abbrev U5:=Option (Array Keyed)×Nat×Nat×Array Keyed×Nat
abbrev U6:=Option (Array Keyed)×Nat×Nat×Array Keyed×Nat×Nat
abbrev U7:=Option (Array Keyed)×Nat×Nat×Array Keyed×Nat×Nat×Nat
noncomputable def EA(a b out:Array Keyed)(na nb:Nat):Array Keyed:=(a.extract 0 na++b.extract 0 nb)++out.reverse
noncomputable def M5(a b out:Array Keyed)(na nb:Nat):Array Keyed:=(b.extract 0 nb++a.extract 0 na)++out.reverse
noncomputable def OY(a b:Array Keyed)(g na nb:Nat)(out:Array Keyed)(ac bc:Nat):SM (ForInStep U6):=do
 let some w<-lt' (<-elem' b (nb-1)) (<-elem' a (na-1))|return .done (some (EA a b out na nb),na,nb,out,ac,bc)
 if w then
  let o:=out.push (<-elem' a (na-1))
  if na-1==0 then return .done (some (EA a b o (na-1) nb),na-1,nb,o,ac+1,0)
  if ac+1 ≥ g then return .done (none,na-1,nb,o,ac+1,0)
  return .yield (none,na-1,nb,o,ac+1,0)
 else
  let o:=out.push (<-elem' b (nb-1))
  if nb-1==1 then return .done (some (M5 a b o na (nb-1)),na,nb-1,o,0,bc+1)
  if bc+1 ≥ g then return .done (none,na,nb-1,o,0,bc+1)
  return .yield (none,na,nb-1,o,0,bc+1)
noncomputable def Cd(a b:Array Keyed)(na nb:Nat)(out:Array Keyed)(g ac bc:Nat):SM (ForInStep U7):=do
 let o:=out.push (<-elem' a (na-1))
 if na-1==0 then return .done (some (EA a b o (na-1) nb),na-1,nb,o,g,ac,bc)
 if ac<7&&bc<7 then return .done (none,na-1,nb,o,g,ac,bc)
 return .yield (none,na-1,nb,o,g,ac,bc)
noncomputable def Ce(a b:Array Keyed)(na nb:Nat)(out:Array Keyed)(g ac bc:Nat):SM (ForInStep U7):=do
 let o:=out.push (<-elem' b (nb-1))
 if nb-1==1 then return .done (some (M5 a b o na (nb-1)),na,nb-1,o,g,ac,bc)
 let some k<-cc true (<-elem' a (na-1)) b 0 (nb-1) (nb-1-1)|return .done (some (EA a b o na (nb-1)),na,nb-1,o,g,ac,bc)
 if nb-1-k>0 then
  let o:=o++(b.extract k (nb-1)).reverse
  if k==1 then return .done (some (M5 a b o na k),na,k,o,g,ac,nb-1-k)
  if k==0 then return .done (some (EA a b o na k),na,k,o,g,ac,nb-1-k)
  Cd a b na k o g ac (nb-1-k)
 else Cd a b na (nb-1) o g ac (nb-1-k)
noncomputable def Cf(a b:Array Keyed)(na nb:Nat)(out:Array Keyed)(ac bc g:Nat):SM (ForInStep U7):=do
 bj g
 let some k<-cc false (<-elem' b (nb-1)) a 0 na (na-1)|return .done (some (EA a b out na nb),na,nb,out,g,ac,bc)
 if na-k>0 then
  let o:=out++(a.extract k na).reverse
  if k==0 then return .done (some (EA a b o k nb),k,nb,o,g,na-k,bc)
  Ce a b k nb o g (na-k) bc
 else Ce a b na nb out g (na-k) bc
noncomputable def Rx(a b:Array Keyed)(na nb:Nat)(out:Array Keyed)(g ac bc:Nat):SM (ForInStep U7):=if g>1 then Cf a b na nb out ac bc (g-1) else Cf a b na nb out ac bc g
noncomputable def OZ(u:U7):SM (ForInStep U5):=
 match u.1 with
 |some r=>pure (.done (some r,u.2.1,u.2.2.1,u.2.2.2.1,u.2.2.2.2.1))
 |none=>do
  bj (u.2.2.2.2.1+1)
  pure (.yield (none,u.2.1,u.2.2.1,u.2.2.2.1,u.2.2.2.2.1+1))
noncomputable def O0(a b:Array Keyed)(g:Nat)(t:U6):SM (ForInStep U5):=
 match t.1 with
 |some r=>pure (.done (some r,t.2.1,t.2.2.1,t.2.2.2.1,g))
 |none=>do
  rule "list.sort.gallop"
  let u<-forIn [0:a.size+b.size] ((none,t.2.1,t.2.2.1,t.2.2.2.1,g+1,t.2.2.2.2.1,t.2.2.2.2.2):U7) λ_ u=>Rx a b u.2.1 u.2.2.1 u.2.2.2.1 u.2.2.2.2.1 u.2.2.2.2.2.1 u.2.2.2.2.2.2
  OZ u
noncomputable def O1(a b:Array Keyed)(na nb:Nat)(out:Array Keyed)(g:Nat):SM (ForInStep U5):=do
 let t<-forIn [0:a.size+b.size] ((none,na,nb,out,0,0):U6) λ_ t=>OY a b g t.2.1 t.2.2.1 t.2.2.2.1 t.2.2.2.2.1 t.2.2.2.2.2
 O0 a b g t
def Kz(a b:Array Keyed):lS a b=(do
  rule "list.sort.merge-hi"
  let x<-elem' a (a.size-1)
  if a.size-1==0 then return EA a b #[x] (a.size-1) b.size
  if b.size==1 then return M5 a b #[x] (a.size-1) b.size
  let g:=gallopOf (<-get)
  let s<-forIn [0:a.size+b.size] ((none,a.size-1,b.size,#[x],g):U5) λ_ s=>O1 a b s.2.1 s.2.2.1 s.2.2.2.1 s.2.2.2.2
  match s.1 with
  |some r=>pure r
  |none=>unsupported "internal:list.sort.merge-bound"):=by kernel_rfl
def Mg.hA{a b:Array Keyed}{zt ak:SortSt}{ia ib:Nat}{Q':Option Nat->SortSt->Prop}(G:Mg prog w A E s κ P r a b zt)(Bi:ib-1<b.size)(hS:Sm zt ak)(tq:1<=ia)(T3:ia<=a.size)(hq:∀k,k<=ia->(∀x∈(a.toList.take ia).drop k,∀y∈b.toList.take ib,le r y x)->(∀y∈a.toList.take k,le r y b[ib-1])->Q' (some k) ak):
  wpS (model prog w) A E s (cc false b[ib-1] a 0 ia (ia-1)) Q' ak:=by
 have e:sg a 0 ia=a.toList.take ia:=by unfold sg;rw[YQ]
 refine cP G.L G.O (hS.k.trans G.hk) (G.hb _ (Xo _)) G.ha (by lia) (by lia) (by rw[e];exact G.sa.sublist (XR _ _)) λk hk g1 g2=>hq k hk (λx hx=>?_) (λx hx=>?_)
 .have:=g2 x (by rw[e];exact hx)
  unfold tm at this
  have h':r b[ib-1] x=true:=by simpa using this
  exact uB G.O G.sb Bi (G.O.of_lt h')
 .have:=g1 x (by rw[e,aaq,aai hk];exact hx)
  unfold tm at this
  simpa[le]using this
def Mg.hB{a b:Array Keyed}{zt ak:SortSt}{ia ib:Nat}{Q':Option Nat->SortSt->Prop}(G:Mg prog w A E s κ P r a b zt)(tq:ia-1<a.size)(hS:Sm zt ak)(Bi:1<=ib)(T4:ib<=b.size)(hq:∀k,k<=ib->(∀x∈(b.toList.take ib).drop k,∀y∈a.toList.take ia,le r y x)->(∀y∈b.toList.take k,le r y a[ia-1])->Q' (some k) ak):
  wpS (model prog w) A E s (cc true a[ia-1] b 0 ib (ib-1)) Q' ak:=by
 have e:sg b 0 ib=b.toList.take ib:=by unfold sg;rw[YQ]
 refine cP G.L G.O (hS.k.trans G.hk) (G.ha _ (Xo _)) G.hb (by lia) (by lia) (by rw[e];exact G.sb.sublist (XR _ _)) λk hk g1 g2=>hq k hk (λx hx=>?_) (λx hx=>?_)
 .exact uB G.O G.sa tq (g2 x (by rw[e];exact hx))
 .exact G.O.of_lt (g1 x (by rw[e,aaq,aai hk];exact hx))
abbrev HI(r:Keyed->Keyed->Bool)(a b:Array Keyed)(zt:SortSt)(K:Nat)(x:ForInStep U6)(ak:SortSt):Prop:=match x with
 | .done c=>Qq r a b (Ky r a b K) zt c ak
 | .yield c=>Pq (Ky r a b K) zt c ak
abbrev HJ(r:Keyed->Keyed->Bool)(a b:Array Keyed)(zt:SortSt)(K:Nat)(x:ForInStep U7)(ak:SortSt):Prop:=match x with
 | .done c=>Qq r a b (IL r a b K) zt c ak
 | .yield c=>Pq (IL r a b K) zt c ak
abbrev H5(r:Keyed->Keyed->Bool)(a b:Array Keyed)(zt:SortSt)(K:Nat)(x:ForInStep U5)(ak:SortSt):Prop:=match x with
 | .done c=>Q1 r a b zt c ak
 | .yield c=>Pq (Rw r a b K) zt c ak
section
variable {a b out:Array Keyed}{zt ak:SortSt}{ia ib g ac bc K:Nat}
def KA(G:Mg prog w A E s κ P r a b zt)(gc:∀j,j=1->∀x∈b.toList.take j,∀y∈a.toList,le r x y)(hS:Sm zt ak)(h:Hi r a b K out ia ib):wpS (model prog w) A E s (OY a b g ia ib out ac bc) (HI r a b zt K) ak:=by
 have hP:=h.m
 have x1:=h.x1
 have x2:=h.x2
 have x3:=h.x3
 have x4:=h.x4
 have x5:=h.x5
 have Bi:ib-1<b.size:=by lia
 have tq:ia-1<a.size:=by lia
 unfold OY
 refine wpS_bind (bu Bi (wpS_bind (bu tq (wpS_bind (G.L _ _ _ _ (G.hb _ (Xo _)) (G.ha _ (Xo _)) (hS.k.trans G.hk) ?_)))))
 cases bw:r b[ib-1] a[ia-1]with
 |true=>
  dsimp only
  rw[WO rfl]
  refine wpS_bind (bu tq ?_)
  have nr:=hP.nZ G.sa x1 tq (uB G.O G.sb Bi (G.O.of_lt bw))
  refine f_ (λe1=>?_) (λe1=>?_)
  .exact wpS_pure ⟨hS,.inl ⟨_,rfl,nr.p.done,nr.done G.sa G.sb (.inl (by simpa using e1))⟩⟩
  .have p9:1<=ia-1:=by have:=bne e1;lia
   refine f_ (λ_=>?_) (λ_=>?_)
   .exact wpS_pure ⟨hS,.inr ⟨_,_,_,_,_,rfl,nr,p9,by lia,by lia,by lia,by lia⟩⟩
   .exact wpS_pure ⟨hS,_,_,_,_,_,rfl,nr,p9,by lia,by lia,by lia,by lia⟩
 |false=>
  dsimp only
  rw[WV Wt]
  refine wpS_bind (bu Bi ?_)
  have nr:=hP.n6 G.sb (show 1<=ib by lia) Bi (uB G.O G.sa tq bw)
  refine f_ (λe1=>?_) (λe1=>?_)
  .exact wpS_pure ⟨hS,.inl ⟨_,rfl,nr.p.first,nr.first G.sa G.sb (gc _ (by simpa using e1))⟩⟩
  .have p9:2<=ib-1:=by have:=bne e1;lia
   refine f_ (λ_=>?_) (λ_=>?_)
   .exact wpS_pure ⟨hS,.inr ⟨_,_,_,_,_,rfl,nr,x1,by lia,p9,by lia,by lia⟩⟩
   .exact wpS_pure ⟨hS,_,_,_,_,_,rfl,nr,x1,by lia,p9,by lia,by lia⟩
def yT(G:Mg prog w A E s κ P r a b zt)(hS:Sm zt ak)(hP:Mh r a b out ia ib)(x1:1<=ia)(x2:ia<=a.size)(x3:2<=ib)(x4:ib<=b.size)(x5:K+(ia-1)+ib<=a.size+b.size)(Gp:ia-1<a.size)(y7:∀y∈b.toList.take ib,le r y a[ia-1]):
  wpS (model prog w) A E s (Cd a b ia ib out g ac bc) (HJ r a b zt K) ak:=by
 unfold Cd
 refine wpS_bind (bu Gp ?_)
 have B_:=hP.nZ G.sa x1 Gp y7
 refine f_ (λe5=>?_) (λe5=>?_)
 .exact wpS_pure ⟨hS,.inl ⟨_,rfl,B_.p.done,B_.done G.sa G.sb (.inl (by simpa using e5))⟩⟩
 have Kt:1<=ia-1:=by have:=bne e5;lia
 refine f_ (λ_=>?_) (λ_=>?_)
 .exact wpS_pure ⟨hS,.inr ⟨_,_,_,_,_,_,rfl,B_,Kt,by lia,x3,x4,x5⟩⟩
 .exact wpS_pure ⟨hS,_,_,_,_,_,_,rfl,B_,Kt,by lia,x3,x4,x5⟩
def yU(G:Mg prog w A E s κ P r a b zt)(gc:∀j,j=1->∀x∈b.toList.take j,∀y∈a.toList,le r x y)(hS:Sm zt ak)(hP:Mh r a b out ia ib)(x1:1<=ia)(x2:ia<=a.size)(x3:2<=ib)(x4:ib<=b.size)(x5:K+ia+ib<=a.size+b.size)(Gq:ib-1<b.size)(y6:∀y∈a.toList.take ia,le r y b[ib-1]):
  wpS (model prog w) A E s (Ce a b ia ib out g ac bc) (HJ r a b zt (K+1)) ak:=by
 unfold Ce
 refine wpS_bind (bu Gq ?_)
 have Ca:=hP.n6 G.sb (show 1<=ib by lia) Gq y6
 refine f_ (λe3=>?_) (λe3=>?_)
 .exact wpS_pure ⟨hS,.inl ⟨_,rfl,Ca.p.first,Ca.first G.sa G.sb (gc _ (by simpa using e3))⟩⟩
 have M4:2<=ib-1:=by have:=bne e3;lia
 have Gp:ia-1<a.size:=by lia
 refine wpS_bind (bu Gp (wpS_bind (G.hB Gp hS (by lia) (by lia) λk Rv g1 g2=>?_)))
 dsimp only
 refine f_ (λOV=>?_) (λOV=>?_)
 .have Cb:=Ca.ph (k:=k) G.sb Rv (by lia) g1
  refine f_ (λe4=>?_) (λe4=>?_)
  .exact wpS_pure ⟨hS,.inl ⟨_,rfl,Cb.p.first,Cb.first G.sa G.sb (gc _ (by simpa using e4))⟩⟩
  refine f_ (λe6=>?_) (λe6=>?_)
  .exact wpS_pure ⟨hS,.inl ⟨_,rfl,Cb.p.done,Cb.done G.sa G.sb (.inr (by simpa using e6))⟩⟩
  exact yT G hS Cb x1 x2 (by have:=bne e4;have:=bne e6;lia) (by lia) (by lia) Gp g2
 .exact yT G hS Ca x1 x2 M4 (by lia) (by lia) Gp (by rw[show ib-1=k by lia];exact g2)
def yV(G:Mg prog w A E s κ P r a b zt)(gc:∀j,j=1->∀x∈b.toList.take j,∀y∈a.toList,le r x y)(hS:Sm zt ak)(h:Hi r a b K out ia ib):wpS (model prog w) A E s (Cf a b ia ib out ac bc g) (HJ r a b zt (K+1)) ak:=by
 have hP:=h.m
 have x1:=h.x1
 have x2:=h.x2
 have x3:=h.x3
 have x4:=h.x4
 have x5:=h.x5
 have Gq:ib-1<b.size:=by lia
 unfold Cf bj
 refine wpS_bind (wpS_modify ?_)
 refine wpS_bind (bu Gq (wpS_bind (G.hA Gq hS.setG x1 x2 λk Gm k1 k2=>?_)))
 dsimp only
 refine f_ (λOW=>?_) (λOW=>?_)
 .have Cc:=hP.pj (k:=k) G.sa Gm x2 k1
  refine f_ (λe1=>?_) (λe1=>?_)
  .exact wpS_pure ⟨hS.setG,.inl ⟨_,rfl,Cc.p.done,Cc.done G.sa G.sb (.inl (by simpa using e1))⟩⟩
  exact yU G gc hS.setG Cc (by have:=bne e1;lia) (by lia) x3 x4 (by lia) Gq k2
 .exact yU G gc hS.setG hP x1 x2 x3 x4 x5 Gq (by rw[show ia=k by lia];exact k2)
def KC(G:Mg prog w A E s κ P r a b zt)(gc:∀j,j=1->∀x∈b.toList.take j,∀y∈a.toList,le r x y)(hS:Sm zt ak)(h:Hi r a b K out ia ib):wpS (model prog w) A E s (Rx a b ia ib out g ac bc) (HJ r a b zt (K+1)) ak:=
 f_ (λ_=>yV G gc hS h) λ_=>yV G gc hS h
def Hi.less(h:Hi r a b (K+1) out ia ib):Hi r a b K out ia ib:=⟨h.m,h.x1,h.x2,h.x3,h.x4,by have:=h.x5;lia⟩
def KD{u:U7}(h:Qq r a b (IL r a b K) zt u ak):wpS (model prog w) A E s (OZ u) (H5 r a b zt K) ak:=by
 obtain⟨c,d⟩:=u
 obtain⟨hS,⟨o,hc,hr⟩|⟨ia,ib,out,g',n,m,hc,hL⟩⟩:=h
 .have kJ:c=some o:=hc
  subst kJ
  exact wpS_pure ⟨hS,o,rfl,hr⟩
 .cases hc
  unfold OZ bj
  exact wpS_bind (wpS_modify (wpS_pure ⟨hS.setG,_,_,_,_,rfl,hL⟩))
def KG{t:U6}(G:Mg prog w A E s κ P r a b zt)(gc:∀j,j=1->∀x∈b.toList.take j,∀y∈a.toList,le r x y)(tu:1<=a.size+b.size)(h:Qq r a b (Ky r a b K) zt t ak):wpS (model prog w) A E s (O0 a b g t) (H5 r a b zt (K+1)) ak:=by
 obtain⟨c,d⟩:=t
 obtain⟨hS,⟨o,hc,hr⟩|⟨ia,ib,out,n,m,hc,hL⟩⟩:=h
 .have kJ:c=some o:=hc
  subst kJ
  exact wpS_pure ⟨hS,o,rfl,hr⟩
 .cases hc
  unfold O0
  refine wpS_bind (wpS_lift (YA ⟨rfl,?_⟩))
  refine wpS_bind (wpS_mono (wpS_forRange
   (I:=λj=>match j with|0=>Pq (IL r a b K) zt|_+1=>Pq (IL r a b (K+1)) zt)
   (Q:=Qq r a b (IL r a b (K+1)) zt) ?step ?fin ⟨hS,_,_,_,_,_,_,rfl,hL⟩) λu cB h2=>KD h2)
  case fin=>
   intro c cB h2
   rw[show max 0 (a.size+b.size)=(a.size+b.size-1)+1 by lia]at h2
   exact⟨h2.1,.inr h2.2⟩
  case step=>
   intro j c cB _ _ h2
   have h3:Sm zt cB/\∃ia ib out g n m,c=(none,ia,ib,out,g,n,m)/\Hi r a b K out ia ib:=by
    cases j with
    |zero=>exact h2
    |succ j=>
     obtain⟨z1,ia,ib,out,g,n,m,z2,z3⟩:=h2
     exact⟨z1,ia,ib,out,g,n,m,z2,z3.less⟩
   obtain⟨z1,ia,ib,out,g,n,m,rfl,z3⟩:=h3
   exact wpS_mono (KC G gc z1 z3) λx _ h=>by cases x<;>exact h
def KH(G:Mg prog w A E s κ P r a b zt)(gc:∀j,j=1->∀x∈b.toList.take j,∀y∈a.toList,le r x y)(tu:1<=a.size+b.size)(hS:Sm zt ak)(h:Hi r a b K out ia ib):wpS (model prog w) A E s (O1 a b ia ib out g) (H5 r a b zt (K+1)) ak:=by
 unfold O1
 refine wpS_bind (wpS_mono (wpS_forRange (I:=λ_=>Pq (Ky r a b K) zt) (Q:=Qq r a b (Ky r a b K) zt) ?step (λc cB h2=>⟨h2.1,.inr h2.2⟩) ⟨hS,_,_,_,_,_,rfl,h⟩) λt cB h2=>KG G gc tu h2)
 intro _ c cB _ _ h2
 obtain⟨z1,ia,ib,out,n,m,rfl,z3⟩:=h2
 exact wpS_mono (KA G gc z1 z3) λx _ h=>by cases x<;>exact h
end
def wI{a b:Array Keyed}{zt:SortSt}{Q:Array Keyed->SortSt->Prop}(L:kE prog w A E s κ P r)(O:Ord r)(hk:kindOf zt=κ)(ha:∀x∈a,P x)(hb:∀x∈b,P x)(h1:1<=a.size)(h2:1<=b.size)
  (sa:a.toList.Pairwise (le r)) (sb:b.toList.Pairwise (le r)) (first:∀y∈a.toList,le r b[0] y) (final:∀y∈b.toList,∀x∈a.toList.drop (a.size-1),le r y x)
  (q:∀out ak,out.toList.Perm (a.toList++b.toList)->out.toList.Pairwise (le r)->Sm zt ak->Q out ak):wpS (model prog w) A E s (lS a b) Q zt:=by
 have gc:∀j,j=1->∀x∈b.toList.take j,∀y∈a.toList,le r x y:=λj hj x hx=>by
  subst hj
  have:=dI b (i:=1)
  rw[<-this,gP (by lia),Ww]at hx
  rw[hx];exact first
 have G:Mg prog w A E s κ P r a b zt:=⟨L,O,hk,ha,hb,sa,sb⟩
 rw[Kz]
 refine wpS_bind (wpS_lift (YA ⟨rfl,?_⟩))
 refine wpS_bind (bu (show a.size-1<a.size by lia) ?_)
 have p0:Mh r a b #[a[a.size-1]] (a.size-1) b.size:=by
  have:Mh r a b #[] a.size b.size:=⟨by
   unfold Ph
   rw[Xg (by simp),Xg (by simp)]
   simp,by simp,by simp,by simp⟩
  refine this.nZ sa h1 (by lia) λy hy=>?_
  have iV:a.size-1<a.toList.length:=by simp;lia
  refine final y (Yb hy) _ ?_
  rw[Xs iV]
  simp
 refine f_ (λc1=>?_) (λc1=>?_)
 .exact wpS_pure (q _ _ p0.p.done (p0.done sa sb (.inl (by simpa using c1))) .rfl')
 have Bj:1<=a.size-1:=by have:=bne c1;lia
 refine f_ (λc2=>?_) (λc2=>?_)
 .exact wpS_pure (q _ _ p0.p.first (p0.first sa sb (gc _ (by simpa using c2))) .rfl')
 have Ez:2<=b.size:=by have:=bne c2;lia
 refine wpS_bind (wpS_get ?_)
 refine wpS_bind (wpS_mono (wpS_forRange (I:=λi=>Pq (Rw r a b (i+1)) zt) (Q:=Q1 r a b zt) ?step ?fin ⟨.rfl',_,_,_,_,rfl,p0,Bj,by lia,Ez,WE _,by lia⟩) ?post)
 case post=>
  rintro⟨c,d⟩ ak ⟨hS,o,hc,hr,Gn⟩
  have kJ:c=some o:=hc
  subst kJ
  exact wpS_pure (q o ak hr Gn hS)
 case fin=>
  rintro c ak ⟨_,ia,ib,out,g,_,_,x1,x2,x3,x4,x5⟩
  lia
 case step=>
  rintro i c fD _ _ ⟨OX,ia,ib,out,g,rfl,hL⟩
  exact wpS_mono (KH G gc (by lia) OX hL) λx _ h=>by cases x<;>exact h
end
noncomputable def gt(xs:Array Keyed)(i:Nat):Keyed:=xs[i]?.getD (.none,.none)
def iq(h:i<xs.size):gt xs i=xs[i]:=by unfold gt;rw[W5 h];rfl
def So(r:Keyed->Keyed->Bool)(xs:Array Keyed)(lo hi:Nat):Prop:=∀i j,lo<=i->i<=j->j<hi->le r (gt xs i) (gt xs j)
def De(r:Keyed->Keyed->Bool)(xs:Array Keyed)(lo hi:Nat):Prop:=∀i j,lo<=i->i<=j->j<hi->le r (gt xs j) (gt xs i)
def gQ(hj:j<=xs.size)(k:Nat):gt (mirror xs i j ((j-i)/2)) k=if i<=k/\k<j then gt xs (i+j-1-k) else gt xs k:=by
 unfold gt
 rw[getElem?_mirror_all hj k]
 split<;>rfl
def jO(hs:gf<xs.size)(hd:d<=gf)(k:Nat):gt (bubble xs gf d) k=if k=gf-d then gt xs gf else if gf-d<k/\k<=gf then gt xs (k-1) else gt xs k:=by
 unfold gt
 rw[getElem?_bubble hs d hd k]
 split
 .rfl
 .split<;>rfl
structure At(zt ak:SortSt)(lo hi:Nat):Prop where
 a:Ar zt ak
 o:∀i,i<lo\/hi<=i->gt (arrOf ak) i=gt (arrOf zt) i
theorem At.rfl'{zt:SortSt}{lo hi:Nat}:At zt zt lo hi:=⟨.rfl',λ_ _=>rfl⟩
theorem At.trans{zt ak KI:SortSt}{lo hi:Nat}(h:At zt ak lo hi)(h':At ak KI lo hi):At zt KI lo hi:=
 ⟨⟨h'.a.k.trans h.a.k,h'.a.a.trans h.a.a,h'.a.p.trans h.a.p,h'.a.f.trans h.a.f⟩,λi hi=>(h'.o i hi).trans (h.o i hi)⟩
theorem At.mirror{zt:SortSt}{lo hi i j:Nat}(hj:j<=(arrOf zt).size)(h1:lo<=i)(h2:j<=hi):At zt (setArr zt (mirror (arrOf zt) i j ((j-i)/2))) lo hi:=
 ⟨(Ar.rfl').set (mirror_perm _ _ _ _),λk hk=>by
  show gt (PyProof.Rows.mirror (arrOf zt) i j ((j-i)/2)) k=_
  rw[gQ hj,WV (by lia)]⟩
theorem At.bubble{zt:SortSt}{lo hi gf d:Nat}(hs:gf<(arrOf zt).size)(hd:d<=gf)(h1:lo<=gf-d)(h2:gf<hi):At zt (setArr zt (bubble (arrOf zt) gf d)) lo hi:=
 ⟨(Ar.rfl').set (bubble_perm _ _ _),λk hk=>by
  show gt (PyProof.Rows.bubble (arrOf zt) gf d) k=_
  rw[jO hs hd,WV (by lia),WV (by lia)]⟩
section
variable {prog:Program}{w:World}{A:Around}{E:Value->Shared->Prop}{s:Shared}{κ:SortKind}{P:Keyed->Prop}{r:Keyed->Keyed->Bool}
def jP{i j:Nat}{zt:SortSt}{Q:Option Bool->SortSt->Prop}(L:kE prog w A E s κ P r)(hk:kindOf zt=κ)(hp:∀x∈arrOf zt,P x)(hi:i<(arrOf zt).size)(hj:j<(arrOf zt).size)(q:Q (some (r (gt (arrOf zt) i) (gt (arrOf zt) j))) zt):wpS (model prog w) A E s (ltAt' i j) Q zt:=by
 rw[iq hi,iq hj]at q
 rw[ltAt'_eq]
 exact wpS_bind (wpS_get (wpS_bind (bu hi (wpS_bind (bu hj (L _ _ _ _ (hp _ (Xo _)) (hp _ (Xo _)) hk q))))))
def pA{lo n ok:Nat}{zt:SortSt}{Q:Bool->SortSt->Prop}(L:kE prog w A E s κ P r)(O:Ord r)(hk:kindOf zt=κ)(hp:∀x∈arrOf zt,P x)(hz:lo+n<=(arrOf zt).size)(aR:ok<=n)(hs:So r (arrOf zt) lo (lo+ok))(q:∀ak,At zt ak lo (lo+n)->So r (arrOf ak) lo (lo+n)->Q true ak):wpS (model prog w) A E s (binarySort' lo n ok) Q zt:=by
 rw[binarySort'_eq]
 refine wpS_bind (wpS_mono (wpS_forRange (I:=λk c ak=>c=(none,())/\At zt ak lo (lo+n)/\So r (arrOf ak) lo (lo+min k n)) (Q:=λc ak=>c=(none,())/\At zt ak lo (lo+n)/\So r (arrOf ak) lo (lo+n)) ?_ ?_ ⟨rfl,.rfl',λi j h1 h2 h3=>?_⟩) ?_)
 .rintro k c fD k1 k2 ⟨rfl,a1,s1⟩
  rw[show min k n=k by lia]at s1
  have hsz:=a1.a.size
  refine wpS_bind (wpS_mono (wpS_forRange (I:=λx c ak=>ak=fD/\∃l u,c=(none,l,u)/\l<=u/\u<=k/\u-l<=k-x/\(∀i,i<l->le r (gt (arrOf fD) (lo+i)) (gt (arrOf fD) (lo+k)))/\(∀i,u<=i->i<k->le r (gt (arrOf fD) (lo+k)) (gt (arrOf fD) (lo+i))))
   (Q:=λc ak=>ak=fD/\∃l u,c=(none,l,u)/\l<=k/\(∀i,i<l->le r (gt (arrOf fD) (lo+i)) (gt (arrOf fD) (lo+k)))/\(∀i,l<=i->i<k->le r (gt (arrOf fD) (lo+k)) (gt (arrOf fD) (lo+i)))) ?_ ?_ ⟨rfl,0,k,rfl,by lia,by lia,by lia,λi h=>by lia,λi h1 h2=>by lia⟩) ?_)
  .rintro x c cB _ hx ⟨rfl,l,u,rfl,z1,z2,z3,z4,z5⟩
   dsimp only
   refine f_ (λhl=>?_) (λhl=>?_)
   .exact wpS_pure ⟨rfl,l,u,rfl,by lia,z4,λi h1 h2=>z5 i (by lia) h2⟩
   .refine wpS_bind (jP L (a1.a.k.trans hk) (a1.a.all hp) (by lia) (by lia) ?_)
    cases e:r (gt (arrOf cB) (lo+k)) (gt (arrOf cB) (lo+(l+u)/2))with
    |true=>exact wpS_pure ⟨rfl,l,_,rfl,by lia,by lia,by lia,z4,λi h1 h2=>O.trans (O.of_lt e) (s1 _ _ (by lia) (by lia) (by lia))⟩
    |false=>exact wpS_pure ⟨rfl,_,u,rfl,by lia,z2,by lia,λi h=>O.trans (s1 (lo+i) (lo+(l+u)/2) (by lia) (by lia) (by lia)) e,z5⟩
  .rintro c cB ⟨rfl,l,u,rfl,z1,z2,z3,z4,z5⟩
   exact⟨rfl,l,u,rfl,by lia,z4,λi h1 h2=>z5 i (by lia) h2⟩
  .rintro c cB ⟨rfl,l,u,rfl,z1,z4,z5⟩
   dsimp only
   rw[moveDown'_eq]
   refine wpS_bind (wpS_modify (wpS_pure ⟨rfl,a1.trans (At.bubble (by lia) (by lia) (by lia) (by lia)),?_⟩))
   rw[show min (k+1) n=k+1 by lia]
   have Gr:lo+k<(arrOf cB).size :=by lia
   intro i j h1 h2 h3
   show le r (gt (bubble (arrOf cB) (lo+k) (lo+k-(lo+l))) i) (gt (bubble (arrOf cB) (lo+k) (lo+k-(lo+l))) j)
   have a4:∀i,lo<=i->i<lo+l->le r (gt (arrOf cB) i) (gt (arrOf cB) (lo+k)):=λi h h'=>by
    have:=z4 (i-lo) (by lia)
    rwa [show lo+(i-lo)=i by lia]at this
   have a5:∀i,lo+l<=i->i<lo+k->le r (gt (arrOf cB) (lo+k)) (gt (arrOf cB) i):=λi h h'=>by
    have:=z5 (i-lo) (by lia) (by lia)
    rwa [show lo+(i-lo)=i by lia]at this
   rw[jO Gr (by lia),jO Gr (by lia),show lo+k-(lo+k-(lo+l))=lo+l by lia]
   repeat' split
   all_goals first
    |(exfalso;lia)
    |exact O.refl _
    |exact a4 _ (by lia) (by lia)
    |exact a5 _ (by lia) (by lia)
    |exact s1 _ _ (by lia) (by lia) (by lia)
 .rintro c ak ⟨hc,a1,s1⟩
  rw[show min (max (max ok 1) n) n=n by lia]at s1
  exact⟨hc,a1,s1⟩
 .by_cases e:ok=0
  .rw[show i=j by lia];exact O.refl _
  .exact hs i j h1 h2 (by lia)
 .rintro c fD ⟨rfl,a1,s1⟩
  exact wpS_pure (q fD a1 s1)
def So.one(O:Ord r)(xs:Array Keyed)(lo:Nat):So r xs lo (lo+1):=λi j h1 h2 h3=>by rw[show i=j by lia];exact O.refl _
def De.one(O:Ord r)(xs:Array Keyed)(lo:Nat):De r xs lo (lo+1):=λi j h1 h2 h3=>by rw[show i=j by lia];exact O.refl _
def So.more(O:Ord r){xs:Array Keyed}{lo n:Nat}(h:So r xs lo (lo+n))(h1:1<=n)(hl:le r (gt xs (lo+n-1)) (gt xs (lo+n))):So r xs lo (lo+(n+1)):=λi j g1 g2 g3=>by
 rcases Xr j (lo+n)with z|z
 .exact h i j g1 g2 z
 .have e:j=lo+n:=by lia
  subst e
  rcases Xr i (lo+n)with y|y
  .exact O.trans (h i (lo+n-1) g1 (by lia) (by lia)) hl
  .rw[show i=lo+n by lia];exact O.refl _
def De.more(O:Ord r){xs:Array Keyed}{lo n:Nat}(h:De r xs lo (lo+n))(h1:1<=n)(hl:le r (gt xs (lo+n)) (gt xs (lo+n-1))):De r xs lo (lo+(n+1)):=λi j g1 g2 g3=>by
 rcases Xr j (lo+n)with z|z
 .exact h i j g1 g2 z
 .have e:j=lo+n:=by lia
  subst e
  rcases Xr i (lo+n)with y|y
  .exact O.trans hl (h i (lo+n-1) g1 (by lia) (by lia))
  .rw[show i=lo+n by lia];exact O.refl _
def Eqv(r:Keyed->Keyed->Bool)(xs ys:Array Keyed):Prop:=∀k,le r (gt xs k) (gt ys k)/\le r (gt ys k) (gt xs k)
def iG(O:Ord r){xs:Array Keyed}{i j:Nat}(hj:j<=xs.size)(h:∀k,i<=k->k<j->le r (gt xs k) (gt xs (j-1))/\le r (gt xs (j-1)) (gt xs k)):Eqv r (mirror xs i j ((j-i)/2)) xs:=λk=>by
 rw[gQ hj]
 split
 .rename_i z
  have h1:=h (i+j-1-k) (by lia) (by lia)
  have h2:=h k z.1 z.2
  exact⟨O.trans h1.1 h2.2,O.trans h2.1 h1.2⟩
 .exact⟨O.refl _,O.refl _⟩
def De.eqv(O:Ord r){xs ys:Array Keyed}{lo hi:Nat}(h:De r xs lo hi)(e:Eqv r ys xs):De r ys lo hi:=λi j h1 h2 h3=>O.trans (e j).1 (O.trans (h i j h1 h2 h3) (e i).2)
def De.turn{xs:Array Keyed}{lo n:Nat}(h:De r xs lo (lo+n))(hz:lo+n<=xs.size):So r (mirror xs lo (lo+n) ((lo+n-lo)/2)) lo (lo+n):=λi j h1 h2 h3=>by
 rw[gQ hz,gQ hz,WO (by lia),WO (by lia)]
 exact h _ _ (by lia) (by lia) (by lia)
def yW{α:Type}{x:SM α}{zt:SortSt}{Q:α->SortSt->Prop}{T:SortSt->Prop}(C:SortSt->Prop)(main:(∀s',C s'->T s')->wpS (model prog w) A E s x Q zt)(h:∀s',C s'->T s'):wpS (model prog w) A E s x Q zt:=main h
def tD{lo eY:Nat}{zt:SortSt}{Q:Option Nat->SortSt->Prop}(L:kE prog w A E s κ P r)(O:Ord r)(hk:kindOf zt=κ)(hp:∀x∈arrOf zt,P x)(hz:lo+eY<=(arrOf zt).size)(h1:1<=eY)(q:∀n ak,1<=n->n<=eY->At zt ak lo (lo+eY)->So r (arrOf ak) lo (lo+n)->Q (some n) ak):wpS (model prog w) A E s (countRun' lo eY) Q zt:=by
 rw[countRun'_eq]
 refine wpS_bind (wpS_mono (wpS_forRange (I:=λi c ak=>ak=zt/\∃n,c=(none,n)/\1<=n/\n=i/\n<=eY/\So r (arrOf zt) lo (lo+n))
  (Q:=λc ak=>ak=zt/\∃n,c=(none,n)/\1<=n/\n<=eY/\So r (arrOf zt) lo (lo+n)/\(n=eY\/r (gt (arrOf zt) (lo+n)) (gt (arrOf zt) (lo+n-1))=true)) ?_ ?_ ⟨rfl,1,rfl,by lia,by lia,h1,.one O _ _⟩) ?_)
 .rintro i c fD i1 i2 ⟨rfl,n,rfl,n1,n2,n3,s1⟩
  dsimp only
  refine wpS_bind (jP L hk hp (by lia) (by lia) ?_)
  cases e:r (gt (arrOf fD) (lo+n)) (gt (arrOf fD) (lo+n-1))with
  |true=>exact wpS_pure ⟨rfl,n,rfl,n1,n3,s1,.inr e⟩
  |false=>exact wpS_pure ⟨rfl,n+1,rfl,by lia,by lia,by lia,s1.more O n1 e⟩
 .rintro c fD ⟨rfl,n,rfl,n1,n2,n3,s1⟩
  exact⟨rfl,n,rfl,n1,n3,s1,.inl (by lia)⟩
 rintro c fD ⟨rfl,n,rfl,n1,n2,s1,O3⟩
 dsimp only
 refine f_ (λe1=>?_) (λe1=>?_)
 .exact wpS_pure (q n _ n1 n2 .rfl' s1)
 have p9:n<eY:=by have:=bne e1;lia
 have bQ:=O3.resolve_left (by lia)
 apply yW (λs'=>At fD s' lo (lo+eY)/\De r (arrOf s') lo (lo+(n+1)))
 .intro shared
  refine f_ (λGs=>?_) (λGs=>?_)
  rotate_left
  .have e:n=1:=by lia
   have d:De r (arrOf fD) lo (lo+(n+1)):=by
    subst e
    exact(De.one O _ _).more O (by lia) (O.of_lt bQ)
   apply shared fD ⟨.rfl',d⟩
  .refine wpS_bind (jP L hk hp (by lia) (by lia) ?_)
   cases e:r (gt (arrOf fD) lo) (gt (arrOf fD) (lo+n-1))with
   |true=>exact wpS_pure (q n _ n1 n2 .rfl' s1)
   |false=>
    dsimp only
    rw[WV Wt]
    refine wpS_bind (uw ?_)
    have all:∀k,lo<=k->k<lo+n->le r (gt (arrOf fD) k) (gt (arrOf fD) (lo+n-1))/\le r (gt (arrOf fD) (lo+n-1)) (gt (arrOf fD) k):=λk k1 k2=>⟨s1 k _ k1 (by lia) (by lia),O.trans e (s1 lo k (WE _) k1 k2)⟩
    have d0:De r (arrOf fD) lo (lo+n):=λi j g1 g2 g3=>O.trans (all j (by lia) g3).1 (all i g1 (by lia)).2
    exact shared _ ⟨At.mirror (by lia) (WE _) (by lia),(d0.more O n1 (O.of_lt bQ)).eqv O (iG O (by lia) all)⟩
 rintro s' ⟨a0,d0⟩
 have z0:=a0.a.size
 refine wpS_bind (wpS_lift (YA ⟨rfl,?_⟩))
 refine wpS_bind (wpS_mono (wpS_forRange (I:=λi c ak=>At fD ak lo (lo+eY)/\∃n' z,c=(none,n',z)/\2<=n'/\n'=i/\n'<=eY/\z+1<=n'/\De r (arrOf ak) lo (lo+n')/\∀k,lo+n'-(z+1)<=k->k<lo+n'->le r (gt (arrOf ak) k) (gt (arrOf ak) (lo+n'-1))/\le r (gt (arrOf ak) (lo+n'-1)) (gt (arrOf ak) k))
  (Q:=λc ak=>At fD ak lo (lo+eY)/\∃n' z,c=(none,n',z)/\2<=n'/\n'<=eY/\z+1<=n'/\De r (arrOf ak) lo (lo+n')/\∀k,lo+n'-(z+1)<=k->k<lo+n'->le r (gt (arrOf ak) k) (gt (arrOf ak) (lo+n'-1))/\le r (gt (arrOf ak) (lo+n'-1)) (gt (arrOf ak) k)) ?_ ?_ ⟨a0,n+1,0,rfl,by lia,by lia,by lia,by lia,d0,λk k1 k2=>?_⟩) ?_)
 .rintro i c cB i1 i2 ⟨a2,n',z,rfl,m1,m2,m3,m4,d2,eq2⟩
  have OH:=a2.a.size
  dsimp only
  refine wpS_bind (jP L (a2.a.k.trans hk) (a2.a.all hp) (by lia) (by lia) ?_)
  cases e:r (gt (arrOf cB) (lo+n')) (gt (arrOf cB) (lo+n'-1))with
  |true=>
   dsimp only
   rw[WO rfl]
   have d3:=d2.more O (by lia) (O.of_lt e)
   split
   .refine wpS_bind (uw (wpS_pure ⟨a2.trans (At.mirror (by lia) (by lia) (by lia)),n'+1,0,rfl,by lia,by lia,by lia,by lia,d3.eqv O (iG O (by lia) eq2),λk k1 k2=>?_⟩))
    rw[show k=lo+(n'+1)-1 by lia]
    exact⟨O.refl _,O.refl _⟩
   .refine wpS_pure ⟨a2,n'+1,0,rfl,by lia,by lia,by lia,by lia,d3,λk k1 k2=>?_⟩
    rw[show k=lo+(n'+1)-1 by lia]
    exact⟨O.refl _,O.refl _⟩
  |false=>
   dsimp only
   rw[WV Wt]
   refine wpS_bind (jP L (a2.a.k.trans hk) (a2.a.all hp) (by lia) (by lia) ?_)
   cases e':r (gt (arrOf cB) (lo+n'-1)) (gt (arrOf cB) (lo+n'))with
   |true=>exact wpS_pure ⟨a2,n',z,rfl,m1,m3,m4,d2,eq2⟩
   |false=>
    refine wpS_pure ⟨a2,n'+1,z+1,rfl,by lia,by lia,by lia,by lia,d2.more O (by lia) e',λk k1 k2=>?_⟩
    rw[show lo+(n'+1)-1=lo+n' by lia]
    rcases Xr k (lo+n')with y|y
    .have:=eq2 k (by lia) y
     exact⟨O.trans this.1 e,O.trans e' this.2⟩
    .rw[show k=lo+n' by lia]
     exact⟨O.refl _,O.refl _⟩
 .rintro c cB ⟨a2,n',z,rfl,m1,m2,m3,m4,d2,eq2⟩
  exact⟨a2,n',z,rfl,m1,m3,m4,d2,eq2⟩
 .rw[show k=lo+(n+1)-1 by lia]
  exact⟨O.refl _,O.refl _⟩
 rintro c ku ⟨a3,n',z,rfl,m1,m2,m4,d3,eq3⟩
 have V3:=a3.a.size
 dsimp only
 apply yW (λs'=>At fD s' lo (lo+eY)/\De r (arrOf s') lo (lo+n'))
 .intro shared
  refine f_ (λM6=>?_) (λM6=>?_)
  rotate_left
  .apply shared ku ⟨a3,d3⟩
  .refine wpS_bind (uw ?_)
   exact shared _ ⟨a3.trans (At.mirror (by lia) (by lia) (by lia)),d3.eqv O (iG O (by lia) eq3)⟩
 rintro s4 ⟨a4,d4⟩
 have V4:=a4.a.size
 refine wpS_bind (uw ?_)
 have a5:=a4.trans (At.mirror (i:=lo) (j:=lo+n') (by lia) (WE _) (show lo+n'<=lo+eY by lia))
 have s5:=d4.turn (by lia)
 refine wpS_bind (wpS_mono (wpS_forRange (I:=λi c ak=>At fD ak lo (lo+eY)/\∃m,c=(none,m)/\1<=m/\m=i/\m<=eY/\So r (arrOf ak) lo (lo+m))
  (Q:=λc ak=>At fD ak lo (lo+eY)/\∃m,c=(none,m)/\1<=m/\m<=eY/\So r (arrOf ak) lo (lo+m)) ?_ (λc ak ⟨y,m,y1,y2,_,y3,y4⟩=>⟨y,m,y1,y2,y3,y4⟩) ⟨a5,n',rfl,by lia,rfl,m2,s5⟩) ?_)
 .rintro i c wc i1 i2 ⟨a5,m,rfl,y1,y2,y3,y4⟩
  have V5:=a5.a.size
  dsimp only
  refine wpS_bind (jP L (a5.a.k.trans hk) (a5.a.all hp) (by lia) (by lia) ?_)
  cases e:r (gt (arrOf wc) (lo+m)) (gt (arrOf wc) (lo+m-1))with
  |true=>exact wpS_pure ⟨a5,m,rfl,y1,y3,y4⟩
  |false=>exact wpS_pure ⟨a5,m+1,rfl,by lia,by lia,by lia,y4.more O y1 e⟩
 .rintro c wc ⟨a5,m,rfl,y1,y3,y4⟩
  exact wpS_pure (q m wc y1 y3 a5 y4)
end
def pB(xs:Array Keyed)(i:Nat):gt xs i=xs.toList[i]?.getD (.none,.none):=by unfold gt;rw[Xe]
section
variable {r:Keyed->Keyed->Bool}{prog:Program}{w:World}{A:Around}{E:Value->Shared->Prop}{s:Shared}{κ:SortKind}{P:Keyed->Prop}
def qP{xs:Array Keyed}{lo n:Nat}(h:So r xs lo (lo+n))(hz:lo+n<=xs.size):(sg xs lo n).Pairwise (le r):=by
 rw[X5]
 intro i j hi hj Ge
 rw[dJ hz]at hi hj
 have e1:=fI (arr:=xs) hi hz
 have e2:=fI (arr:=xs) hj hz
 rw[Wq (by rw[dJ hz];lia)]at e1 e2
 rw[WU e1,WU e2,<-iq,<-iq]
 exact h _ _ (by lia) (by lia) (by lia)
def Gu{ms:List Keyed}{o:Nat}{a:Array Keyed}(h:o+ms.length<=a.size)(i:Nat):gt (ms.zipIdx.foldl (λa (p:Keyed×Nat)=>a.setIfInBounds (o+p.2) p.1) a) i=if i<o then gt a i else if h:i-o<ms.length then ms[i-o] else gt a i:=by
 rw[pB,pv ms o 0 a (by lia),aaH]
 have ht:(a.toList.take o).length =o:=by rw[XO,Wy];lia
 by_cases h1:i<o
 .rw[WO h1,WZ,Xj (by lia),Y0,WO h1,pB]
 .rw[WV h1,WZ,Xn (by lia),ht]
  by_cases h2:i-o<ms.length
  .rw[dif_pos h2,Xj h2,Wq h2]
   rfl
  .rw[dif_neg h2,Xn (by lia),aaB,pB]
   congr 2
   lia
def wJ{i sa na pw sb nb IM:Nat}{zt:SortSt}{Q:Bool->SortSt->Prop}(L:kE prog w A E s κ P r)(O:Ord r)(hk:kindOf zt=κ)(hp:∀x∈arrOf zt,P x)(hf:failedOf zt=none)(e1:(pendingOf zt)[i]?=some (sa,na,pw))(e2:(pendingOf zt)[i+1]?=some (sb,nb,IM))(T8:sb=sa+na)(h1:1<=na)(h2:1<=nb)(hz:sb+nb<=(arrOf zt).size)
  (KJ:So r (arrOf zt) sa sb) (KL:So r (arrOf zt) sb (sb+nb))
  (q:∀ak,kindOf ak=κ->(arrOf ak).Perm (arrOf zt)->failedOf ak=none->pendingOf ak=((pendingOf zt).setIfInBounds i (sa,na+nb,pw)).eraseIdxIfInBounds (i+1)->(∀i,i<sa\/sb+nb<=i->gt (arrOf ak) i=gt (arrOf zt) i)->So r (arrOf ak) sa (sb+nb)->Q true ak):wpS (model prog w) A E s (mergeAt' i) Q zt:=by
 have O4:So r (arrOf zt) sa (sa+na):=by rw[<-T8];exact KJ
 have T9:=qP O4 (by lia)
 have T_:=qP KL hz
 have KN:sb<(arrOf zt).size :=by lia
 have b0:∀j,sb<=j->j<sb+nb->le r (arrOf zt)[sb] (gt (arrOf zt) j):=λj j1 j2=>by
  rw[<-iq KN];exact KL sb j (WE _) j1 j2
 have whole:(∀x,sa<=x->x<sb->∀y,sb<=y->y<sb+nb->le r (gt (arrOf zt) x) (gt (arrOf zt) y))->So r (arrOf zt) sa (sb+nb):=λh x y x1 x2 x3=>by
  rcases Xr y sb with z|z
  .exact KJ x y x1 x2 z
  .rcases Xr x sb with z'|z'
   .exact h x x1 z' y z x3
   .exact KL x y z' x2 x3
 have Ry:∀{c:Nat},c<na->∃h,(sg (arrOf zt) sa na)[c]'h=gt (arrOf zt) (sa+c):=λ{c} hc=>by
  have hl:c<(sg (arrOf zt) sa na).length :=by rw[dJ (by lia)];exact hc
  refine⟨hl,?_⟩
  have e:=fI (arr:=arrOf zt) hc (show sa+na<=(arrOf zt).size by lia)
  rw[Wq hl]at e
  rw[WU e,<-iq]
 have Rz:∀{c:Nat},c<nb->∃h,(sg (arrOf zt) sb nb)[c]'h=gt (arrOf zt) (sb+c):=λ{c} hc=>by
  have hl:c<(sg (arrOf zt) sb nb).length :=by rw[dJ hz];exact hc
  refine⟨hl,?_⟩
  have e:=fI (arr:=arrOf zt) hc hz
  rw[Wq hl]at e
  rw[WU e,<-iq]
 rw[qJ]
 refine wpS_bind (wpS_get ?_)
 rw[e1,e2]
 dsimp only
 refine wpS_bind (B4 (wpS_bind (bu KN (wpS_bind (cP L O hk (hp _ (Xo _)) hp (by lia) (by lia) T9 λk Gm g1 g2=>?_)))))
 dsimp only
 have Gv:∀j,sa<=j->j<sa+k->le r (gt (arrOf zt) j) (arrOf zt)[sb]:=λj j1 j2=>by
  obtain⟨hl,e⟩:=Ry (show j-sa<na by lia)
  have:=g1 ((sg (arrOf zt) sa na)[j-sa]) (by rw[ZK];exact⟨j-sa,by rw[dJ (by lia)];lia,rfl⟩)
  rw[e,show sa+(j-sa)=j by lia]at this
  unfold tm at this
  simpa[le]using this
 have RA:∀j,sa+k<=j->j<sb->le r (arrOf zt)[sb] (gt (arrOf zt) j):=λj j1 j2=>by
  obtain⟨hl,e⟩:=Ry (show j-sa<na by lia)
  have:=g2 ((sg (arrOf zt) sa na)[j-sa]) (by rw[ZL];exact⟨j-sa-k,by lia,by congr 1;lia⟩)
  rw[e,show sa+(j-sa)=j by lia]at this
  unfold tm at this
  have h':r (arrOf zt)[sb] (gt (arrOf zt) j)=true:=by simpa using this
  exact O.of_lt h'
 by_cases c1:(na-k==0)=true
 .rw[WO c1]
  have Bj:k=na:=by
   have:na-k=0:=by simpa using c1
   lia
  exact wpS_pure (q _ hk (Zv _) hf rfl (λ_ _=>rfl) (whole λx x1 x2 y y1 y2=>O.trans (Gv x x1 (by lia)) (b0 y y1 y2)))
 rw[WV c1]
 have Bj:k<na:=by have:=bne c1;lia
 have RB:sa+k+(na-k)-1<(arrOf zt).size :=by lia
 refine wpS_bind (bu RB (wpS_bind (cP L O hk (hp _ (Xo _)) hp (by lia) (by lia) T_ λmR Ua g3 g4=>?_)))
 dsimp only
 have ze:(arrOf zt)[sa+k+(na-k)-1]=gt (arrOf zt) (sb-1):=by rw[<-iq RB];congr 1;lia
 rw[ze]at g3 g4
 have KO:∀j,sa<=j->j<sb->le r (gt (arrOf zt) j) (gt (arrOf zt) (sb-1)):=λj j1 j2=>KJ j (sb-1) j1 (by lia) (by lia)
 have KP:∀j,sb<=j->j<sb+mR->le r (gt (arrOf zt) j) (gt (arrOf zt) (sb-1)):=λj j1 j2=>by
  obtain⟨hl,e⟩:=Rz (show j-sb<nb by lia)
  have:=g3 ((sg (arrOf zt) sb nb)[j-sb]) (by rw[ZK];exact⟨j-sb,by rw[dJ hz];lia,rfl⟩)
  rw[e,show sb+(j-sb)=j by lia]at this
  exact O.of_lt this
 have RC:∀j,sb+mR<=j->j<sb+nb->le r (gt (arrOf zt) (sb-1)) (gt (arrOf zt) j):=λj j1 j2=>by
  obtain⟨hl,e⟩:=Rz (show j-sb<nb by lia)
  have:=g4 ((sg (arrOf zt) sb nb)[j-sb]) (by rw[ZL];exact⟨j-sb-mR,by lia,by congr 1;lia⟩)
  rw[e,show sb+(j-sb)=j by lia]at this
  exact this
 by_cases c2:(mR==0)=true
 .rw[WO c2]
  have Ez:mR=0:=by simpa using c2
  exact wpS_pure (q _ hk (Zv _) hf rfl (λ_ _=>rfl) (whole λx x1 x2 y y1 y2=>O.trans (KO x x1 x2) (RC y (by lia) y2)))
 rw[WV c2]
 have Ez:1<=mR:=by have:=bne c2;lia
 have hx:∀x∈(arrOf zt).extract (sa+k) sb,P x:=λx hx=>hp x (ux hx)
 have hy:∀x∈(arrOf zt).extract sb (sb+mR),P x:=λx hx=>hp x (ux hx)
 have sx:((arrOf zt).extract (sa+k) sb).size =na-k:=by rw[aaC];lia
 have sy:((arrOf zt).extract sb (sb+mR)).size =mR:=by rw[aaC];lia
 have lx:((arrOf zt).extract (sa+k) sb).toList =sg (arrOf zt) (sa+k) (na-k):=by
  have:=dM (arrOf zt) (sa+k) (na-k)
  rwa [show sa+k+(na-k)=sb by lia]at this
 have ly:((arrOf zt).extract sb (sb+mR)).toList =sg (arrOf zt) sb mR:=dM _ _ _
 have px:((arrOf zt).extract (sa+k) sb).toList.Pairwise (le r):=by
  rw[lx]
  exact qP (λx y x1 x2 x3=>KJ x y (by lia) x2 (by lia)) (by lia)
 have py:((arrOf zt).extract sb (sb+mR)).toList.Pairwise (le r):=by
  rw[ly]
  exact qP (λx y x1 x2 x3=>KL x y x1 x2 (by lia)) (by lia)
 have mem:∀{x:Keyed}{o m:Nat},o+m<=(arrOf zt).size ->x∈sg (arrOf zt) o m->∃j,o<=j/\j<o+m/\x=gt (arrOf zt) j:=λ{x o m} O5 hx=>by
  obtain⟨t,ht,rfl⟩:=Yv hx
  rw[dJ O5]at ht
  refine⟨o+t,by lia,by lia,?_⟩
  have e:=fI (arr:=arrOf zt) ht O5
  rw[Wq (by rw[dJ O5];lia)]at e
  rw[WU e,<-iq]
 have first:∀y∈((arrOf zt).extract (sa+k) sb).toList,le r (((arrOf zt).extract sb (sb+mR))[0]'(by lia)) y:=λy hy=>by
  rw[lx]at hy
  obtain⟨j,j1,j2,rfl⟩:=mem (by lia) hy
  have e:((arrOf zt).extract sb (sb+mR))[0]'(by lia)=(arrOf zt)[sb]:=by rw[Array.getElem_extract];rfl
  rw[e]
  exact RA j j1 (by lia)
 have final:∀y∈((arrOf zt).extract sb (sb+mR)).toList,∀x∈((arrOf zt).extract (sa+k) sb).toList.drop (((arrOf zt).extract (sa+k) sb).size-1),le r y x:=λy hy x hx=>by
  rw[ly]at hy
  obtain⟨j,j1,j2,rfl⟩:=mem (by lia) hy
  rw[sx,lx]at hx
  obtain⟨m,hm,rfl⟩:=Yv hx
  rw[Yz,dJ (by lia)]at hm
  rw[List.getElem_drop]
  have e:=fI (arr:=arrOf zt) (show na-k-1+m<na-k by lia) (show sa+k+(na-k)<=(arrOf zt).size by lia)
  rw[Wq (by rw[dJ (by lia)];lia)]at e
  rw[WU e,<-iq,show sa+k+(na-k-1+m)=sb-1 by lia]
  exact KP j j1 j2
 have KQ:∀(out:Array Keyed) (ak:SortSt),out.toList.Perm (((arrOf zt).extract (sa+k) sb).toList ++((arrOf zt).extract sb (sb+mR)).toList)->out.toList.Pairwise (le r)->Sm (setPending zt (((pendingOf zt).setIfInBounds i (sa,na+nb,pw)).eraseIdxIfInBounds (i+1))) ak->
   Q (failedOf (setArr ak (out.toList.zipIdx.foldl (λa (p,j)=>a.setIfInBounds (sa+k+j) p) (arrOf ak)))).isNone (setArr ak (out.toList.zipIdx.foldl (λa (p,j)=>a.setIfInBounds (sa+k+j) p) (arrOf ak))):=λout ak lU wK hS=>by
  have RD:failedOf ak=none:=hS.f.trans hf
  have e4:(failedOf (setArr ak (out.toList.zipIdx.foldl (λa (p,j)=>a.setIfInBounds (sa+k+j) p) (arrOf ak)))).isNone =true:=by show(failedOf ak).isNone =true;rw[RD];rfl
  rw[e4]
  have ha:arrOf ak=arrOf zt:=hS.a
  have hl:=lU.length_eq
  rw[WC,Wy (xs:=(arrOf zt).extract (sa+k) sb),Wy (xs:=(arrOf zt).extract sb (sb+mR)),sx,sy]at hl
  have RE:∀x∈out.toList,le r (arrOf zt)[sb] x/\le r x (gt (arrOf zt) (sb-1)):=λx hx=>by
   rcases WQ.mp (lU.mem_iff.mp hx)with z|z
   .rw[lx]at z
    obtain⟨j,j1,j2,rfl⟩:=mem (by lia) z
    exact⟨RA j j1 (by lia),KO j (by lia) (by lia)⟩
   .rw[ly]at z
    obtain⟨j,j1,j2,rfl⟩:=mem (by lia) z
    exact⟨b0 j j1 (by lia),KP j j1 j2⟩
  have hg:∀j,gt (arrOf (setArr ak (out.toList.zipIdx.foldl (λa (p,j)=>a.setIfInBounds (sa+k+j) p) (arrOf ak)))) j=if j<sa+k then gt (arrOf zt) j else if h:j-(sa+k)<out.toList.length then out.toList[j-(sa+k)] else gt (arrOf zt) j:=λj=>by
   show gt (out.toList.zipIdx.foldl (λa (p:Keyed×Nat)=>a.setIfInBounds (sa+k+p.2) p.1) (arrOf ak)) j=_
   rw[Gu (by rw[ha];lia),ha]
  refine q _ (hS.k.trans hk) ?_ RD hS.p (λj hj=>?_) (λx y x1 x2 x3=>?_)
  .show(out.toList.zipIdx.foldl (λa (p:Keyed×Nat)=>a.setIfInBounds (sa+k+p.2) p.1) (arrOf ak)).Perm (arrOf zt)
   rw[Zy,ha,pv _ (sa+k) 0 _ (by lia)]
   have e3:(arrOf zt).toList =(arrOf zt).toList.take (sa+k+0)++(((arrOf zt).extract (sa+k) sb).toList ++((arrOf zt).extract sb (sb+mR)).toList)++(arrOf zt).toList.drop (sa+k+0+out.toList.length):=by
    have t1:=eX (arrOf zt) (i:=sa+k) (k:=na-k)
    have t2:=eX (arrOf zt) (i:=sb) (k:=mR)
    rw[show sa+k+(na-k)=sb by lia]at t1
    rw[aaH,<-WZ,t1,t2,hl,show sa+k+(na-k+mR)=sb+mR by lia,YE]
   refine List.Perm.trans ?_ (List.Perm.of_eq e3.symm)
   exact(lU.append_left _).append_right _
  .rw[hg]
   split
   .rfl
   .rw[dif_neg (by lia)]
  .rw[hg,hg]
   by_cases a1:x<sa+k
   .rw[WO a1]
    by_cases a2:y<sa+k
    .rw[WO a2];exact KJ x y x1 x2 (by lia)
    .rw[WV a2]
     by_cases a3:y-(sa+k)<out.toList.length
     .rw[dif_pos a3];exact O.trans (Gv x x1 a1) (RE _ (X0 a3)).1
     .rw[dif_neg a3];exact O.trans (Gv x x1 a1) (b0 y (by lia) x3)
   .rw[WV a1,WV (show¬y<sa+k by lia)]
    by_cases a2:x-(sa+k)<out.toList.length
    .rw[dif_pos a2]
     by_cases a3:y-(sa+k)<out.toList.length
     .rw[dif_pos a3]
      rcases Xr x y with z|z
      .exact(X5.mp wK) _ _ a2 a3 (by lia)
      .have:x=y:=by lia
       subst this
       exact O.refl _
     .rw[dif_neg a3];exact O.trans (RE _ (X0 a2)).2 (RC y (by lia) x3)
    .rw[dif_neg a2,dif_neg (by lia)]
     exact KL x y (by lia) x2 x3
 by_cases c3:na-k<=mR
 .rw[WO c3]
  exact wpS_bind (wH L O hk hx hy (by lia) (by lia) px py first final λout ak lU wK hS=>wpS_bind (wpS_modify (wpS_bind (wpS_get (wpS_pure (KQ out ak lU wK hS))))))
 .rw[WV c3]
  exact wpS_bind (wI L O hk hx hy (by lia) (by lia) px py first final λout ak lU wK hS=>wpS_bind (wpS_modify (wpS_bind (wpS_get (wpS_pure (KQ out ak lU wK hS))))))
end
def pC(r:Keyed->Keyed->Bool)(xs:Array Keyed):Nat->List (Nat×Nat×Nat)->Nat->Prop
 |s,[],e=>s=e
 |s,(a,n,_)::l,e=>a=s/\1<=n/\So r xs s (s+n)/\pC r xs (s+n) l e
section
variable {r:Keyed->Keyed->Bool}{xs ys:Array Keyed}
def So.keep{lo hi:Nat}(h:So r xs lo hi)(e:∀i,lo<=i->i<hi->gt ys i=gt xs i):So r ys lo hi:=λi j h1 h2 h3=>by
 rw[e i h1 (by lia),e j (by lia) h3];exact h i j h1 h2 h3
theorem pC.snoc:∀{s:Nat}{l:List (Nat×Nat×Nat)}{e n:Nat},pC r xs s l e->1<=n->So r xs e (e+n)->pC r xs s (l++[(e,n,p)]) (e+n)
 |s,[],e,n,h,hn,hs=>by
  have h':s=e:=h
  subst h'
  exact⟨rfl,hn,hs,rfl⟩
 |s,(a,m,q)::l,e,n,⟨h1,h2,h3,h4⟩,hn,hs=>⟨h1,h2,h3,h4.snoc hn hs⟩
theorem pC.le:∀{s:Nat}{l:List (Nat×Nat×Nat)}{e:Nat},pC r xs s l e->s+l.length<=e
 |s,[],e,h=>aae h
 |s,(a,m,q)::l,e,⟨h1,h2,h3,h4⟩=>by have:=h4.le;rw[WM];lia
theorem pC.keep:∀{s:Nat}{l:List (Nat×Nat×Nat)}{e:Nat},pC r xs s l e->(∀i,s<=i->i<e->gt ys i=gt xs i)->pC r ys s l e
 |s,[],e,h,_=>h
 |s,(a,m,q)::l,e,⟨h1,h2,h3,h4⟩,k=>⟨h1,h2,h3.keep λi i1 i2=>k i i1 (by have:=h4.le;lia),h4.keep λi i1 i2=>k i (by lia) i2⟩
theorem pC.at:∀{s:Nat}{l:List (Nat×Nat×Nat)}{e i:Nat},pC r xs s l e->i+1<l.length->∃sa na pw sb nb IM,l[i]?=some (sa,na,pw)/\l[i+1]?=some (sb,nb,IM)/\sb=sa+na/\1<=na/\1<=nb/\sb+nb<=e/\s<=sa/\So r xs sa sb/\So r xs sb (sb+nb)/\
   ∀ys:Array Keyed,(∀i,i<sa\/sb+nb<=i->gt ys i=gt xs i)->So r ys sa (sb+nb)->pC r ys s ((l.set i (sa,na+nb,pw)).eraseIdx (i+1)) e
 |s,[],e,i,h,hi=>by simp at hi
 |s,[x],e,i,h,hi=>by simp at hi
 |s,(a,n,p)::(b,m,q)::l,e,0,⟨h1,h2,h3,h4,h5,h6,h7⟩,_=>by
  subst h1
  subst h4
  refine⟨a,n,p,a+n,m,q,rfl,rfl,rfl,h2,h5,by have:=h7.le;lia,WE _,h3,h6,λys k ks=>?_⟩
  refine⟨rfl,by lia,by rw[<-Nat.add_assoc];exact ks,?_⟩
  rw[<-Nat.add_assoc]
  exact h7.keep λi i1 i2=>k i (.inr i1)
 |s,(a,n,p)::y::l,e,i+1,⟨h1,h2,h3,h4⟩,hi=>by
  refine Jd (pC.at (i:=i) h4 (by simpa using hi)) λsa na pw sb nb IM g1 g2 g3 g4 g5 g6 g7 g8 g9 KR=>⟨sa,na,pw,sb,nb,IM,g1,g2,g3,g4,g5,g6,by lia,g8,g9,λys k ks=>?_⟩
  exact⟨h1,h2,h3.keep λi i1 i2=>k i (.inl (by lia)),KR ys k ks⟩
theorem pC.power:∀{s:Nat}{l:List (Nat×Nat×Nat)}{e i:Nat},pC r xs s l e->pC r xs s (l.modify i λx=>(x.1,x.2.1,f)) e
 |s,[],e,i,h=>by cases i<;>exact h
 |s,(a,n,p)::l,e,0,⟨h1,h2,h3,h4⟩=>⟨h1,h2,h3,h4⟩
 |s,(a,n,p)::l,e,i+1,⟨h1,h2,h3,h4⟩=>⟨h1,h2,h3,h4.power⟩
end
section
variable {prog:Program}{w:World}{A:Around}{E:Value->Shared->Prop}{s:Shared}{κ:SortKind}{P:Keyed->Prop}{r:Keyed->Keyed->Bool}
structure xJ(r:Keyed->Keyed->Bool)(κ:SortKind)(a₀:Array Keyed)(zt:SortSt)(lo:Nat):Prop where
 k:kindOf zt=κ
 a:(arrOf zt).Perm a₀
 f:failedOf zt=none
 c:pC r (arrOf zt) 0 (pendingOf zt).toList lo
def xJ.merge{a₀:Array Keyed}{zt:SortSt}{lo i:Nat}{Q:Bool->SortSt->Prop}(L:kE prog w A E s κ P r)(O:Ord r)(hp:∀x∈a₀,P x)(h:xJ r κ a₀ zt lo)(F4:lo<=a₀.size)(hi:i+1<(pendingOf zt).size)(q:∀ak,xJ r κ a₀ ak lo->(pendingOf ak).size+1=(pendingOf zt).size ->(∀j,lo<=j->gt (arrOf ak) j=gt (arrOf zt) j)->Q true ak):wpS (model prog w) A E s (mergeAt' i) Q zt:=by
 refine Jd (h.c.at (i:=i) (by rw[Wy];exact hi)) λsa na pw sb nb IM g1 g2 g3 g4 g5 g6 g7 g8 g9 KR=>?_
 rw[Xe]at g1 g2
 refine wJ L O h.k (λx hx=>hp x (h.a.mem_iff.mp hx)) h.f g1 g2 g3 g4 g5 (by rw[h.a.size_eq];lia) g8 g9 λak k1 k2 k3 k4 k5 k6=>q ak ⟨k1,k2.trans h.a,k3,?_⟩ ?_ (λj hj=>k5 j (.inr (by lia)))
 .rw[k4,Y_,YL]
  exact KR _ k5 k6
 .rw[k4,<-Wy,Y_,YL,Zz (by rw[Xm,Wy];exact hi),Xm,Wy]
  lia
def Gw{α:Type}{x:SM α}{zt:SortSt}{Q:α->SortSt->Prop}{T:Nat->SortSt->Prop}(C:Nat->SortSt->Prop)(main:(∀n s',C n s'->T n s')->wpS (model prog w) A E s x Q zt)(h:∀n s',C n s'->T n s'):wpS (model prog w) A E s x Q zt:=main h
def tE{a₀:Array Keyed}{zt:SortSt}{Q:Unit->SortSt->Prop}(L:kE prog w A E s κ P r)(O:Ord r)(hp:∀x∈a₀,P x)(h:xJ r κ a₀ zt 0)(q:∀ak,(arrOf ak).Perm a₀->failedOf ak=none->So r (arrOf ak) 0 a₀.size->Q () ak):wpS (model prog w) A E s sortRuns' Q zt:=by
 rw[sortRuns'_eq]
 refine wpS_bind (wpS_get ?_)
 dsimp only
 have hz:(arrOf zt).size =a₀.size:=h.a.size_eq
 rw[hz]
 refine wpS_bind (wpS_mono (wpS_forRange (I:=λi c ak=>∃lo,c=(none,lo)/\xJ r κ a₀ ak lo/\lo<=a₀.size/\i<=lo) (Q:=λc ak=>∃lo,c=(none,lo)/\xJ r κ a₀ ak lo/\lo=a₀.size) ?step ?fin ⟨0,rfl,h,XF _,WE _⟩) ?post)
 case fin=>
  rintro c fD ⟨lo,rfl,g0,F4,Ub⟩
  exact⟨lo,rfl,g0,by lia⟩
 case step=>
  rintro i c fD _ _ ⟨lo,rfl,g0,F4,Ub⟩
  dsimp only
  by_cases RF:lo ≥ a₀.size
  .rw[WO RF]
   exact wpS_pure ⟨lo,rfl,g0,by lia⟩
  rw[WV RF]
  have IJ:(arrOf fD).size =a₀.size:=g0.a.size_eq
  refine wpS_bind (tD L O g0.k (λx hx=>hp x (g0.a.mem_iff.mp hx)) (by lia) (by lia) λn cB Gs JQ a1 IP=>?_)
  have g1:xJ r κ a₀ cB lo:=⟨a1.a.k.trans g0.k,a1.a.a.trans g0.a,a1.a.f.trans g0.f,by rw[a1.a.p];exact g0.c.keep λj _ hj=>a1.o j (.inl hj)⟩
  dsimp only
  apply Gw (λn s'=>xJ r κ a₀ s' lo/\1<=n/\lo+n<=a₀.size/\So r (arrOf s') lo (lo+n))
  .intro shared
   by_cases RG:n<minRun' a₀.size a₀.size 0
   rotate_left
   .rw[WV RG]
    apply shared n cB ⟨g1,Gs,by lia,IP⟩
   .rw[WO RG]
    refine wpS_bind (wpS_lift (YA ⟨rfl,?_⟩))
    have OH:(arrOf cB).size =a₀.size:=g1.a.size_eq
    refine wpS_bind (pA L O g1.k (λx hx=>hp x (g1.a.mem_iff.mp hx)) (by lia) (by lia) IP λku a3 Gx=>?_)
    rw[WV (by decide)]
    exact shared _ ku ⟨⟨a3.a.k.trans g1.k,a3.a.a.trans g1.a,a3.a.f.trans g1.f,by rw[a3.a.p];exact g1.c.keep λj _ hj=>a3.o j (.inl hj)⟩,by lia,by lia,Gx⟩
  clear Gs JQ a1 IP g1
  rintro n cB ⟨g1,Gs,JQ,IP⟩
  refine wpS_bind (wpS_get ?_)
  cases hb:(pendingOf cB).back? with
  |none=>exact wpS_bind (wpS_modify (wpS_pure ⟨_,rfl,⟨g1.k,g1.a,g1.f,by
    show pC r (arrOf cB) 0 ((pendingOf cB).push _).toList _
    rw[Ye]
    exact g1.c.snoc Gs IP⟩,by lia,by lia⟩))
  |some x=>
   obtain⟨s1,n1,p1⟩:=x
   dsimp only
   refine wpS_bind (wpS_mono (wpS_forRange (I:=λ_ c ak=>c=(none,())/\xJ r κ a₀ ak lo/\So r (arrOf ak) lo (lo+n)) (Q:=λc ak=>c=(none,())/\xJ r κ a₀ ak lo/\So r (arrOf ak) lo (lo+n)) ?_ (λ_ _ z=>z) ⟨rfl,g1,IP⟩) ?_)
   .rintro _ c ku _ _ ⟨rfl,g3,Gx⟩
    refine wpS_bind (wpS_get ?_)
    by_cases hs:(pendingOf ku).size>1
    .rw[WO hs]
     have bQ:(pendingOf ku).size-2<(pendingOf ku).size :=by lia
     rw[W5 bQ]
     dsimp only
     split
     .exact wpS_pure ⟨rfl,g3,Gx⟩
     .refine wpS_bind (g3.merge L O hp (by lia) (by lia) λIF g4 _ k4=>?_)
      exact wpS_pure ⟨rfl,g4,Gx.keep λj j1 _=>k4 j j1⟩
    .rw[WV hs]
     exact wpS_pure ⟨rfl,g3,Gx⟩
   .rintro c ku ⟨rfl,g3,Gx⟩
    exact wpS_bind (wpS_modify (wpS_bind (wpS_modify (wpS_pure ⟨_,rfl,⟨g3.k,g3.a,g3.f,by
     show pC r (arrOf ku) 0 (((pendingOf ku).modify _ _).push _).toList _
     rw[Ye,Array.toList_modify]
     exact(g3.c.power).snoc Gs Gx⟩,by lia,by lia⟩))))
 case post=>
  rintro c fD ⟨lo,rfl,g0,F4⟩
  dsimp only
  refine wpS_bind (wpS_mono (wpS_forRange (I:=λi c ak=>c=(none,())/\xJ r κ a₀ ak lo/\((pendingOf ak).size <=1\/(pendingOf ak).size+i<=lo)) (Q:=λc ak=>c=(none,())/\xJ r κ a₀ ak lo/\(pendingOf ak).size <=1) ?_ ?_ ⟨rfl,g0,.inr ?_⟩) ?_)
  .rintro j c ku _ _ ⟨rfl,g3,O3⟩
   refine wpS_bind (wpS_get ?_)
   by_cases hs:(pendingOf ku).size <=1
   .rw[WO hs]
    exact wpS_pure ⟨rfl,g3,hs⟩
   .rw[WV hs]
    refine wpS_bind (g3.merge L O hp (by lia) (Ki (by lia) (by lia)) λIF g4 k4 _=>?_)
    exact wpS_pure ⟨rfl,g4,.inr (by lia)⟩
  .rintro c ku ⟨hc,g3,O3⟩
   exact⟨hc,g3,by lia⟩
  .have:=g0.c.le
   rw[Wy]at this
   lia
  .rintro c ku ⟨rfl,g3,hs⟩
   refine wpS_pure (q ku g3.a g3.f ?_)
   have hc:=g3.c
   have hl:(pendingOf ku).toList.length <=1:=by rw[Wy];exact hs
   cases xF:(pendingOf ku).toList with
   |nil=>
    rw[xF]at hc
    have:0=lo:=hc
    intro x y _ _ h3
    lia
   |cons x l=>
    rw[xF]at hc hl
    cases l with
    |cons _ _=>simp at hl
    |nil=>
     obtain⟨a,n,p⟩:=x
     refine xC hc λc1 c2 c3 c4=>?_
     have Uc:0+n=lo:=c4
     rw[<-F4,<-Uc]
     exact c3
end
open PySem.W
theorem gu:∀u v:List Int,bD u v=true->bD v u=false
 |[],[],h=>by cases h
 |[],_::_,_=>rfl
 |_::_,[],h=>by cases h
 |n::u,m::v,h=>by
  unfold bD at h⊢
  by_cases e:n=m
  .rw[WO e]at h
   rw[WO e.symm]
   exact gu u v h
  .rw[WV e]at h
   rw[WV λz=>e z.symm]
   have:=of_decide_eq_true h
   exact decide_eq_false (by omega)
theorem ja:∀u v w:List Int,bD v u=false->bD w v=false->bD w u=false
 |[],_,[],_,_=>rfl
 |[],_,_::_,_,_=>rfl
 |_::_,[],_,h,_=>by cases h
 |_::_,_::_,[],_,h=>by cases h
 |n::u,m::v,k::w,h1,h2=>by
  unfold bD at h1 h2⊢
  by_cases e1:m=n
  .rw[WO e1]at h1
   by_cases e2:k=m
   .rw[WO e2]at h2
    rw[WO (e2.trans e1)]
    exact ja u v w h1 h2
   .rw[WV e2]at h2
    rw[WV (λz=>e2 (z.trans e1.symm)),<-e1]
    exact h2
  .rw[WV e1]at h1
   have g1:=of_decide_eq_false h1
   by_cases e2:k=m
   .rw[WV (λz=>e1 (e2.symm.trans z))]
    exact decide_eq_false (by omega)
   .rw[WV e2]at h2
    have g2:=of_decide_eq_false h2
    rw[WV (by omega)]
    exact decide_eq_false (by omega)
theorem jQ:∀u v:List Int,bD u v=false->bD v u=false->u=v
 |[],[],_,_=>rfl
 |[],_::_,h,_=>by cases h
 |_::_,[],_,h=>by cases h
 |n::u,m::v,h1,h2=>by
  unfold bD at h1 h2
  by_cases e:n=m
  .rw[WO e]at h1
   rw[WO e.symm]at h2
   rw[e,jQ u v h1 h2]
  .rw[WV e]at h1
   rw[WV λz=>e z.symm]at h2
   have:=of_decide_eq_false h1
   have:=of_decide_eq_false h2
   omega
def yX:∀{l:List α},l.length<=1->l.Pairwise R
 |[],_=> .nil
 |[_],_=>Y1 _ _
 |_::_::_,h=>absurd h (by simp)
def TupIs(h:Heap)(v:Value)(ns:List Int):Prop:=∃(x:Addr) (o:Obj) (xs:List Value) (n:Nat),v= .ref x/\h.get? x=some o/\o.cls= .type "tuple"/\o.data= .seq xs.toArray n/\IntsAre xs ns
def yY:∀{xs:List Value}{ns ms:List Int},IntsAre xs ns->IntsAre xs ms->ns=ms:=λ{xs ns ms} h=>by
 induction h generalizing ms with
 |nil=>intro h;cases h;rfl
 |cons n t r ih=>intro h;cases h with|cons m u r'=>rw[ih r']
def TupIs.one(h1:TupIs h v ns)(h2:TupIs h v ms):ns=ms:=by
 refine sh h1 λx o xs n aj a1 _ a3 a4=>?_
 try clear h1
 subst aj
 refine sh h2 λy o' ys n' e b1 _ b3 b4=>?_
 cases e
 rw[a1]at b1
 cases b1
 rw[a3]at b3
 injection b3 with b5 _
 have:xs=ys:=by simpa using b5
 subst this
 exact yY a4 b4
noncomputable def bR(h:Heap)(v:Value):List Int:=Classical.epsilon λns=>TupIs h v ns
def cJ(e:TupIs h v ns):bR h v=ns:=(Y6 (p:=λns=>TupIs h v ns) ⟨ns,e⟩).one e
def jN.is(e:jN h v):∃ns,TupIs h v ns:=by
 exact Iz e λx o xs n i r h1 h2 h3 h4 h5=>⟨i::r,x,o,xs,n,h1,h2,h3,h4,h5⟩
noncomputable def rT(h:Heap)(x y:Keyed):Bool:=bD (bR h x.1) (bR h y.1)
def Gy(h:Heap):Ord (rT h):=⟨λx y=>gu _ _,λx y z=>ja _ _ _⟩
section
variable {prog:Program}{w:World}{A:Around}{E:Value->Shared->Prop}{s:Shared}
def KS:∀{xs ys:List Value}{ns ms:List Int},IntsAre xs ns->IntsAre ys ms->fin=decide (xs.length<ys.length)->Q (bD ns ms) s->∀i:Nat,(b=true\/0<i)->KatLex prog w A b fin Q (xs.zip ys) i s:=λ{xs ys ns ms} h=>by
 induction h generalizing ys ms with
 |nil=>
  intro h' hf q i _
  refine kat_nil ?_
  subst hf
  cases h' with
  |nil=>exact q
  |cons _ _ _=>simpa[bD]using q
 |cons n t r ih=>
  intro h' hf q i hi
  cases h' with
  |nil=>exact kat_nil (by rw[hf];simpa[bD]using q)
  |cons m u r'=>
   refine kat_cons (Z5 ?_)
   cases e:(n==m)with
   |true=>
    have e':n=m:=by simpa using e
    unfold bD at q
    rw[WO e']at q
    exact kat_yes (ih r' (by rw[hf];simp) q (i+1) (.inr (Nat.succ_pos _)))
   |false=>
    have e':¬n=m:=by simpa using e
    unfold bD at q
    rw[WV e']at q
    refine kat_no ?_
    by_cases h0:i=0
    .subst h0
     have hb:b=true:=hi.elim id λz=>absurd z (Xv _)
     subst hb
     exact oneLt_int q
    .have e:(b&&i==0)=false:=by cases b<;>simp[h0]
     rw[e]
     exact kat_one _ _ (aas q)
def Cg:kE prog w A E s (tuples' true) (λp=>jN s.heap p.1) (rT s.heap):=λx y zt Q hx hy hk q=>by
 obtain⟨x1,x2⟩:=x
 obtain⟨y1,y2⟩:=y
 refine Iz hx λa o xs n i r aj h1 h2 h3 h4=>?_
 try clear hx
 subst aj
 refine Iz hy λb o' ys n' j r' aU g1 g2 g3 g4=>?_
 try clear hy
 subst aU
 have q':Q (some (bD (i::r) (j::r'))) zt:=by
  have e1:bR s.heap (.ref a)=i::r:=cJ ⟨a,o,xs,n,rfl,h1,h2,h3,h4⟩
  have e2:bR s.heap (.ref b)=j::r':=cJ ⟨b,o',ys,n',rfl,g1,g2,g3,g4⟩
  have:=q
  unfold rT at this
  dsimp only at this
  rwa [e1,e2]at this
 rw[lt'_eq]
 refine wpS_bind (wpS_get ?_)
 rw[hk]
 refine wpS_bind (wpS_lift (Yu (kat_lt (b:=true) h1 h3 g1 g3 ?_)))
 have e1:xs.toArray.toList=xs:=by simp
 have e2:ys.toArray.toList=ys:=by simp
 rw[e1,e2]
 exact KS h4 g4 (by simp) ⟨rfl,wpS_pure q'⟩ 0 (.inl rfl)
def uC(ho:s.heap.get? a=some (seqObj "list" vs.toArray n))(hv:∀v∈vs,jN s.heap v)(hz:vs.length<=sizeLine)
  (h:∀out:List Value,out.Perm vs->out.Pairwise (λx y=>bD (bR s.heap y) (bR s.heap x)=false)->R (.done (.ret .none)) {s with heap:=sortedHeap s.heap a vs out.toArray}):wpAny (model prog w) A (Builtin.«list.sort» ⟨[.ref a],[]⟩) R E s:=by
 rw[list_sort_plain]
 have bQ:a<s.heap.objs.size:=WH ho
 have eU:∀v∈vs,∀x,v= .ref x->x≠a:=λv m x e z=>by
  refine au λnO=>?_
  obtain⟨x',o,xs,k,i,r,e',g1,g2,_⟩:=hv v m
  rw[e]at e'
  cases e'
  rw[z,ho]at g1
  cases g1
  refine nO ?_
  have Ud:Value.type "list"=Value.type "tuple":=g2
  injection Ud with g3
  exact absurd g3 (by decide)
 refine Wn (listItems_at ho rfl (Wn (listUpdate_at ho rfl ?_ (by rw[WA];omega) (XF _))))
 obtain⟨e1,EB⟩:∃e1,(s.heap.update a (Obj.mapSeq λ_=>#[])).get? a=some (seqObj "list" #[] e1):=⟨_,get?_update_seq ho (λ_=>#[])⟩
 refine Wn (seqEpoch_at EB rfl (Wn (wpAny_newTuple (Wn (Zo (Xf ?_) (XF _))) (by show vs.length<=_;omega))))
 have up:∀b o,b≠a->s.heap.get? b=some o->(((s.heap.update a (Obj.mapSeq λ_=>#[])).push (seqObj "tuple" vs.toArray 0)).push (seqObj "list" #[] 0)).get? b=some o:=λb o hb e=>
  Wo _ (Wo _ (by rw[WX _ _ (Xt hb)];exact e))
 have O6:(((s.heap.update a (Obj.mapSeq λ_=>#[])).push (seqObj "tuple" vs.toArray 0)).push (seqObj "list" #[] 0)).get? a=some (seqObj "list" #[] e1):=Wo _ (Wo _ EB)
 show wpAny (model prog w) A _ R E {s with heap:=((s.heap.update a (Obj.mapSeq λ_=>#[])).push (seqObj "tuple" vs.toArray 0)).push (seqObj "list" #[] 0)}
 generalize hh:((s.heap.update a (Obj.mapSeq λ_=>#[])).push (seqObj "tuple" vs.toArray 0)).push (seqObj "list" #[] 0)=h6 at up O6⊢
 have RH:∀v∈vs,jN h6 v:=λv m=>by
  refine au λnO=>?_
  obtain⟨x,o,xs,k,i,r,e',g1,g2,g3,g4⟩:=hv v m
  exact nO<|⟨x,o,xs,k,i,r,e',up x o (eU v m x e') g1,g2,g3,g4⟩
 have same:∀v∈vs,bR h6 v=bR s.heap v:=λv m=>by
  refine au λnO=>?_
  obtain⟨ns,x,o,xs,k,e',g1,g2,g3,g4⟩:=(hv v m).is
  refine nO ?_
  rw[cJ (h:=s.heap) ⟨x,o,xs,k,e',g1,g2,g3,g4⟩]
  exact cJ ⟨x,o,xs,k,e',up x o (eU v m x e') g1,g2,g3,g4⟩
 dsimp only
 have ends:∀(zt:SortSt) (out:List Value),(arrOf zt).map (·.2)=out.toArray->out.Perm vs->out.Pairwise (λx y=>bD (bR s.heap y) (bR s.heap x)=false)->failedOf zt=none->wpAny (model prog w) A (do
   let touched:=(<-seqEpoch a) !=e1
   Builtin.List.listUpdate (.ref a) λ_=>(arrOf zt).map (·.2)
   if let some e:=failedOf zt then rule "list.sort.comparison-raised";throw e
   if touched then rule "list.sort.modified";raiseError "ValueError" "list modified during sort"
   ret .none) R E {s with heap:=h6}:=λzt out e hp wK hf=>by
  rw[e,hf]
  refine Wn (seqEpoch_at O6 rfl (Wn (listUpdate_at O6 rfl ?_ (XF _) (by rw[WA,hp.length_eq];omega))))
  simp only[bne_self_eq_false,XB,if_false]
  have:=h out hp wK
  unfold sortedHeap at this
  rw[hh]at this
  exact Wv this
 by_cases h2:vs.toArray.size<2
 .rw[WO h2,WO h2]
  refine Wn (Wv ?_)
  rw[StateT.run_pure]
  refine Wn (Wv ?_)
  exact ends (SortSt.mk' general' (vs.toArray.zip vs.toArray) #[] 7 none) vs (qK vs) (List.Perm.refl _) (yX (by rw[WA]at h2;omega)) rfl
 .rw[WV h2,WV h2]
  refine au λnO=>?_
  obtain⟨fs,k1,k2,k3⟩:=kl RH
  refine nO ?_
  have O7:2<=vs.length:=by rw[WA]at h2;omega
  refine Wn (kat_kind (s:={s with heap:=h6}) (T:= .type "int") k1 (by omega) (λv m=>?_) rfl ?_)
  .obtain⟨i,t,rfl⟩:=k2 v m
   exact Looks.now
  have zm:∀p∈vs.toArray.zip vs.toArray,p.1=p.2/\p.2∈vs:=λp m=>by
   obtain⟨i,hi,e⟩:=Array.mem_iff_getElem.mp m
   rw[Array.getElem_zip]at e
   rw[<-e]
   exact⟨rfl,by simp⟩
  refine Wn (X2 (tE (s:={s with heap:=h6}) (κ:=tuples' true) (P:=λp=>jN h6 p.1) (r:=rT h6) (a₀:=vs.toArray.zip vs.toArray) (Q:=λ_ zt=>(arrOf zt).Perm (vs.toArray.zip vs.toArray)/\failedOf zt=none/\So (rT h6) (arrOf zt) 0 (vs.toArray.zip vs.toArray).size) Cg (Gy h6) (λp m=>by rw[(zm p m).1];exact RH _ (zm p m).2) ⟨rfl,Zv _,rfl,rfl⟩ λzt g1 g2 g3=>⟨g1,g2,g3⟩) ?_ λ_ _ e=>e)
  rintro⟨⟨⟩,zt⟩ s' ⟨rfl,g1,g2,g3⟩
  dsimp only at g1 g2 g3⊢
  refine ends zt ((arrOf zt).map (·.2)).toList aan.symm ?_ ?_ g2
  .have:=(Zy.mp g1).map (λp:Keyed=>p.2)
   rw[YU]
   refine this.trans (List.Perm.of_eq ?_)
   have e:=congrArg Array.toList (qK vs)
   rw[YU]at e
   exact e
  .have hsz:(arrOf zt).size =(vs.toArray.zip vs.toArray).size :=g1.size_eq
   have pw:=qP (xs:=arrOf zt) (lo:=0) (n:=(vs.toArray.zip vs.toArray).size) (by rw[Yc];exact g3) (by omega)
   have e0:sg (arrOf zt) 0 (vs.toArray.zip vs.toArray).size =(arrOf zt).toList :=by
    unfold sg
    rw[YQ]
    exact Xg (by rw[Wy,hsz];exact WE _)
   rw[e0]at pw
   rw[YU,Xk]
   refine pw.imp_of_mem λ{x y} mx my wL=>?_
   obtain⟨x1,x2⟩:=zm x (g1.mem_iff.mp (Ya.mp mx))
   obtain⟨y1,y2⟩:=zm y (g1.mem_iff.mp (Ya.mp my))
   have:=wL
   unfold le rT at this
   rw[x1,y1,same _ x2,same _ y2]at this
   exact this
end
abbrev KU(x y:List Int):Prop:=bD y x=false
theorem jR(x:List Int):∀l,(wt x l).Perm (x::l)
 |[]=> .refl _
 |y::r=>by
  unfold wt
  split
  .exact((jR x r).cons y).trans (.swap x y r)
  .exact .refl _
theorem cz:∀l,(bF l).Perm l
 |[]=> .refl _
 |x::r=>(jR x (bF r)).trans ((cz r).cons x)
theorem uD(x:List Int):∀l:List (List Int),l.Pairwise KU->(wt x l).Pairwise KU
 |[],_=>Y1 _ _
 |y::r,h=>by
  unfold wt
  rw[XG]at h
  split
  .rename_i JE
   refine XG.mpr ⟨λz hz=>?_,uD x r h.2⟩
   rcases WG.mp ((jR x r).mem_iff.mp hz)with e|hz
   .rw[e];exact gu _ _ JE
   .exact h.1 z hz
  .rename_i JE
   have KW:bD y x=false:=by simpa using JE
   refine XG.mpr ⟨λz hz=>?_,XG.mpr h⟩
   rcases WG.mp hz with e|hz
   .rw[e];exact KW
   .exact ja x y z KW (h.1 z hz)
theorem qQ:∀l,(bF l).Pairwise KU
 |[]=> .nil
 |x::r=>uD x _ (qQ r)
def qR(hp:l.Perm m)(hs:l.Pairwise KU):l=bF m:=
 (hp.trans (cz m).symm).eq_of_pairwise (λa b _ _ h1 h2=>jQ a b h2 h1) hs (qQ m)
end bU
namespace L2
open PySem PySem.Spec PyProof.Rows PySem.W bU
section
variable {prog:Program}{w:World}{A:Around}{E:Value->Shared->Prop}{s:Shared}{d it:Addr}{es:Array DictEntry}{ep i:Nat}
def jc(hv:jN h v)(k:∀b o,h.get? b=some o->h'.get? b=some o):bR h' v=bR h v:=by
 refine MF hv.is λns x o xs n e g1 g2 g3 g4=>?_
 rw[cJ (h:=h) ⟨x,o,xs,n,e,g1,g2,g3,g4⟩]
 exact cJ ⟨x,o,xs,n,e,k x o g1,g2,g3,g4⟩
def pD(hh:A.handled=none)(lo:(d==sysModules)=false)(r:gb s.heap d es ep)(hz:es.size<=sizeLine)(hk:∀e∈es,bU.jN s.heap e.key)
  (h:∀(h1 h':Heap) (tk c:Nat) (vs:List Value),(∀b o,s.heap.get? b=some o->h1.get? b=some o)->(∀b o,h1.get? b=some o->h'.get? b=some o)->h'.get? h1.objs.size=some {cls:= .type "list",data:= .seq vs.toArray c}->vs.Perm (es.toList.map (·.key))->vs.Pairwise (λx y=>bD (bR s.heap y) (bR s.heap x)=false)->Q (.ref h1.objs.size) {s with heap:=h',toks:=tk}):
  wpAny (model prog w) A (call (.builtin "sorted") [.ref d]) Q E s:=by
 refine Yk kind_sorted plain_sorted entry_sorted (args_sorted1 _) ?_
 unfold Builtin.«sorted»
 refine Wn (m:=checkCount "sorted" 1 1 _) (Wv (Wn (kdu_collect (A:=A.in1) (uz lo) hh r hz λh1 tk acc k1 it=>?_)))
 have hl:acc.toList.length=es.size:=by rw[Wy];exact it.1
 have eq:acc.toList=es.toList.map (·.key):=by
  apply XD
  intro j
  rcases Xr j es.size with z|z
  .have hj:j<acc.toList.length:=by lia
   refine ae (it.2 j acc.toList[j] (by rw[<-Xe];exact Wq hj)) λe e1 e2=>?_
   rw[Wq hj,WI,Xe,e1,e2]
   rfl
  .rw[WS (by lia),WS (by simpa using z)]
 have hm:∀v∈acc.toList,∃e∈es,v=e.key:=λv m=>by
  rw[eq]at m
  exact ae (WD.mp m) λe e1 e2=>⟨e,Ya.mp e1,e2.symm⟩
 have ht:∀v∈acc.toList,jN s.heap v:=λv m=>by
  refine ae (hm v m) λe e1 aj=>?_
  subst aj
  exact hk e e1
 have kp:∀b o,s.heap.get? b=some o->(h1.push (seqObj "list" acc.toList.toArray 0)).get? b=some o:=λb o e=>Wo _ (k1 b o e)
 refine Wn (Zo ?_ (by rw[hl];exact hz))
 have ho:(h1.push (seqObj "list" acc.toList.toArray 0)).get? h1.objs.size=some (seqObj "list" acc.toList.toArray 0):=WB _ rfl
 refine Wn (Xf (Xb slot_list_sort ⟨_,ho,rfl⟩ entry_list_sort (bU.uC (s:={s with heap:=h1.push (seqObj "list" acc.toList.toArray 0),toks:=tk}) ho (λv m=>?_) (by rw[hl];exact hz) λout hp wK=>⟨_,rfl,Wv ⟨_,rfl,?_⟩⟩) (args_list_sort _)))
 .exact Iz (ht v m) λx o xs n i rr g0 g1 g2 g3 g4=>⟨x,o,xs,n,i,rr,g0,kp x o g1,g2,g3,g4⟩
 .have u1:=get?_update_seq ho (λ_=>#[])
  have u2:=Wo (seqObj "tuple" acc.toList.toArray 0) u1
  have u3:=Wo (seqObj "list" #[] 0) u2
  have u4:=get?_update_seq u3 (λ_=>out.toArray)
  refine h h1 _ tk _ out k1 (λb o e=>?_) u4 (by rw[<-eq];exact hp) (wK.imp_of_mem λ{x y} mx my wL=>?_)
  .have hb:b≠h1.objs.size:=W2 (WH e)
   unfold sortedHeap
   rw[WX _ _ (Xt hb)]
   refine Wo _ (Wo _ ?_)
   rw[WX _ _ (Xt hb)]
   exact Wo _ e
  .have e1:=jc (ht x (hp.mem_iff.mp mx)) kp
   have e2:=jc (ht y (hp.mem_iff.mp my)) kp
   rw[<-e1,<-e2]
   exact wL
end
def Ci(I:Inv X aa σ H s)(e:Rd H a (.dT aw)):∃es ep,gb s.heap a es ep/\es.size=aw.length/\(a==sysModules)=false/\aw.length<=sizeLine/\
  Paired (λ(kv:List cL×V) (v:Value)=>∃b,v= .ref b/\H b=some (.tup (kv.1.map kV))) aw (es.toList.map (·.key)):=by
 refine au λnO=>?_
 obtain⟨z,lo,xs,eW,o,es,ep,h1,h2,h3,h4,h5,h6⟩:=lQ I.aR e
 refine nO ?_
 have hl:es.size=aw.length:=by
  have e1:=YJ eW
  have e2:=congrArg List.length h4
  rw[Wy,Wr]at e2
  lia
 refine⟨es,ep,⟨o,h1,h2,h3⟩,hl,lo,z,?_⟩
 rw[h4,W6]
 have all:∀{l:List (List cL×V)}{m:List (List cL×Addr×Value)},KT H l m->Paired (λ(kv:List cL×V) (v:Value)=>∃b,v= .ref b/\H b=some (.tup (kv.1.map kV))) l (m.map ((λx:DictEntry=>x.key)∘entryOfKey (tupleKind (bg X.prog X.w)))):=by
  intro l m q
  induction q with
  |nil=>exact .nil
  |@cons p q ps qs hq t ih=>exact .cons ⟨q.2.1,rfl,hq.2.1⟩ ih
 exact all eW
section
variable {X:Cx}
def cX(I:Inv X aa σ H s)(h:H b=some (.tup (k.map V.int))):TupIs s.heap (.ref b) k:=by
 obtain⟨_,its,rv,o,g1,g2,⟨n,g3⟩,_⟩:=(show aQ X.prog X.w H s.heap b (.tup (k.map V.int)) from I.aR b _ h)
 exact⟨b,o,its,n,rfl,g1,g2,g3,intsAre_of rv⟩
def uE(e:TupIs h v k)(hk:k≠[]):jN h v:=by
 refine sh e λx o xs n h1 h2 h3 h4 h5=>?_
 cases k with
 |nil=>exact absurd rfl hk
 |cons i r=>exact⟨x,o,xs,n,i,r,h1,h2,h3,h4,h5⟩
def TupAt(H:Hp)(u:V)(k:List Int):Prop:=∃b,u= .ref b/\H b=some (.tup (k.map V.int))
theorem pE(I:Inv X aa σ H s):∀{vs:List Value},(∀v∈vs,∃b k,v= .ref b/\H b=some (.tup (List.map V.int k)))->∃us:List V,aD us vs/\us.length=vs.length/\Paired (TupAt H) us (vs.map (bR s.heap))
 |[],_=>⟨[],.nil,rfl,.nil⟩
 |v::vs,h=>by
  refine bL (pE I (vs:=vs) λz hz=>h z (Wu _ hz)) λus u1 u2 u3=>ik (h v Wx) λb k aj hb=>?_
  subst aj
  refine⟨.ref b::us,.cons rfl u1,by rw[WM,WM,u2],?_⟩
  rw[WJ,cJ (cX I hb)]
  exact .cons ⟨b,rfl,hb⟩ u3
def pF(hc:X.calm=true):cH X (.builtin "sorted") (λxs H Q=>∃a aw ks,xs=[V.ref a]/\Rd H a (.dT aw)/\aw.map (·.1)=ks.map (λk:List Int=>k.map (Sum.inl:Int->cL))/\(∀k∈ks,k≠[])/\
  ∀(l:Addr) (us:List V),H l=none->Paired (TupAt H) us (bF ks)->Q (.ref l) (upd H l (.lst us))):=by
 intro aa s σ H xs us Q I r zz
 refine sf zz λa aw ks e hd Gr eU q=>?_
 subst e
 refine ae (vals1 r) λu aj ru=>?_
 subst aj
 cases ru
 refine kc (Ci I hd) λes ep r1 r2 r3 r4 r5=>?_
 have pk:∀{aw:List (List cL×V)}{ks:List (List Int)}{vs:List Value},aw.map (·.1)=ks.map (λk:List Int=>k.map (Sum.inl:Int->cL))->Paired (λ(kv:List cL×V) (v:Value)=>∃b,v= .ref b/\H b=some (.tup (kv.1.map kV))) aw vs->vs.map (bR s.heap)=ks/\∀v∈vs,∃b,∃k∈ks,v= .ref b/\H b=some (.tup (List.map V.int k)):=by
  intro aw ks vs hk p
  induction p generalizing ks with
  |nil=>
   cases ks with
   |nil=>exact⟨rfl,λ_ z=>nomatch z⟩
   |cons _ _=>cases hk
  |@cons kv v aw vs hq _ ih=>
   cases ks with
   |nil=>cases hk
   |cons k ks=>
    rw[WJ,WJ]at hk
    injection hk with h1 h2
    obtain⟨i1,i2⟩:=ih h2
    refine ae hq λb aU hb=>?_
    try clear hq
    subst aU
    rw[h1,W6]at hb
    have jH:H b=some (.tup (List.map V.int k)):=hb
    refine⟨by rw[WJ,i1,cJ (cX I jH)],λw hw=>?_⟩
    rcases WG.mp hw with e|hw
    .exact⟨b,k,Wx,e,jH⟩
    .exact bC (i2 w hw) λb2 k2 m2 e2 g2=>⟨b2,k2,Wu _ m2,e2,g2⟩
 obtain⟨p1,p2⟩:=pk Gr r5
 have hI:∀v∈es.toList.map (·.key),jN s.heap v:=λv m=>by
  refine bC (p2 v m) λb k mk fF hb=>?_
  subst fF
  exact uE (cX I hb) (eU k mk)
 refine pD (I.ok.hd hc) r3 r1 (by rw[r2];exact r4) (λen Ue=>hI _ (WD.mpr ⟨en,Ya.mpr Ue,rfl⟩)) λh1 h' tk c vs k1 k2 e1 e2 e3=>?_
 have qS:(vs.map (bR s.heap)).Perm ks:=by
  have:=e2.map (bR s.heap)
  rwa [p1]at this
 have Gz:vs.map (bR s.heap)=bF ks:=qR qS (Xk.mpr e3)
 have I1:Inv X aa σ H {s with heap:=h1,toks:=tk}:=I.kept (t':=tk) k1
 obtain⟨us,u1,u2,u3⟩:=pE I (vs:=vs) λv m=>by
  exact bC (p2 v (e2.mem_iff.mp m)) λb k _ e hb=>⟨b,k,e,hb⟩
 rw[Gz]at u3
 have aS:vs.length=es.size:=by rw[e2.length_eq];simp
 have I2:Inv X aa σ (upd H h1.objs.size (.lst us)) {s with heap:=h',toks:=tk}:=by
  have:=I1.laid (a:=h1.objs.size) (o:= .lst us) (t':=tk) k2 (WE _) (show aQ X.prog X.w _ h' _ (.lst us) from⟨by rw[u2,aS,r2];exact r4,vs,c,u1,e1⟩)
  exact this
 exact⟨.ref h1.objs.size,_,I2,rfl,q _ us (I1.aR.fresh (WE _)) u3⟩
end
section
variable {prog:Program}{w:World}{A:Around}{E:Value->Shared->Prop}{s:Shared}
def pG(hT:T="list"\/T="tuple")(ho:s.heap.get? l=some o)(hc:o.cls= .type T)(hd:o.data= .seq vs.toArray n)(hz:vs.length<=sizeLine)(hk:∀v∈vs,jN s.heap v)
  (h:∀(h1 h':Heap) (c:Nat) (out:List Value),(∀b o,s.heap.get? b=some o->h1.get? b=some o)->(∀b o,h1.get? b=some o->h'.get? b=some o)->h'.get? h1.objs.size=some {cls:= .type "list",data:= .seq out.toArray c}->out.Perm vs->out.Pairwise (λx y=>bD (bR s.heap y) (bR s.heap x)=false)->Q (.ref h1.objs.size) {s with heap:=h'}):
  wpAny (model prog w) A (call (.builtin "sorted") [.ref l]) Q E s:=by
 refine Yk kind_sorted plain_sorted entry_sorted (args_sorted1 _) ?_
 unfold Builtin.«sorted»
 refine Wn (m:=checkCount "sorted" 1 1 _) (Wv ?_)
 refine Wn (wpAny_collect_seq l hT ho hc hd (λh1 k1=>?_) (by rw[WA];exact hz))
 refine Wn (Zo ?_ (by simpa using hz))
 have e0:vs.toArray.toList=vs:=by simp
 rw[e0]
 have vZ:(h1.push (seqObj "list" vs.toArray 0)).get? h1.objs.size=some (seqObj "list" vs.toArray 0):=WB _ rfl
 have kp:∀b o,s.heap.get? b=some o->(h1.push (seqObj "list" vs.toArray 0)).get? b=some o:=λb o e=>Wo _ (k1 b o e)
 refine Wn (Xf (Xb slot_list_sort ⟨_,vZ,rfl⟩ entry_list_sort (bU.uC (s:={s with heap:=h1.push (seqObj "list" vs.toArray 0)}) vZ (λv m=>?_) hz λout hp wK=>⟨_,rfl,Wv ⟨_,rfl,?_⟩⟩) (args_list_sort _)))
 .exact Iz (hk v m) λx o xs n i rr g0 g1 g2 g3 g4=>⟨x,o,xs,n,i,rr,g0,kp x o g1,g2,g3,g4⟩
 .have u1:=get?_update_seq vZ (λ_=>#[])
  have u2:=Wo (seqObj "tuple" vs.toArray 0) u1
  have u3:=Wo (seqObj "list" #[] 0) u2
  have u4:=get?_update_seq u3 (λ_=>out.toArray)
  refine h h1 _ _ out k1 (λb o e=>?_) u4 hp (wK.imp_of_mem λ{x y} mx my wL=>?_)
  .have hb:b≠h1.objs.size:=W2 (WH e)
   unfold sortedHeap
   rw[WX _ _ (Xt hb)]
   refine Wo _ (Wo _ ?_)
   rw[WX _ _ (Xt hb)]
   exact Wo _ e
  .have e1:=jc (hk x (hp.mem_iff.mp mx)) kp
   have e2:=jc (hk y (hp.mem_iff.mp my)) kp
   rw[<-e1,<-e2]
   exact wL
end
section
variable {X:Cx}
def wM(I:Inv X aa σ H s):∀{ks:List (List Int)}{us:List V}{vs:List Value},Paired (TupAt H) us ks->aD us vs->vs.map (bR s.heap)=ks/\∀v∈vs,∃b,∃k∈ks,v= .ref b/\H b=some (.tup (List.map V.int k)):=λ{ks us vs} h=>by
 induction h generalizing vs with
 |nil=>intro r;cases r;exact⟨rfl,λ_ z=>nomatch z⟩
 |cons hq p ih=>
  intro r
  cases r with
  |cons r rs=>
   obtain⟨i1,i2⟩:=ih rs
   refine ae hq λb aj hb=>?_
   try clear hq
   subst aj
   cases r
   refine⟨by rw[WJ,i1,cJ (cX I hb)],λw hw=>?_⟩
   rcases WG.mp hw with e|hw
   .exact⟨b,_,Wx,e,hb⟩
   .exact bC (i2 w hw) λb2 k2 m2 e2 g2=>⟨b2,k2,Wu _ m2,e2,g2⟩
def pH:cH X (.builtin "sorted") (λxs H Q=>∃(p:Addr) (ws:List V) (ks:List (List Int)),xs=[.ref p]/\(c9 X.K H p ws\/dF X.K H p ws)/\Paired (TupAt H) ws ks/\(∀k∈ks,k≠[])/\
  ∀(l:Addr) (us:List V),H l=none->Paired (TupAt H) us (bF ks)->Q (.ref l) (upd H l (.lst us))):=by
 intro aa s σ H xs us Q I r zz
 refine sf zz λp ws ks e hq hp eU q=>?_
 refine au λnO=>?_
 subst e
 refine ae (vals1 r) λu aj rx=>?_
 subst aj
 cases rx
 refine nO ?_
 have go:∀(T:String) (o:Obj) (its:List Value) (n:Nat),T="list"\/T="tuple"->s.heap.get? p=some o->o.cls= .type T->o.data= .seq its.toArray n->aD ws its->its.length<=sizeLine->wpAny (model X.prog X.w) X.A (call (.builtin "sorted") [.ref p]) (EP X aa σ Q) X.xe s:=λT o its n hT ho hc hd rv hz=>by
  obtain⟨p1,p2⟩:=wM I hp rv
  refine pG hT ho hc hd hz (λv m=>?_) λh1 h' c out k1 k2 e1 e2 e3=>?_
  .refine au λnO=>bC (p2 v m) λb k mk aU hb=>?_
   subst aU
   exact nO<|uE (cX I hb) (eU k mk)
  .have qS:(out.map (bR s.heap)).Perm ks:=by
    have:=e2.map (bR s.heap)
    rwa [p1]at this
   have Gz:out.map (bR s.heap)=bF ks:=qR qS (Xk.mpr e3)
   have I1:Inv X aa σ H {s with heap:=h1}:=I.kept (t':=s.toks) k1
   obtain⟨us,u1,u2,u3⟩:=pE I (vs:=out) λv m=>by
    exact au λnO=>bC (p2 v (e2.mem_iff.mp m)) λb k _ e hb=>nO<|⟨b,k,e,hb⟩
   rw[Gz]at u3
   have I2:Inv X aa σ (upd H h1.objs.size (.lst us)) {s with heap:=h'}:=by
    have:=I1.laid (a:=h1.objs.size) (o:= .lst us) (t':=s.toks) k2 (WE _) (show aQ X.prog X.w _ h' _ (.lst us) from⟨by rw[u2,e2.length_eq];exact hz,out,c,u1,e1⟩)
    exact this
   exact⟨.ref h1.objs.size,_,I2,rfl,q _ us (I1.aR.fresh (WE _)) u3⟩
 rcases hq with hq|hq
 .refine au λnO=>?_
  obtain⟨its,rv,⟨o,n,e1,e2,_,e3⟩,hz⟩:=I.list hq
  exact nO<|go _ o its n (.inl rfl) e1 e2 e3 rv (by first|exact hz|(have:=rv.length;lia))
 .refine au λnO=>?_
  obtain⟨its,rv,⟨o,e1,e2,n,e3⟩,hz⟩:=I.tuple hq
  exact nO<|go _ o its n (.inr rfl) e1 e2 e3 rv (by first|exact hz|(have:=rv.length;lia))
end
section
variable {prog:Program}{w:World}{A:Around}{R:Result->Shared->Prop}{I:Addr}{fp wr:List Addr}{n:Nat}{P:Nat->Value->Prop}{St:Nat->Heap->Prop}
def yZ(T:Addr->Prop)(g g':Heap):Prop:=∀b o,T b->g.get? b=some o->g'.get? b=some o
def Cj(prog:Program)(w:World)(A:Around)(T:Addr->Prop)(g:Heap)(P:Nat->Value->Prop)(bt:Nat->Nat->Bool):Prop:=
 ∀i j x y (s:Shared) (Q:Value->Shared->Prop) (E:Value->Shared->Prop),yZ T g s.heap->P i x->P j y->Q (.bool (bt i j)) s->wpAny (model prog w) A (richCompare .Lt x y) Q E s
def GA(W:Walks prog w A.in1 I fp wr n P St)(cm:Cj prog w A.in1 T g P bt)(nS:S∉fp)(hT:∀b,T b->b∉wr/\b≠S):
  ∀(m j:Nat) (s:Shared) (best:Value) (c:Nat),n-(j+1)=m->j+1<=n->St (j+1) s.heap->P (argBest bt j) best->yZ T g s.heap->s.heap.get? S=some {cls:= .type "list",dict:=none,data:= .seq #[best,best] c,slots:=#[]}->
   (∀v h' tk,P (argBest bt (n-1)) v->(∀b o,b∉wr->b≠S->s.heap.get? b=some o->h'.get? b=some o)->R (.ok (.ret v)) {s with heap:=h',toks:=tk})->codeAny (model prog w) A (.builtin "min.loop" ⟨[.ref I,.none,.ref S],[]⟩) R s:=by
 have wS:S∉wr:=λz=>nS (W.sub _ z)
 have nm:(toString "min"++toString ".loop":String)="min.loop":=by decide
 intro m
 induction m with
 |zero=>
  intro j s best c em ej GB eP eT eS eR
  have IQ:j+1=n:=by omega
  refine X8 Y7 ?_
  rw[YM XI _]
  show wpAny _ A.in1 (seqItems? (.ref S) >>= _) _ _ _
  refine Wn (Zc eS rfl ?_)
  show wpAny _ A.in1 (tryCatch (pyNext (.ref I)) _ >>= _) _ _ _
  refine Wn (ZM (W.done s _ _ (IQ▸GB) λg2 t2 k2=>?_))
  have EC:=k2 S _ wS eS
  show wpAny _ A.in1 (updateSeq S (λ_=>(#[]:Array Value)) >>= _) _ _ _
  refine Wn (aaj EC rfl (Wn (Z2 (Wv ?_))))
  exact eR best _ t2 (by rw[<-IQ];exact eP) λb o b1 b2 e=>(WX _ _ (Xt b2)).trans (k2 b o b1 e)
 |succ m ih=>
  intro j s best c em ej GB eP eT eS eR
  have IQ:j+1<n:=by omega
  refine X8 Y7 ?_
  rw[YM XI _]
  show wpAny _ A.in1 (seqItems? (.ref S) >>= _) _ _ _
  refine Wn (Zc eS rfl ?_)
  show wpAny _ A.in1 (tryCatch (pyNext (.ref I)) _ >>= _) _ _ _
  refine Wn (ZM (W.item (j+1) s _ _ IQ GB λv g2 t2 p2 cB k2=>?_))
  have EC:=k2 S _ wS eS
  have KY:yZ T g g2:=λb o tb e=>k2 b o (hT b tb).1 (eT b o tb e)
  show wpAny _ A.in1 (tryCatch (holding [v,v] (richCompare .Lt v best >>= _)) _ >>= _) _ _ _
  refine Wn (ZM (Xf (Wn (cm (j+1) (argBest bt j) v best _ _ _ KY p2 eP ?_))))
  refine Wn (Xf (X3 (Wn (Z2 (Wv ?_)))))
  cases eb:bt (j+1) (argBest bt j)with
  |true=>
   rw[WO rfl]
   refine Wn (aaj EC rfl (Wn (Z2 ?_)))
   rw[nm]
   refine Wv ⟨plainId_quiet XI _,ih (j+1) _ v _ (by omega) IQ (W.frame _ _ _ cB λb bf o e=>?_) (by simp only[argBest,eb,if_true];exact p2) (λb o tb e=>?_) (Xp _ EC rfl) λv3 g3 t3 p3 k3=>?_⟩
   .exact(WX _ _ (λz:S=b=>nS (by rw[z];exact bf))).trans e
   .exact(WX _ _ (Xt (hT b tb).2)).trans (KY b o tb e)
   .exact eR v3 g3 t3 p3 λb o b1 b2 e=>k3 b o b1 b2 ((WX _ _ (Xt b2)).trans (k2 b o b1 e))
  |false=>
   rw[WV Wt]
   refine Wn (Z2 ?_)
   rw[nm]
   refine Wv ⟨plainId_quiet XI _,ih (j+1) _ best c (by omega) IQ cB (by simp only[argBest,eb,XB,if_false];exact eP) KY EC λv3 g3 t3 p3 k3=>?_⟩
   exact eR v3 g3 t3 p3 λb o b1 b2 e=>k3 b o b1 b2 (k2 b o b1 e)
def Ck(W:Walks prog w A.in1 I fp wr n P St)(cm:Cj prog w A.in1 T g P bt)(nS:S∉fp)(hT:∀b,T b->b∉wr/\b≠S)(n0:0<n)(GB:St 0 s.heap)(eT:yZ T g s.heap)(eS:s.heap.get? S=some {cls:= .type "list",dict:=none,data:= .seq #[] c,slots:=#[]})
  (eR:∀v h' tk,P (argBest bt (n-1)) v->(∀b o,b∉wr->b≠S->s.heap.get? b=some o->h'.get? b=some o)->R (.ok (.ret v)) {s with heap:=h',toks:=tk}):codeAny (model prog w) A (.builtin "min.loop" ⟨[.ref I,.none,.ref S],[]⟩) R s:=by
 have wS:S∉wr:=λz=>nS (W.sub _ z)
 have nm:(toString "min"++toString ".loop":String)="min.loop":=by decide
 refine X8 Y7 ?_
 rw[YM XI _]
 show wpAny _ A.in1 (seqItems? (.ref S) >>= _) _ _ _
 refine Wn (Zc eS rfl ?_)
 show wpAny _ A.in1 (tryCatch (pyNext (.ref I)) _ >>= _) _ _ _
 refine Wn (ZM (W.item 0 s _ _ n0 GB λv g2 t2 p2 cB k2=>?_))
 have EC:=k2 S _ wS eS
 have KY:yZ T g g2:=λb o tb e=>k2 b o (hT b tb).1 (eT b o tb e)
 show wpAny _ A.in1 (updateSeq S (λ_=>(#[v,v]:Array Value)) >>= _) _ _ _
 refine Wn (aaj EC rfl ?_)
 rw[nm]
 refine Wv ⟨plainId_quiet XI _,GA W cm nS hT _ 0 _ v _ rfl n0 (W.frame _ _ _ cB λb bf o e=>?_) p2 (λb o tb e=>?_) (Xp _ EC rfl) λv3 g3 t3 p3 k3=>?_⟩
 .exact(WX _ _ (λz:S=b=>nS (by rw[z];exact bf))).trans e
 .exact(WX _ _ (Xt (hT b tb).2)).trans (KY b o tb e)
 .exact eR v3 g3 t3 p3 λb o b1 b2 e=>k3 b o b1 b2 ((WX _ _ (Xt b2)).trans (k2 b o b1 e))
end
section
variable {prog:Program}{w:World}{A:Around}{E:Value->Shared->Prop}{s:Shared}
theorem wN
  (h:wpAny (model prog w) A.in1 (pyIter x) (λit s2=>∃I fp wr n P St bt,it= .ref I/\Walks prog w A.in1 I fp wr n P St/\St 0 s2.heap/\(∀b∈fp,b<s2.heap.objs.size)/\0<n/\Cj prog w A.in1 T s2.heap P bt/\(∀b,T b->b∉wr/\b<s2.heap.objs.size)/\
   ∀v h' tk,P (argBest bt (n-1)) v->(∀b o,b∉wr->s2.heap.get? b=some o->h'.get? b=some o)->Q v {s2 with heap:=h',toks:=tk}) E s):wpAny (model prog w) A (call (.builtin "min") [x]) Q E s:=by
 have nm:(toString "min"++toString ".loop":String)="min.loop":=by decide
 refine call_function_tree PySem.F.kind_min PySem.F.plain_min PySem.F.entry_min (PySem.F.args_min1 _) ?_
 show wpAny _ A.in1 (Builtin.Builtins.bindParams "min" ["key","default"] 0 ⟨[],[]⟩ >>= _) _ _ _
 refine Wn (Zt (show Builtin.Builtins.bindParams "min" ["key","default"] 0 ⟨[],[]⟩=pure [none,none] from rfl) (Wn (Wv (Wn (X2 h (λit s2 z=>?_) λ_ _ e=>e)))))
 refine S5 z λI fp wr n P St bt aj W GB Ug n0 cm eT q=>?_
 try clear z
 subst aj
 refine Wn (W_ ?_)
 have nS:s2.heap.objs.size∉fp:=λhm=>Xv _ (Ug _ hm)
 rw[nm]
 refine Wv ⟨plainId_quiet XI _,Ck W cm nS (λb tb=>⟨(eT b tb).1,W2 (eT b tb).2⟩) n0 (W.frame _ _ _ GB λb _ o e=>Wo _ e) (λb o _ e=>Wo _ e) (WB _ rfl) λv h' tk p k=>?_⟩
 exact q v h' tk p λb o b1 e=>k b o b1 (W2 (WH e)) (Wo _ e)
end
end L2
namespace bU
theorem n8:∀(l:List (List Int)) (a b:List Int),hZ a (l++[b])=if bD b (hZ a l) then b else hZ a l
 |[],a,b=>rfl
 |x::l,a,b=>n8 l _ b
theorem qT:∀(l:List (List Int)) (a:List Int),hZ a l∈a::l
 |[],a=>Ww.mpr rfl
 |b::l,a=>by
  rw[hZ]
  rcases WG.mp (qT l (if bD b a then b else a))with h|h
  .rw[h]
   split
   .exact Wu _ Wx
   .exact Wx
  .exact Wu _ (Wu _ h)
theorem uF:∀(l:List (List Int)) (a:List Int),∀x∈a::l,KU (hZ a l) x
 |[],a,x,h=>by
  rw[Ww.mp h]
  show bD a a=false
  cases e:bD a a with
  |false=>rfl
  |true=>have:=gu a a e;rw[e]at this;cases this
 |b::l,a,x,h=>by
  rw[hZ]
  have ih:=uF l (if bD b a then b else a)
  have h0:=ih _ Wx
  rcases WG.mp h with h|h
  .rw[h]
   cases e:bD b a with
   |true=>
    rw[e]at h0
    exact ja _ _ _ h0 (gu _ _ e)
   |false=>rw[e]at h0;exact h0
  .rcases WG.mp h with h|h
   .rw[h]
    cases e:bD b a with
    |true=>rw[e]at h0;exact h0
    |false=>
     rw[e]at h0
     exact ja _ _ _ h0 e
   .exact ih x (Wu _ h)
theorem jd(val:Nat->List Int):∀(k:Nat) (l:List (List Int)),(∀i,i<k->l[i]?=some (val (i+1)))->val (PySem.argBest (λi j=>bD (val i) (val j)) k)=hZ (val 0) (l.take k)
 |0,l,_=>rfl
 |k+1,l,h=>by
  have hk:=h k (Yi k)
  have ih:=jd val k l λi hi=>h i (Yd hi)
  have e:l.take (k+1)=l.take k++[val (k+1)]:=by rw[List.take_add_one,hk];rfl
  rw[e,n8,<-ih]
  show val (if bD (val (k+1)) (val (PySem.argBest _ k))=true then k+1 else PySem.argBest _ k)=_
  split<;>rfl
end bU
namespace L2
open PySem PySem.Spec PyProof.Rows PySem.W bU
theorem uG:∀u v:List Int,HT.lexLt u v=bD u v
 |[],[]=>rfl
 |[],_::_=>rfl
 |_::_,[]=>rfl
 |x::u,y::v=>by
  show(if x=y then HT.lexLt u v else decide (x<y))=if x=y then bD u v else decide (x<y)
  rw[uG u v]
section
variable {X:Cx}
def fJ:∀{us:List V}{ks:List (List Int)}{vs:List Value},Paired (TupAt H) us ks->aD us vs->∀(i:Nat) (v:Value),vs[i]?=some v->∃b u,v= .ref b/\us[i]?=some u/\u= .ref b/\H b=some (.tup ((ks.getD i []).map V.int)):=λ{us ks vs} h=>by
 induction h generalizing vs with
 |nil=>intro r i v h;cases r;simp at h
 |cons hq p ih=>
  intro r i v h
  cases r with
  |cons r rs=>
   cases i with
   |zero=>
    refine ae hq λb aj hb=>?_
    try clear hq
    subst aj
    cases r
    have h':Value.ref b=v:=by simpa using h
    exact⟨b,.ref b,h'.symm,rfl,rfl,hb⟩
   |succ i=>exact gM (ih rs i v (by simpa using h)) λb u e1 e2 e3 e4=>⟨b,u,e1,by simpa using e2,e3,by simpa using e4⟩
def wO(hc:X.calm=true)(hu:X.A.units+64<cLine):cH X (.builtin "min") (λxs H Q=>∃(p:Addr) (ws:List V) (k:List Int) (ks:List (List Int)),xs=[.ref p]/\c9 X.K H p ws/\Paired (TupAt H) ws (k::ks)/\∀u,TupAt H u (hZ k ks)->Q u H):=by
 intro aa s σ H xs us Q I r zz
 refine Jc zz λp ws k ks e hq hp q=>?_
 subst e
 refine ae (vals1 r) λu aj rx=>?_
 subst aj
 cases rx
 refine bL (I.list hq) λits rv pl hz=>?_
 have hl:s.heap.IsList p its.toArray:=pl.isList
 have bQ:p<s.heap.objs.size:=by obtain⟨_,e,_⟩:=hl;exact WH e
 have len:its.length=ks.length+1:=by
  have h1:=rv.length
  have h2:=YJ hp
  rw[WM]at h2
  lia
 have best:(k::ks).getD (argBest (λi j=>bD ((k::ks).getD i []) ((k::ks).getD j [])) ks.length) []=hZ k ks:=by
  have:=jd (λi=>(k::ks).getD i []) ks.length ks (λi hi=>by simp[hi])
  simpa using this
 refine wN (T:=λb=>∃i,i<its.length/\its[i]?=some (.ref b)) (Yq hl ?_)
 have xQ:∀b,(∃i,i<its.length/\its[i]?=some (Value.ref b))->b<s.heap.objs.size:=λb zz=>by
  refine ae zz λi _ hi=>gM (fJ hp rv i _ hi) λb' _ e1 _ _ e4=>?_
  cases e1
  refine E9 (cX I e4) λx o xs n e g1 _=>?_
  cases e
  exact WH g1
 refine⟨_,[_,p],[_],_,_,_,_,rfl,aaF (A:=X.A.in1) (I.ok.hd hc) s.heap.objs.size p (W2 bQ) its.toArray,⟨⟨_,WB _ rfl,rfl,rfl⟩,hl.push _⟩,λb hb=>?_,by rw[WA];lia,(λi j x y s' Q' E' st hx hy hQ=>?_:Cj X.prog X.w X.A.in1 _ _ _ (λi j=>bD ((k::ks).getD i []) ((k::ks).getD j []))),λb hb=>⟨λz=>?_,?_⟩,λv h' tk hP hk=>?_⟩
 .show b<(s.heap.push _).objs.size
  rw[XW]
  rcases WG.mp hb with rfl|hb
  .exact Yi _
  .rw[Ww.mp hb];exact Yd bQ
 .have y0:its[i]?=some x:=by simpa using hx
  have Bh:its[j]?=some y:=by simpa using hy
  refine gM (fJ hp rv i x y0) λb _ aU _ _ eb=>?_
  subst aU
  refine gM (fJ hp rv j y Bh) λc _ fF _ _ ec=>?_
  subst fF
  have ib:i<its.length:=(WK.mp y0).1
  have jb:j<its.length:=(WK.mp Bh).1
  refine sh (cX I eb) λb' o xs n e g1 g2 g3 g4=>?_
  cases e
  refine sh (cX I ec) λc' o2 ys m e f1 f2 f3 f4=>?_
  cases e
  have s1:=st b o ⟨i,ib,y0⟩ (Wo _ g1)
  have s2:=st c o2 ⟨j,jb,Bh⟩ (Wo _ f1)
  refine HT.sG (items:=xs.toArray) (items2:=ys.toArray) ⟨o,s1,g2,n,g3⟩ ⟨o2,s2,f2,m,f3⟩ (by simpa using g4) (by simpa using f4) ?_ (by rw[uG];exact hQ)
  show X.A.units+1<cLine
  lia
 .rw[Ww.mp z]at hb
  exact absurd (xQ _ hb) (Xv _)
 .show b<(s.heap.push _).objs.size
  rw[XW]
  exact Yd (xQ b hb)
 .rw[WA,len,Nat.add_sub_cancel]at hP
  have nr:its[argBest (λi j=>bD ((k::ks).getD i []) ((k::ks).getD j [])) ks.length]?=some v:=by simpa using hP
  refine gM (fJ hp rv _ v nr) λb u y8 _ _ eb=>?_
  subst y8
  rw[best]at eb
  refine⟨.ref b,H,I.kept λb2 o e=>hk b2 o (λz=>?_) (Wo _ e),rfl,q _ ⟨b,rfl,eb⟩⟩
  rw[Ww.mp z]at e
  exact absurd (WH e) (Xv _)
end
end L2
namespace PySem
namespace F
def y9:mroOf (.type "reversed")=pure [.type "reversed",.type "object"]:=by rw[mroOf_type];kernel_rfl
def GC:typeLookup (.type "reversed") "__new__"=pure (some (.builtin "reversed.__new__")):=by rw[typeLookup_type,builtinLookup_eq_fast];kernel_rfl
def Cm:Slot "reversed" "__init__" "object.__init__":= .of (owner:="object") (n:="__init__") (by rw[typeLookup_type,builtinLookup_eq_fast];kernel_rfl) (by decide +kernel) (by decide +kernel) (by decide +kernel) (by first|exact .inl (by decide +kernel)|exact .inr (by decide +kernel)) (by rw[isSubtype_type];kernel_rfl)
def wQ:TypeCalled "reversed" "reversed.__new__" "object.__init__":=
 ⟨by decide +kernel,by decide +kernel,⟨_,_,y9⟩,madeBy_type y9 GC (by decide +kernel),by decide +kernel,by rw[isSubtype_type];kernel_rfl,Cm⟩
def KZ(a:Value):checkTypeCall "reversed" ⟨[a],[]⟩=pure ():=by kernel_rfl
def K0(a:Value):checkBuiltinCall "reversed.__new__" ⟨[.type "reversed",a],[]⟩=pure ():=by kernel_rfl
def y_:entryFor table "reversed.__new__"=some Builtin.«reversed.__new__»:=entryFor_of_tree (by kernel_rfl)
def je:Slot "reversed" "__next__" "reversed.__next__":= .of (owner:="reversed") (n:="__next__") (by rw[typeLookup_type,builtinLookup_eq_fast];kernel_rfl) (by decide +kernel) (by decide +kernel) (by decide +kernel) (by first|exact .inl (by decide +kernel)|exact .inr (by decide +kernel)) (by rw[isSubtype_type];kernel_rfl)
def ir:entryFor table "reversed.__next__"=some Builtin.«reversed.__next__»:=entryFor_of_tree (by kernel_rfl)
def Cn:typeLookup (.type "tuple") "__reversed__"=pure none:=by rw[typeLookup_type,builtinLookup_eq_fast];kernel_rfl
def GD:isSubtype (.type "reversed") (.type "reversed")=pure true:=by rw[isSubtype_type];kernel_rfl
def uH:Slot "reversed" "__iter__" "reversed.__iter__":= .of (owner:="reversed") (n:="__iter__") (by rw[typeLookup_type,builtinLookup_eq_fast];kernel_rfl) (by decide +kernel) (by decide +kernel) (by decide +kernel) (by first|exact .inl (by decide +kernel)|exact .inr (by decide +kernel)) (by rw[isSubtype_type];kernel_rfl)
def nu:entryFor table "reversed.__iter__"=some Builtin.«dict_keyiterator.__iter__»:=entryFor_alias (id':="dict_keyiterator.__iter__") (by kernel_rfl) (by first|rfl|decide +kernel|(unfold String.splitOn;simp +decide [String.splitOnAux])) (by decide +kernel) (by kernel_rfl)
end F
def wR(a:Value):argsOk "reversed.__iter__" ⟨[a],[]⟩:=by unfold argsOk;kernel_rfl
def n9(a:Value):argsOk "reversed.__next__" ⟨[a],[]⟩:=by unfold argsOk;kernel_rfl
end PySem
namespace L2
open PySem PySem.Spec PyProof.Rows
open AutoSeq1 (wpAny_loadPart')
noncomputable abbrev Co(l:Addr)(i:Int):Obj:={cls:= .type "reversed",data:= .fields #[.ref l,rawInt i]}
def za(l:Addr)(items:Array Value)(n:Nat)(BQ:Option Addr)(sl:Array (Option Value)):
  Meets (Builtin.«reversed.__new__» ⟨[.type "reversed",.ref l],[]⟩) (λ_ R s=>s.heap.get? l=some {cls:= .type "tuple",dict:=BQ,data:= .seq items n,slots:=sl}/\items.size<2 ^ 62/\
   ∀tk,R (.ok (.ret (.ref s.heap.objs.size))) {s with heap:=s.heap.push (Co l ((items.size:Int)-1)),toks:=tk}):=
 .of_wp λprog w A R s h=>by
  obtain⟨hp,g,d,tk,os⟩:=s
  obtain⟨hl,hz,h⟩:=h
  have sb:=F.GD
  have no:=F.Cn
  have hT:Shared.TypeIs ⟨hp,g,d,tk,os⟩ (.ref l) "tuple":=⟨_,hl,rfl⟩
  have nd:isSubtype (.type "tuple") (.type "dict")=pure false:=by rw[isSubtype_type];kernel_rfl
  have gi:=F.slot_tuple_getitem.lookup
  have hL:IsTup (Shared.heap ⟨hp,g,d,tk,os⟩) l items:=⟨_,hl,rfl,n,rfl⟩
  have O8:(items.size:Int)<2 ^ 63:=by lia
  wp_walk using X6 hl,PyProof.Rows.len_tuple hL O8
  exact⟨_,rfl,h _⟩
section
variable {prog:Program}{w:World}{A:Around}{E:Value->Shared->Prop}{s:Shared}
def qU(h:Heap)(it l:Addr)(i:Int):Prop:=∃o,h.get? it=some o/\o.cls= .type "reversed"/\o.data= .fields #[.ref l,rawInt i]
def qU.ty(r:qU s.heap it l i):s.TypeIs (.ref it) "reversed":=let ⟨o,e,c,_⟩:=r;⟨o,e,c⟩
def Cp(hL:IsTup s.heap l items)(hz:items.size<2 ^ 62)
  (h:∀tk,Q (.ref s.heap.objs.size) {s with heap:=s.heap.push (Co l ((items.size:Int)-1)),toks:=tk}):
  wpAny (model prog w) A (call (.type "reversed") [.ref l]) Q E s:=by
 refine au λnO=>?_
 obtain⟨⟨c,BQ,dt,sl⟩,hl,hc,n,hd⟩:=hL
 have kJ:c= .type "tuple":=hc
 have p8:dt= .seq items n:=hd
 subst kJ p8
 refine nO ?_
 refine callType_new F.wQ (by decide) (F.KZ _) (F.K0 _) (λobj=>Zm obj _) F.y_ (za l items n BQ sl) ⟨hl,hz,λtk=>?_⟩
 exact⟨⟨_,WB _ rfl,rfl⟩,h tk⟩
def uI(st:qU s.heap it l i)(h:Q (.ref it) s):wpAny (model prog w) A (pyIter (.ref it)) Q E s:=by
 refine Y9 st.ty F.uH (Xb F.uH st.ty F.nu ?_ (wR _))
 show wpAny _ _ (ret (.ref it)) _ _ s
 exact Wv ⟨_,rfl,"reversed",_,st.ty,F.je.lookup,h⟩
def Cq{it l:Addr}{i:Nat}{items:Array Value}{x:Value}{Q:Option Value->Shared->Prop}(st:qU s.heap it l i)(hl:IsTup s.heap l items)(hx:items[i]?=some x)(hz:items.size<2 ^ 62)
  (hQ:∀h' tk,qU h' it l ((i:Int)-1)->Heap.SameBut it s.heap h'->Q (some x) {s with heap:=h',toks:=tk}):wpAny (model prog w) A (pyNext (.ref it)) Q E s:=by
 have T:=st.ty
 refine bL (id st) λo ho hc hd=>?_
 have TL:s.TypeIs (.ref l) "tuple":=let ⟨ol,a,b,_⟩:=hl;⟨ol,a,b⟩
 have hi:i<items.size:=(ZA.mp hx).1
 unfold pyNext
 refine Wn (Yu (Xi (name:=Str.ofString "__next__") T F.je (Xb F.je T F.ir ?_ (n9 _))))
 show wpAny _ _ (field (.ref it) 0 >>= _) _ _ s
 refine Wn (Yg ho hd (x:= .ref l) rfl ?_)
 show wpAny _ _ (field (.ref it) 1 >>= _) _ _ s
 refine Wn (Yg ho hd (x:= .int i 0) rfl ?_)
 show wpAny _ _ (if((i:Nat):Int)<0 then _ else _) _ _ s
 rw[WV (by lia)]
 have gi:=F.slot_tuple_getitem.lookup
 refine Wn (Zu TL gi ?_)
 show wpAny _ _ (mkInt ((i:Nat):Int) >>= _) _ _ s
 refine Wn (wpAny_mkInt ?_)
 refine Wn (Yu (PyProof.Rows.getItem_tuple (j:=i) (x:=x) (s:={s with toks:=s.toks+1}) hl (by lia) (by lia) (by unfold seqIndex?;simp;lia) hx ?_))
 show wpAny _ _ (field (.ref it) 1 >>= _) _ _ {s with toks:=s.toks+1}
 refine Wn (Yg ho hd (x:= .int i 0) rfl ?_)
 show wpAny _ _ (setField (.ref it) 1 (rawInt ((i:Int)-1)) >>= _) _ _ {s with toks:=s.toks+1}
 refine Wn (XX ho hd (by simp) (Wv ⟨x,rfl,Wv (hQ _ _ ⟨_,Xp _ ho (X7 (Xq hd _)),(YK ..).trans hc,?_⟩ (Xh ..))⟩))
 rw[Xq hd]
 simp[rawInt]
def GF(hh:A.handled=none)(st:qU s.heap it l (-1))(hQ:∀h',Heap.ExtBut it s.heap h'->Q none {s with heap:=h'}):wpAny (model prog w) A (pyNext (.ref it)) Q E s:=by
 have T:=st.ty
 refine bL (id st) λo ho hc hd=>?_
 unfold pyNext
 refine Wn (Yu (Xi (name:=Str.ofString "__next__") T F.je (Xb F.je T F.ir ?_ (n9 _))))
 show wpAny _ _ (field (.ref it) 0 >>= _) _ _ s
 refine Wn (Yg ho hd (x:= .ref l) rfl ?_)
 show wpAny _ _ (field (.ref it) 1 >>= _) _ _ s
 refine Wn (Yg ho hd (x:= .int (-1) 0) rfl ?_)
 refine Wn (YA (Wn ?_))
 refine Wn (m:=setField (.ref it) 1 (rawInt (-1))) (XX ho hd (by simp) ?_)
 have EB:(s.heap.update it (Obj.mapFields (·.setIfInBounds 1 (rawInt (-1))))).get? it=some (Obj.mapFields (·.setIfInBounds 1 (rawInt (-1))) o):=Xp _ ho (X7 (Xq hd _))
 refine XX EB (Xq hd _) (by simp)<|Wn ?_
 unfold Builtin.SmallTypes.stopIteration
 refine Wn ?_
 simp only[newExc,newTuple]
 refine Wn (W_ ?_ (by size_fits))
 refine Wn (m:=firstArgMember _ _) (Zt (a:=Value.none) (by first|rfl|(simp only[firstArgMember];rfl)) ?_)
 refine W_ ?_ (by size_fits)
 simp only[raiseNew]
 refine Wn (Z3 ?_)
 first|rw[show A.in1.handled=none from hh]|rw[hh]
 refine Wn (Wv (aau ?_))
 refine Wn (Zk (T:="StopIteration") (b:=true) ⟨_,WB _ rfl,rfl⟩ isSubtype_stop ?_)
 exact Wv (hQ _ ((((Xh ..).trans (Xh ..)).extBut.push _).push _))
end
noncomputable def K1(K:PySem.W.Frag)(a:Addr)(n:Nat):It:=
 ⟨λi H=>∃xs,dF K H a xs/\xs.length=n/\i<n,λi H x H'=>H'=H/\∀xs,dF K H a xs->xs[n-1-i]?=some x,λi H=>i=n⟩
def Cr{P:Program}{w:World}{K:PySem.W.Frag}{tg:Expr}(a it:Addr)(n:Nat):oP P w K tg (K1 K a n) [it] it (λi h=>qU h it a ((n:Int)-1-i)) where
 mem:=by simp
 obj:=λi h st b hb=>by
  have e:b=it:=by simpa using hb
  subst e
  exact bL st λo e c d=>⟨o,e,λv z=>by rw[d]at z;cases z⟩
 keep:=λi h h' st k=>let ⟨o,e,r⟩:=st;⟨o,k it (by simp) o e,r⟩
 item:=by
  intro X hP hw hK hc i aa s σ H E I hf st hg
  subst hP hw hK
  refine bL hg λxs hq hl hi=>bL (I.tuple hq) λits rv p hz=>rZ (hf it (by simp)) λf0 f1 f2 f3 f4 f5=>?_
  have hj:n-1-i<xs.length:=by lia
  refine ae (rv.get (Wq hj)) λu hu ru=>?_
  have len:=rv.length
  have ei:(n:Int)-1-i=((n-1-i:Nat):Int):=by lia
  rw[ei]at st
  refine Cq st p (x:=u) (by simpa using hu) (by rw[WA];rw[sizeLine_eq]at hz;lia) λh' tk ak sb=>?_
  have I1:Inv X aa σ H {s with heap:=h',toks:=tk}:=I.turned (t':=tk) (λb o hb e=>(sb.2 b hb).trans e) f0 f1 f3 f4 f5
  refine bL (id ak) λo e c d=>⟨u,rfl,nH (s:={s with heap:=h',toks:=tk}) e c d (by decide) ⟨xs[n-1-i],H,I1,ru,⟨rfl,λys hy=>by rw[I.jF hy hq];exact Wq hj⟩,?_,λb hb=>(hf b hb).1⟩⟩
  have e2:(n:Int)-1-((i+1:Nat):Int)=((n-1-i:Nat):Int)-1:=by lia
  rw[e2]
  exact ak
 done:=by
  intro X hP hw hK hc i aa s σ H E I hf st hg
  subst hP hw hK
  have hg:i=n:=hg
  subst hg
  refine rZ (hf it (by simp)) λf0 f1 f2 f3 f4 f5=>?_
  have ei:(i:Int)-1-i= -1:=by lia
  rw[ei]at st
  exact GF (I.ok.hd hc) st λh' eb=>⟨rfl,I.turned (t':=s.toks) (λb o hb e=>eb b o hb e) f0 f1 f3 f4 f5⟩
 self:=λ_ _ _ _ _ st h=>uI st h
section
variable {X:Cx}{tg:Expr}
def Uh(K:PySem.W.Frag)(ta:TA):TI:=λσ H R=>ta σ H λvs H1=>∃a xs,vs=[.ref a]/\dF K H1 a xs/\R (K1 K a xs.length) H1
def K2{a:Expr}{ta:TA}{p pos:Pos}(hg:Gl X "reversed")(hm:X.mg "reversed"=none)(ha:PA X [a] ta)(hs:starEach [a] X.env=[(false,eval a X.env)]):PI X tg (.Call (.Name "reversed" p) [a] [] pos) (Uh X.K ta):=by
 intro aa s σ H R I h
 refine Call_ (jE I hg hm boot_reversed (XY (bI (ha pos aa s σ H _ I h) λus s1 ⟨vs,H1,I1,r1,q1⟩=>?_) hs rfl))
 refine au λnO=>bC q1 λl xs e hq q=>?_
 subst e
 refine ae (vals1 r1) λu aj rx=>?_
 subst aj
 cases rx
 refine bL (I1.tuple hq) λits rv pl hz=>nO ?_
 have len:=rv.length
 refine Cp pl (by rw[WA];rw[sizeLine_eq]at hz;lia) λtk=>?_
 have es:((its.toArray.size:Nat):Int)-1=(xs.length:Int)-1-((0:Nat):Int):=by rw[WA,len];lia
 have st:qU (s1.heap.push (Co l ((its.toArray.size:Int)-1))) s1.heap.objs.size l ((xs.length:Int)-1-((0:Nat):Int)):=⟨_,WB _ rfl,rfl,by rw[es]⟩
 refine uI (s:={s1 with heap:=s1.heap.push (Co l ((its.toArray.size:Int)-1)),toks:=tk}) st ?_
 refine⟨s1.heap.objs.size,[s1.heap.objs.size],_,_,H1,rfl,I1.kept (t':=tk) λb o e=>Wo _ e,Cr l _ xs.length,st,λb hb=>?_,q⟩
 have e:b=s1.heap.objs.size:=by simpa using hb
 subst e
 exact I1.so (WE _) (I1.aR.fresh (WE _))
end
open PySem.W
noncomputable def O9(a:Addr)(o:Obj)(aw:List (cL×V)):It:=
 ⟨λi H=>H a=some (.dn o (.dK aw))/\i<aw.length,λi H x H'=>H'=H/\(aw[i]?).map (λkv=>kv.2)=some x,λi H=>H a=some (.dn o (.dK aw))/\i=aw.length⟩
def pI{X:Cx}{aa:List (Addr×Obj)}{σ:St}{H:Hp}{s:Shared}{a:Addr}{o:Obj}{aw:List (cL×V)}{es:Array DictEntry}{ep:Nat}(I:Inv X aa σ H s)(e:H a=some (.dn o (.dK aw)))(hd:o.data= .dict es ep):
  (a==sysModules)=false/\∃vs,KV aw vs/\s.heap.DictAt (bg X.prog X.w) a vs ep:=by
 refine au λnO=>?_
 obtain⟨z,lo,vs,eW,o',sj,Fj,h1,h2,h3,h4,h5,h6⟩:=i8 I.aR (.inr ⟨o,e⟩)
 have ho:s.heap.get? a=some o:=(show aQ X.prog X.w H s.heap a (.dn o (.dK aw)) from I.aR a _ e).1
 rw[ho]at h1
 cases h1
 rw[hd]at h3
 cases h3
 exact nO<|⟨lo,vs,eW,o,es,ho,h2,hd,h4,h5,h6⟩
def K3{κ:Type}[DecidableEq κ]{aw:List (κ×V)}{vs:List (κ×Value)}(r:KV aw vs){i:Nat}(hi:i<aw.length):∃k v,vs[i]?=some (k,v)/\RelV aw[i].2 v:=by
 unfold KV at r
 induction r generalizing i with
 |nil=>exact absurd hi (YG _)
 |@cons p q ps qs hq t ih=>
  cases i with
  |zero=>exact⟨q.1,q.2,rfl,hq.2⟩
  |succ i=>
   exact ik (ih (i:=i) (by simpa using hi)) λk v h1 h2=>⟨k,v,by simpa using h1,by simpa using h2⟩
def Cu{P:Program}{w:World}{K:PySem.W.Frag}{tg:Expr}(a it:Addr)(eU:a≠it)(o:Obj)(aw:List (cL×V))(es:Array DictEntry)(ep:Nat)(hd:o.data= .dict es ep):oP P w K tg (O9 a o aw) [it] it (λi h=>h.IsValIter it a i aw.length ep) where
 mem:=by simp
 obj:=λi h st b hb=>by
  have e:b=it:=by simpa using hb
  refine au λnO=>?_
  subst e
  exact bL st λo e c d=>nO<|⟨o,e,λv z=>by rw[d]at z;cases z⟩
 keep:=λi h h' st k=>let ⟨o,e,r⟩:=st;⟨o,k it (by simp) o e,r⟩
 item:=by
  intro X hP hw hK hc i aa s σ H E I hf st hg
  refine au λnO=>?_
  subst hP hw hK
  obtain⟨e1,e2⟩:=hg
  obtain⟨_,vs,eW,hm⟩:=pI I e1 hd
  refine rZ (hf it (by simp)) λf0 f1 f2 f3 f4 f5=>ik (K3 eW e2) λk v n1 n2=>nO ?_
  rw[eW.length]at st
  refine wpAny_pyNext_values_item st hm n1 λh' k' hs=>?_
  have I1:Inv X aa σ H {s with heap:=h'}:=I.turned (t':=s.toks) (λb o hb e=>(hs.2 b hb).trans e) f0 f1 f3 f4 f5
  exact au λnO=>bL (id k') λoi g1 g2 g3=>nO<|⟨_,rfl,nH (s:={s with heap:=h'}) g1 g2 g3 (by decide) ⟨_,H,I1,n2,⟨rfl,by rw[Wq e2];rfl⟩,by rw[eW.length];exact k',λb hb=>(hf b hb).1⟩⟩
 done:=by
  intro X hP hw hK hc i aa s σ H E I hf st hg
  refine au λnO=>?_
  subst hP hw hK
  obtain⟨e1,e2⟩:=hg
  obtain⟨_,vs,eW,hm⟩:=pI I e1 hd
  refine rZ (hf it (by simp)) λf0 f1 f2 f3 f4 f5=>nO ?_
  rw[eW.length]at st
  exact wpAny_pyNext_values_end (I.ok.hd hc) st hm (by rw[WS];rw[<-eW.length,e2];exact WE _) λh' eb=>⟨rfl,I.turned (t':=s.toks) (λb o hb e=>eb b o hb e) f0 f1 f3 f4 f5⟩
 self:=λ_ _ _ _ _ st h=>wpAny_pyIter_valiter st h
section
variable {X:Cx}{tg:Expr}
def Ui(tl:TE):TI:=λσ H R=>tl σ H λx H1=>∃a o aw,x= .ref a/\H1 a=some (.dn o (.dK aw))/\R (O9 a o aw) H1
def K4{l:Expr}{tl:TE}{ap cp:Pos}(hl:PE X l tl)(iS:attributeBase l "values" X.env (eval l X.env)=eval l X.env)(iT:(ap.endLine==cp.line)=true):PI X tg (.Call (.Attribute l "values" ap) [] [] cp) (Ui tl):=by
 intro aa s σ H R I h
 refine Z1 iS iT (bI (hl aa s σ H _ I h) λv s1 zz=>?_)
 refine au λnO=>bC zz λx H1 I1 r1 q1=>c7 q1 λa o aw e hq q=>?_
 subst e
 cases r1
 refine cU (Gk I1 (.inl ⟨aw,.inr ⟨o,hq⟩⟩)) λt1 t2 t3=>nO ?_
 have ho:s1.heap.get? a=some o:=(show aQ X.prog X.w H1 s1.heap a (.dn o (.dK aw)) from I1.aR a _ hq).1
 obtain⟨es,ep,hd⟩:∃es ep,o.data= .dict es ep:=by
  refine au λnO=>?_
  obtain⟨_,_,_,_,o',sj,Fj,h1,h2,h3,_⟩:=i8 I1.aR (.inr ⟨o,hq⟩)
  rw[ho]at h1
  cases h1
  exact nO<|⟨sj,Fj,h3⟩
 refine au λnO=>?_
 obtain⟨_,vs,eW,hm⟩:=pI I1 hq hd
 refine nO ?_
 refine⟨"dict",_,PySem.F.plainAttrs_dict,ZU,PySem.F.type_dict_values,t1,t2,YB rfl (aat ?_)⟩
 refine call_meetsIn ZU t1 PySem.F.entry_dict_values (PySem.F.args_dict_values_1 _) (meets_dict_values (bg X.prog X.w) a t3) ⟨⟨vs,?_⟩,?_⟩
 .exact au λnO=>gM (id hm) λo' sj h1 h2 h3 r=>nO<|⟨o',sj,ep,h1,h2,h3,r⟩
 .show wpAny _ _ (pyIter (.ref s1.heap.objs.size)) _ _ _
  have I2:Inv X aa σ H1 {s1 with heap:=s1.heap.push {cls:= .type "dict_values",data:= .fields #[.ref a]}}:=I1.kept (t':=s1.toks) λb o e=>Wo _ e
  refine au λnO=>?_
  obtain⟨_,V6,O_,Uj⟩:=pI I2 hq hd
  refine nO<|wpAny_pyIter_values (s:={s1 with heap:=s1.heap.push {cls:= .type "dict_values",data:= .fields #[.ref a]}}) ⟨_,WB _ rfl,rfl,rfl⟩ Uj ?_
  have alt:a<(s1.heap.push {cls:= .type "dict_values",data:= .fields #[.ref a]}).objs.size :=WH (Wo _ ho)
  refine⟨_,[(s1.heap.push {cls:= .type "dict_values",data:= .fields #[.ref a]}).objs.size],_,_,H1,rfl,I2.kept (t':=s1.toks) λb o e=>Wo _ e,Cu a _ (W2 alt) o aw es ep hd,⟨_,WB _ rfl,rfl,by rw[O_.length];rfl⟩,λb hb=>?_,q⟩
  have e:b=(s1.heap.push {cls:= .type "dict_values",data:= .fields #[.ref a]}).objs.size :=by simpa using hb
  subst e
  exact I2.so (WE _) (I2.aR.fresh (WE _))
end
section
variable {X:Cx}{aa:List (Addr×Obj)}{σ:St}{H H1 H2:Hp}{s:Shared}
def lV(H:Hp)(b:Addr):Prop:=∃u,H b=some u/\xN (some u)
def NF(X:Cx)(b:Addr):Prop:=∀o u,X.H₀ b≠some (.dn o u)
def Inv.Pa(I:Inv X aa σ H1 s)(ea:H1 a=some u)(mu:xN (some u)):∃o,Inv X aa σ (upd H1 a (.dn o u)) s:=by
 obtain⟨o,ho⟩:∃o,s.heap.get? a=some o:=by
  have ok:=I.aR a u ea
  cases u with
  |lst xs=>obtain⟨_,_,_,_,e⟩:=ok;exact⟨_,e⟩
  |dK aw=>obtain⟨_,_,_,_,o,_,_,e,_⟩:=ok;exact⟨_,e⟩
  |dT aw=>obtain⟨_,_,_,_,o,_,_,e,_⟩:=ok;exact⟨_,e⟩
  |set S n=>obtain⟨o,_,_,_,e,_⟩:=ok;exact⟨_,e⟩
  |ins C dx fs=>obtain⟨_,_,_,e,_⟩:=ok;exact⟨_,e⟩
  |ext φ=>obtain⟨_,⟨o,e⟩,_⟩:=ok;exact⟨_,e⟩
  |_=>exact mu.elim
 have nt:∀b w,H1 b=some w->¬xN (some w)->upd H1 a (.dn o u) b=some w:=λb w e nm=>by
  rw[ao (λz=>?_)]
  .exact e
  .rw[z,ea]at e;cases e;exact nm mu
 have aR:iB X.prog X.w (upd H1 a (.dn o u)) s.heap:=λb w' e=>by
  by_cases hb:b=a
  .subst hb
   rw[ag]at e
   cases e
   exact⟨ho,(I.aR b u ea).mW (λ_ _ _ z=>z) (λc z=>nt c _ z id) λc ys z=>nt c _ z id⟩
  .rw[ao hb]at e
   exact(I.aR b w' e).mW (λ_ _ _ z=>z) (λc z=>nt c _ z id) λc ys z=>nt c _ z id
 have un:Un X.fs [] H1 (upd H1 a (.dn o u)) s.heap s.heap:=Un.write (x:=a) (e:=a) (by rw[ea];exact mu) (.inl rfl) (λ_ _ _ z=>z) ⟨o,ho⟩
 have:=I.un (t':=s.toks) un aR
 exact⟨o,this⟩
structure Cv(as:List Addr)(H1 H2:Hp):Prop where
 out:∀b,b∉as->H2 b=H1 b
 at_:∀b,b∈as->∃o u,H1 b=some u/\xN (some u)/\H2 b=some (.dn o u)
theorem Inv.iC:∀(as:List Addr) {H1:Hp},Inv X aa σ H1 s->as.Nodup->(∀b∈as,lV H1 b)->∃H2,Inv X aa σ H2 s/\Cv as H1 H2
 |[],H1,I,_,_=>⟨H1,I,λ_ _=>rfl,λ_ z=>nomatch z⟩
 |a::as,H1,I,nd,hm=>by
  rw[Xd]at nd
  refine ae (hm a Wx) λu ea mu=>ae (Inv.iC as I nd.2 λb hb=>hm b (Wu _ hb)) λH2 I2 f2=>?_
  have Uk:H2 a=some u:=by rw[f2.out a nd.1];exact ea
  obtain⟨o,I3⟩:=I2.Pa Uk mu
  refine⟨_,I3,λb hb=>?_,λb hb=>?_⟩
  .rw[WG,not_or]at hb
   rw[ao hb.1]
   exact f2.out b hb.2
  .by_cases n_:b=a
   .subst n_
    exact⟨o,u,ea,mu,ag⟩
   .rw[ao n_]
    exact f2.at_ b ((WG.mp hb).resolve_left n_)
def Inv.nf(I:Inv X aa σ H s)(h:lV H b):NF X b:=λo u e=>by
 refine ae h λw e1 mu=>?_
 have:=I.base.iC b o u e
 rw[e1]at this
 cases this
 exact mu
open Classical in
noncomputable def gg(as:List Addr)(H1 H2:Hp):Hp:=λb=>if b∈as then H1 b else H2 b
def jf(h:b∈as):gg as H1 H2 b=H1 b:=WO h
def bT(h:b∉as):gg as H1 H2 b=H2 b:=WV h
def qV(as:List Addr)(H1 H2:Hp):Prop:=∀b,b∈as->∃o u,H1 b=some u/\xN (some u)/\H2 b=some (.dn o u)
theorem Inv.gg(I:Inv X aa σ H2 s)(nf:∀b∈as,NF X b)(h:qV as H1 H2):Inv X aa σ (gg as H1 H2) s:=by
 have same:∀b w,H2 b=some w->(∀o u,w≠ .dn o u)->L2.gg as H1 H2 b=some w:=λb w e n=>by
  rw[bT λhb=>?_]
  .exact e
  .refine bC (h b hb) λo u _ _ e2=>?_
   rw[e]at e2
   cases e2
   exact n o u rfl
 have uJ:∀b,H2 b=none->L2.gg as H1 H2 b=none:=λb e=>by
  rw[bT λhb=>?_]
  .exact e
  .refine bC (h b hb) λo u _ _ e2=>?_
   rw[e]at e2
   cases e2
 have aR:iB X.prog X.w (L2.gg as H1 H2) s.heap:=λb w' e=>by
  by_cases hb:b∈as
  .refine bC (h b hb) λo u e1 mu e2=>?_
   rw[jf hb,e1]at e
   have ew:u=w':=WU e
   subst ew
   obtain⟨_,q⟩:=(show aQ X.prog X.w H2 s.heap b (.dn o u) from I.aR b _ e2)
   exact q.mW (λ_ _ _ z=>z) (λc z=>same c _ z λ_ _ y=>(nomatch y)) λc ys z=>same c _ z λ_ _ y=>(nomatch y)
  .rw[bT hb]at e
   exact(I.aR b w' e).mW (λ_ _ _ z=>z) (λc z=>same c _ z λ_ _ y=>(nomatch y)) λc ys z=>same c _ z λ_ _ y=>(nomatch y)
 refine⟨I.ok,I.os,I.bare,⟨I.base.keep,I.base.slot,λb o e n hx=>uJ b (I.base.free b o e n hx),I.base.there,λb xs e=>same b _ (I.base.oH b xs e) λ_ _ y=>(nomatch y),λb o u e=>?_,λb ps e=>?_⟩,I.loc,I.cell,uJ _ I.free,λx c e=>uJ _ (I.fS x c e),λp hp=>?_,aR,I.len⟩
 .have e2:=I.base.iC b o u e
  rw[bT λhb=>nf b hb o u e]
  exact e2
 .obtain⟨more,e2⟩:=I.base.oJ b ps e
  exact⟨more,same b _ e2 λ_ _ y=>(nomatch y)⟩
 .exact cU (I.pin p hp) λe n r=>⟨e,uJ _ n,r⟩
end
section
variable {X:Cx}{k:Nat}{f:Addr}{fd:FuncData}{ps:List Str}{sp:Sp}{x:Str}{p pos:Pos}{e:Expr}{es:List Expr}{t:TA}
def zb(F:iP X.prog X.w X.K X.mg X.base wm k f fd ps sp)(hr:eG k X.A)(hg:Gl X x)(hm:X.mg x=some (.ref f))(hk:PySem.W.keepIn X.K (.ref f)=true)(hb:Binds X.K fd ps [])
  (ha:PA X (e::es) t) (Bf:(x==("__debug__":Str))=false) (he:starEach (e::es) X.env=(false,eval e X.env)::starEach es X.env) (jG:(backTo pos (starEach es X.env)).any (·.1)=false):
  PE X (.Call (.Name x p) (e::es) [] pos) (λσ H Q=>t σ H λvs H1=>∃as:List Addr,as.Nodup/\(∀b∈as,lV H1 b)/\∀H2,Cv as H1 H2->sp (vs++[]) H2 (λv H3=>qV as H1 H3/\Q v (gg as H1 H3)) E0):=by
 intro aa s σ H Q I h
 refine YY (oM I hg hm ?_ Bf)
 refine aay (h₀:=X.base) I.ok.mod.MH hk (bI (ha pos aa s σ H _ I h) λus s1 ⟨vs,H1,I1,r,as,nd,M7,q⟩=>⟨I1.D8,?_⟩) he jG
 exact ae (Inv.iC as I1 nd M7) λH2 I2 fz=>bI (xZ F hr hb .nil yk I2 r (q H2 fz)) λv s2 zz=>gM zz λy H3 I3 ry hc q3=>⟨y,_,I3.gg (λb jH=>I1.nf (M7 b jH)) hc,ry,q3⟩
def Cw{e:Expr}{t:TE}(h:PE X e t):PE X e (λσ H Q=>t σ H λv H1=>∃as:List Addr,as.Nodup/\(∀b∈as,lV H1 b)/\∀H2,Cv as H1 H2->Q v H2):=by
 intro aa s σ H Q I q
 refine bI (h aa s σ H _ I q) λv s1 zz=>au λnO=>?_
 obtain⟨y,H1,I1,r1,as,nd,M7,q1⟩:=zz
 exact ae (Inv.iC as I1 nd M7) λH2 I2 fz=>nO<|⟨y,H2,I2,r1,q1 H2 fz⟩
end
section
variable {X:Cx}
def zc(K:PySem.W.Frag):V->List V->Hp->VK->Prop:=λx vs H Q=>∃l b xs zs,x= .ref l/\vs=[.ref b]/\H l=some (.lst xs)/\c9 K H b zs/\xs.length+zs.length<=sizeLine/\Q .fC (upd H l (.lst (xs++zs)))
def zf:Og X "list.extend" (zc X.K):=by
 intro aa s σ H x vs v us Q I rx rv h
 refine au λnO=>D6 h λl b xs zs aj aU hH hB hz q=>?_
 try clear h
 subst aj
 subst aU
 cases rx
 refine ae rv.one λu fF ru=>?_
 subst fF
 cases ru
 obtain⟨z,its,n,r,hl,e⟩:=I.F1 hH
 refine nO ?_
 have key:∃(kF:List Value) (n2:Nat),aD zs kF/\s.heap.get? b=some {cls:= .type "list",data:= .seq kF.toArray n2}:=by
  rcases hB with hB|⟨o,its,m,h1,h2,h3,h4,h5,h6,h7⟩
  .refine au λnO=>?_
   obtain⟨_,kF,n2,r2,e2⟩:=hB.ok I.aR
   exact nO<|⟨kF,n2,r2,e2⟩
  .have hg:=I.D8 b o h1
   refine au λnO=>?_
   obtain⟨c,BQ,dt,sl⟩:=o
   have h2:c= .type "list":=h2
   have h3:BQ=none:=h3
   have h4:dt= .seq its m:=h4
   have h7:sl=#[]:=h7
   subst h2 h3 h4 h7
   exact nO<|⟨its.toList,m,h6,by simpa using hg⟩
 refine au λnO=>ik key λkF n2 r2 e2=>nO ?_
 have O7:=r2.length
 have hsz:its.toArray.size+kF.toArray.size<=sizeLine:=by rw[WA,WA];lia
 have K5:¬(!its.toArray.isEmpty&&Builtin.List.listTooLong (its.toArray.size+kF.toArray.size))=true:=by
  rw[yi hsz,Bool.and_false]
  exact Wt
 refine call_meets F.slot_list_extend ⟨_,e,rfl⟩ F.entry_list_extend (F.args_list_extend_2 _ _) (AutoSeq1.list_extend_list_list_0 l its.toArray n b kF.toArray n2 K5 (by rw[WA];lia) (by lia)) ⟨e,e2,?_⟩
 refine⟨.fC,_,I.F0 (its':=its++kF) hH e (by simp) (r.append r2) ?_,rfl,q⟩
 rw[WC]
 lia
def qW(tk tv:TE):TE:=λσ H Q=>∀p,H p=none->tk σ (upd H p (.dK [])) λx H1=>tv σ H1 λy H2=>∃i:Int,x= .int i/\H2 p=some (.dK [])/\Q (.ref p) (upd H2 p (.dK [(Sum.inl i,y)]))
def uK(hu:X.A.units+1<cLine)(hk:PE X k tk)(hv:PE X v tv):PE X (.Dict [some k] [v] pos) (qW tk tv):=by
 intro aa s σ H Q I h
 have hn:H s.heap.objs.size=none:=I.aR.fresh (WE _)
 refine wpAny_Dict_any rfl rfl (by simp) (show 1<=15 by decide) ?_
 have I0:Inv X aa σ (upd H s.heap.objs.size (.dK [])) {s with heap:=s.heap.push {cls:= .type "dict",data:= .dict #[]}}:=I.laid (a:=s.heap.objs.size) (o:= .dK []) (t':=s.toks) (λ_ _ q=>Wo _ q) (WE _) (yK s.heap I.big)
 refine pairTrees_cons_walk (bI (hk aa _ σ _ _ I0 (h _ hn)) λkv s1 zz=>bC zz λx H1 I1 r1 q1=>bI (hv aa s1 σ H1 _ I1 q1) λvv s2 zz=>bC zz λy H2 I2 r2 q2=>pairTrees_nil_walk ?_)
 refine au λnO=>bL q2 λi ex ep q3=>?_
 subst ex
 obtain⟨t,rfl⟩:=r1
 refine nO ?_
 unfold storeAll
 rw[Yp]
 refine au λnO=>?_
 obtain⟨z,hd,xs,eW,dd⟩:=Eu I2.aR ep
 refine nO ?_
 have ry:RelV (kV (Sum.inl i)) (Value.int i t):=⟨t,rfl⟩
 have hz:xs.length<=sizeLine:=by rw[<-eW.length];exact z
 refine Wn (Wn (wpAny_dictSet_pairs (hsz:=hz) (knd:=bg X.prog X.w) (nX ry) dd λh' BY hs=>Wv ?_))
 dsimp only
 rw[List.forIn_nil]
 refine Wv ⟨.ref s.heap.objs.size,_,?_,rfl,q3⟩
 have he:∃q,h'.get? s.heap.objs.size=some q:=let ⟨q,_,_,hq,_⟩:=BY;⟨q,hq⟩
 exact kN (t':=s2.toks+1) I2 (by rw[ep];exact True.intro) hs he (yJ (by rw[sizeLine_eq];exact(by decide:(1:Nat)<=16777216)) hd (eW.put (Sum.inl i) r2) BY)
end
section
variable {prog:Program}{w:World}{A:Around}{E:Value->Shared->Prop}{s:Shared}{d:Addr}{es:Array DictEntry}{ep:Nat}
def qX(hh:A.handled=none)(lo:(d==sysModules)=false)(r:gb s.heap d es ep)(M8:es.size<64)(hI:IntsAre (es.toList.map (·.key)) ns)
  (h:∀(h1 h':Heap) (tk:Nat) (out:Array Value) (c:Nat) (fT:List Int),(∀b o',s.heap.get? b=some o'->h1.get? b=some o')->(∀b o',h1.get? b=some o'->h'.get? b=some o')->h'.get? h1.objs.size=some {cls:= .type "list",data:= .seq out c}->IntsAre out.toList fT->fT.Perm ns->fT.Pairwise (· <= ·)->Q (.ref h1.objs.size) {s with heap:=h',toks:=tk}):
  wpAny (model prog w) A (call (.builtin "sorted") [.ref d]) Q E s:=by
 refine Yk kind_sorted plain_sorted entry_sorted (args_sorted1 _) ?_
 unfold Builtin.«sorted»
 refine Wn (m:=checkCount "sorted" 1 1 _) (Wv (Wn (kdu_collect (A:=A.in1) (uz lo) hh r (by rw[sizeLine_eq];lia) λh1 tk acc k1 it=>?_)))
 have hl:acc.toList.length=es.size:=by rw[Wy];exact it.1
 have eq:acc.toList=es.toList.map (·.key):=by
  apply XD
  intro j
  rcases Xr j es.size with z|z
  .have hj:j<acc.toList.length:=by lia
   refine ae (it.2 j acc.toList[j] (by rw[<-Xe];exact Wq hj)) λe e1 e2=>?_
   rw[Wq hj,WI,Xe,e1,e2]
   rfl
  .rw[WS (by lia),WS (by simpa using z)]
 rw[eq]
 refine Wn (Zo ?_ (by rw[<-eq,hl,sizeLine_eq];lia))
 have vZ:(h1.push (seqObj "list" (es.toList.map (·.key)).toArray 0)).get? h1.objs.size=some (seqObj "list" (es.toList.map (·.key)).toArray 0):=WB _ rfl
 refine Wn (Xf (Xb slot_list_sort ⟨_,vZ,rfl⟩ entry_list_sort (list_sort_tree (s:={s with heap:=h1.push (seqObj "list" (es.toList.map (·.key)).toArray 0),toks:=tk}) vZ hI (by rw[<-eq,hl];exact M8) λout fT a1 a2 a3=>⟨_,rfl,?_⟩) (args_list_sort _)))
 refine Wv ⟨_,rfl,?_⟩
 have u1:=get?_update_seq vZ (λ_=>#[])
 have u2:=Wo (seqObj "tuple" (es.toList.map (·.key)).toArray 0) u1
 have u3:=Wo (seqObj "list" #[] 0) u2
 have u4:=get?_update_seq u3 (λ_=>out)
 refine h h1 _ tk out _ fT k1 (λb o' e=>?_) u4 a1 a2 a3
 have hb:b≠h1.objs.size:=W2 (WH e)
 unfold sortedHeap
 rw[WX _ _ (Xt hb)]
 refine Wo _ (Wo _ ?_)
 rw[WX _ _ (Xt hb)]
 exact Wo _ e
end
section
variable {X:Cx}
theorem uL:∀{ns:List Int}{vs:List Value},vs.length=ns.length->(∀(i:Nat) (n:Int),ns[i]?=some n->∃t,vs[i]?=some (.int n t))->IntsAre vs ns
 |[],[],_,_=> .nil
 |[],_::_,h,_=>nomatch h
 |_::_,[],h,_=>nomatch h
 |n::ns,v::vs,h,k=>by
  obtain⟨t,e⟩:=k 0 n rfl
  have e:v= .int n t:=by simpa using e
  subst e
  exact .cons n t (uL (by simpa using h) λi m hi=>by
   obtain⟨t',e'⟩:=k (i+1) m (by simpa using hi)
   exact⟨t',by simpa using e'⟩)
def pJ(hc:X.calm=true):cH X (.builtin "sorted") (λxs H Q=>∃(p:Addr) (aw:List (cL×V)) (ns:List Int),xs=[.ref p]/\Rd H p (.dK aw)/\aw.map (·.1)=ns.map Sum.inl/\ns.length<64/\
  ∀fT:List Int,fT.Perm ns->fT.Pairwise (· <= ·)->∀l,H l=none->Q (.ref l) (upd H l (.lst (fT.map V.int)))):=by
 intro aa s σ H xs us Q I r zz
 refine sf zz λp aw ns e hq hk M8 q=>?_
 subst e
 refine ae (vals1 r) λu aj rx=>?_
 subst aj
 cases rx
 refine kc (tj I hq) λes ep g1 g2 g3 g4 g5=>?_
 have aS:aw.length=ns.length:=by
  have:=congrArg List.length hk
  rwa [Wr,Wr]at this
 have hI:IntsAre (es.toList.map (·.key)) ns:=by
  refine uL (by rw[Wr,Wy,g2,aS]) λi n hi=>?_
  have iV:i<aw.length:=by rw[aS];exact(WK.mp hi).1
  refine ae (g5 i aw[i] (Wq iV)) λen e1 e2=>?_
  have ED:aw[i].1 =Sum.inl n:=by
   have:=congrArg (λl:List cL=>l[i]?) hk
   simp only[WI,hi,Wq iV,YZ]at this
   exact WU this
  rw[ED]at e2
  obtain⟨t,e3⟩:=e2
  exact⟨t,by rw[WI,Xe,e1,<-e3];rfl⟩
 refine qX (I.ok.hd hc) g3 g1 (by lia) hI λh1 h' tk out c fT k1 k2 e a1 a2 a3=>?_
 have I1:Inv X aa σ H {s with heap:=h1,toks:=tk}:=I.kept (t':=tk) k1
 have I2:Inv X aa σ (upd H h1.objs.size (.lst (fT.map V.int))) {s with heap:=h',toks:=tk}:=
  I1.laid (t':=tk) k2 (WE _) (show aQ X.prog X.w _ h' _ (.lst (fT.map V.int)) from⟨by rw[Wr,a2.length_eq,sizeLine_eq];lia,out.toList,c,iZ a1,by simpa using e⟩)
 exact⟨.ref h1.objs.size,_,I2,rfl,q fT a2 a3 _ (I1.aR.fresh (WE _))⟩
end
end L2
namespace Py
open PySem PySem.Spec PyProof.Rows L2
abbrev St:=L2.St
def Pb(K:PySem.W.Frag)(a:Addr)(xs:List V):Prop:=
 ∃(o:Obj) (its:Array Value) (n:Nat),K.lookup a=some o/\o.cls= .type "list"/\o.dict=none/\o.data= .seq its n/\its.size<=sizeLine/\aD xs its.toList/\o.slots=#[]
noncomputable def fV(t:Nat)(ks:List (List Int))(vs:List V):HO:=if t=0 then .dK ((ks.map λk=>Sum.inl (k.headD 0)).zip vs) else .dT ((ks.map λk=>k.map Sum.inl).zip vs)
def qY:HO->Prop
 | .lst _=>True
 | .dK _=>True
 | .dT _=>True
 |_=>False
def km:qY (fV t ks vs):=by unfold fV;split<;>exact trivial
def kG(t:Nat)(ks:List (List Int)):Prop:=ks.Nodup/\(t=0->∀k∈ks,∃i,k=[i])
mutual
inductive bx(K:PySem.W.Frag)(O:Addr->Prop)(H:Hp):V->D->Prop
 |fC:bx K O H .fC .fC
 |bl (b:Bool):bx K O H (.bl b) (.bl b)
 |int (i:Int):bx K O H (.int i) (.int i)
 |tup {a vs ds}:dF K H a vs->av K O H vs ds->bx K O H (.ref a) (.tup ds)
 |lst {a vs ds}:Rd H a (.lst vs)->¬O a->av K O H vs ds->bx K O H (.ref a) (.lst ds)
 |mod {a vs ds}:Pb K a vs->av K O H vs ds->bx K O H (.ref a) (.lst ds)
 |bM {a o t ks vs ds}:H a=some (.dn o (fV t ks vs))->ks.length=vs.length->kG t ks->av K O H vs ds->bx K O H (.ref a) (.bM t ks ds)
inductive av(K:PySem.W.Frag)(O:Addr->Prop)(H:Hp):List V->List D->Prop
 |nil:av K O H [] []
 |cons {v d vs ds}:bx K O H v d->av K O H vs ds->av K O H (v::vs) (d::ds)
end
section
variable {K:PySem.W.Frag}{O O':Addr->Prop}{H H':Hp}
def gR(ht:∀a vs,dF K H a vs->dF K H' a vs)(hl:∀a vs,Rd H a (.lst vs)->¬O a->Rd H' a (.lst vs)/\¬O' a)(hz:∀a o u,H a=some (.dn o u)->H' a=some (.dn o u)):∀{v d},bx K O H v d->bx K O' H' v d:=λ{v d} h=>
 bx.rec (motive_1:=λv d _=>bx K O' H' v d) (motive_2:=λvs ds _=>av K O' H' vs ds) .fC .bl .int (λh _ ih=> .tup (ht _ _ h) ih) (λh n _ ih=> .lst (hl _ _ h n).1 (hl _ _ h n).2 ih) (λh _ ih=> .mod h ih) (λh l z _ ih=> .bM (hz _ _ _ h) l z ih) .nil (λ_ _ i1 i2=> .cons i1 i2) h
def eZ(ht:∀a vs,dF K H a vs->dF K H' a vs)(hl:∀a vs,Rd H a (.lst vs)->¬O a->Rd H' a (.lst vs)/\¬O' a)(hz:∀a o u,H a=some (.dn o u)->H' a=some (.dn o u)):∀{vs ds},av K O H vs ds->av K O' H' vs ds:=λ{vs ds} h=>
 av.rec (motive_1:=λv d _=>bx K O' H' v d) (motive_2:=λvs ds _=>av K O' H' vs ds) .fC .bl .int (λh _ ih=> .tup (ht _ _ h) ih) (λh n _ ih=> .lst (hl _ _ h n).1 (hl _ _ h n).2 ih) (λh _ ih=> .mod h ih) (λh l z _ ih=> .bM (hz _ _ _ h) l z ih) .nil (λ_ _ i1 i2=> .cons i1 i2) h
def jg(s:af H H')(h:dF K H a vs):dF K H' a vs:=by
 exact s _ _ h
def pK(s:af H H')(h:Rd H a u):Rd H' a u:=h.elim (λh=> .inl (s _ _ h)) λ⟨o,h⟩=> .inr ⟨o,s _ _ h⟩
def bx.mono(h:bx K O H v d)(s:af H H'):bx K O H' v d:=gR (λ_ _=>jg s) (λ_ _ h n=>⟨pK s h,n⟩) (λ_ _ _ h=>s _ _ h) h
def av.mono(h:av K O H vs ds)(s:af H H'):av K O H' vs ds:=eZ (λ_ _=>jg s) (λ_ _ h n=>⟨pK s h,n⟩) (λ_ _ _ h=>s _ _ h) h
def bx.weak(h:bx K O H v d)(s:∀a,O' a->O a):bx K O' H v d:=gR (λ_ _ h=>h) (λ_ _ h n=>⟨h,λz=>n (s _ z)⟩) (λ_ _ _ h=>h) h
def av.weak(h:av K O H vs ds)(s:∀a,O' a->O a):av K O' H vs ds:=eZ (λ_ _ h=>h) (λ_ _ h n=>⟨h,λz=>n (s _ z)⟩) (λ_ _ _ h=>h) h
def uM(ha:H a=some u)(hu:qY u)(h:dF K H b vs):dF K (L2.upd H a o) b vs:=by
 have h':H b=some (.tup vs):=h
 show L2.upd H a o b=some (.tup vs)
 rw[ao (fR h' ha (by intro z;rw[<-z]at hu;exact hu))]
 exact h'
def uN(ha:H a=some u)(hu:qY u)(h:H b=some (.dn q w)):L2.upd H a o b=some (.dn q w):=by
 rw[ao (fR h ha (by intro z;rw[<-z]at hu;exact hu))]
 exact h
def uO(tu:b≠a)(h:Rd H b (.lst vs)):Rd (L2.upd H a o) b (.lst vs):=by
 rcases h with h|⟨u,h⟩
 .exact .inl (by rw[ao tu];exact h)
 .exact .inr ⟨u,by rw[ao tu];exact h⟩
theorem bx.upd(h:bx K O H v d)(ho:O a)(ha:H a=some u)(hu:qY u):bx K O (L2.upd H a o) v d:=
 gR (λ_ _ h=>uM ha hu h) (λb _ h n=>⟨uO (λz=>n (z▸ho)) h,n⟩) (λ_ _ _ h=>uN ha hu h) h
theorem av.upd(h:av K O H vs ds)(ho:O a)(ha:H a=some u)(hu:qY u):av K O (L2.upd H a o) vs ds:=
 eZ (λ_ _ h=>uM ha hu h) (λb _ h n=>⟨uO (λz=>n (z▸ho)) h,n⟩) (λ_ _ _ h=>uN ha hu h) h
def kP(hp:H p=none):¬Rd H p u:=λh=>by
 rcases h with h|⟨o,h⟩
 .rw[hp]at h;cases h
 .rw[hp]at h;cases h
def av.own(h:av K O H vs ds)(hp:H p=none):av K (λa=>O a\/a=p) H vs ds:=
 eZ (λ_ _ h=>h) (λb us h n=>⟨h,λz=>z.elim n λe=>kP hp (e▸h)⟩) (λ_ _ _ h=>h) h
def bx.own(h:bx K O H v d)(hp:H p=none):bx K (λa=>O a\/a=p) H v d:=
 gR (λ_ _ h=>h) (λb us h n=>⟨h,λz=>z.elim n λe=>kP hp (e▸h)⟩) (λ_ _ _ h=>h) h
def wU(h:bx K O H v d):ay d=true->bx K O' H v d:=
 bx.rec (motive_1:=λv d _=>ay d=true->bx K O' H v d) (motive_2:=λvs ds _=>aV ds=true->av K O' H vs ds) (λ_=> .fC) (λb _=> .bl b) (λi _=> .int i)
  (λh _ ih n=> .tup h (ih (by simpa[ay]using n))) (λ_ _ _ _ n=>absurd n (by simp[ay])) (λ_ _ _ n=>absurd n (by simp[ay])) (λ_ _ _ _ _ n=>absurd n (by simp[ay])) (λ_=> .nil)
  (λ_ _ i1 i2 n=>by
   simp only[aV,Ws]at n
   exact .cons (i1 n.1) (i2 n.2)) h
theorem av.length:∀{vs:List V}{ds:List D},av K O H vs ds->vs.length=ds.length
 |_,_,.nil =>rfl
 |_,_,.cons _ t=>by rw[WM,WM,av.length t]
theorem av.get:∀{vs:List V}{ds:List D}{i:Nat}{d:D},av K O H vs ds->ds[i]?=some d->∃v,vs[i]?=some v/\bx K O H v d
 |_,_,_,_,.nil,e=>by simp at e
 |_,_,0,_,.cons r _,e=>by simp at e;subst e;exact⟨_,rfl,r⟩
 |_,_,i+1,d,.cons _ t,e=>by
  exact ae (av.get (i:=i) (d:=d) t (by simpa using e)) λv h1 h2=>⟨v,by simpa using h1,h2⟩
theorem av.append:∀{xs ys:List V}{us ws:List D},av K O H xs us->av K O H ys ws->av K O H (xs++ys) (us++ws)
 |_,_,_,_,.nil,s=>s
 |_,_,_,_,.cons r t,s=> .cons r (av.append t s)
theorem av.take:∀{xs:List V}{us:List D} (n:Nat),av K O H xs us->av K O H (xs.take n) (us.take n)
 |_,_,0,_=> .nil
 |_,_,_+1,.nil => .nil
 |_,_,n+1,.cons r t=> .cons r (av.take n t)
theorem av.drop:∀{xs:List V}{us:List D} (n:Nat),av K O H xs us->av K O H (xs.drop n) (us.drop n)
 |_,_,0,r=>r
 |_,_,_+1,.nil => .nil
 |_,_,n+1,.cons _ t=>av.drop n t
theorem av.set(r:bx K O H x u):∀{xs:List V}{us:List D} (i:Nat),av K O H xs us->av K O H (xs.set i x) (us.set i u)
 |_,_,_,.nil => .nil
 |_,_,0,.cons _ t=> .cons r t
 |_,_,i+1,.cons q t=> .cons q (av.set r i t)
def bx.int_inv(h:bx K O H v (.int i)):v= .int i:=by cases h;rfl
def bx.tG(h:bx K O H v (.bl i)):v= .bl i:=by cases h;rfl
def bx.gS(h:bx K O H v (.tup ds)):∃a vs,v= .ref a/\dF K H a vs/\av K O H vs ds:=by
 cases h with
 |tup h1 h2=>exact⟨_,_,rfl,h1,h2⟩
def bx.lst_inv(h:bx K O H v (.lst ds)):∃a vs,v= .ref a/\c9 K H a vs/\av K O H vs ds:=by
 cases h with
 |lst h1 _ h2=>exact⟨_,_,rfl,.inl h1,h2⟩
 |mod h1 h2=>exact⟨_,_,rfl,.inr h1,h2⟩
theorem dD:∀(ns:List Int),av K O H (ns.map V.int) (ns.map D.int)
 |[]=> .nil
 |n::ns=> .cons (.int n) (dD ns)
def bW(K:PySem.W.Frag)(O:Addr->Prop)(b:Bool)(H:Hp)(v:V)(d:D):Prop:=
 bx K O H v d\/(b=true/\∃a vs ds,v= .ref a/\d= .lst ds/\H a=some (.lst vs)/\av K O H vs ds)
variable {b:Bool}{v:V}{d:D}
theorem bW.mono(h:bW K O b H v d)(s:af H H'):bW K O b H' v d:=by
 rcases h with h|⟨e,a,vs,ds,h1,h2,h3,h4⟩
 .exact .inl (h.mono s)
 .exact .inr ⟨e,a,vs,ds,h1,h2,s _ _ h3,h4.mono s⟩
def bW.own(h:bW K O false H v d):bx K O H v d:=h.elim id λz=>absurd z.1 Wt
theorem bW.int(h:bW K O b H v (.int i)):v= .int i:=by
 rcases h with h|⟨_,_,_,_,_,h,_⟩
 .exact h.int_inv
 .cases h
theorem bW.bl(h:bW K O b H v (.bl i)):v= .bl i:=by
 rcases h with h|⟨_,_,_,_,_,h,_⟩
 .exact h.tG
 .cases h
theorem bW.tup{ds:List D}(h:bW K O b H v (.tup ds)):∃a vs,v= .ref a/\dF K H a vs/\av K O H vs ds:=by
 rcases h with h|⟨_,_,_,_,_,h,_⟩
 .exact h.gS
 .cases h
theorem bW.lst{ds:List D}(h:bW K O b H v (.lst ds)):∃a vs,v= .ref a/\c9 K H a vs/\av K O H vs ds:=by
 rcases h with h|⟨_,a,vs,K6,h1,h2,h3,h4⟩
 .exact h.lst_inv
 .cases h2
  exact⟨a,vs,h1,c9.of h3,h4⟩
theorem bW.seq(h:bW K O b H v d)(e:Py.seq d=some xs):∃a vs,v= .ref a/\(c9 K H a vs\/dF K H a vs)/\av K O H vs xs:=by
 refine au λnO=>?_
 cases d with
 |lst ds=>
  refine nO ?_
  cases e;obtain⟨a,vs,h1,h2,h3⟩:=h.lst;exact⟨a,vs,h1,.inl h2,h3⟩
 |tup ds=>
  refine nO ?_
  cases e;obtain⟨a,vs,h1,h2,h3⟩:=h.tup;exact⟨a,vs,h1,.inr h2,h3⟩
 |_=>cases e
def bW.any(h:bW K O b H v d):bx K (λ_=>False) H v d:=by
 rcases h with h|⟨_,a,vs,K6,h1,h2,h3,h4⟩
 .exact h.weak λ_ z=>z.elim
 .subst h1 h2
  exact .lst (.inl h3) id (h4.weak λ_ z=>z.elim)
end
def eg(K:PySem.W.Frag)(O:Addr->Prop)(H:Hp)(a:Addr)(d:D):Prop:=
 (∃vs ds,d= .lst ds/\H a=some (.lst vs)/\av K O H vs ds)\/
 (∃t ks vs ds,d= .bM t ks ds/\H a=some (fV t ks vs)/\ks.length=vs.length/\kG t ks/\av K O H vs ds)\/
 d=sT/\∃u,H a=some u/\qY u
section
variable {K:PySem.W.Frag}{O O':Addr->Prop}{H H':Hp}{a:Addr}{d:D}
theorem eg.mono(h:eg K O H a d)(s:af H H'):eg K O H' a d:=by
 rcases h with⟨vs,ds,e1,e2,e3⟩|⟨t,ks,vs,ds,e1,e2,e3,e4,e5⟩|⟨e1,u',e2,e3⟩
 .exact .inl ⟨vs,ds,e1,s _ _ e2,e3.mono s⟩
 .exact .inr (.inl ⟨t,ks,vs,ds,e1,s _ _ e2,e3,e4,e5.mono s⟩)
 .exact .inr (.inr ⟨e1,u',s _ _ e2,e3⟩)
theorem eg.weak(h:eg K O H a d)(s:∀a,O' a->O a):eg K O' H a d:=by
 rcases h with⟨vs,ds,e1,e2,e3⟩|⟨t,ks,vs,ds,e1,e2,e3,e4,e5⟩|⟨e1,u',e2,e3⟩
 .exact .inl ⟨vs,ds,e1,e2,e3.weak s⟩
 .exact .inr (.inl ⟨t,ks,vs,ds,e1,e2,e3,e4,e5.weak s⟩)
 .exact .inr (.inr ⟨e1,u',e2,e3⟩)
theorem eg.own(h:eg K O H a d)(hp:H p=none):eg K (λa=>O a\/a=p) H a d:=by
 rcases h with⟨vs,ds,e1,e2,e3⟩|⟨t,ks,vs,ds,e1,e2,e3,e4,e5⟩|⟨e1,u',e2,e3⟩
 .exact .inl ⟨vs,ds,e1,e2,e3.own hp⟩
 .exact .inr (.inl ⟨t,ks,vs,ds,e1,e2,e3,e4,e5.own hp⟩)
 .exact .inr (.inr ⟨e1,u',e2,e3⟩)
theorem eg.upd(h:eg K O H a d)(hb:a≠b)(ho:O b)(K7:H b=some u)(hu:qY u):eg K O (L2.upd H b o) a d:=by
 rcases h with⟨vs,ds,e1,e2,e3⟩|⟨t,ks,vs,ds,e1,e2,e3,e4,e5⟩|⟨e1,u',e2,e3⟩
 .exact .inl ⟨vs,ds,e1,by rw[ao hb];exact e2,e3.upd ho K7 hu⟩
 .exact .inr (.inl ⟨t,ks,vs,ds,e1,by rw[ao hb];exact e2,e3,e4,e5.upd ho K7 hu⟩)
 .exact .inr (.inr ⟨e1,u',by rw[ao hb];exact e2,e3⟩)
theorem eg.lst{ds:List D}(h:eg K O H a (.lst ds)):∃vs,H a=some (.lst vs)/\av K O H vs ds:=by
 rcases h with⟨vs,ds,e1,e2,e3⟩|⟨t,ks,vs,ds,e1,_⟩|⟨e1,_⟩
 .cases e1;exact⟨vs,e2,e3⟩
 .cases e1
 .cases e1
theorem eg.bM(h:eg K O H a (.bM t ks ds))(h2:t≠2):∃vs,H a=some (fV t ks vs)/\ks.length=vs.length/\kG t ks/\av K O H vs ds:=by
 rcases h with⟨vs,ds,e1,e2,e3⟩|⟨t,ks,vs,ds,e1,e2,e3,e4,e5⟩|⟨e1,u',e2,e3⟩
 .cases e1
 .cases e1;exact⟨vs,e2,e3,e4,e5⟩
 .cases e1;exact absurd rfl h2
end
structure EX(K:PySem.W.Frag)(O:Addr->Prop)(σ:St)(H:Hp)(ρ:Env):Prop where
 live:∀a,O a->∃u,H a=some u/\qY u
 jB:∀(i:Nat) (o:Bool) (d:D),ρ[i]?=some (some (o,d))->∃v,σ[i]?=some (some v)/\
  if o=true then∃a,v= .ref a/\O a/\eg K O H a d else bx K O H v d
theorem EX.mono{K:PySem.W.Frag}{O:Addr->Prop}{σ:St}{H H':Hp}{ρ:Env}(h:EX K O σ H ρ)(s:af H H'):EX K O σ H' ρ:=by
 refine⟨λa ha=>let ⟨u,e,q⟩:=h.live a ha;⟨u,s _ _ e,q⟩,λi o d e=>?_⟩
 refine ae (h.jB i o d e) λv h1 h2=>⟨v,h1,?_⟩
 cases o with
 |true=>
  exact bL h2 λa e1 e2 c=>⟨a,e1,e2,c.mono s⟩
 |false=>exact bx.mono h2 s
def EX.free{K:PySem.W.Frag}{O:Addr->Prop}{σ:St}{H H1:Hp}{ρ:Env}(h:EX K O σ H ρ)(s:af H H1){p:Addr}(hp:H1 p=none):¬O p:=λz=>by
 refine ae (h.live p z) λvs e _=>?_
 rw[s _ _ e]at hp;cases hp
def bind_some{α β:Type}{o:Option α}{f:α->Option β}{y:β}(h:o.bind f=some y):∃x,o=some x/\f x=some y:=by
 cases o with
 |none=>cases h
 |some x=>exact⟨x,rfl,h⟩
def map_some{α β:Type}{o:Option α}{f:α->β}{y:β}(h:o.map f=some y):∃x,o=some x/\f x=y:=by
 cases o with
 |none=>cases h
 |some x=>exact⟨x,rfl,WU h⟩
def tV(K:PySem.W.Frag)(b:Bool)(f:Env->Option D):TE:=λσ H Q=>∃O ρ d,EX K O σ H ρ/\f ρ=some d/\∀v H',af H H'->bW K O b H' v d->Q v H'
def tF(K:PySem.W.Frag)(f:Env->Option (List D)):TE:=λσ H Q=>∃O ρ ds,EX K O σ H ρ/\f ρ=some ds/\∀p vs H1,af H H1->H1 p=none->av K O H1 vs ds->Q (.ref p) (L2.upd H1 p (.lst vs))
def tB(K:PySem.W.Frag)(f:Env->Option Bool):TT:=λσ H Q=>∃O ρ k,EX K O σ H ρ/\f ρ=some k/\∀H',af H H'->Q k H'
def tH(K:PySem.W.Frag)(b:Bool)(f:Env->Option (List D)):TA:=λσ H Q=>∃O ρ ds,EX K O σ H ρ/\f ρ=some ds/\∀vs H',af H H'->Paired (bW K O b H') vs ds->Q vs H'
theorem af.upd(h:H p=none):af H (L2.upd H p o):=λb u e=>by rw[ao (b6 e h)];exact e
section
variable {X:Cx}{a b c e:Expr}{pos:Pos}{m:Bool}{es:List Expr}
def _root_.L2.PE.weak(h:PE X e t)(w:∀σ H Q,t' σ H Q->t σ H Q):PE X e t':=λaa s σ H Q I q=>h aa s σ H Q I (w σ H Q q)
def _root_.L2.PT.weak(h:PT X e t)(w:∀σ H Q,t' σ H Q->t σ H Q):PT X e t':=λaa s σ H Q I q=>h aa s σ H Q I (w σ H Q q)
def Cy{f:Env->Option D}{f':Env->Option (List D)}(h:PE X e (tF X.K f'))(hf:∀ρ d,f ρ=some d->∃ds,f' ρ=some ds/\d= .lst ds):PE X e (tV X.K m f):=h.weak λσ H Q zz=>by
 refine c7 zz λO ρ d hx hd k=>ae (hf ρ d hd) λds e1 aj=>?_
 subst aj
 refine⟨O,ρ,ds,hx,e1,λp vs H1 s1 hp r=>k _ _ (s1.trans (af.upd hp)) (.inl (.lst (.inl ag) (hx.free s1 hp) (r.mono (af.upd hp))))⟩
def v_var(hN:X.N[i]?=some x)(hv:vX X.env.scope x)(hd:(x==("__debug__":Str))=false)(xT:(x==("__classdict__":Str))=false):PE X (.Name x pos) (tV X.K m λρ=>rd m ρ i):=
 (bJ hN hv hd xT).weak λσ H Q zz=>by
  refine c7 zz λO ρ d hx hd k=>?_
  have hd:rd m ρ i=some d:=hd
  unfold rd at hd
  split at hd
  .rename_i o d' e
   refine ae (hx.jB i o d' e) λv h1 h2=>⟨v,h1,k v H (af.refl _) ?_⟩
   cases o with
   |true=>
    cases m with
    |true=>
     refine bL h2 λa e1 e2 c=>?_
     rcases c with⟨vs,ds,f1,f2,f3⟩|⟨t,ks,vs,ds,f1,_⟩|⟨f1,_⟩
     .subst f1
      cases hd
      exact .inr ⟨rfl,a,vs,ds,e1,rfl,f2,f3⟩
     .subst f1
      cases hd
     .subst f1
      cases hd
    |false=>cases hd
   |false=>
    cases hd
    exact .inl h2
  .cases hd
def M9{d:D}{v:V}{t:TE}(h:PE X e (tC v))(r:∀K O H,bx K O H v d):PE X e (tV X.K m λ_=>some d):=h.weak λσ H Q zz=>by
 refine c7 zz λO ρ d' hx hd k=>?_
 cases hd
 exact k v H (af.refl _) (.inl (r _ _ _))
def uP{f:Value->Value->Sem Value}{fa fb:Env->Option D}{g:D->D->Option D}{r:R2}(ha:PE X a (tV X.K true fa))(hb:PE X b (tV X.K true fb))(mk:∀ta tb,PE X a ta->PE X b tb->PE X e (Ea r ta tb))
  (hr:∀O σ (ρ:Env) H x y d v w Q,EX X.K O σ H ρ->bW X.K O true H v x->bW X.K O true H w y->g x y=some d->(∀u H',af H H'->bW X.K O m H' u d->Q u H')->r v w H Q):
  PE X e (tV X.K m λρ=>(fa ρ).bind λx=>(fb ρ).bind λy=>g x y):=(mk _ _ ha hb).weak λσ H Q zz=>by
 exact c7 zz λO ρ d hx hd k=>ae (bind_some hd) λx e1 hd=>ae (bind_some hd) λy e2 hd=>⟨O,ρ,x,hx,e1,λv H1 s1 r1=>⟨O,ρ,y,hx.mono s1,e2,λw H2 s2 r2=>hr O σ ρ H2 x y d v w Q (hx.mono (s1.trans s2)) (r1.mono s2) r2 hd λu H' s' r'=>k u H' ((s1.trans s2).trans s') r'⟩⟩
def _root_.L2.PE.Ul(h:∀ρ,f ρ=none):PE X e (tV X.K m f):=λaa s σ H Q I ⟨O,ρ,d,hx,hd,k⟩=>by rw[h]at hd;cases hd
def EE(K:PySem.W.Frag):R2:=λx y H Q=>∃l b xs zs,x= .ref l/\y= .ref b/\c9 K H l xs/\c9 K H b zs/\xs.length+zs.length<=sizeLine/\∀p,H p=none->Q (.ref p) (L2.upd H p (.lst (xs++zs)))
def Cz:nI X (binaryOp .Add) (EE X.K):=by
 intro aa s σ H x y v u Q I rx ry h
 refine D6 h λl b xs zs aj aU hl hb hz q=>?_
 try clear h
 subst aj
 subst aU
 cases rx
 cases ry
 refine gM (I.Eg hl) λits n r e1 e z=>gM (I.Eg hb) λkF n2 r2 ae e2 z2=>PySem.P.add_list e e2 ?_ (by rw[WA,WA];lia)
 have ea:its.toArray++kF.toArray=(its++kF).toArray :=by simp
 rw[ea]
 exact⟨.ref _,_,I.JM (t':=s.toks) (r.append r2) (by rw[WC];lia),rfl,q _ I.fresh⟩
def FN(K:PySem.W.Frag):R2:=λx y H Q=>Jw (λi j=> .int (i+j)) x y H Q\/EE K x y H Q
def og:nI X (binaryOp .Add) (FN X.K):=FG.or Cz
def cQ:(sizeLine:Nat)=ba:=by rw[sizeLine_eq];rfl
def v_add(ha:PE X a (tV X.K true fa))(hb:PE X b (tV X.K true fb)):PE X (.BinOp a .Add b pos) (tV X.K m λρ=>(fa ρ).bind λx=>(fb ρ).bind λy=>bin .Add x y):=
 uP (f:=binaryOp .Add) (r:=FN X.K) ha hb (λ_ _ h1 h2=>ql og h1 h2) λO σ ρ H x y d v w Q hx r1 r2 hd k=>by
  cases x with
  |int i=>
   cases y with
   |int j=>cases hd;exact .inl ⟨i,j,r1.int,r2.int,k _ _ (af.refl _) (.inl (.int _))⟩
   |_=>cases hd
  |lst us=>
   cases y with
   |lst ws=>
    simp only[bin]at hd
    split at hd
    .rename_i hz
     cases hd
     refine bC r1.lst λa1 vs fF q1 p1=>?_
     subst fF
     refine bC r2.lst λa2 zs y8 q2 p2=>?_
     subst y8
     have l1:=p1.length
     have l2:=p2.length
     refine .inr ⟨a1,a2,vs,zs,rfl,rfl,q1,q2,by rw[cQ,l1,l2];exact hz,λp hp=>?_⟩
     exact k _ _ (af.upd hp) (.inl (.lst (.inl ag) (hx.free (af.refl _) hp) ((p1.append p2).mono (af.upd hp))))
    .cases hd
   |_=>cases hd
  |_=>cases hd
def K8(ha:PE X a (tV X.K true fa))(hb:PE X b (tV X.K true fb)):PE X (.BinOp a .Add b pos) (tF X.K λρ=>((fa ρ).bind λx=>(fb ρ).bind λy=>bin .Add x y).bind λd=>match d with| .lst ds=>some ds|_=>none):=
 (ql og ha hb).weak λσ H Q zz=>by
  refine c7 zz λO ρ ds hx hd k=>ae (bind_some hd) λz hd M6=>ae (bind_some hd) λx e1 hd=>ae (bind_some hd) λy e2 hd=>⟨O,ρ,x,hx,e1,λv H1 s1 r1=>⟨O,ρ,y,hx.mono s1,e2,λw H2 s2 r2=>?_⟩⟩
  have nv:=r1.mono s2
  cases x with
  |lst us=>
   cases y with
   |lst ws=>
    simp only[bin]at hd
    split at hd
    .rename_i hz
     cases hd
     cases M6
     refine bC nv.lst λa1 vs aj q1 p1=>?_
     subst aj
     refine bC r2.lst λa2 zs aU q2 p2=>?_
     subst aU
     have l1:=p1.length
     have l2:=p2.length
     exact .inr ⟨a1,a2,vs,zs,rfl,rfl,q1,q2,by rw[cQ,l1,l2];exact hz,λp hp=>k p _ H2 (s1.trans s2) hp (p1.append p2)⟩
    .cases hd
   |_=>cases hd
  |int i=>
   cases y with
   |int j=>cases hd;cases M6
   |_=>cases hd
  |_=>cases hd
def CA(h:cE i j=true):Bu i j:=by
 unfold cE at h
 simp only[aak,Ws,decide_eq_true_eq]at h
 exact h
def EF(ha:PE X a (tV X.K true fa))(hb:PE X b (tV X.K true fb)):PE X (.BinOp a o b pos) (tV X.K m λρ=>(fa ρ).bind λx=>(fb ρ).bind λy=>bin o x y):=by
 have no:∀(f:Env->Option D) (g:Env->Option D),(∀ρ,((f ρ).bind λ_=>(g ρ).bind λ_=>(none:Option D))=none):=λf g ρ=>by
  cases f ρ<;>simp
 cases o with
 |Add=>exact v_add ha hb
 |Mult=>
  exact uP (f:=binaryOp .Mult) ha hb (λ_ _ h1 h2=>ql FH h1 h2) λO σ ρ H x y d v w Q hx r1 r2 hd k=>by
   cases x with
   |int i=>
    cases y with
    |int j=>
     simp only[bin]at hd
     split at hd
     .rename_i hz
      cases hd
      exact⟨i,j,r1.int,r2.int,CA hz,k _ _ (af.refl _) (.inl (.int _))⟩
     .cases hd
    |_=>cases hd
   |_=>cases hd
 |FloorDiv=>
  exact uP (f:=binaryOp .FloorDiv) ha hb (λ_ _ h1 h2=>ql Bv h1 h2) λO σ ρ H x y d v w Q hx r1 r2 hd k=>by
   cases x with
   |int i=>
    cases y with
    |int j=>
     simp only[bin]at hd
     split at hd
     .rename_i hz
      cases hd
      exact⟨i,j,r1.int,r2.int,hz,k _ _ (af.refl _) (.inl (.int _))⟩
     .cases hd
    |_=>cases hd
   |_=>cases hd
 |Mod=>
  exact uP (f:=binaryOp .Mod) ha hb (λ_ _ h1 h2=>ql FI h1 h2) λO σ ρ H x y d v w Q hx r1 r2 hd k=>by
   cases x with
   |int i=>
    cases y with
    |int j=>
     simp only[bin]at hd
     split at hd
     .rename_i hz
      cases hd
      exact⟨i,j,r1.int,r2.int,hz,k _ _ (af.refl _) (.inl (.int _))⟩
     .cases hd
    |_=>cases hd
   |_=>cases hd
 |_=>exact PE.Ul λρ=>no fa fb ρ
def zg(h:Eo d=some i):d= .int i:=by cases d<;>first|(cases h;rfl)|cases h
def gv(h:f6 d=some i):d= .bl i:=by cases d<;>first|(cases h;rfl)|cases h
mutual
noncomputable def cY:D->PyData
 | .fC => .none
 | .bl b=> .bool b
 | .int i=> .int i
 | .tup xs=> .tuple (dN xs)
 | .lst xs=> .list (dN xs)
 | .bM _ _ _=> .none
noncomputable def dN:List D->List PyData
 |[]=>[]
 |x::xs=>cY x::dN xs
end
mutual
theorem lW:∀x y:D,PyData.eqv (cY x) (cY y)=jI x y
 | .fC,y=>by cases y<;>simp[cY,PyData.eqv,jI]
 | .bl b,y=>by cases y<;>simp[cY,PyData.eqv,jI]
 | .int b,y=>by cases y<;>simp[cY,PyData.eqv,jI]
 | .tup xs,y=>by
  cases y with
  |tup ys=>simp only[cY,PyData.eqv,jI];exact jS xs ys
  |_=>simp[cY,PyData.eqv,jI]
 | .lst xs,y=>by
  cases y with
  |lst ys=>simp only[cY,PyData.eqv,jI];exact jS xs ys
  |_=>simp[cY,PyData.eqv,jI]
 | .bM _ _ _,y=>by cases y<;>simp[cY,PyData.eqv,jI]
theorem jS:∀xs ys:List D,PyData.eqvAll (dN xs) (dN ys)=yr xs ys
 |[],ys=>by cases ys<;>simp[dN,PyData.eqvAll,yr]
 |x::xs,ys=>by
  cases ys with
  |nil=>simp[dN,PyData.eqvAll,yr]
  |cons y ys=>simp only[dN,PyData.eqvAll,yr];rw[lW x y,jS xs ys]
end
mutual
theorem lX:∀(x:D) (n:Nat),ed x n=true->(cY x).canLay0 =true/\(cY x).depth <=n
 | .fC,n,h=>by simp[cY,PyData.canLay0,PyData.depth]
 | .bl b,n,h=>by simp[cY,PyData.canLay0,PyData.depth]
 | .int i,n,h=>by simp[cY,PyData.canLay0,PyData.depth]
 | .tup xs,0,h=>by simp[ed]at h
 | .lst xs,0,h=>by simp[ed]at h
 | .bM _ _ _,n,h=>by simp[ed]at h
 | .tup xs,n+1,h=>by
  simp only[ed]at h
  obtain⟨h1,h2⟩:=pL xs n h
  simp only[cY,PyData.canLay0,PyData.depth]
  exact⟨h1,Nat.succ_le_succ h2⟩
 | .lst xs,n+1,h=>by
  simp only[ed]at h
  obtain⟨h1,h2⟩:=pL xs n h
  simp only[cY,PyData.canLay0,PyData.depth]
  exact⟨h1,Nat.succ_le_succ h2⟩
theorem pL:∀(xs:List D) (n:Nat),dG xs n=true->PyData.canLayAll0 (dN xs)=true/\PyData.depthAll (dN xs)<=n
 |[],n,h=>by simp[dN,PyData.canLayAll0,PyData.depthAll]
 |x::xs,n,h=>by
  simp only[dG,Ws]at h
  obtain⟨h1,h2⟩:=lX x n h.1
  obtain⟨h3,h4⟩:=pL xs n h.2
  simp only[dN,PyData.canLayAll0,PyData.depthAll,h1,h3,aaD,true_and]
  exact Nat.max_le.mpr ⟨h2,h4⟩
end
def jh(I:Inv X aa σ H s)(h:bx X.K O H v d):∀n,ed d n=true->∀u,RelV v u->∃as,Reads s.heap u (cY d) as:=
 bx.rec (motive_1:=λv d _=>∀n,ed d n=true->∀u,RelV v u->∃as,Reads s.heap u (cY d) as) (motive_2:=λvs ds _=>∀n,dG ds n=true->∀us,aD vs us->∃as,ReadsAll s.heap us (dN ds) as)
  (λ_ _ u r=>by cases r;exact⟨_,by rw[cY];exact .none⟩) (λb _ _ u r=>by cases r;exact⟨_,by rw[cY];exact .bool b⟩) (λi _ _ u r=>by obtain⟨t,rfl⟩:=r;exact⟨_,by rw[cY];exact .int i t⟩)
  (λ{a vs ds} h _ ih n hl u r=>by
   cases r
   cases n with
   |zero=>simp[ed]at hl
   |succ n=>
    simp only[ed]at hl
    refine au λnO=>?_
    obtain⟨its,rv,⟨o,ho,hc,n',hd⟩,hz⟩:=I.tuple h
    obtain⟨as,ra⟩:=ih n hl its rv
    exact nO<|⟨as,by rw[cY];exact .tuple ho hc hd (by simpa using ra)⟩)
  (λ{a vs ds} h _ _ ih n hl u r=>by
   cases r
   cases n with
   |zero=>simp[ed]at hl
   |succ n=>
    simp only[ed]at hl
    refine au λnO=>?_
    obtain⟨its,rv,⟨o,n',ho,hc,_,hd⟩,hz⟩:=I.list (.inl h)
    obtain⟨as,ra⟩:=ih n hl its rv
    exact nO<|⟨_,by rw[cY];exact .list ho hc hd (by simpa using ra)⟩)
  (λ{a vs ds} h _ ih n hl u r=>by
   cases r
   cases n with
   |zero=>simp[ed]at hl
   |succ n=>
    simp only[ed]at hl
    refine au λnO=>?_
    obtain⟨its,rv,⟨o,n',ho,hc,_,hd⟩,hz⟩:=I.list (.inr h)
    obtain⟨as,ra⟩:=ih n hl its rv
    exact nO<|⟨_,by rw[cY];exact .list ho hc hd (by simpa using ra)⟩)
  (λ_ _ _ _ _ n hl _ _=>absurd hl (by simp[ed]))
  (λ_ _ us r=>by cases r;exact⟨[],by rw[dN];exact .nil⟩)
  (λ{v d vs ds} _ _ i1 i2 n hl us r=>by
   simp only[dG,Ws]at hl
   cases r with
   |cons r1 r2=>
    obtain⟨a1,q1⟩:=i1 n hl.1 _ r1
    obtain⟨a2,q2⟩:=i2 n hl.2 _ r2
    exact⟨a1++a2,by rw[dN];exact .cons q1 q2⟩) h
def K9(K:PySem.W.Frag)(neg:Bool):R2:=λx y H Q=>∃dx dy,bx K (λ_=>False) H x dx/\bx K (λ_=>False) H y dy/\ed dx 60=true/\ed dy 60=true/\Q (.bl (if neg then !jI dx dy else jI dx dy)) H
def GG(hu:X.A.units+64<cLine):nI X (compareOp .Eq) (K9 X.K false):=by
 intro aa s σ H x y v u Q I rx ry ⟨dx,dy,r1,r2,l1,l2,q⟩
 obtain⟨a1,q1⟩:=jh I r1 60 l1 v rx
 obtain⟨a2,q2⟩:=jh I r2 60 l2 u ry
 have b1:=lX dx 60 l1
 have b2:=lX dy 60 l2
 exact SeqAt.compareEq_reads q1 q2 b1.1 b2.1 (by lia) ⟨.bl _,H,I,rfl,by rw[lW];exact q⟩
def GH(hu:X.A.units+64<cLine):nI X (compareOp .NotEq) (K9 X.K true):=by
 intro aa s σ H x y v u Q I rx ry ⟨dx,dy,r1,r2,l1,l2,q⟩
 obtain⟨a1,q1⟩:=jh I r1 60 l1 v rx
 obtain⟨a2,q2⟩:=jh I r2 60 l2 u ry
 have b1:=lX dx 60 l1
 have b2:=lX dy 60 l2
 exact SeqAt.compareNe_reads q1 q2 b1.1 b2.1 (by lia) ⟨.bl _,H,I,rfl,by rw[lW];exact q⟩
def zh{op:CmpOp}(hu:X.A.units+64<cLine):∃r,nI X (compareOp op) r/\∀O σ (ρ:Env) H x y k v w Q,EX X.K O σ H ρ->bW X.K O true H v x->bW X.K O true H w y->cmp op x y=some k->(∀H',af H H'->Q (.bl k) H')->r v w H Q:=by
 cases op with
 |Eq=>
  refine⟨_,GG hu,λO σ ρ H x y k v w Q hx r1 r2 hd q=>?_⟩
  simp only[cmp]at hd
  split at hd
  .rename_i hl
   rw[Ws]at hl
   cases hd
   exact⟨x,y,r1.any,r2.any,hl.1,hl.2,q _ (af.refl _)⟩
  .cases hd
 |NotEq=>
  refine⟨_,GH hu,λO σ ρ H x y k v w Q hx r1 r2 hd q=>?_⟩
  simp only[cmp]at hd
  split at hd
  .rename_i hl
   rw[Ws]at hl
   cases hd
   exact⟨x,y,r1.any,r2.any,hl.1,hl.2,q _ (af.refl _)⟩
  .cases hd
 |Lt=>
  refine⟨_,Jx,λO σ ρ H x y k v w Q hx r1 r2 hd q=>?_⟩
  cases x with
  |int i=>
   cases y with
   |int j=>cases hd;exact⟨i,j,r1.int,r2.int,q _ (af.refl _)⟩
   |_=>cases hd
  |_=>cases hd
 |_=>exact⟨λ_ _ _ _=>False,λ_ _ _ _ _ _ _ _ _ _ _ _ h=>h.elim,λ_ _ _ _ _ _ _ _ _ _ _ _ _ hd _=>by cases hd⟩
def K_(hu:X.A.units+64<cLine)(ha:PE X a (tV X.K true fa))(hb:PE X b (tV X.K true fb))(hm:behindInMarks op b=false):
  PE X (.Compare a [op] [b] pos) (tV X.K m λρ=>(fa ρ).bind λx=>(fb ρ).bind λy=>(cmp op x y).map .bl):=by
 refine ae (zh (op:=op) hu) λr ho hr=>(Bw ho ha hb hm).weak λσ H Q zz=>au λnO=>c7 zz λO ρ d hx hd k=>ae (bind_some hd) λx e1 hd=>ae (bind_some hd) λy e2 hd=>ae (map_some hd) λq e3 aj=>?_
 subst aj
 exact nO<|⟨O,ρ,x,hx,e1,λv H1 s1 r1=>⟨O,ρ,y,hx.mono s1,e2,λw H2 s2 r2=>hr O σ ρ H2 x y q v w Q (hx.mono (s1.trans s2)) (r1.mono s2) r2 e3 λH' s'=>k _ H' ((s1.trans s2).trans s') (.inl (.bl _))⟩⟩
def K'(hu:X.A.units+64<cLine)(ha:PE X a (tV X.K true fa))(hb:PE X b (tV X.K true fb))(hm:behindInMarks op b=false):
  PT X (.Compare a [op] [b] pos) (tB X.K λρ=>((fa ρ).bind λx=>(fb ρ).bind λy=>(cmp op x y).map .bl).bind f6):=by
 refine ae (zh (op:=op) hu) λr ho hr=>(Bx ho ha hb hm).weak λσ H Q zz=>au λnO=>c7 zz λO ρ d hx hd k=>ae (bind_some hd) λz hd hz=>ae (bind_some hd) λx e1 hd=>ae (bind_some hd) λy e2 hd=>ae (map_some hd) λq e3 aj=>?_
 subst aj
 have O8:q=d:=WU hz
 subst O8
 exact nO<|⟨O,ρ,x,hx,e1,λv H1 s1 r1=>⟨O,ρ,y,hx.mono s1,e2,λw H2 s2 r2=>hr O σ ρ H2 x y q v w _ (hx.mono (s1.trans s2)) (r1.mono s2) r2 e3 λH' s'=>⟨q,rfl,k H' ((s1.trans s2).trans s')⟩⟩⟩
def cZ(h:PE X e (tV X.K false f))(he:∀whole,isTrue e X.env whole=(do let v<-whole;standAt e.pos;holding [v] (truthy v))):PT X e (tB X.K λρ=>(f ρ).bind f6):=
 (Fp h he).weak λσ H Q zz=>by
  refine c7 zz λO ρ k hx hd q=>ae (bind_some hd) λx e1 hd=>?_
  cases gv hd
  exact⟨O,ρ,_,hx,e1,λv H1 s1 r1=>⟨k,r1.bl,q H1 s1⟩⟩
noncomputable def bo(k:Bool):BoolOp:=if k then .And else .Or
def GI(ha:PE X a (tV X.K false fa)):PE X (.BoolOp (bo k) [a] pos) (tV X.K m λρ=>(((fa ρ).bind f6).bind λx=>if x=k then some k else some x).map .bl):=
 (Ft (op:=bo k) ha).weak λσ H Q zz=>by
  refine c7 zz λO ρ d hx hd q=>ae (map_some hd) λy p8 aj=>?_
  subst aj
  refine ae (bind_some p8) λx tJ hy=>ae (bind_some tJ) λz e1 La=>?_
  cases gv La
  have:x=y:=by
   split at hy
   .rename_i e;cases hy;exact e
   .cases hy;rfl
  subst this
  exact⟨O,ρ,_,hx,e1,λv H1 s1 r1=>q v H1 s1 (.inl r1.own)⟩
def Lb{k:Bool}{fa:Env->Option D}{fr:Env->Option Bool}(ha:PE X a (tV X.K false fa))(hr:PE X (.BoolOp (bo k) (b::es) pos) (tV X.K false λρ=>(fr ρ).map .bl)):
  PE X (.BoolOp (bo k) (a::b::es) pos) (tV X.K m λρ=>(((fa ρ).bind f6).bind λx=>if x=k then fr ρ else some x).map .bl):=by
 cases k with
 |true=>
  refine PE.weak (Fu ha hr) λσ H Q zz=>au λnO=>c7 zz λO ρ d hx hd q=>ae (map_some hd) λy p8 aj=>?_
  subst aj
  refine ae (bind_some p8) λx tJ hy=>ae (bind_some tJ) λz e1 La=>nO ?_
  cases gv La
  refine⟨O,ρ,_,hx,e1,λv H1 s1 r1=>⟨x,r1.bl,?_⟩⟩
  cases x with
  |true=>exact lH ⟨O,ρ,.bl y,hx.mono s1,by rw[WO rfl]at hy;show(fr ρ).map D.bl=_;rw[hy];rfl,λv H2 s2 r2=>q v H2 (s1.trans s2) (.inl r2.own)⟩
  |false=>rw[WV Wt]at hy;cases hy;exact m_ (q _ H1 s1 (.inl (.bl _)))
 |false=>
  refine PE.weak (Jr ha hr) λσ H Q zz=>au λnO=>c7 zz λO ρ d hx hd q=>ae (map_some hd) λy p8 aU=>?_
  subst aU
  refine ae (bind_some p8) λx tJ hy=>ae (bind_some tJ) λz e1 La=>nO ?_
  cases gv La
  refine⟨O,ρ,_,hx,e1,λv H1 s1 r1=>⟨x,r1.bl,?_⟩⟩
  cases x with
  |false=>exact m_ ⟨O,ρ,.bl y,hx.mono s1,by rw[WO rfl]at hy;show(fr ρ).map D.bl=_;rw[hy];rfl,λv H2 s2 r2=>q v H2 (s1.trans s2) (.inl r2.own)⟩
  |true=>rw[WV (by decide)]at hy;cases hy;exact lH (q _ H1 s1 (.inl (.bl _)))
def GJ{k:Bool}{fa:Env->Option D}(ha:PT X a (tB X.K λρ=>(fa ρ).bind f6)):PW X (.BoolOp (bo k) [a] pos) (tB X.K λρ=>((fa ρ).bind f6).bind λx=>if x=k then some k else some x):=by
 have w:∀σ H Q,tB X.K (λρ=>((fa ρ).bind f6).bind λx=>if x=k then some k else some x) σ H Q->tB X.K (λρ=>(fa ρ).bind f6) σ H Q:=λσ H Q zz=>by
  refine c7 zz λO ρ y hx hd q=>ae (bind_some hd) λx p8 hy=>?_
  have:x=y:=by
   split at hy
   .rename_i e;cases hy;exact e
   .cases hy;rfl
  subst this
  exact⟨O,ρ,x,hx,p8,q⟩
 cases k with
 |true=>exact λwh aa s σ H Q I h=>Br ha wh aa s σ H Q I (w σ H Q h)
 |false=>exact λwh aa s σ H Q I h=>Fq ha wh aa s σ H Q I (w σ H Q h)
def Lc{k:Bool}{fa:Env->Option D}{fr:Env->Option Bool}(ha:PT X a (tB X.K λρ=>(fa ρ).bind f6))(hr:PW X (.BoolOp (bo k) (b::es) pos) (tB X.K fr)):
  PW X (.BoolOp (bo k) (a::b::es) pos) (tB X.K λρ=>((fa ρ).bind f6).bind λx=>if x=k then fr ρ else some x):=by
 cases k with
 |true=>
  refine λwh aa s σ H Q I h=>Fs ha hr wh aa s σ H Q I ?_
  refine c7 h λO ρ y hx hd q=>ae (bind_some hd) λx hd hy=>⟨O,ρ,x,hx,hd,λH1 s1=>?_⟩
  cases x with
  |true=>exact lH ⟨O,ρ,y,hx.mono s1,by rw[WO rfl]at hy;exact hy,λH2 s2=>q H2 (s1.trans s2)⟩
  |false=>rw[WV Wt]at hy;cases hy;exact m_ (q H1 s1)
 |false=>
  refine λwh aa s σ H Q I h=>Jp ha hr wh aa s σ H Q I ?_
  refine c7 h λO ρ y hx hd q=>ae (bind_some hd) λx hd hy=>⟨O,ρ,x,hx,hd,λH1 s1=>?_⟩
  cases x with
  |false=>exact m_ ⟨O,ρ,y,hx.mono s1,by rw[WO rfl]at hy;exact hy,λH2 s2=>q H2 (s1.trans s2)⟩
  |true=>rw[WV (by decide)]at hy;cases hy;exact lH (q H1 s1)
def Ld:PA X [] (tH X.K m λ_=>some []):=λp aa s σ H Q I zz=>by
 refine au λnO=>c7 zz λO ρ ds hx hd k=>?_
 cases hd
 exact nO<|c_ p aa s σ H Q I (k [] H (af.refl _) .nil)
theorem fK{K:PySem.W.Frag}{O:Addr->Prop}{H:Hp}:∀{vs:List V}{ds:List D},Paired (bW K O false H) vs ds->av K O H vs ds
 |_,_,.nil => .nil
 |_,_,.cons r t=> .cons r.own (fK t)
theorem lY{K:PySem.W.Frag}{O:Addr->Prop}{H:Hp}{b:Bool}:∀{vs:List V}{ds:List D},Paired (bW K O b H) vs ds->av K (λ_=>False) H vs ds
 |_,_,.nil => .nil
 |_,_,.cons r t=> .cons r.any (lY t)
def GK(h:PE X e (tV X.K m f))(hr:PA X es (tH X.K m g))(hs:starEach (e::es) X.env=(false,eval e X.env)::starEach es X.env):
  PA X (e::es) (tH X.K m λρ=>(f ρ).bind λx=>(g ρ).bind λxs=>some (x::xs)):=λp aa s σ H Q I zz=>by
 refine au λnO=>c7 zz λO ρ ds hx hd k=>ae (bind_some hd) λx e1 hd=>ae (bind_some hd) λxs e2 hd=>?_
 cases hd
 exact nO<|cb h hr hs p aa s σ H Q I ⟨O,ρ,x,hx,e1,λv H1 s1 r1=>⟨O,ρ,xs,hx.mono s1,e2,λvs H2 s2 r2=>k (v::vs) H2 (s1.trans s2) (.cons (r1.mono s2) r2)⟩⟩
def EG{k:Nat}{g:Env->Option (List D)}(h:PA X es (tH X.K false g)):PE X (.Tuple es k pos) (tV X.K m λρ=>(g ρ).bind λxs=>if xs.length<=ba then some (.tup xs) else none):=
 PE.weak (FO h) λσ H Q zz=>by
  refine c7 zz λO ρ d hx hd q=>ae (bind_some hd) λxs e1 hd=>?_
  split at hd
  .rename_i hz
   cases hd
   refine⟨O,ρ,xs,hx,e1,λvs H1 s1 r1=>?_⟩
   have nv:=fK r1
   exact⟨by rw[nv.length,cQ];exact hz,λp hp=>q _ _ (s1.trans (af.upd hp)) (.inl (.tup (dF.of ag) (nv.mono (af.upd hp))))⟩
  .cases hd
def Le{g:Env->Option (List D)}(h:PA X es (tH X.K false g)):PE X (.List es pos) (tF X.K λρ=>(g ρ).bind λxs=>if xs.length<=ba then some xs else none):=
 PE.weak (FP h) λσ H Q zz=>by
  refine c7 zz λO ρ d hx hd q=>ae (bind_some hd) λxs e1 hd=>?_
  split at hd
  .rename_i hz
   cases hd
   refine⟨O,ρ,_,hx,e1,λvs H1 s1 r1=>?_⟩
   have nv:=fK r1
   exact⟨by rw[nv.length,cQ];exact hz,λp hp=>q p vs H1 s1 hp nv⟩
  .cases hd
def lZ(n:Nat)(i:Int):place n i=ID n i:=rfl
def item_at{K:PySem.W.Frag}{O:Addr->Prop}{H:Hp}{vs:List V}{ds:List D}{k:Int}{d:D}(h:av K O H vs ds)(e:((place ds.length k).bind λj=>ds[j]?)=some d):∃v,Ec vs k=some v/\bx K O H v d:=by
 exact ae (bind_some e) λj e1 e2=>ae (h.get e2) λv h1 h2=>⟨v,by unfold Ec;rw[h.length,<-lZ,e1];exact h1,h2⟩
def Lf{fa fb:Env->Option D}(ha:PE X a (tV X.K true fa))(hb:PE X b (tV X.K false fb))(hs:oS b):PE X (.Subscript a b pos) (tV X.K m λρ=>(fa ρ).bind λx=>(fb ρ).bind λk=>item x k):=
 PE.weak (Ed (ui.or FW) ha hb hs) λσ H Q zz=>by
  refine au λnO=>c7 zz λO ρ d hx hd q=>ae (bind_some hd) λx e1 hd=>ae (bind_some hd) λy e2 hd=>nO ?_
  refine⟨O,ρ,x,hx,e1,λv H1 s1 r1=>⟨O,ρ,y,hx.mono s1,e2,λw H2 s2 r2=>?_⟩⟩
  have nv:=r1.mono s2
  cases y with
  |int k=>
   cases x with
   |lst xs=>
    refine au λnO=>bC nv.lst λp vs aj h1 h2=>?_
    subst aj
    exact ae (item_at h2 hd) λu h3 h4=>nO<| .inl ⟨p,vs,k,u,rfl,r2.int,h1,h3,q u H2 (s1.trans s2) (.inl h4)⟩
   |tup xs=>
    refine au λnO=>bC nv.tup λp vs aU h1 h2=>?_
    subst aU
    exact ae (item_at h2 hd) λu h3 h4=>nO<| .inr ⟨p,vs,k,u,rfl,r2.int,h1,h3,q u H2 (s1.trans s2) (.inl h4)⟩
   |_=>cases hd
  |_=>cases x<;>cases hd
def tO(K:PySem.W.Frag)(f:Env->Option (Option Int)):TO:=λσ H Q=>∃O ρ o,EX K O σ H ρ/\f ρ=some o/\∀H',af H H'->Q o H'
def GL:PO X none (tO X.K λ_=>some none):=λaa s σ H Q I zz=>by
 refine au λnO=>c7 zz λO ρ o hx hd k=>?_
 cases hd
 exact nO<|BD aa s σ H Q I (k H (af.refl _))
def GN(h:PE X e (tV X.K false f)):PO X (some e) (tO X.K λρ=>((f ρ).bind Eo).map some):=λaa s σ H Q I zz=>by
 refine au λnO=>c7 zz λO ρ o hx hd k=>ae (map_some hd) λi p8 aj=>?_
 subst aj
 refine ae (bind_some p8) λd e1 tJ=>nO ?_
 cases zg tJ
 exact BE h aa s σ H Q I ⟨O,ρ,_,hx,e1,λv H1 s1 r1=>⟨i,r1.int,k H1 s1⟩⟩
def dE(n d:Nat)(o:Option Int):bound n d o=HT.cC n d o:=by
 cases o with
 |none=>rfl
 |some v=>
  have:=HT.oQ v n d
  show(if v<0 then max (v+(n:Int)) 0 else min v (n:Int)).toNat =_
  rw[this]
  exact Xz _
def l3{K:PySem.W.Frag}{O:Addr->Prop}{H:Hp}{vs:List V}{ds:List D}(h:av K O H vs ds)(lo hi:Option Int):av K O H (qq vs lo hi) (xH ds lo hi):=by
 unfold qq xH
 rw[dE,dE,h.length]
 exact(h.drop _).take _
def Lg{lo hi:Option Expr}{p2:Pos}{fa:Env->Option D}{fl fh:Env->Option (Option Int)}(ha:PE X a (tV X.K true fa))(hl:PO X lo (tO X.K fl))(hh:PO X hi (tO X.K fh)):
  PE X (.Subscript a (.Slice lo hi none p2) pos) (tV X.K m λρ=>(fa ρ).bind λx=>(fl ρ).bind λl=>(fh ρ).bind λh=>cutD x l h):=
 PE.weak (qp (Bg.or uj BW) ha hl hh) λσ H Q zz=>by
  refine au λnO=>c7 zz λO ρ d hx hd q=>ae (bind_some hd) λx e1 hd=>ae (bind_some hd) λl e2 hd=>ae (bind_some hd) λh e3 hd=>nO ?_
  refine⟨O,ρ,x,hx,e1,λv H1 s1 r1=>⟨O,ρ,l,hx.mono s1,e2,λH2 s2=>⟨O,ρ,h,hx.mono (s1.trans s2),e3,λH3 s3=>?_⟩⟩⟩
  have nv:=r1.mono (s2.trans s3)
  have Bk:=(s1.trans s2).trans s3
  cases x with
  |lst xs=>
   refine au λnO=>?_
   cases hd
   refine bC nv.lst λp vs aj h1 h2=>?_
   subst aj
   exact nO<| .inl ⟨p,vs,rfl,h1,λp' hp=>q _ _ (Bk.trans (af.upd hp)) (.inl (.lst (.inl ag) ((hx.mono Bk).free (af.refl _) hp) ((l3 h2 l h).mono (af.upd hp))))⟩
  |tup xs=>
   refine au λnO=>bC nv.tup λp vs aU h1 h2=>?_
   subst aU
   cases hd
   refine nO ?_
   by_cases hw:bound xs.length 0 l=0/\bound xs.length xs.length h=xs.length
   .refine .inr (.inr ⟨p,vs,rfl,h1,by rw[<-dE,<-dE,h2.length];exact hw,q _ _ Bk (.inl (.tup h1 ?_))⟩)
    have e:xH xs l h=xs:=by
     unfold xH
     rw[hw.1,hw.2,YQ,Nat.sub_zero,List.take_length]
    rw[e]
    exact h2
   .refine .inr (.inl ⟨p,vs,rfl,h1,?_,λp' hp=>q _ _ (Bk.trans (af.upd hp)) (.inl (.tup (dF.of ag) ((l3 h2 l h).mono (af.upd hp))))⟩)
    rw[<-dE,<-dE,h2.length]
    exact hw
  |_=>cases hd
def Pc{lo hi:Option Expr}{p2:Pos}{fa:Env->Option D}{fl fh:Env->Option (Option Int)}(ha:PE X a (tV X.K true fa))(hl:PO X lo (tO X.K fl))(hh:PO X hi (tO X.K fh)):
  PE X (.Subscript a (.Slice lo hi none p2) pos) (tF X.K λρ=>((fa ρ).bind λx=>(fl ρ).bind λl=>(fh ρ).bind λh=>cutD x l h).bind λd=>match d with| .lst ds=>some ds|_=>none):=
 PE.weak (qp uj ha hl hh) λσ H Q zz=>by
  refine au λnO=>c7 zz λO ρ ds hx hd q=>ae (bind_some hd) λd hd hz=>ae (bind_some hd) λx e1 hd=>ae (bind_some hd) λl e2 hd=>ae (bind_some hd) λh e3 hd=>nO ?_
  refine⟨O,ρ,x,hx,e1,λv H1 s1 r1=>⟨O,ρ,l,hx.mono s1,e2,λH2 s2=>⟨O,ρ,h,hx.mono (s1.trans s2),e3,λH3 s3=>?_⟩⟩⟩
  have nv:=r1.mono (s2.trans s3)
  have Bk:=(s1.trans s2).trans s3
  cases x with
  |lst xs=>
   refine au λnO=>?_
   cases hd
   cases hz
   refine bC nv.lst λp vs aj h1 h2=>?_
   subst aj
   exact nO<|⟨p,vs,rfl,h1,λp' hp=>q p' _ H3 Bk hp (l3 h2 l h)⟩
  |tup xs=>cases hd;cases hz
  |_=>cases hd
end
section
variable {X:Cx}{a b c e e0:Expr}{es:List Expr}{pos p:Pos}{m:Bool}
def uQ(K:PySem.W.Frag)(n:Nat)(f:List D->Option D):Sp:=λvs H Q _=>∃O ds d,(∀a,O a->∃u,H a=some u/\qY u)/\av K O H vs ds/\f ds=some d/\vs.length=n/\∀v H',af H H'->bx K O H' v d->Q v H'
def GO{k:Nat}{fa:Addr}{fd:FuncData}{ps:List Str}{x:Str}{g:Bool->Env->Option (List D)}{f:List D->Option D}{ln:Env->Bool}(F:iP X.prog X.w X.K X.mg X.base wm k fa fd ps (uQ X.K ps.length f))(hr:eG k X.A)(hg:Gl X x)(hm:X.mg x=some (.ref fa))
  (hk:PySem.W.keepIn X.K (.ref fa)=true) (hb:Binds X.K fd ps []) (hf:∀ds d,f ds=some d->ds.length=ps.length) (ha:∀b,PA X (e::es) (tH X.K b (g b))) (hl:∀ρ,ln ρ=false->g true ρ=g false ρ)
  (Bf:(x==("__debug__":Str))=false) (he:starEach (e::es) X.env=(false,eval e X.env)::starEach es X.env) (jG:(backTo pos (starEach es X.env)).any (·.1)=false):
  PE X (.Call (.Name x p) (e::es) [] pos) (tV X.K m λρ=>(g true ρ).bind λxs=>(f xs).bind λd=>if ln ρ&&!ay d then none else some d):=by
 intro aa s σ H Q I ⟨O,ρ,d,hx,hd,q⟩
 refine ae (bind_some hd) λxs e1 hd=>ae (bind_some hd) λd' e2 hd=>?_
 cases Pd:ln ρ with
 |false=>
  rw[Pd]at hd
  simp only[Bool.false_and,XB,if_false]at hd
  cases hd
  rw[hl ρ Pd]at e1
  refine ue F hr hg hm hk hb .nil yk (ha false) Bf he jG aa s σ H Q I ⟨O,ρ,xs,hx,e1,λvs H1 s1 r1=>?_⟩
  have nv:=fK r1
  show uQ X.K ps.length f (vs++[]) H1 Q E0
  rw[W9]
  exact⟨O,xs,d,(hx.mono s1).live,nv,e2,by rw[nv.length];exact hf _ _ e2,λv H2 s2 r2=>q v H2 (s1.trans s2) (.inl r2)⟩
 |true=>
  rw[Pd]at hd
  cases hn:ay d' with
  |false=>rw[hn]at hd;cases hd
  |true=>
   rw[hn]at hd
   simp only[Bool.not_true,Bool.and_false,XB,if_false]at hd
   cases hd
   refine ue F hr hg hm hk hb .nil yk (ha true) Bf he jG aa s σ H Q I ⟨O,ρ,xs,hx,e1,λvs H1 s1 r1=>?_⟩
   have nv:=lY r1
   show uQ X.K ps.length f (vs++[]) H1 Q E0
   rw[W9]
   exact⟨λ_=>False,xs,d,λ_ z=>z.elim,nv,e2,by rw[nv.length];exact hf _ _ e2,λv H2 s2 r2=>q v H2 (s1.trans s2) (.inl (wU r2 hn))⟩
def jT(mk:∀t,PA X (e::es) t->PE X e0 (N7 r t))(ha:PA X (e::es) (tH X.K true g))
  (hr:∀O σ (ρ:Env) H ds vs d Q,EX X.K O σ H ρ->Paired (bW X.K O true H) vs ds->pf ds=some d->(∀v H',af H H'->bW X.K O m H' v d->Q v H')->r vs H Q):PE X e0 (tV X.K m λρ=>(g ρ).bind pf):=
 (mk _ ha).weak λσ H Q zz=>by
  exact c7 zz λO ρ d hx hd q=>ae (bind_some hd) λxs e1 hd=>⟨O,ρ,xs,hx,e1,λvs H1 s1 r1=>hr O σ ρ H1 xs vs d Q (hx.mono s1) r1 hd λv H' s' r'=>q v H' (s1.trans s') r'⟩
def cK{K:PySem.W.Frag}{O:Addr->Prop}{H:Hp}{b:Bool}{vs:List V}{d:D}(h:Paired (bW K O b H) vs [d]):∃v,vs=[v]/\bW K O b H v d:=by
 cases h with
 |cons r t=>cases t;exact⟨_,rfl,r⟩
theorem cx{K:PySem.W.Frag}{O:Addr->Prop}{H:Hp}:∀{vs:List V}{ds:List D}{ns:List Int},av K O H vs ds->aP ds=some ns->vs=ns.map V.int
 |_,_,_,.nil,h=>by cases h;rfl
 |_,_,ns,.cons (d:=d) r t,h=>by
  cases d with
  |int i=>
   simp only[aP]at h
   refine ae (map_some h) λfT h1 aj=>?_
   subst aj
   rw[WJ,<-cx t h1,r.int_inv]
  |_=>cases h
def Pf(K:PySem.W.Frag):List V->Hp->VK->Prop:=λxs H Q=>∃p n ns,xs=[.ref p]/\(c9 K H p ((n::ns).map V.int)\/dF K H p ((n::ns).map V.int))/\Q (.int (h_ n ns)) H
def wV(hc:X.calm=true):cH X (.builtin "min") (Pf X.K):=by
 intro aa s σ H xs us Q I r ⟨p,n,ns,e,hq,q⟩
 subst e
 refine ae (vals1 r) λu aj rx=>?_
 subst aj
 cases rx
 have fin:∀(h':Heap) (tk:Nat) (t:Tok),(∀b o,s.heap.get? b=some o->h'.get? b=some o)->EP X aa σ Q (.int (h_ n ns) t) {s with heap:=h',toks:=tk}:=λh' tk t k=>⟨.int _,H,I.kept k,⟨_,rfl⟩,q⟩
 rcases hq with hq|hq
 .exact bL (I.list hq) λits rv pl hz=>kh (I.ok.hd hc) (.inl pl.isList) (intsAre_of rv) fin
 .exact bL (I.tuple hq) λits rv pl hz=>kh (I.ok.hd hc) (.inr pl) (intsAre_of rv) fin
noncomputable def gw:sS->Str
 | .len =>"len"| .tuple =>"tuple"| .list =>"list"| .min =>"min"| .sorted =>"sorted"| .all =>"all"
theorem gx{K:PySem.W.Frag}{O:Addr->Prop}{H:Hp}:∀{vs:List V}{ds:List D}{bs:List Bool},av K O H vs ds->eh ds=some bs->vs=bs.map V.bl
 |_,_,_,.nil,h=>by cases h;rfl
 |_,_,bs,.cons (d:=d) r t,h=>by
  cases d with
  |bl i=>
   simp only[eh]at h
   obtain⟨fT,h1,rfl⟩:=map_some h
   rw[WJ,<-gx t h1,r.tG]
  |_=>cases h
theorem pM{K:PySem.W.Frag}{O:Addr->Prop}{H:Hp}:∀{vs:List V}{ds:List D}{ks:List (List Int)},av K O H vs ds->eI ds=some ks->Paired (TupAt H) vs ks/\∀k∈ks,k≠[]
 |_,_,_,.nil,h=>by cases h;exact⟨.nil,λ_ z=>nomatch z⟩
 |_,_,ks,.cons (d:=d) r t,h=>by
  cases d with
  |tup xs=>
   unfold eI at h
   refine ae (bind_some h) λk h1 h=>?_
   split at h
   .cases h
   .rename_i hk
    refine ae (map_some h) λUm h2 aj=>?_
    subst aj
    refine bC r.gS λa us aU q1 q2=>?_
    subst aU
    have e:=cx q2 h1
    subst e
    obtain⟨p1,p2⟩:=pM t h2
    exact⟨.cons ⟨a,rfl,q1⟩ p1,λz hz=>(WG.mp hz).elim (λe=>by rw[e];exact hk) (p2 z)⟩
  |_=>cases h
def uR{K:PySem.W.Frag}{O:Addr->Prop}{H:Hp}{u:V}{k:List Int}(h:TupAt H u k):bx K O H u (nc k):=by
 refine ae h λb aj hb=>?_
 try clear h
 subst aj
 exact .tup hb (dD k)
theorem l4{K:PySem.W.Frag}{O:Addr->Prop}{H:Hp}:∀{us:List V}{ks:List (List Int)},Paired (TupAt H) us ks->av K O H us (ks.map nc)
 |_,_,.nil => .nil
 |_,_,.cons h t=> .cons (uR h) (l4 t)
def oh{q:sS}{g:Env->Option (List D)}(hu:X.A.units+64<cLine)(hc:X.calm=true)(hg:Gl X (gw q))(hm:X.mg (gw q)=none)(ha:PA X (e::es) (tH X.K true g))
  (he:starEach (e::es) X.env=(false,eval e X.env)::starEach es X.env) (jG:(backTo pos (starEach es X.env)).any (·.1)=false):
  PE X (.Call (.Name (gw q) p) (e::es) [] pos) (tV X.K m λρ=>(g ρ).bind (prim q)):=by
 have no:∀(f:Env->Option (List D)),∀ρ,((f ρ).bind λ_=>(none:Option D))=none:=λf ρ=>by cases f ρ<;>rfl
 cases q with
 |len=>
  refine jT (λt ht=>eM oU hg hm PySem.boot_len ht (by decide) (by decide) he jG) ha λO σ ρ H ds vs d Q hx r hd q=>?_
  cases ds with
  |nil=>cases hd
  |cons x t=>
   cases t with
   |cons _ _=>cases x<;>cases hd
   |nil=>
    refine ae (cK r) λv aj rv=>?_
    subst aj
    refine au λnO=>ae (map_some (show(seq x).map (λys=>D.int ys.length)=some d from hd)) λys h1 aU=>?_
    subst aU
    refine bC (rv.seq h1) λp us fF h2 h3=>?_
    subst fF
    exact nO<|⟨p,us,rfl,h2,by rw[h3.length];exact q _ _ (af.refl _) (.inl (.int _))⟩
 |tuple=>
  refine jT (λt ht=>dB m9 hg hm boot_tuple ht (by decide) (by decide) he jG) ha λO σ ρ H ds vs d Q hx r hd q=>?_
  cases ds with
  |nil=>cases hd
  |cons x t=>
   cases t with
   |cons _ _=>cases hd
   |nil=>
    refine au λnO=>ae (cK r) λv y8 rv=>?_
    subst y8
    refine ae (map_some hd) λys h1 Pj=>?_
    subst Pj
    refine bC (rv.seq h1) λp us Pk h2 h3=>?_
    subst Pk
    refine nO ?_
    refine⟨p,us,rfl,?_⟩
    rcases h2 with h2|h2
    .exact .inl ⟨h2,λl hl=>q _ _ (af.upd hl) (.inl (.tup (dF.of ag) (h3.mono (af.upd hl))))⟩
    .exact .inr ⟨h2,q _ _ (af.refl _) (.inl (.tup h2 h3))⟩
 |list=>
  refine jT (λt ht=>dB iR hg hm boot_list ht (by decide) (by decide) he jG) ha λO σ ρ H ds vs d Q hx r hd q=>?_
  cases ds with
  |nil=>cases hd
  |cons x t=>
   cases t with
   |cons _ _=>cases hd
   |nil=>
    refine au λnO=>ae (cK r) λv Pl rv=>?_
    subst Pl
    refine ae (map_some hd) λys h1 Pn=>?_
    subst Pn
    refine bC (rv.seq h1) λp us Po h2 h3=>?_
    subst Po
    exact nO<|⟨p,us,rfl,h2,λl hl=>q _ _ (af.upd hl) (.inl (.lst (.inl ag) (hx.free (af.refl _) hl) (h3.mono (af.upd hl))))⟩
 |min=>
  refine jT (λt ht=>eM ((wV hc).or (wO hc hu)) hg hm boot_min ht (by decide) (by decide) he jG) ha λO σ ρ H ds vs d Q hx r hd q=>?_
  cases ds with
  |nil=>cases hd
  |cons x t=>
   cases t with
   |nil=>
    refine au λnO=>ae (cK r) λv GP rv=>?_
    subst GP
    simp only[prim]at hd
    refine ae (bind_some hd) λys h1 hd=>bC (rv.seq h1) λp us GQ h3 h4=>?_
    subst GQ
    refine nO ?_
    cases h2:aP ys with
    |some ns=>
     rw[h2]at hd
     cases ns with
     |nil=>cases hd
     |cons n ns=>
      cases hd
      have:=cx h4 h2
      subst this
      exact .inl ⟨p,n,ns,rfl,h3,q _ _ (af.refl _) (.inl (.int _))⟩
    |none=>
     rw[h2]at hd
     cases x with
     |lst zs=>
      refine au λnO=>?_
      cases h1
      refine bC rv.lst λp' Uo e' Pp M_=>?_
      cases e'
      refine ae (bind_some hd) λks h5 hd=>nO ?_
      cases ks with
      |nil=>cases hd
      |cons k ks=>
       cases hd
       exact .inr ⟨p,Uo,k,ks,rfl,Pp,(pM M_ h5).1,λu hu=>q _ _ (af.refl _) (.inl (uR hu))⟩
     |_=>cases hd
   |cons y t=>cases hd
 |sorted=>
  refine jT (λt ht=>eM pH hg hm boot_sorted ht (by decide) (by decide) he jG) ha λO σ ρ H ds vs d Q hx r hd q=>?_
  cases ds with
  |nil=>cases hd
  |cons x t=>
   cases t with
   |nil=>
    refine au λnO=>ae (cK r) λv GR rv=>?_
    subst GR
    refine ae (bind_some (show(seq x).bind (λys=>(eI ys).map λks=>D.lst ((bU.bF ks).map nc))=some d from hd)) λys h1 hd=>ae (map_some hd) λks h5 Pu=>?_
    subst Pu
    refine bC (rv.seq h1) λp us Pw h3 h4=>?_
    subst Pw
    obtain⟨p1,p2⟩:=pM h4 h5
    exact nO<|⟨p,us,ks,rfl,h3,p1,p2,λl ws hl pw=>q _ _ (af.upd hl) (.inl (.lst (.inl ag) (hx.free (af.refl _) hl) ((l4 pw).mono (af.upd hl))))⟩
   |cons y t=>cases hd
 |all=>
  refine jT (λt ht=>eM (wB hc) hg hm boot_all ht (by decide) (by decide) he jG) ha λO σ ρ H ds vs d Q hx r hd q=>?_
  cases ds with
  |nil=>cases hd
  |cons x t=>
   cases t with
   |cons _ _=>cases hd
   |nil=>
    cases x with
    |lst ys=>
     obtain⟨bs,hb,rfl⟩:=map_some (show(eh ys).map (λbs=>D.bl (bs.all id))=some d from hd)
     obtain⟨v,rfl,rv⟩:=cK r
     obtain⟨p,us,rfl,h2,h3⟩:=rv.lst
     have:=gx h3 hb
     subst this
     exact⟨p,bs,rfl,h2,q _ _ (af.refl _) (.inl (.bl _))⟩
    |_=>cases hd
def f_list{g:Env->Option (List D)}(hg:Gl X "list")(hm:X.mg "list"=none)(ha:PA X (e::es) (tH X.K true g))
  (he:starEach (e::es) X.env=(false,eval e X.env)::starEach es X.env) (jG:(backTo pos (starEach es X.env)).any (·.1)=false):
  PE X (.Call (.Name "list" p) (e::es) [] pos) (tF X.K λρ=>(g ρ).bind λxs=>match xs with|[x]=>seq x|_=>none):=
 PE.weak (dB iR hg hm boot_list ha (by decide) (by decide) he jG) λσ H Q zz=>by
  refine c7 zz λO ρ ds hx hd q=>ae (bind_some hd) λxs e1 hd=>⟨O,ρ,xs,hx,e1,λvs H1 s1 r=>?_⟩
  cases xs with
  |nil=>cases hd
  |cons x t=>
   cases t with
   |cons _ _=>cases hd
   |nil=>
    refine ae (cK r) λv aj rv=>?_
    subst aj
    refine bC (rv.seq hd) λp us aU h2 h3=>?_
    subst aU
    exact⟨p,us,rfl,h2,λl hl=>q l us H1 s1 hl h3⟩
noncomputable def nA(lo:Int):Nat->List V
 |0=>[]
 |n+1=> .int lo::nA (lo+1) n
theorem jU{K:PySem.W.Frag}{O:Addr->Prop}{H:Hp}:∀(n:Nat) (lo:Int),av K O H (nA lo n) (bB lo n)
 |0,_=> .nil
 |n+1,lo=> .cons (.int lo) (jU n (lo+1))
theorem gy:∀(n:Nat) (lo:Int),(nA lo n).length =n
 |0,_=>rfl
 |n+1,lo=>by rw[nA,WM,gy n]
theorem jV:∀(n:Nat) (lo:Int) (us:List Value),us.length=n->(∀(j:Nat) (v:Value),us[j]?=some v->∃t,v=Value.int (lo+j) t)->aD (nA lo n) us
 |0,lo,us,hl,_=>by
  cases us with
  |nil=>exact .nil
  |cons _ _=>cases hl
 |n+1,lo,us,hl,h=>by
  cases us with
  |nil=>cases hl
  |cons u us=>
   obtain⟨t,e⟩:=h 0 u rfl
   refine .cons ⟨t,by simpa using e⟩ (jV n (lo+1) us (by simpa using hl) λj v hj=>?_)
   obtain⟨t',e'⟩:=h (j+1) v (by simpa using hj)
   refine⟨t',?_⟩
   rw[e']
   congr 1
   push_cast
   lia
def uS(hg:Gl X "range")(hm:X.mg "range"=none)(ha:PA X [a] t)(hs:starEach [a] X.env=[(false,eval a X.env)]):PE X (.Call (.Name "range" p) [a] [] pos) (λσ H Q=>t σ H λvs H1=>∃hi:Int,vs=[.int hi]/\∀p,H1 p=none->Q (.ref p) (L2.upd H1 p (.c8 0 hi))):=by
 intro aa s σ H Q I h
 refine Call_ (jE I hg hm boot_range (XY (bI (ha pos aa s σ H _ I h) λus s1 ⟨vs,H1,I1,r1,q1⟩=>?_) hs rfl))
 refine ae q1 λhi e q=>?_
 subst e
 obtain⟨u,rfl,t',rfl⟩:=vals1 r1
 refine call_range_1 ⟨.ref s1.heap.objs.size,_,I1.laid (o:= .c8 0 hi) (λb o e=>Wo _ e) (WE _) ⟨_,_,_,WB _ rfl⟩,rfl,q _ I1.fresh⟩
def tK(hc:X.calm=true):cH X (.type "list") (λxs H Q=>∃(p:Addr) (hi:Int),xs=[.ref p]/\H p=some (.c8 0 hi)/\(-(2 ^ 62)<=hi/\hi<=ba)/\∀l,H l=none->Q (.ref l) (L2.upd H l (.lst (nA 0 hi.toNat)))):=by
 intro aa s σ H xs us Q I r ⟨p,hi,e,hp,⟨GS,hl⟩,q⟩
 subst e
 refine ae (vals1 r) λu aj rx=>?_
 subst aj
 cases rx
 refine MC ((show aQ X.prog X.w H s.heap p (.c8 0 hi) from I.aR p _ hp)) λt u v ho=>?_
 have dO:ba=16777216:=rfl
 have zi:Builtin.Range.rangeSize 0 hi 1=((hi.toNat:Nat):Int):=by rw[rangeSize_one];split<;>lia
 refine call_list_range (n:=hi.toNat) (I.ok.hd hc) ho (small_one (by lia) (by lia) GS (by lia)) zi (by lia) λh' tk Gg c' kp hg iV=>⟨.ref s.heap.objs.size,_,I.laid (o:= .lst (nA 0 hi.toNat)) kp (WE _) ⟨by rw[gy,cQ];lia,Gg.toList,c',jV _ _ _ (by simpa using iV.1) (λj v hj=>?_),by simpa using hg⟩,rfl,q _ I.fresh⟩
 obtain⟨t',e'⟩:=iV.2 j v (by simpa using hj)
 exact⟨t',by rw[e'];simp⟩
def qZ(hc:X.calm=true):cH X (.type "tuple") (λxs H Q=>∃(p:Addr) (hi:Int),xs=[.ref p]/\H p=some (.c8 0 hi)/\(-(2 ^ 62)<=hi/\hi<=ba)/\∀l,H l=none->Q (.ref l) (L2.upd H l (.tup (nA 0 hi.toNat)))):=by
 intro aa s σ H xs us Q I r ⟨p,hi,e,hp,⟨GS,hl⟩,q⟩
 subst e
 refine ae (vals1 r) λu aj rx=>?_
 subst aj
 cases rx
 refine MC ((show aQ X.prog X.w H s.heap p (.c8 0 hi) from I.aR p _ hp)) λt u v ho=>?_
 have dO:ba=16777216:=rfl
 have zi:Builtin.Range.rangeSize 0 hi 1=((hi.toNat:Nat):Int):=by rw[rangeSize_one];split<;>lia
 refine wA (n:=hi.toNat) (I.ok.hd hc) ho (small_one (by lia) (by lia) GS (by lia)) zi (by lia) λh' tk acc kp iV=>?_
 have I1:Inv X aa σ H {s with heap:=h'}:=I.kept (t':=s.toks) kp
 have I2:Inv X aa σ (L2.upd H h'.objs.size (.tup (nA 0 hi.toNat))) {s with heap:=h'.push {cls:= .type "tuple",data:= .seq acc},toks:=tk}:=
  I1.laid (t':=tk) (λb o e=>Wo _ e) (WE _) (show aQ X.prog X.w _ _ _ (.tup (nA 0 hi.toNat)) from⟨by rw[gy,cQ];lia,acc.toList,jV _ _ _ (by simpa using iV.1) (λj v hj=>by
   obtain⟨t',e'⟩:=iV.2 j v (by simpa using hj)
   exact⟨t',by rw[e'];simp⟩),by simpa using jD.new h' acc⟩)
 exact⟨.ref h'.objs.size,_,I2,rfl,q _ (I1.aR.fresh (WE _))⟩
def zj{q1 qj:Pos}{g:Env->Option (List D)}(hc:X.calm=true)(hg:Gl X "range")(hm:X.mg "range"=none)(Lh:Gl X "tuple")(El:X.mg "tuple"=none)(ha:PA X [a] (tH X.K false g))(hl:∀ρ ds,g ρ=some ds->ds.length=1)(hs:starEach [a] X.env=[(false,eval a X.env)]):
  PE X (.Call (.Name "tuple" q1) [.Call (.Name "range" p) [a] [] pos] [] qj) (tV X.K m λρ=>((g ρ).bind cM).map .tup):=by
 have h1:=uS (p:=p) (pos:=pos) hg hm ha hs
 refine PE.weak (dB (qZ hc) Lh El PyProof.Rows.boot_tuple (cb h1 c_ rfl) (by decide) (by decide) rfl rfl) λσ H Q zz=>au λnO=>c7 zz λO ρ d hx hd q=>ae (map_some hd) λds sH aj=>?_
 subst aj
 refine nO ?_
 clear hd
 refine ae (bind_some sH) λxs e1 hd=>?_
 clear sH
 have vY:=hl ρ xs e1
 refine⟨O,ρ,xs,hx,e1,λvs H1 s1 r=>?_⟩
 refine au λnO=>?_
 cases xs with
 |nil=>cases vY
 |cons x t=>
  refine nO<|au λnO=>?_
  cases t with
  |cons _ _=>cases vY
  |nil=>
   refine nO<|ae (cK r) λv aU rv=>?_
   subst aU
   refine au λnO=>?_
   cases x with
   |int n=>
    refine nO ?_
    simp only[cM]at hd
    split at hd
    .rename_i hz
     cases hd
     cases rv.int
     exact⟨n,rfl,λp hp=>⟨p,n,rfl,ag,hz,λl hl=>q _ _ ((s1.trans (af.upd hp)).trans (af.upd hl)) (.inl (.tup (dF.of ag) (jU _ _)))⟩⟩
    .cases hd
   |_=>cases hd
theorem oj:∀{ns:List Int}{j:Nat},ef k ns=some j->ns[j]?=some k/\∀m,m<j->ns[m]?≠some k
 |[],_,h=>by cases h
 |n::r,j,h=>by
  unfold ef at h
  split at h
  .rename_i e;cases h;subst e;exact⟨rfl,λm hm=>absurd hm (YG _)⟩
  .rename_i ne
   refine ae (map_some h) λi h1 aj=>?_
   subst aj
   obtain⟨h2,h3⟩:=oj h1
   refine⟨h2,λm hm=>?_⟩
   cases m with
   |zero=>exact λz=>ne (by simpa using z)
   |succ m=>exact h3 m (by lia)
def CB{oe a0:Expr}{ap cp:Pos}{fo:Env->Option D}{g:Env->Option (List D)}(ho:PE X oe (tV X.K true fo))(ha:PA X [a0] (tH X.K true g))(hb:attributeBase oe "index" X.env (eval oe X.env)=eval oe X.env)(hl:(ap.endLine==cp.line)=true)(hs:starEach [a0] X.env=[(false,eval a0 X.env)]):
  PE X (.Call (.Attribute oe "index" ap) [a0] [] cp) (tV X.K m λρ=>(fo ρ).bind λx=>(g ρ).bind λxs=>eQ .index x xs):=
 (Kd PySem.F.plainAttrs_tuple ZQ PySem.F.type_tuple_index yG ho ha hb (by rw[hs];rfl) hl hs rfl).weak λσ H Q zz=>by
  refine au λnO=>c7 zz λO ρ d hx hd k=>ae (bind_some hd) λx e1 hd=>ae (bind_some hd) λxs e2 hd=>nO ?_
  have key:∃ys kk,x= .tup ys/\xs=[.int kk]/\∃ns,aP ys=some ns/\∃j:Nat,ef kk ns=some j/\d= .int (j:Int):=by
   cases x with
   |tup ys=>
    cases xs with
    |nil=>cases hd
    |cons y t=>
     cases t with
     |cons _ _=>cases y<;>cases hd
     |nil=>
      cases y with
      |int kk=>
       exact au λnO=>ae (bind_some (show(aP ys).bind (λns=>(ef kk ns).map λ(i:Nat)=>D.int (i:Int))=some d from hd)) λns e3 h4=>ae (map_some h4) λj e4 e5=>nO<|⟨ys,kk,rfl,rfl,ns,e3,j,e4,e5.symm⟩
      |_=>cases hd
   |_=>cases hd
  refine au λnO=>?_
  obtain⟨ys,kk,rfl,rfl,ns,e3,j,e4,rfl⟩:=key
  refine nO ?_
  refine⟨O,ρ,.tup ys,hx,e1,λv H1 s1 r1=>?_⟩
  refine au λnO=>bC r1.tup λa vs aj q1 p1=>?_
  subst aj
  refine nO ?_
  refine⟨⟨a,vs,rfl,q1⟩,O,ρ,[.int kk],hx.mono s1,e2,λus H2 s2 r2=>?_⟩
  refine au λnO=>ae (cK r2) λu aU ru=>?_
  subst aU
  have hv:vs=ns.map V.int:=cx p1 e3
  subst hv
  obtain⟨h1,h2⟩:=oj e4
  exact nO<|⟨a,ns,kk,j,rfl,by rw[ru.int],jg s2 q1,h1,h2,k _ _ (s1.trans s2) (.inl (.int _))⟩
inductive Sk where
 |tup|lst|bM (o:Obj) (ks:List (List Int)) (vs:List V)
abbrev IS:=Option (Sk×V×List D)
def e_(K:PySem.W.Frag)(O:Addr->Prop)(H:Hp):IS->Prop
 |none=>True
 |some (.lst,v,ds)=>∃a vs,v= .ref a/\c9 K H a vs/\av K O H vs ds
 |some (.tup,v,ds)=>∃a vs,v= .ref a/\dF K H a vs/\av K O H vs ds
 |some (.bM o ks vs,v,ds)=>∃a,v= .ref a/\H a=some (.dn o (fV 0 ks vs))/\ks.length=vs.length/\kG 0 ks/\av K O H vs ds
theorem e_.mono{K:PySem.W.Frag}{O:Addr->Prop}{H H':Hp}{gf:IS}(h:e_ K O H gf)(s:af H H'):e_ K O H' gf:=by
 rcases gf with _|⟨_|_|⟨o,ks,vs⟩,v,ds⟩
 .trivial
 .obtain⟨a,vs,e,h1,h2⟩:=h;exact⟨a,vs,e,jg (K:=K) s h1,h2.mono s⟩
 .obtain⟨a,vs,e,h1,h2⟩:=h;exact⟨a,vs,e,s.seq h1,h2.mono s⟩
 .obtain⟨a,e,h1,h2,h3,h4⟩:=h;exact⟨a,e,s _ _ h1,h2,h3,h4.mono s⟩
theorem e_.own{K:PySem.W.Frag}{O:Addr->Prop}{H:Hp}{gf:IS}{p:Addr}(h:e_ K O H gf)(hp:H p=none):e_ K (λa=>O a\/a=p) H gf:=by
 rcases gf with _|⟨_|_|⟨o,ks,vs⟩,v,ds⟩
 .trivial
 .obtain⟨a,vs,e,h1,h2⟩:=h;exact⟨a,vs,e,h1,h2.own hp⟩
 .obtain⟨a,vs,e,h1,h2⟩:=h;exact⟨a,vs,e,h1,h2.own hp⟩
 .obtain⟨a,e,h1,h2,h3,h4⟩:=h;exact⟨a,e,h1,h2,h3,h4.own hp⟩
def GU(K:PySem.W.Frag)(O:Addr->Prop)(b:Bool)(H:Hp):IS->Prop
 |none=>True
 |some (.lst,v,ds)=>bW K O b H v (.lst ds)
 |some (.tup,v,ds)=>bW K O b H v (.tup ds)
 |some (.bM o ks vs,v,ds)=>e_ K O H (some (.bM o ks vs,v,ds))
def GU.ok{K:PySem.W.Frag}{O:Addr->Prop}{H:Hp}{b:Bool}{gf:IS}(h:GU K O b H gf):e_ K O H gf:=by
 rcases gf with _|⟨_|_|⟨o,ks,vs⟩,v,ds⟩
 .trivial
 .exact bW.tup h
 .exact bW.lst h
 .exact h
def tL(K:PySem.W.Frag)(J:It)(gf:IS)(ds:List D):Prop:=
 ∀O H,e_ K O H gf->(∀i,i<ds.length->J.go i H)/\(∀i x H' d,J.xV i H x H'->ds[i]?=some d->af H H'/\bx K O H' x d)/\J.stop ds.length H
def tI(K:PySem.W.Frag)(b:Bool)(f:Env->Option (List D)):TI:=λσ H R=>∃O ρ ds,EX K O σ H ρ/\f ρ=some ds/\
 ∀J gf H',af H H'->tL K J gf ds->GU K O b H' gf->R J H'
def GV{K:PySem.W.Frag}{a:Addr}{ds:List D}:tL K (NW K a) (some (.lst,.ref a,ds)) ds:=λO H zz=>by
 refine bC zz λb vs e h1 h2=>?_
 cases e
 have l:=h2.length
 refine⟨λi hi=>?_,λi x H' d ⟨e,y⟩ hd=>?_,vs,h1,aae l⟩
 .have iV:i<vs.length:=by lia
  exact⟨vs,vs[i],h1,by simp[iV]⟩
 .subst e
  refine ae (h2.get hd) λv e1 e2=>?_
  have:=y vs h1
  rw[e1]at this
  cases this
  exact⟨af.refl _,e2⟩
def GW{K:PySem.W.Frag}{a:Addr}{ds:List D}:tL K (NX K a) (some (.tup,.ref a,ds)) ds:=λO H zz=>by
 refine bC zz λb vs e h1 h2=>?_
 cases e
 have l:=h2.length
 refine⟨λi hi=>?_,λi x H' d ⟨e,y⟩ hd=>?_,vs,h1,aae l⟩
 .have iV:i<vs.length:=by lia
  exact⟨vs,vs[i],h1,by simp[iV]⟩
 .subst e
  refine ae (h2.get hd) λv e1 e2=>?_
  have:=y vs h1
  rw[e1]at this
  cases this
  exact⟨af.refl _,e2⟩
theorem gz:∀(n:Nat) (lo:Int),(bB lo n).length =n
 |0,_=>rfl
 |n+1,lo=>by rw[bB,WM,gz n]
theorem q0:∀(n:Nat) (lo:Int) (i:Nat) (d:D),(bB lo n)[i]?=some d->d= .int (lo+i)
 |0,lo,i,d,h=>by simp[bB]at h
 |n+1,lo,0,d,h=>by simp[bB]at h;subst h;simp
 |n+1,lo,i+1,d,h=>by
  simp[bB]at h
  rw[q0 n (lo+1) i d h]
  congr 1
  push_cast
  lia
def GX{K:PySem.W.Frag}{lo:Int}{n:Nat}:tL K (MM lo n) none (bB lo n):=λO H _=>by
 refine⟨λi hi=>?_,λi x H' d ⟨e,y⟩ hd=>?_,?_⟩
 .rw[gz]at hi;exact hi
 .subst e y
  rw[q0 n lo i d hd]
  exact⟨af.refl _,.int _⟩
 .show n<=(bB lo n).length
  rw[gz];exact WE _
def Px(h:PE X a (tV X.K m f)):PI X tg a (tI X.K m λρ=>(f ρ).bind seq):=by
 intro aa s σ H R I ⟨O,ρ,ds,hx,hd,q⟩
 refine ae (bind_some hd) λd e1 hd=>bI (h aa s σ H (λv H1=>af H H1/\bW X.K O m H1 v d) I ⟨O,ρ,d,hx,e1,λv H' s' r'=>⟨s',r'⟩⟩) λv s1 zz=>au λnO=>gM zz λx H1 I1 r1 s' rb=>nO<|YO λnO=>?_
 cases d with
 |lst xs=>
  refine nO<|au λnO=>?_
  cases hd
  refine bC rb.lst λp vs aj h1 h2=>?_
  subst aj
  cases r1
  refine bL (I1.list h1) λits rv pl hz=>nO<|Yq pl.isList ?_
  refine⟨s1.heap.objs.size,[s1.heap.objs.size],_,NW X.K p,H1,rfl,I1.kept (t':=s1.toks) λb o e=>Wo _ e,v8 p _,⟨_,WB _ rfl,rfl,rfl⟩,λb hb=>?_,q _ (some (.lst,.ref p,ds)) H1 s' GV rb⟩
  have e:b=s1.heap.objs.size:=by simpa using hb
  subst e
  exact I1.so (WE _) (I1.aR.fresh (WE _))
 |tup xs=>
  refine nO<|au λnO=>?_
  cases hd
  refine bC rb.tup λp vs aU h1 h2=>?_
  subst aU
  cases r1
  refine bL (I1.tuple h1) λits rv pl hz=>nO<|YC (show s1.heap.IsTuple p its.toArray from pl) ?_
  refine⟨s1.heap.objs.size,[s1.heap.objs.size],_,NX X.K p,H1,rfl,I1.kept (t':=s1.toks) λb o e=>Wo _ e,sq p _,⟨_,WB _ rfl,rfl,rfl⟩,λb hb=>?_,q _ (some (.tup,.ref p,ds)) H1 s' GW rb⟩
  have e:b=s1.heap.objs.size:=by simpa using hb
  subst e
  exact I1.so (WE _) (I1.aR.fresh (WE _))
 |_=>cases hd
theorem df:∀(xs:List D) (k:Int),(aJ k xs).length =xs.length
 |[],_=>rfl
 |_::r,k=>by rw[aJ,WM,WM,df r]
theorem ji:∀(xs:List D) (k:Int) (i:Nat) (d:D),(aJ k xs)[i]?=some d->∃y,xs[i]?=some y/\d= .tup [.int (k+i),y]
 |[],_,_,_,h=>by simp[aJ]at h
 |x::r,k,0,d,h=>by
  simp[aJ]at h
  exact⟨x,rfl,by rw[<-h];simp⟩
 |x::r,k,i+1,d,h=>by
  refine ae (ji r (k+1) i d (by simpa[aJ]using h)) λy h1 h2=>⟨y,by simpa using h1,?_⟩
  rw[h2,show k+1+(i:Int)=k+((i+1:Nat):Int) by push_cast;lia]
def zk{K:PySem.W.Frag}{k:Sk}{a:Addr}{ds:List D}{Sq:Hp->List V->Prop}(hS:∀O H,e_ K O H (some (k,.ref a,ds))->∃vs,Sq H vs/\av K O H vs ds):tL K (MY Sq) (some (k,.ref a,ds)) (aJ 0 ds):=λO H h=>by
 obtain⟨vs,hq,hr⟩:=hS O H h
 have hl:=hr.length
 refine⟨λi hi=>?_,λi x H' d hy hd=>?_,?_⟩
 .rw[df,<-hl]at hi
  exact⟨vs,vs[i],hq,by simp[hi]⟩
 .obtain⟨t,y,ht,rfl,rfl,hy⟩:=hy
  obtain⟨z,h1,rfl⟩:=ji ds 0 i d hd
  obtain⟨v,e1,e2⟩:=hr.get h1
  have:y=v:=by
   have q:=hy vs hq
   rw[e1]at q
   exact(WU q).symm
  subst this
  refine⟨af.upd ht,.tup (dF.of ag) (.cons ?_ (.cons (e2.mono (af.upd ht)) .nil))⟩
  have e0:(0:Int)+(i:Int)=i:=by lia
  rw[e0]
  exact .int _
 .exact⟨vs,hq,by rw[df];exact hl⟩
def EH{elts:List Expr}{k0:Nat}{tpos:Pos}{f:Env->Option D}(hg:Gl X "enumerate")(hm:X.mg "enumerate"=none)(ha:PE X a (tV X.K m f))(hs:starEach [a] X.env=[(false,eval a X.env)]):
  PI X (.Tuple elts k0 tpos) (.Call (.Name "enumerate" p) [a] [] pos) (tI X.K m λρ=>(f ρ).bind λx=>(seq x).map (aJ 0)):=by
 have h1:=BS (X:=X) (a:=a) (p:=p) (pos:=pos) (elts:=elts) (k0:=k0) (tpos:=tpos) hg hm (cb ha c_ hs) hs
 intro aa s σ H R I ⟨O,ρ,ds,hx,hd,q⟩
 refine au λnO=>ae (bind_some hd) λx e1 hd=>ae (map_some hd) λxs e2 aj=>?_
 subst aj
 refine nO ?_
 refine h1 aa s σ H R I ⟨O,ρ,x,hx,e1,λv H1 s1 r1=>?_⟩
 refine au λnO=>?_
 cases x with
 |tup ys=>
  refine nO<|au λnO=>?_
  cases e2
  refine bC r1.tup λb vs aU q1 p1=>?_
  subst aU
  refine nO ?_
  refine⟨b,vs,rfl,.inl ⟨q1,q _ (some (.tup,.ref b,xs)) H1 s1 (zk λO' H' h=>?_) r1⟩⟩
  refine au λnO=>bC h λc us e h2 h3=>?_
  cases e
  exact nO<|⟨us,h2,h3⟩
 |lst ys=>
  refine nO<|au λnO=>?_
  cases e2
  refine bC r1.lst λb vs fF q1 p1=>?_
  subst fF
  refine nO ?_
  refine⟨b,vs,rfl,.inr ⟨q1,q _ (some (.lst,.ref b,xs)) H1 s1 (zk λO' H' h=>?_) r1⟩⟩
  refine au λnO=>bC h λc us e h2 h3=>?_
  cases e
  exact nO<|⟨us,h2,h3⟩
 |_=>cases e2
def zl{κ:Type}{f:List Int->κ}{ks:List (List Int)}{vs:List V}(hl:ks.length=vs.length){i:Nat}(hi:i<ks.length):((ks.map f).zip vs)[i]?=some (f ks[i],vs[i]'(hl▸hi)):=
 List.getElem?_zip_eq_some.mpr ⟨by rw[WI,Wq hi];rfl,Wq (hl▸hi)⟩
def jj:fV 0 ks vs= .dK ((ks.map λk=>(Sum.inl (k.headD 0):cL)).zip vs):=by unfold fV;rw[WO rfl]
def CC{K:PySem.W.Frag}{a:Addr}{o:Obj}{ks:List (List Int)}{vs:List V}{ds:List D}(hl:ks.length=vs.length):tL K (OL a o ((ks.map λk=>(Sum.inl (k.headD 0):cL)).zip vs)) (some (.bM o ks vs,.ref a,ds)) (ks.map λk=> .int (k.headD 0)):=λO H zz=>by
 refine Iy zz λb e h1 h2 h3 h4=>?_
 cases e
 rw[jj]at h1
 have len:((ks.map λk=>(Sum.inl (k.headD 0):cL)).zip vs).length =ks.length:=by rw[Y2,Wr,hl,ZI]
 refine⟨λi hi=>⟨h1,by rw[len];simpa using hi⟩,λi x H' d ⟨e,y⟩ hd=>?_,h1,by rw[len,Wr]⟩
 subst e
 have hi:i<ks.length:=by
  have:=(WK.mp hd).1
  simpa using this
 rw[zl hl hi]at y
 rw[WI,Wq hi]at hd
 cases hd
 cases y
 exact⟨af.refl _,.int _⟩
def CD{K:PySem.W.Frag}{a:Addr}{o:Obj}{ks:List (List Int)}{vs:List V}{ds:List D}(hl:ks.length=vs.length)(p8:vs.length=ds.length):tL K (O9 a o ((ks.map λk=>(Sum.inl (k.headD 0):cL)).zip vs)) (some (.bM o ks vs,.ref a,ds)) ds:=λO H zz=>by
 refine Iy zz λb e h1 h2 h3 h4=>?_
 cases e
 rw[jj]at h1
 have len:((ks.map λk=>(Sum.inl (k.headD 0):cL)).zip vs).length =ks.length:=by rw[Y2,Wr,hl,ZI]
 refine⟨λi hi=>⟨h1,by rw[len];lia⟩,λi x H' d ⟨e,y⟩ hd=>?_,h1,by rw[len];lia⟩
 subst e
 refine ae (h4.get hd) λv e1 e2=>?_
 have hi:i<ks.length:=by
  have:=(WK.mp e1).1
  lia
 rw[zl hl hi]at y
 cases y
 rw[Wq (by lia)]at e1
 cases e1
 exact⟨af.refl _,e2⟩
def EX.Li{K:PySem.W.Frag}{O:Addr->Prop}{H:Hp}{σ:St}{ρ:Env}(hx:EX K O σ H ρ){i:Nat}{ks:List (List Int)}{ds:List D}(h:ρ[i]?=some (some (false,.bM 0 ks ds))):∃a o vs,σ[i]?=some (some (.ref a))/\H a=some (.dn o (fV 0 ks vs))/\ks.length=vs.length/\kG 0 ks/\av K O H vs ds:=by
 refine ae (hx.jB i false _ h) λv q1 q2=>?_
 have Up:bx K O H v (.bM 0 ks ds):=q2
 cases Up with
 |bM g1 g2 g3 g4=>exact⟨_,_,_,q1,g1,g2,g3,g4⟩
def Pz{tg:Expr}{j:Nat}(hj:PE X a (cW j)):PI X tg a (tI X.K m λρ=>keysAt ρ j):=by
 intro aa s σ H R I ⟨O,ρ,ds,hx,hd,q⟩
 have hd:keysAt ρ j=some ds:=hd
 unfold keysAt at hd
 split at hd
 .rename_i ks xs e
  refine au λnO=>?_
  cases hd
  refine sf (hx.Li e) λb o vs e1 e2 e3 e4 e5=>nO ?_
  refine Kj hj aa s σ H R I ⟨.ref b,e1,b,o,_,rfl,by rw[e2,jj],q _ (some (.bM o ks vs,.ref b,xs)) H (af.refl _) (CC e3) ⟨b,rfl,e2,e3,e4,e5⟩⟩
 .cases hd
def PB{tg:Expr}{j:Nat}{ap cp:Pos}(hj:PE X a (cW j))(iS:attributeBase a "values" X.env (eval a X.env)=eval a X.env)(iT:(ap.endLine==cp.line)=true):PI X tg (.Call (.Attribute a "values" ap) [] [] cp) (tI X.K m λρ=>oY ρ j):=by
 intro aa s σ H R I ⟨O,ρ,ds,hx,hd,q⟩
 have hd:oY ρ j=some ds:=hd
 unfold oY at hd
 split at hd
 .rename_i ks xs e
  refine au λnO=>?_
  cases hd
  refine sf (hx.Li e) λb o vs e1 e2 e3 e4 e5=>nO ?_
  refine K4 hj iS iT aa s σ H R I ⟨.ref b,e1,b,o,_,rfl,by rw[e2,jj],q _ (some (.bM o ks vs,.ref b,ds)) H (af.refl _) (CD e3 e5.length) ⟨b,rfl,e2,e3,e4,e5⟩⟩
 .cases hd
def Lj(hg:Gl X "reversed")(hm:X.mg "reversed"=none)(ha:PE X a (tV X.K false f))(hs:starEach [a] X.env=[(false,eval a X.env)]):
  PI X tg (.Call (.Name "reversed" p) [a] [] pos) (tI X.K m λρ=>(f ρ).bind λx=>match x with| .tup xs=>some xs.reverse|_=>none):=by
 intro aa s σ H R I ⟨O,ρ,ds,hx,hd,q⟩
 refine ae (bind_some hd) λx e1 hd=>K2 hg hm (cb ha c_ hs) hs aa s σ H R I ⟨O,ρ,x,hx,e1,λv H1 s1 r=>?_⟩
 cases x with
 |tup xs=>
  cases hd
  refine bC r.tup λb vs aj h1 h2=>?_
  subst aj
  refine⟨b,vs,rfl,h1,q _ (some (.tup,.ref b,xs)) H1 s1 (λO' H' ⟨c,us,e,g1,g2⟩=>?_) (.inl r.own)⟩
  cases e
  have l1:=g2.length
  have l2:=h2.length
  have lr:xs.reverse.length=vs.length:=by rw[List.length_reverse];exact l2.symm
  refine⟨λi hi=>⟨us,g1,by lia,by lia⟩,λi y RK d ⟨e,hy⟩ hd=>?_,lr⟩
  subst e
  have hi:i<xs.length:=by
   have:=(WK.mp hd).1
   simpa using this
  have ey:=hy us g1
  rw[List.getElem?_reverse hi]at hd
  refine ae (g2.get hd) λv e1 e2=>?_
  have:vs.length-1-i=xs.length-1-i:=by lia
  rw[this,e1]at ey
  cases ey
  exact⟨af.refl _,e2⟩
 |_=>cases hd
end
section
variable {X:Cx}{a b c e:Expr}{es:List Expr}{pos p:Pos}{m:Bool}
def EX.ext{K:PySem.W.Frag}{O:Addr->Prop}{σ:St}{H1 H:Hp}{ρ:Env}{p:Addr}{vs:List V}(h:EX K O σ H1 ρ)(hp:H1 p=none)(s:af H1 H)(e:H p=some (.lst vs)):EX K (λa=>O a\/a=p) σ H ρ:=by
 refine⟨λa ha=>?_,λi o d hi=>?_⟩
 .rcases ha with ha|ha
  .exact ae (h.live a ha) λus q qo=>⟨us,s _ _ q,qo⟩
  .subst ha;exact⟨_,e,trivial⟩
 .refine ae (h.jB i o d hi) λv h1 h2=>⟨v,h1,?_⟩
  cases o with
  |true=>
   exact bL h2 λa e1 e2 c=>⟨a,e1,.inl e2,(c.own hp).mono s⟩
  |false=>exact(bx.own h2 hp).mono s
def wW(h:o.join=some x):o=some (some x):=by
 cases o with
 |none=>cases h
 |some y=>cases y with
  |none=>cases h
  |some z=>cases h;rfl
theorem EX.inner{K:PySem.W.Frag}{O:Addr->Prop}{σ:St}{H:Hp}{ρ:Env}(h:EX K O σ H ρ){us:List V}{ys:List D}(r:av K O H us ys)(fr:List Nat):EX K O (us.map some++iU fr σ) H (inner ys ρ fr):=by
 refine⟨h.live,λi o d' hi=>?_⟩
 unfold Py.inner at hi
 have hl:=r.length
 by_cases bQ:i<ys.length
 .rw[Xj (by simpa using bQ),WI]at hi
  obtain⟨y,e1,e2⟩:=map_some hi
  cases e2
  obtain⟨v,f1,f2⟩:=r.get e1
  exact⟨v,by rw[Xj (by simpa[hl]using bQ),WI,f1];rfl,f2⟩
 .rw[Xn (by simpa using bQ),Wr]at hi
  unfold yu at hi
  rw[WI]at hi
  refine ae (map_some hi) λi0 e0 hj=>ae (h.jB i0 o d' (wW hj)) λw h1 h2=>⟨w,?_,h2⟩
  rw[Xn (by simpa[hl]using bQ),Wr,hl]
  unfold iU
  rw[WI,e0]
  show some (σ[i0]?).join =_
  rw[h1]
  rfl
noncomputable def l6(tg:Nat)(fs:Env->Option Bool)(fe:Env->Option D)(fr:List Nat)(ρ:Env)(y:D):Option (Option D):=(aA tg y).bind λys=>(fs (inner ys ρ fr)).bind λk=>if k then(fe (inner ys ρ fr)).map some else some none
def PD(K:PySem.W.Frag)(k tg:Nat)(g:TG):Prop:=∀O x H d ys bK Q,bx K O H x d->aA tg d=some ys->(∀us,av K O H us ys->Q (us.map some++bK) H)->g x (List.replicate k none++bK) H Q
def Lk{K:PySem.W.Frag}:PD K 1 0 (b9 0):=λO x H d ys bK Q r e q=>by
 cases e
 exact q [x] (.cons r .nil)
def jW{K:PySem.W.Frag}{fr:List Nat}{fi:Env->Option (List D)}{fs:Env->Option Bool}{fe:Env->Option D}{k tg:Nat}{g:TG}(hg:PD K k tg g)(σ:St)(H:Hp)(Q:VK)
  (h:tF K (λρ=>(fi ρ).bind λxs=>if xs.length<=ba then walk (l6 tg fs fe fr ρ) xs else none) σ H Q):nR k fr (tI K true fi) g (tB K fs) (tV K false fe) σ H Q:=by
 refine c7 h λO ρ out hx hd q=>ae (bind_some hd) λxs e1 hd=>?_
 split at hd
 .rename_i hz
  refine⟨O,ρ,xs,hx,e1,λJ gf H1 s1 zo q5 p hp=>?_⟩
  have q_:=hx.mono s1
  have GY:e_ K (λa=>O a\/a=p) H1 gf:=q5.ok.own hp
  refine⟨λi m H'=>m=xs.length-i/\i<=xs.length/\af H1 H'/\∃vs ys bK,H' p=some (.lst vs)/\av K (λa=>O a\/a=p) H' vs ys/\ys.length<=i/\walk (l6 tg fs fe fr ρ) (xs.drop i)=some bK/\out=ys++bK,
   ⟨xs.length,rfl,XF _,af.upd hp,[],[],out,ag,.nil,WE _,hd,rfl⟩,?_⟩
  rintro i mm H2 ⟨rfl,hi,s2,vs,ys,bK,ep,rp,hl,hw,ho⟩
  refine cU (zo _ H2 (GY.mono s2)) λgo xV stop=>?_
  by_cases bQ:i<xs.length
  .refine .inr ⟨go i bQ,λx H3 hy=>?_⟩
   have PF:xs[i]?=some xs[i]:=by simp[bQ]
   obtain⟨s3,rx⟩:=xV i x H3 _ hy PF
   have Ll:H3 p=some (.lst vs):=s3 _ _ ep
   have PH:EX K (λa=>O a\/a=p) σ H3 ρ:=q_.ext hp (s2.trans s3) Ll
   have dr:xs.drop i=xs[i]::xs.drop (i+1):=(Xs bQ)
   rw[dr,walk]at hw
   have ht:l6 tg fs fe fr ρ xs[i]=(aA tg xs[i]).bind λys=>(fs (Py.inner ys ρ fr)).bind λk=>if k then(fe (Py.inner ys ρ fr)).map some else some none:=rfl
   rw[ht]at hw
   cases PJ:aA tg xs[i]with
   |none=>rw[PJ]at hw;cases hw
   |some zs=>
   rw[PJ,X1]at hw
   refine hg _ x H3 _ zs _ _ rx PJ λus Uq=>?_
   have Lm:=PH.inner Uq fr
   cases ek:fs (Py.inner zs ρ fr)with
   |none=>rw[ek]at hw;cases hw
   |some k=>
    rw[ek]at hw
    refine⟨_,_,k,Lm,ek,λH4 s4=>?_⟩
    have RL:H4 p=some (.lst vs):=s4 _ _ Ll
    cases k with
    |false=>
     refine m_ ⟨xs.length-(i+1),by omega,rfl,bQ,(s2.trans s3).trans s4,vs,ys,bK,RL,rp.mono (s3.trans s4),Nat.le_succ_of_le hl,?_,ho⟩
     simpa using hw
    |true=>
     cases ee:fe (Py.inner zs ρ fr)with
     |none=>rw[X1,WO rfl,ee]at hw;cases hw
     |some d=>
      rw[X1,WO rfl,ee]at hw
      simp only[YZ]at hw
      refine ae (map_some hw) λzp uT Ln=>lH ⟨_,_,d,Lm.mono s4,ee,λv H5 s5 r5=>?_⟩
      have RM:H5 p=some (.lst vs):=s5 _ _ RL
      have Ur:af H1 H5:=((s2.trans s3).trans s4).trans s5
      refine⟨vs,xs.length-(i+1),RM,by rw[rp.length,cQ];omega,by omega,rfl,bQ,λbb oo eb=>?_,vs++[v],ys++[d],zp,ag,?_,?_,uT,?_⟩
      .rw[ao (b6 eb hp)];exact Ur _ _ eb
      .exact((rp.mono ((s3.trans s4).trans s5)).append (.cons r5.own .nil)).upd (.inr rfl) RM trivial
      .rw[WC,WR];omega
      .rw[ho,<-Ln,WZ];rfl
  .have ei:i=xs.length:=by omega
   subst ei
   refine .inl ⟨stop,?_⟩
   rw[Z8,walk]at hw
   cases hw
   rw[W9]at ho
   subst ho
   have Us:H p=none:=by
    cases z:H p with
    |none=>rfl
    |some o=>rw[s1 _ _ z]at hp;cases hp
   let H0:Hp:=λb=>if b=p then none else H2 b
   have e0:L2.upd H0 p (.lst vs)=H2:=by
    funext b
    unfold L2.upd
    by_cases hb:b=p
    .rw[WO hb,hb,ep]
    .rw[WV hb];exact WV hb
   have k0:∀b,b≠p->H0 b=H2 b:=λb hb=>WV hb
   rw[<-e0]
   refine q p vs H0 (λb o eb=>?_) (WO rfl) ?_
   .rw[k0 b (λz=>by rw[z,Us]at eb;cases eb)]
    exact s2 _ _ (s1 _ _ eb)
   .refine eZ (λb us hb=>?_) (λb us hb nb=>⟨?_,λz=>nb (Or.inl z)⟩) (λb o u hb=>by rw[k0 b (fR hb ep (by intro z;cases z))];exact hb) rp
    .have jH:H2 b=some (.tup us):=hb
     show H0 b=some (.tup us)
     rw[k0 b (fR jH ep (by intro z;cases z))];exact jH
    .rcases hb with hb|⟨u,hb⟩
     .exact .inl (by rw[k0 b (λz=>nb (.inr z))];exact hb)
     .exact .inr ⟨u,by rw[k0 b (λz=>nb (.inr z))];exact hb⟩
 .cases hd
def M':lJ 1 (b9 0):=λx σ H Q h=>⟨h,Xm ..,λi hi=>by rw[WT (by omega)]⟩
def GZ(hi:PI X (.Name x q) iter (tI X.K true fi))(S:F8 X.N X.env.scope sc N' 1 fr)(hc:X.calm=true)
  (xG:∀cl C aa s H ex,PG (hJ X sc cl C N' aa s H ex) (.Name x q) (b9 0)/\wq (hJ X sc cl C N' aa s H ex) ifs (tB X.K fs)/\PE (hJ X sc cl C N' aa s H ex) cD (tV X.K false fe))
  (hs:∀x,foldedSetIterable iter X.env x=pure x):PE X (.ListComp cD [⟨.Name x q,iter,ifs,0⟩] sc pos) (tF X.K λρ=>(fi ρ).bind λxs=>if xs.length<=ba then walk (l6 0 fs fe fr ρ) xs else none):=
 (oX hi S hc M' xG hs).weak λσ H Q h=>jW Lk σ H Q h
def zq:wq X [] (tB X.K λ_=>some true):=λaa s σ H Q I zz=>by
 refine au λnO=>c7 zz λO ρ k hx hd q=>?_
 cases hd
 exact nO<|BL aa s σ H Q I (q H (af.refl _))
def CF{f:Env->Option D}{g:Env->Option Bool}(h:PT X c (tB X.K λρ=>(f ρ).bind f6))(hr:wq X es (tB X.K g)):wq X (c::es) (tB X.K λρ=>((f ρ).bind f6).bind λx=>if x=true then g ρ else some x):=λaa s σ H Q I zz=>by
 refine c7 zz λO ρ k hx hd q=>ae (bind_some hd) λx e1 hd=>ym h hr aa s σ H Q I ⟨O,ρ,x,hx,e1,λH1 s1=>?_⟩
 cases x with
 |true=>exact lH ⟨O,ρ,k,hx.mono s1,by rw[WO rfl]at hd;exact hd,λH2 s2=>q H2 (s1.trans s2)⟩
 |false=>rw[WV Wt]at hd;cases hd;exact m_ (q H1 s1)
end
abbrev GT:=List Str×List (Str×Int)
noncomputable def kH(sc:Scope)(x:Str):Bool:=match sc.names.lookup x with|some .local =>true|some .cell =>true|some .free =>true|_=>false
noncomputable def eJ(sc:Scope)(x:Str):Bool:=match sc.names.lookup x with|some .globalImplicit =>true|_=>false
noncomputable def qa(x:Str):Bool:=!(x==("__debug__":Str))&&!(x==("__classdict__":Str))
noncomputable def aW:Expr->Bool| .Starred _ _=>false|_=>true
noncomputable def cf:Expr->Bool| .Slice _ _ _ _=>false|_=>true
noncomputable def eK:Expr->Bool| .Set _ _ _=>false|_=>true
noncomputable def tM:Expr->Bool| .Name _ _=>true| .Subscript _ _ _=>true| .Constant _ _ _=>true|_=>false
noncomputable def RN:Const->Bool| .int i=>decide (i=1)|_=>false
noncomputable def RO:D->Const->Bool
 | .fC,.none =>true
 | .bl b,.bool c=>b==c
 | .int i,.int j=>decide (i=j)
 |_,_=>false
noncomputable def Lp(G:GT)(x:Str):D->Bool| .int i=>decide ((x,i)∈G.2)|_=>false
noncomputable def eC(sc yo:Scope):Scope:={sc with names:=sc.names.map λ(n,k)=>if(k == .free&&yo.kind == .function&&yo.names.lookup n==some .cell) then(n,.cell) else(n,k)}
noncomputable def jC(N:List Str)(xs:List Str)(fr:List Nat):List Str:=xs++fr.map λi=>N.getD i ""
noncomputable def pN(N:List Str)(yo sc:Scope)(xs:List Str)(fr:List Nat):Bool:=
 decide (sc.kind= .function)&&sc.names.all (λy=>decide (y.2= .free ->(y.1,NameKind.cell)∉sc.names))&&sc.names.all (λy=>decide (y.2= .local ->sc.names.lookup y.1=some .local)) &&
 sc.names.all (λy=>decide (y.2= .free ->yo.names.lookup y.1=some .cell \/yo.names.lookup y.1=some .free)) &&
 fr.all (λi=>match N[i]? with|some y=>decide (sc.names.lookup y=some .free)|none=>false)&&xs.all (λx=>decide (sc.names.lookup x=some .local \/sc.names.lookup x=some .cell))&&decide (jC N xs fr).Nodup
noncomputable def G0(_:E):Bool:=true
noncomputable def fresh:E->Bool
 | .lst _=>true
 | .comp _ _ _ _ _=>true
 | .lM _ _ _ _=>true
 | .bin .Add _ _=>true
 | .prim .list _=>true
 | .iW .list _=>true
 | .sl _ _ _=>true
 |_=>false
noncomputable def cF(N:List Str)(sc:Scope)(i:Nat)(e:Expr):Bool:=match e with| .Name x _=>decide (N[i]?=some x)&&kH sc x&&qa x|_=>false
noncomputable def jk(e:Expr)(k:Str->Expr->Bool):Bool:=match e with
 | .Call fn args dj _=>match fn,args,dj with
  | .Name x _,[a0],[]=>k x a0
  |_,_,_=>false
 |_=>false
noncomputable def rf(e:Expr)(k:Str->Bool):Bool:=match e with| .Name x _=>k x|_=>false
noncomputable def G6(e:Expr)(k:Str->Str->Bool):Bool:=match e with
 | .Tuple es _ _=>match es with
  |[a,b]=>rf a λx=>rf b λy=>k x y
  |_=>false
 |_=>false
mutual
noncomputable def bE(G:GT):E->List Str->Scope->Expr->Bool
 | .var i,N,sc,e=>match e with| .Name x _=>decide (N[i]?=some x)&&kH sc x&&qa x|_=>false
 | .c d,_,sc,e=>match e with| .Constant c _ _=>RO d c| .Name x _=>eJ sc x&&qa x&&Lp G x d|_=>false
 | .bin o a b,N,sc,e=>match e with| .BinOp l op r _=>decide (o=op)&&bE G a N sc l&&bE G b N sc r|_=>false
 | .cmp o a b,N,sc,e=>match e with
  | .Compare l ops rs _=>match ops,rs with
   |[op],[r]=>decide (o=op)&&bE G a N sc l&&bE G b N sc r&&eK r
   |_,_=>false
  |_=>false
 | .wu k es,N,sc,e=>match e with| .BoolOp op vs _=>decide (op=bo k)&&!vs.isEmpty&&jl G es N sc vs|_=>false
 | .tup es,N,sc,e=>match e with| .Tuple xs _ _=>cN G es N sc xs|_=>false
 | .lst es,N,sc,e=>match e with| .List xs _=>cN G es N sc xs|_=>false
 | .idx a i,N,sc,e=>match e with| .Subscript v s _=>bE G a N sc v&&bE G i N sc s&&cf s|_=>false
 | .sl a lo hi,N,sc,e=>match e with
  | .Subscript v s _=>match s with
   | .Slice l h st _=>st.isNone&&bE G a N sc v&&EI G lo N sc l&&EI G hi N sc h
   |_=>false
  |_=>false
 | .call f es,N,sc,e=>match e with
  | .Call fn args dj _=>match fn,args,dj with
   | .Name x _,a0::ar,[]=>decide (G.1[f]?=some x)&&eJ sc x&&qa x&&cN G es N sc (a0::ar)
   |_,_,_=>false
  |_=>false
 | .prim q es,N,sc,e=>match e with
  | .Call fn args dj _=>match fn,args,dj with
   | .Name x _,a0::ar,[]=>decide (x=gw q)&&eJ sc x&&cN G es N sc (a0::ar)
   |_,_,_=>false
  |_=>false
 | .iW q es,N,sc,e=>jk e λx ar=>jk ar λy a0=>(decide (q= .list)||decide (q= .tuple))&&decide (x=gw q)&&decide (y="range")&&eJ sc x&&eJ sc y&&cN G es N sc [a0]
 | .eQ mm o es,N,sc,e=>match e with
  | .Call fn args dj cp=>match fn,args,dj with
   | .Attribute oe nm ap,[a0],[]=>decide (nm="index")&&tM oe&&(ap.endLine==cp.line)&&bE G o N sc oe&&cN G es N sc [a0]
   |_,_,_=>false
  |_=>false
 | .comp fr tg it ifs cD,N,sc,e=>match e with
  | .ListComp el gens dP _=>match gens with
   |[⟨mS,iter,fs,k⟩]=>match mS with
    | .Name x _=>decide (tg=0)&&decide (k=0)&&eK iter&&pN N sc dP [x] fr&&Bl G it N sc iter&&jl G ifs (jC N [x] fr) (eC dP sc) fs&&bE G cD (jC N [x] fr) (eC dP sc) el
    |_=>false
   |_=>false
  |_=>false
 | .du i k,N,sc,e=>match e with| .Subscript v s _=>cF N sc i v&&bE G k N sc s&&cf s|_=>false
 | .qu neg k i,N,sc,e=>match e with
  | .Compare l ops rs _=>match ops,rs with
   |[op],[r]=>decide (op=if neg then .NotIn else .In)&&bE G k N sc l&&cF N sc i r
   |_,_=>false
  |_=>false
 | .dm i,N,sc,e=>jk e λx a0=>decide (x="sorted")&&eJ sc x&&cF N sc i a0
 | .sset a,N,sc,e=>jk e λx ar=>jk ar λy a0=>decide (x="sorted")&&decide (y="set")&&eJ sc x&&eJ sc y&&bE G a N sc a0&&aW a0
 | .lM fr a ifs cD,N,sc,e=>match e with
  | .ListComp el gens dP _=>match gens with
   |[⟨mS,iter,fs,k⟩]=>G6 mS λx y=>jk iter λf a0=>decide (k=0)&&decide (f="enumerate")&&eJ sc f&&pN N sc dP [x,y] fr&&bE G a N sc a0&&aW a0&&jl G ifs (jC N [x,y] fr) (eC dP sc) fs&&bE G cD (jC N [x,y] fr) (eC dP sc) el
   |_=>false
  |_=>false
 |_,_,_,_=>false
noncomputable def cN(G:GT):E->List Str->Scope->List Expr->Bool
 | .nil,_,_,es=>es.isEmpty
 | .cons a r,N,sc,es=>match es with|e::es=>bE G a N sc e&&aW e&&cN G r N sc es|[]=>false
 |_,_,_,_=>false
noncomputable def jl(G:GT):E->List Str->Scope->List Expr->Bool
 | .nil,_,_,es=>es.isEmpty
 | .cons a r,N,sc,es=>match es with|e::es=>bE G a N sc e&&G0 a&&jl G r N sc es|[]=>false
 |_,_,_,_=>false
noncomputable def EI(G:GT):E->List Str->Scope->Option Expr->Bool
 | .nil,_,_,o=>o.isNone
 | .cons a _,N,sc,o=>match o with|some e=>bE G a N sc e|none=>false
 |_,_,_,_=>false
noncomputable def Bl(G:GT):E->List Str->Scope->Expr->Bool
 | .c8 es,N,sc,e=>match e with
  | .Call fn args dj _=>match fn,dj with
   | .Name x _,[]=>decide (x="range")&&eJ sc x&&decide (args.length=1)&&cN G es N sc args
   |_,_=>false
  |_=>false
 | .it a,N,sc,e=>bE G a N sc e
 | .dk i,N,sc,e=>cF N sc i e
 | .dv i,N,sc,e=>match e with
  | .Call fn args dj cp=>match fn,args,dj with
   | .Attribute oe nm ap,[],[]=>decide (nm="values")&&cF N sc i oe&&(ap.endLine==cp.line)
   |_,_,_=>false
  |_=>false
 | .En a,N,sc,e=>jk e λx a0=>decide (x="reversed")&&eJ sc x&&bE G a N sc a0&&aW a0
 |_,_,_,_=>false
end
def bN(h:aW e=true):starEach (e::es) env=(false,eval e env)::starEach es env:=by
 cases e<;>first|rfl|exact absurd h Wt
theorem gC:∀{es:List Expr},es.all aW=true->(backTo pos (starEach es env)).any (·.1)=false
 |[],_=>rfl
 |e::es,h=>by
  rw[Yw,Ws]at h
  rw[bN h.1]
  show(false||(backTo pos (starEach es env)).any (·.1))=false
  rw[gC h.2]
  rfl
def jm:∀{e':E}{N:List Str}{sc:Scope}{es:List Expr},cN G e' N sc es=true->es.all aW=true:=λ{e'}=>by
 induction e' with
 |nil=>
  intro N sc es h
  rw[cN]at h
  cases es with
  |nil=>rfl
  |cons _ _=>cases h
 |cons a r _ ih=>
  intro N sc es h
  cases es with
  |nil=>rfl
  |cons e es=>
   rw[cN]at h
   simp only[Ws]at h
   rw[Yw,Ws]
   exact⟨h.1.2,ih h.2⟩
 |_=>intro N sc es h;exact absurd (show false=true from h) Wt
def zr:∀{e':E},kz ρ e'=false->cv F true e' ρ=cv F false e' ρ:=λ{e'}=>by
 induction e' with
 |nil=>intro _;rfl
 |cons a r _ ih=>
  intro h
  have hr:kz ρ r=false:=by
   cases a<;>first|exact h|(simp only[kz,aao]at h;exact h.2)
  have ha:ev F true a ρ=ev F false a ρ:=by
   cases a with
   |var i=>
    simp only[kz,aao]at h
    show rd true ρ i=rd false ρ i
    unfold rd
    have h1:=h.1
    unfold kM at h1
    cases e:ρ[i]? with
    |none=>rfl
    |some o=>
     cases o with
     |none=>rfl
     |some t=>
      obtain⟨o,d⟩:=t
      rw[e]at h1
      have PK:o=false:=h1
      subst PK
      rfl
   |_=>rfl
  show(ev F true a ρ).bind _=(ev F false a ρ).bind _
  rw[ha,ih hr]
 |_=>intro _;rfl
noncomputable def ig:List Str:=["len","tuple","list","min","sorted","range","enumerate","reversed","all","set"]
structure Ct(X:Cx)(G:GT)(F:FT):Prop where
 calm:X.calm=true
 units:X.A.units+64<cLine
 mg:∀x∈ig,X.mg x=none
 cst:∀(x:Str) (i:Int),(x,i)∈G.2->∃t,X.mg x=some (.int i t)
 call:∀(f:Nat) (x:Str),G.1[f]?=some x->∃(k:Nat) (fa:Addr) (fd:FuncData) (ps:List Str),iP X.prog X.w X.K X.mg X.base wm k fa fd ps (uQ X.K ps.length (F f))/\eG k X.A/\X.mg x=some (.ref fa)/\PySem.W.keepIn X.K (.ref fa)=true/\Binds X.K fd ps []/\∀ds d,F f ds=some d->ds.length=ps.length
def Ct.inner{X:Cx}{G:GT}{F:FT}(h:Ct X G F)(sc:Scope)(cl:List (Str×Addr))(C:Addr)(N:List Str)(aa:List (Addr×Obj))(s:Shared)(H:Hp)(ex:List Addr):Ct (hJ X sc cl C N aa s H ex) G F:=⟨h.calm,h.units,h.mg,h.cst,h.call⟩
noncomputable def fW:D->Option (List D)
 | .lst ds=>some ds
 |_=>none
structure cw(G:GT)(F:FT)(e':E):Prop where
 e:∀X,Ct X G F->∀x,bE G e' X.N X.env.scope x=true->∀m,PE X x (tV X.K m (ev F m e'))
 t:∀X,Ct X G F->∀x,bE G e' X.N X.env.scope x=true->G0 e'=true->PT X x (tB X.K λρ=>(ev F false e' ρ).bind f6)
 f:∀X,Ct X G F->∀x,bE G e' X.N X.env.scope x=true->fresh e'=true->PE X x (tF X.K λρ=>(ev F false e' ρ).bind fW)
 es:∀X,Ct X G F->∀xs,cN G e' X.N X.env.scope xs=true->∀m,PA X xs (tH X.K m (cv F m e'))
 ts:∀X,Ct X G F->∀xs,jl G e' X.N X.env.scope xs=true->wq X xs (tB X.K (fG F true e'))/\
  (xs≠[]->∀k pos,(∀m,PE X (.BoolOp (bo k) xs pos) (tV X.K m λρ=>(fG F k e' ρ).map .bl))/\PW X (.BoolOp (bo k) xs pos) (tB X.K (fG F k e')))
 o:∀X,Ct X G F->∀x,EI G e' X.N X.env.scope x=true->PO X x (tO X.K (Ep F e'))
 i:∀X,Ct X G F->∀tg x,Bl G e' X.N X.env.scope x=true->∀m,PI X tg x (tI X.K m (kA F m e'))
def jX{sc:Scope}{x:Str}(h:kH sc x=true):vX sc x:=by
 unfold kH at h
 split at h
 .rename_i e;exact .inl e
 .rename_i e;exact .inr (.inl e)
 .rename_i e;exact .inr (.inr e)
 .cases h
def dQ{X:Cx}{x:Str}(h:eJ X.env.scope x=true):Gl X x:=by
 unfold eJ at h
 split at h
 .rename_i e;exact e
 .cases h
def gD{X:Cx}{sc:Scope}{cl:List (Str×Addr)}{C:Addr}{N:List Str}{aa:List (Addr×Obj)}{s:Shared}{H:Hp}{ex:List Addr}(h:L2.Loc sc x):L2.Loc (hJ X sc cl C N aa s H ex).env.scope x/\((hJ X sc cl C N aa s H ex).fn x=true\/(hJ X sc cl C N aa s H ex).env.scope.names.lookup x=some .local):=by
 show L2.Loc (relabel sc X.env) x/\(_\/(relabel sc X.env).names.lookup x=some .local)
 unfold L2.Loc
 rw[show(relabel sc X.env).names.lookup x=_ from MU]
 rcases h with h|h<;>rw[h]
 .exact⟨.inl rfl,.inr rfl⟩
 .exact⟨.inr rfl,.inl (decide_eq_true (Xl h))⟩
def cA{x:Str}(h:qa x=true):(x==("__debug__":Str))=false/\(x==("__classdict__":Str))=false:=by
 unfold qa at h
 simpa using h
def cR{e:Expr}{env:PySem.Env}(h:eK e=true):∀x,foldedSetIterable e env x=pure x:=by
 intro x
 cases e<;>first|rfl|exact absurd h Wt
def om{e:Expr}{op:CmpOp}(h:eK e=true):behindInMarks op e=false:=by
 cases e<;>first|rfl|exact absurd h Wt
def l7{e:Expr}(h:cf e=true):oS e:=by
 intro o i
 cases e<;>first|rfl|exact absurd h Wt
def dR(h:jk e k=true):∃x q a p,e= .Call (.Name x q) [a] [] p/\k x a=true:=by
 cases e with
 |Call fn args dj p=>
  change (match (generalizing:=false) fn,args,dj with
  | .Name x _,[a0],[]=>k x a0
  |_,_,_=>false)=true at h
  split at h
  .exact⟨_,_,_,_,rfl,h⟩
  .cases h
 |_=>exact absurd (show false=true from h) Wt
def rg(h:rf e k=true):∃x q,e= .Name x q/\k x=true:=by
 cases e with
 |Name x q=>exact⟨x,q,rfl,h⟩
 |_=>exact absurd (show false=true from h) Wt
def CG(h:G6 e k=true):∃x q y r c p,e= .Tuple [.Name x q,.Name y r] c p/\k x y=true:=by
 cases e with
 |Tuple es c p=>
  change (match (generalizing:=false) es with
  |[a,b]=>rf a λx=>rf b λy=>k x y
  |_=>false)=true at h
  split at h
  .obtain⟨x,q,e1,h1⟩:=rg h
   obtain⟨y,r,e2,h2⟩:=rg h1
   exact⟨_,_,_,_,_,_,by rw[e1,e2],h2⟩
  .cases h
 |_=>exact absurd (show false=true from h) Wt
def l9{N:List Str}{yo sc:Scope}{xs:List Str}{fr:List Nat}(h:pN N yo sc xs fr=true):F8 N yo sc (jC N xs fr) xs.length fr/\(∀x∈xs,L2.Loc sc x)/\(jC N xs fr).Nodup :=by
 unfold pN at h
 simp only[Ws,decide_eq_true_eq,Xw]at h
 refine au λnO=>?_
 obtain⟨⟨⟨⟨⟨⟨h1,h2⟩,h3⟩,h4⟩,h5⟩,h6⟩,h7⟩:=h
 refine nO ?_
 refine⟨⟨h1,h2,h3,h4,?_,λj y e=>?_⟩,h6,h7⟩
 .unfold jC;rw[WC,Wr]
 .have e':(fr.map λi=>N.getD i "")[j]?=some y:=by
   unfold jC at e
   rwa [Xn (Nat.le_add_right _ _),Nat.add_sub_cancel_left]at e
  rw[WI]at e'
  refine ae (map_some e') λi f1 f2=>?_
  have Na:=h5 i (XE f1)
  cases q:N[i]? with
  |none=>rw[q]at Na;cases Na
  |some z=>
   rw[q]at Na
   have ez:N.getD i ""=z:=by rw[Wz,q];rfl
   rw[ez]at f2
   subst f2
   exact⟨i,f1,q,by simpa using Na⟩
def rh{X:Cx}{d:D}{c:Const}{j:Nat}{pos:Pos}(h:RO d c=true)(m:Bool):PE X (.Constant c j pos) (tV X.K m λ_=>some d):=by
 cases d with
 |fC=>
  cases c with
  |none=>exact M9 (t:=tC .fC) Fm λ_ _ _=> .fC
  |_=>exact absurd h Wt
 |bl b=>
  cases c with
  |bool b'=>
   have e:b=b':=eq_of_beq h
   subst e
   exact M9 (t:=tC .fC) Jn λ_ _ _=> .bl _
  |_=>exact absurd h Wt
 |int i=>
  cases c with
  |int i'=>
   have e:i=i':=of_decide_eq_true h
   subst e
   exact M9 (t:=tC .fC) Fl λ_ _ _=> .int _
  |_=>exact absurd h Wt
 |tup _=>exact absurd h (by cases c<;>exact Wt)
 |lst _=>exact absurd h (by cases c<;>exact Wt)
 |bM _ _ _=>exact absurd h (by cases c<;>exact Wt)
def zu{K:PySem.W.Frag}{m:Bool}{f g:Env->Option D}(h:∀ρ,f ρ=g ρ):tV K m f=tV K m g:=by rw[show f=g from funext h]
def rj{K:PySem.W.Frag}{f g:Env->Option (List D)}(h:∀ρ,f ρ=g ρ):tF K f=tF K g:=by rw[show f=g from funext h]
def fL{X:Cx}{e:Expr}{f:Env->Option D}(m:Bool)(h:PE X e (tF X.K λρ=>(f ρ).bind fW))(hf:∀ρ d,f ρ=some d->∃ds,d= .lst ds):PE X e (tV X.K m f):=
 Cy h λρ d hd=>by
  obtain⟨ds,rfl⟩:=hf ρ d hd
  exact⟨ds,by rw[hd];rfl,rfl⟩
def CH{F:FT}{es:E}{N:List Str}{sc:Scope}{G:GT}{a0:Expr}(h:cN G es N sc [a0]=true):∃a,es= .cons a .nil /\bE G a N sc a0=true/\aW a0=true:=by
 cases es with
 |cons a r=>
  rw[cN]at h
  simp only[Ws]at h
  cases r with
  |nil=>exact⟨a,rfl,h.1.1,h.1.2⟩
  |cons b r=>exact absurd h.2 Wt
  |_=>exact absurd h.2 Wt
 |nil=>exact absurd h Wt
 |_=>exact absurd h Wt
def zw{F:FT}{es:E}{N:List Str}{sc:Scope}{G:GT}{a0 b0:Expr}(h:cN G es N sc [a0,b0]=true):∃a b,es= .cons a (.cons b .nil)/\bE G a N sc a0=true/\aW a0=true/\bE G b N sc b0=true/\aW b0=true:=by
 cases es with
 |cons a r=>
  rw[cN]at h
  simp only[Ws]at h
  refine bL (CH (F:=F) h.2) λb aj h1 h2=>?_
  subst aj
  exact⟨a,b,rfl,h.1.1,h.1.2,h1,h2⟩
 |nil=>exact absurd h Wt
 |_=>exact absurd h Wt
def pO:∀{es:E}{N:List Str}{sc:Scope}{xs:List Expr}{ds:List D},cN G es N sc xs=true->cv F m es ρ=some ds->ds.length=xs.length:=λ{es}=>by
 induction es with
 |nil=>
  intro N sc xs ds h hd
  cases xs with
  |nil=>cases hd;rfl
  |cons _ _=>exact absurd h Wt
 |cons a r _ ih=>
  intro N sc xs ds h hd
  cases xs with
  |nil=>exact absurd h Wt
  |cons x xs=>
   rw[cN]at h
   simp only[Ws]at h
   refine ae (bind_some (show(ev F m a ρ).bind _=_ from hd)) λd _ hd=>ae (bind_some hd) λK6 h2 hd=>?_
   cases hd
   rw[WM,WM,ih h.2 h2]
 |_=>intro N sc xs ds h hd;exact absurd (show false=true from h) Wt
section
variable {X:Cx}{a b c e:Expr}{es:List Expr}{pos p:Pos}{m:Bool}
def zx(hc:X.calm=true)(hg:Gl X "range")(hm:X.mg "range"=none)(Lh:Gl X "list")(El:X.mg "list"=none)(ha:PA X [a] (tH X.K false g))(hl:∀ρ ds,g ρ=some ds->ds.length=1)(hs:starEach [a] X.env=[(false,eval a X.env)]):
  PE X (.Call (.Name "list" q1) [.Call (.Name "range" p) [a] [] pos] [] qj) (tF X.K λρ=>(g ρ).bind cM):=by
 have h1:=uS (p:=p) (pos:=pos) hg hm ha hs
 refine PE.weak (dB (tK hc) Lh El boot_list (cb h1 c_ rfl) (by decide) (by decide) rfl rfl) λσ H Q zz=>c7 zz λO ρ ds hx hd q=>ae (bind_some hd) λxs e1 hd=>?_
 have vY:=hl ρ xs e1
 refine⟨O,ρ,xs,hx,e1,λvs H1 s1 r=>?_⟩
 cases xs with
 |nil=>cases vY
 |cons x t=>
  cases t with
  |cons _ _=>cases vY
  |nil=>
   refine ae (cK r) λv aj rv=>?_
   subst aj
   cases x with
   |int n=>
    change (if -(2 ^ 62)<=n/\n<=ba then some (bB 0 (n).toNat) else none)=some _ at hd
    split at hd
    .rename_i hz
     cases hd
     cases rv.int
     exact⟨n,rfl,λp hp=>⟨p,n,rfl,ag,hz,λl hl=>q l _ _ (s1.trans (af.upd hp)) hl (jU _ _)⟩⟩
    .cases hd
   |_=>cases hd
def Lq(hg:Gl X "range")(hm:X.mg "range"=none)(ha:PA X es (tH X.K false g))(hl:∀ρ ds,g ρ=some ds->ds.length=es.length)(Nb:es.length=1)(hs:es.all aW=true):
  PI X tg (.Call (.Name "range" p) es [] pos) (tI X.K m λρ=>(g ρ).bind cM):=by
 intro aa s σ H R I ⟨O,ρ,ds,hx,hd,q⟩
 refine ae (bind_some hd) λxs e1 hd=>?_
 have vY:=hl ρ xs e1
 have dO:ba=16777216:=rfl
 cases es with
 |nil=>simp at Nb
 |cons a t=>
  rw[Yw,Ws]at hs
  cases t with
  |nil=>
   refine v_ hg hm ha (bN hs.1) aa s σ H R I ⟨O,ρ,xs,hx,e1,λvs H1 s1 r=>?_⟩
   cases xs with
   |nil=>cases vY
   |cons x t=>
    cases t with
    |cons _ _=>cases vY
    |nil=>
     refine ae (cK r) λv aj rv=>?_
     subst aj
     cases x with
     |int n=>
      change (if -(2 ^ 62)<=n/\n<=ba then some (bB 0 (n).toNat) else none)=some _ at hd
      split at hd
      .rename_i hz
       cases hd
       cases rv.int
       exact⟨n,rfl,by lia,by lia,q _ none H1 s1 GX trivial⟩
      .cases hd
     |_=>cases hd
  |cons b t=>simp at Nb
end
section
variable {G:GT}{F:FT}
def cw.gE(e:∀X,Ct X G F->∀x,bE G e' X.N X.env.scope x=true->∀m,PE X x (tV X.K m (ev F m e')))
  (t:∀X,Ct X G F->∀x,bE G e' X.N X.env.scope x=true->G0 e'=true->PT X x (tB X.K λρ=>(ev F false e' ρ).bind f6))
  (f:∀X,Ct X G F->∀x,bE G e' X.N X.env.scope x=true->fresh e'=true->PE X x (tF X.K λρ=>(ev F false e' ρ).bind fW))
  (n1:∀N sc xs,cN G e' N sc xs=false:=by intro _ _ _;rfl) (n2:∀N sc xs,jl G e' N sc xs=false:=by intro _ _ _;rfl) (n3:∀N sc xs,EI G e' N sc xs=false:=by intro _ _ _;rfl) (n4:∀N sc xs,Bl G e' N sc xs=false:=by intro _ _ _;rfl):cw G F e':=
 ⟨e,t,f,λX _ xs h=>absurd h (by rw[n1];exact Wt),λX _ xs h=>absurd h (by rw[n2];exact Wt),λX _ xs h=>absurd h (by rw[n3];exact Wt),λX _ tg xs h=>absurd h (by rw[n4];exact Wt)⟩
def ff{P:Prop}(h:false=true):P:=absurd h Wt
def CI:cw G F .nil where
 e:=λX hC x h=>ff h
 t:=λX hC x h=>ff h
 f:=λX hC x h=>ff h
 es:=λX hC xs h m=>by
  cases xs with
  |nil=>exact Ld
  |cons _ _=>exact ff h
 ts:=λX hC xs h=>by
  cases xs with
  |nil=>exact⟨zq,λz=>absurd rfl z⟩
  |cons _ _=>exact ff h
 o:=λX hC x h=>by
  cases x with
  |none=>exact GL
  |some _=>exact ff h
 i:=λX hC tg x h=>ff h
def zy{a r:E}(ha:cw G F a)(hr:cw G F r):cw G F (.cons a r) where
 e:=λX hC x h=>ff h
 t:=λX hC x h=>ff h
 f:=λX hC x h=>ff h
 es:=λX hC xs h m=>by
  cases xs with
  |nil=>exact ff h
  |cons x xs=>
   rw[cN]at h
   simp only[Ws]at h
   exact GK (ha.e X hC x h.1.1 m) (hr.es X hC xs h.2 m) (bN h.1.2)
 ts:=λX hC xs h=>by
  cases xs with
  |nil=>exact ff h
  |cons x xs=>
   rw[jl]at h
   simp only[Ws]at h
   have t1:=ha.t X hC x h.1.1 h.1.2
   have e1:=ha.e X hC x h.1.1 false
   have t2:=hr.ts X hC xs h.2
   refine⟨CF t1 t2.1,λ_ k pos=>?_⟩
   cases xs with
   |nil=>
    have er:∀ρ,fG F k r ρ=some k:=by
     cases r with
     |nil=>intro ρ;rfl
     |cons _ _=>exact ff h.2
     |_=>exact ff h.2
    have eq:∀ρ,fG F k (.cons a r) ρ=((ev F false a ρ).bind f6).bind λx=>if x=k then some k else some x:=λρ=>by
     show((ev F false a ρ).bind f6).bind _=_
     congr 1
     funext x
     rw[er ρ]
    refine⟨λm=>?_,?_⟩
    .rw[zu λρ=>congrArg (Option.map D.bl) (eq ρ)]
     exact GI e1
    .rw[show(fG F k (.cons a r))=λρ=>((ev F false a ρ).bind f6).bind λx=>if x=k then some k else some x from funext eq]
     exact GJ t1
   |cons y ys=>
    have t3:=t2.2 (by simp) k pos
    exact⟨λm=>Lb e1 (t3.1 false),Lc t1 t3.2⟩
 o:=λX hC x h=>by
  cases x with
  |none=>exact ff h
  |some x=>exact GN (ha.e X hC x h false)
 i:=λX hC tg x h=>ff h
def CJ{i:Nat}:cw G F (.var i):=by
 have e:∀X,Ct X G F->∀x,bE G (.var i) X.N X.env.scope x=true->∃n p,x= .Name n p/\∀m,PE X x (tV X.K m (ev F m (.var i))):=λX hC x h=>by
  cases x with
  |Name n p=>
   change (decide (X.N[i]?=some n)&&kH X.env.scope n&&qa n)=true at h
   simp only[Ws,decide_eq_true_eq]at h
   exact⟨n,p,rfl,λm=>v_var h.1.1 (jX h.1.2) (cA h.2).1 (cA h.2).2⟩
  |_=>exact ff h
 refine .gE (λX hC x h m=>?_) (λX hC x h _=>?_) (λX hC x h z=>ff z)
 .refine ik (e X hC x h) λn p aj k=>?_
  subst aj
  exact k m
 .refine ik (e X hC x h) λn p aU k=>?_
  subst aU
  exact cZ (k false) λ_=>rfl
def uU{X:Cx}{d:D}{x:Str}{p:Pos}(hC:Ct X G F)(h:(eJ X.env.scope x&&qa x&&Lp G x d)=true)(m:Bool):PE X (.Name x p) (tV X.K m λ_=>some d):=by
 simp only[Ws]at h
 obtain⟨⟨h1,h2⟩,h3⟩:=h
 cases d with
 |int i=>
  obtain⟨t,e⟩:=hC.cst x i (of_decide_eq_true h3)
  exact M9 (t:=tC .fC) (Bq (v:= .int i) (dQ h1) e ⟨t,rfl⟩ (cA h2).1) λ_ _ _=> .int _
 |_=>exact ff h3
def Lr{d:D}:cw G F (.c d):=by
 refine .gE (λX hC x h m=>?_) (λX hC x h _=>?_) (λX hC x h z=>ff z)
 .cases x with
  |Constant c j p=>exact rh h m
  |Name n p=>exact uU hC h m
  |_=>exact ff h
 .cases x with
  |Constant c j p=>exact cZ (rh h false) λ_=>rfl
  |Name n p=>exact cZ (uU hC h false) λ_=>rfl
  |_=>exact ff h
def CK(ha:cw G F a)(hb:cw G F b):cw G F (.bin o a b):=by
 have aK:∀X,Ct X G F->∀x,bE G (.bin o a b) X.N X.env.scope x=true->∃l r p,x= .BinOp l o r p/\PE X l (tV X.K true (ev F true a))/\PE X r (tV X.K true (ev F true b)):=λX hC x h=>by
  cases x with
  |BinOp l op r p=>
   change (decide (o=op)&&bE G a X.N X.env.scope l&&bE G b X.N X.env.scope r)=true at h
   simp only[Ws,decide_eq_true_eq]at h
   obtain⟨⟨rfl,h1⟩,h2⟩:=h
   exact⟨l,r,p,rfl,ha.e X hC l h1 true,hb.e X hC r h2 true⟩
  |_=>exact ff h
 refine .gE (λX hC x h m=>?_) (λX hC x h _=>?_) (λX hC x h z=>?_)
 .refine c7 (aK X hC x h) λl r p aj h1 h2=>?_
  subst aj
  exact EF h1 h2
 .refine c7 (aK X hC x h) λl r p aU h1 h2=>?_
  subst aU
  exact cZ (EF h1 h2) λ_=>rfl
 .refine c7 (aK X hC x h) λl r p fF h1 h2=>?_
  subst fF
  cases o with
  |Add=>exact(K8 h1 h2).weak λσ H Q q=>q
  |_=>exact ff z
def CL(ha:cw G F a)(hb:cw G F b):cw G F (.cmp o a b):=by
 have aK:∀X,Ct X G F->∀x,bE G (.cmp o a b) X.N X.env.scope x=true->∃l r p,x= .Compare l [o] [r] p/\PE X l (tV X.K true (ev F true a))/\PE X r (tV X.K true (ev F true b))/\behindInMarks o r=false:=λX hC x h=>by
  cases x with
  |Compare l ops rs p=>
   cases ops with
   |nil=>exact ff h
   |cons op ops=>
    cases ops with
    |cons _ _=>exact ff h
    |nil=>
     cases rs with
     |nil=>exact ff h
     |cons r rs=>
      cases rs with
      |cons _ _=>exact ff h
      |nil=>
       change (decide (o=op)&&bE G a X.N X.env.scope l&&bE G b X.N X.env.scope r&&eK r)=true at h
       simp only[Ws,decide_eq_true_eq]at h
       obtain⟨⟨⟨rfl,h1⟩,h2⟩,h3⟩:=h
       exact⟨l,r,p,rfl,ha.e X hC l h1 true,hb.e X hC r h2 true,om h3⟩
  |_=>exact ff h
 refine .gE (λX hC x h m=>?_) (λX hC x h _=>?_) (λX hC x h z=>ff z)
 .refine MD (aK X hC x h) λl r p aj h1 h2 h3=>?_
  subst aj
  exact K_ hC.units h1 h2 h3
 .refine MD (aK X hC x h) λl r p aU h1 h2 h3=>?_
  subst aU
  exact K' hC.units h1 h2 h3
def CM(he:cw G F es):cw G F (.wu k es):=by
 have aK:∀X,Ct X G F->∀x,bE G (.wu k es) X.N X.env.scope x=true->∃vs p,x= .BoolOp (bo k) vs p/\(∀m,PE X (.BoolOp (bo k) vs p) (tV X.K m λρ=>(fG F k es ρ).map .bl))/\PW X (.BoolOp (bo k) vs p) (tB X.K (fG F k es)):=λX hC x h=>by
  cases x with
  |BoolOp op vs p=>
   change (decide (op=bo k)&&!vs.isEmpty&&jl G es X.N X.env.scope vs)=true at h
   simp only[Ws,decide_eq_true_eq]at h
   obtain⟨⟨rfl,h1⟩,h2⟩:=h
   have hv:vs≠[]:=by rintro rfl;exact ff (by simpa using h1)
   exact⟨vs,p,rfl,(he.ts X hC vs h2).2 hv k p⟩
  |_=>exact ff h
 refine .gE (λX hC x h m=>?_) (λX hC x h _=>?_) (λX hC x h z=>ff z)
 .refine bC (aK X hC x h) λvs p aj h1 h2=>?_
  subst aj
  exact h1 m
 .refine bC (aK X hC x h) λvs p aU h1 h2=>?_
  subst aU
  refine h2.pt.weak λσ H Q ⟨O,ρ,q,hx,hd,kk⟩=>⟨O,ρ,q,hx,?_,kk⟩
  refine ae (bind_some hd) λd hd hq=>ae (map_some (show(fG F k es ρ).map D.bl=some d from hd)) λb hb fF=>?_
  subst fF
  cases hq
  exact hb
def CN(he:cw G F es):cw G F (.tup es):=by
 refine .gE (λX hC x h m=>?_) (λX hC x h _=>?_) (λX hC x h z=>ff z)
 .cases x with
  |Tuple xs k p=>exact EG (he.es X hC xs h false)
  |_=>exact ff h
 .cases x with
  |Tuple xs k p=>exact cZ (EG (he.es X hC xs h false)) λ_=>rfl
  |_=>exact ff h
def CO(he:cw G F es):cw G F (.lst es):=by
 have aK:∀X,Ct X G F->∀x,bE G (.lst es) X.N X.env.scope x=true->∃xs p,x= .List xs p/\PE X x (tF X.K λρ=>(ev F false (.lst es) ρ).bind fW):=λX hC x h=>by
  cases x with
  |List xs p=>
   refine⟨xs,p,rfl,(Le (he.es X hC xs h false)).weak λσ H Q ⟨O,ρ,ds,hx,hd,q⟩=>⟨O,ρ,ds,hx,?_,q⟩⟩
   refine ae (bind_some hd) λd hd hl=>ae (bind_some (show(cv F false es ρ).bind _=_ from hd)) λys h1 hd=>?_
   show(cv F false es ρ).bind _=_
   rw[h1]
   split at hd
   .rename_i hz
    cases hd
    cases hl
    exact WO hz
   .cases hd
  |_=>exact ff h
 have wX:∀ρ d,ev F false (.lst es) ρ=some d->∃ds,d= .lst ds:=λρ d hd=>by
  refine ae (bind_some (show(cv F false es ρ).bind _=_ from hd)) λys h1 hd=>?_
  split at hd
  .cases hd;exact⟨_,rfl⟩
  .cases hd
 refine .gE (λX hC x h m=>?_) (λX hC x h _=>?_) (λX hC x h z=>?_)
 .refine ik (aK X hC x h) λxs p aj k=>?_
  subst aj
  exact fL m k wX
 .refine ik (aK X hC x h) λxs p aU k=>?_
  subst aU
  exact cZ (fL false k wX) λ_=>rfl
 .refine ik (aK X hC x h) λxs p fF k=>?_
  subst fF
  exact k
def CP(ha:cw G F a)(hi:cw G F i):cw G F (.idx a i):=by
 have aK:∀X,Ct X G F->∀x,bE G (.idx a i) X.N X.env.scope x=true->∃v s p,x= .Subscript v s p/\∀m,PE X x (tV X.K m (ev F m (.idx a i))):=λX hC x h=>by
  cases x with
  |Subscript v s p=>
   change (bE G a X.N X.env.scope v&&bE G i X.N X.env.scope s&&cf s)=true at h
   simp only[Ws]at h
   exact⟨v,s,p,rfl,λm=>Lf (ha.e X hC v h.1.1 true) (hi.e X hC s h.1.2 false) (l7 h.2)⟩
  |_=>exact ff h
 refine .gE (λX hC x h m=>?_) (λX hC x h _=>?_) (λX hC x h z=>ff z)
 .refine r0 (aK X hC x h) λv s p aj k=>?_
  subst aj
  exact k m
 .refine r0 (aK X hC x h) λv s p aU k=>?_
  subst aU
  exact cZ (k false) λ_=>rfl
def G7{a lo hi:E}(ha:cw G F a)(hl:cw G F lo)(hh:cw G F hi):cw G F (.sl a lo hi):=by
 have aK:∀X,Ct X G F->∀x,bE G (.sl a lo hi) X.N X.env.scope x=true->∃v l u p2 p,x= .Subscript v (.Slice l u none p2) p/\PE X v (tV X.K true (ev F true a))/\PO X l (tO X.K (Ep F lo))/\PO X u (tO X.K (Ep F hi)):=λX hC x h=>by
  cases x with
  |Subscript v s p=>
   cases s with
   |Slice l u st p2=>
    cases st with
    |some _=>exact ff h
    |none=>
     change (true&&bE G a X.N X.env.scope v&&EI G lo X.N X.env.scope l&&EI G hi X.N X.env.scope u)=true at h
     simp only[Ws]at h
     exact⟨v,l,u,p2,p,rfl,ha.e X hC v h.1.1.2 true,hl.o X hC l h.1.2,hh.o X hC u h.2⟩
   |_=>exact ff h
  |_=>exact ff h
 refine .gE (λX hC x h m=>?_) (λX hC x h _=>?_) (λX hC x h z=>?_)
 .refine NH (aK X hC x h) λv l u p2 p aj k1 k2 k3=>?_
  subst aj
  exact Lg k1 k2 k3
 .refine NH (aK X hC x h) λv l u p2 p aU k1 k2 k3=>?_
  subst aU
  exact cZ (Lg k1 k2 k3) λ_=>rfl
 .refine NH (aK X hC x h) λv l u p2 p fF k1 k2 k3=>?_
  subst fF
  exact(Pc k1 k2 k3).weak λσ H Q q=>q
def zA(he:cw G F es):cw G F (.call f es):=by
 have aK:∀X,Ct X G F->∀x,bE G (.call f es) X.N X.env.scope x=true->(∃fn args dj p,x= .Call fn args dj p)/\∀m,PE X x (tV X.K m (ev F m (.call f es))):=λX hC x h=>by
  cases x with
  |Call fn args dj p=>
   refine⟨⟨_,_,_,_,rfl⟩,?_⟩
   cases fn with
   |Name n q=>
    cases args with
    |nil=>exact ff h
    |cons a0 ar=>
     cases dj with
     |cons _ _=>exact ff h
     |nil=>
      change (decide (G.1[f]?=some n)&&eJ X.env.scope n&&qa n&&cN G es X.N X.env.scope (a0::ar))=true at h
      simp only[Ws,decide_eq_true_eq]at h
      refine au λnO=>?_
      obtain⟨⟨⟨h1,h2⟩,h3⟩,h4⟩:=h
      refine D6 (hC.call f n h1) λk fa fd ps h5 h6 h7 h8 h9 PL=>nO ?_
      have ns:=jm h4
      rw[Yw,Ws]at ns
      exact λm=>GO (g:=λb=>cv F b es) (ln:=λρ=>kz ρ es) h5 h6 (dQ h2) h7 h8 h9 PL (λb=>he.es X hC _ h4 b) (λρ hl=>zr hl) (cA h3).1 (bN ns.1) (gC ns.2)
   |_=>exact ff h
  |_=>exact ff h
 refine .gE (λX hC x h m=>(aK X hC x h).2 m) (λX hC x h _=>?_) (λX hC x h z=>ff z)
 refine au λnO=>?_
 obtain⟨⟨fn,args,dj,p,rfl⟩,k⟩:=aK X hC x h
 exact nO<|cZ (k false) λ_=>rfl
def pP(q:sS):gw q∈ig:=by cases q<;>decide +kernel
def zB(he:cw G F es):cw G F (.prim q es):=by
 have aK:∀X,Ct X G F->∀x,bE G (.prim q es) X.N X.env.scope x=true->∃a0 ar n p,x= .Call (.Name (gw q) n) (a0::ar) [] p/\Gl X (gw q)/\(∀m,PA X (a0::ar) (tH X.K m (cv F m es)))/\aW a0=true/\ar.all aW=true:=λX hC x h=>by
  cases x with
  |Call fn args dj p=>
   cases fn with
   |Name n pn=>
    cases args with
    |nil=>exact ff h
    |cons a0 ar=>
     cases dj with
     |cons _ _=>exact ff h
     |nil=>
      change (decide (n=gw q)&&eJ X.env.scope n&&cN G es X.N X.env.scope (a0::ar))=true at h
      simp only[Ws,decide_eq_true_eq]at h
      obtain⟨⟨rfl,h2⟩,h4⟩:=h
      have ns:=jm h4
      rw[Yw,Ws]at ns
      exact⟨a0,ar,pn,p,rfl,dQ h2,λm=>he.es X hC _ h4 m,ns.1,ns.2⟩
   |_=>exact ff h
  |_=>exact ff h
 refine .gE (λX hC x h m=>?_) (λX hC x h _=>?_) (λX hC x h z=>?_)
 .refine sh (aK X hC x h) λa0 ar n p aj h1 h2 h3 h4=>?_
  subst aj
  exact oh hC.units hC.calm h1 (hC.mg _ (pP q)) (h2 true) (bN h3) (gC h4)
 .refine sh (aK X hC x h) λa0 ar n p aU h1 h2 h3 h4=>?_
  subst aU
  exact cZ (oh hC.units hC.calm h1 (hC.mg _ (pP q)) (h2 true) (bN h3) (gC h4)) λ_=>rfl
 .refine sh (aK X hC x h) λa0 ar n p fF h1 h2 h3 h4=>?_
  subst fF
  cases q with
  |list=>
   refine(f_list h1 (hC.mg _ (pP .list)) (h2 true) (bN h3) (gC h4)).weak λσ H Q ⟨O,ρ,ds,hx,hd,k⟩=>⟨O,ρ,ds,hx,?_,k⟩
   refine ae (bind_some hd) λd hd hl=>ae (bind_some (show(cv F true es ρ).bind _=_ from hd)) λxs e1 hd=>?_
   show(cv F true es ρ).bind _=_
   rw[e1]
   cases xs with
   |nil=>cases hd
   |cons y t=>
    cases t with
    |cons _ _=>cases hd
    |nil=>
     refine ae (map_some hd) λys h5 y8=>?_
     subst y8
     cases hl
     exact h5
  |_=>exact ff z
def CQ(he:cw G F es):cw G F (.iW q es):=by
 have aK:∀X,Ct X G F->∀x,bE G (.iW q es) X.N X.env.scope x=true->(∃fn args dj p,x= .Call fn args dj p)/\((q= .list /\PE X x (tF X.K λρ=>(ev F false (.iW q es) ρ).bind fW))\/(q= .tuple /\∀m,PE X x (tV X.K m (ev F m (.iW q es))))):=λX hC x h=>by
  obtain⟨n,pn,ar,p,rfl,g⟩:=dR (e:=x) h
  obtain⟨y,py,a0,p2,rfl,g2⟩:=dR g
  replace h:=g2
  refine⟨⟨_,_,_,_,rfl⟩,?_⟩
  simp only[Ws,aak,decide_eq_true_eq]at h
  refine au λnO=>?_
  obtain⟨⟨⟨⟨⟨hq,rfl⟩,rfl⟩,h3⟩,h4⟩,h5⟩:=h
  refine nO ?_
  have ns:=jm h5
  rw[Yw,Ws]at ns
  rcases hq with rfl|rfl
  .refine .inl ⟨rfl,?_⟩
   refine(zx hC.calm (dQ h4) (hC.mg _ (by simp[ig])) (dQ h3) (hC.mg _ (by simp[ig,gw])) (he.es X hC _ h5 false) (λρ ds hd=>pO h5 hd) (bN ns.1)).weak λσ H Q ⟨O,ρ,ds,hx,hd,k⟩=>⟨O,ρ,ds,hx,?_,k⟩
   refine au λnO=>ae (bind_some hd) λd hd hl=>ae (bind_some (show((cv F false es ρ).bind cM).bind (lN .list)=_ from hd)) λxs e1 hd=>?_
   cases hd
   cases hl
   exact nO<|e1
  .refine .inr ⟨rfl,λm=>?_⟩
   refine(zj (m:=m) hC.calm (dQ h4) (hC.mg _ (by simp[ig])) (dQ h3) (hC.mg _ (by simp[ig,gw])) (he.es X hC _ h5 false) (λρ ds hd=>pO h5 hd) (bN ns.1)).weak λσ H Q ⟨O,ρ,d,hx,hd,k⟩=>⟨O,ρ,d,hx,?_,k⟩
   refine au λnO=>ae (bind_some (show((cv F false es ρ).bind cM).bind (lN .tuple)=_ from hd)) λxs e1 hd=>?_
   cases hd
   refine nO ?_
   show((cv F false es ρ).bind cM).map D.tup=_
   rw[e1]
   rfl
 have wX:q= .list ->∀ρ d,ev F false (.iW q es) ρ=some d->∃ds,d= .lst ds:=λhq ρ d hd=>by
  refine au λnO=>?_
  subst hq
  refine ae (bind_some (show((cv F false es ρ).bind cM).bind (lN .list)=_ from hd)) λxs e1 hd=>?_
  cases hd
  exact nO<|⟨_,rfl⟩
 have val:∀X,Ct X G F->∀x,bE G (.iW q es) X.N X.env.scope x=true->∀m,PE X x (tV X.K m (ev F m (.iW q es))):=λX hC x h m=>by
  obtain⟨_,k⟩:=aK X hC x h
  rcases k with⟨hq,k⟩|⟨hq,k⟩
  .exact fL m k (wX hq)
  .exact k m
 refine .gE val (λX hC x h _=>?_) (λX hC x h z=>?_)
 .refine au λnO=>?_
  obtain⟨⟨fn,args,dj,p,rfl⟩,_⟩:=aK X hC x h
  exact nO<|cZ (val X hC _ h false) λ_=>rfl
 .obtain⟨_,k⟩:=aK X hC x h
  rcases k with⟨hq,k⟩|⟨rfl,_⟩
  .exact k
  .exact ff z
def kL(h:tM oe=true):attributeBase oe nm env (eval oe env)=eval oe env:=by
 cases oe<;>first|rfl|exact ff h
def zC(ho:cw G F o)(he:cw G F es):cw G F (.eQ mm o es):=by
 have aK:∀X,Ct X G F->∀x,bE G (.eQ mm o es) X.N X.env.scope x=true->(∃fn args dj p,x= .Call fn args dj p)/\∀m,PE X x (tV X.K m (ev F m (.eQ mm o es))):=λX hC x h=>by
  cases x with
  |Call fn args dj p=>
   refine⟨⟨_,_,_,_,rfl⟩,?_⟩
   change (match (generalizing:=false) fn,args,dj with
   | .Attribute oe nm ap,[a0],[]=>decide (nm="index")&&tM oe&&(ap.endLine==p.line)&&bE G o X.N X.env.scope oe&&cN G es X.N X.env.scope [a0]
   |_,_,_=>false)=true at h
   split at h
   .rename_i oe nm ap a0
    simp only[Ws,decide_eq_true_eq]at h
    obtain⟨⟨⟨⟨Nb,h3⟩,h4⟩,h5⟩,h6⟩:=h
    have ns:=jm h6
    rw[Yw,Ws]at ns
    subst Nb
    cases mm
    exact λm=>CB (ho.e X hC oe h5 true) (he.es X hC _ h6 true) (kL h3) h4 (bN ns.1)
   .cases h
  |_=>exact ff h
 refine .gE (λX hC x h m=>(aK X hC x h).2 m) (λX hC x h _=>?_) (λX hC x h z=>ff z)
 obtain⟨⟨fn,args,dj,p,rfl⟩,k⟩:=aK X hC x h
 exact cZ (k false) λ_=>rfl
end
noncomputable def fc:List (List Int)->List V->List Int->Option V
 |k::ks,v::vs,x=>if k=x then some v else fc ks vs x
 |_,_,_=>none
theorem jY[DecidableEq κ](f:List Int->κ):∀(ks:List (List Int)) (vs:List V) (x:List Int),(∀k∈ks,f k=f x->k=x)->jK ((ks.map f).zip vs) (f x)=fc ks vs x
 |[],vs,x,_=>by simp[fc,jK]
 |k::ks,[],x,_=>by simp[fc,jK]
 |k::ks,v::vs,x,h=>by
  rw[WJ,ZD,fc]
  by_cases e:k=x
  .rw[WO e,i6 (by rw[e])]
  .rw[WV e,i7 (λz=>e (h k Wx z))]
   exact jY f ks vs x λk hk=>h k (Wu _ hk)
theorem pQ:∀{a b:List Int},a.map (Sum.inl:Int->cL)=b.map Sum.inl->a=b
 |[],[],_=>rfl
 |[],_::_,h=>by simp at h
 |_::_,[],h=>by simp at h
 |x::a,y::b,h=>by
  rw[WJ,WJ]at h
  injection h with h1 h2
  rw[ZY h1,pQ h2]
theorem oq{K:PySem.W.Frag}{O:Addr->Prop}{H:Hp}:∀{x:List Int}{vs:List V},av K O H vs (x.map .int)->vs=x.map V.int
 |[],_,.nil =>rfl
 |i::x,_,.cons r t=>by rw[r.int_inv,oq t];rfl
theorem ko:∀{xs:List D}{p:List Int},aP xs=some p->xs=p.map .int
 |[],p,h=>by cases h;rfl
 |x::xs,p,h=>by
  cases x with
  |int i=>
   refine ae (map_some (show(aP xs).map (i:: ·)=some p from h)) λq h1 aj=>?_
   subst aj
   rw[ko h1]
   rfl
  |_=>cases h
section
variable {K:PySem.W.Frag}{O:Addr->Prop}{H:Hp}{a:Addr}{t:Nat}{ks:List (List Int)}{vs:List V}{ds:List D}
def fg{y:V}{dy:D}{x:List Int}(r:bx K O H y dy)(hx:de t dy=some x):(t=0/\(∃i,x=[i]/\y= .int i))\/(t≠0/\∃b,y= .ref b/\H b=some (.tup ((x.map Sum.inl).map kV))):=by
 cases dy with
 |int i=>
  simp only[de]at hx
  split at hx
  .rename_i h0
   cases hx
   exact .inl ⟨h0,i,rfl,r.int_inv⟩
  .cases hx
 |tup xs=>
  simp only[de]at hx
  split at hx
  .cases hx
  .rename_i h0
   have e:=ko hx
   subst e
   refine bC r.gS λb us aj h1 h2=>?_
   subst aj
   refine .inr ⟨h0,b,rfl,?_⟩
   rw[W6]
   have:=oq h2
   rw[this]at h1
   exact h1
 |_=>cases hx
def uV(hd:Rd H a (fV t ks vs))(hk:kG t ks)(r:bx K O H y dy)(hx:de t dy=some x):pb H a y (fc ks vs x):=by
 rcases fg r hx with⟨h0,i,rfl,rfl⟩|⟨h0,b,rfl,hb⟩
 .unfold fV at hd
  rw[WO h0]at hd
  refine .inl ⟨_,Sum.inl i,hd,rfl,?_⟩
  have:=jY (λk:List Int=>(Sum.inl (k.headD 0):cL)) ks vs [i] (λk hm e=>by
   obtain⟨j,rfl⟩:=hk.2 h0 k hm
   have:j=i:=ZY e
   rw[this])
  exact this.symm
 .unfold fV at hd
  rw[WV h0]at hd
  exact .inr ⟨_,x.map Sum.inl,b,hd,rfl,hb,(jY (λk:List Int=>k.map (Sum.inl:Int->cL)) ks vs x λk _ e=>pQ e).symm⟩
theorem l_:∀{ks:List (List Int)}{vs:List V}{ds:List D}{x:List Int},ks.length=vs.length->av K O H vs ds->(∀d,iE ks ds x=some d->∃v,fc ks vs x=some v/\bx K O H v d)/\(iE ks ds x=none->fc ks vs x=none)/\((fc ks vs x).isSome =decide (x∈ks))
 |[],_,_,x,_,_=>⟨λ_ h=>by simp[iE]at h,λ_=>by simp[fc],by simp[fc]⟩
 |k::ks,[],_,x,h,_=>by simp at h
 |k::ks,v::vs,_,x,h,.cons (d:=d) (ds:=ds) r rs=>by
  have ih:=l_ (ks:=ks) (x:=x) (by simpa using h) rs
  by_cases e:k=x
  .simp only[iE,fc,WO e]
   exact⟨λd' hd=>(by cases hd;exact⟨v,rfl,r⟩),λz=>(by cases z),by simp[e]⟩
  .simp only[iE,fc,WV e]
   exact⟨ih.1,ih.2.1,by rw[ih.2.2];simp[Xt e]⟩
def CS:xN (some (fV t ks vs)):=by unfold fV;split<;>exact True.intro
theorem EX.bM(hx:EX K O σ H ρ)(h:gp ρ i=some d):∃a vs,σ[i]?=some (some (.ref a))/\Rd H a (fV d.1 d.2.1 vs)/\d.2.1.length=vs.length/\kG d.1 d.2.1/\av K O H vs d.2.2:=by
 unfold gp at h
 split at h
 .rename_i o t ks ds e
  split at h
  .cases h
  rename_i ht
  cases h
  refine ae (hx.jB i o _ e) λv h1 h2=>?_
  cases o with
  |true=>
   refine bL h2 λa e1 _ c=>Bn (c.bM ht) λvs c1 c2 c3 c4=>?_
   subst e1
   exact⟨a,vs,h1,.inl c1,c2,c3,c4⟩
  |false=>
   have Ls:bx K O H v (.bM t ks ds):=h2
   cases Ls with
   |bM g1 g2 g3 g4=>exact⟨_,_,h1,.inr ⟨_,g1⟩,g2,g3,g4⟩
 .cases h
end
def bS(h:cF N sc i e=true):∃x p,e= .Name x p/\N[i]?=some x/\vX sc x/\(x==("__debug__":Str))=false/\(x==("__classdict__":Str))=false:=by
 refine au λnO=>?_
 cases e with
 |Name x p=>
  refine nO ?_
  unfold cF at h
  simp only[Ws,decide_eq_true_eq]at h
  exact⟨x,p,rfl,h.1.1,jX h.1.2,(cA h.2).1,(cA h.2).2⟩
 |_=>cases h
section
variable {X:Cx}{a b c e k:Expr}{pos p px:Pos}{m:Bool}{i:Nat}{x:Str}{f:Env->Option D}
def G8(hu:X.A.units+64<cLine)(ho:PE X a (cW i))(hk:PE X k (tV X.K false f))(hs:BZ k):PE X (.Subscript a k pos) (tV X.K m λρ=>(gp ρ i).bind λd=>((f ρ).bind (de d.1)).bind λx=>iE d.2.1 d.2.2 x):=
 (B3 (by lia) ho hk hs).weak λσ H Q zz=>by
  refine c7 zz λO ρ d hx hd q=>ae (bind_some hd) λdd e1 hd=>ae (bind_some hd) λxx e2 hd=>ae (bind_some e2) λdy e3 e4=>kc (hx.bM e1) λa vs g1 g2 g3 g4 g5=>⟨.ref a,g1,O,ρ,dy,hx,e3,λv H1 s1 r1=>?_⟩
  refine ae ((l_ (x:=xx) g3 (g5.mono s1)).1 d hd) λv' h1 h2=>?_
  have hg:=uV (pK s1 g2) g4 r1.own e4
  rw[h1]at hg
  exact⟨a,v',rfl,hg,q v' H1 s1 (.inl h2)⟩
def Lu{neg:Bool}(hu:X.A.units+64<cLine)(hk:PE X k (tV X.K false f))(ho:PE X a (cW i)):PC X (if neg then .NotIn else .In) k a (tV X.K m λρ=>((f ρ).bind λy=>(gp ρ i).bind λd=>(de d.1 y).map λx=> .bl (if neg then !decide (x∈d.2.1) else decide (x∈d.2.1)))):=by
 have key:∀σ H (Q:VK),tV X.K m (λρ=>((f ρ).bind λy=>(gp ρ i).bind λd=>(de d.1 y).map λx=>D.bl (if neg then !decide (x∈d.2.1) else decide (x∈d.2.1)))) σ H Q->
   tV X.K false f σ H λy H1=>cW i σ H1 λx H2=>∃a o,x= .ref a/\pb H2 a y o/\Q (.bl (if neg then !o.isSome else o.isSome)) H2:=λσ H Q zz=>by
  refine au λnO=>c7 zz λO ρ d hx hd q=>ae (bind_some hd) λdy e1 hd=>ae (bind_some hd) λdd e2 hd=>ae (map_some hd) λxx e3 aj=>?_
  subst aj
  refine nO ?_
  refine⟨O,ρ,dy,hx,e1,λv H1 s1 r1=>?_⟩
  refine au λnO=>kc ((hx.mono s1).bM e2) λa vs g1 g2 g3 g4 g5=>nO ?_
  refine⟨.ref a,g1,a,_,rfl,uV g2 g4 r1.own e3,?_⟩
  rw[(l_ (x:=xx) g3 g5).2.2]
  exact q _ H1 s1 (.inl (.bl _))
 cases neg with
 |true=>exact λaa s σ H Q I q=>wF (by lia) hk ho aa s σ H Q I (key σ H Q q)
 |false=>exact λaa s σ H Q I q=>Gj (by lia) hk ho aa s σ H Q I (key σ H Q q)
theorem insI_perm(x:Int):∀l,(insI x l).Perm (x::l)
 |[]=> .refl _
 |y::r=>by
  unfold insI
  split
  .exact .refl _
  .exact((insI_perm x r).cons y).trans (.swap x y r)
theorem sortI_perm:∀l,(sortI l).Perm l
 |[]=> .refl _
 |x::r=>(insI_perm x (sortI r)).trans ((sortI_perm r).cons x)
theorem uW(x:Int):∀l:List Int,l.Pairwise (· <= ·)->(insI x l).Pairwise (· <= ·)
 |[],_=>Y1 _ _
 |y::r,h=>by
  unfold insI
  rw[XG]at h
  split
  .rename_i wL
   refine XG.mpr ⟨λz hz=>?_,XG.mpr h⟩
   rcases WG.mp hz with e|hz
   .rw[e];exact wL
   .exact aaI wL (h.1 z hz)
  .rename_i wL
   refine XG.mpr ⟨λz hz=>?_,uW x r h.2⟩
   rcases WG.mp ((insI_perm x r).mem_iff.mp hz)with e|hz
   .rw[e];lia
   .exact h.1 z hz
theorem ma:∀l:List Int,(sortI l).Pairwise (· <= ·)
 |[]=> .nil
 |x::r=>uW x _ (ma r)
def md{l m:List Int}(hp:l.Perm m)(hs:l.Pairwise (· <= ·)):l=sortI m:=
 (hp.trans (sortI_perm m).symm).eq_of_pairwise (λa b _ _ h1 h2=>Int.le_antisymm h1 h2) hs (ma m)
def CT(hc:X.calm=true)(ho:PE X a (cW i))(hg:Gl X "sorted")(hm:X.mg "sorted"=none)(hs:starEach [a] X.env=(false,eval a X.env)::starEach [] X.env):PE X (.Call (.Name "sorted" p) [a] [] pos) (tV X.K m λρ=>(gp ρ i).bind λd=>if d.1=0 then(if d.2.1.length<64 then some (.lst ((sortI (d.2.1.map λk=>k.headD 0)).map .int)) else none)
   else if []∈d.2.1 then none else some (.lst ((bU.bF d.2.1).map nc))):=
 (eM ((pJ hc).or (pF hc)) hg hm boot_sorted (cb ho c_ hs) (by decide) (by decide) hs rfl).weak λσ H Q zz=>by
  refine c7 zz λO ρ d hx hd q=>ae (bind_some hd) λdd e1 hd=>kc (hx.bM e1) λb vs g1 g2 g3 g4 g5=>⟨.ref b,g1,?_⟩
  unfold fV at g2
  by_cases h0:dd.1=0
  .rw[WO h0]at hd g2
   split at hd
   .rename_i M8
    cases hd
    refine .inl ⟨b,_,dd.2.1.map λk=>k.headD 0,rfl,g2,?_,by rw[Wr];exact M8,λfT p1 p2 l hl=>?_⟩
    .rw[List.map_fst_zip (by rw[Wr];lia),W6]
     rfl
    .rw[md p1 p2]
     exact q _ _ (af.upd hl) (.inl (.lst (.inl ag) (hx.free (af.refl _) hl) (dD _)))
   .cases hd
  .rw[WV h0]at hd g2
   split at hd
   .cases hd
   .rename_i eU
    cases hd
    refine .inr ⟨b,_,dd.2.1,rfl,g2,?_,λk hk e=>eU (e▸hk),λl us hl pw=>q _ _ (af.upd hl) (.inl (.lst (.inl ag) (hx.free (af.refl _) hl) ((l4 pw).mono (af.upd hl))))⟩
    rw[List.map_fst_zip (by rw[Wr];lia)]
end
section
variable {G:GT}{F:FT}
def CU(h:cf e=true):BZ e:=by
 intro o i
 cases e<;>first|rfl|exact absurd h Wt
def zD(hk:cw G F k):cw G F (.du i k):=by
 have aK:∀X,Ct X G F->∀x,bE G (.du i k) X.N X.env.scope x=true->(∃v s p,x= .Subscript v s p)/\∀m,PE X x (tV X.K m (ev F m (.du i k))):=λX hC x h=>by
  cases x with
  |Subscript v s p=>
   change (cF X.N X.env.scope i v&&bE G k X.N X.env.scope s&&cf s)=true at h
   simp only[Ws]at h
   refine kc (bS h.1.1) λx q aj n1 n2 n3 n4=>?_
   subst aj
   exact⟨⟨_,_,_,rfl⟩,λm=>G8 hC.units (bJ n1 n2 n3 n4) (hk.e X hC s h.1.2 false) (CU h.2)⟩
  |_=>exact ff h
 refine .gE (λX hC x h m=>(aK X hC x h).2 m) (λX hC x h _=>?_) (λX hC x h z=>ff z)
 obtain⟨⟨v,s,p,rfl⟩,q⟩:=aK X hC x h
 exact cZ (q false) λ_=>rfl
def CV(hk:cw G F k):cw G F (.qu neg k i):=by
 have aK:∀X,Ct X G F->∀x,bE G (.qu neg k i) X.N X.env.scope x=true->∃l r p,x= .Compare l [if neg then .NotIn else .In] [r] p/\(∀m,PC X (if neg then .NotIn else .In) l r (tV X.K m (ev F m (.qu neg k i))))/\behindInMarks (if neg then .NotIn else .In) r=false:=λX hC x h=>by
  cases x with
  |Compare l ops rs p=>
   change (match (generalizing:=false) ops,rs with
   |[op],[r]=>decide (op=if neg then .NotIn else .In)&&bE G k X.N X.env.scope l&&cF X.N X.env.scope i r
   |_,_=>false)=true at h
   split at h
   .rename_i op r
    simp only[Ws,decide_eq_true_eq]at h
    obtain⟨⟨rfl,h1⟩,h2⟩:=h
    refine kc (bS h2) λx q aj n1 n2 n3 n4=>?_
    subst aj
    exact⟨l,_,p,rfl,λm=>Lu hC.units (hk.e X hC l h1 false) (bJ n1 n2 n3 n4),om rfl⟩
   .cases h
  |_=>exact ff h
 refine .gE (λX hC x h m=>?_) (λX hC x h _=>?_) (λX hC x h z=>ff z)
 .refine c7 (aK X hC x h) λl r p aU q1 q2=>?_
  subst aU
  exact Fn (q1 m) q2
 .refine c7 (aK X hC x h) λl r p fF q1 q2=>?_
  subst fF
  refine(Fo (q1 false) q2).weak λσ H Q zz=>c7 zz λO ρ kk hx hd q=>ae (bind_some hd) λd e1 e2=>?_
  cases gv e2
  exact⟨O,ρ,_,hx,e1,λv H1 s1 r1=>⟨kk,r1.bl,q H1 s1⟩⟩
def wY:cw G F (.dm i):=by
 have aK:∀X,Ct X G F->∀x,bE G (.dm i) X.N X.env.scope x=true->(∃fn args dj p,x= .Call fn args dj p)/\∀m,PE X x (tV X.K m (ev F m (.dm i))):=λX hC x h=>by
  obtain⟨y,py,a0,p,rfl,g⟩:=dR (e:=x) h
  replace h:=g
  refine⟨⟨_,_,_,_,rfl⟩,?_⟩
  simp only[Ws,decide_eq_true_eq]at h
  obtain⟨⟨rfl,h1⟩,h2⟩:=h
  refine kc (bS h2) λx q aj n1 n2 n3 n4=>?_
  subst aj
  exact λm=>CT hC.calm (bJ n1 n2 n3 n4) (dQ h1) (hC.mg _ (by simp[ig])) (bN rfl)
 refine .gE (λX hC x h m=>(aK X hC x h).2 m) (λX hC x h _=>?_) (λX hC x h z=>ff z)
 obtain⟨⟨fn,args,dj,p,rfl⟩,q⟩:=aK X hC x h
 exact cZ (q false) λ_=>rfl
def cw.PM(i:∀X,Ct X G F->∀tg x,Bl G e' X.N X.env.scope x=true->∀m,PI X tg x (tI X.K m (kA F m e')))
  (n0:∀N sc x,bE G e' N sc x=false:=by intro _ _ _;rfl) (n1:∀N sc xs,cN G e' N sc xs=false:=by intro _ _ _;rfl) (n2:∀N sc xs,jl G e' N sc xs=false:=by intro _ _ _;rfl) (n3:∀N sc xs,EI G e' N sc xs=false:=by intro _ _ _;rfl):cw G F e':=
 ⟨λX _ x h=>absurd h (by rw[n0];exact Wt),λX _ x h=>absurd h (by rw[n0];exact Wt),λX _ x h=>absurd h (by rw[n0];exact Wt),λX _ xs h=>absurd h (by rw[n1];exact Wt),λX _ xs h=>absurd h (by rw[n2];exact Wt),λX _ xs h=>absurd h (by rw[n3];exact Wt),i⟩
def G9:cw G F (.dk i):= .PM λX hC tg x h m=>by
 refine kc (bS (show cF X.N X.env.scope i x=true from h)) λy q aj n1 n2 n3 n4=>?_
 subst aj
 exact Pz (bJ n1 n2 n3 n4)
def G_:cw G F (.dv i):= .PM λX hC tg x h m=>by
 cases x with
 |Call fn args dj p=>
  change (match (generalizing:=false) fn,args,dj with
   | .Attribute oe nm ap,[],[]=>decide (nm="values")&&cF X.N X.env.scope i oe&&(ap.endLine==p.line)
   |_,_,_=>false)=true at h
  split at h
  .rename_i oe nm ap
   simp only[Ws,decide_eq_true_eq]at h
   obtain⟨⟨rfl,h1⟩,h2⟩:=h
   refine kc (bS h1) λy q aj n1 n2 n3 n4=>?_
   subst aj
   exact PB (bJ n1 n2 n3 n4) rfl h2
  .cases h
 |_=>exact ff h
def CW(ha:cw G F a):cw G F (.En a):= .PM λX hC tg x h m=>by
 obtain⟨y,py,a0,p,rfl,g⟩:=dR (e:=x) h
 replace h:=g
 simp only[Ws,decide_eq_true_eq]at h
 obtain⟨⟨⟨rfl,h1⟩,h2⟩,h3⟩:=h
 exact Lj (dQ h1) (hC.mg _ (by simp[ig])) (ha.e X hC a0 h2 false) (bN h3)
end
end Py
namespace L2
open PySem PySem.Spec PyProof.Rows PySem.W
noncomputable abbrev n5:List Int:=[0,1,2,3,4]
noncomputable def cS(b:Bool)(L:List Int):SetTable:={mask:=if L.length<=4 then 7 else 31,place:=(L.map Int.toNat).toArray,dummies:=#[],finger:=0,led:=b,moves:=if L.length<=4 then 0 else 1,plain:=true}
noncomputable def eE:List (List Int):=(List.range 32).map λm=>n5.filter λk=>m.testBit k.toNat
noncomputable def jn(k:Int)(L:List Int):List Int:=n5.filter λj=>decide (j=k)||decide (j∈L)
def PN(p:Int->Bool):n5.filter p∈eE:=by
 simp only[n5,List.filter]
 cases p 0<;>cases p 1<;>cases p 2<;>cases p 3<;>cases p 4<;>decide
noncomputable def PQ(b:Bool)(L:List Int)(k:Int):Bool:=
 decide ((cS b L).freeSlot k=some (k.toNat,false))&&decide (((cS b L).put k.toNat).2 <=L.length)&&((cS b L).put k.toNat).1.fits (L.length+1)&&((cS b L).put k.toNat).1.plain &&
 decide (L.take ((cS b L).put k.toNat).2 ++k::L.drop ((cS b L).put k.toNat).2 =jn k L) &&
 (if((cS b L).put k.toNat).1.tooFull then decide (((cS b L).put k.toNat).1.relaid (jn k L).toArray (SetTable.grown (L.length+1))=some (cS b (jn k L),#[0,1,2,3,4]))&&decide (L.length=4)&&(cS b (jn k L)).fits 5
  else decide (((cS b L).put k.toNat).1 =cS b (jn k L)))
def CY:([false,true].all λb=>eE.all λL=>(cS b L).fits L.length&&n5.all λk=>decide (k∈L)||PQ b L k)=true:=by decide +kernel
def EJ:∀k∈n5,hashInt k=k:=by decide +kernel
def me(b:Bool)(hL:L∈eE):(cS b L).fits L.length=true/\∀k∈n5,k∉L->PQ b L k=true:=by
 have h:=Xw.mp (Xw.mp CY b (by cases b<;>decide)) L hL
 rw[Ws]at h
 refine⟨h.1,λk hk hn=>?_⟩
 have:=Xw.mp h.2 k hk
 rw[decide_eq_false hn]at this
 exact this
def Nc:∀L∈eE,(∀k∈L,k∈n5)/\L.length<=5:=by decide +kernel
def jo(w:World)(a:Addr)(L:List Int)(h:Heap):Prop:=
 L∈eE/\∃o es ep,h.get? a=some o/\o.ExactSet/\o.data= .set es ep (cS (!w.params.followText "set-order") L)/\es.toList.map (·.1)=L/\∀e∈es.toList,∃tk,e.2= .int e.1 tk
def jo.keep(h:jo w a L hp)(k:∀o,hp.get? a=some o->xF.get? a=some o):jo w a L xF:=by
 obtain⟨h0,o,es,ep,h1,h2⟩:=h
 exact⟨h0,o,es,ep,k o h1,h2⟩
section
variable {prog:Program}{w:World}{A:Around}{E:Value->Shared->Prop}{s:Shared}{a:Addr}{L:List Int}{k:Int}{tk:Tok}
def tN(es:Array α)(p:Nat)(x:α)(hp:p<=es.size):(SetTable.insertAt es p x).toList =es.toList.take p++x::es.toList.drop p:=by
 unfold SetTable.insertAt
 simp
 exact Xg (by simp)
def Ha(es:Array α)(h:es.size=5):(#[0,1,2,3,4]:Array Nat).filterMap (es[·]?)=es:=by
 obtain⟨l⟩:=es
 simp only[WA]at h
 match l,h with
 |[_,_,_,_,_],_=>rfl
def kQ{h:Heap}{o:Obj}{es sj:Array (Int×Value)}{t t':SetTable}{ep:Nat}(ho:h.get? a=some o)(hd:o.data= .set es ep t):(h.update a (Obj.putSet sj t')).get? a=some {o with data:= .set sj (ep+1) t'}:=by
 have:=Xp (Obj.putSet sj t') ho (by rw[putSet_of sj t' hd];rfl)
 rw[putSet_of sj t' hd]at this
 exact this
def CZ{Q:Bool->Shared->Prop}(hk:k∈n5)(hS:jo w a L s.heap)(h:∀h' r,Heap.SameBut a s.heap h'->jo w a (jn k L) h'->Q r {s with heap:=h'}):
  wpAny (model prog w) A (setAddHashed a (.int k tk) (hashInt k)) Q E s:=by
 obtain⟨hL,o,es,ep,ho,hex,hd,hm,hv⟩:=hS
 generalize PR:(!w.params.followText "set-order")=bt at hd
 have hsz:es.size=L.length:=by rw[<-hm,Wr,Wy]
 obtain⟨c1,c2⟩:=me bt hL
 obtain⟨i1,i2⟩:=Nc L hL
 have hf:(cS bt L).fits es.size=true:=by rw[hsz];exact c1
 have hb:es.size<scanBound:=by rw[hsz,show scanBound=4096 from rfl];lia
 have RP:ElemsOf (intKind prog w) es.toList:=λe he=>by
  obtain⟨t,e2⟩:=hv e he
  have:e.1∈L:=by rw[<-hm];exact WD.mpr ⟨e,he,rfl⟩
  exact⟨⟨e.1,by rw[e2];exact intKind_is _ _ _ _,(EJ _ (i1 _ this)).symm⟩,by rw[e2];rfl⟩
 have mem:∀e∈es.toList,((intKind prog w).is k e.2=true↔e.1=k):=λe he=>by
  obtain⟨t,e2⟩:=hv e he
  rw[e2]
  exact⟨λz=>((intKind prog w).inj _ _ _ z (intKind_is _ _ _ _)).symm,λz=>by rw[z];exact intKind_is _ _ _ _⟩
 unfold setAddHashed setAddHashedIn
 refine Xf (Wn (Y' ho hd hf ?_))
 dsimp only
 rw[byScan_of (knd:=intKind prog w) rfl hb RP,WO rfl]
 unfold setAddByScan
 refine Wn (Wn (YA (Wn (wpAny_setScan_of (knd:=intKind prog w) (k:=k) (intKind_is _ _ _ _) ho hd hf RP ?_))))
 cases hr:List.findIdx? (λe=>(intKind prog w).is k e.2) es.toList with
 |some j=>
  obtain⟨hj,Ut,_⟩:=List.findIdx?_eq_some_iff_getElem.mp hr
  have PU:k∈L:=by
   rw[<-hm]
   exact WD.mpr ⟨_,X0 hj,(mem _ (X0 hj)).mp Ut⟩
  have xG:jn k L=L:=by
   have:∀L∈eE,∀k∈L,jn k L=L:=by decide +kernel
   exact this L hL k PU
  have:=h s.heap false (Heap.SameBut.refl a s.heap) (by rw[xG];exact⟨hL,o,es,ep,ho,hex,by rw[PR];exact hd,hm,hv⟩)
  exact Wv (Wv this)
 |none=>
  have PU:k∉L:=λz=>by
   rw[<-hm]at z
   obtain⟨e,he,e1⟩:=WD.mp z
   have:=List.findIdx?_eq_none_iff.mp hr e he
   rw[(mem e he).mpr e1]at this
   cases this
  have hc:=c2 k hk PU
  unfold PQ at hc
  generalize zE:(cS bt L).put k.toNat=tp at hc
  obtain⟨t1,p⟩:=tp
  simp only[Ws,decide_eq_true_eq]at hc
  obtain⟨⟨⟨⟨⟨g1,g2⟩,g3⟩,g4⟩,g5⟩,g6⟩:=hc
  have PV:(SetTable.insertAt es p (k,Value.int k tk)).toList =es.toList.take p++(k,Value.int k tk)::es.toList.drop p:=tN es p _ (by rw[hsz];exact g2)
  have Nd:(SetTable.insertAt es p (k,Value.int k tk)).size =L.length+1:=by
   rw[<-Wy,PV,WC,WM,XO,Yz,Wy,hsz]
   lia
  have PX:(SetTable.insertAt es p (k,Value.int k tk)).toList.map (·.1)=jn k L:=by
   rw[PV,W4,WJ,List.map_take,List.map_drop,hm]
   exact g5
  have Nf:∀e∈(SetTable.insertAt es p (k,Value.int k tk)).toList,∃t,e.2= .int e.1 t:=λe he=>by
   rw[PV]at he
   rcases WQ.mp he with z|z
   .exact hv e (Yb z)
   .rcases WG.mp z with rfl|z
    .exact⟨tk,rfl⟩
    .exact hv e (Ym z)
  have hl:layNew (cS bt L) es (hashInt k) (.int k tk)=(SetTable.insertAt es p (k,.int k tk),t1,false,false):=by
   unfold layNew
   rw[EJ k hk,g1]
   dsimp only
   rw[zE]
   dsimp only
   unfold SetTable.orStandIn
   rw[Nd,g3]
   rfl
  generalize Uu:SetTable.insertAt es p (k,Value.int k tk)=rk at *
  dsimp only
  rw[hl]
  dsimp only
  refine Wn (Wv ?_)
  rw[g4,WO rfl]
  refine Wn (m:=hashByValue 8 _) (Wv ?_)
  rw[WO rfl]
  have hz:rk.size<=sizeLine:=by rw[Nd,sizeLine_eq];lia
  refine Wn (wpAny_storeSet_of ho hd ?_ hz)
  have xG:jn k L∈eE:=PN _
  cases RQ:t1.tooFull with
  |false=>
   rw[RQ,WV Wt,decide_eq_true_eq]at g6
   rw[WV (by simp)]
   exact Wv (Wv (h _ _ (Xh ..) ⟨xG,_,rk,_,kQ ho hd,hex,by rw[PR,<-g6],PX,Nf⟩))
  |true=>
   rw[RQ,WO rfl]at g6
   simp only[Ws,decide_eq_true_eq]at g6
   obtain⟨⟨g7,g8⟩,g9⟩:=g6
   have RS:rk.size=5:=by rw[Nd,g8]
   have Uv:relayAll t1 rk (SetTable.grown rk.size)=(rk,cS bt (jn k L),false):=by
    unfold relayAll
    have em:rk.map (·.1)=(jn k L).toArray :=by
     apply Array.toList_inj.mp
     rw[YU]
     exact PX
    rw[em,Nd,g7]
    dsimp only
    have PY:coversAll #[0,1,2,3,4] (L.length+1)=true:=by rw[g8];decide +kernel
    rw[Ha _ RS,RS,g9,PY]
    rfl
   rw[WO (by simp),Uv]
   dsimp only
   refine Wn (Wv (Wn (wpAny_storeSet_of (kQ ho hd) rfl ?_ hz)))
   exact Wv (Wv (h _ _ ((Xh ..).trans (Xh ..)) ⟨xG,_,rk,_,kQ (kQ ho hd) rfl,hex,by rw[PR],PX,Nf⟩))
def wZ(ns:List Int)(hk:k∈n5):Py.fZ (ns++[k])=jn k (Py.fZ ns):=by
 unfold Py.fZ jn
 refine List.filter_congr λj hj=>?_
 rw[<-Bool.decide_or]
 refine decide_eq_decide.mpr ?_
 rw[WQ,Ww,Xx,decide_eq_true_eq]
 exact⟨λz=>z.elim (λz=> .inr ⟨hj,z⟩) .inl,λz=>z.elim .inr λz=> .inl z.2⟩
section
variable {R:Result->Shared->Prop}{I S:Addr}{fp wr:List Addr}{G:Array GenState->Array GenState->Prop}{n:Nat}{P:Nat->Value->Prop}{St:Nat->Shared->Prop}{val:Nat->Int}
def zF(W:WalksS prog w A.in1 I fp wr G n P St)(RT:S∉fp)(yB:∀i v,P i v->∃t,v= .int (val i) t)(h5:∀i,i<n->val i∈n5):∀(m i:Nat) (s:Shared),n-i=m->i<=n->St i s->
  jo w S (Py.fZ ((List.range i).map val)) s.heap->(∀s',Moved (S::wr) G s s'->jo w S (Py.fZ ((List.range n).map val)) s'.heap->R (.ok (.ret .none)) s')->
  codeAny (model prog w) A (.builtin "set.update.loop" ⟨[.ref S,.ref I],[]⟩) R s:=by
 have nw:S∉wr:=λz=>RT (W.sub _ z)
 have sub:∀b∈wr,b∈S::wr:=λb z=>Wu _ z
 intro m
 induction m with
 |zero=>
  intro i s hm hi st hS hR
  have e:i=n:=by lia
  subst e
  refine X8 F.entry_set_update_loop ?_
  rw[Yl Y3 _]
  refine Wn (m:=pyNext (.ref I)) (W.done s _ _ st λs' mv=>Wv (hR s' (mv.mono sub) (hS.keep λo z=>mv.heap S o nw z)))
 |succ m ih=>
  intro i s hm hi st hS hR
  have lt:i<n:=by lia
  refine X8 F.entry_set_update_loop ?_
  rw[Yl Y3 _]
  refine Wn (m:=pyNext (.ref I)) (W.item i s _ _ lt st λv s' hP ak mv=>?_)
  obtain⟨t,rfl⟩:=yB i v hP
  show wpAny _ A.in1 (holding [Value.int (val i) t] (setAdd S (.int (val i) t)) >>= _) _ _ s'
  refine Wn (Xf ?_)
  unfold setAdd
  refine Xf (Wn ((intKind prog w).pyHash (k:=val i) (intKind_is _ _ _ _) ?_))
  refine CZ (s:={s' with toks:=s'.toks+1}) (h5 i lt) (hS.keep λo z=>mv.heap S o nw z) λh' r sb Uw=>?_
  refine Wv ⟨plainId_quiet Y3 _,ih (i+1) _ (by lia) lt (W.frame _ s' _ _ ak (aaJ _) λb hb o e=>?_) ?_ λs2 Ux Ng=>?_⟩
  .rw[sb.2 b λz=>RT (z▸hb)];exact e
  .rw[List.range_succ,W4]
   show jo w S (Py.fZ (_++[val i])) h'
   rw[wZ _ (h5 i lt)]
   exact Uw
  .refine hR s2 (Moved.trans W.gtrans ((mv.mono sub).then_heap (aaJ _) λb o hb e=>?_) Ux) Ng
   rw[sb.2 b λz=>hb (z▸Wx)];exact e
end
noncomputable abbrev pR(w:World):Obj:={cls:= .type "set",dict:=none,data:= .set #[] 0 (.fresh 0 0 (!w.params.followText "set-order"))}
def C0{u:Value}{Q:Value->Shared->Prop}(h:Q (.ref s.heap.objs.size) {s with heap:=s.heap.push (pR w)}):codeAny (model prog w) A (.call (.builtin "set.__new__") ⟨[.type "set",u],[]⟩) (wants Q E) s:=by
 refine codeAny_of_tree ?_
 show wpAny _ A.in1 (do checkBuiltinCall "set.__new__" ⟨[.type "set",u],[]⟩;again (.builtin "set.__new__" ⟨[.type "set",u],[]⟩)) _ _ s
 refine Wn (Zt (F.newCall_set_1 u) (Wv ⟨plainId_quiet F.plain_set_new _,X8 F.entry_set_new ?_⟩))
 rw[Yl F.plain_set_new _]
 unfold Builtin.«set.__new__» Builtin.Frozenset.newClass
 have Kf:=sub_set_self
 obtain⟨hp,g,d,tk,os⟩:=s
 dsimp only
 wp_walk
 refine YV (Wv ?_)
 dsimp only
 simp only[newObj]
 exact Wn (wpAny_alloc (Wv (Wv h)))
def w4(w:World){hp:Heap}(h:hp.get? a=some (pR w)):jo w a [] hp:=⟨by decide,_,#[],0,h,⟨rfl,rfl,rfl⟩,rfl,rfl,λe he=>by cases he⟩
def w6{l:Addr}{vs:List Value}{ns:List Int}{Q:Value->Shared->Prop}(hh:A.handled=none)(hl:s.heap.IsList l vs.toArray)(hi:IntsAre vs ns)(h5:∀n∈ns,n∈n5)
  (h:∀(h':Heap) (tk:Nat),jo w s.heap.objs.size (Py.fZ ns) h'->(∀b o,s.heap.get? b=some o->h'.get? b=some o)->Q (.ref s.heap.objs.size) {s with heap:=h',toks:=tk}):
  wpAny (model prog w) A (call (.type "set") [.ref l]) Q E s:=by
 obtain⟨c,tl,Uy⟩:=YH.mro
 have RU:=YH.made
 have Kf:=YH.sub
 refine wpAny_call (codeAny_of_tree ?_)
 show wpAny _ _ (callAny (.type "set") _) _ _ _
 refine Wv ⟨Code.quiet_builtin _ (by decide +kernel),X8 F.entry_type_call ?_⟩
 rw[Around.under_plain (weight_type_call_type "set" [.ref l] []) rfl]
 have h1:=YH.notType
 have h2:=YH.canCreate
 have V7:=F.typeCall_set_1 (.ref l)
 repeat (any_goals (first|assumption|wp_step))
 refine Zd (C0 (E:=E) (Q:=λobj s1=>obj= .ref s.heap.objs.size/\s1={s with heap:=s.heap.push (pR w)}) ⟨rfl,rfl⟩) λr s1 hr=>?_
 cases r with
 |error e=>exact hr
 |ok fl=>
  cases fl with
  |ret obj=>
   obtain⟨rfl,rfl⟩:=hr
   have hS:(s.heap.push (pR w)).get? s.heap.objs.size=some (pR w):=WB _ rfl
   have hT:Shared.TypeIs {s with heap:=s.heap.push (pR w)} (.ref s.heap.objs.size) "set":=⟨_,hS,rfl⟩
   have V8:=YH.init.lookup
   have Ro:=YH.init.bind (.ref s.heap.objs.size)
   repeat (any_goals (first|assumption|wp_step))
   refine Zd (codeAny_call_builtin (R:=wants (λr s2=>r= .none /\∃h' tk,s2={s with heap:=h',toks:=tk}/\jo w s.heap.objs.size (Py.fZ ns) h'/\∀b o,s.heap.get? b=some o->h'.get? b=some o) E) YH.init.plain F.entry_set_init (check_set_init_1 hT ?_)) λr2 s2 Gn=>?_
   .obtain⟨ol,IH,RV,nl,II⟩:=hl
    obtain⟨Uz,Lw,RW,Hb⟩:=ol
    simp only at RV II
    subst RV;subst II
    have PZ:(s.heap.push (pR w)).get? l=some {cls:= .type "list",dict:=Lw,data:= .seq vs.toArray nl,slots:=Hb}:=Wo _ IH
    have UA:=F.sub_list_set
    have UB:=F.sub_list_frozenset
    have eU:(Value.type "list" == Value.type "dict")=false:=by decide
    have RX:(s.heap.push (pR w)).IsList l vs.toArray:=⟨_,PZ,rfl,nl,rfl⟩
    unfold Builtin.«set.__init__» noKeywords Builtin.Frozenset.updateFrom
    generalize UC:pyIter=PI
    wp_walk
    subst UC
    refine Yq RX (Wn (wpAny_runValue ?_))
    have V9:l<s.heap.objs.size:=WH IH
    have UD:A.in1.in1.in1.handled=none:=by simp[hh]
    have z1:(s.heap.push (pR w)).objs.size =s.heap.objs.size+1:=XW ..
    have hn:vs.toArray.size=ns.length:=by rw[WA];exact IntsAre.length hi
    refine zF ((aaF UD _ l (by rw[z1];lia) vs.toArray).toS) (val:=λi=>ns.getD i 0) (by
     rw[z1];simp only[WG,Zl,or_false,not_or];exact⟨by lia,by lia⟩) (λi v hv=>IntsAre.int_at hi i v (by simpa using hv)) (λi hi=>?_) _ 0 _ rfl (XF _) ⟨⟨_,WB _ rfl,rfl,rfl⟩,RX.push _⟩ (w4 w (Wo _ hS)) λs3 mv Ng=>?_
    .rw[hn]at hi
     refine h5 _ ?_
     rw[Wz,Wq hi]
     exact X0 hi
    .have e0:(List.range vs.toArray.size).map (λi=>ns.getD i 0)=ns:=by
      rw[hn]
      apply XD
      intro i
      rw[WI]
      rcases Xr i ns.length with z|z
      .rw[X4 z,Wq z]
       show some (ns.getD i 0)=_
       rw[Wz,Wq z]
       rfl
      .rw[WS z,WS (by simpa using z)]
       rfl
     rw[e0]at Ng
     rw[Moved.eq_with mv]
     refine Wv (Wv ⟨rfl,_,_,rfl,Ng,λb o e=>?_⟩)
     have lb:=WH e
     exact mv.heap b o (by rw[z1];simp only[WG,Zl,or_false,not_or];exact⟨by lia,by lia⟩) (Wo _ (Wo _ e))
   .cases r2 with
    |error e=>exact Gn
    |ok UE=>
     cases UE with
     |ret r=>
      obtain⟨rfl,h',tk,rfl,BV,ED⟩:=Gn
      repeat (any_goals (first|assumption|wp_step))
      exact h _ _ BV ED
     |_=>exact Gn.elim
  |_=>exact hr.elim
end
def gT:Slot "set_iterator" "__next__" "set_iterator.__next__":= .of (owner:="set_iterator") (n:="__next__") (by rw[typeLookup_type,builtinLookup_eq_fast];kernel_rfl) (by decide +kernel) (by decide +kernel) (by decide +kernel) (by first|exact .inl (by decide +kernel)|exact .inr (by decide +kernel)) (by rw[isSubtype_type];kernel_rfl)
def uX:Slot "set_iterator" "__iter__" "set_iterator.__iter__":= .of (owner:="set_iterator") (n:="__iter__") (by rw[typeLookup_type,builtinLookup_eq_fast];kernel_rfl) (by decide +kernel) (by decide +kernel) (by decide +kernel) (by first|exact .inl (by decide +kernel)|exact .inr (by decide +kernel)) (by rw[isSubtype_type];kernel_rfl)
def rm:entryFor table "set_iterator.__next__"=some Builtin.«set_iterator.__next__»:=entryFor_of_tree (by kernel_rfl)
def zG:entryFor table "set_iterator.__iter__"=some Builtin.«dict_keyiterator.__iter__»:=entryFor_alias (id':="dict_keyiterator.__iter__") (by kernel_rfl) rfl (by decide +kernel) (by kernel_rfl)
def w8:entryFor table "set.__iter__"=some Builtin.«frozenset.__iter__»:=entryFor_alias (id':="frozenset.__iter__") (by kernel_rfl) rfl (by decide +kernel) (by kernel_rfl)
def rn(v:Value):argsOk "set_iterator.__next__" ⟨[v],[]⟩:=by unfold argsOk;kernel_rfl
def zH(v:Value):argsOk "set_iterator.__iter__" ⟨[v],[]⟩:=by unfold argsOk;kernel_rfl
noncomputable def uY(b:Bool)(L:List Int)(i:Nat):Nat:=if b then 0 else if i=0 then 0 else(L.getD (i-1) 0).toNat+1
def Hc:∀L∈eE,∀i,i<6->i<=L.length->SetTable.below (L.map Int.toNat).toArray (uY false L i)=i:=by decide +kernel
noncomputable def iH(w:World)(d:Addr)(ep:Nat)(es:Array (Int×Value)):Array (Int×Value):=if w.params.followText "set-order" then pickOrder (w.params.setOrder d ep) es else es
theorem mf:∀(l:List α) (i:Nat) (h:i<l.length),(l[i]::l.eraseIdx i).Perm l
 |x::l,0,_=> .refl _
 |x::l,i+1,h=>(List.Perm.swap x _ _).trans ((mf l i (by simpa using h)).cons x)
theorem uZ(f:Nat->Nat):∀(n k:Nat) (l:List α) (out:Array α),l.length=n->(pickOrder.go f n k l out).toList.Perm (out.toList++l)
 |0,k,l,out,h=>by
  rw[Z4.mp h,W9]
  exact .refl _
 |n+1,k,l,out,h=>by
  have bQ:f k%l.length<l.length:=Nat.mod_lt _ (by lia)
  rw[pickOrder.go,Wq bQ]
  refine(uZ f n (k+1) _ _ (by rw[Zz bQ];lia)).trans ?_
  rw[Ye,WZ]
  exact Yj _ (mf l _ bQ)
def fj(w:World)(d:Addr)(ep:Nat)(es:Array (Int×Value)):(iH w d ep es).toList.Perm es.toList:=by
 unfold iH
 split
 .exact uZ _ _ _ _ _ (Wy ..)
 .exact .refl _
section
variable {prog:Program}{w:World}{A:Around}{E:Value->Shared->Prop}{s:Shared}{d it:Addr}{L:List Int}{o:Obj}{es:Array (Int×Value)}{ep i:Nat}
def zI{Q:Option (Value×Nat)->Shared->Prop}(ho:s.heap.get? d=some o)(hd:o.data= .set es ep (cS (!w.params.followText "set-order") L))(hL:L∈eE)(hm:es.toList.map (·.1)=L)(hi:i<=L.length)
  (h:Q (((iH w d ep es)[i]?).map λe=>(e.2,uY (w.params.followText "set-order") L (i+1))) s):wpAny (model prog w) A (setNext d (uY (w.params.followText "set-order") L i) i ep) Q E s:=by
 have hsz:es.size=L.length:=by rw[<-hm,Wr,Wy]
 have hf:(cS (!w.params.followText "set-order") L).fits es.size=true:=by rw[hsz];exact(me _ hL).1
 unfold setNext
 refine Wn (Y' ho hd hf ?_)
 dsimp only
 unfold setsByText
 refine Wn (Wn (YV (Wv ?_)))
 unfold iH at h
 cases hb:w.params.followText "set-order" with
 |true=>
  rw[hb,WO rfl]at h
  refine XM (λ_=>?_) (λz=>absurd hb z)
  refine XM (λz=>absurd z (by simp)) (λ_=>?_)
  unfold setWalk setsByText
  refine Wn (Wn (Y' ho hd hf (Wn (Wn (YV (Wv ?_))))))
  refine XM (λ_=>Wn (YV (Wv (Wv ?_)))) (λz=>absurd hb z)
  exact h
 |false=>
  rw[hb,WV Wt]at h
  rw[hb]at hd
  refine XM (λz=>absurd (hb.symm.trans z) Wt) (λ_=>?_)
  refine XM (λz=>absurd z Wt) (λ_=>?_)
  refine Wn (XM (λz=>absurd z Wt) (λ_=>Wv ?_))
  have i5:=(Nc L hL).2
  have UG:SetTable.below (cS (!false) L).place (uY false L i)=i:=Hc L hL i (by lia) hi
  rw[UG]
  rcases Xr i L.length with z|z
  .have h1:es[i]?=some (es[i]'(by rw[hsz];exact z)):=W5 _
   have h2:(cS (!false) L).place[i]?=some (L.getD i 0).toNat :=by
    show(L.map Int.toNat).toArray[i]?=_
    rw[List.getElem?_toArray,WI,Wq z,Wz,Wq z]
    rfl
   rw[h1]at h⊢
   rw[h2]
   exact Wv h
  .have h1:es[i]?=none:=Y5 (by rw[hsz];exact z)
   rw[h1]at h⊢
   exact Wv h
def u5(h:Heap)(it d:Addr)(sl i n ep:Nat):Prop:=∃o,h.get? it=some o/\o.cls= .type "set_iterator"/\o.data= .fields #[.int sl 0,.int i 0,.ref d,.int n 0,.int ep 0]
noncomputable abbrev RY(d:Addr)(n ep:Nat):Obj:={cls:= .type "set_iterator",data:= .fields #[.int 0 0,.int 0 0,.ref d,.int n 0,.int ep 0]}
def nB(w:World)(d:Addr)(L:List Int)(es:Array (Int×Value))(ep:Nat)(h:Heap):Prop:=∃o,h.get? d=some o/\o.ExactSet/\o.data= .set es ep (cS (!w.params.followText "set-order") L)
def nB.keep(h:nB w d L es ep hp)(k:∀o,hp.get? d=some o->xF.get? d=some o):nB w d L es ep xF:=let ⟨o,a,b⟩:=h;⟨o,k o a,b⟩
def nB.ty(h:nB w d L es ep s.heap):s.TypeIs (.ref d) "set":=let ⟨o,a,b,_⟩:=h;⟨o,a,b.1⟩
def Hd{Q:Value->Shared->Prop}(r:nB w d L es ep s.heap)(hL:L∈eE)(hm:es.toList.map (·.1)=L)(h:Q (.ref s.heap.objs.size) {s with heap:=s.heap.push (RY d es.size ep)}):wpAny (model prog w) A (pyIter (.ref d)) Q E s:=by
 have T:=r.ty
 obtain⟨o,ho,hex,hd⟩:=r
 have hsz:es.size=L.length:=by rw[<-hm,Wr,Wy]
 have hf:(cS (!w.params.followText "set-order") L).fits es.size=true:=by rw[hsz];exact(me _ hL).1
 refine Y9 T F.slot_set_iter (Xb F.slot_set_iter T w8 ?_ (F.args_set_iter_1 _))
 unfold Builtin.«frozenset.__iter__»
 refine Wn (m:=Builtin.Frozenset.slot0 "__iter__" _) (Wv (a:=d) ?_)
 refine Wn (Wn (Zw ho hd hf (Wv ?_)))
 unfold setDrawn setsByText
 refine Wn (Wn (Y' ho hd hf (Wn (Wn (YV (Wv (Wv ?_)))))))
 extract_lets jp
 refine XM (λz=>?_) (λ_=>?_)
 .exact absurd (Bool.and_eq_true_iff.mp z).2 Wt
 .refine Wn (Wv ?_)
  refine Wn (m:=setEpoch d) (wpAny_setEpoch_of ho hd hf (Wn (W_ (Wv ⟨_,rfl,"set_iterator",_,⟨_,WB _ rfl,rfl⟩,gT.lookup,?_⟩))))
  simpa[rawInt]using h
def He{Q:Option Value->Shared->Prop}(k:u5 s.heap it d (uY (w.params.followText "set-order") L i) i es.size ep)(eU:d≠it)(r:nB w d L es ep s.heap)(hL:L∈eE)(hm:es.toList.map (·.1)=L){e:Int×Value}(he:(iH w d ep es)[i]?=some e)
  (h:∀h',u5 h' it d (uY (w.params.followText "set-order") L (i+1)) (i+1) es.size ep->Heap.SameBut it s.heap h'->Q (some e.2) {s with heap:=h'}):wpAny (model prog w) A (pyNext (.ref it)) Q E s:=by
 obtain⟨oi,ei,ci,di⟩:=k
 have T:s.TypeIs (.ref it) "set_iterator":=⟨oi,ei,ci⟩
 obtain⟨o,ho,hex,hd⟩:=r
 have hsz:es.size=L.length:=by rw[<-hm,Wr,Wy]
 have hf:(cS (!w.params.followText "set-order") L).fits es.size=true:=by rw[hsz];exact(me _ hL).1
 have sM:(iH w d ep es).size =es.size:=by rw[<-Wy,(fj w d ep es).length_eq,Wy]
 have hi:i<es.size:=by rw[<-sM];exact(ZA.mp he).1
 unfold pyNext
 refine Wn (Yu (Xi (name:=Str.ofString "__next__") T gT (Xb gT T rm ?_ (rn _))))
 unfold Builtin.«set_iterator.__next__»
 refine Wn (m:=slotArgs "__next__" 0 _) (Wv (a:=(Value.ref it,[])) ?_)
 refine Wn (YR ei di ?_)
 show wpAny _ _ (setEntries d >>= λ_=>_) _ _ s
 refine Wn (Zw ho hd hf ?_)
 extract_lets jp
 refine XM (λz=>absurd z (by simp)) (λ_=>?_)
 show wpAny _ _ (setNext d ((uY (w.params.followText "set-order") L i:Nat):Int).toNat ((i:Nat):Int).toNat ((ep:Nat):Int).toNat >>= λ_=>_) _ _ s
 simp only[Xz]
 refine Wn (zI ho hd hL hm (by lia) ?_)
 rw[he]
 show wpAny _ _ (setField (.ref it) 0 (rawInt (uY (w.params.followText "set-order") L (i+1):Nat)) >>= λ_=>_) _ _ s
 refine Wn (XX ei di (by simp) ?_)
 have e1:=Xp (Obj.mapFields (·.setIfInBounds 0 (rawInt (uY (w.params.followText "set-order") L (i+1):Nat)))) ei (X7 (Xq di _))
 have d1:=Xq di (·.setIfInBounds 0 (rawInt (uY (w.params.followText "set-order") L (i+1):Nat)))
 refine Wn (XX e1 d1 (by simp) (Wv ⟨_,rfl,Wv (h _ ⟨_,Xp _ e1 (X7 (Xq d1 _)),?_,?_⟩ ((Xh ..).trans (Xh ..)))⟩))
 .exact(YK ..).trans ((YK ..).trans ci)
 .rw[Xq d1]
  simp[rawInt]
def Lx{Q:Option Value->Shared->Prop}(hh:A.handled=none)(k:u5 s.heap it d (uY (w.params.followText "set-order") L es.size) es.size es.size ep)(r:nB w d L es ep s.heap)(hL:L∈eE)(hm:es.toList.map (·.1)=L)
  (h:∀h',Heap.ExtBut it s.heap h'->Q none {s with heap:=h'}):wpAny (model prog w) A (pyNext (.ref it)) Q E s:=by
 obtain⟨oi,ei,ci,di⟩:=k
 have T:s.TypeIs (.ref it) "set_iterator":=⟨oi,ei,ci⟩
 obtain⟨o,ho,hex,hd⟩:=r
 have hsz:es.size=L.length:=by rw[<-hm,Wr,Wy]
 have hf:(cS (!w.params.followText "set-order") L).fits es.size=true:=by rw[hsz];exact(me _ hL).1
 have sM:(iH w d ep es).size =es.size:=by rw[<-Wy,(fj w d ep es).length_eq,Wy]
 unfold pyNext
 refine Wn (Yu (Xi (name:=Str.ofString "__next__") T gT (Xb gT T rm ?_ (rn _))))
 unfold Builtin.«set_iterator.__next__»
 refine Wn (m:=slotArgs "__next__" 0 _) (Wv (a:=(Value.ref it,[])) ?_)
 refine Wn (YR ei di ?_)
 show wpAny _ _ (setEntries d >>= λ_=>_) _ _ s
 refine Wn (Zw ho hd hf ?_)
 extract_lets jp
 refine XM (λz=>absurd z (by simp)) (λ_=>?_)
 show wpAny _ _ (setNext d ((uY (w.params.followText "set-order") L es.size:Nat):Int).toNat ((es.size:Nat):Int).toNat ((ep:Nat):Int).toNat >>= λ_=>_) _ _ s
 simp only[Xz]
 refine Wn (zI ho hd hL hm (by lia) ?_)
 rw[Y5 (by rw[sM];exact WE _)]
 show wpAny _ _ (setField (.ref it) 2 .none >>= λ_=>_) _ _ s
 refine Wn (XX ei di (by simp) ?_)
 show wpAny _ _ (newExc (.type "StopIteration") [] >>= λ_=>_) _ _ _
 refine Wn ?_
 simp only[newExc,newTuple]
 refine Wn (W_ (Wn (m:=firstArgMember _ _) (Zt (a:=Value.none) (by first|rfl|(simp only[firstArgMember];rfl)) (W_ ?_ (by size_fits)))) (by size_fits))
 simp only[raiseNew]
 refine Wn (Z3 ?_)
 rw[show A.in1.handled=none from hh]
 refine Wn (Wv (aau ?_))
 refine Wn (Zk (T:="StopIteration") (b:=true) ⟨_,WB _ rfl,rfl⟩ isSubtype_stop ?_)
 exact Wv (h _ (((Xh ..).extBut.push _).push _))
def C1(hh:A.handled=none)(it d:Addr)(eU:d≠it)(hL:L∈eE)(hm:es.toList.map (·.1)=L)(ep:Nat):Walks prog w A it [it,d] [it] es.size (λi v=>∃e,(iH w d ep es)[i]?=some e/\v=e.2) (λi h=>u5 h it d (uY (w.params.followText "set-order") L i) i es.size ep/\nB w d L es ep h) where
 sub:=λb hb=>by simp at hb;simp[hb]
 frame:=λi h h' ⟨⟨o,a,b⟩,r⟩ k=>⟨⟨o,k it (by simp) o a,b⟩,r.keep λo e=>k d (by simp) o e⟩
 item:=λi s Q E hi ⟨k,r⟩ h=>by
  have sM:(iH w d ep es).size =es.size:=by rw[<-Wy,(fj w d ep es).length_eq,Wy]
  have he:(iH w d ep es)[i]?=some ((iH w d ep es)[i]'(by rw[sM];exact hi)):=W5 _
  exact He k eU r hL hm he λh' k' sb=>h _ h' s.toks ⟨_,he,rfl⟩ ⟨k',r.keep λo e=>(sb.2 d eU).trans e⟩ λb o nb e=>(sb.2 b (by simpa using nb)).trans e
 done:=λs Q E ⟨k,r⟩ h=>Lx hh k r hL hm λh' ex=>h h' s.toks λb o nb e=>ex b o (by simpa using nb) e
 self:=λi s Q E ⟨⟨o,a,b,c⟩,r⟩ h=>by
  have T:s.TypeIs (.ref it) "set_iterator":=⟨o,a,b⟩
  refine Y9 T uX (Xb uX T zG ?_ (zH _))
  show wpAny _ _ (ret (.ref it)) _ _ s
  exact Wv ⟨_,rfl,"set_iterator",_,T,gT.lookup,h⟩
def Hf{Q:Bool->Shared->Prop}(hT:s.TypeIs (.ref d) "set")(h:Q false s):wpAny (model prog w) A (Builtin.List.listLengthHint (.ref d)) Q E s:=by
 unfold Builtin.List.listLengthHint
 refine Wn (Zu hT PySem.F.slot_set_len.lookup ?_)
 generalize RZ:("set.__len__":String)=UH
 wp_delta
 rw[show splitId UH=some ("set","__len__") from by subst RZ;decide +kernel]
 subst RZ
 refine Wn (Zk (T:="set") (b:=true) hT sub_set_self ?_)
 refine XM (λz=>absurd z (by decide)) (λ_=>?_)
 refine XM (λ_=>?_) (λz=>absurd (by decide +kernel) z)
 exact Wn (ZF hT (Wv h))
def Ly(hL:L∈eE)(hm:es.toList.map (·.1)=L):KdlSrc prog w "set" d d es.size (λi v=>∃e,(iH w d ep es)[i]?=some e/\v=e.2) (nB w d L es ep) where
 type:=λ_ r=>r.ty
 there:=λ_ r=>let ⟨o,a,_⟩:=r;⟨WH a,WH a⟩
 keep:=λ_ _ r k=>r.keep λo e=>k d (.inl rfl) o e
 notList:=by decide
 notTuple:=by decide
 hint:=λ_ _ _ _ r hq=>Hf r.ty hq
 iter:=λA s hh r=>⟨RY d es.size ep,_,λ_ _ hq=>Hd r hL hm hq,C1 hh _ d (let ⟨o,a,_⟩:=r;W2 (WH a)) hL hm ep,
  ⟨⟨_,WB _ rfl,rfl,by unfold uY;cases w.params.followText "set-order" <;> rfl⟩,r.keep λo e=>Wo _ e⟩⟩
def zJ{Q:Value->Shared->Prop}(hh:A.handled=none)(hS:jo w d L s.heap)
  (h:∀(h1 h':Heap) (tk:Nat) (out:Array Value) (c:Nat) (fT:List Int),(∀b o',s.heap.get? b=some o'->h1.get? b=some o')->(∀b o',h1.get? b=some o'->h'.get? b=some o')->h'.get? h1.objs.size=some {cls:= .type "list",data:= .seq out c}->IntsAre out.toList fT->fT.Perm L->fT.Pairwise (· <= ·)->Q (.ref h1.objs.size) {s with heap:=h',toks:=tk}):
  wpAny (model prog w) A (call (.builtin "sorted") [.ref d]) Q E s:=by
 obtain⟨hL,o,es,ep,ho,hex,hd,hm,hv⟩:=hS
 have l5:=(Nc L hL).2
 have hsz:es.size=L.length:=by rw[<-hm,Wr,Wy]
 refine Yk kind_sorted plain_sorted entry_sorted (args_sorted1 _) ?_
 unfold Builtin.«sorted»
 refine Wn (m:=checkCount "sorted" 1 1 _) (Wv (Wn (kdu_collect (A:=A.in1) (Ly hL hm) hh ⟨o,ho,hex,hd⟩ (by rw[hsz,sizeLine_eq];lia) λh1 tk acc k1 ia=>?_)))
 have eq:acc.toList=(iH w d ep es).toList.map (·.2):=by
  apply XD
  intro j
  have sM:(iH w d ep es).size =es.size:=by rw[<-Wy,(fj w d ep es).length_eq,Wy]
  rcases Xr j es.size with z|z
  .have hj:j<acc.size:=by rw[ia.1];exact z
   obtain⟨e,e1,e2⟩:=ia.2 j acc[j] (W5 hj)
   rw[Xe,W5 hj,WI,Xe,e1,e2]
   rfl
  .rw[WS (by rw[Wy,ia.1];exact z),WS (by rw[Wr,Wy,sM];exact z)]
 have UI:∀l:List (Int×Value),(∀e∈l,∃tk,e.2= .int e.1 tk)->IntsAre (l.map (·.2)) (l.map (·.1)):=λl=>by
  induction l with
  |nil=>intro _;exact .nil
  |cons e l ih=>
   intro hl
   obtain⟨t,ht⟩:=hl e Wx
   rw[WJ,WJ,ht]
   exact .cons _ _ (ih λx hx=>hl x (Wu _ hx))
 have hI:IntsAre acc.toList ((iH w d ep es).toList.map (·.1)):=by
  rw[eq]
  exact UI _ λe he=>hv e ((fj w d ep es).mem_iff.mp he)
 have hl:acc.toList.length<64:=by rw[Wy,ia.1,hsz];lia
 refine Wn (Zo ?_ (by rw[sizeLine_eq];lia))
 have vZ:(h1.push (seqObj "list" acc.toList.toArray 0)).get? h1.objs.size=some (seqObj "list" acc.toList.toArray 0):=WB _ rfl
 refine Wn (Xf (Xb slot_list_sort ⟨_,vZ,rfl⟩ entry_list_sort (list_sort_tree (s:={s with heap:=h1.push (seqObj "list" acc.toList.toArray 0),toks:=tk}) vZ hI hl λout fT a1 a2 a3=>⟨_,rfl,Wv ⟨_,rfl,?_⟩⟩) (args_list_sort _)))
 have u1:=get?_update_seq vZ (λ_=>#[])
 have u2:=Wo (seqObj "tuple" acc.toList.toArray 0) u1
 have u3:=Wo (seqObj "list" #[] 0) u2
 have u4:=get?_update_seq u3 (λ_=>out)
 refine h h1 _ tk out _ fT k1 (λb o e=>?_) u4 a1 (a2.trans ((fj w d ep es).map _ |>.trans (by rw[hm]))) a3
 have hb:b≠h1.objs.size:=W2 (WH e)
 unfold sortedHeap
 rw[WX _ _ (Xt hb)]
 refine Wo _ (Wo _ ?_)
 rw[WX _ _ (Xt hb)]
 exact Wo _ e
end
section
variable {X:Cx}
def Lz{n:Int}(h:0<=n/\n<5):n∈n5:=by
 simp only[n5,WG,Zl,or_false]
 lia
noncomputable abbrev Hg(w:World)(a:Addr)(L:List Int):HO:= .ext (jo w a L)
def w_(hc:X.calm=true):cH X (.type "set") (λxs H Q=>∃(p:Addr) (ns:List Int),xs=[.ref p]/\c9 X.K H p (ns.map V.int)/\(∀n∈ns,0<=n/\n<5)/\∀l,H l=none->Q (.ref l) (upd H l (Hg X.w l (Py.fZ ns)))):=by
 intro aa s σ H xs us Q I r zz
 obtain⟨p,ns,rfl,hq,h5,q⟩:=zz
 obtain⟨u,rfl,ru⟩:=vals1 r
 cases ru
 obtain⟨its,rv,pl,hz⟩:=I.list hq
 refine w6 (vs:=its) (I.ok.hd hc) pl.isList (intsAre_of rv) (λn hn=>Lz (h5 n hn)) λh' tk hS k=>?_
 refine⟨.ref s.heap.objs.size,_,I.laid (t':=tk) (a:=s.heap.objs.size) k (WE _) (show aQ X.prog X.w _ h' _ (Hg X.w _ (Py.fZ ns)) from⟨hS,let ⟨_,o,_,_,ho,_⟩:=hS;⟨o,ho⟩,λh1 h2 z kk=>z.keep kk⟩),rfl,q _ I.fresh⟩
def tP(hc:X.calm=true):cH X (.builtin "sorted") (λxs H Q=>∃(p:Addr) (L:List Int),xs=[.ref p]/\H p=some (Hg X.w p L)/\∀fT:List Int,fT.Perm L->fT.Pairwise (· <= ·)->∀l,H l=none->Q (.ref l) (upd H l (.lst (fT.map V.int)))):=by
 intro aa s σ H xs us Q I r zz
 obtain⟨p,L,rfl,hp,q⟩:=zz
 obtain⟨u,rfl,ru⟩:=vals1 r
 cases ru
 have hS:jo X.w p L s.heap:=(I.aR p _ hp).1
 refine zJ (I.ok.hd hc) hS λh1 h' tk out c fT k1 k2 e a1 a2 a3=>?_
 have l5:=(Nc L hS.1).2
 have I1:Inv X aa σ H {s with heap:=h1,toks:=tk}:=I.kept (t':=tk) k1
 have I2:Inv X aa σ (upd H h1.objs.size (.lst (fT.map V.int))) {s with heap:=h',toks:=tk}:=
  I1.laid (t':=tk) k2 (WE _) (show aQ X.prog X.w _ h' _ (.lst (fT.map V.int)) from⟨by rw[Wr,a2.length_eq,sizeLine_eq];lia,out.toList,c,nP a1,by simpa using e⟩)
 exact⟨.ref h1.objs.size,_,I2,rfl,q fT a2 a3 _ (I1.aR.fresh (WE _))⟩
end
end L2
namespace Py
open PySem PySem.Spec PyProof.Rows L2
section
variable {G:GT}{F:FT}
def Hh(n0:∀N sc x,bE G e' N sc x=false:=by intro _ _ _;rfl)(n1:∀N sc xs,cN G e' N sc xs=false:=by intro _ _ _;rfl)(n2:∀N sc xs,jl G e' N sc xs=false:=by intro _ _ _;rfl)(n3:∀N sc xs,EI G e' N sc xs=false:=by intro _ _ _;rfl)(n4:∀N sc xs,Bl G e' N sc xs=false:=by intro _ _ _;rfl):cw G F e':=
 .gE (λX hC x h=>absurd h (by rw[n0];exact Wt)) (λX hC x h=>absurd h (by rw[n0];exact Wt)) (λX hC x h=>absurd h (by rw[n0];exact Wt)) n1 n2 n3 n4
def C2(he:cw G F es):cw G F (.c8 es) where
 e:=λX hC x h=>ff h
 t:=λX hC x h=>ff h
 f:=λX hC x h=>ff h
 es:=λX hC x h=>ff h
 ts:=λX hC x h=>ff h
 o:=λX hC x h=>ff h
 i:=λX hC tg x h m=>by
  cases x with
  |Call fn args dj p=>
   change (match (generalizing:=false) fn,dj with
   | .Name x _,[]=>decide (x="range")&&eJ X.env.scope x&&decide (args.length=1)&&cN G es X.N X.env.scope args
   |_,_=>false)=true at h
   split at h
   .rename_i n pn
    simp only[Ws,decide_eq_true_eq]at h
    obtain⟨⟨⟨rfl,h1⟩,h2⟩,h3⟩:=h
    exact Lq (dQ h1) (hC.mg _ (by simp[ig])) (he.es X hC _ h3 false) (λρ ds hd=>pO h3 hd) h2 (jm h3)
   .cases h
  |_=>exact ff h
def Hj(ha:cw G F a):cw G F (.it a) where
 e:=λX hC x h=>ff h
 t:=λX hC x h=>ff h
 f:=λX hC x h=>ff h
 es:=λX hC x h=>ff h
 ts:=λX hC x h=>ff h
 o:=λX hC x h=>ff h
 i:=λX hC tg x h m=>Px (ha.e X hC x h m)
def mh(hC:Ct X G F)(hi:cw G F it)(hf:cw G F ifs)(he:cw G F cD)(h4:pN X.N X.env.scope dP [n] fr=true)(h5:Bl G it X.N X.env.scope iter=true)
  (h6:jl G ifs (jC X.N [n] fr) (eC dP X.env.scope) fs=true) (h7:bE G cD (jC X.N [n] fr) (eC dP X.env.scope) el=true):
  ∀cl C aa s H ex,PG (hJ X dP cl C (jC X.N [n] fr) aa s H ex) (.Name n q) (b9 0)/\wq (hJ X dP cl C (jC X.N [n] fr) aa s H ex) fs (tB X.K (fG F true ifs))/\PE (hJ X dP cl C (jC X.N [n] fr) aa s H ex) el (tV X.K false (ev F false cD)):=λcl C aa s H ex=>by
 refine cU (l9 h4) λS P0 nd=>have hl:=P0 _ Wx;?_
 have Bm:=hC.inner dP cl C (jC X.N [n] fr) aa s H ex
 exact⟨gN nd rfl (gD hl).1 (gD hl).2,(hf.ts _ Bm fs h6).1,he.e _ Bm el h7 false⟩
def ot(h:bE G (.comp fr tg it ifs cD) N sc x=true):∃el n q iter fs dP p,x= .ListComp el [⟨.Name n q,iter,fs,0⟩] dP p/\tg=0/\eK iter=true/\pN N sc dP [n] fr=true/\Bl G it N sc iter=true/\jl G ifs (jC N [n] fr) (eC dP sc) fs=true/\bE G cD (jC N [n] fr) (eC dP sc) el=true:=by
 cases x with
 |ListComp el gens dP p=>
  cases gens with
  |nil=>exact ff h
  |cons g gs=>
   obtain⟨mS,iter,fs,k⟩:=g
   cases gs with
   |cons g2 _=>exact ff h
   |nil=>
    cases mS with
    |Name n q=>
     change (decide (tg=0)&&decide (k=0)&&eK iter&&pN N sc dP [n] fr&&Bl G it N sc iter&&jl G ifs (jC N [n] fr) (eC dP sc) fs&&bE G cD (jC N [n] fr) (eC dP sc) el)=true at h
     simp only[Ws,decide_eq_true_eq]at h
     obtain⟨⟨⟨⟨⟨⟨rfl,rfl⟩,h3⟩,h4⟩,h5⟩,h6⟩,h7⟩:=h
     exact⟨el,n,q,iter,fs,dP,p,rfl,rfl,h3,h4,h5,h6,h7⟩
    |_=>exact ff h
 |_=>exact ff h
def u6(ρ:Env):ev F false (.comp fr 0 it ifs cD) ρ=((kA F true it ρ).bind λxs=>if xs.length<=ba then walk (l6 0 (fG F true ifs) (ev F false cD) fr ρ) xs else none).map .lst :=by
 show(kA F true it ρ).bind _=_
 cases kA F true it ρ with
 |none=>rfl
 |some xs=>
  show(if xs.length<=ba then _ else _)=Option.map _ (if xs.length<=ba then _ else _)
  by_cases h:xs.length<=ba
  .rw[WO h,WO h]
   rfl
  .rw[WV h,WV h]
   rfl
def rq{e:Option D}{g:Option (List D)}(h:e=g.map D.lst):e.bind fW=g:=by rw[h];cases g<;>rfl
def u7{K:PySem.W.Frag}{fr:List Nat}{it ifs cD:E}(σ:St)(H:Hp)(Q:VK)(h:tF K (λρ=>(ev F false (.comp fr 0 it ifs cD) ρ).bind fW) σ H Q):
  tF K (λρ=>(kA F true it ρ).bind λxs=>if xs.length<=ba then walk (l6 0 (fG F true ifs) (ev F false cD) fr ρ) xs else none) σ H Q:=by
 rwa [rj λρ=>rq (u6 ρ)]at h
def zK(hi:cw G F it)(hf:cw G F ifs)(he:cw G F cD):cw G F (.comp fr tg it ifs cD):=by
 have aK:∀X,Ct X G F->∀x,bE G (.comp fr tg it ifs cD) X.N X.env.scope x=true->(∃el gs s p,x= .ListComp el gs s p)/\tg=0/\PE X x (tF X.K λρ=>(ev F false (.comp fr tg it ifs cD) ρ).bind fW):=λX hC x h=>by
  refine Q5 (ot h) λel n q iter fs dP p aj aU h3 h4 h5 h6 h7=>?_
  subst aj
  subst aU
  exact⟨⟨_,_,_,_,rfl⟩,rfl,(GZ (hi.i X hC _ iter h5 true) (l9 h4).1 hC.calm (mh hC hi hf he h4 h5 h6 h7) (cR h3)).weak λσ H Q z=>u7 σ H Q z⟩
 have wX:tg=0->∀ρ d,ev F false (.comp fr tg it ifs cD) ρ=some d->∃ds,d= .lst ds:=λht ρ d hd=>by
  subst ht
  rw[u6]at hd
  refine ae (map_some hd) λxs h1 fF=>?_
  subst fF
  exact⟨_,rfl⟩
 refine .gE (λX hC x h m=>?_) (λX hC x h _=>?_) (λX hC x h z=>?_)
 .exact cU (aK X hC x h) λ_ hq k=>fL m k (wX hq)
 .obtain⟨⟨el,gs,s,p,rfl⟩,hq,k⟩:=aK X hC x h
  exact cZ (fL false k (wX hq)) λ_=>rfl
 .exact(aK X hC x h).2.2
def P4{K:PySem.W.Frag}:PD K 2 2 (BU K 2 (nG (b9 0) (nG (b9 1) Bt))):=λO x H d ys bK Q r e q=>by
 cases d with
 |tup xs=>
  change (if xs.length=1+1 then some xs else none)=some ys at e
  split at e
  .rename_i hl
   cases e
   obtain⟨a,vs,rfl,h1,h2⟩:=r.gS
   have hv:=h2.length
   rw[hl]at hv
   obtain⟨v1,v2,rfl⟩:∃v1 v2,vs=[v1,v2]:=by
    cases vs with
    |nil=>cases hv
    |cons v1 vs=>cases vs with
     |nil=>cases hv
     |cons v2 vs=>cases vs with
      |nil=>exact⟨v1,v2,rfl⟩
      |cons _ _=>simp at hv
   exact⟨a,_,rfl,.inr h1,rfl,v1,_,rfl,v2,_,rfl,rfl,q _ h2⟩
  .cases e
 |_=>cases e
def UJ{K:PySem.W.Frag}:lJ 2 (BU K 2 (nG (b9 0) (nG (b9 1) Bt))):=λx σ H Q h=>by
 obtain⟨a,xs,e,h,hl,v,r,e1,v',r',e2,e3,hq⟩:=h
 refine⟨a,xs,e,h,hl,v,r,e1,v',r',e2,e3,hq,by simp,λi hi=>?_⟩
 rw[WT (by lia),WT (by lia)]
def u9(ρ:Env):ev F false (.lM fr a ifs cD) ρ=(((ev F true a ρ).bind λx=>(seq x).map (aJ 0)).bind λxs=>if xs.length<=ba then walk (l6 2 (fG F true ifs) (ev F false cD) fr ρ) xs else none).map .lst :=by
 show Option.bind _ _=_
 cases (ev F true a ρ).bind λx=>(seq x).map (aJ 0)with
 |none=>rfl
 |some xs=>
  show(if xs.length<=ba then _ else _)=Option.map _ (if xs.length<=ba then _ else _)
  by_cases h:xs.length<=ba
  .rw[WO h,WO h]
   rfl
  .rw[WV h,WV h]
   rfl
def zL(ha:cw G F a)(hf:cw G F ifs)(he:cw G F cD):cw G F (.lM fr a ifs cD):=by
 have aK:∀X,Ct X G F->∀x,bE G (.lM fr a ifs cD) X.N X.env.scope x=true->(∃el gs s p,x= .ListComp el gs s p)/\PE X x (tF X.K λρ=>(ev F false (.lM fr a ifs cD) ρ).bind fW):=λX hC x h=>by
  cases x with
  |ListComp el gens dP p=>
   refine⟨⟨_,_,_,_,rfl⟩,?_⟩
   change (match (generalizing:=false) gens with
    |[⟨mS,iter,fs,k⟩]=>G6 mS λx y=>jk iter λf a0=>decide (k=0)&&decide (f="enumerate")&&eJ X.env.scope f&&pN X.N X.env.scope dP [x,y] fr&&bE G a X.N X.env.scope a0&&aW a0&&jl G ifs (jC X.N [x,y] fr) (eC dP X.env.scope) fs&&bE G cD (jC X.N [x,y] fr) (eC dP X.env.scope) el
    |_=>false)=true at h
   split at h
   .obtain⟨nx,_,ny,_,_,_,rfl,g⟩:=CG h
    obtain⟨_,_,_,_,rfl,g2⟩:=dR g
    replace h:=g2
    simp only[Ws,decide_eq_true_eq]at h
    obtain⟨⟨⟨⟨⟨⟨⟨rfl,rfl⟩,h1⟩,h4⟩,h5⟩,h6⟩,h7⟩,h8⟩:=h
    obtain⟨S,hl,nd⟩:=l9 h4
    rw[rj λρ=>rq (u9 ρ)]
    refine(oX (EH (dQ h1) (hC.mg _ (by simp[ig])) (ha.e X hC _ h5 true) (bN h6)) S hC.calm UJ (λcl C aa s H ex=>?_) (cR rfl)).weak λσ H Q z=>jW P4 σ H Q z
    have Bm:=hC.inner dP cl C (jC X.N [nx,ny] fr) aa s H ex
    have l1:=hl _ Wx
    have l2:=hl _ (Wu _ Wx)
    exact⟨yF Bm.calm (lu (gN nd rfl (gD l1).1 (gD l1).2) (lu (gN nd rfl (gD l2).1 (gD l2).2) ud)),(hf.ts _ Bm _ h7).1,he.e _ Bm el h8 false⟩
   .cases h
  |_=>exact ff h
 have wX:∀ρ d,ev F false (.lM fr a ifs cD) ρ=some d->∃ds,d= .lst ds:=λρ d hd=>by
  rw[u9]at hd
  obtain⟨xs,_,rfl⟩:=map_some hd
  exact⟨_,rfl⟩
 refine .gE (λX hC x h m=>fL m (aK X hC x h).2 wX) (λX hC x h _=>?_) (λX hC x h z=>(aK X hC x h).2)
 obtain⟨⟨el,gs,s,p,rfl⟩,k⟩:=aK X hC x h
 exact cZ (fL false k wX) λ_=>rfl
def C3(ns:List Int):(fZ ns).Pairwise (· <= ·):=aal Yx (by decide)
def zM(ha:cw G F a):cw G F (.sset a):=by
 have aK:∀X,Ct X G F->∀x,bE G (.sset a) X.N X.env.scope x=true->(∃fn args dj p,x= .Call fn args dj p)/\PE X x (tF X.K λρ=>(ev F false (.sset a) ρ).bind fW):=λX hC x h=>by
  obtain⟨_,_,_,_,rfl,g⟩:=dR (e:=x) h
  obtain⟨_,_,_,_,rfl,g2⟩:=dR g
  replace h:=g2
  refine⟨⟨_,_,_,_,rfl⟩,?_⟩
  simp only[Ws,decide_eq_true_eq]at h
  obtain⟨⟨⟨⟨⟨rfl,rfl⟩,h3⟩,h4⟩,h5⟩,h6⟩:=h
  refine PE.weak (eM (tP hC.calm) (dQ h3) (hC.mg _ (by simp[ig])) boot_sorted (cb (dB (w_ hC.calm) (dQ h4) (hC.mg _ (by simp[ig])) boot_set (cb (ha.e X hC _ h5 true) c_ (bN h6)) (by decide) (by decide) (bN h6) rfl) c_ rfl) (by decide) (by decide) rfl rfl) λσ H Q zz=>?_
  obtain⟨O,ρ,ds,hx,hd,q⟩:=zz
  obtain⟨d,e1,e2⟩:=bind_some hd
  obtain⟨y,e3,e4⟩:=bind_some (show(ev F true a ρ).bind uk=some d from e1)
  cases y with
  |lst ys=>
   obtain⟨ns,e5,e6⟩:=bind_some (show(aP ys).bind _=_ from e4)
   split at e6
   .rename_i hz
    cases e6
    cases e2
    refine⟨O,ρ,.lst ys,hx,e3,λv H1 s1 r1=>?_⟩
    obtain⟨p,us,rfl,h7,h8⟩:=r1.lst
    have:=cx h8 e5
    subst this
    refine⟨p,ns,rfl,h7,hz.1,λl hl=>⟨l,fZ ns,rfl,ag,λfT hp hs l2 O7=>?_⟩⟩
    rw[hp.eq_of_pairwise (λa b _ _ x y=>Int.le_antisymm x y) hs (C3 ns)]
    exact q l2 _ _ (s1.trans (af.upd hl)) O7 (dD _)
   .cases e6
  |_=>cases e4
 have wX:∀ρ d,ev F false (.sset a) ρ=some d->∃ds,d= .lst ds:=λρ d hd=>by
  obtain⟨y,e3,e4⟩:=bind_some (show(ev F true a ρ).bind uk=some d from hd)
  cases y with
  |lst ys=>
   obtain⟨ns,e5,e6⟩:=bind_some (show(aP ys).bind _=_ from e4)
   split at e6
   .cases e6;exact⟨_,rfl⟩
   .cases e6
  |_=>cases e4
 refine .gE (λX hC x h m=>fL m (aK X hC x h).2 wX) (λX hC x h _=>?_) (λX hC x h z=>ff z)
 obtain⟨⟨fn,args,dj,p,rfl⟩,k⟩:=aK X hC x h
 exact cZ (fL false k wX) λ_=>rfl
def snd(e':E):cw G F e':=by
 induction e' with
 |nil=>exact CI
 |cons a r ha hr=>exact zy ha hr
 |var i=>exact CJ
 |c d=>exact Lr
 |bin o a b ha hb=>exact CK ha hb
 |cmp o a b ha hb=>exact CL ha hb
 |tup es he=>exact CN he
 |lst es he=>exact CO he
 |idx a i ha hi=>exact CP ha hi
 |sl a lo hi ha hl hh=>exact G7 ha hl hh
 |call f es he=>exact zA he
 |prim q es he=>exact zB he
 |iW q es he=>exact CQ he
 |comp fr tg it ifs cD hi hf he=>exact zK hi hf he
 |c8 es he=>exact C2 he
 |it a ha=>exact Hj ha
 |eQ mm o es ho he=>exact zC ho he
 |BO a _=>exact Hh
 |du i k hk=>exact zD hk
 |qu neg k i hk=>exact CV hk
 |dm i=>exact wY
 |dk i=>exact G9
 |dv i=>exact G_
 |En a ha=>exact CW ha
 |sset a ha=>exact zM ha
 |lM fr a ifs cD ha hf he=>exact zL ha hf he
 |wu k es he=>exact CM he
end
def Os(ab:Addr->Prop)(ow:Nat->Option Addr):Addr->Prop:=λa=>ab a\/∃i,ow i=some a
noncomputable def ou(ow:Nat->Option Addr)(i:Nat)(o:Option Addr):Nat->Option Addr:=λj=>if j=i then o else ow j
def aH:ou ow i o i=o:=WO rfl
def aL(h:¬j=i):ou ow i o j=ow j:=WV h
structure SX(K:PySem.W.Frag)(H₀:Hp)(ab Z:Addr->Prop)(kv:List V)(kd:List D)(ow:Nat->Option Addr)(σ:St)(H:Hp)(ρ:Env):Prop where
 ex:EX K (Os ab ow) σ H ρ
 own:∀(i:Nat) (d:D),ρ[i]?=some (some (true,d))->∃a,σ[i]?=some (some (.ref a))/\((lL d=false/\ow i=some a)\/(lL d=true/\Z a/\ab a))
 inj:∀i j a,ow i=some a->ow j=some a->i=j
 new:∀i a,ow i=some a->H₀ a=none
 same:af H₀ H
 kp:av K (Os ab ow) H kv kd
 o0:∀a,ab a->∃o,H₀ a=some o
 len:ρ.length=σ.length
section
variable {K:PySem.W.Frag}{H₀:Hp}{ab Z:Addr->Prop}{kv:List V}{kd:List D}{ow:Nat->Option Addr}{σ:St}{H H1:Hp}{ρ:Env}
theorem SX.mono(h:SX K H₀ ab Z kv kd ow σ H ρ)(s:af H H1):SX K H₀ ab Z kv kd ow σ H1 ρ:=⟨h.ex.mono s,h.own,h.inj,h.new,h.same.trans s,h.kp.mono s,h.o0,h.len⟩
theorem SX.put(h:SX K H₀ ab Z kv kd ow σ H ρ)(r:bx K (Os ab ow) H v d)(i:Nat):SX K H₀ ab Z kv kd (ou ow i none) (σ.set i (some v)) H (Py.put ρ i false d):=by
 have sub:∀a,Os ab (ou ow i none) a->Os ab ow a:=λa z=>by
  rcases z with z|⟨j,z⟩
  .exact .inl z
  .by_cases hj:j=i
   .rw[hj,aH]at z;cases z
   .rw[aL hj]at z;exact .inr ⟨j,z⟩
 refine⟨⟨λa ha=>h.ex.live a (sub a ha),λj o d' hj=>?_⟩,λj d' hj=>?_,λj k a hj hk=>?_,λj a hj=>?_,h.same,h.kp.weak sub,h.o0,by unfold Py.put;rw[Xm,Xm];exact h.len⟩
 .by_cases eF:j=i
  .subst eF
   unfold Py.put at hj
   by_cases hl:j<ρ.length
   .rw[WW hl]at hj
    cases hj
    exact⟨v,WW (by rw[<-h.len];exact hl),r.weak sub⟩
   .rw[WS (by rw[Xm];lia)]at hj;cases hj
  .unfold Py.put at hj
   rw[WT (Xt eF)]at hj
   refine ae (h.ex.jB j o d' hj) λw h1 h2=>⟨w,by rw[WT (Xt eF)];exact h1,?_⟩
   cases o with
   |true=>
    refine au λnO=>bL h2 λa e1 e2 c=>ae (h.own j d' hj) λa' o2 o1=>?_
    rw[h1]at o2
    cases o2
    cases e1
    exact nO<|⟨a,rfl,o1.elim (λo1=> .inr ⟨j,by rw[aL eF];exact o1.2⟩) (λo1=> .inl o1.2.2),c.weak sub⟩
   |false=>exact bx.weak h2 sub
 .by_cases eF:j=i
  .subst eF
   unfold Py.put at hj
   by_cases hl:j<ρ.length
   .rw[WW hl]at hj;cases hj
   .rw[WS (by rw[Xm];lia)]at hj;cases hj
  .unfold Py.put at hj
   rw[WT (Xt eF)]at hj
   exact ae (h.own j d' hj) λa o2 o1=>⟨a,by rw[WT (Xt eF)];exact o2,o1.imp (λo1=>⟨o1.1,by rw[aL eF];exact o1.2⟩) id⟩
 .by_cases h1:j=i
  .rw[h1,aH]at hj;cases hj
  .by_cases h2:k=i
   .rw[h2,aH]at hk;cases hk
   .rw[aL h1]at hj;rw[aL h2]at hk;exact h.inj j k a hj hk
 .by_cases h1:j=i
  .rw[h1,aH]at hj;cases hj
  .rw[aL h1]at hj;exact h.new j a hj
def zN:∀a,Os ab (ou ow i (some p)) a->Os ab ow a\/a=p:=λa z=>by
 rcases z with z|⟨j,z⟩
 .exact .inl (.inl z)
 .by_cases hj:j=i
  .rw[hj,aH]at z;cases z;exact .inr rfl
  .rw[aL hj]at z;exact .inl (.inr ⟨j,z⟩)
def mi(hp:H1 p=none)(r:av K (Os ab ow) H1 vs ds):av K (Os ab (ou ow i (some p))) (L2.upd H1 p u) vs ds:=((r.own hp).mono (af.upd hp)).weak zN
def SX.LA(h:SX K H₀ ab Z kv kd ow σ H ρ)(s:af H H1)(hp:H1 p=none)(hu:qY u)(i:Nat)(hi:i<ρ.length)(Nh:lL d0=false)(c:eg K (Os ab (ou ow i (some p))) (L2.upd H1 p u) p d0):
  SX K H₀ ab Z kv kd (ou ow i (some p)) (σ.set i (some (.ref p))) (L2.upd H1 p u) (Py.put ρ i true d0):=by
 have h1:=h.mono s
 have Hk:H₀ p=none:=by
  cases z:H₀ p with
  |none=>rfl
  |some o=>rw[h1.same _ _ z]at hp;cases hp
 have sub:∀a,Os ab (ou ow i (some p)) a->(λa=>Os ab ow a\/a=p) a:=λa z=>by
  rcases z with z|⟨j,z⟩
  .exact .inl (.inl z)
  .by_cases hj:j=i
   .rw[hj,aH]at z;cases z;exact .inr rfl
   .rw[aL hj]at z;exact .inl (.inr ⟨j,z⟩)
 have up:af H1 (L2.upd H1 p u):=af.upd hp
 have mv:∀{v d},bx K (Os ab ow) H1 v d->bx K (Os ab (ou ow i (some p))) (L2.upd H1 p u) v d:=λq=>((q.own hp).mono up).weak sub
 have UK:∀{v d},av K (Os ab ow) H1 v d->av K (Os ab (ou ow i (some p))) (L2.upd H1 p u) v d:=λq=>((q.own hp).mono up).weak sub
 have R1:∀j,ow j≠some p:=λj z=>by
  refine ae (h1.ex.live p (.inr ⟨j,z⟩)) λus q _=>?_
  rw[q]at hp;cases hp
 refine⟨⟨λa ha=>?_,λj o d' hj=>?_⟩,λj d' hj=>?_,λj k a hj hk=>?_,λj a hj=>?_,h1.same.trans up,UK h1.kp,h.o0,by unfold Py.put;rw[Xm,Xm];exact h.len⟩
 .rcases sub a ha with z|z
  .exact ae (h1.ex.live a z) λus q qo=>⟨us,up _ _ q,qo⟩
  .subst z;exact⟨u,ag,hu⟩
 .by_cases eF:j=i
  .subst eF
   unfold Py.put at hj
   rw[WW hi]at hj
   cases hj
   exact⟨.ref p,WW (by rw[<-h.len];exact hi),p,rfl,.inr ⟨j,aH⟩,c⟩
  .unfold Py.put at hj
   rw[WT (Xt eF)]at hj
   refine ae (h1.ex.jB j o d' hj) λw q1 q2=>⟨w,by rw[WT (Xt eF)];exact q1,?_⟩
   cases o with
   |true=>
    refine au λnO=>bL q2 λa e1 e2 c'=>ae (h.own j d' hj) λa' o2 o1=>?_
    rw[q1]at o2
    cases o2
    cases e1
    exact nO<|⟨a,rfl,o1.elim (λo1=> .inr ⟨j,by rw[aL eF];exact o1.2⟩) (λo1=> .inl o1.2.2),((c'.own hp).mono up).weak sub⟩
   |false=>exact mv q2
 .by_cases eF:j=i
  .subst eF
   unfold Py.put at hj
   rw[WW hi]at hj
   cases hj
   exact⟨p,WW (by rw[<-h.len];exact hi),.inl ⟨Nh,aH⟩⟩
  .unfold Py.put at hj
   rw[WT (Xt eF)]at hj
   exact ae (h.own j d' hj) λa o2 o1=>⟨a,by rw[WT (Xt eF)];exact o2,o1.imp (λo1=>⟨o1.1,by rw[aL eF];exact o1.2⟩) id⟩
 .by_cases q1:j=i
  .rw[q1,aH]at hj
   cases hj
   by_cases q2:k=i
   .rw[q1,q2]
   .rw[aL q2]at hk;exact absurd hk (R1 k)
  .rw[aL q1]at hj
   by_cases q2:k=i
   .rw[q2,aH]at hk
    cases hk
    exact absurd hj (R1 j)
   .rw[aL q2]at hk;exact h.inj j k a hj hk
 .by_cases q1:j=i
  .rw[q1,aH]at hj;cases hj;exact Hk
  .rw[aL q1]at hj;exact h.new j a hj
def SX.FL(h:SX K H₀ ab Z kv kd ow σ H ρ)(s:af H H1)(hp:H1 p=none)(r:av K (Os ab ow) H1 vs ds)(i:Nat)(hi:i<ρ.length):
  SX K H₀ ab Z kv kd (ou ow i (some p)) (σ.set i (some (.ref p))) (L2.upd H1 p (.lst vs)) (Py.put ρ i true (.lst ds)):=h.LA (u:= .lst vs) s hp trivial i hi rfl (.inl ⟨vs,ds,rfl,ag,mi hp r⟩)
def SX.R3(h:SX K H₀ ab Z kv kd ow σ H ρ)(ha:ow i=some a)(hs:σ[i]?=some (some (.ref a)))(hH:H a=some u)(hu:qY u)(IT:qY u')(hz:lL d0=false)(c:eg K (Os ab ow) (L2.upd H a u') a d0):
  SX K H₀ ab Z kv kd ow σ (L2.upd H a u') (Py.put ρ i true d0):=by
 have oa:Os ab ow a:= .inr ⟨i,ha⟩
 have sm:af H₀ (L2.upd H a u'):=λb o e=>by
  have hb:b≠a:=λz=>by rw[z,h.new i a ha]at e;cases e
  rw[ao hb];exact h.same _ _ e
 refine⟨⟨λb hb=>?_,λj o d' hj=>?_⟩,λj d' hj=>?_,h.inj,h.new,sm,h.kp.upd oa hH hu,h.o0,by unfold Py.put;rw[Xm];exact h.len⟩
 .by_cases n_:b=a
  .subst n_;exact⟨u',ag,IT⟩
  .exact ae (h.ex.live b hb) λus q qo=>⟨us,by rw[ao n_];exact q,qo⟩
 .by_cases eF:j=i
  .subst eF
   unfold Py.put at hj
   by_cases hl:j<ρ.length
   .rw[WW hl]at hj
    cases hj
    exact⟨.ref a,hs,a,rfl,oa,c⟩
   .rw[WS (by rw[Xm];lia)]at hj;cases hj
  .unfold Py.put at hj
   rw[WT (Xt eF)]at hj
   refine ae (h.ex.jB j o d' hj) λw q1 q2=>⟨w,q1,?_⟩
   cases o with
   |true=>
    refine au λnO=>bL q2 λb e1 e2 c'=>ae (h.own j d' hj) λb' o2 o1=>?_
    rw[q1]at o2
    cases o2
    cases e1
    refine nO ?_
    have n_:b≠a:=λz=>by
     rcases o1 with o1|o1
     .exact eF (h.inj j i b o1.2 (by rw[z];exact ha))
     .obtain⟨w,hw⟩:=h.o0 b o1.2.2
      rw[z,h.new i a ha]at hw
      cases hw
    exact⟨b,rfl,e2,c'.upd n_ oa hH hu⟩
   |false=>exact bx.upd q2 oa hH hu
 .by_cases eF:j=i
  .subst eF
   unfold Py.put at hj
   by_cases hl:j<ρ.length
   .rw[WW hl]at hj
    cases hj
    exact⟨a,hs,.inl ⟨hz,ha⟩⟩
   .rw[WS (by rw[Xm];lia)]at hj;cases hj
  .unfold Py.put at hj
   rw[WT (Xt eF)]at hj
   exact h.own j d' hj
def SX.wr(h:SX K H₀ ab Z kv kd ow σ H ρ)(ha:ow i=some a)(hs:σ[i]?=some (some (.ref a)))(hH:H a=some (.lst vs))(r:av K (Os ab ow) H Hl K6):
  SX K H₀ ab Z kv kd ow σ (L2.upd H a (.lst Hl)) (Py.put ρ i true (.lst K6)):=h.R3 (u':= .lst Hl) ha hs hH trivial trivial rfl (.inl ⟨Hl,K6,rfl,ag,r.upd (.inr ⟨i,ha⟩) hH trivial⟩)
def SX.freeze(h:SX K H₀ ab Z kv kd ow σ H ρ)(hd:ρ[i]?=some (some (true,.lst ds))):SX K H₀ ab Z kv kd (ou ow i none) σ H (ρ.set i (some (false,.lst ds))):=by
 refine au λnO=>ae (h.own i _ hd) λa o2 o1=>?_
 have o1:ow i=some a:=o1.elim (λz=>z.2) λz=>nomatch z.1
 refine ae (h.ex.jB i true _ hd) λw q1 q2=>bL q2 λa' e1 e3 c=>ae c.lst λvs e4 e5=>?_
 rw[q1]at o2
 cases o2
 cases e1
 refine nO ?_
 have e6:¬Os ab (ou ow i none) a:=λz=>by
  rcases z with z|⟨j,z⟩
  .obtain⟨o,q⟩:=h.o0 a z
   rw[h.new i a o1]at q;cases q
  .by_cases hj:j=i
   .rw[hj,aH]at z;cases z
   .rw[aL hj]at z;exact hj (h.inj j i a z o1)
 have V_:σ=σ.set i (some (.ref a)):=by
  apply XD
  intro j
  by_cases hj:i=j
  .subst hj
   have hl:i<σ.length:=(WK.mp q1).1
   rw[WW hl,q1]
  .rw[WT hj]
 have sub:∀b,Os ab (ou ow i none) b->Os ab ow b:=λb z=>by
  rcases z with z|⟨j,z⟩
  .exact .inl z
  .by_cases hj:j=i
   .rw[hj,aH]at z;cases z
   .rw[aL hj]at z;exact .inr ⟨j,z⟩
 have r:bx K (Os ab (ou ow i none)) H (.ref a) (.lst ds):= .lst (.inl e4) e6 (e5.weak sub)
 refine⟨⟨λb hb=>h.ex.live b (sub b hb),λj o d' hj=>?_⟩,λj d' hj=>?_,λj k b hj hk=>?_,λj b hj=>?_,h.same,h.kp.weak sub,h.o0,by rw[Xm];exact h.len⟩
 .by_cases eF:j=i
  .subst eF
   have hl:j<ρ.length:=(WK.mp hd).1
   rw[WW hl]at hj
   cases hj
   exact⟨.ref a,q1,r⟩
  .rw[WT (Xt eF)]at hj
   refine ae (h.ex.jB j o d' hj) λw p1 p2=>⟨w,p1,?_⟩
   cases o with
   |true=>
    refine au λnO=>bL p2 λb f1 f2 c'=>ae (h.own j d' hj) λb' g2 g1=>?_
    rw[p1]at g2
    cases g2
    cases f1
    exact nO<|⟨b,rfl,g1.elim (λg1=> .inr ⟨j,by rw[aL eF];exact g1.2⟩) (λg1=> .inl g1.2.2),c'.weak sub⟩
   |false=>exact bx.weak p2 sub
 .by_cases eF:j=i
  .subst eF
   have hl:j<ρ.length:=(WK.mp hd).1
   rw[WW hl]at hj
   cases hj
  .rw[WT (Xt eF)]at hj
   exact ae (h.own j d' hj) λb g2 g1=>⟨b,g2,g1.imp (λg1=>⟨g1.1,by rw[aL eF];exact g1.2⟩) id⟩
 .by_cases h1:j=i
  .rw[h1,aH]at hj;cases hj
  .by_cases h2:k=i
   .rw[h2,aH]at hk;cases hk
   .rw[aL h1]at hj;rw[aL h2]at hk;exact h.inj j k b hj hk
 .by_cases h1:j=i
  .rw[h1,aH]at hj;cases hj
  .rw[aL h1]at hj;exact h.new j b hj
def SX.keep(h:SX K H₀ ab Z kv kd ow σ H ρ)(r:bx K (Os ab ow) H v d):SX K H₀ ab Z (v::kv) (d::kd) ow σ H ρ:=⟨h.ex,h.own,h.inj,h.new,h.same,.cons r h.kp,h.o0,h.len⟩
def SX.drop(h:SX K H₀ ab Z (v::kv) (d::kd) ow σ H ρ):SX K H₀ ab Z kv kd ow σ H ρ:=⟨h.ex,h.own,h.inj,h.new,h.same,by cases h.kp with|cons _ t=>exact t,h.o0,h.len⟩
def SX.kept(h:SX K H₀ ab Z (v::kv) (d::kd) ow σ H ρ):bx K (Os ab ow) H v d:=by cases h.kp with|cons r _=>exact r
end
def post(K:PySem.W.Frag)(H₀:Hp)(ab Z:Addr->Prop)(kv:List V)(kd:List D)(D':xS):il->Prop
 | .next ρ=>∀ow σ H,SX K H₀ ab Z kv kd ow σ H ρ->D'.nx σ H
 | .brk ρ=>∀ow σ H,SX K H₀ ab Z kv kd ow σ H ρ->D'.bk σ H
 | .cont ρ=>∀ow σ H,SX K H₀ ab Z kv kd ow σ H ρ->D'.ct σ H
 | .ret d=>∀v H,af H₀ H->bx K ab H v d->D'.rt v H
def tC(K:PySem.W.Frag)(f:Env->Option il):TS:=λD' σ H=>∃H₀ ab Z kv kd ow ρ out,SX K H₀ ab Z kv kd ow σ H ρ/\f ρ=some out/\post K H₀ ab Z kv kd D' out
def _root_.L2.PS.weak{X:Cx}{st:Stmt}{t t':TS}(h:PS X st t)(w:∀D' σ H,t' D' σ H->t D' σ H):PS X st t':=λaa s σ H D' I q=>h aa s σ H D' I (w D' σ H q)
def _root_.L2.kK.weak{X:Cx}{st:List Stmt}{t t':TS}(h:kK X st t)(w:∀D' σ H,t' D' σ H->t D' σ H):kK X st t':=λaa s σ H D' I q=>h aa s σ H D' I (w D' σ H q)
noncomputable def fM:Expr->Bool
 | .ListComp _ _ _ _=>true
 | .SetComp _ _ _ _=>true
 | .DictComp _ _ _ _ _=>true
 |_=>false
noncomputable def UL:E->Bool
 | .comp _ _ _ _ _=>true
 |_=>false
noncomputable def mj(sc:Scope)(x:Str):Bool:=match sc.names.lookup x with|some .local =>true|some .cell =>true|_=>false
noncomputable def R4:Expr->Bool
 | .Tuple _ _ _=>false
 |_=>true
noncomputable def fN(N:List Str)(sc:Scope):List Nat->List Expr->Bool
 |[],es=>es.isEmpty
 |i::is,es=>match es with
  |e::es=>(match e with| .Name x _=>decide (N[i]?=some x)&&mj sc x|_=>false)&&fN N sc is es
  |[]=>false
noncomputable def Hn(N:List Str)(sc:Scope)(is:List Nat)(tg:Nat)(e:Expr):Bool:=
 match e with
 | .Name _ _=>decide (tg=0)&&fN N sc is [e]&&decide (is.length=1)
 | .Tuple es _ _=>decide (tg=is.length)&&!es.isEmpty&&fN N sc is es
 |_=>false
noncomputable def C4(G:GT)(it:E)(N:List Str)(sc:Scope)(mS iter:Expr):Bool:=
 match it with
 | .BO a=>match mS,iter with
  | .Tuple _ _ _,.Call fn args dj _=>match fn,args,dj with
   | .Name x _,[a0],[]=>decide (x="enumerate")&&eJ sc x&&bE G a N sc a0&&aW a0
   |_,_,_=>false
  |_,_=>false
 |it=>Bl G it N sc iter
noncomputable def zO(N:List Str)(sc:Scope)(y:Nat)(e:Expr):Bool:=
 match e with
 | .Call fn args dj cp=>match fn,args,dj with
  | .Attribute e2 nm ap,[],[]=>decide (nm="pop")&&cF N sc y e2&&(ap.endLine==cp.line)
  |_,_,_=>false
 |_=>false
noncomputable def Ho(G:GT)(x f:Nat)(N:List Str)(sc:Scope)(e:Expr)(ok:Expr->Bool):Bool:=
 match e with
 | .Call fn args dj _=>match fn,args,dj with
  | .Name n _,[e1,w],[]=>decide (G.1[f]?=some n)&&eJ sc n&&qa n&&cF N sc x e1&&ok w&&aW w
  |_,_,_=>false
 |_=>false
noncomputable def Hq(G:GT)(x:Nat)(fr:List Nat)(it k v:E)(N:List Str)(sc:Scope)(st:Stmt):Bool:=
 match st with
 | .Assign iu e _=>match iu with
  |[.Name a _]=>decide (N[x]?=some a)&&mj sc a&&(match e with
   | .ListComp el gens dP _=>match el with
    | .Dict ks vs _=>match ks,vs,gens with
     |[some ke],[ve],[⟨.Name n _,iter,[],kk⟩]=>decide (kk=0)&&eK iter&&pN N sc dP [n] fr&&Bl G it N sc iter&&bE G k (jC N [n] fr) (eC dP sc) ke&&bE G v (jC N [n] fr) (eC dP sc) ve
     |_,_,_=>false
    |_=>false
   |_=>false)
  |_=>false
 |_=>false
noncomputable def P7(G:GT)(x y r f:Nat)(N:List Str)(sc:Scope)(st:Stmt):Bool:=
 match st with
 | .Assign iu e _=>match iu with
  |[.Name a _]=>decide (N[r]?=some a)&&mj sc a&&Ho G x f N sc e (zO N sc y)
  |_=>false
 |_=>false
noncomputable def EK(G:GT)(x:Nat)(p q u:E)(N:List Str)(sc:Scope)(st:Stmt):Bool:=
 match st with
 | .Assign iu e _=>match iu with
  |[.Subscript (.Subscript e1 pe _) qe _]=>cF N sc x e1&&bE G p N sc pe&&cf pe&&bE G q N sc qe&&cf qe&&bE G u N sc e&&!fM e
  |_=>false
 |_=>false
noncomputable def LB(G:GT)(x y g:Nat)(w:E)(N:List Str)(sc:Scope)(st:Stmt):Bool:=
 match st with
 | .Expr e _=>match e with
  | .Call (.Attribute e2 m ap) [v] [] cp=>cF N sc y e2&&decide (m="extend")&&(ap.endLine==cp.line)&&aW v&&Ho G x g N sc v (bE G w N sc)
  |_=>false
 |_=>false
noncomputable def R6(f g h k:Stmt->Bool)(l:List Stmt):Bool:=
 match l with
 |[]=>false
 |s1::l=>match l with
  |[]=>false
  |s2::l=>match l with
   |[]=>false
   |s3::l=>match l with
    |[]=>false
    |s4::l=>match l with
     |[]=>f s1&&g s2&&h s3&&k s4
     |_::_=>false
def Hr(e:R6 f g h k l=true):∃s1 s2 s3 s4,l=[s1,s2,s3,s4]/\f s1=true/\g s2=true/\h s3=true/\k s4=true:=by
 cases l with
 |nil=>cases e
 |cons s1 l=>cases l with
  |nil=>cases e
  |cons s2 l=>cases l with
   |nil=>cases e
   |cons s3 l=>cases l with
    |nil=>cases e
    |cons s4 l=>cases l with
     |cons _ _=>cases e
     |nil=>
      change (f s1&&g s2&&h s3&&k s4)=true at e
      simp only[Ws]at e
      exact⟨s1,s2,s3,s4,rfl,e.1.1.1,e.1.1.2,e.1.2,e.2⟩
noncomputable def LC(f g h:Stmt->Bool)(l:List Stmt):Bool:=
 match l with
 |[]=>false
 |s1::l=>match l with
  |[]=>false
  |s2::l=>match l with
   |[]=>false
   |s3::l=>match l with
    |[]=>f s1&&g s2&&h s3
    |_::_=>false
def zP(e:LC f g h l=true):∃s1 s2 s3,l=[s1,s2,s3]/\f s1=true/\g s2=true/\h s3=true:=by
 cases l with
 |nil=>cases e
 |cons s1 l=>cases l with
  |nil=>cases e
  |cons s2 l=>cases l with
   |nil=>cases e
   |cons s3 l=>cases l with
    |cons _ _=>cases e
    |nil=>
     change (f s1&&g s2&&h s3)=true at e
     simp only[Ws]at e
     exact⟨s1,s2,s3,rfl,e.1.1,e.1.2,e.2⟩
noncomputable def LD(N:List Str)(sc:Scope)(m:Nat)(f g h:Stmt->Bool)(st:Stmt):Bool:=
 match st with
 | .If em a b _=>cF N sc m em&&b.isEmpty&&LC f g h a
 |_=>false
noncomputable def LF(N:List Str)(sc:Scope)(y:Nat)(f g h:Stmt->Bool)(st:Stmt):Bool:=
 match st with
 | .While e2 a b _=>cF N sc y e2&&b.isEmpty&&LC f g h a
 |_=>false
noncomputable def LG(N:List Str)(sc:Scope)(x:Nat)(st:Stmt):Bool:=
 match st with
 | .Return o _=>match o with
  |some e=>cF N sc x e
  |none=>false
 |_=>false
def C5{N:List Str}{sc:Scope}{m:Nat}{f g h:Stmt->Bool}{st:Stmt}(e:LD N sc m f g h st=true):∃em s1 s2 s3 p,st= .If em [s1,s2,s3] [] p/\cF N sc m em=true/\f s1=true/\g s2=true/\h s3=true:=by
 refine au λnO=>?_
 cases st with
 |If em a b p=>
  refine nO ?_
  change (cF N sc m em&&b.isEmpty&&LC f g h a)=true at e
  simp only[Ws]at e
  refine r0 (zP e.2) λs1 s2 s3 aj q=>?_
  subst aj
  cases b with
  |nil=>exact⟨em,s1,s2,s3,p,rfl,e.1.1,q⟩
  |cons _ _=>cases e.1.2
 |_=>cases e
def C6{N:List Str}{sc:Scope}{m:Nat}{f g h:Stmt->Bool}{st:Stmt}(e:LF N sc m f g h st=true):∃em s1 s2 s3 p,st= .While em [s1,s2,s3] [] p/\cF N sc m em=true/\f s1=true/\g s2=true/\h s3=true:=by
 refine au λnO=>?_
 cases st with
 |While em a b p=>
  refine nO ?_
  change (cF N sc m em&&b.isEmpty&&LC f g h a)=true at e
  simp only[Ws]at e
  refine r0 (zP e.2) λs1 s2 s3 aj q=>?_
  subst aj
  cases b with
  |nil=>exact⟨em,s1,s2,s3,p,rfl,e.1.1,q⟩
  |cons _ _=>cases e.1.2
 |_=>cases e
def C7{N:List Str}{sc:Scope}{x:Nat}{st:Stmt}(e:LG N sc x st=true):∃e1 p,st= .Return (some e1) p/\cF N sc x e1=true:=by
 refine au λnO=>?_
 cases st with
 |Return o p=>
  refine nO<|au λnO=>?_
  cases o with
  |none=>cases e
  |some e1=>
   exact nO<|⟨e1,p,rfl,e⟩
 |_=>cases e
mutual
noncomputable def Hs(G:GT):C->List Str->Scope->Stmt->Bool
 | .asg i e,N,sc,st=>match st with
  | .Assign iu v _=>match iu with
   |[.Name x _]=>decide (N[i]?=some x)&&mj sc x&&bE G e N sc v&&!fM v
   |_=>false
  |_=>false
 | .bV i e,N,sc,st=>match st with
  | .Assign iu v _=>match iu with
   |[.Name x _]=>decide (N[i]?=some x)&&mj sc x&&bE G e N sc v&&fresh e&&(!fM v||UL e)
   |_=>false
  |_=>false
 | .lO i ix e,N,sc,st=>match st with
  | .Assign iu v _=>match iu with
   |[.Subscript (.Name x _) k _]=>decide (N[i]?=some x)&&kH sc x&&qa x&&bE G ix N sc k&&cf k&&bE G e N sc v
   |_=>false
  |_=>false
 | .app i e,N,sc,st=>match st with
  | .Expr ex _=>match ex with
   | .Call (.Attribute (.Name x _) m ap) [v] [] cp=>decide (N[i]?=some x)&&kH sc x&&qa x&&decide (m="append")&&(ap.endLine==cp.line)&&bE G e N sc v&&aW v
   |_=>false
  |_=>false
 | .ret e,N,sc,st=>match st with
  | .Return o _=>match o with
   |some v=>bE G e N sc v
   |none=>false
  |_=>false
 | .ifs c t u,N,sc,st=>match st with
  | .If x a b _=>bE G c N sc x&&G0 c&&gh G t N sc a&&gh G u N sc b
  |_=>false
 | .while c b,N,sc,st=>match st with
  | .While x a o _=>o.isEmpty&&bE G c N sc x&&G0 c&&gh G b N sc a
  |_=>false
 | .iF i b,N,sc,st=>match st with
  | .While x a o _=>o.isEmpty&&cF N sc i x&&gh G b N sc a
  |_=>false
 | .for is tg it b,N,sc,st=>match st with
  | .For mS iter a o _=>o.isEmpty&&eK iter&&gh G b N sc a&&Hn N sc is tg mS&&C4 G it N sc mS iter
  |_=>false
 | .ng i t es,N,sc,st=>match st with
  | .Assign iu v _=>match iu,v with
   |[.Name x _],.Dict ks vs _=>decide (N[i]?=some x)&&mj sc x&&(match ks,vs with
    |[some k],[w]=>cN G es N sc [k,w]
    |_,_=>false)
   |_,_=>false
  |_=>false
 | .kB i k e,N,sc,st=>match st with
  | .Assign iu v _=>match iu with
   |[.Subscript o ix _]=>cF N sc i o&&bE G k N sc ix&&cf ix&&bE G e N sc v&&!fM v
   |_=>false
  |_=>false
 | .Er i j,N,sc,st=>match st with
  | .Assign iu v _=>match iu with
   |[.Name x _]=>decide (N[i]?=some x)&&mj sc x&&cF N sc j v
   |_=>false
  |_=>false
 | .pop i j,N,sc,st=>match st with
  | .Assign iu v _=>match iu with
   |[.Name x _]=>decide (N[i]?=some x)&&mj sc x&&zO N sc j v
   |_=>false
  |_=>false
 | .ext i e,N,sc,st=>match st with
  | .Expr ex _=>match ex with
   | .Call (.Attribute (.Name x _) m ap) [v] [] cp=>decide (N[i]?=some x)&&kH sc x&&qa x&&decide (m="extend")&&(ap.endLine==cp.line)&&bE G e N sc v&&aW v
   |_=>false
  |_=>false
 |_,_,_,_=>false
noncomputable def gh(G:GT):C->List Str->Scope->List Stmt->Bool
 | .skip,_,_,r8=>r8.isEmpty
 | .seq a b,N,sc,r8=>match r8 with
  |s::r=>Hs G a N sc s&&gh G b N sc r
  |[]=>false
 | .fst x fr it k v c1 y r f c2 m c3 p q u g w,N,sc,r8=>R6 (Hq G x fr it k v N sc) (Hs G c1 N sc) (LF N sc y (P7 G x y r f N sc) (Hs G c2 N sc) (LD N sc m (Hs G c3 N sc) (EK G x p q u N sc) (LB G x y g w N sc))) (LG N sc x) r8
 |_,_,_,_=>false
end
def zQ{f:List Expr->Expr->Bool}{st:Stmt}(h:(match st with| .Assign t v _=>f t v|_=>false)=true):∃t v p,st= .Assign t v p/\f t v=true:=by
 refine au λnO=>?_
 cases st with
 |Assign t v p=>
  exact nO<|⟨t,v,p,rfl,h⟩
 |_=>cases h
def LH{f:Str->Bool}{l:List Expr}(h:(match l with|[.Name x _]=>f x|_=>false)=true):∃x p,l=[.Name x p]/\f x=true:=by
 cases l with
 |nil=>cases h
 |cons e l=>
  cases l with
  |cons _ _=>cases e<;>cases h
  |nil=>
   cases e with
   |Name x p=>exact⟨x,p,rfl,h⟩
   |_=>cases h
def fO(h:mj sc x=true):Loc sc x:=by
 unfold mj at h
 split at h
 .rename_i e;exact .inl e
 .rename_i e;exact .inr e
 .cases h
def ml(h:fM v=false):swapsWith v (some t) l env=pure false:=by
 cases v<;>first|rfl|exact absurd h Bool.noConfusion
section
variable {K:PySem.W.Frag}{H₀:Hp}{ab Z:Addr->Prop}{kv:List V}{kd:List D}{ow:Nat->Option Addr}{σ:St}{H H1:Hp}{ρ:Env}{a:Addr}{o:Obj}{u:HO}
def SX.base(h:SX K H₀ ab Z kv kd ow σ H ρ)(e:H a=some (.dn o u)):SX K (L2.upd H₀ a (.dn o u)) ab Z kv kd ow σ H ρ:=by
 refine⟨h.ex,h.own,h.inj,λi b hb=>?_,λb w hb=>?_,h.kp,λb hb=>?_,h.len⟩
 .have eU:b≠a:=λz=>by
   refine ae (h.ex.live b (.inr ⟨i,hb⟩)) λw q1 q2=>?_
   rw[z,e]at q1
   cases q1
   exact q2
  rw[ao eU]
  exact h.new i b hb
 .by_cases n_:b=a
  .subst n_
   rw[ag]at hb
   cases hb
   exact e
  .rw[ao n_]at hb
   exact h.same _ _ hb
 .by_cases n_:b=a
  .subst n_;exact⟨_,ag⟩
  .obtain⟨w,q⟩:=h.o0 b hb
   exact⟨w,by rw[ao n_];exact q⟩
def ox(s0:H₀ a=none\/H₀ a=some (.dn o u)):af H₀ (L2.upd H₀ a (.dn o u)):=λb w hb=>by
 by_cases n_:b=a
 .subst n_
  rcases s0 with z|z
  .rw[z]at hb;cases hb
  .rw[z]at hb;cases hb;exact ag
 .rw[ao n_];exact hb
def SX.Ht(h:SX K (L2.upd H₀ a (.dn o u)) ab Z kv kd ow σ H ρ)(s0:H₀ a=none\/H₀ a=some (.dn o u))(o0:∀b,ab b->∃w,H₀ b=some w):SX K H₀ ab Z kv kd ow σ H ρ:=by
 refine⟨h.ex,h.own,h.inj,λi b hb=>?_,(ox s0).trans h.same,h.kp,o0,h.len⟩
 have:=h.new i b hb
 by_cases n_:b=a
 .subst n_;rw[ag]at this;cases this
 .rw[ao n_]at this;exact this
end
def C8(h1:ks.length=vs.length)(h2:ks.length=us.length)(e:fV 0 ks vs=fV 0 ks us):vs=us:=by
 rw[jj,jj]at e
 have e:=HO.dK.inj e
 have:=congrArg (List.map Prod.snd) e
 rwa [Z7 (by rw[Wr];lia),Z7 (by rw[Wr];lia)]at this
section
variable {X:Cx}{c e:Expr}{st:Stmt}{bK:List Stmt}{pos px:Pos}{x:Str}{i:Nat}
def Hu:kK X [] (tC X.K λρ=>some (.next ρ)):=iN.weak λD' σ H zz=>by
 refine nE zz λH₀ ab Z kv kd ow ρ out hx hd k=>?_
 cases hd
 exact k ow σ H hx
def LI(h1:PS X st (tC X.K f))(h2:kK X bK (tC X.K g)):kK X (st::bK) (tC X.K λρ=>(f ρ).bind λo=>match o with
  | .next ρ'=>g ρ'
  |o=>some o):=
 (b7 h1 h2).weak λD' σ H zz=>by
  refine nE zz λH₀ ab Z kv kd ow ρ out hx hd k=>ae (bind_some hd) λo e1 hd=>⟨H₀,ab,Z,kv,kd,ow,ρ,o,hx,e1,?_⟩
  cases o with
  |next ρ'=>exact λow σ H h=>⟨H₀,ab,Z,kv,kd,ow,ρ',out,h,hd,k⟩
  |brk ρ'=>cases hd;exact k
  |cont ρ'=>cases hd;exact k
  |ret d=>cases hd;exact k
def LJ(hN:X.N.Nodup)(hi:X.N[i]?=some x)(hx:Loc X.env.scope x)(hf:X.fn x=true)(he:PE X e (tV X.K false f))(hs:swapsWith e (some (.Name x px)) pos.line X.env=pure false):
  PS X (.Assign [.Name x px] e pos) (tC X.K λρ=>(f ρ).map λd=> .next (put ρ i false d)):=
 (gn hN hi hx he hs (.inl hf)).weak λD' σ H zz=>by
  refine nE zz λH₀ ab Z kv kd ow ρ out hx hd k=>ae (map_some hd) λd e1 aj=>?_
  subst aj
  refine⟨Os ab ow,ρ,d,hx.ex,e1,λv H1 s1 r1=>?_⟩
  exact k (ou ow i none) _ _ ((hx.mono s1).put r1.own i)
def zR{K:PySem.W.Frag}{H₀ H H1:Hp}{ab Z:Addr->Prop}{kv:List V}{kd:List D}{ow:Nat->Option Addr}{σ:St}{ρ:Env}(h:SX K H₀ ab Z kv kd ow σ H ρ){p:Addr}{vs:List V}{ds:List D}(s:af H H1)(hp:H1 p=none)(r:av K (Os ab ow) H1 vs ds)(i:Nat):
  ∃kI,SX K H₀ ab Z kv kd kI (σ.set i (some (.ref p))) (L2.upd H1 p (.lst vs)) (Py.put ρ i true (.lst ds)):=by
 by_cases hi:i<ρ.length
 .exact⟨_,h.FL s hp r i hi⟩
 .have e1:σ.set i (some (.ref p))=σ:=Yt (by rw[<-h.len];lia)
  have e2:Py.put ρ i true (.lst ds)=ρ:=Yt (by lia)
  rw[e1,e2]
  exact⟨ow,h.mono (s.trans (af.upd hp))⟩
def oy{f:Env->Option D}{te:TE}(hP:PS X st (mZ te (b9 i)))(ht:∀σ H Q,tF X.K (λρ=>(f ρ).bind fW) σ H Q->te σ H Q):
  PS X st (tC X.K λρ=>(f ρ).bind λd=>match d with
   | .lst xs=>some (.next (put ρ i true (.lst xs)))
   |_=>none):=
 hP.weak λD' σ H zz=>by
  refine nE zz λH₀ ab Z kv kd ow ρ out hx hd k=>ae (bind_some hd) λd e1 hd=>?_
  cases d with
  |lst ds=>
   cases hd
   refine ht σ H _ ⟨Os ab ow,ρ,ds,hx.ex,by show(f ρ).bind fW=_;rw[e1];rfl,λp vs H1 s1 hp r=>?_⟩
   obtain⟨kI,h'⟩:=zR hx s1 hp r i
   exact k kI _ _ h'
  |_=>cases hd
def Hv(hi:X.N[i]?=some x)(hv:vX X.env.scope x)(C9:(x==("__debug__":Str))=false)(sH:(x==("__classdict__":Str))=false)(hk:PE X ke (tV X.K false fi))(jG:cf ke=true)(he:PE X e (tV X.K false f)):
  PS X (.Assign [.Subscript (.Name x px) ke o] e pos) (tC X.K λρ=>(f ρ).bind λd=>((fi ρ).bind Eo).bind λk=>match ρ[i]? with
   |some (some (true,.lst xs))=>(place xs.length k).map λj=> .next (put ρ i true (.lst (xs.set j d)))
   |_=>none):=
 (FA he (Fz (bJ hi hv C9 sH) hk yf (by intro v;cases ke<;>first|rfl|exact absurd jG Wt)) (by cases e<;>rfl) (by cases e<;>rfl) rfl).weak λD' σ H zz=>by
  refine au λnO=>nE zz λH₀ ab Z kv kd ow ρ out hx hd k=>ae (bind_some hd) λd e1 hd=>ae (bind_some hd) λkk e2 hd=>ae (bind_some e2) λdk e3 e4=>nO ?_
  have UM:dk= .int kk:=by cases dk<;>first|(cases e4;rfl)|cases e4
  subst UM
  split at hd
  .rename_i xs EL
   refine ae (map_some hd) λj e5 aj=>?_
   subst aj
   refine⟨Os ab ow,ρ,d,hx.ex,e1,λv H1 s1 r1=>?_⟩
   refine ae (hx.own i _ EL) λa o2 o1=>?_
   have o1:ow i=some a:=o1.elim (λz=>z.2) λz=>nomatch z.1
   refine⟨.ref a,o2,Os ab ow,ρ,.int kk,(hx.mono s1).ex,e3,λw H2 s2 r2=>?_⟩
   have IU:=(hx.mono s1).mono s2
   refine au λnO=>ae (IU.ex.jB i true _ EL) λw' q1 q2=>bL q2 λa' e6 e8 c0=>ae c0.lst λvs e9 u_=>?_
   rw[o2]at q1
   cases q1
   cases e6
   refine nO ?_
   refine⟨a,vs,kk,j,rfl,r2.int,e9,?_,?_⟩
   .rw[<-lZ,u_.length];exact e5
   .exact k ow _ _ (IU.wr o1 o2 e9 (u_.set (r1.own.mono s2) j))
  .cases hd
def LK(he:PE X e (tV X.K false f)):PS X (.Return (some e) pos) (tC X.K λρ=>(f ρ).map .ret):=
 (sk he).weak λD' σ H zz=>by
  refine nE zz λH₀ ab Z kv kd ow ρ out hx hd k=>ae (map_some hd) λd e1 aj=>?_
  subst aj
  refine⟨Os ab ow,ρ,d,hx.ex,e1,λv H1 s1 r1=>?_⟩
  exact k v H1 (hx.same.trans s1) (r1.own.weak λa z=> .inl z)
def Hw(hi:X.N[i]?=some x)(hv:vX X.env.scope x)(C9:(x==("__debug__":Str))=false)(sH:(x==("__classdict__":Str))=false):PS X (.Return (some (.Name x px)) pos) (tC X.K λρ=>(rd true ρ i).map .ret):=
 (sk (bJ hi hv C9 sH)).weak λD' σ H zz=>by
  refine nE zz λH₀ ab Z kv kd ow ρ out hx hd k=>ae (map_some hd) λd e1 aj=>?_
  subst aj
  have e1:rd true ρ i=some d:=e1
  unfold rd at e1
  split at e1
  .rename_i o d' EL
   refine ae (hx.ex.jB i o d' EL) λw q1 q2=>?_
   cases o with
   |true=>
    refine bL q2 λa e6 e8 c0=>ae (hx.own i _ EL) λa' o2 o1=>?_
    rw[o2]at q1
    cases q1
    cases e6
    rcases c0 with⟨vs,ds,rfl,e9,u_⟩|⟨t,ks,vs,ds,rfl,_⟩|⟨rfl,_⟩
    .cases e1
     have o1:ow i=some a:=o1.elim (λz=>z.2) λz=>nomatch z.1
     refine⟨_,o2,k _ H hx.same (.lst (.inl e9) (λz=>?_) (u_.weak λa z=> .inl z))⟩
     obtain⟨u,hu⟩:=hx.o0 a z
     rw[hx.new i a o1]at hu
     cases hu
    .cases e1
    .cases e1
   |false=>
    cases e1
    exact⟨w,q1,k _ H hx.same (bx.weak q2 λa z=> .inl z)⟩
  .cases e1
def P8{a b:List Stmt}{f:Env->Option D}{g h:Env->Option il}(hc:PT X c (tB X.K λρ=>(f ρ).bind f6))(ha:kK X a (tC X.K g))(hb:kK X b (tC X.K h)):
  PS X (.If c a b pos) (tC X.K λρ=>((f ρ).bind f6).bind λk=>if k then g ρ else h ρ):=
 (D_ hc ha hb).weak λD' σ H zz=>by
  refine nE zz λH₀ ab Z kv kd ow ρ out hx hd k=>ae (bind_some hd) λkk e1 hd=>⟨Os ab ow,ρ,kk,hx.ex,e1,λH1 s1=>?_⟩
  cases kk with
  |true=>exact lH ⟨H₀,ab,Z,kv,kd,ow,ρ,out,hx.mono s1,hd,k⟩
  |false=>exact m_ ⟨H₀,ab,Z,kv,kd,ow,ρ,out,hx.mono s1,hd,k⟩
def va{body:List Stmt}{f:Env->Option D}{b:Env->Option il}(hp:PassesOwn (model X.prog X.w) X.A X.env X.xe)(hc:PT X c (tB X.K λρ=>(f ρ).bind f6))(hb:kK X body (tC X.K b))(n:Nat):
  PS X (.While c body [] pos) (tC X.K λρ=>fU (λρ=>(f ρ).bind f6) b n ρ):=
 (qk hp hc hb).weak λD' σ H zz=>by
  refine nE zz λH₀ ab Z kv kd ow ρ out hx hd k=>⟨λm σ H=>∃ow ρ,SX X.K H₀ ab Z kv kd ow σ H ρ/\fU (λρ=>(f ρ).bind f6) b m ρ=some out,⟨n,ow,ρ,hx,hd⟩,?_⟩
  rintro m σ H ⟨ow,ρ,hx,hd⟩
  cases m with
  |zero=>cases hd
  |succ m=>
   rw[fU]at hd
   refine ae (bind_some hd) λkk e1 hd=>⟨Os ab ow,ρ,kk,hx.ex,e1,λH1 s1=>?_⟩
   cases kk with
   |false=>
    rw[WV Wt]at hd
    cases hd
    exact m_ (k ow σ H1 (hx.mono s1))
   |true=>
    rw[WO rfl]at hd
    refine ae (bind_some hd) λo e2 hd=>lH ⟨λbX H'=>∃ow ρ,SX X.K H₀ ab Z kv kd ow bX H' ρ/\fU (λρ=>(f ρ).bind f6) b m ρ=some out,λbX H' h=>⟨m,Yi m,h⟩,H₀,ab,Z,kv,kd,ow,ρ,o,hx.mono s1,e2,?_⟩
    cases o with
    |next ρ'=>exact λow σ H h=>⟨ow,ρ',h,hd⟩
    |cont ρ'=>exact λow σ H h=>⟨ow,ρ',h,hd⟩
    |brk ρ'=>cases hd;exact λow σ H h=>k ow σ H h
    |ret d=>cases hd;exact λv H s r=>k v H s r
def Hx(K:PySem.W.Frag)(g:TG)(setT:Env->D->Option Env):Prop:=
 ∀(H₀:Hp) (ab Z:Addr->Prop) (kv:List V) (kd:List D) (ow:Nat->Option Addr) (σ:St) (H:Hp) (ρ ρ':Env) (v:V) (d:D) (Q:St->Hp->Prop),SX K H₀ ab Z kv kd ow σ H ρ->bx K (Os ab ow) H v d->setT ρ d=some ρ'->
  (∀kI bX,SX K H₀ ab Z kv kd kI bX H ρ'->Q bX H)->g v σ H Q
def C_{K:PySem.W.Frag}{j:Nat}:Hx K (b9 j) (λρ d=>some (put ρ j false d)):=λH₀ ab Z kv kd ow σ H ρ ρ' v d Q hx r e q=>by
 cases e
 exact q _ _ (hx.put r j)
def pS:List Nat->Fw
 |[]=>Bt
 |i::is=>nG (b9 i) (pS is)
theorem oz(hN:X.N.Nodup)(hf:∀x,X.fn x=true):∀{is:List Nat}{es:List Expr},fN X.N X.env.scope is es=true->IB X es (pS is)/\(assignEach es X.env).length =is.length/\(assignEach es X.env).findIdx? (·.1)=none
 |[],es,h=>by
  cases es with
  |nil=>exact⟨ud,rfl,rfl⟩
  |cons _ _=>cases h
 |i::is,es,h=>by
  cases es with
  |nil=>cases h
  |cons e es=>
   unfold fN at h
   rw[Ws]at h
   obtain⟨h1,h2⟩:=h
   refine cU (oz hN hf h2) λq1 q2 q3=>?_
   cases e with
   |Name x p=>
    simp only[Ws,decide_eq_true_eq]at h1
    refine⟨lu (gN hN h1.1 (fO h1.2) (.inl (hf _))) q1 rfl,?_,?_⟩
    .show(assignEach es X.env).length+1=_
     rw[q2];rfl
    .show List.findIdx? _ ((false,_)::assignEach es X.env)=none
     rw[List.findIdx?_cons]
     simp[q3]
   |_=>cases h1
theorem rA{K:PySem.W.Frag}{H₀:Hp}{ab Z:Addr->Prop}{kv:List V}{kd:List D}:∀{is:List Nat}{xs:List V}{ys:List D}{ow:Nat->Option Addr}{σ:St}{H:Hp}{ρ ρ':Env}{Q:St->Hp->Prop},av K (Os ab ow) H xs ys->SX K H₀ ab Z kv kd ow σ H ρ->cI ρ is ys=some ρ'->
  (∀kI bX,SX K H₀ ab Z kv kd kI bX H ρ'->Q bX H)->pS is xs σ H Q
 |[],xs,ys,ow,σ,H,ρ,ρ',Q,r,hx,e,q=>by
  cases ys with
  |nil=>cases e;cases r;exact⟨rfl,q _ _ hx⟩
  |cons _ _=>cases e
 |i::is,xs,ys,ow,σ,H,ρ,ρ',Q,r,hx,e,q=>by
  cases ys with
  |nil=>cases e
  |cons d ds=>
   cases r with
   |cons r1 r2=>
    have sub:∀a,Os ab (ou ow i none) a->Os ab ow a:=λa z=>by
     rcases z with z|⟨j,z⟩
     .exact .inl z
     .by_cases hj:j=i
      .rw[hj,aH]at z;cases z
      .rw[aL hj]at z;exact .inr ⟨j,z⟩
    exact⟨_,_,rfl,rA (r2.weak sub) (hx.put r1 i) e q⟩
def Hy{K:PySem.W.Frag}{is:List Nat}(h:0<is.length):Hx K (BU K is.length (pS is)) (λρ d=>(aA is.length d).bind (cI ρ is)):=λH₀ ab Z kv kd ow σ H ρ ρ' v d Q hx r e q=>by
 refine ae (bind_some e) λys e1 e2=>?_
 obtain⟨n,hn⟩:∃n,is.length=n+1:=⟨is.length-1,by lia⟩
 rw[hn]at e1⊢
 cases d with
 |tup zs=>
  simp only[aA]at e1
  split at e1
  .rename_i hz
   cases e1
   refine bC r.gS λa xs aj q1 p1=>?_
   subst aj
   exact⟨a,xs,rfl,.inr q1,by rw[p1.length];exact hz,rA p1 hx e2 q⟩
  .cases e1
 |_=>cases e1
def EM(hp:PassesOwn (model X.prog X.w) X.A X.env X.xe)(hc:X.calm=true)(hg:PG X mS g)(hS:Hx X.K g setT)
  (hI:PI X mS iter (tI X.K false fi)) (hb:kK X body (tC X.K b)) (hs:∀x,foldedSetIterable iter X.env x=pure x):
  PS X (.For mS iter body [] pos) (tC X.K λρ=>(fi ρ).bind λxs=>aE (λy ρ=>(setT ρ y).bind b) xs ρ):=
 (FD hp hc hI hg hb hs).weak λD' σ H zz=>by
  refine nE zz λH₀ ab Z kv kd ow ρ out hx hd k=>ae (bind_some hd) λxs e1 hd=>⟨Os ab ow,ρ,xs,hx.ex,e1,λJ gf H1 s1 zo q5=>?_⟩
  have q_:=hx.mono s1
  obtain⟨bG,EN,EO,sm,y0,hk,Em⟩:∃bG EN EO,af H₀ bG/\SX X.K bG ab Z EN EO ow σ H1 ρ/\(∀ow σ H ρ,SX X.K bG ab Z EN EO ow σ H ρ->SX X.K H₀ ab Z kv kd ow σ H ρ)/\(∀ow σ H ρ,SX X.K bG ab Z EN EO ow σ H ρ->e_ X.K (Os ab ow) H gf):=by
   rcases gf with _|⟨_|_|⟨o,ks,vs⟩,v,ds⟩
   .exact⟨H₀,kv,kd,af.refl _,q_,λ_ _ _ _ h=>h,λ_ _ _ _ _=>trivial⟩
   .exact⟨H₀,v::kv,.tup ds::kd,af.refl _,q_.keep (bW.own q5),λ_ _ _ _ h=>h.drop,λ_ _ _ _ h=>h.kept.gS⟩
   .exact⟨H₀,v::kv,.lst ds::kd,af.refl _,q_.keep (bW.own q5),λ_ _ _ _ h=>h.drop,λ_ _ _ _ h=>h.kept.lst_inv⟩
   .refine Iy q5 λa aj g1 g2 g3 g4=>?_
    try clear q5
    subst aj
    have s0:H₀ a=none\/H₀ a=some (.dn o (fV 0 ks vs)):=by
     cases z:H₀ a with
     |none=>exact .inl rfl
     |some w=>have:=q_.same _ _ z;rw[g1]at this;cases this;exact .inr rfl
    have o0:=hx.o0
    refine⟨_,.ref a::kv,.bM 0 ks ds::kd,ox s0,(q_.base g1).keep (.bM g1 g2 g3 g4),λ_ _ _ _ h=>h.drop.Ht s0 o0,λ_ _ H' _ h=>?_⟩
    have e:=h.same _ _ (ag (H:=H₀) (a:=a))
    have r:=h.kept
    cases r with
    |bM f1 f2 f3 f4=>
     rw[e]at f1
     have UN:=HO.dn.inj (WU f1)
     rw[<-C8 g2 f2 UN.2]at f4
     exact⟨a,rfl,e,g2,g3,f4⟩
  refine⟨λi m σ H=>m=xs.length-i/\i<=xs.length/\∃ow ρ,SX X.K bG ab Z EN EO ow σ H ρ/\aE (λy ρ=>(setT ρ y).bind b) (xs.drop i) ρ=some out,⟨xs.length,rfl,XF _,ow,ρ,y0,hd⟩,?_⟩
  rintro t m σ H ⟨rfl,hi,ow,ρ,hx,hd⟩
  refine cU (zo _ H (Em _ _ _ _ hx)) λgo xV stop=>?_
  by_cases bQ:t<xs.length
  .refine .inr ⟨go t bQ,λσ H=>∃ow ρ,SX X.K bG ab Z EN EO ow σ H ρ/\aE (λy ρ=>(setT ρ y).bind b) (xs.drop (t+1)) ρ=some out,λbX H' h=>⟨xs.length-(t+1),by lia,rfl,bQ,h⟩,λx H3 hy=>?_⟩
   obtain⟨s3,rx⟩:=xV t x H3 xs[t] hy (by simp[bQ])
   rw[Xs bQ,aE]at hd
   refine ae (bind_some hd) λo e2 hd=>ae (bind_some e2) λxK e2 e3=>hS bG ab Z EN EO ow σ H3 ρ xK x xs[t] _ (hx.mono s3) rx e2 λkI bX y0=>⟨bG,ab,Z,EN,EO,kI,xK,o,y0,e3,?_⟩
   cases o with
   |next ρ'=>exact λow σ H h=>⟨ow,ρ',h,hd⟩
   |cont ρ'=>exact λow σ H h=>⟨ow,ρ',h,hd⟩
   |brk ρ'=>cases hd;exact λow σ H h=>k ow σ H (hk _ _ _ _ h)
   |ret d=>cases hd;exact λv H s r=>k v H (sm.trans s) r
  .have e:t=xs.length:=by lia
   subst e
   rw[Z8,aE]at hd
   cases hd
   exact .inl ⟨stop,k ow σ H (hk _ _ _ _ hx)⟩
def zS(h:PS X st (tC X.K g)):PS X st (tC X.K λρ=>g (dH it ρ)):=
 h.weak λD' σ H zz=>by
  refine nE zz λH₀ ab Z kv kd ow ρ out hx hd k=>?_
  have key:∃kI,SX X.K H₀ ab Z kv kd kI σ H (dH it ρ):=by
   have one:∀i:Nat,∃kI,SX X.K H₀ ab Z kv kd kI σ H (match ρ[i]? with
     |some (some (true,D.lst xs))=>ρ.set i (some (false,D.lst xs))
     |_=>ρ):=λi=>by
    split
    .rename_i d hd;exact⟨_,hx.freeze hd⟩
    .exact⟨ow,hx⟩
   unfold dH
   split
   .exact one _
   .exact one _
   .exact⟨ow,hx⟩
  obtain⟨kI,h'⟩:=key
  exact⟨H₀,ab,Z,kv,kd,kI,_,out,h',hd,k⟩
end
def C'(h:yv ρ i=some d):ρ[i]?=some (some (true,.bM d.1 d.2.1 d.2.2))/\d.1≠2:=by
 unfold yv at h
 split at h
 .rename_i t ks vs e
  split at h
  .cases h
  .rename_i ht;cases h;exact⟨e,ht⟩
 .cases h
def kS(h:ic ρ i=some xs):ρ[i]?=some (some (true,.lst xs)):=by
 unfold ic at h
 split at h
 .rename_i xs e;cases h;exact e
 .cases h
section
variable {K:PySem.W.Frag}{H₀:Hp}{ab Z:Addr->Prop}{kv:List V}{kd:List D}{ow:Nat->Option Addr}{σ:St}{H H1:Hp}{ρ:Env}
def SX.P9(hx:SX K H₀ ab Z kv kd ow σ H ρ)(h:yv ρ i=some d):∃a vs,ow i=some a/\σ[i]?=some (some (.ref a))/\d.1≠2/\H a=some (fV d.1 d.2.1 vs)/\d.2.1.length=vs.length/\kG d.1 d.2.1/\av K (Os ab ow) H vs d.2.2:=by
 refine au λnO=>?_
 obtain⟨e,h2⟩:=C' h
 have hp:lL (.bM d.1 d.2.1 d.2.2)=false:=by show(d.1==2)=false;simp[h2]
 refine ae (hx.own i _ e) λa o2 o1=>?_
 have o1:ow i=some a:=o1.elim (λz=>z.2) λz=>by rw[hp]at z;exact nomatch z.1
 refine ae (hx.ex.jB i true _ e) λw q1 q2=>bL q2 λa' e6 e8 c=>?_
 rw[o2]at q1
 cases q1
 cases e6
 exact Bn (c.bM h2) λvs c1 c2 c3 c4=>nO<|⟨a,vs,o1,o2,h2,c1,c2,c3,c4⟩
def SX.Hz(hx:SX K H₀ ab Z kv kd ow σ H ρ)(h:ic ρ i=some xs):∃a vs,ow i=some a/\σ[i]?=some (some (.ref a))/\H a=some (.lst vs)/\av K (Os ab ow) H vs xs:=by
 have e:=kS h
 refine au λnO=>ae (hx.own i _ e) λa o2 o1=>?_
 have o1:ow i=some a:=o1.elim (λz=>z.2) λz=>nomatch z.1
 refine ae (hx.ex.jB i true _ e) λw q1 q2=>bL q2 λa' e6 e8 c=>?_
 rw[o2]at q1
 cases q1
 cases e6
 exact ae c.lst λvs c1 c2=>nO<|⟨a,vs,o1,o2,c1,c2⟩
end
def pT[DecidableEq κ](f:List Int->κ)(hl:ks.length=vs.length)(hf:∀k∈ks,f k=f x->k=x)(hx:x∉ks):jL ((ks.map f).zip vs) (f x) v=((ks++[x]).map f).zip (vs++[v]):=by
 have e:((((ks.map f).zip vs).any λkv=>decide (kv.1=f x))=true)=False:=by
  rw[eq_iff_iff,iff_false,List.any_eq_true]
  rintro⟨p,hp,hq⟩
  have h1:=(Zq (show(p.1,p.2)∈_ from hp)).1
  refine ae (WD.mp h1) λk k1 k2=>?_
  have:=hf k k1 (by rw[k2];exact of_decide_eq_true hq)
  exact hx (this▸k1)
 unfold jL
 rw[WV (by rw[e];exact id),W4,List.zip_append (by rw[Wr];exact hl)]
 rfl
section
variable {X:Cx}{c e ke:Expr}{st:Stmt}{bK:List Stmt}{pos px o:Pos}{x:Str}{i j:Nat}{f fk:Env->Option D}
def HA(hu:X.A.units+64<cLine)(hi:X.N[i]?=some x)(hv:vX X.env.scope x)(C9:(x==("__debug__":Str))=false)(sH:(x==("__classdict__":Str))=false)(hk:PE X ke (tV X.K false fk))(he:PE X e (tV X.K false f))(hs:∀t,swapsWith e (some t) pos.line X.env=pure false):
  PS X (.Assign [.Subscript (.Name x px) ke o] e pos) (tC X.K λρ=>(f ρ).bind λy=>(yv ρ i).bind λd=>((fk ρ).bind (de d.1)).bind λx=>
   if d.2.1.length<ba/\x∉d.2.1 then some (.next (put ρ i true (.bM d.1 (d.2.1++[x]) (d.2.2++[y])))) else none):=
 (ur (by lia) (bJ hi hv C9 sH) hk he (hs _)).weak λD' σ H zz=>by
  refine au λnO=>nE zz λH₀ ab Z kv kd ow ρ out hx hd k=>ae (bind_some hd) λy e1 hd=>ae (bind_some hd) λd e2 hd=>ae (bind_some hd) λxx e3 hd=>ae (bind_some e3) λdk e4 e5=>nO ?_
  split at hd
  .rename_i hz
   cases hd
   refine⟨Os ab ow,ρ,y,hx.ex,e1,λv H1 s1 r1=>?_⟩
   refine au λnO=>Q2 ((hx.mono s1).P9 e2) λa vs o1 o2 o3 c1 c2 c3 c4=>nO ?_
   refine⟨.ref a,o2,Os ab ow,ρ,dk,(hx.mono s1).ex,e4,λw H2 s2 r2=>?_⟩
   have IU:=(hx.mono s1).mono s2
   have Bj:=s2 _ _ c1
   have aS:vs.length<sizeLine:=by rw[cQ,<-c2];exact hz.1
   have P_:av X.K (Os ab ow) (L2.upd H2 a (fV d.1 (d.2.1++[xx]) (vs++[v]))) (vs++[v]) (d.2.2++[y]):=((c4.mono s2).append (.cons (r1.own.mono s2) .nil)).upd (.inr ⟨i,o1⟩) Bj km
   have P':kG d.1 (d.2.1++[xx]):=by
    refine⟨?_,λh0 q hq=>?_⟩
    .rw[XT]
     exact⟨c3.1,by simp,λa ha b hb e=>hz.2 (by rw[Ww.mp hb]at e;exact e▸ha)⟩
    .rcases WQ.mp hq with hq|hq
     .exact c3.2 h0 q hq
     .rw[Ww.mp hq]
      rcases fg r2.own e5 with⟨_,n,rfl,_⟩|⟨h1,_⟩
      .exact⟨n,rfl⟩
      .exact absurd h0 h1
   refine⟨a,_,rfl,?_,k ow _ _ (IU.R3 (d0:= .bM d.1 (d.2.1++[xx]) (d.2.2++[y])) o1 o2 Bj km km (by show(d.1==2)=false;simp[o3]) (.inr (.inl ⟨_,_,vs++[v],_,rfl,ag,by simp[c2],P',P_⟩)))⟩
   rcases fg r2.own e5 with⟨h0,n,rfl,rfl⟩|⟨h0,b,rfl,hb⟩
   .refine .inl ⟨_,Sum.inl n,by rw[Bj];unfold fV;rw[WO h0],rfl,by rw[Y2,Wr,c2,ZI];exact aS,?_⟩
    unfold fV
    rw[WO h0,<-pT (λk:List Int=>(Sum.inl (k.headD 0):cL)) c2 (λq hm e=>?_) hz.2]
    .rfl
    .obtain⟨j,rfl⟩:=c3.2 h0 q hm
     have:j=n:=ZY e
     rw[this]
   .refine .inr ⟨_,xx.map Sum.inl,b,by rw[Bj];unfold fV;rw[WV h0],rfl,hb,by rw[Y2,Wr,c2,ZI];exact aS,?_⟩
    unfold fV
    rw[WV h0,<-pT (λk:List Int=>k.map (Sum.inl:Int->cL)) c2 (λq _ e=>pQ e) hz.2]
  .cases hd
def zT{K:PySem.W.Frag}{H₀ H H1:Hp}{ab Z:Addr->Prop}{kv:List V}{kd:List D}{ow:Nat->Option Addr}{σ:St}{ρ:Env}(h:SX K H₀ ab Z kv kd ow σ H ρ){p:Addr}{t:Nat}{ks:List (List Int)}{vs:List V}{ds:List D}(s:af H H1)(hp:H1 p=none)(r:av K (Os ab ow) H1 vs ds)(h2:t≠2)(hl:ks.length=vs.length)(hk:kG t ks)(i:Nat):
  ∃kI,SX K H₀ ab Z kv kd kI (σ.set i (some (.ref p))) (L2.upd H1 p (fV t ks vs)) (Py.put ρ i true (.bM t ks ds)):=by
 by_cases hi:i<ρ.length
 .exact⟨_,h.LA (u:=fV t ks vs) s hp km i hi (by show(t==2)=false;simp[h2]) (.inr (.inl ⟨t,ks,vs,ds,rfl,ag,hl,hk,mi hp r⟩))⟩
 .have e1:σ.set i (some (.ref p))=σ:=Yt (by rw[<-h.len];lia)
  have e2:Py.put ρ i true (.bM t ks ds)=ρ:=Yt (by lia)
  rw[e1,e2]
  exact⟨ow,h.mono (s.trans (af.upd hp))⟩
def vb{K:PySem.W.Frag}{t:Nat}{H H2:Hp}{w:V}{u0:HO}(hx:SX K H₀ ab Z kv kd ow σ H ρ)(hp:H p=none)(s:af (L2.upd H p u0) H2)(p_:H2 p=some u0)(R7:∀us,u0≠ .tup us/\u0≠ .lst us)(K7:∀o u,u0≠ .dn o u)(r2:bx K (Os ab ow) H2 w db)(h2:t≠2)(hk:kG t [xx])(i:Nat):
  ∃kI,SX K H₀ ab Z kv kd kI (σ.set i (some (.ref p))) (L2.upd H2 p (fV t [xx] [w])) (put ρ i true (.bM t [xx] [db])):=by
 let H3:Hp:=λq=>if q=p then none else H2 q
 have k3:∀q,q≠p->H3 q=H2 q:=λq hq=>WV hq
 have e4:L2.upd H2 p (fV t [xx] [w])=L2.upd H3 p (fV t [xx] [w]):=by
  funext q
  unfold L2.upd
  by_cases hq:q=p
  .rw[WO hq,WO hq]
  .rw[WV hq,WV hq,k3 q hq]
 have s3:af H H3:=λq u hq=>by
  have R8:q≠p:=λz=>by rw[z,hp]at hq;cases hq
  rw[k3 q R8]
  exact s _ _ (by rw[ao R8];exact hq)
 have rep3:bx K (Os ab ow) H3 w db:=gR (λq us hq=>by
   have R9:H2 q=some (.tup us):=hq
   show H3 q=some (.tup us)
   rw[k3 q (fR R9 p_ λz=>(R7 us).1 z.symm)];exact R9) (λq us hq nq=>⟨by
   rcases hq with hq|⟨ob,hq⟩
   .exact .inl (by rw[k3 q (fR hq p_ λz=>(R7 us).2 z.symm)];exact hq)
   .exact .inr ⟨ob,by rw[k3 q (fR hq p_ λz=>K7 _ _ z.symm)];exact hq⟩,nq⟩) (λq ob u hq=>by rw[k3 q (fR hq p_ λz=>K7 _ _ z.symm)];exact hq) r2
 rw[e4]
 exact zT (t:=t) (ks:=[xx]) (ds:=[db]) hx s3 (WO rfl) (.cons rep3 .nil) h2 rfl hk i
def Dc{t:Nat}{dp:Pos}(hu:X.A.units+64<cLine)(hN:X.N.Nodup)(hi:X.N[i]?=some x)(hx:Loc X.env.scope x)(hf:X.fn x=true)(hk:PE X ke (tV X.K false fk))(he:PE X e (tV X.K false f)):
  PS X (.Assign [.Name x px] (.Dict [some ke] [e] dp) pos) (tC X.K λρ=>if t=2 then none else((fk ρ).bind λa=>(f ρ).bind λb=>(de t a).map λx=>D.bM t [x] [b]).map λd=> .next (put ρ i true d)):=by
 by_cases h0:t=0
 .subst h0
  refine(gn hN hi hx (uK (by lia) hk he) rfl (.inl hf)).weak λD' σ H zz=>au λnO=>nE zz λH₀ ab Z kv kd ow ρ out hx hd k=>nO ?_
  replace hd:=(WV (by decide)).symm.trans hd
  refine au λnO=>ae (map_some hd) λd qb lU=>ae (bind_some qb) λda e1 qb=>ae (bind_some qb) λdb e2 qb=>ae (map_some qb) λxx e3 qb=>?_
  subst qb
  subst lU
  refine nO λp hp=>?_
  have LL:=hx.ex.mono (af.upd (o:= .dK []) hp)
  refine⟨Os ab ow,ρ,da,LL,e1,λv H1 s1 r1=>⟨Os ab ow,ρ,db,LL.mono s1,e2,λw H2 s2 r2=>?_⟩⟩
  have p_:H2 p=some (.dK []):=s2 _ _ (s1 _ _ ag)
  rcases fg (r1.own.mono s2) e3 with⟨_,n,rfl,rfl⟩|⟨z,_⟩
  .obtain⟨kI,h'⟩:=vb (t:=0) hx hp (s1.trans s2) p_ (λus=>⟨nofun,nofun⟩) (λo u=>nofun) r2.own (by decide) ⟨by simp,λ_ k hk=>⟨n,Ww.mp hk⟩⟩ i
   exact⟨n,rfl,p_,k kI _ _ h'⟩
  .exact absurd rfl z
 .refine(gn hN hi hx (B6 (by lia) hk he) rfl (.inl hf)).weak λD' σ H zz=>au λnO=>nE zz λH₀ ab Z kv kd ow ρ out hx hd k=>nO ?_
  split at hd
  .cases hd
  .rename_i h2
   refine au λnO=>ae (map_some hd) λd qb lU=>ae (bind_some qb) λda e1 qb=>ae (bind_some qb) λdb e2 qb=>ae (map_some qb) λxx e3 qb=>?_
   subst qb
   subst lU
   refine nO λp hp=>?_
   have LL:=hx.ex.mono (af.upd (o:= .dT []) hp)
   refine⟨Os ab ow,ρ,da,LL,e1,λv H1 s1 r1=>⟨Os ab ow,ρ,db,LL.mono s1,e2,λw H2 s2 r2=>?_⟩⟩
   have p_:H2 p=some (.dT []):=s2 _ _ (s1 _ _ ag)
   rcases fg (r1.own.mono s2) e3 with⟨z,_⟩|⟨_,b,rfl,hb⟩
   .exact absurd z h0
   .obtain⟨kI,h'⟩:=vb hx hp (s1.trans s2) p_ (λus=>⟨nofun,nofun⟩) (λo u=>nofun) r2.own h2 ⟨by simp,λz=>absurd z h0⟩ i
    refine⟨b,xx.map Sum.inl,rfl,hb,p_,k kI _ _ ?_⟩
    have e5:fV t [xx] [w]= .dT [(xx.map Sum.inl,w)]:=WV h0
    rwa [e5]at h'
def rB(h:gq ρ j=some xs):∃o,ρ[j]?=some (some (o,.lst xs)):=by
 unfold gq at h
 split at h
 .rename_i o ks e;cases h;exact⟨_,e⟩
 .cases h
def LN(hN:X.N.Nodup)(hi:X.N[i]?=some x)(hx:Loc X.env.scope x)(hf:X.fn x=true)(hv:PE X (.Name y py) (cW j)):PS X (.Assign [.Name x px] (.Name y py) pos) (tC X.K λρ=>(ic ρ j).map λxs=> .next (put (ρ.set j (some (false,.lst xs))) i false (.lst xs))):=
 (gn hN hi hx hv rfl (.inl hf)).weak λD' σ H zz=>by
  refine nE zz λH₀ ab Z kv kd ow ρ out hx hd k=>ae (map_some hd) λxs e1 aj=>?_
  subst aj
  have h':=hx.freeze (kS e1)
  obtain⟨v,q1,q2⟩:=h'.ex.jB j false (.lst xs) (by
   have hl:j<ρ.length:=(WK.mp (kS e1)).1
   exact WW hl)
  exact⟨v,q1,k _ _ _ (h'.put (show bx X.K _ H v (.lst xs) from q2) i)⟩
def HB{K:PySem.W.Frag}{H₀:Hp}{ab Z:Addr->Prop}{kv:List V}{kd:List D}{ow:Nat->Option Addr}{σ:St}{H:Hp}{ρ:Env}(hx:SX K H₀ ab Z kv kd ow σ H ρ){l:List D}{z:D}(e1:ic ρ j=some l)(e2:l.getLast?=some z):
  ∃a vs v,σ[j]?=some (some (.ref a))/\H a=some (.lst vs)/\vs[vs.length-1]?=some v/\SX K H₀ ab Z kv kd ow σ (L2.upd H a (.lst vs.dropLast)) (put ρ j true (.lst l.dropLast))/\bx K (Os ab ow) (L2.upd H a (.lst vs.dropLast)) v z:=by
 refine au λnO=>gM (hx.Hz e1) λa vs o1 o2 o3 o4=>?_
 have ll:=o4.length
 have BM:l[vs.length-1]?=some z:=by rw[ll,<-ZN];exact e2
 refine ae (o4.get BM) λv g1 g2=>nO ?_
 have rd:av K (Os ab ow) H vs.dropLast l.dropLast:=by
  rw[YI,YI,ll]
  exact o4.take _
 exact⟨a,vs,v,o2,o3,g1,hx.wr o1 o2 o3 rd,g2.upd (.inr ⟨j,o1⟩) o3 trivial⟩
def zU(hv:PE X y (cW j))(hb:attributeBase y "pop" X.env (eval y X.env)=eval y X.env)(hl:(ap.endLine==cp.line)=true):
  PE X (.Call (.Attribute y "pop" ap) [] [] cp) (λσ H Q=>∃a vs v,σ[j]?=some (some (.ref a))/\H a=some (.lst vs)/\vs[vs.length-1]?=some v/\Q v (L2.upd H a (.lst vs.dropLast))):=
 (FY Yy PySem.F.slot_list_pop PySem.F.type_list_pop F2 hv hb hl).weak λσ H Q ⟨a,vs,v,h1,h2,h3,q⟩=>⟨.ref a,h1,.inl ⟨rfl,vs,c9.of h2⟩,a,vs,v,rfl,rfl,h2,h3,q⟩
def LO(hN:X.N.Nodup)(hi:X.N[i]?=some x)(hx:Loc X.env.scope x)(hf:X.fn x=true){y:Expr}{ap cp:Pos}(hv:PE X y (cW j))(hb:attributeBase y "pop" X.env (eval y X.env)=eval y X.env)(hl:(ap.endLine==cp.line)=true):
  PS X (.Assign [.Name x px] (.Call (.Attribute y "pop" ap) [] [] cp) pos) (tC X.K λρ=>(ic ρ j).bind λl=>(l.getLast?).map λz=> .next (put (put ρ j true (.lst l.dropLast)) i false z)):=
 (gn hN hi hx (zU hv hb hl) rfl (.inl hf)).weak λD' σ H zz=>by
  refine au λnO=>nE zz λH₀ ab Z kv kd ow ρ out hx hd k=>ae (bind_some hd) λl e1 hd=>ae (map_some hd) λz e2 aj=>?_
  subst aj
  exact sf (HB hx e1 e2) λa vs v h1 h2 h3 h4 h5=>nO<|⟨a,vs,v,h1,h2,h3,k _ _ _ (h4.put h5 i)⟩
def LP(hi:X.N[i]?=some x)(hv:vX X.env.scope x)(C9:(x==("__debug__":Str))=false)(sH:(x==("__classdict__":Str))=false)(hl:(ap.endLine==cp.line)=true)(he:PE X e (tV X.K false f))(hn:aW e=true):
  PS X (.Expr (.Call (.Attribute (.Name x px) "extend" ap) [e] [] cp) pos) (tC X.K λρ=>(f ρ).bind λd=>match d with
   | .lst zs=>(ic ρ i).bind λws=>if ws.length+zs.length<=ba then some (.next (put ρ i true (.lst (ws++zs)))) else none
   |_=>none):=
 (oO (yh Yy ZV ZW zf (bJ hi hv C9 sH) (cb he c_ (bN hn)) rfl (by rw[bN hn];rfl) hl (bN hn) rfl) rfl).weak λD' σ H zz=>by
  refine nE zz λH₀ ab Z kv kd ow ρ out hx hd k=>ae (bind_some hd) λd e1 hd=>?_
  cases d with
  |lst zs=>
   refine ae (bind_some hd) λws e2 hd=>?_
   split at hd
   .rename_i hz
    cases hd
    refine gM (hx.Hz e2) λa vs o1 o2 o3 o4=>⟨.ref a,o2,.inl ⟨rfl,vs,c9.of o3⟩,Os ab ow,ρ,.lst zs,hx.ex,e1,λv H1 s1 r1=>?_⟩
    have q_:=hx.mono s1
    have LQ:=s1 _ _ o3
    refine bC r1.lst λb us aj h1 h2=>?_
    subst aj
    refine⟨a,b,vs,us,rfl,rfl,LQ,h1,?_,?_⟩
    .rw[cQ,o4.length,h2.length];exact hz
    .exact k ow _ _ (q_.wr o1 o2 LQ ((o4.mono s1).append h2))
   .cases hd
  |_=>cases hd
end
section
variable {K:PySem.W.Frag}{O O':Addr->Prop}{H H' H1 H2 H3:Hp}{a b:Addr}{as:List Addr}{T:List D}
def iI(H H':Hp):Prop:=∀b us,H b=some (.tup us)->H' b=some (.tup us)
def iI.trans(h1:iI H H1)(h2:iI H1 H2):iI H H2:=λb us e=>h2 b us (h1 b us e)
def oA(s:af H H'):iI H H':=λb us e=>s _ _ e
def gF(e:H a=some u)(hu:qY u):iI H (L2.upd H a o):=λb us h=>by
 rw[ao (fR h e (by intro z;rw[<-z]at hu;exact hu))];exact h
def dS(ht:iI H H')(h:bx K O H v d):ay d=true->bx K O' H' v d:=
 bx.rec (motive_1:=λv d _=>ay d=true->bx K O' H' v d) (motive_2:=λvs ds _=>aV ds=true->av K O' H' vs ds) (λ_=> .fC) (λb _=> .bl b) (λi _=> .int i)
  (λh _ ih n=> .tup (ht _ _ h) (ih (by simpa[ay]using n))) (λ_ _ _ _ n=>absurd n (by simp[ay])) (λ_ _ _ n=>absurd n (by simp[ay])) (λ_ _ _ _ _ n=>absurd n (by simp[ay])) (λ_=> .nil)
  (λ_ _ i1 i2 n=>by
   simp only[aV,Ws]at n
   exact .cons (i1 n.1) (i2 n.2)) h
theorem fm(ht:iI H H'):∀{vs:List V}{ds:List D},av K O H vs ds->aV ds=true->av K O' H' vs ds
 |_,_,.nil,_=> .nil
 |_,_,.cons r t,n=>by
  simp only[aV,Ws]at n
  exact .cons (dS ht r n.1) (fm ht t n.2)
theorem iw:∀{xs ys:List D},aV (xs++ys)=(aV xs&&aV ys)
 |[],ys=>by simp[aV]
 |x::xs,ys=>by simp[aV,iw (xs:=xs),Bool.and_assoc]
def mr(K:PySem.W.Frag)(H:Hp)(b:Addr)(d:D):Prop:=∃ks vs xs,d= .bM 0 ks xs/\H b=some (fV 0 ks vs)/\ks.length=vs.length/\kG 0 ks/\aV xs=true/\av K (λ_=>False) H vs xs
def mr.keep(h:mr K H b d)(ht:iI H H')(e:H' b=H b):mr K H' b d:=by
 exact Jb h λks vs xs h1 h2 h3 h4 h5 h6=>⟨ks,vs,xs,h1,by rw[e];exact h2,h3,h4,h5,fm ht h6 h5⟩
def jZ:∀{l:List α}{m:List β},Paired R l m->(∀x y,x∈l->R x y->R' x y)->Paired R' l m:=λ{l m} h=>by
 induction h with
 |nil=>exact λ_=> .nil
 |cons r t ih=>exact λk=> .cons (k _ _ Wx r) (ih λx y hx=>k x y (Wu _ hx))
def Dd:∀{l:List α}{m:List β}{i:Nat}{y:β},Paired R l m->m[i]?=some y->∃x,l[i]?=some x/\R x y:=λ{l m i y} h=>by
 induction h generalizing i with
 |nil=>intro e;simp at e
 |cons r t ih=>
  intro e
  cases i with
  |zero=>simp at e;subst e;exact⟨_,rfl,r⟩
  |succ i=>exact ae (ih (i:=i) (by simpa using e)) λx h1 h2=>⟨x,by simpa using h1,h2⟩
def xa{α β:Type}{R:α->β->Prop}{x:α}{y:β}(h:R x y):∀{l:List α}{m:List β},Paired R l m->Paired R (l++[x]) (m++[y]):=λ{l m} p=>by
 induction p with
 |nil=>exact .cons h .nil
 |cons r t ih=>exact .cons r ih
def jq:∀{l:List α}{m:List β},Paired R l m->x∈l->∃y,R x y:=λ{l m} p=>by
 induction p with
 |nil=>exact λh=>nomatch h
 |cons r t ih=>exact λh=>(WG.mp h).elim (λe=>by subst e;exact⟨_,r⟩) ih
structure qc(K:PySem.W.Frag)(H:Hp)(a:Addr)(as:List Addr)(T:List D):Prop where
 lst:H a=some (.lst (as.map V.ref))
 bM:Paired (mr K H) as T
 nd:(a::as).Nodup
theorem qc.keep(h:qc K H a as T)(ht:iI H H')(e:∀b,b∈a::as->H' b=H b):qc K H' a as T:=
 ⟨by rw[e a Wx];exact h.lst,jZ h.bM λb d hb hd=>hd.keep ht (e b (Wu _ hb)),h.nd⟩
def qc.there(h:qc K H a as T):∀b,b∈a::as->∃u,H b=some u/\qY u:=λb hb=>by
 rcases WG.mp hb with e|hb
 .subst e;exact⟨_,h.lst,trivial⟩
 .exact E9 (jq h.bM hb) λd ks vs xs _ h2 _=>⟨_,h2,km⟩
def qc.mut(h:qc K H a as T):∀b,b∈as->lV H b:=λb hb=>by
 exact E9 (jq h.bM hb) λd ks vs xs _ h2 _=>⟨_,h2,CS⟩
def qc.vc(h:qc K H a as T)(s:af H H'):qc K H' a as T:=
 h.keep (oA s) λb hb=>by
  refine ae (h.there b hb) λu e _=>?_
  rw[e];exact s _ _ e
def rC(f:Cv as H1 H2):iI H1 H2:=λb us e=>by
 rw[f.out b λhb=>?_]
 .exact e
 .refine bC (f.at_ b hb) λo u e1 mu _=>?_
  rw[e]at e1;cases e1;exact mu
def qc.rep(h:qc K H1 a as T)(f:Cv as H1 H2):bx K O H2 (.ref a) (.lst T)\/O a:=by
 by_cases ho:O a
 .exact .inr ho
 .refine .inl (.lst (.inl (by rw[f.out a (Xd.mp h.nd).1];exact h.lst)) ho ?_)
  have all:∀{bs:List Addr}{S:List D},(∀b∈bs,b∈as)->Paired (mr K H1) bs S->av K O H2 (bs.map V.ref) S:=by
   intro bs S hs p
   induction p with
   |nil=>exact .nil
   |@cons b d bs S hd _ ih=>
    refine Jb hd λks vs xs aj h2 h3 h4 h5 h6=>?_
    try clear hd
    subst aj
    refine bC (f.at_ b (hs b Wx)) λo u e1 mu e2=>?_
    rw[h2]at e1
    cases e1
    exact .cons (.bM e2 h3 h4 (fm (rC f) h6 h5)) (ih λc hc=>hs c (Wu _ hc))
  exact all (λb hb=>hb) h.bM
def xb(f:Cv as H1 H2)(s:af H2 H3):qV as H1 H3/\af H1 (gg as H1 H3)/\iI H3 (gg as H1 H3):=by
 have c:qV as H1 H3:=λb hb=>by
  exact bC (f.at_ b hb) λo u e1 mu e2=>⟨o,u,e1,mu,s _ _ e2⟩
 refine⟨c,λb u e=>?_,λb us e=>?_⟩
 .by_cases hb:b∈as
  .rw[jf hb];exact e
  .rw[bT hb];exact s _ _ (by rw[f.out b hb];exact e)
 .rw[bT λhb=>?_]
  .exact e
  .refine bC (c b hb) λo u _ _ e2=>?_
   rw[e]at e2;cases e2
def zV(c:qV as H1 H3)(hd:∀b∈as,∀zs,H1 b≠some (.lst zs))(h:c9 K H3 p us):c9 K (gg as H1 H3) p us:=by
 rcases h with h|h
 .refine .inl ?_
  have hp:p∉as:=λhb=>by
   refine bC (c p hb) λo u e1 mu e2=>?_
   rcases h with h|⟨o',h⟩
   .rw[h]at e2;cases e2
   .rw[h]at e2;cases e2;exact hd p hb us e1
  rcases h with h|⟨o',h⟩
  .exact .inl (by rw[bT hp];exact h)
  .exact .inr ⟨o',by rw[bT hp];exact h⟩
 .exact .inr h
def HC:∀us,fV t ks vs≠ .lst us:=by
 intro us h
 unfold fV at h
 split at h<;>cases h
def qc.LR(h:qc K H a as T):∀b∈as,∀zs,H b≠some (.lst zs):=λb hb zs e=>by
 refine E9 (jq h.bM hb) λd ks vs xs _ h2 _=>?_
 rw[h2]at e
 exact HC _ (WU e)
end
section
variable {K:PySem.W.Frag}{H₀ bG:Hp}{ab Z:Addr->Prop}{kv:List V}{kd:List D}{ow:Nat->Option Addr}{σ:St}{H H1 H':Hp}{ρ:Env}{a b:Addr}{as:List Addr}{T:List D}{x y:Nat}
def OT(ab:Addr->Prop)(a:Addr)(as:List Addr):Addr->Prop:=λb=>ab b\/b∈a::as
def bx.xc{l:List Addr}{v:V}{d:D}(h:bx K (Os ab ow) H v d)(hp:∀p∈l,H p=none):bx K (λb=>Os ab ow b\/b∈l) H v d:=
 gR (λ_ _ h=>h) (λb us h n=>⟨h,λz=>z.elim n λe=>kP (hp b e) h⟩) (λ_ _ _ h=>h) h
def av.xc{l:List Addr}{v:List V}{d:List D}(h:av K (Os ab ow) H v d)(hp:∀p∈l,H p=none):av K (λb=>Os ab ow b\/b∈l) H v d:=
 eZ (λ_ _ h=>h) (λb us h n=>⟨h,λz=>z.elim n λe=>kP (hp b e) h⟩) (λ_ _ _ h=>h) h
theorem eg.xc{l:List Addr}{d:D}(h:eg K (Os ab ow) H b d)(hp:∀p∈l,H p=none):eg K (λb=>Os ab ow b\/b∈l) H b d:=by
 rcases h with⟨vs,ds,e1,e2,e3⟩|⟨t,ks,vs,ds,e1,e2,e3,e4,e5⟩|⟨e1,u',e2,e3⟩
 .exact .inl ⟨vs,ds,e1,e2,e3.xc hp⟩
 .exact .inr (.inl ⟨t,ks,vs,ds,e1,e2,e3,e4,e5.xc hp⟩)
 .exact .inr (.inr ⟨e1,u',e2,e3⟩)
noncomputable def mz(a:Addr)(as:List Addr)(H₀ H:Hp):Hp:=gg (a::as) H H₀
def Qa:∀b,Os (OT ab a as) (ou ow x none) b->Os ab ow b\/b∈a::as:=λb z=>by
 rcases z with (z|z)|⟨j,z⟩
 .exact .inl (.inl z)
 .exact .inr z
 .by_cases hj:j=x
  .rw[hj,aH]at z;cases z
  .rw[aL hj]at z;exact .inl (.inr ⟨j,z⟩)
def SX.tab(h:SX K H₀ ab Z kv kd ow σ H ρ)(s:af H H')(t:qc K H' a as T)(hn:∀b∈a::as,H b=none)(nt:qv ρ=true)(hx:x<ρ.length):
  af H₀ (mz a as H₀ H')/\SX K (mz a as H₀ H') (OT ab a as) (λb=>b=a) [] [] (ou ow x none) (σ.set x (some (.ref a))) H' (Py.put ρ x true sT):=by
 have UO:∀b∈a::as,H₀ b=none:=λb hb=>by
  cases z:H₀ b with
  |none=>rfl
  |some w=>have:=h.same _ _ z;rw[hn b hb]at this;cases this
 have sb:af H₀ (mz a as H₀ H'):=λb u e=>by
  unfold mz
  rw[bT λhb=>by rw[UO b hb]at e;cases e]
  exact e
 have ER:∀(j:Nat) (o:Bool) (d:D),ρ[j]?=some (some (o,d))->lL d=false:=λj o d e=>by
  unfold qv at nt
  have:=Xw.mp nt _ (XE e)
  simpa using this
 refine⟨sb,⟨⟨λb hb=>?_,λj o d' hj=>?_⟩,λj d' hj=>?_,λj k b hj hk=>?_,λj b hj=>?_,λb u e=>?_,.nil,λb hb=>?_,by unfold Py.put;rw[Xm,Xm];exact h.len⟩⟩
 .rcases Qa b hb with z|z
  .exact ae (h.ex.live b z) λu e q=>⟨u,s _ _ e,q⟩
  .exact t.there b z
 .by_cases eF:j=x
  .subst eF
   unfold Py.put at hj
   rw[WW hx]at hj
   cases hj
   exact ae (t.there a Wx) λu e q=>⟨.ref a,WW (by rw[<-h.len];exact hx),a,rfl,.inl (.inr Wx),.inr (.inr ⟨rfl,u,e,q⟩)⟩
  .unfold Py.put at hj
   rw[WT (Xt eF)]at hj
   refine ae (h.ex.jB j o d' hj) λw h1 h2=>⟨w,by rw[WT (Xt eF)];exact h1,?_⟩
   cases o with
   |true=>
    refine bL h2 λb e1 e2 c=>ae (h.own j d' hj) λb' o2 o1=>?_
    rw[h1]at o2
    cases o2
    cases e1
    refine⟨b,rfl,o1.elim (λo1=> .inr ⟨j,by rw[aL eF];exact o1.2⟩) (λo1=> .inl (.inl o1.2.2)),((c.xc hn).mono s).weak Qa⟩
   |false=>exact((bx.xc h2 hn).mono s).weak Qa
 .by_cases eF:j=x
  .subst eF
   unfold Py.put at hj
   rw[WW hx]at hj
   cases hj
   exact⟨a,WW (by rw[<-h.len];exact hx),.inr ⟨rfl,rfl,.inr Wx⟩⟩
  .unfold Py.put at hj
   rw[WT (Xt eF)]at hj
   refine ae (h.own j d' hj) λb o2 o1=>⟨b,by rw[WT (Xt eF)];exact o2,.inl ⟨ER j true d' hj,?_⟩⟩
   rw[aL eF]
   exact o1.elim (λo1=>o1.2) λo1=>by rw[ER j true d' hj]at o1;exact nomatch o1.1
 .by_cases h1:j=x
  .rw[h1,aH]at hj;cases hj
  .by_cases h2:k=x
   .rw[h2,aH]at hk;cases hk
   .rw[aL h1]at hj;rw[aL h2]at hk;exact h.inj j k b hj hk
 .by_cases h1:j=x
  .rw[h1,aH]at hj;cases hj
  .rw[aL h1]at hj
   refine ae (h.ex.live b (.inr ⟨j,hj⟩)) λu e _=>?_
   unfold mz
   rw[bT λhb=>by rw[hn b hb]at e;cases e]
   exact h.new j b hj
 .unfold mz at e
  by_cases hb:b∈a::as
  .rw[jf hb]at e;exact e
  .rw[bT hb]at e;exact s _ _ (h.same _ _ e)
 .unfold mz
  by_cases jH:b∈a::as
  .exact ae (t.there b jH) λu e _=>⟨u,by rw[jf jH];exact e⟩
  .rw[bT jH]
   exact h.o0 b (hb.resolve_right jH)
noncomputable def iy(bG H:Hp):Hp:=λb=>match H b with
 |some (.tup us)=>some (.tup us)
 |_=>bG b
def gU(e:H b=some (.tup us)):iy bG H b=some (.tup us):=by unfold iy;rw[e]
def fq(e:∀us,H b≠some (.tup us)):iy bG H b=bG b:=by
 unfold iy
 split
 .rename_i us z;exact absurd z (e us)
 .rfl
theorem SX.iy(h:SX K bG ab Z kv kd ow σ H ρ):SX K (iy bG H) ab Z kv kd ow σ H ρ:=by
 refine⟨h.ex,h.own,h.inj,λi b hb=>?_,λb u e=>?_,h.kp,λb hb=>?_,h.len⟩
 .refine ae (h.ex.live b (.inr ⟨i,hb⟩)) λu e q=>?_
  rw[fq λus z=>by rw[e]at z;cases z;exact q]
  exact h.new i b hb
 .by_cases hb:∃us,H b=some (.tup us)
  .obtain⟨us,z⟩:=hb
   rw[gU z]at e
   cases e
   exact z
  .rw[fq λus z=>hb ⟨us,z⟩]at e
   exact h.same _ _ e
 .by_cases jH:∃us,H b=some (.tup us)
  .obtain⟨us,z⟩:=jH
   exact⟨_,gU z⟩
  .rw[fq λus z=>jH ⟨us,z⟩]
   exact h.o0 b hb
def LS(K:PySem.W.Frag)(H₀:Hp)(ab:Addr->Prop)(a:Addr)(as:List Addr)(T:List D)(σ:St)(H:Hp)(ρ:Env):Prop:=
 ∃bG ow,af H₀ bG/\SX K bG (OT ab a as) (λb=>b=a) [] [] ow σ H ρ/\(∀b,b∈a::as->bG b=H b)/\qc K H a as T
def SX.rD(hx:SX K bG (OT ab a as) (λb=>b=a) [] [] ow σ H ρ)(t:qc K H a as T)(s:af H H')(e:∀b,b∈a::as->bG b=H b):∀b,b∈a::as->bG b=H' b:=λb hb=>by
 refine ae (t.there b hb) λu eu _=>?_
 rw[e b hb,eu]
 exact(s _ _ eu).symm
theorem LS.mono(h:LS K H₀ ab a as T σ H ρ)(s:af H H'):LS K H₀ ab a as T σ H' ρ:=by
 exact gM h λbG ow h1 h2 h3 h4=>⟨bG,ow,h1,h2.mono s,h2.rD h4 s h3,h4.vc s⟩
def LS.run(h:LS K H₀ ab a as T σ H ρ)(e:f ρ=some (.next ρ'))(k:∀bX H',LS K H₀ ab a as T bX H' ρ'->D'.nx bX H'):tC K f D' σ H:=by
 refine gM h λbG ow h1 h2 h3 h4=>⟨iy bG H,_,_,[],[],ow,ρ,.next ρ',h2.iy,e,λkI bX H' hx=>k bX H' ⟨_,kI,λb u eb=>?_,hx,λb hb=>?_,?_⟩⟩
 .have:=h1 _ _ eb
  by_cases hb:∃us,H b=some (.tup us)
  .obtain⟨us,z⟩:=hb
   rw[gU z,<-z]
   exact h2.same _ _ this
  .rw[fq λus z=>hb ⟨us,z⟩];exact this
 .refine ae (h4.there b hb) λu eu q=>?_
  have e1:iy bG H b=some u:=by
   rw[fq λus z=>by rw[eu]at z;cases z;exact q,h3 b hb];exact eu
  rw[e1]
  exact(hx.same _ _ e1).symm
 .refine h4.keep (λb us z=>hx.same _ _ (gU z)) λb hb=>ae (h4.there b hb) λu eu q=>?_
  have e1:iy bG H b=some u:=by
   rw[fq λus z=>by rw[eu]at z;cases z;exact q,h3 b hb];exact eu
  rw[eu]
  exact hx.same _ _ e1
def Df(h:iX ρ x=true):ρ[x]?=some (some (true,sT)):=by
 unfold iX at h
 split at h
 .rename_i t e
  have:t=2:=by simpa using h
  subst this
  exact e
 .cases h
def LS.at(h:LS K H₀ ab a as T σ H ρ)(ht:iX ρ x=true):σ[x]?=some (some (.ref a)):=by
 refine gM h λbG ow _ h2 _ _=>ae (h2.own x _ (Df ht)) λb o2 o1=>?_
 rcases o1 with o1|o1
 .exact nomatch o1.1
 .rw[o2,o1.2.1]
theorem LS.lst(h:LS K H₀ ab a as T σ H ρ){l:List D}(e:gq ρ y=some l):∃b vs,σ[y]?=some (some (.ref b))/\c9 K H b vs/\vs.length=l.length:=by
 refine au λnO=>gM h λbG ow _ h2 _ _=>?_
 obtain⟨o,e2⟩:=rB e
 refine ae (h2.ex.jB y o _ e2) λu q1 q2=>nO ?_
 cases o with
 |true=>
  refine au λnO=>bL q2 λb f1 f2 c=>ae c.lst λvs c1 c2=>?_
  subst f1
  exact nO<|⟨b,vs,q1,c9.of c1,c2.length⟩
 |false=>
  refine au λnO=>bC (bx.lst_inv q2) λb vs f1 f2 f3=>?_
  subst f1
  exact nO<|⟨b,vs,q1,f2,f3.length⟩
def xf(e:ic ρ y=some l):gq ρ y=some l:=by
 have:=kS e
 unfold gq
 rw[this]
end
def LU(h:de 0 d=some k):∃i,d= .int i/\k=[i]:=by
 cases d with
 |int i=>cases h;exact⟨i,rfl,rfl⟩
 |tup xs=>cases h
 |_=>cases h
def xg{K:PySem.W.Frag}{fr:List Nat}{fi:Env->Option (List D)}{fk fv:Env->Option D}{O:Addr->Prop}{σ:St}{H:Hp}{ρ:Env}{Q:VK}{xs T:List D}(hx:EX K O σ H ρ)(e1:fi ρ=some xs)(hz:xs.length<=ba)(hd:walk (qw fk fv fr ρ) xs=some T)
  (q:∀p as H',af H H'->qc K H' p as T->(∀b∈p::as,H b=none)->Q (.ref p) H'):nR 1 fr (tI K true fi) (b9 0) (tB K λ_=>some true) (qW (tV K false fk) (tV K false fv)) σ H Q:=by
 refine⟨O,ρ,xs,hx,e1,λJ gf H1 s1 zo q5 p hp=>?_⟩
 have q_:=hx.mono s1
 have GY:e_ K (λa=>O a\/a=p) H1 gf:=q5.ok.own hp
 refine⟨λi m H'=>m=xs.length-i/\i<=xs.length/\af H1 H'/\∃as S bK,H' p=some (.lst (as.map V.ref))/\Paired (mr K H') as S/\(p::as).Nodup /\(∀b∈as,H1 b=none)/\as.length=i/\walk (qw fk fv fr ρ) (xs.drop i)=some bK/\T=S++bK,
  ⟨xs.length,rfl,XF _,af.upd hp,[],[],T,ag,.nil,by simp,λ_ z=>(nomatch z),rfl,hd,rfl⟩,?_⟩
 rintro i mm H2 ⟨rfl,hi,s2,as,S,bK,ep,pd,nd,hn,hl,hw,ho⟩
 refine cU (zo _ H2 (GY.mono s2)) λgo xV stop=>?_
 by_cases bQ:i<xs.length
 .refine .inr ⟨go i bQ,λx H3 hy=>?_⟩
  have PF:xs[i]?=some xs[i]:=by simp[bQ]
  obtain⟨s3,rx⟩:=xV i x H3 _ hy PF
  have Ll:H3 p=some (.lst (as.map V.ref)):=s3 _ _ ep
  have PH:EX K (λa=>O a\/a=p) σ H3 ρ:=q_.ext hp (s2.trans s3) Ll
  have dr:xs.drop i=xs[i]::xs.drop (i+1):=(Xs bQ)
  rw[dr,walk]at hw
  show tB K (λ_=>some true) ((List.replicate 1 none++iU fr σ).set 0 (some x)) H3 _
  have UP:(List.replicate 1 none++iU fr σ).set 0 (some x)=some x::iU fr σ:=rfl
  rw[UP]
  have Lm:=PH.inner (.cons rx .nil) fr
  refine⟨_,_,true,Lm,rfl,λH4 s4=>lH λES Ni=>?_⟩
  cases en:qw fk fv fr ρ xs[i]with
  |none=>rw[en]at hw;cases hw
  |some o=>
  have ET:=en
  unfold qw at ET
  refine au λnO=>ae (bind_some ET) λkk g0 ET=>ae (bind_some g0) λdk g1 g2=>ae (bind_some ET) λd g3 ET=>nO ?_
  split at ET
  .rename_i xE
   refine au λnO=>?_
   cases ET
   rw[en]at hw
   refine ae (map_some hw) λzp uT Ln=>ae (LU g2) λki aj aU=>?_
   subst aj
   subst aU
   refine nO ?_
   have R_:=(Lm.mono s4).mono (af.upd (o:= .dK []) Ni)
   refine⟨_,_,_,R_,g1,λkv H5 s5 r5=>⟨_,_,d,R_.mono s5,g3,λv H6 s6 r6=>?_⟩⟩
   have HD:H6 ES=some (.dK []):=s6 _ _ (s5 _ _ ag)
   have Nj:af H4 H6:=((af.upd (o:= .dK []) Ni).trans s5).trans s6
   have Qb:H6 p=some (.lst (as.map V.ref)):=Nj _ _ (s4 _ _ Ll)
   have Nk:p≠ES:=fR Qb HD (by intro z;cases z)
   have UQ:af H2 H6:=(s3.trans s4).trans Nj
   have HE:∀b u,H4 b=some u->b≠ES:=λb u e z=>by rw[z,Ni]at e;cases e
   refine⟨ki,r5.int,HD,as.map V.ref,xs.length-(i+1),by rw[ao Nk];exact Qb,by rw[Wr,hl,cQ];lia,by lia,rfl,bQ,λbb oo eb=>?_,as++[ES],S++[.bM 0 [[ki]] [d]],zp,?_,?_,?_,?_,?_,uT,?_⟩
   .have e4:H4 bb=some oo:=s4 _ _ (s3 _ _ (s2 _ _ eb))
    rw[ao (b6 eb hp),ao (HE _ _ e4)]
    exact Nj _ _ e4
   .rw[W4];exact ag
   .have t6:iI H6 (L2.upd (L2.upd H6 ES (.dK [(Sum.inl ki,v)])) p (.lst (as.map V.ref++[.ref ES]))):=(gF (o:= .dK [(Sum.inl ki,v)]) HD trivial).trans (gF (u:= .lst (as.map V.ref)) (by rw[ao Nk];exact Qb) trivial)
    have old:Paired (mr K (L2.upd (L2.upd H6 ES (.dK [(Sum.inl ki,v)])) p (.lst (as.map V.ref++[.ref ES])))) as S:=jZ pd λb dd hb qb=>qb.keep ((oA UQ).trans t6) (by
     refine au λnO=>c7 qb λks vs ys _ h2 _=>nO ?_
     have e4:H4 b=some (fV 0 ks vs):=s4 _ _ (s3 _ _ h2)
     have UR:b≠p:=λz=>by rw[Xd]at nd;exact nd.1 (z▸hb)
     rw[ao UR,ao (HE _ _ e4),h2]
     exact Nj _ _ e4)
    refine xa ⟨[[ki]],[v],[d],rfl,?_,rfl,⟨by simp,λ_ k hk=>⟨ki,by simpa using hk⟩⟩,by simp[aV,xE],.cons (dS t6 r6.own xE) .nil⟩ old
    rw[ao (Xt Nk),ag,jj];rfl
   .rw[<-Z9,XT]
    refine⟨nd,by simp,λb hb c hc e=>?_⟩
    rw[Ww]at hc
    rw[e,hc]at hb
    rcases WG.mp hb with z|z
    .exact Nk z.symm
    .exact au λnO=>E9 (jq pd z) λdd ks vs ys _ h2 _=>nO<|HE _ _ (s4 _ _ (s3 _ _ h2)) rfl
   .intro b hb
    rcases WQ.mp hb with hb|hb
    .exact hn b hb
    .rw[Ww]at hb
     subst hb
     cases z:H1 b with
     |none=>rfl
     |some w=>have:=s4 _ _ (s3 _ _ (s2 _ _ z));rw[Ni]at this;cases this
   .rw[WC,WR,hl]
   .rw[ho,<-Ln,WZ];rfl
  .cases ET
 .have ei:i=xs.length:=by lia
  subst ei
  refine .inl ⟨stop,?_⟩
  rw[Z8,walk]at hw
  cases hw
  rw[W9]at ho
  subst ho
  refine q p as H2 (s1.trans s2) ⟨ep,pd,nd⟩ λb hb=>?_
  have h1:H1 b=none:=(WG.mp hb).elim (λz=>z▸hp) (hn b)
  cases z:H b with
  |none=>rfl
  |some w=>have:=s1 _ _ z;rw[h1]at this;cases this
section
variable {K:PySem.W.Frag}{H₀ bG:Hp}{ab Dg Z:Addr->Prop}{kv:List V}{kd:List D}{ow:Nat->Option Addr}{σ:St}{H H1 H':Hp}{ρ:Env}{a b:Addr}{as:List Addr}{T:List D}{x y r:Nat}{u u':HO}
def zW{α β:Type}{R R':α->β->Prop}{x:α}{y':β}(hy:R' x y'):∀{l:List α}{m:List β}{q:Nat},Paired R l m->l.Nodup->l[q]?=some x->(∀z y,z∈l->z≠x->R z y->R' z y)->Paired R' l (m.set q y'):=λ{l m q} p=>by
 induction p generalizing q with
 |nil=>intro _ e;simp at e
 |cons r t ih=>
  intro nd e k
  rw[Xd]at nd
  cases q with
  |zero=>
   simp at e
   subst e
   exact .cons hy (jZ t λz y hz=>k z y (Wu _ hz) λe=>nd.1 (e▸hz))
  |succ q=>
   have e':=by simpa using e
   exact .cons (k _ _ Wx (λe2=>nd.1 (e2▸XE e')) r) (ih nd.2 e' λz y hz=>k z y (Wu _ hz))
def SX.US(h:SX K bG Dg Z kv kd ow σ H ρ)(ob:Dg b)(e:H b=some u)(hu:qY u)(IT:qY u')(hz:∀c,Z c->c≠b):SX K (L2.upd bG b u') Dg Z kv kd ow σ (L2.upd H b u') ρ:=by
 have oa:Os Dg ow b:= .inl ob
 obtain⟨w,hw⟩:=h.o0 b ob
 have eU:∀i c,ow i=some c->c≠b:=λi c hc z=>by
  have:=h.new i c hc
  rw[z,hw]at this
  cases this
 refine⟨⟨λc hc=>?_,λj o d' hj=>?_⟩,h.own,h.inj,λi c hc=>by rw[ao (eU i c hc)];exact h.new i c hc,λc v hc=>?_,h.kp.upd oa e hu,λc hc=>?_,h.len⟩
 .by_cases vd:c=b
  .subst vd;exact⟨u',ag,IT⟩
  .exact ae (h.ex.live c hc) λus q qo=>⟨us,by rw[ao vd];exact q,qo⟩
 .refine ae (h.ex.jB j o d' hj) λw q1 q2=>⟨w,q1,?_⟩
  cases o with
  |true=>
   refine au λnO=>bL q2 λc e1 e2 c'=>ae (h.own j d' hj) λb' o2 o1=>?_
   rw[q1]at o2
   cases o2
   cases e1
   exact nO<|⟨c,rfl,e2,c'.upd (o1.elim (λo1=>eU j c o1.2) λo1=>hz c o1.2.1) oa e hu⟩
  |false=>exact bx.upd q2 oa e hu
 .by_cases vd:c=b
  .subst vd;rw[ag]at hc⊢;exact hc
  .rw[ao vd]at hc⊢;exact h.same _ _ hc
 .by_cases vd:c=b
  .subst vd;exact⟨u',ag⟩
  .obtain⟨v,hv⟩:=h.o0 c hc
   exact⟨v,by rw[ao vd];exact hv⟩
theorem LS.put(h:LS K H₀ ab a as T σ H ρ)(rp:bx K O' H v d)(n:ay d=true):LS K H₀ ab a as T (σ.set r (some v)) H (Py.put ρ r false d):=by
 exact gM h λbG ow h1 h2 h3 h4=>⟨bG,_,h1,h2.put (dS (λ_ _ e=>e) rp n) r,h3,h4⟩
def LS.own(h:LS K H₀ ab a as T σ H ρ)(e:ic ρ y=some l):∃b vs O',σ[y]?=some (some (.ref b))/\H b=some (.lst vs)/\av K O' H vs l/\
  ∀Hl l' H',af H H'->av K O' H' Hl l'->LS K H₀ ab a as T σ (L2.upd H' b (.lst Hl)) (Py.put ρ y true (.lst l')):=by
 refine au λnO=>gM h λbG ow h1 h2 h3 h4=>gM (h2.Hz e) λb vs o1 o2 o3 o4=>nO ?_
 refine⟨b,vs,_,o2,o3,o4,λHl l' H' s rr=>?_⟩
 have hb:∀c,c∈a::as->c≠b:=λc hc z=>by
  have n:=h2.new y b o1
  refine ae (h4.there c hc) λu eu _=>?_
  rw[<-z,h3 c hc,eu]at n
  cases n
 have LQ:=s _ _ o3
 refine⟨bG,ow,h1,(h2.mono s).wr o1 o2 LQ rr,λc hc=>?_,(h4.vc s).keep (gF LQ trivial) λc hc=>ao (hb c hc)⟩
 rw[ao (hb c hc)]
 exact h2.rD h4 s h3 c hc
def LS.dput(h:LS K H₀ ab a as T σ H ρ){q:Nat}{ks:List (List Int)}{xs:List D}{ki:Int}{v:V}{d:D}{O':Addr->Prop}(e:T[q]?=some (.bM 0 ks xs))(hk:[ki]∉ks)(hl:ks.length<ba)(rp:bx K O' H v d)(n:ay d=true)(hn:∀b∈a::as,H₀ b=none):
  ∃b H',as[q]?=some b/\Gi H b (.int ki) v H'/\LS K H₀ ab a as (T.set q (.bM 0 (ks++[[ki]]) (xs++[d]))) σ H' ρ:=by
 refine au λnO=>gM h λbG ow h1 h2 h3 h4=>?_
 obtain⟨b,e1,Um,vs,V',e2,g1,g2,g3,g4,g5⟩:=Dd h4.bM e
 cases e2
 refine nO ?_
 have hb:b∈as:=XE e1
 have nd:=Xd.mp h4.nd
 have tu:a≠b:=λz=>nd.1 (z▸hb)
 have zE:jL ((ks.map λk=>(Sum.inl (k.headD 0):cL)).zip vs) (Sum.inl ki) v=((ks++[[ki]]).map λk=>(Sum.inl (k.headD 0):cL)).zip (vs++[v]):=by
  have:=pT (λk:List Int=>(Sum.inl (k.headD 0):cL)) (x:=[ki]) (v:=v) g2 (λk hm he=>by
   obtain⟨j,rfl⟩:=g3.2 rfl k hm
   have:j=ki:=ZY he
   rw[this]) hk
  exact this
 refine⟨b,L2.upd H b (fV 0 (ks++[[ki]]) (vs++[v])),e1,.inl ⟨_,Sum.inl ki,by rw[g1,jj],rfl,by rw[Y2,Wr,g2,ZI,cQ,<-g2];exact hl,by rw[zE,jj]⟩,?_⟩
 have ts:iI H (L2.upd H b (fV 0 (ks++[[ki]]) (vs++[v]))):=gF g1 km
 refine⟨L2.upd bG b (fV 0 (ks++[[ki]]) (vs++[v])),ow,λc w ec=>?_,h2.US (.inr (Wu _ hb)) g1 km km (λc hc=>by rw[hc];exact tu),λc hc=>?_,⟨by rw[ao tu];exact h4.lst,?_,h4.nd⟩⟩
 .have vd:c≠b:=λz=>by rw[z,hn b (Wu _ hb)]at ec;cases ec
  rw[ao vd];exact h1 _ _ ec
 .by_cases vd:c=b
  .subst vd;rw[ag,ag]
  .rw[ao vd,ao vd];exact h3 c hc
 .refine zW ⟨ks++[[ki]],vs++[v],xs++[d],rfl,ag,by simp[g2],⟨?_,λ_ k hm=>?_⟩,by rw[iw,g4];simp[aV,n],(fm ts g5 g4).append (.cons (dS ts rp n) .nil)⟩ h4.bM nd.2 e1 λz y hz UT hd=>hd.keep ts (ao UT)
  .rw[XT]
   exact⟨g3.1,by simp,λa ha b hb e=>hk (by rw[Ww.mp hb]at e;exact e▸ha)⟩
  .rcases WQ.mp hm with hm|hm
   .exact g3.2 rfl k hm
   .exact⟨ki,Ww.mp hm⟩
def LS.call(h:LS K H₀ ab a as T σ H1 ρ){n:Nat}{f:List D->Option D}{v:V}{z d:D}{O':Addr->Prop}{Q:VK}(rz:bx K O' H1 v z)(nz:ay z=true)(fe:f [.lst T,z]=some d)(hn:∀ds d,f ds=some d->ds.length=n)
  (k:∀w H3,af H1 (gg as H1 H3)->bx K (λ_=>False) H3 w d->iI H3 (gg as H1 H3)->qV as H1 H3->Q w (gg as H1 H3)):
  ∃LV:List Addr,LV.Nodup/\(∀b∈LV,lV H1 b)/\∀H2,Cv LV H1 H2->uQ K n f ([.ref a,v]++[]) H2 (λw H3=>qV LV H1 H3/\Q w (gg LV H1 H3)) E0:=by
 refine gM h λbG ow h1 h2 h3 h4=>⟨as,(Xd.mp h4.nd).2,h4.mut,λH2 fz=>⟨λ_=>False,[.lst T,z],d,λ_ z=>z.elim,.cons ((h4.rep fz).resolve_right id) (.cons (dS (rC fz) rz nz) .nil),fe,hn _ _ fe,λw H3 s ye=>?_⟩⟩
 exact cU (xb fz s) λc s' t=>⟨c,k w H3 s' ye t c⟩
def LS.ret(h:LS K H₀ ab a as T σ H ρ)(hn:∀b∈a::as,H₀ b=none)(o0:∀b,ab b->∃w,H₀ b=some w)(fz:Cv as H H2):af H₀ H2/\bx K ab H2 (.ref a) (.lst T):=by
 refine gM h λbG ow h1 h2 h3 h4=>⟨λb u e=>?_,(h4.rep fz).resolve_right λz=>?_⟩
 .rw[fz.out b λhb=>by rw[hn b (Wu _ hb)]at e;cases e]
  exact h2.same _ _ (h1 _ _ e)
 .obtain⟨w,hw⟩:=o0 a z
  rw[hn a Wx]at hw
  cases hw
end
abbrev HF(K:PySem.W.Frag)(n:Nat)(f:List D->Option D)(t:TA):TE:=λσ H Q=>t σ H λvs H1=>∃as:List Addr,as.Nodup/\(∀b∈as,lV H1 b)/\∀H2,Cv as H1 H2->uQ K n f (vs++[]) H2 (λv H3=>qV as H1 H3/\Q v (gg as H1 H3)) E0
abbrev Di(y:Nat):TE:=λσ H Q=>∃a vs v,σ[y]?=some (some (.ref a))/\H a=some (.lst vs)/\vs[vs.length-1]?=some v/\Q v (L2.upd H a (.lst vs.dropLast))
abbrev zX(K:PySem.W.Frag)(y:Nat):TT:=λσ H Q=>cW y σ H λx H'=>∃k,FJ K x H' k/\Q k H'
section
variable {K:PySem.W.Frag}{H₀:Hp}{ab:Addr->Prop}{σ:St}{H:Hp}{ρ:Env}{a:Addr}{as:List Addr}{T:List D}{x y:Nat}
def zY(h:iX ρ x=true)(ne:x≠y):iX (Py.put ρ y o d) x=true:=by
 unfold iX Py.put at *
 rw[WT (Xt ne)]
 exact h
def LS.Sa(h:LS K H₀ ab a as T σ H ρ)(e:gq ρ y=some l)(q:Q (!l.isEmpty) H):zX K y σ H Q:=by
 refine bC (h.lst e) λb vs h1 h2 h3=>?_
 have he:(!vs.isEmpty)=!l.isEmpty:=by cases vs<;>cases l<;>simp at h3⊢
 exact⟨.ref b,h1,!vs.isEmpty,.inl ⟨vs,h2,rfl⟩,by rw[he];exact q⟩
def zZ(h:t {D' with nx:=u D'} σ H):oN t u D' σ H:=h
def LS.ifs(h:LS K H₀ ab a as T σ H ρ)(e:gq ρ y=some l)(q:if(!l.isEmpty)=true then t D' σ H else u D' σ H):Bs (zX K y) t u D' σ H:=by
 unfold Bs
 exact h.Sa e q
def LS.turn(h:LS K H₀ ab a as T σ H ρ)(hn:∀b∈a::as,H₀ b=none)(ht:iX ρ x=true)(wL:x≠y)(el:ic ρ y=some l)(LX:∀ds d,F f ds=some d->ds.length=n1)(LY:∀ds d,F g ds=some d->ds.length=n2)
  (e:iY F x y r f c2 m c3 p q u g w T ρ l=some (T',ρ')) (k:∀bX H',LS K H₀ ab a as T' bX H' ρ'->iX ρ' x=true->D'.nx bX H'):
  oN (mZ (HF K n1 (F f) (cO (cW x) (cO (Di y) lD))) (b9 r)) (oN (tC K c2) (oN (Bs (zX K m) (oN (tC K c3) (oN (uq (Ea (BF K) (cW x) (tV K false p)) (tV K false q) (tV K false u)) (oN (uc (MR K "list" (zc K) (cW y) (cO (HF K n2 (F g) (cO (cW x) (cO (tV K false w) lD))) lD))) ub))) ub) ub)) D' σ H:=by
 unfold iY at e
 refine au λnO=>?_
 obtain⟨z,e1,e⟩:=bind_some e
 obtain⟨d,e2,e⟩:=bind_some e
 split at e
 .rename_i LZ
  rw[Ws]at LZ
  obtain⟨o,e3,e⟩:=bind_some e
  cases o with
  |next Es=>
   dsimp only at e
   split at e
   .rename_i Qc
    obtain⟨ms,e4,e⟩:=bind_some e
    obtain⟨b,vs,O',y1,y2,y3,y4⟩:=h.own el
    have p9:l[vs.length-1]?=some z:=by rw[y3.length,<-ZN];exact e1
    obtain⟨v,z1,z2⟩:=y3.get p9
    refine nO ?_
    have yd:av K O' H vs.dropLast l.dropLast:=by
     rw[YI,YI,y3.length]
     exact y3.take _
    have h1:=y4 vs.dropLast l.dropLast H (af.refl _) yd
    have UU:bx K (λ_=>False) (L2.upd H b (.lst vs.dropLast)) v z:=dS (gF y2 trivial) z2 LZ.1
    refine⟨.ref a,h.at ht,b,vs,v,y1,y2,z1,h1.call (Q:=λw H'=>oN (tC K c2) _ D' (σ.set r (some w)) H') UU LZ.1 e2 LX λw H3 s3 r3 t3 Qd=>?_⟩
    have h2:=(h1.mono s3).put (r:=r) (dS (O':=λ_=>False) t3 r3 LZ.2) LZ.2
    refine h2.run e3 λv5 H4 h3=>zZ (h3.ifs e4 ?_)
    generalize ms.isEmpty=bm at e⊢
    refine au λnO=>?_
    cases bm with
    |true=>
     cases e
     exact nO<|m_ (k v5 H4 h3 Qc)
    |false=>
     rw[WV Wt]at e
     obtain⟨o,e5,e⟩:=bind_some e
     cases o with
     |next xI=>
      dsimp only at e
      split at e
      .rename_i Qf
       obtain⟨uv,e6,e⟩:=bind_some e
       split at e
       .rename_i hu
        obtain⟨pi,UW,e⟩:=bind_some e
        obtain⟨dp,e7,Sb⟩:=bind_some UW
        have UX:dp= .int pi:=by cases dp<;>first|(cases Sb;rfl)|cases Sb
        subst UX
        obtain⟨pq,e8,e⟩:=bind_some e
        obtain⟨kk,UY,e⟩:=bind_some e
        obtain⟨dk,e9,Nl⟩:=bind_some UY
        obtain⟨ki,rfl,rfl⟩:=LU Nl
        obtain⟨T2,u_,e⟩:=bind_some e
        obtain⟨wv,UZ,e⟩:=bind_some e
        split at e
        .rename_i hw
         obtain⟨zd,ae,e⟩:=bind_some e
         cases zd with
         |lst zs=>
          dsimp only at e
          split at e
          .rename_i U0
           obtain⟨ws,bL,e⟩:=bind_some e
           split at e
           .rename_i aS
            cases e
            refine nO<|lH (h3.run e5 λU1 H5 h5=>?_)
            refine au λnO=>?_
            obtain⟨bG,ow,b1,b2,b3,b4⟩:=id h5
            refine nO ?_
            refine⟨_,xI,uv,b2.ex,e6,λv6 H6 s6 r6=>⟨.ref a,(h5.mono s6).at Qf,_,xI,.int pi,(b2.mono s6).ex,e7,λv7 H7 s7 r7=>?_⟩⟩
            have h7:=(h5.mono s6).mono s7
            have t7:=b4.vc (s6.trans s7)
            refine au λnO=>?_
            unfold yw at u_
            split at u_
            .rename_i ks xs eT
             split at u_
             .rename_i Gr
              cases u_
              have lT:as.length=T.length:=YJ t7.bM
              obtain⟨b8,U2,Qg⟩:∃c,Ec (as.map V.ref) pi=some (V.ref c)/\as[pq]?=some c:=by
               have bQ:pq<as.length:=by rw[lT];exact(WK.mp eT).1
               refine⟨as[pq],?_,Wq bQ⟩
               unfold Ec
               rw[Wr,lT,<-lZ,e8]
               show(as.map V.ref)[pq]?=_
               rw[WI,Wq bQ]
               rfl
              refine nO<|⟨a,_,pi,.ref b8,rfl,r7.int,c9.of t7.lst,U2,_,xI,.int ki,((b2.mono s6).mono s7).ex,e9,λv9 H9 s9 r9=>?_⟩
              have h9:=h7.mono s9
              refine au λnO=>?_
              obtain⟨b',Ow,f1,f2,f3⟩:=h9.dput eT Gr.2 Gr.1 (r6.own.mono (s7.trans s9)) hu hn
              rw[Qg]at f1
              cases f1
              refine nO ?_
              refine⟨_,Ow,rfl,by rw[r9.int];exact f2,?_⟩
              refine au λnO=>?_
              obtain⟨c,us,O2,c1,Ez,Qd,c4⟩:=f3.own bL
              obtain⟨U3,Wa,d1,d2,d3,d4⟩:=id f3
              refine nO ?_
              refine⟨.ref c,c1,.inl ⟨rfl,us,c9.of Ez⟩,.ref a,f3.at Qf,_,xI,wv,d2.ex,UZ,λv11 Ox IG U4=>?_⟩
              refine(f3.mono IG).call (Q:=λw2 H'=>zc K (.ref c) [w2] H' λ_ RK=>D'.nx U1 RK) U4.own hw ae LY λw2 Wb Qh U8 U9 U_=>au λnO=>?_
              obtain⟨bb,zv,rfl,g1,g2⟩:=U8.lst_inv
              refine nO ?_
              have Bk:=IG.trans Qh
              refine⟨c,bb,us,zv,rfl,rfl,Bk _ _ Ez,zV U_ (d4.vc IG).LR g1,by rw[cQ,Qd.length,g2.length];exact aS,?_⟩
              exact k _ _ (c4 _ _ _ Bk ((Qd.mono Bk).append (fm U9 g2 U0))) (zY Qf wL)
             .cases u_
            .cases u_
           .cases e
          .cases e
         |_=>cases e
        .cases e
       .cases e
      .cases e
     |_=>cases e
   .cases e
  |_=>cases e
 .cases e
end
def HG(h:te σ H λv H1=>g v σ H1 D'.nx):mZ te g D' σ H:=h
section
variable {X:Cx}{s1 s2 sr s5 s6 ss se:Stmt}{e1 e2 em:Expr}{wp ip rp:Pos}{x y r f m g n1 n2:Nat}{fr:List Nat}{F:FT}{fi:Env->Option (List D)}{fk fv p q u w:Env->Option D}{c1 c2 c3:Env->Option il}
def L4(hp:PassesOwn (model X.prog X.w) X.A X.env X.xe)(LX:∀ds d,F f ds=some d->ds.length=n1)(LY:∀ds d,F g ds=some d->ds.length=n2)
  (P1:PS X s1 (mZ (nR 1 fr (tI X.K true fi) (b9 0) (tB X.K λ_=>some true) (qW (tV X.K false fk) (tV X.K false fv))) (b9 x)))
  (P2:PS X s2 (tC X.K c1)) (Py:PT X e2 (zX X.K y)) (Pr:PS X sr (mZ (HF X.K n1 (F f) (cO (cW x) (cO (Di y) lD))) (b9 r))) (P5:PS X s5 (tC X.K c2)) (Pm:PT X em (zX X.K m)) (P6:PS X s6 (tC X.K c3))
  (Ps:PS X ss (uq (Ea (BF X.K) (cW x) (tV X.K false p)) (tV X.K false q) (tV X.K false u))) (Pe:PS X se (uc (MR X.K "list" (zc X.K) (cW y) (cO (HF X.K n2 (F g) (cO (cW x) (cO (tV X.K false w) lD))) lD)))) (Pt:PE X e1 (cW x)) (n:Nat):
  kK X [s1,s2,.While e2 [sr,s5,.If em [s6,ss,se] [] ip] [] wp,.Return (some e1) rp] (tC X.K λρ=>(fi ρ).bind λxs=>if xs.length<=ba/\x≠y/\x<ρ.length/\qv ρ=true then(walk (qw fk fv fr ρ) xs).bind λT=>
   (c1 (put ρ x true sT)).bind λo=>match o with
   | .next jA=>if iX jA x then(gr (iY F x y r f c2 m c3 p q u g w) y n T jA).map λT=> .ret (.lst T) else none
   |_=>none
  else none):=
 (b7 P1 (b7 P2 (b7 (qk hp Py (b7 Pr (b7 P5 (b7 (D_ Pm (b7 P6 (b7 Ps (b7 Pe iN))) iN) iN)))) (b7 (sk (Cw Pt)) iN)))).weak λD' σ H zz=>by
  refine au λnO=>nE zz λH₀ ab Z kv kd ow ρ out hx hd k=>ae (bind_some hd) λxs p9 hd=>nO ?_
  split at hd
  .rename_i hc
   refine au λnO=>xC hc λhz wL U' Va=>ae (bind_some hd) λT BM hd=>ae (bind_some hd) λo e3 hd=>nO<|YO λnO=>?_
   cases o with
   |next jA=>
    refine nO ?_
    dsimp only at hd
    split at hd
    .rename_i Kb
     refine ae (map_some hd) λT' e4 aj=>?_
     subst aj
     refine zZ (HG (xg hx.ex p9 hz BM λa as H' s t hn=>?_))
     have Nh:∀b∈a::as,H₀ b=none:=λb hb=>by
      cases z:H₀ b with
      |none=>rfl
      |some w'=>have:=hx.same _ _ z;rw[hn b hb]at this;cases this
     obtain⟨sb,q_⟩:=hx.tab s t hn Va U'
     have L0:LS X.K H₀ ab a as T (σ.set x (some (.ref a))) H' (put ρ x true sT):=⟨_,_,sb,q_,λb hb=>jf hb,t⟩
     refine L0.run e3 λFx H1 L1=>⟨λi σ H=>∃S ρ,LS X.K H₀ ab a as S σ H ρ/\iX ρ x=true/\gr (iY F x y r f c2 m c3 p q u g w) y i S ρ=some T',⟨n,T,jA,L1,Kb,e4⟩,?_⟩
     rintro i xD H2 ⟨S,xK,IV,Sd,e5⟩
     refine au λnO=>?_
     cases i with
     |zero=>cases e5
     |succ i=>
      refine nO ?_
      rw[gr]at e5
      refine ae (bind_some e5) λl e6 e5=>IV.Sa (xf e6) ?_
      cases hl:l.isEmpty with
      |true=>
       rw[hl,WO rfl]at e5
       cases e5
       refine m_ ?_
       refine⟨.ref a,IV.at Sd,as,?_,?_,λH3 fz=>?_⟩
       .exact au λnO=>gM IV λ_ _ _ _ _ t4=>nO<|(Xd.mp t4.nd).2
       .exact au λnO=>gM IV λ_ _ _ _ _ t4=>nO<|t4.mut
       .obtain⟨q1,q2⟩:=IV.ret Nh hx.o0 fz
        exact k _ _ q1 q2
      |false=>
       rw[hl,WV Wt]at e5
       refine au λnO=>?_
       obtain⟨⟨S',ρ'⟩,e7,e5⟩:=bind_some e5
       refine nO ?_
       refine lH ⟨λbX H'=>∃S ρ,LS X.K H₀ ab a as S bX H' ρ/\iX ρ x=true/\gr (iY F x y r f c2 m c3 p q u g w) y i S ρ=some T',λbX H' h=>⟨i,Yi i,h⟩,?_⟩
       exact IV.turn Nh Sd wL e6 LX LY e7 λbX H' L3 Qc=>⟨S',ρ',L3,Qc,e5⟩
    .cases hd
   |_=>cases hd
  .cases hd
end
section
variable {X:Cx}{c e:Expr}{st:Stmt}{pos px:Pos}{x:Str}{i:Nat}
def L5(hi:X.N[i]?=some x)(hv:vX X.env.scope x)(C9:(x==("__debug__":Str))=false)(sH:(x==("__classdict__":Str))=false)(hl:(ap.endLine==cp.line)=true)(he:PE X e (tV X.K false f))(hn:aW e=true):
  PS X (.Expr (.Call (.Attribute (.Name x px) "append" ap) [e] [] cp) pos) (tC X.K λρ=>(f ρ).bind λd=>match ρ[i]? with
   |some (some (true,.lst xs))=>if xs.length<ba then some (.next (put ρ i true (.lst (xs++[d])))) else none
   |_=>none):=
 (oO (yh Yy PySem.F.slot_list_append PySem.F.type_list_append nN (bJ hi hv C9 sH) (cb he c_ (bN hn)) rfl (by rw[bN hn];rfl) hl (bN hn) rfl) rfl).weak λD' σ H zz=>by
  refine au λnO=>nE zz λH₀ ab Z kv kd ow ρ out hx hd k=>ae (bind_some hd) λd e1 hd=>nO ?_
  split at hd
  .rename_i xs EL
   split at hd
   .rename_i hz
    refine au λnO=>?_
    cases hd
    refine ae (hx.own i _ EL) λa o2 o1=>?_
    have o1:ow i=some a:=o1.elim (λz=>z.2) λz=>nomatch z.1
    refine ae (hx.ex.jB i true _ EL) λw' q1 q2=>bL q2 λa' e6 e8 c0=>ae c0.lst λvs e9 u_=>?_
    rw[o2]at q1
    cases q1
    cases e6
    refine nO ?_
    refine⟨.ref a,o2,.inl ⟨rfl,vs,c9.of e9⟩,Os ab ow,ρ,d,hx.ex,e1,λv H1 s1 r1=>?_⟩
    have q_:=hx.mono s1
    have Nl:=s1 _ _ e9
    refine⟨a,vs,v,rfl,rfl,Nl,?_,?_⟩
    .rw[cQ,u_.length];exact hz
    .exact k ow _ _ (q_.wr o1 o2 Nl ((u_.mono s1).append (.cons r1.own .nil)))
   .cases hd
  .cases hd
end
structure Cs(X:Cx)(G:GT)(F:FT):Prop where
 ct:Ct X G F
 fn:∀x,X.fn x=true
 nd:X.N.Nodup
 pass:PassesOwn (model X.prog X.w) X.A X.env X.xe
structure cG(G:GT)(F:FT)(c:C):Prop where
 s:∀X,Cs X G F->∀st,Hs G c X.N X.env.scope st=true->PS X st (tC X.K (ex F c))
 ss:∀X,Cs X G F->∀r8,gh G c X.N X.env.scope r8=true->kK X r8 (tC X.K (ex F c))
section
variable {G:GT}{F:FT}
def cG.gE(s:∀X,Cs X G F->∀st,Hs G c X.N X.env.scope st=true->PS X st (tC X.K (ex F c)))(n:∀N sc r8,gh G c N sc r8=false:=by intro _ _ _;rfl):cG G F c:=⟨s,λX hC r8 h=>absurd h (by rw[n];exact Wt)⟩
def Dj:cG G F .skip where
 s:=λX hC st h=>ff h
 ss:=λX hC r8 h=>by
  cases r8 with
  |nil=>exact Hu
  |cons _ _=>exact ff h
def HH(ha:cG G F a)(hb:cG G F b):cG G F (.seq a b) where
 s:=λX hC st h=>ff h
 ss:=λX hC r8 h=>by
  cases r8 with
  |nil=>exact ff h
  |cons s r=>
   change (Hs G a X.N X.env.scope s&&gh G b X.N X.env.scope r)=true at h
   simp only[Ws]at h
   exact LI (ha.s X hC s h.1) (hb.ss X hC r h.2)
def vf{el:Expr}{gs:List Comprehension}{dP:Scope}{p px pos:Pos}{x:Str}{env:PySem.Env}(hs:¬swapsWith (.ListComp el gs dP p) (some (.Name x px)) pos.line env=pure false):env.scope.names.lookup x=some .local /\swapsWith (.ListComp el gs dP p) (some (.Name x px)) pos.line env=pure true:=by
 have e0:swapsWith (.ListComp el gs dP p) (some (.Name x px)) pos.line env=pure (env.blockKind == .function&&env.kindOf x==some .local&&px.line==p.line
   && !(dP.names.any λ(n,k)=>n==x&&(k == .local||k == .cell))):=rfl
 cases eb:(env.blockKind == .function&&env.kindOf x==some .local&&px.line==p.line&&!(dP.names.any λ(n,k)=>n==x&&(k == .local||k == .cell)))with
 |false=>rw[eb]at e0;exact absurd e0 hs
 |true=>
  rw[eb]at e0
  simp only[Ws]at eb
  exact⟨eq_of_beq eb.1.1.2,e0⟩
def HK:cG G F (.asg i e):= .gE λX hC st h=>by
 refine r0 (zQ h) λiu v pos aj ha=>?_
 subst aj
 refine ik (LH ha) λx px aU hb=>?_
 subst aU
 replace h:=hb
 simp only[Ws,decide_eq_true_eq,Za]at h
 obtain⟨⟨⟨h1,h2⟩,h3⟩,h4⟩:=h
 exact LJ hC.nd h1 (fO h2) (hC.fn _) ((snd e).e X hC.ct v h3 false) (ml h4)
def Dk:cG G F (.bV i e):= .gE λX hC st h=>by
 refine r0 (zQ h) λiu v pos aj ha=>?_
 subst aj
 refine ik (LH ha) λx px aU hb=>?_
 subst aU
 replace h:=hb
 simp only[Ws,decide_eq_true_eq]at h
 obtain⟨⟨⟨⟨h1,h2⟩,h3⟩,h4⟩,h0⟩:=h
 by_cases hs:swapsWith v (some (.Name x px)) pos.line X.env=pure false
 .exact oy (gn hC.nd h1 (fO h2) ((snd e).f X hC.ct v h3 h4) hs (.inl (hC.fn _))) (λσ H Q z=>z)
 .have hv:fM v=true:=by
   cases z:fM v with
   |true=>rfl
   |false=>exact absurd (ml z) hs
  rw[hv]at h0
  cases e with
  |comp fr tg it ifs cD=>
   refine Q5 (ot h3) λel n q iter fs dP p fF y8 Pp M_ h5 h6 h7=>?_
   subst fF
   subst y8
   have e0:=vf hs
   refine oy (lK ((snd it).i X hC.ct _ iter h5 true) (l9 M_).1 hC.ct.calm M' (mh hC.ct (snd it) (snd ifs) (snd cD) M_ h5 h6 h7) (cR Pp) hC.nd h1 e0.1 e0.2) (λσ H Q z=>?_)
   exact jW Lk σ H Q (u7 σ H Q z)
  |_=>exact ff h0
def Dl:cG G F (.lO i ix e):= .gE λX hC st h=>by
 cases st with
 |Assign iu v pos=>
  change (match (generalizing:=false) iu with
   |[.Subscript (.Name x _) k _]=>decide (X.N[i]?=some x)&&kH X.env.scope x&&qa x&&bE G ix X.N X.env.scope k&&cf k&&bE G e X.N X.env.scope v
   |_=>false)=true at h
  split at h
  .simp only[Ws,decide_eq_true_eq]at h
   refine au λnO=>?_
   obtain⟨⟨⟨⟨⟨h1,h2⟩,h3⟩,h4⟩,h5⟩,h6⟩:=h
   exact nO<|Hv h1 (jX h2) (cA h3).1 (cA h3).2 ((snd ix).e X hC.ct _ h4 false) h5 ((snd e).e X hC.ct v h6 false)
  .cases h
 |_=>exact ff h
def HL:cG G F (.app i e):= .gE λX hC st h=>by
 cases st with
 |Expr ex pos=>
  change (match (generalizing:=false) ex with
   | .Call (.Attribute (.Name x _) m ap) [v] [] cp=>decide (X.N[i]?=some x)&&kH X.env.scope x&&qa x&&decide (m="append")&&(ap.endLine==cp.line)&&bE G e X.N X.env.scope v&&aW v
   |_=>false)=true at h
  split at h
  .simp only[Ws,decide_eq_true_eq]at h
   refine au λnO=>?_
   obtain⟨⟨⟨⟨⟨⟨h1,h2⟩,h3⟩,rfl⟩,h4⟩,h5⟩,h6⟩:=h
   exact nO<|L5 h1 (jX h2) (cA h3).1 (cA h3).2 h4 ((snd e).e X hC.ct _ h5 false) h6
  .cases h
 |_=>exact ff h
def HM:cG G F (.ret e):= .gE λX hC st h=>by
 cases st with
 |Return o pos=>
  cases o with
  |none=>exact ff h
  |some v=>
   have h:bE G e X.N X.env.scope v=true:=h
   cases e with
   |var i=>
    cases v with
    |Name x px=>
     change (decide (X.N[i]?=some x)&&kH X.env.scope x&&qa x)=true at h
     simp only[Ws,decide_eq_true_eq]at h
     obtain⟨⟨h1,h2⟩,h3⟩:=h
     exact Hw h1 (jX h2) (cA h3).1 (cA h3).2
    |_=>exact ff h
   |_=>exact LK ((snd _).e X hC.ct v h false)
 |_=>exact ff h
def HN(ht:cG G F t)(hu:cG G F u):cG G F (.ifs c t u):= .gE λX hC st h=>by
 cases st with
 |If x a b pos=>
  change (bE G c X.N X.env.scope x&&G0 c&&gh G t X.N X.env.scope a&&gh G u X.N X.env.scope b)=true at h
  simp only[Ws]at h
  obtain⟨⟨⟨h1,h2⟩,h3⟩,h4⟩:=h
  exact P8 ((snd c).t X hC.ct x h1 h2) (ht.ss X hC a h3) (hu.ss X hC b h4)
 |_=>exact ff h
def z8(hb:cG G F b):cG G F (.while c b):= .gE λX hC st h=>by
 cases st with
 |While x a o pos=>
  change (o.isEmpty&&bE G c X.N X.env.scope x&&G0 c&&gh G b X.N X.env.scope a)=true at h
  simp only[Ws]at h
  obtain⟨⟨⟨h0,h1⟩,h2⟩,h3⟩:=h
  cases o with
  |cons _ _=>exact ff h0
  |nil=>exact va hC.pass ((snd c).t X hC.ct x h1 h2) (hb.ss X hC a h3) et
 |_=>exact ff h
def L6{X:Cx}{e:Expr}{i:Nat}(hv:PE X e (cW i))(he:∀whole,isTrue e X.env whole=(do let v<-whole;standAt e.pos;holding [v] (truthy v))):PT X e (tB X.K λρ=>((gq ρ i).map λxs=>D.bl !xs.isEmpty).bind f6):=
 (lC hv he).weak λσ H Q ⟨O,ρ,k,hx,hd,q⟩=>by
  obtain⟨d,h1,h2⟩:=bind_some hd
  obtain⟨xs,h3,rfl⟩:=map_some h1
  cases h2
  obtain⟨o,h4⟩:=rB h3
  obtain⟨v,h5,h6⟩:=hx.jB i o _ h4
  have h7:∃a vs,v= .ref a/\c9 X.K H a vs/\av X.K O H vs xs:=by
   cases o with
   |true=>
    obtain⟨a,rfl,_,c⟩:=h6
    obtain⟨vs,e1,e2⟩:=c.lst
    exact⟨a,vs,rfl,c9.of e1,e2⟩
   |false=>exact bx.lst_inv h6
  obtain⟨a,vs,rfl,e1,e2⟩:=h7
  refine⟨.ref a,h5,!vs.isEmpty,.inl ⟨vs,e1,rfl⟩,?_⟩
  have:(!vs.isEmpty)=!xs.isEmpty:=by cases e2<;>rfl
  rw[this]
  exact q H (af.refl _)
def xh(hb:cG G F b):cG G F (.iF i b):= .gE λX hC st h=>by
 cases st with
 |While x a o pos=>
  change (o.isEmpty&&cF X.N X.env.scope i x&&gh G b X.N X.env.scope a)=true at h
  simp only[Ws]at h
  obtain⟨⟨h0,h1⟩,h3⟩:=h
  cases o with
  |cons _ _=>exact ff h0
  |nil=>
   refine kc (bS h1) λy q aj n1 n2 n3 n4=>?_
   subst aj
   exact va hC.pass (L6 (bJ n1 n2 n3 n4) λ_=>rfl) (hb.ss X hC a h3) et
 |_=>exact ff h
def Se(hC:Ct X G F)(h:C4 G it X.N X.env.scope mS iter=true):PI X mS iter (tI X.K false (kA F false it)):=by
 cases it with
 |BO a=>
  cases mS with
  |Tuple es k p=>
   cases iter with
   |Call fn args dj cp=>
    unfold C4 at h
    dsimp only at h
    split at h
    .simp only[Ws,decide_eq_true_eq]at h
     obtain⟨⟨⟨rfl,h1⟩,h2⟩,h3⟩:=h
     exact EH (dQ h1) (hC.mg _ (by simp[ig])) ((snd a).e X hC _ h2 false) (bN h3)
    .cases h
   |_=>exact ff h
  |_=>exact ff h
 |_=>exact(snd _).i X hC _ iter h false
def HP:ex F (.for is tg it b)=λρ=>(λρ=>(kA F false it ρ).bind λxs=>aE (λy ρ=>((aA tg y).bind (cI ρ is)).bind (ex F b)) xs ρ) (dH it ρ):=by
 funext ρ
 have e:(λ(x:D) (ρ:Env)=>(aA tg x).bind λys=>(cI ρ is ys).bind λρ'=>ex F b ρ')=λy ρ=>((aA tg y).bind (cI ρ is)).bind (ex F b):=by
  funext y ρ
  cases aA tg y<;>rfl
 show(kA F false it (dH it ρ)).bind (λxs=>aE (λx ρ=>(aA tg x).bind λys=>(cI ρ is ys).bind λρ'=>ex F b ρ') xs (dH it ρ))=_
 rw[e]
def HQ(hb:cG G F b):cG G F (.for is tg it b):= .gE λX hC st h=>by
 cases st with
 |For mS iter a o pos=>
  change (o.isEmpty&&eK iter&&gh G b X.N X.env.scope a&&Hn X.N X.env.scope is tg mS&&C4 G it X.N X.env.scope mS iter)=true at h
  simp only[Ws]at h
  obtain⟨⟨⟨⟨h0,h1⟩,h2⟩,h3⟩,h4⟩:=h
  cases o with
  |cons _ _=>exact ff h0
  |nil=>
   rw[HP]
   refine zS (it:=it) (g:=λρ=>(kA F false it ρ).bind λxs=>aE (λy ρ=>((aA tg y).bind (cI ρ is)).bind (ex F b)) xs ρ) ?_
   unfold Hn at h3
   cases mS with
   |Name x p=>
    simp only[Ws,decide_eq_true_eq]at h3
    obtain⟨⟨rfl,h5⟩,h6⟩:=h3
    obtain⟨i,rfl⟩:∃i,is=[i]:=by
     cases is with
     |nil=>cases h6
     |cons i t=>cases t with|nil=>exact⟨i,rfl⟩|cons _ _=>cases h6
    unfold fN at h5
    simp only[Ws,decide_eq_true_eq]at h5
    exact EM (setT:=λρ d=>some (put ρ i false d)) hC.pass hC.ct.calm (gN hC.nd h5.1.1 (fO h5.1.2) (.inl (hC.fn _))) C_ (Se hC.ct h4) (hb.ss X hC a h2) (cR h1)
   |Tuple es k p=>
    simp only[Ws,decide_eq_true_eq]at h3
    obtain⟨⟨rfl,h5⟩,h6⟩:=h3
    refine cU (oz hC.nd hC.fn h6) λq1 q2 q3=>?_
    have HR:0<is.length:=by
     cases is with
     |nil=>
      unfold fN at h6
      rw[h6]at h5
      cases h5
     |cons _ _=>exact Nat.succ_pos _
    exact EM hC.pass hC.ct.calm (yF hC.ct.calm q1 q2 q3) (Hy HR) (Se hC.ct h4) (hb.ss X hC a h2) (cR h1)
   |_=>exact ff h3
 |_=>exact ff h
def Dm:cG G F (.ng i t es):= .gE λX hC st h=>by
 cases st with
 |Assign iu v pos=>
  change (match (generalizing:=false) iu,v with
   |[.Name x _],.Dict ks vs _=>decide (X.N[i]?=some x)&&mj X.env.scope x&&(match ks,vs with
    |[some k],[w]=>cN G es X.N X.env.scope [k,w]
    |_,_=>false)
   |_,_=>false)=true at h
  split at h
  .rename_i x px ks vs dp
   simp only[Ws,decide_eq_true_eq]at h
   obtain⟨⟨h1,h2⟩,h3⟩:=h
   split at h3
   .rename_i ke we
    refine kc (zw (F:=F) h3) λa b aj k1 _ k2 _=>?_
    subst aj
    have e0:ex F (.ng i t (.cons a (.cons b .nil)))=λρ=>if t=2 then none else((ev F false a ρ).bind λx=>(ev F false b ρ).bind λy=>(de t x).map λz=>D.bM t [z] [y]).map λd=> .next (put ρ i true d):=by
     funext ρ
     show(if t=2 then none else((cv F false (.cons a (.cons b .nil)) ρ).bind (yt t)).map λd=>il.next (put ρ i true d))=_
     rw[cv]
     cases ev F false a ρ with
     |none=>rfl
     |some x=>
      show(if t=2 then none else(((cv F false (.cons b .nil) ρ).bind λxs=>some (x::xs)).bind (yt t)).map λd=>il.next (put ρ i true d))=_
      rw[cv]
      cases ev F false b ρ with
      |none=>rfl
      |some y=>rfl
    rw[e0]
    exact Dc hC.ct.units hC.nd h1 (fO h2) (hC.fn _) ((snd a).e X hC.ct ke k1 false) ((snd b).e X hC.ct we k2 false)
   .cases h3
  .cases h
 |_=>exact ff h
def Dp:cG G F (.kB i k e):= .gE λX hC st h=>by
 cases st with
 |Assign iu v pos=>
  change (match (generalizing:=false) iu with
   |[.Subscript o ix _]=>cF X.N X.env.scope i o&&bE G k X.N X.env.scope ix&&cf ix&&bE G e X.N X.env.scope v&&!fM v
   |_=>false)=true at h
  split at h
  .simp only[Ws,Za]at h
   obtain⟨⟨⟨⟨h1,h2⟩,h3⟩,h4⟩,h5⟩:=h
   refine kc (bS h1) λx q aj n1 n2 n3 n4=>?_
   subst aj
   exact HA hC.ct.units n1 n2 n3 n4 ((snd k).e X hC.ct _ h2 false) ((snd e).e X hC.ct v h4 false) (λt=>ml h5)
  .cases h
 |_=>exact ff h
def HS:cG G F (.Er i j):= .gE λX hC st h=>by
 refine r0 (zQ h) λiu v pos aj ha=>?_
 subst aj
 refine ik (LH ha) λx px aU hb=>?_
 subst aU
 replace h:=hb
 simp only[Ws,decide_eq_true_eq]at h
 refine kc (bS h.2) λy q fF n1 n2 n3 n4=>?_
 subst fF
 exact LN hC.nd h.1.1 (fO h.1.2) (hC.fn _) (bJ n1 n2 n3 n4)
def z9(h:zO N sc y e=true):∃x px ap cp,e= .Call (.Attribute (.Name x px) "pop" ap) [] [] cp/\N[y]?=some x/\vX sc x/\(x==("__debug__":Str))=false/\(x==("__classdict__":Str))=false/\(ap.endLine==cp.line)=true:=by
 refine au λnO=>?_
 cases e with
 |Call fn args dj cp=>
  refine nO ?_
  change (match (generalizing:=false) fn,args,dj with
   | .Attribute e2 nm ap,[],[]=>decide (nm="pop")&&cF N sc y e2&&(ap.endLine==cp.line)
   |_,_,_=>false)=true at h
  split at h
  .simp only[Ws,decide_eq_true_eq]at h
   refine au λnO=>?_
   obtain⟨⟨rfl,h1⟩,h2⟩:=h
   refine kc (bS h1) λx q aj n1 n2 n3 n4=>?_
   subst aj
   exact nO<|⟨x,q,_,cp,rfl,n1,n2,n3,n4,h2⟩
  .cases h
 |_=>cases h
def HU:cG G F (.pop i j):= .gE λX hC st h=>by
 refine r0 (zQ h) λiu v pos aj ha=>?_
 subst aj
 refine ik (LH ha) λx px aU hb=>?_
 subst aU
 replace h:=hb
 simp only[Ws,decide_eq_true_eq]at h
 refine D6 (z9 h.2) λy q ap cp fF n1 n2 n3 n4 n5=>?_
 subst fF
 exact LO hC.nd h.1.1 (fO h.1.2) (hC.fn _) (bJ n1 n2 n3 n4) rfl n5
def HV:cG G F (.ext i e):= .gE λX hC st h=>by
 cases st with
 |Expr ex pos=>
  change (match (generalizing:=false) ex with
   | .Call (.Attribute (.Name x _) m ap) [v] [] cp=>decide (X.N[i]?=some x)&&kH X.env.scope x&&qa x&&decide (m="extend")&&(ap.endLine==cp.line)&&bE G e X.N X.env.scope v&&aW v
   |_=>false)=true at h
  split at h
  .simp only[Ws,decide_eq_true_eq]at h
   refine au λnO=>?_
   obtain⟨⟨⟨⟨⟨⟨h1,h2⟩,h3⟩,rfl⟩,h4⟩,h5⟩,h6⟩:=h
   exact nO<|LP h1 (jX h2) (cA h3).1 (cA h3).2 h4 ((snd e).e X hC.ct _ h5 false) h6
  .cases h
 |_=>exact ff h
def EU(hC:Ct X G F)(h:Ho G x f X.N X.env.scope e ok=true)(hw:∀w,ok w=true->PE X w tw):∃n:Nat,(∀ds d,F f ds=some d->ds.length=n)/\PE X e (HF X.K n (F f) (cO (cW x) (cO tw lD)))/\fM e=false/\aW e=true:=by
 refine au λnO=>?_
 cases e with
 |Call fn args dj cp=>
  refine nO ?_
  change (match (generalizing:=false) fn,args,dj with
   | .Name n _,[e1,w],[]=>decide (G.1[f]?=some n)&&eJ X.env.scope n&&qa n&&cF X.N X.env.scope x e1&&ok w&&aW w
   |_,_,_=>false)=true at h
  split at h
  .rename_i n pn e1 w
   simp only[Ws,decide_eq_true_eq]at h
   refine au λnO=>?_
   obtain⟨⟨⟨⟨⟨h1,h2⟩,h3⟩,h4⟩,h5⟩,h6⟩:=h
   refine kc (bS h4) λy q aj n1 n2 n3 n4=>?_
   subst aj
   exact D6 (hC.call f n h1) λk fa fd ps g5 g6 g7 g8 g9 KR=>nO<|⟨ps.length,KR,zb g5 g6 (dQ h2) g7 g8 g9 (cb (bJ n1 n2 n3 n4) (cb (hw w h5) c_ (bN h6)) rfl) (cA h3).1 rfl (by rw[bN h6];rfl),rfl,rfl⟩
  .cases h
 |_=>cases h
def L7{X:Cx}(hC:Cs X G F){x:Nat}{fr:List Nat}{it k v:E}{st:Stmt}(h:Hq G x fr it k v X.N X.env.scope st=true):PS X st (mZ (nR 1 fr (tI X.K true (kA F true it)) (b9 0) (tB X.K λ_=>some true) (qW (tV X.K false (ev F false k)) (tV X.K false (ev F false v)))) (b9 x)):=by
 cases st with
 |Assign iu e pos=>
  unfold Hq at h
  dsimp only at h
  split at h
  .rename_i a pa
   simp only[Ws,decide_eq_true_eq]at h
   obtain⟨⟨h1,h2⟩,h⟩:=h
   split at h
   .rename_i el gens dP lp
    split at h
    .rename_i Wc Bz dp
     split at h
     .rename_i ke ve n q iter kk
      simp only[Ws,decide_eq_true_eq]at h
      obtain⟨⟨⟨⟨⟨rfl,h3⟩,h4⟩,h5⟩,h6⟩,h7⟩:=h
      refine cU (l9 h4) λS P0 nd=>have hl:=P0 _ Wx;?_
      have parts:∀cl C aa s H ex,PG (hJ X dP cl C (jC X.N [n] fr) aa s H ex) (.Name n q) (b9 0)/\wq (hJ X dP cl C (jC X.N [n] fr) aa s H ex) [] (tB X.K λ_=>some true)/\PE (hJ X dP cl C (jC X.N [n] fr) aa s H ex) (.Dict [some ke] [ve] dp) (qW (tV X.K false (ev F false k)) (tV X.K false (ev F false v))):=λcl C aa s H ex=>by
       have Bm:=hC.ct.inner dP cl C (jC X.N [n] fr) aa s H ex
       refine⟨gN nd rfl (gD hl).1 (gD hl).2,zq,uK ?_ ((snd k).e _ Bm ke h6 false) ((snd v).e _ Bm ve h7 false)⟩
       have:=Bm.units
       lia
      by_cases hs:swapsWith (.ListComp (.Dict [some ke] [ve] dp) [⟨.Name n q,iter,[],0⟩] dP lp) (some (.Name a pa)) pos.line X.env=pure false
      .exact gn hC.nd h1 (fO h2) (oX ((snd it).i X hC.ct _ iter h5 true) S hC.ct.calm M' parts (cR h3)) hs (.inl (hC.fn _))
      .have e0:=vf hs
       exact lK ((snd it).i X hC.ct _ iter h5 true) S hC.ct.calm M' parts (cR h3) hC.nd h1 e0.1 e0.2
     .cases h
    .cases h
   .cases h
  .cases h
 |_=>cases h
def HW(h1:cG G F c1)(h2:cG G F c2)(h3:cG G F c3):cG G F (.fst x fr it k v c1 y r f c2 m c3 p q u g w) where
 s:=λX hC st h=>ff h
 ss:=λX hC r8 h=>by
  refine sh (Hr h) λs1 s2 s3 s4 aj o1 o2 oW oR=>?_
  subst aj
  refine MF (C6 oW) λe2 sr s5 sI wp aU o3 o4 o5 oI=>?_
  subst aU
  refine MF (C5 oI) λem s6 ss se ip fF o6 o7 o8 o9=>?_
  subst fF
  refine ik (C7 oR) λe1 rp y8 Vb=>?_
  subst y8
  refine kc (bS o3) λyn yq Pj y1 y2 y3 y4=>?_
  subst Pj
  refine kc (bS o6) λmn mq Pk m1 m2 m3 m4=>?_
  subst Pk
  refine kc (bS Vb) λxn xq Pl x1 x2 x3 x4=>?_
  subst Pl
  have Pr:∃n1,(∀ds d,F f ds=some d->ds.length=n1)/\PS X sr (mZ (HF X.K n1 (F f) (cO (cW x) (cO (Di y) lD))) (b9 r)):=by
   refine r0 (zQ o4) λiu e pos Pn ha=>?_
   subst Pn
   refine ik (LH ha) λxr pr Po hb=>?_
   subst Po
   replace o4:=hb
   simp only[Ws,decide_eq_true_eq]at o4
   obtain⟨n,g1,g2,g3,_⟩:=EU hC.ct o4.2 (tw:=Di y) λw hw=>by
    refine D6 (z9 hw) λyy q ap cp GP n1 n2 n3 n4 n5=>?_
    subst GP
    exact zU (bJ n1 n2 n3 n4) rfl n5
   exact⟨n,g1,gn hC.nd o4.1.1 (fO o4.1.2) g2 (ml g3) (.inl (hC.fn _))⟩
  refine ae Pr λn1 LX Pr=>?_
  have Ps:PS X ss (uq (Ea (BF X.K) (cW x) (tV X.K false (ev F false p))) (tV X.K false (ev F false q)) (tV X.K false (ev F false u))):=by
   cases ss with
   |Assign iu e pos=>
    unfold EK at o8
    dsimp only at o8
    split at o8
    .simp only[Ws,Za]at o8
     obtain⟨⟨⟨⟨⟨⟨t1,t2⟩,t3⟩,t4⟩,t5⟩,t6⟩,t7⟩:=o8
     refine kc (bS t1) λxx q' GQ n1 n2 n3 n4=>?_
     subst GQ
     exact ur (by have:=hC.ct.units;lia) (Ed ui (bJ n1 n2 n3 n4) ((snd p).e X hC.ct _ t2 false) (l7 t3)) ((snd q).e X hC.ct _ t4 false) ((snd u).e X hC.ct _ t6 false) (ml t7)
    .cases o8
   |_=>cases o8
  have Pe:∃n2,(∀ds d,F g ds=some d->ds.length=n2)/\PS X se (uc (MR X.K "list" (zc X.K) (cW y) (cO (HF X.K n2 (F g) (cO (cW x) (cO (tV X.K false (ev F false w)) lD))) lD))):=by
   cases se with
   |Expr e pos=>
    unfold LB at o9
    dsimp only at o9
    split at o9
    .simp only[Ws,decide_eq_true_eq]at o9
     obtain⟨⟨⟨⟨t1,rfl⟩,t3⟩,t4⟩,t5⟩:=o9
     refine kc (bS t1) λyy q' GR n1 n2 n3 n4=>?_
     subst GR
     exact Bn (EU hC.ct t5 (tw:=tV X.K false (ev F false w)) λwe hw=>(snd w).e X hC.ct we hw false) λn g1 g2 _ _=>⟨n,g1,oO (yh Yy ZV ZW zf (bJ n1 n2 n3 n4) (cb g2 c_ (bN t4)) rfl (by rw[bN t4];rfl) t3 (bN t4) rfl) rfl⟩
    .cases o9
   |_=>cases o9
  exact ae Pe λn2 LY Pe=>L4 hC.pass LX LY (L7 hC o1) (h1.s X hC s2 o2) (lC (bJ y1 y2 y3 y4) λ_=>rfl) Pr (h2.s X hC s5 o5) (lC (bJ m1 m2 m3 m4) λ_=>rfl) (h3.s X hC s6 o7) Ps Pe (bJ x1 x2 x3 x4) et
def Qi(c:C):cG G F c:=by
 induction c with
 |skip=>exact Dj
 |seq a b ha hb=>exact HH ha hb
 |asg i e=>exact HK
 |bV i e=>exact Dk
 |lO i ix e=>exact Dl
 |app i e=>exact HL
 |ret e=>exact HM
 |ifs c t u ht hu=>exact HN ht hu
 |«while» c b hb=>exact z8 hb
 |iF i b hb=>exact xh hb
 |«for» is tg it b hb=>exact HQ hb
 |ng i t es=>exact Dm
 |kB i k e=>exact Dp
 |Er i j=>exact HS
 |pop i j=>exact HU
 |ext i e=>exact HV
 |fst x fr it k v c1 y r f c2 m c3 p q u g w h1 h2 h3=>exact HW h1 h2 h3
end
structure z_(K:PySem.W.Frag)(mg:Str->Option Value)(G:GT)(x:Str)(d:Fd):Prop where
 ex:∃(st:Stmt) (fa:Addr) (fd:FuncData) (N ps:List Str),Ee K x x st fa fd/\gO N ps (az st)/\Binds K fd ps []/\mg x=some (.ref fa)/\gh G d.body N (az st) (bY st)=true/\ps.length=d.par/\N.length=d.jB
def Aa{K:PySem.W.Frag}{H:Hp}{O:Addr->Prop}{vs:List V}{ds:List D}{N:List Str}{d:Fd}(hO:∀a,O a->∃u,H a=some u/\qY u)(r:av K O H vs ds)(h1:ds.length=d.par)(h2:N.length=d.jB):SX K H O (λ_=>False) [] [] (λ_=>none) (start N vs) H (ai d ds):=by
 have hl:=r.length
 have sub:∀a,Os O (λ_=>none) a->O a:=λa z=>z.elim id λ⟨_,z⟩=>nomatch z
 have nm:∀(i:Nat) (o:Bool) (dd:D),(ai d ds)[i]?=some (some (o,dd))->o=false/\ds[i]?=some dd:=λi o dd hi=>by
  unfold ai at hi
  by_cases bQ:i<ds.length
  .rw[Xj (by simpa using bQ),WI]at hi
   refine ae (map_some hi) λy e1 e2=>?_
   cases e2
   exact⟨rfl,e1⟩
  .rw[Xn (by simpa using bQ),Z0]at hi
   split at hi<;>cases hi
 refine⟨⟨λa ha=>hO a (sub a ha),λi o dd hi=>?_⟩,λi dd hi=>?_,λi j a h _=>(nomatch h),λi a h=>(nomatch h),af.refl _,.nil,λa ha=>let ⟨us,e,_⟩:=hO a ha;⟨_,e⟩,?_⟩
 .obtain⟨rfl,e⟩:=nm i o dd hi
  refine ae (r.get e) λv e1 e2=>⟨v,?_,bx.weak e2 sub⟩
  unfold L2.start
  have bQ:i<vs.length:=(WK.mp e1).1
  rw[Xj (by simpa using bQ),WI,e1]
  rfl
 .exact absurd (nm i true dd hi).1 (by decide)
 .unfold ai L2.start
  simp only[WC,Wr,YD]
  lia
def vg(P:Program)(w:World)(K:PySem.W.Frag)(mg:Str->Option Value)(base:Heap)(G:GT)(T:List Fd)(n:Nat):Prop:=
 ∀(f:Nat) (x:Str),G.1[f]?=some x->∃(fa:Addr) (fd:FuncData) (ps:List Str),iP P w K mg base wm n fa fd ps (uQ K ps.length (run T n f))/\mg x=some (.ref fa)/\PySem.W.keepIn K (.ref fa)=true/\Binds K fd ps []/\∀ds d,run T n f ds=some d->ds.length=ps.length
section
variable {P:Program}{w:World}{K:PySem.W.Frag}{mg:Str->Option Value}{base:Heap}{G:GT}{T:List Fd}
def rE(hT:T[f]?=some d)(z:run T (n+1) f ds=some r):ds.length=d.par/\out (ex (run T n) d.body (ai d ds))=some r:=by
 unfold run at z
 rw[hT]at z
 dsimp only at z
 split at z
 .rename_i q;exact⟨q,z⟩
 .cases z
def Ab{n f:Nat}{x:Str}{st:Stmt}{fa:Addr}{fd:FuncData}{N ps:List Str}{d:Fd}(hb:∀x∈ig,mg x=none)(yb:∀(x:Str) (i:Int),(x,i)∈G.2->∃t,mg x=some (.int i t))(ih:vg P w K mg base G T n)(F:Ee K x x st fa fd)(S:gO N ps (az st))(hT:T[f]?=some d)
  (ok:gh G d.body N (az st) (bY st)=true) (l1:ps.length=d.par) (l2:N.length=d.jB):iP P w K mg base wm (n+1) fa fd ps (uQ K ps.length (run T (n+1) f)):=by
 refine F.ok S (λvs H Q E z=>?_) (λeL A outer s H vs Q E hr z=>?_)
 .exact sf z λ_ _ _ _ _ _ q _=>q
 .refine sf z λO ds r hO hR Ln hl k=>?_
  obtain⟨q1,q2⟩:=rE hT Ln
  have Vc:Cs (sE wm P w K mg base N x (az st) fa eL A outer s H E).Js G (run T n):=by
   refine⟨⟨rfl,hr.units,hb,yb,λg y hy=>?_⟩,λ_=>rfl,S.nd,PassesOwn.never⟩
   exact sf (ih g y hy) λga gd Vd G1 G2 G3 G4 G5=>⟨n,ga,gd,Vd,G1,hr,G2,G3,G4,G5⟩
  cases eo:ex (run T n) d.body (ai d ds)with
  |none=>rw[eo]at q2;cases q2
  |some o=>
   rw[eo]at q2
   refine⟨tC K (ex (run T n) d.body),(Qi d.body).ss _ Vc _ ok,H,O,λ_=>False,[],[],λ_=>none,ai d ds,o,Aa hO hR q1 l2,eo,?_⟩
   cases o with
   |ret dd=>cases q2;exact k
   |next ρ'=>cases q2;exact λow σ H' y0=>k .fC H' y0.same .fC
   |brk _=>cases q2
   |cont _=>cases q2
def tQ(P:Program)(w:World)(K:PySem.W.Frag)(mg:Str->Option Value)(base:Heap)(G:GT)(T:List Fd)(f:Nat)(x:Str):Prop:=
 ∃(fa:Addr) (fd:FuncData) (ps:List Str),mg x=some (.ref fa)/\PySem.W.keepIn K (.ref fa)=true/\Binds K fd ps []/\(∀n ds d,run T n f ds=some d->ds.length=ps.length)/\
  ∀n,(∀m,m<=n->vg P w K mg base G T m)->iP P w K mg base wm (n+1) fa fd ps (uQ K ps.length (run T (n+1) f))
def z_.step(hb:∀x∈ig,mg x=none)(yb:∀(x:Str) (i:Int),(x,i)∈G.2->∃t,mg x=some (.int i t))(hT:T[f]?=some d)(h:z_ K mg G x d):tQ P w K mg base G T f x:=by
 refine au λnO=>?_
 obtain⟨st,fa,fd,N,ps,F,S,B,m,ok,l1,l2⟩:=h
 refine nO ?_
 refine⟨fa,fd,ps,m,F.kp,B,λn ds r z=>?_,λn ih=>?_⟩
 .cases n with
  |zero=>exact nomatch z
  |succ n=>exact(rE hT z).1.trans l1.symm
 .exact Ab hb yb (ih n (WE _)) F S hT ok l1 l2
def Dq(h:∀(f:Nat) (x:Str),G.1[f]?=some x->tQ P w K mg base G T f x)(n:Nat):vg P w K mg base G T n:=by
 have all:∀n m:Nat,m<=n->vg P w K mg base G T m:=by
  intro n
  induction n with
  |zero=>
   intro m hm f x hx
   obtain rfl:m=0:=by lia
   refine sf (h f x hx) λfa fd ps mm kp B l _=>?_
   have no:∀vs H Q E,¬uQ K ps.length (run T 0 f) vs H Q E:=λvs H Q E z=>by
    refine MD z λ_ _ _ _ _ z _=>?_
    cases z
   exact⟨fa,fd,ps,⟨λvs H Q E z=>absurd z (no vs H Q E),λA outer s H args us vs Q E _ _ _ _ z=>absurd z (no vs H Q E)⟩,mm,kp,B,λds d z=>nomatch z⟩
  |succ n ih=>
   intro m hm
   by_cases he:m=n+1
   .subst he
    intro f x hx
    exact sf (h f x hx) λfa fd ps mm kp B l st=>⟨fa,fd,ps,st n ih,mm,kp,B,l (n+1)⟩
   .exact ih m (by lia)
 exact all n n (WE _)
end
def HX{K:PySem.W.Frag}{T:List Fd}{n f m:Nat}(h:∀ns:List Int,ns.length<=m->run T n f [.lst (ns.map .int)]=some (.bl true))(H:Hp)(a:Addr)(ns:List Int)(hl:ns.length<=m)(hS:c9 K H a (ns.map V.int)):
  uQ K 1 (run T n f) [.ref a] H (λv _=>v= .bl true) λ_ _ _=>False:=by
 refine⟨λ_=>False,[.lst (ns.map .int)],.bl true,λ_ z=>z.elim,.cons ?_ .nil,h ns hl,rfl,λv H' _ r=>r.tG⟩
 rcases hS with hS|hS
 .exact .lst hS id (dD ns)
 .exact .mod hS (dD ns)
def L8{l:PySem.W.OpenLaw}{q:Program}{loose:List Str}{XP:(Str->Option Value)->Heap->Prop}{YP:World->Heap->Prop}{d:DefRec}{K:Params->PySem.W.Frag}{x:Str}{T:List Fd}{n f:Nat}(hn:l.most=some 63)(JN:d.params.defaults=[])(Ve:n<=65)
  (hY:∀(w:World) (h:Heap),YP w h->(K w.params).In h)
  (F:∀(w:World) (mg:Str->Option Value) (fa:Addr) (h:Heap),(K w.params).In h->h.Ns mainGlobals mg->mg d.name=some (.ref fa)->
   ∃fd:FuncData,(∀(s:Shared) (u:Value),BindsTo s fd ⟨[u],[]⟩ [(x,u)])/\∀base:Heap,(K w.params).In base->base.Ns mainGlobals mg->iP l.prog w (K w.params) mg base wm n fa fd [x] (uQ (K w.params) 1 (run T n f)))
  (hT:∀ns:List Int,ns.length<=63->run T n f [.lst (ns.map .int)]=some (.bl true)):
  PySem.W.WalkO q loose XP YP l.row.toRowW d [] (λf vs=>PySem.call f vs):=
 L2.BI (n:=63) (k:=n) (x:=x) (CX:=λ_=>wm) (sp:=λw=>uQ (K w.params) 1 (run T n f)) hn (by decide) JN (eG.mono (k:=65) ⟨rfl,by decide,by decide⟩ Ve) hY F (λw H a ns hl _ hS=>HX hT H a ns hl hS) λ_ _ _ _ _ z=>z
def L9(h:l.length=1):∃a,l=[a]:=by
 cases l with
 |nil=>cases h
 |cons a l=>cases l with
  |nil=>exact⟨a,rfl⟩
  |cons _ _=>cases h
def L_(h:l.length=2):∃a b,l=[a,b]:=by
 cases l with
 |nil=>cases h
 |cons a l=>
  obtain⟨b,rfl⟩:=L9 (Nat.succ.inj h)
  exact⟨a,b,rfl⟩
def Qj(h:l.length=3):∃a b c,l=[a,b,c]:=by
 cases l with
 |nil=>cases h
 |cons a l=>
  refine D5 (L_ (Nat.succ.inj h)) λb c aj=>?_
  subst aj
  exact⟨a,b,c,rfl⟩
end Py
namespace Py
noncomputable def mB:Fd:=⟨2,2,(.seq (.ifs (.cmp .Lt (.var 1) (.prim .len (.u 0))) (.seq (.ret (.idx (.var 0) (.var 1))) .skip) .skip) (.seq (.ret (.c (.int 0))) .skip))⟩
noncomputable def vh(g:Nat):Fd:=⟨2,3,(.seq (.asg 2 (.bin .Mod (.bin .Mult (.bin .Add (.bin .Add (.call g (.w 0 (.u 1))) (.bin .Mult (.c (.int 7919)) (.var 1))) (.c (.int 1))) (.c (.int 48271))) (.c (.int 2147483647)))) (.seq (.ret (.bin .Mod (.bin .Add (.bin .Add (.bin .Mult (.var 2) (.var 2)) (.bin .Mult (.c (.int 7)) (.var 2))) (.var 1)) (.c (.int 2147483629)))) .skip))⟩
noncomputable def kT:Fd:=⟨2,3,(.seq (.asg 2 (.bin .Mod (.bin .Mult (.bin .Add (.bin .Add (.var 0) (.bin .Mult (.c (.int 104729)) (.var 1))) (.c (.int 17))) (.c (.int 69621))) (.c (.int 2147483647)))) (.seq (.ret (.bin .Mod (.bin .Add (.bin .Add (.bin .Mult (.var 2) (.var 2)) (.bin .Mult (.c (.int 3)) (.var 2))) (.var 1)) (.c (.int 2147483629)))) .skip))⟩
noncomputable def j0(ns:List Int):D:= .lst (ns.map .int)
noncomputable def cell(ns:List Int)(k:Nat):Int:=ns[k]?.getD 0
noncomputable def rF(c k:Int):Int:=(c+7919*k+1)*48271%2147483647
noncomputable def kU(ns:List Int)(k:Nat):Int:=(rF (cell ns k) k*rF (cell ns k) k+7*rF (cell ns k) k+k)%2147483629
noncomputable def gG(a k:Int):Int:=(a+104729*k+17)*69621%2147483647
noncomputable def drawn(a k:Int):Int:=(gG a k*gG a k+3*gG a k+k)%2147483629
def Ac(a k:Int):0<=drawn a k:=XN _ (by decide)
def aX(h:T[f]?=some d)(hl:xs.length=d.par):run T (n+1) f xs=out (ex (run T n) d.body (ai d xs)):=by
 rw[run,h]
 exact WO hl
def Dr(ns:List Int)(k:Nat):out (ex F mB.body (ai mB [j0 ns,.int k]))=some (.int (cell ns k)):=by
 by_cases h:k<ns.length
 .have h':(k:Int)<(ns.length:Int):=by lia
  simp[mB,br,f7,ni,wx,jJ,vC,nh,sV,fH,cv,ai,out,rd,prim,seq,j0,cmp,f6,h,h',item,place,cell]
 .have h':¬(k:Int)<(ns.length:Int):=by lia
  simp[mB,br,f7,ni,wx,jJ,vC,nh,sV,fH,cv,ai,out,rd,prim,seq,j0,cmp,f6,h,h',item,place,cell]
def jr(i:Int)(h1: -(2 ^ 64)<j)(h2:j<2 ^ 64):cE i j=true:=by
 simp[cE,h1,h2]
 right
 constructor<;>lia
def Ds(j:Int)(h1: -(2 ^ 64)<i)(h2:i<2 ^ 64):cE i j=true:=by
 simp[cE,h1,h2]
 left
 constructor<;>lia
def HY(ns:List Int)(k:Nat)(hk:k<1000)(hF:F g [j0 ns,.int k]=some (.int (cell ns k))):out (ex F (vh g).body (ai (vh g) [j0 ns,.int k]))=some (.int (kU ns k)):=by
 have h1:0<=rF (cell ns k) k:=XN _ (by decide)
 have h2:rF (cell ns k) k<2147483647:=XH _ (by decide)
 have m1:cE 7919 (k:Int)=true:=by simp[cE]
 have m2:∀i:Int,cE i 48271=true:=λi=>jr i (by decide) (by decide)
 have m3:cE (rF (cell ns k) k) (rF (cell ns k) k)=true:=jr _ (by lia) (by lia)
 have m4:∀i:Int,cE 7 i=true:=λi=>by simp[cE]
 have Vf:F g [j0 ns,.int k]=some (.int (cell ns k)):=hF
 simp only[vh,br,sX,ni,jJ,vC,qx,sW,cv,ai,rd,List.map,Z9,XJ]
 simp[Vf,kz,kM,bin,m1,m2,m4,put]
 rw[show(cell ns k+7919*(k:Int)+1)*48271%2147483647=rF (cell ns k) k from rfl]
 simp[m3,out,ay,kU]
def Ad(a k:Int):out (ex F kT.body (ai kT [.int a,.int k]))=some (.int (drawn a k)):=by
 have h1:0<=gG a k:=XN _ (by decide)
 have h2:gG a k<2147483647:=XH _ (by decide)
 have m1:cE 104729 k=true:=by simp[cE]
 have m2:∀i:Int,cE i 69621=true:=λi=>jr i (by decide) (by decide)
 have m3:cE (gG a k) (gG a k)=true:=jr _ (by lia) (by lia)
 have m4:∀i:Int,cE 3 i=true:=λi=>by simp[cE]
 simp only[kT,br,sX,ni,jJ,vC,qx,cv,ai,rd,List.map,Z9,XJ]
 simp[bin,m1,m2,m4,put]
 rw[show(a+104729*k+17)*69621%2147483647=gG a k from rfl]
 simp[m3,out,drawn]
noncomputable def perms:Nat->List (List Int)
 |0=>[[]]
 |n+1=>(perms n).flatMap λp=>(List.range (n+1)).map λk=>p.take k++(n:Int)::p.drop k
def oB{n:Nat}{p:List Int}(h:p∈perms n){k:Nat}(hk:k<=n):p.take k++(n:Int)::p.drop k∈perms (n+1):=
 XC.mpr ⟨p,h,WD.mpr ⟨k,W7.mpr (Nat.lt_succ_of_le hk),rfl⟩⟩
theorem aB:∀{n:Nat}{p:List Int},p∈perms n->p.length=n
 |0,p,h=>by
  simp[perms]at h
  subst h
  rfl
 |n+1,p,h=>by
  refine ae (XC.mp h) λq hq h=>ae (WD.mp h) λk hk aj=>?_
  subst aj
  have:=aB hq
  have ED:=W7.mp hk
  simp
  lia
noncomputable def tp(p:List Int):D:= .tup (p.map .int)
theorem mC:∀{xs:List D}{p:List Int},aP xs=some p->xs=p.map .int
 |[],p,h=>by cases h;rfl
 | .int i::r,p,h=>by
  unfold aP at h
  cases e:aP r with
  |none=>rw[e]at h;cases h
  |some q=>
   rw[e]at h
   cases h
   rw[mC e]
   rfl
 | .fC ::r,p,h=>by cases h
 | .bl _::r,p,h=>by cases h
 | .tup _::r,p,h=>by cases h
 | .lst _::r,p,h=>by cases h
noncomputable def Dt(n:Nat):Option D->Bool
 |some (.tup xs)=>match aP xs with
  |some p=>(perms n).contains p
  |none=>false
 |_=>false
def vj{n:Nat}{o:Option D}(h:Dt n o=true):∃p∈perms n,o=some (tp p):=by
 unfold Dt at h
 split at h
 .split at h
  .rename_i xs _ p e
   exact⟨p,by simpa using h,by rw[mC e];rfl⟩
  .cases h
 .cases h
noncomputable def vk:C:=(.seq (.lO 2 (.var 3) (.var 4)) (.seq (.lO 2 (.var 4) (.var 3)) (.seq (.ret (.prim .tuple (.u 2))) .skip)))
noncomputable def Du:C:=(.seq (.for [7] 0 (.c8 (.u 5)) (.seq (.lO 2 (.bin .Mod (.bin .Add (.var 6) (.var 7)) (.var 1)) (.bin .Mod (.bin .Add (.var 6) (.bin .Mod (.bin .Add (.var 7) (.c (.int 1))) (.var 5))) (.var 1))) .skip)) (.seq (.ret (.prim .tuple (.u 2))) .skip))
noncomputable def xi(g:Nat):C:=(.seq (.asg 9 (.bin .Mod (.call g (.w 0 (.u 7))) (.bin .Add (.prim .len (.u 8)) (.c (.int 1))))) (.seq (.bV 8 (.bin .Add (.bin .Add (.sl (.var 8) .nil (.u 9)) (.lst (.u 7))) (.sl (.var 8) (.u 9) .nil))) .skip))
noncomputable def j4(g:Nat):Fd:=⟨2,10,(.seq (.bV 2 (.iW .list (.u 1))) (.seq (.ifs (.cmp .Eq (.bin .Mod (.var 0) (.c (.int 3))) (.c (.int 0))) (.seq (.asg 3 (.bin .Mod (.bin .FloorDiv (.var 0) (.c (.int 3))) (.var 1))) (.seq (.asg 4 (.bin .Mod (.bin .FloorDiv (.var 0) (.c (.int 18))) (.var 1))) vk)) .skip)
 (.seq (.ifs (.cmp .Eq (.bin .Mod (.var 0) (.c (.int 3))) (.c (.int 1))) (.seq (.asg 5 (.bin .Add (.c (.int 1)) (.bin .Mod (.bin .FloorDiv (.var 0) (.c (.int 3))) (.var 1)))) (.seq (.asg 6 (.bin .Mod (.bin .FloorDiv (.var 0) (.c (.int 18))) (.var 1))) Du)) .skip)
 (.seq (.bV 8 (.lst .nil)) (.seq (.for [7] 0 (.c8 (.u 1)) (xi g)) (.seq (.ret (.prim .tuple (.u 8))) .skip))))))⟩
noncomputable abbrev vi(i:Int):Option (Bool×D):=some (false,.int i)
noncomputable abbrev vo(xs:List D):Option (Bool×D):=some (true,.lst xs)
noncomputable def vm(a:Int)(s o1 o2:Nat):Env:=[vi a,vi s,vo (bB 0 s),vi o1,vi o2,none,none,none,none,none]
noncomputable def Ae(a:Int)(s m o:Nat):Env:=[vi a,vi s,vo (bB 0 s),none,none,vi m,vi o,none,none,none]
set_option maxHeartbeats 0 in
def Af(F:FT)(a:Int):(List.range 6).all (λs=>(List.range (s+1)).all λo1=>(List.range (s+1)).all λo2=>Dt (s+1) (out (ex F vk (vm a (s+1) o1 o2))))=true:=by kernel_rfl
set_option maxHeartbeats 0 in
def Dv(F:FT)(a:Int):(List.range 6).all (λs=>(List.range (s+1)).all λm=>(List.range (s+1)).all λo=>Dt (s+1) (out (ex F Du (Ae a (s+1) (m+1) o))))=true:=by kernel_rfl
def all_range{n:Nat}{f:Nat->Bool}(h:(List.range n).all f=true){k:Nat}(hk:k<n):f k=true:=Xw.mp h k (W7.mpr hk)
def Dw(F:FT)(a:Int){s o1 o2:Nat}(h0:1<=s)(h6:s<=6)(h1:o1<s)(h2:o2<s):∃p∈perms s,out (ex F vk (vm a s o1 o2))=some (tp p):=by
 obtain⟨t,rfl⟩:∃t,s=t+1:=⟨s-1,by lia⟩
 exact vj (all_range (all_range (all_range (Af F a) (k:=t) (by lia)) h1) h2)
def HZ(F:FT)(a:Int){s m o:Nat}(h0:1<=s)(h6:s<=6)(h1:m<s)(h2:o<s):∃p∈perms s,out (ex F Du (Ae a s (m+1) o))=some (tp p):=by
 obtain⟨t,rfl⟩:∃t,s=t+1:=⟨s-1,by lia⟩
 exact vj (all_range (all_range (all_range (Dv F a) (k:=t) (by lia)) h1) h2)
def Ag{o:Option il}{p:List Int}(h:out o=some (tp p)):o=some (.ret (tp p)):=by
 cases o with
 |none=>cases h
 |some o=>cases o<;>cases h;rfl
noncomputable def gH(a s:Int)(x2:Option (Bool×D))(made:List Int)(x7 x9:Option (Bool×D)):Env:=[vi a,vi s,x2,none,none,none,none,x7,vo (made.map .int),x9]
def rG(xs:List D)(k:Nat)(h:k<=xs.length):xH xs none (some (k:Int))=xs.take k:=by
 unfold xH bound
 simp only[YQ,Nat.sub_zero]
 congr 1
 rw[WV (by lia)]
 lia
def rH(xs:List D)(k:Nat)(h:k<=xs.length):xH xs (some (k:Int)) none=xs.drop k:=by
 unfold xH bound
 simp only
 have e:(if(k:Int)<0 then max ((k:Int)+(xs.length:Int)) 0 else min (k:Int) (xs.length:Int)).toNat =k:=by
  rw[WV (by lia)]
  lia
 rw[e,Xg (by simp)]
def Ah(hF:F g [.int a,.int k]=some (.int y))(hm:made∈perms k)(hk:k<=1000):
  ∃at'≤k,ex F (xi g) (put (gH a s x2 made x7 x9) 7 false (.int k))=some (.next (gH a s x2 (made.take at'++(k:Int)::made.drop at') (vi k) (vi at'))):=by
 have hl:=aB hm
 have Wd:0<=y%((k:Int)+1):=XN _ (by lia)
 have We:y%((k:Int)+1)<(k:Int)+1:=XH _ (by lia)
 obtain⟨t,ht⟩:∃t:Nat,y%((k:Int)+1)=t:=⟨(y%((k:Int)+1)).toNat,by lia⟩
 have Vg:t<=k:=by lia
 refine⟨t,Vg,?_⟩
 have c1:=rG (made.map .int) t (by rw[Wr];lia)
 have c2:=rH (made.map .int) t (by rw[Wr];lia)
 have HR:(0:Int)<(k:Int)+1:=by lia
 have Wf:(List.take t (made.map D.int)).length+1<=ba:=by
  rw[XO,Wr,hl];unfold ba;lia
 simp only[xi,br,wx,sX,oZ,BP,ni,f7,yA,jJ,vC,qx,nh,sU,yx,sV,MX,sW,fH,yz,cv,Ep,gH,put,rd,List.set_cons_succ,List.set_cons_zero,List.getElem?_cons_succ,List.getElem?_cons_zero]
 simp[hF,kz,kM,ay,bin,prim,seq,hl,HR,ht,put,rd,Eo,cutD,c1,c2]
 have Vh:min t k+1<=ba:=by unfold ba;lia
 have Vi:min t k+1+(k-t)<=ba:=by unfold ba;lia
 have Vj:1<=ba:=by unfold ba;lia
 simp[hl,Vh,Vi,Vj]
theorem rJ(hF:∀k:Nat,∃y,F g [.int a,.int k]=some (.int y)):
  ∀(m k:Nat) (made:List Int) (x7 x9:Option (Bool×D)),made∈perms k->k+m<=1000->∃p∈perms (k+m),∃Qk Ql,aE (λx ρ=>(aA 0 x).bind λys=>(cI ρ [7] ys).bind λρ'=>ex F (xi g) ρ') (bB k m) (gH a s x2 made x7 x9)=some (.next (gH a s x2 p Qk Ql))
 |0,k,made,x7,x9,hm,_=>⟨made,hm,x7,x9,rfl⟩
 |m+1,k,made,x7,x9,hm,hk=>by
  refine au λnO=>?_
  obtain⟨y,hy⟩:=hF k
  refine ae (Ah (s:=s) (x2:=x2) (x7:=x7) (x9:=x9) hy hm (by lia)) λt ht e=>?_
  obtain⟨p,hp,Qk,Ql,e2⟩:=rJ (s:=s) (x2:=x2) hF m (k+1) _ (vi k) (vi t) (oB hm ht) (by lia)
  refine nO ?_
  refine⟨p,by rw[show k+(m+1)=k+1+m by lia];exact hp,Qk,Ql,?_⟩
  rw[bB,aE]
  show(ex F (xi g) (put (gH a s x2 made x7 x9) 7 false (.int k))).bind _=_
  rw[e]
  exact e2
def Dx(ha:0<=a)(h1:1<=s)(h6:s<=6)(hF:∀k:Nat,∃y,F g [.int a,.int k]=some (.int y)):∃p∈perms s,out (ex F (j4 g).body (ai (j4 g) [.int a,.int s]))=some (tp p):=by
 have hr:cM [.int s]=some (bB 0 s):=by
  show(if -(2 ^ 62)<=(s:Int)/\(s:Int)<=ba then some (bB 0 (s:Int).toNat) else none)=_
  rw[WO ⟨by lia,by unfold ba;lia⟩]
  rfl
 have Nm:(0:Int)<s:=by lia
 have L':0<s:=by lia
 have q1:0<=a/3%(s:Int):=XN _ (by lia)
 have q2:a/3%(s:Int)<s:=XH _ Nm
 have q3:0<=a/18%(s:Int):=XN _ (by lia)
 have q4:a/18%(s:Int)<s:=XH _ Nm
 obtain⟨o1,e1⟩:∃t:Nat,a/3%(s:Int)=t:=⟨(a/3%(s:Int)).toNat,by lia⟩
 obtain⟨o2,e2⟩:∃t:Nat,a/18%(s:Int)=t:=⟨(a/18%(s:Int)).toNat,by lia⟩
 by_cases c0:a%3=0
 .refine ae (Dw F a h1 h6 (o1:=o1) (o2:=o2) (by lia) (by lia)) λp hp e=>⟨p,hp,?_⟩
  have e':ex F vk [vi a,vi s,vo (bB 0 s),vi o1,vi o2,none,none,none,none,none]=some (.ret (tp p)):=Ag e
  simp[j4,br,wx,sX,oZ,BP,ni,f7,yA,jJ,vC,qx,nh,sU,yx,sV,MX,sW,fH,yz,cv,ai,rd,hr,lN,bin,cmp,ed,jI,f6,c0,put,Nm,L',e1,e2,e',out]
 .by_cases c1:a%3=1
  .refine ae (HZ F a h1 h6 (m:=o1) (o:=o2) (by lia) (by lia)) λp hp e=>⟨p,hp,?_⟩
   have e3:((o1+1:Nat):Int)=1+(o1:Int):=by lia
   have e':ex F Du [vi a,vi s,vo (bB 0 s),none,none,vi (1+(o1:Int)),vi o2,none,none,none]=some (.ret (tp p)):=by rw[<-e3];exact Ag e
   simp[j4,br,wx,sX,oZ,BP,ni,f7,yA,jJ,vC,qx,nh,sU,yx,sV,MX,sW,fH,yz,cv,ai,rd,hr,lN,bin,cmp,ed,jI,f6,c0,c1,put,Nm,L',e1,e2,e',out]
  .obtain⟨p,hp,x7,x9,e⟩:=rJ (a:=a) (s:=s) (x2:=vo (bB 0 s)) hF s 0 [] none none (by simp[perms]) (by lia)
   rw[Yc]at hp
   refine⟨p,hp,?_⟩
   have e':aE (λx ρ=>(aA 0 x).bind λys=>(cI ρ [7] ys).bind λρ'=>ex F (xi g) ρ') (bB 0 s) [vi a,vi s,vo (bB 0 s),none,none,none,none,none,vo [],none]=some (.next (gH a s (vo (bB 0 s)) p x7 x9)):=e
   simp[j4,br,wx,sX,oZ,BP,ni,f7,yA,jJ,vC,qx,nh,sU,yx,sV,MX,sW,fH,yz,cv,kA,ai,rd,hr,lN,bin,cmp,ed,jI,f6,c0,c1,put,ba,dH,e',gH,prim,seq,out,tp]
theorem pU:∀(n:Nat) (p:List Int),p.Nodup->(∀x∈p,0<=x/\x<n)->p.length<=n
 |0,p,_,h=>by
  cases p with
  |nil=>exact WE _
  |cons x r=>have:=h x Wx;lia
 |n+1,p,nd,h=>by
  have h1:(p.erase (n:Int)).length <=n:=pU n _ (nd.sublist List.erase_sublist) λx hx=>by
   have h2:=h x (List.mem_of_mem_erase hx)
   have h3:x≠n:=λe=>by
    subst e
    exact(List.Nodup.mem_erase_iff nd).mp hx |>.1 rfl
   lia
  by_cases hm:(n:Int)∈p
  .rw[ZX hm]at h1;lia
  .rw[List.erase_of_not_mem hm]at h1;lia
theorem aC:∀{n:Nat}{p:List Int},p∈perms n↔p.length=n/\p.Nodup/\∀x∈p,0<=x/\x<n
 |0,p=>by
  simp only[perms,Ww]
  constructor
  .rintro rfl;exact⟨rfl,List.nodup_nil,λx h=>nomatch h⟩
  .rintro⟨h,_⟩;exact Z4.mp h
 |n+1,p=>by
  constructor
  .intro h
   refine ae (XC.mp h) λq hq h=>ae (WD.mp h) λk hk aj=>?_
   subst aj
   refine cU (aC.mp hq) λl nd bd=>?_
   have ED:=W7.mp hk
   have Nn:(q.take k++q.drop k).Nodup :=by rw[YE];exact nd
   have hn:(n:Int)∉q:=λz=>by have:=bd _ z;lia
   have nt:(n:Int)∉q.take k:=λz=>hn (Yb z)
   have Vk:(n:Int)∉q.drop k:=λz=>hn (Ym z)
   refine⟨by simp;lia,?_,λx hx=>?_⟩
   .rw[XT]at Nn⊢
    refine⟨Nn.1,Xd.mpr ⟨Vk,Nn.2.1⟩,λa ha b hb=>?_⟩
    rcases WG.mp hb with rfl|hb
    .exact λe=>nt (e▸ha)
    .exact Nn.2.2 a ha b hb
   .rcases WQ.mp hx with z|z
    .have:=bd x (Yb z);lia
    .rcases WG.mp z with rfl|z
     .lia
     .have:=bd x (Ym z);lia
  .rintro⟨l,nd,bd⟩
   have hm:(n:Int)∈p:=by
    by_cases hm:(n:Int)∈p
    .exact hm
    .have:=pU n p nd λx hx=>by
      have h2:=bd x hx
      have h3:x≠n:=λe=>hm (e▸hx)
      lia
     lia
   refine D5 (List.append_of_mem hm) λu v aU=>?_
   subst aU
   rw[XT,Xd]at nd
   have hq:u++v∈perms n:=by
    refine aC.mpr ⟨by simp at l⊢;lia,?_,λx hx=>?_⟩
    .rw[XT]
     exact⟨nd.1,nd.2.1.2,λa ha b hb=>nd.2.2 a ha b (Wu _ hb)⟩
    .have y0:x∈u++(n:Int)::v:=by
      rcases WQ.mp hx with z|z
      .exact WY _ z
      .exact WN _ (Wu _ z)
     have h2:=bd x y0
     have h3:x≠n:=λe=>by
      subst e
      rcases WQ.mp hx with z|z
      .exact nd.2.2 _ z _ Wx rfl
      .exact nd.2.1.1 z
     lia
   have:=oB hq (k:=u.length) (by simp at l;lia)
   rw[List.take_left,List.drop_left]at this
   exact this
noncomputable def comp(p q:List Int):List Int:=p.map λi=>q.getD i.toNat 0
def getD_mem{q:List Int}{k:Nat}(h:k<q.length):q.getD k 0∈q:=by
 rw[Wz,Wq h]
 exact X0 h
def gW{n:Nat}{p q:List Int}(hp:p∈perms n)(hq:q∈perms n):comp p q∈perms n:=by
 refine cU (aC.mp hp) λlp np bp=>cU (aC.mp hq) λlq nq bq=>aC.mpr ⟨by simp[comp,lp],?_,λx hx=>?_⟩
 .unfold comp
  rw[Xc]at np⊢
  rw[Xk]
  refine np.imp_of_mem λ{a b} ha hb tu e=>tu ?_
  have h1:=bp a ha
  have h2:=bp b hb
  have l1:a.toNat<q.length:=by lia
  have l2:b.toNat<q.length:=by lia
  rw[Wz,Wz,Wq l1,Wq l2]at e
  have e':q[a.toNat]=q[b.toNat]:=e
  have:=(List.getElem?_inj (j:=b.toNat) l1 nq).mp (by rw[Wq l1,Wq l2,e'])
  lia
 .refine ae (WD.mp hx) λi hi aj=>?_
  subst aj
  have h1:=bp i hi
  exact bq _ (getD_mem (by lia))
def iJ(hp:p∈perms n)(hq:q∈perms n):comp (comp p q) r=comp p (comp q r):=by
 refine cU (aC.mp hp) λlp np bp=>cU (aC.mp hq) λlq nq bq=>?_
 unfold comp
 rw[W6]
 refine YW λi hi=>?_
 have h1:=bp i hi
 have l1:i.toNat<q.length:=by lia
 show r.getD (q.getD i.toNat 0).toNat 0=_
 rw[Wz (l:=List.map _ q),WI,Wz (l:=q),Wq l1]
 rfl
noncomputable def inv:List Int->Nat
 |[]=>0
 |x::r=>(r.filter λy=>decide (y<x)).length+inv r
noncomputable def bH(n:Nat):List Int:=(List.range n).map λ(k:Nat)=>Int.ofNat k
def js(hp:p∈perms n):comp p (bH n)=p:=by
 refine cU (aC.mp hp) λlp np bp=>?_
 unfold comp
 rw[YW (g:=id),aav]
 intro i hi
 have h1:=bp i hi
 have l1:i.toNat<n:=by lia
 simp[bH,WI,X4 l1]
 lia
theorem bO(h:α->D)(g:α->D)(f:D->Option (Option D)):∀xs:List α,(∀x∈xs,f (h x)=some (some (g x)))->walk f (xs.map h)=some (xs.map g)
 |[],_=>rfl
 |x::r,e=>by
  rw[WJ,walk,e x Wx]
  show(walk f (r.map h)).map _=_
  rw[bO h g f r λy hy=>e y (Wu _ hy)]
  rfl
noncomputable def kW:Fd:=⟨2,2,(.seq (.ret (.prim .tuple (.cons (.comp [1] 0 (.it (.var 0)) .nil (.idx (.var 1) (.var 0))) .nil))) .skip)⟩
def vn(h0:0<=i)(h1:i<q.length):item (tp q) (.int i)=some (.int (q.getD i.toNat 0)):=by
 show(place (q.map D.int).length i).bind _=_
 unfold place
 rw[WO h0,WO (by rw[Wr];exact h1)]
 show(q.map D.int)[i.toNat]?=_
 rw[WI,Wz,Wq (by lia)]
 rfl
def rK(hn:n<=1000)(hp:p∈perms n)(hq:q∈perms n):out (ex F kW.body (ai kW [tp p,tp q]))=some (tp (comp p q)):=by
 refine cU (aC.mp hp) λlp np bp=>cU (aC.mp hq) λlq nq bq=>?_
 have w:=bO (α:=Int) D.int (λi=> .int (q.getD i.toNat 0)) (λx=>(aA 0 x).bind λys=>(fG F true .nil (inner ys [some (false,tp p),some (false,tp q)] [1])).bind λk=>if k then(ev F false (.idx (.var 1) (.var 0)) (inner ys [some (false,tp p),some (false,tp q)] [1])).map some else some none) p (λx hx=>by
  have h1:=bp x hx
  show(item (tp q) (.int x)).map some=_
  rw[vn h1.1 (by lia)]
  rfl)
 have hl:(p.map D.int).length <=ba:=by rw[Wr,lp];unfold ba;lia
 have e:ev F true (.comp [1] 0 (.it (.var 0)) .nil (.idx (.var 1) (.var 0))) [some (false,tp p),some (false,tp q)]=some (.lst ((comp p q).map .int)):=by
  show(if(p.map D.int).length <=ba then _ else _)=_
  rw[WO hl]
  show(walk _ (p.map D.int)).map D.lst=_
  rw[w]
  simp[comp]<;>rfl
 show out ((((ev F true (.comp [1] 0 (.it (.var 0)) .nil (.idx (.var 1) (.var 0))) [some (false,tp p),some (false,tp q)]).bind _).bind _ |>.map _).bind _)=_
 rw[e]
 rfl
theorem rL:∀a b:List Int,yr (a.map .int) (b.map .int)=decide (a=b)
 |[],[]=>rfl
 |[],_::_=>rfl
 |_::_,[]=>rfl
 |x::a,y::b=>by
  show(jI (.int x) (.int y)&&yr (a.map .int) (b.map .int))=_
  rw[rL a b]
  show((x==y)&&decide (a=b))=_
  by_cases h1:x=y
  .subst h1;simp
  .simp[h1]
def H_(a b:List Int):jI (tp a) (tp b)=decide (a=b):=rL a b
def tR(a:List Int)(n:Nat):ed (tp a) (n+1)=true:=eO n a
def rM(a:List Int):ed (tp a) 60=true:=tR a 59
def Ma(a b:List Int):cmp .Eq (tp a) (tp b)=some (decide (a=b)):=by
 show(if ed (tp a) 60&&ed (tp b) 60 then some (jI (tp a) (tp b)) else none)=_
 rw[rM,rM,H_]
 rfl
theorem rN:∀(n k:Nat),bB (k:Int) n=(List.range' k n).map λ(j:Nat)=>D.int (j:Int)
 |0,k=>rfl
 |n+1,k=>by
  rw[bB,YT,WJ]
  have e:(k:Int)+1=((k+1:Nat):Int):=by push_cast;rfl
  rw[e,rN n (k+1)]
def dU(n:Nat):bB 0 n=(bH n).map .int :=by
 have:=rN n 0
 rw[show((0:Nat):Int)=0 from rfl]at this
 rw[this,bH,W6,Yn]
 rfl
def bP{n:Nat}(h:n<=1000):cM [.int n]=some (bB 0 n):=by
 show(if -(2 ^ 62)<=(n:Int)/\(n:Int)<=ba then some (bB 0 (n:Int).toNat) else none)=_
 rw[WO ⟨by lia,by unfold ba;lia⟩]
 rfl
noncomputable def kX:Fd:=⟨1,1,(.seq (.ret (.iW .tuple (.u 0))) .skip)⟩
def Ai{F:FT}{n:Nat}(h:n<=1000):out (ex F kX.body (ai kX [.int n]))=some (tp (bH n)):=by
 simp[kX,br,ni,jJ,yz,cv,ai,rd,bP h,lN,out,dU,tp]
def dW(n:Nat):bH n∈perms n:=by
 refine aC.mpr ⟨by simp[bH],?_,λx hx=>?_⟩
 .unfold bH
  rw[Xc,Xk]
  exact(Xc.mp List.nodup_range).imp λ{a b} h e=>h (Int.ofNat.inj e)
 .refine ae (WD.mp hx) λk hk aj=>?_
  subst aj
  have:=W7.mp hk
  exact⟨aaE k,by show(k:Int)<n;lia⟩
def mD(hp:p∈perms n):comp (bH n) p=p:=by
 refine cU (aC.mp hp) λlp np bp=>?_
 apply XD
 intro i
 unfold comp bH
 rw[W6,WI]
 by_cases hi:i<n
 .rw[X4 hi]
  show some (p.getD i 0)=_
  rw[Wz,Wq (by lia)]
  rfl
 .rw[WS (by simp;lia),WS (by lia)]
  rfl
def xj{n:Nat}{p:List Int}(hp:p∈perms n){k:Int}(h0:0<=k)(h1:k<n):k∈p:=by
 refine cU (aC.mp hp) λlp np bp=>?_
 by_cases hm:k∈p
 .exact hm
 .have:=pU n (k::p) (Xd.mpr ⟨hm,np⟩) λx hx=>by
   rcases WG.mp hx with rfl|hx
   .exact⟨h0,h1⟩
   .exact bp x hx
  rw[WM]at this
  lia
theorem rO:∀{p:List Int},k∈p->∃j,ef k p=some j
 |[],h=>nomatch h
 |n::r,h=>by
  unfold ef
  by_cases e:n=k
  .exact⟨0,WO e⟩
  .rw[WV e]
   obtain⟨j,hj⟩:=rO (List.mem_of_ne_of_mem (Xt e) h)
   exact⟨j+1,by rw[hj];rfl⟩
theorem rP:∀{p:List Int}{j:Nat},ef k p=some j->p[j]?=some k
 |[],_,h=>by cases h
 |n::r,j,h=>by
  unfold ef at h
  split at h
  .rename_i e;cases h;subst e;rfl
  .cases e:ef k r with
   |none=>rw[e]at h;cases h
   |some i=>rw[e]at h;cases h;simpa using rP e
theorem pV:∀{p:List Int}{j:Nat}{k:Int},p.Nodup->p[j]?=some k->ef k p=some j
 |[],_,_,_,h=>by simp at h
 |n::r,0,k,_,h=>by
  simp at h
  unfold ef
  rw[WO h]
 |n::r,j+1,k,nd,h=>by
  have h':r[j]?=some k:=by simpa using h
  have hn:n≠k:=λe=>(Xd.mp nd).1 (e▸XE h')
  unfold ef
  rw[WV hn,pV (Xd.mp nd).2 h']
  rfl
noncomputable def ip(p:List Int):List Int:=(List.range p.length).map λ(k:Nat)=>(((ef (k:Int) p).getD 0:Nat):Int)
def j5{n:Nat}{p:List Int}(hp:p∈perms n){k:Nat}(hk:k<n):∃j:Nat,ef (k:Int) p=some j/\(ip p)[k]?=some (j:Int)/\j<n/\p[j]?=some (k:Int):=by
 refine cU (aC.mp hp) λlp np bp=>?_
 obtain⟨j,hj⟩:=rO (xj hp (k:=(k:Int)) (by lia) (by lia))
 have hg:=rP hj
 refine⟨j,hj,?_,by have:=(WK.mp hg).1;lia,hg⟩
 unfold ip
 rw[WI,X4 (by lia)]
 simp[hj]
def pW:(ip p).length =p.length:=by simp[ip]
def Dy(hp:p∈perms n):comp p (ip p)=bH n:=by
 refine cU (aC.mp hp) λlp np bp=>?_
 apply XD
 intro i
 unfold comp bH
 rw[WI,WI]
 by_cases hi:i<n
 .have hb:=bp p[i] (X0 (by lia))
  rw[X4 hi,Wq (by lia)]
  obtain⟨k,hk⟩:∃k:Nat,p[i]=(k:Int):=⟨p[i].toNat,by lia⟩
  have Gm:k<n:=by lia
  refine Bn (j5 hp Gm) λj h1 h2 h3 h4=>?_
  have Ge:ef (k:Int) p=some i:=pV np (by rw[Wq (by lia),hk])
  rw[h1]at Ge
  have e:=WU Ge
  subst e
  show some ((ip p).getD (p[j].toNat) 0)=some (Int.ofNat j)
  rw[hk,Xz,Wz,h2]
  rfl
 .have l1:(List.range n)[i]?=none:=WS (by simp;lia)
  have l2:p[i]?=none:=WS (by lia)
  rw[l1,l2]
  rfl
def vp(hp:p∈perms n):comp (ip p) p=bH n:=by
 refine cU (aC.mp hp) λlp np bp=>?_
 apply XD
 intro i
 unfold comp bH
 rw[WI,WI]
 by_cases hi:i<n
 .refine Bn (j5 hp hi) λj h1 h2 h3 h4=>?_
  rw[h2,X4 hi]
  show some (p.getD ((j:Int).toNat) 0)=some (Int.ofNat i)
  rw[Xz,Wz,h4]
  rfl
 .have l1:(List.range n)[i]?=none:=WS (by simp;lia)
  have l2:(ip p)[i]?=none:=WS (by rw[pW];lia)
  rw[l1,l2]
  rfl
def jt(hp:p∈perms n):ip p∈perms n:=by
 refine cU (aC.mp hp) λlp np bp=>aC.mpr ⟨by rw[pW,lp],?_,λx hx=>?_⟩
 .rw[Xc,X5]
  intro i j hi hj Ge e
  rw[pW,lp]at hi hj
  refine Bn (j5 hp hi) λa a1 a2 a3 a4=>Bn (j5 hp hj) λb b1 b2 b3 b4=>?_
  rw[Wq (by rw[pW];lia)]at a2 b2
  have ea:=WU a2
  have eb:=WU b2
  rw[ea,eb]at e
  have:a=b:=by lia
  subst this
  rw[a4]at b4
  have:=WU b4
  lia
 .refine ae (WD.mp hx) λk hk aj=>?_
  subst aj
  have ED:=W7.mp hk
  refine Bn (j5 hp (k:=k) (by lia)) λj h1 _ h3 _=>?_
  rw[h1]
  exact⟨aaE _,by show(j:Int)<n;lia⟩
def xk(hp:p∈perms n)(hq:q∈perms n)(h:comp p q=bH n):q=ip p:=by
 have e:comp (comp (ip p) p) q=comp (ip p) (comp p q):=iJ (jt hp) hp
 rw[vp hp,mD hq,h,js (jt hp)]at e
 exact e
noncomputable def tS:Fd:=⟨1,1,(.seq (.ret (.prim .tuple (.cons (.comp [0] 0 (.c8 (.cons (.prim .len (.u 0)) .nil)) .nil (.eQ .index (.var 1) (.u 0))) .nil))) .skip)⟩
theorem cT:∀p:List Int,aP (p.map .int)=some p
 |[]=>rfl
 |x::p=>by
  show(aP (p.map .int)).map (x:: ·)=_
  rw[cT p]
  rfl
def Dz{F:FT}{n:Nat}{p:List Int}(hn:n<=1000)(hp:p∈perms n):out (ex F tS.body (ai tS [tp p]))=some (tp (ip p)):=by
 refine cU (aC.mp hp) λlp np bp=>?_
 have w:=bO (α:=Nat) (λk=>D.int (k:Int)) (λ(k:Nat)=> .int (((ef (k:Int) p).getD 0:Nat):Int)) (λx=>(aA 0 x).bind λys=>(fG F true .nil (inner ys [some (false,tp p)] [0])).bind λk=>if k then(ev F false (.eQ .index (.var 1) (.u 0)) (inner ys [some (false,tp p)] [0])).map some else some none) (List.range n) (λk hk=>by
  have ED:=W7.mp hk
  refine ae (j5 hp ED) λj h1 _=>?_
  show(eQ .index (tp p) [.int (k:Int)]).map some=_
  show(((aP (p.map .int)).bind λns=>(ef (k:Int) ns).map λ(i:Nat)=>D.int (i:Int))).map some=_
  rw[cT]
  show((ef (k:Int) p).map λ(i:Nat)=>D.int (i:Int)).map some=_
  rw[h1]
  rfl)
 have hr:cM [.int ((p.map D.int).length :Nat)]=some ((List.range n).map λ(k:Nat)=>D.int (k:Int)):=by
  rw[Wr,lp,bP hn,dU,bH,W6]
  rfl
 have hl:((List.range n).map λ(k:Nat)=>D.int (k:Int)).length <=ba:=by rw[Wr,Yf];unfold ba;lia
 have e:ev F true (.comp [0] 0 (.c8 (.cons (.prim .len (.u 0)) .nil)) .nil (.eQ .index (.var 1) (.u 0))) [some (false,tp p)]=some (.lst ((ip p).map .int)):=by
  show(cM [.int ((p.map D.int).length :Nat)]).bind _=_
  rw[hr]
  show(if((List.range n).map λ(k:Nat)=>D.int (k:Int)).length <=ba then _ else _)=_
  rw[WO hl]
  show(walk _ ((List.range n).map λ(k:Nat)=>D.int (k:Int))).map D.lst=_
  rw[w]
  simp[ip,lp]<;>rfl
 show out ((((ev F true (.comp [0] 0 (.c8 (.cons (.prim .len (.u 0)) .nil)) .nil (.eQ .index (.var 1) (.u 0))) [some (false,tp p)]).bind _).bind _ |>.map _).bind _)=_
 rw[e]
 rfl
noncomputable def sb:List Int->Nat->List Int->List Int
 |[],_,f=>f
 |g::r,i,f=>sb r (i+1) (f.set g.toNat (i:Int))
theorem mE:∀p:List Int,aV (p.map .int)=true
 |[]=>rfl
 |x::p=>by show(ay (.int x)&&aV (p.map .int))=true;rw[mE p];rfl
def aF(p:List Int):ay (tp p)=true:=mE p
noncomputable def pw(p:List Int):Nat->List Int
 |0=>bH p.length
 |m+1=>comp (pw p m) p
theorem ju(hp:p∈perms n):∀m,pw p m∈perms n
 |0=>by rw[pw,aB hp];exact dW n
 |m+1=>gW (ju hp m) hp
theorem Aj(hp:p∈perms n)(a:Nat):∀b,pw p (a+b)=comp (pw p a) (pw p b)
 |0=>by rw[aaH,pw,aB hp,js (ju hp a)]
 |b+1=>by
  show comp (pw p (a+b)) p=comp (pw p a) (comp (pw p b) p)
  rw[Aj hp a b,iJ (ju hp a) (ju hp b)]
def Ia(hp:p∈perms n):pw p 1=p:=by
 show comp (bH p.length) p=p
 rw[aB hp,mD hp]
noncomputable def xl(p:List Int):Nat:=(((List.range 6).find? λm=>pw p (m+1)==bH p.length).getD 0)+1
noncomputable def EV(n:Nat)(p:List Int):Bool:=decide (pw p (xl p)=bH n)&&decide (xl p<=6)&&(List.range (xl p)).all λk=>k==0||decide (pw p k≠bH n)
set_option maxHeartbeats 0 in
def DA:(List.range 7).all (λn=>(perms n).all (EV n))=true:=by decide +kernel
def Ak(hn:n<=6)(hp:p∈perms n):pw p (xl p)=bH n/\1<=xl p/\xl p<=6/\∀k,1<=k->k<xl p->pw p k≠bH n:=by
 have h:=Xw.mp (all_range DA (k:=n) (by lia)) p hp
 unfold EV at h
 simp only[Ws,decide_eq_true_eq,Xw,W7,aak,beq_iff_eq]at h
 refine⟨h.1.1,by unfold xl;lia,h.1.2,λk h1 h2=>?_⟩
 rcases h.2 k h2 with z|z
 .lia
 .exact z
def cV(h:ev F true e ρ=some d):out (ex F (.seq (.ret e) b) ρ)=some d:=by
 rw[br,ni,h]
 rfl
def aT(h:ev F false e ρ=some d):ex F (.asg i e) ρ=some (.next (put ρ i false d)):=by
 rw[sX,h]
 rfl
def aM(h1:cv F true es ρ=some xs)(h2:F f xs=some d)(h3:ay d=true):ev F b (.call f es) ρ=some d:=by
 rw[sW,h1]
 show(F f xs).bind _=_
 rw[h2]
 simp[h3]
def dg(h1:ev F b a ρ=some x)(h2:ev F b c ρ=some y):cv F b (.cons a (.cons c .nil)) ρ=some [x,y]:=by
 rw[cv,h1,cv,h2,cv]
 rfl
def dX(h1:ev F b a ρ=some x):cv F b (.cons a .nil) ρ=some [x]:=by
 rw[cv,h1,cv]
 rfl
noncomputable def fu(F:FT)(fr:List Nat)(ifs cD:E)(ρ:Env)(x:D):Option (Option D):=(fG F true ifs (inner [x] ρ fr)).bind λk=>if k then(ev F false cD (inner [x] ρ fr)).map some else some none
def dz(h1:ev F true a ρ=some d)(h2:seq d=some xs)(h3:xs.length<=ba):ev F b (.comp fr 0 (.it a) ifs cD) ρ=(walk (fu F fr ifs cD ρ) xs).map .lst :=by
 rw[JZ,kA,h1,X1,h2,X1,WO h3]
 rfl
def gI(h1:(cv F false es ρ).bind cM=some xs)(h3:xs.length<=ba):ev F b (.comp fr 0 (.c8 es) ifs cD) ρ=(walk (fu F fr ifs cD ρ) xs).map .lst :=by
 rw[JZ,kA,h1,X1,WO h3]
 rfl
theorem kq{f:D->Option (Option D)}{p:D->Bool}:∀xs:List D,(∀x∈xs,f x=some (if p x then some x else none))->walk f xs=some (xs.filter p)
 |[],_=>rfl
 |x::r,h=>by
  rw[walk,h x Wx,X_]
  have ih:=kq r λy hy=>h y (Wu _ hy)
  cases p x with
  |true=>show(walk f r).map _=_;rw[ih];rfl
  |false=>exact ih
theorem vq{f:D->Option (Option D)}{P:D->Prop}:∀xs:List D,(∀x∈xs,∃y,P y/\f x=some (some y))->∃ys,walk f xs=some ys/\ys.length=xs.length/\∀y∈ys,P y
 |[],_=>⟨[],rfl,rfl,λ_ h=>nomatch h⟩
 |x::r,h=>by
  refine ae (h x Wx) λy hy e=>bL (vq r λz hz=>h z (Wu _ hz)) λys e2 hl hP=>⟨y::ys,?_,by rw[WM,WM,hl],λz hz=>?_⟩
  .rw[walk,e]
   show(walk f r).map _=_
   rw[e2]
   rfl
  .rcases WG.mp hz with rfl|hz
   .exact hy
   .exact hP z hz
def rQ(hx:x∈bB 0 n):∃k:Nat,k<n/\x= .int k:=by
 rw[dU]at hx
 refine ae (WD.mp hx) λi hi aj=>?_
 subst aj
 refine ae (WD.mp hi) λj hj aU=>?_
 subst aU
 exact⟨j,W7.mp hj,rfl⟩
def dY(n:Nat):(bB 0 n).length =n:=by
 rw[dU,Wr,bH,Wr,Yf]
noncomputable def fX(ft fd:Nat):Fd:=⟨2,2,(.seq (.ret (.prim .tuple (.cons (.comp [0,1] 0 (.c8 (.cons (.idx (.tup (.cons (.c (.int 1)) (.cons (.c (.int 1)) (.cons (.c (.int 2)) (.cons (.c (.int 2)) (.cons (.c (.int 3)) (.cons (.c (.int 0)) (.cons (.c (.int 6)) .nil)))))))) (.bin .Mod (.var 0) (.c (.int 7)))) .nil)) .nil (.call ft (.cons (.call fd (.w 1 (.u 0))) (.u 2)))) .nil))) .skip)⟩
def Ib(s:Nat)(y:D):Prop:=∃p∈perms s,y=tp p
def An{xs:List D}{k:Nat}{x:D}(h:xs[k]?=some x):item (.tup xs) (.int k)=some x:=by
 show(place xs.length k).bind _=_
 have hk:k<xs.length:=(WK.mp h).1
 unfold place
 rw[WO (by lia),WO (by lia)]
 show xs[((k:Int)).toNat]?=_
 rw[Xz]
 exact h
def Ic{F:FT}{ft fd s:Nat}{a:Int}(hd:∀k:Nat,F fd [.int a,.int k]=some (.int (drawn a k)))(ht:∀b:Int,0<=b->∃p∈perms s,F ft [.int b,.int s]=some (tp p)):
  ∃ys,out (ex F (fX ft fd).body (ai (fX ft fd) [.int a,.int s]))=some (.tup ys)/\ys.length<=6/\∀y∈ys,Ib s y:=by
 have g0:0<=a%7:=XN _ (by decide)
 have g1:a%7<7:=XH _ (by decide)
 obtain⟨j,hj⟩:∃j:Nat,a%7=j:=⟨(a%7).toNat,by lia⟩
 have Vl:j<7:=by lia
 have key:∀j,j<7->∃n:Nat,n<=6/\[D.int 1,.int 1,.int 2,.int 2,.int 3,.int 0,.int 6][j]?=some (.int n):=λj hj=>
  ⟨[1,1,2,2,3,0,6][j],(show∀x∈[1,1,2,2,3,0,6],x<=6 by decide) _ (X0 _),by rw[show [D.int 1,.int 1,.int 2,.int 2,.int 3,.int 0,.int 6]=[1,1,2,2,3,0,6].map λn:Nat=>D.int n from rfl,WI,Wq hj];rfl⟩
 refine ae (key j Vl) λn hn hg=>?_
 have e1:ev F false (.idx (.tup (.cons (.c (.int 1)) (.cons (.c (.int 1)) (.cons (.c (.int 2)) (.cons (.c (.int 2)) (.cons (.c (.int 3)) (.cons (.c (.int 0)) (.cons (.c (.int 6)) .nil)))))))) (.bin .Mod (.var 0) (.c (.int 7)))) (ai (fX ft fd) [.int a,.int s])=some (.int n):=by
  have q1:ev F true (.tup (.cons (.c (.int 1)) (.cons (.c (.int 1)) (.cons (.c (.int 2)) (.cons (.c (.int 2)) (.cons (.c (.int 3)) (.cons (.c (.int 0)) (.cons (.c (.int 6)) .nil)))))))) (ai (fX ft fd) [.int a,.int s])=some (.tup [D.int 1,.int 1,.int 2,.int 2,.int 3,.int 0,.int 6]):=by simp[sU,vC,cv,ba]
  have q2:ev F false (.bin .Mod (.var 0) (.c (.int 7))) (ai (fX ft fd) [.int a,.int s])=some (.int j):=by simp[fX,ai,jJ,vC,qx,rd,bin,hj]
  rw[sV,q1,X1,q2,X1]
  exact An hg
 obtain⟨ys,w,hl,hP⟩:=vq (f:=fu F [0,1] .nil (.call ft (.cons (.call fd (.w 1 (.u 0))) (.u 2))) (ai (fX ft fd) [.int a,.int s])) (P:=Ib s) (bB 0 n) λx hx=>by
  refine ae (rQ hx) λk hk aj=>?_
  subst aj
  refine ae (ht (drawn a k) (Ac _ _)) λp hp e=>⟨tp p,⟨p,hp,rfl⟩,?_⟩
  show(ev F false _ (inner [.int (k:Int)] _ [0,1])).map some=_
  have i1:ev F true (.call fd (.w 1 (.u 0))) (inner [.int (k:Int)] (ai (fX ft fd) [.int a,.int s]) [0,1])=some (.int (drawn a k)):=
   aM (xs:=[.int a,.int k]) (dg (by simp[fX,ai,jJ,rd,inner,yu]) (by simp[fX,ai,jJ,rd,inner,yu])) (hd k) rfl
  rw[aM (xs:=[.int (drawn a k),.int s]) (d:=tp p) (dg i1 (by simp[fX,ai,jJ,rd,inner,yu])) e (aF _)]
  rfl
 refine⟨ys,cV ?_,by rw[hl,dY];exact hn,hP⟩
 rw[fH,dX (x:= .lst ys)]
 .rfl
 .rw[gI (xs:=bB 0 n) (by rw[dX e1,X1,bP (by lia)]) (by rw[dY];unfold ba;lia),w]
  rfl
section
variable {s:Nat}{ps:List (List Int)}(mT:∀p∈ps,p∈perms s)
include mT
end
def cj(h1:cv F true es ρ=some xs)(h2:F f xs=some d)(h3:kz ρ es=false):ev F b (.call f es) ρ=some d:=by
 rw[sW,h1]
 show(F f xs).bind _=_
 rw[h2]
 simp[h3]
def Qm(h1:ev F b a ρ=some x)(h2:ev F b c ρ=some y)(h3:ev F b e ρ=some z):cv F b (.cons a (.cons c (.cons e .nil))) ρ=some [x,y,z]:=by
 rw[cv,h1,cv,h2,cv,h3,cv]
 rfl
theorem Ao:∀{s:Nat} (ys:List D),(∀y∈ys,Ib s y)->∃ps:List (List Int),ys=ps.map tp/\∀p∈ps,p∈perms s
 |_,[],_=>⟨[],rfl,λ_ h=>nomatch h⟩
 |s,y::r,h=>by
  refine ae (h y Wx) λp hp aj=>?_
  subst aj
  refine ae (Ao r λz hz=>h z (Wu _ hz)) λps aU mT=>?_
  subst aU
  exact⟨p::ps,rfl,λq hq=>(WG.mp hq).elim (λe=>e▸hp) (mT q)⟩
def vt(h:(cv F false es ρ).bind cM=some xs):ex F (.for is tg (.c8 es) b) ρ=aE (λx ρ=>(aA tg x).bind λys=>(cI ρ is ys).bind λρ'=>ex F b ρ') xs ρ:=by
 rw[yA]
 show((cv F false es ρ).bind cM).bind _=_
 rw[h]
 rfl
end Py
namespace jv
structure Pg(α:Type) where
 n:Nat
 S:α->Prop
 mul:α->α->α
 inv:α->α
 one:α
 im:α->Nat->Nat
structure gJ{α:Type}(Y:Pg α):Prop where
 s1:Y.S Y.one
 sm:∀{a b},Y.S a->Y.S b->Y.S (Y.mul a b)
 si:∀{a},Y.S a->Y.S (Y.inv a)
 assoc:∀{a b c},Y.S a->Y.S b->Y.S c->Y.mul (Y.mul a b) c=Y.mul a (Y.mul b c)
 mul_one:∀{a},Y.S a->Y.mul a Y.one=a
 one_mul:∀{a},Y.S a->Y.mul Y.one a=a
 dA:∀{a},Y.S a->Y.mul a (Y.inv a)=Y.one
 inv_mul:∀{a},Y.S a->Y.mul (Y.inv a) a=Y.one
 aY:∀{k},k<Y.n->Y.im Y.one k=k
 aI:∀{a b k},Y.S a->Y.S b->k<Y.n->Y.im (Y.mul a b) k=Y.im b (Y.im a k)
 fx:∀{a k},Y.S a->k<Y.n->Y.im a k<Y.n
 ext:∀{a b},Y.S a->Y.S b->(∀k,k<Y.n->Y.im a k=Y.im b k)->a=b
section
variable {α:Type}{Y:Pg α}
def gJ.inj(L:gJ Y)(ha:Y.S a)(hk:k<Y.n)(hl:l<Y.n)(h:Y.im a k=Y.im a l):k=l:=by
 have e:∀j,j<Y.n->Y.im (Y.inv a) (Y.im a j)=j:=λj hj=>by
  rw[<-L.aI ha (L.si ha) hj,L.dA ha,L.aY hj]
 rw[<-e k hk,<-e l hl,h]
def iK(Y:Pg α)(t:α)(i:Nat):Prop:=∀k,k<i->Y.im t k=k
abbrev Rg(α:Type):=List (Nat×α)
structure V(Y:Pg α)(i:Nat)(R:Rg α):Prop where
 st:∀p u,(p,u)∈R->Y.S u/\iK Y u i/\Y.im u i=p
 one:(i,Y.one)∈R
 nd:(R.map (·.1)).Nodup
def VL(Y:Pg α):List (Rg α)->Nat->Prop
 |[],i=>i=Y.n
 |R::l,i=>V Y i R/\i<Y.n/\VL Y l (i+1)
def H(Y:Pg α):List (Rg α)->α->Prop
 |[],t=>t=Y.one
 |R::l,t=>∃p u w,(p,u)∈R/\H Y l w/\t=Y.mul w u
def kY{R:Rg α}(h:(R.map (·.1)).Nodup){p:Nat}{u v:α}(h1:(p,u)∈R)(h2:(p,v)∈R):u=v:=by
 induction R with
 |nil=>cases h1
 |cons e R ih=>
  rw[WJ,Xd]at h
  rcases WG.mp h1 with a|a
  .rcases WG.mp h2 with b|b
   .exact(aaw (a.trans b.symm)).2
   .exact absurd (WD.mpr ⟨_,b,by rw[<-a]⟩) h.1
  .rcases WG.mp h2 with b|b
   .exact absurd (WD.mpr ⟨_,a,by rw[<-b]⟩) h.1
   .exact ih h.2 a b
theorem H.good(L:gJ Y):∀{l:List (Rg α)}{i:Nat}{t:α},VL Y l i->H Y l t->Y.S t/\iK Y t i
 |[],i,t,hv,h=>by
  have h':t=Y.one:=h
  have IW:i=Y.n:=hv
  subst h'
  exact⟨L.s1,λk hk=>L.aY (by lia)⟩
 |R::l,i,t,⟨hv,hi,hl⟩,⟨p,u,w,hu,hw,e⟩=>by
  obtain⟨s1,f1⟩:=H.good L hl hw
  refine cU (hv.st p u hu) λs2 f2 _=>?_
  subst e
  refine⟨L.sm s1 s2,λk hk=>?_⟩
  rw[L.aI s1 s2 (by lia),f1 k (by lia),f2 k hk]
theorem H.one(L:gJ Y):∀{l:List (Rg α)}{i:Nat},VL Y l i->H Y l Y.one
 |[],_,_=>rfl
 |R::l,i,⟨hv,hi,hl⟩=>⟨i,Y.one,Y.one,hv.one,H.one L hl,(L.one_mul L.s1).symm⟩
def St(l:List (Rg α))(u:α):Prop:=∃R∈l,∃p,(p,u)∈R
theorem St.good(L:gJ Y):∀{l:List (Rg α)}{i:Nat}{u:α},VL Y l i->St l u->Y.S u/\iK Y u i
 |[],_,_,_,⟨_,h,_⟩=>by cases h
 |R::l,i,u,⟨hv,hi,hl⟩,⟨R',hR,p,hp⟩=>by
  rcases WG.mp hR with e|e
  .rw[e]at hp
   exact⟨(hv.st p u hp).1,(hv.st p u hp).2.1⟩
  .obtain⟨a,b⟩:=St.good L hl ⟨R',e,p,hp⟩
   exact⟨a,λk hk=>b k (by lia)⟩
def H.drop(L:gJ Y){R:Rg α}{l:List (Rg α)}{i:Nat}{t:α}(hv:VL Y (R::l) i)(h:H Y (R::l) t)(hf:Y.im t i=i):H Y l t:=by
 refine cU hv λhV hi hl=>c7 h λp u w hu hw e=>?_
 obtain⟨s1,f1⟩:=H.good L hl hw
 refine cU (hV.st p u hu) λs2 f2 f3=>?_
 have:p=i:=by
  rw[e,L.aI s1 s2 hi,f1 i (by lia),f3]at hf
  exact hf
 subst this
 have:u=Y.one:=kY hV.nd hu hV.one
 rw[this,L.mul_one s1]at e
 rw[e]
 exact hw
def H.DB(L:gJ Y)(hv:VL Y (R::l) i)(h:H Y l t):H Y (R::l) t:=⟨i,Y.one,t,hv.1.one,h,(L.mul_one (H.good L hv.2.2 h).1).symm⟩
inductive Gen(Y:Pg α)(G:α->Prop):α->Prop
 |one:Gen Y G Y.one
 |mul {t u:α}:Gen Y G t->G u->Gen Y G (Y.mul t u)
theorem Gen.S(L:gJ Y)(hG:∀u,G u->Y.S u):∀{t:α},Gen Y G t->Y.S t
 |_,.one =>L.s1
 |_,.mul h hu=>L.sm (Gen.S L hG h) (hG _ hu)
theorem Gen.mono(h:∀u,G u->G' u):∀{t:α},Gen Y G t->Gen Y G' t
 |_,.one => .one
 |_,.mul a hu=> .mul (Gen.mono h a) (h _ hu)
theorem Gen.app(L:gJ Y)(hG:∀u,G u->Y.S u)(ha:Gen Y G a):∀{b:α},Gen Y G b->Gen Y G (Y.mul a b)
 |_,.one =>by rw[L.mul_one (Gen.S L hG ha)];exact ha
 |_,.mul (t:=t) (u:=u) h hu=>by
  rw[<-L.assoc (Gen.S L hG ha) (Gen.S L hG h) (hG _ hu)]
  exact .mul (Gen.app L hG ha h) hu
def Gen.of(L:gJ Y)(hs:Y.S u)(h:G u):Gen Y G u:=by
 have:=Gen.mul (Gen.one (Y:=Y) (G:=G)) h
 rwa [L.one_mul hs]at this
theorem H.gen(L:gJ Y):∀{l:List (Rg α)}{i:Nat}{t:α},VL Y l i->H Y l t->Gen Y (St l) t
 |[],_,t,_,h=>by
  have h':t=Y.one:=h
  rw[h'];exact .one
 |R::l,i,t,⟨hV,hi,hl⟩,⟨p,u,w,hu,hw,e⟩=>by
  rw[e]
  exact .mul (Gen.mono (λx ⟨R',h,q⟩=>⟨R',Wu _ h,q⟩) (H.gen L hl hw)) ⟨R,Wx,p,hu⟩
theorem H.closed(L:gJ Y):∀{l:List (Rg α)}{i:Nat},VL Y l i->(∀u v,St l u->St l v->H Y l (Y.mul u v))->∀t v,H Y l t->St l v->H Y l (Y.mul t v)
 |[],_,_,_,_,_,_,⟨_,h,_⟩=>by cases h
 |R::l,i,hv,hp,t,v,⟨p,u,w,hu,hw,e⟩,mY=>by
  have hl:=hv.2.2
  have sub:∀x,St l x->St (R::l) x:=λx ⟨R',h,q⟩=>⟨R',Wu _ h,q⟩
  have ih:=H.closed L hl λx y hx hy=>by
   obtain⟨s1,f1⟩:=St.good L hl hx
   obtain⟨s2,f2⟩:=St.good L hl hy
   refine(hp x y (sub x hx) (sub y hy)).drop L hv ?_
   rw[L.aI s1 s2 hv.2.1,f1 i (by lia),f2 i (by lia)]
  have all:∀{x:α},Gen Y (St l) x->H Y l (Y.mul w x):=λ{x} hx=>by
   induction hx with
   |one=>rw[L.mul_one (H.good L hl hw).1];exact hw
   |mul h hu F_=>
    rw[<-L.assoc (H.good L hl hw).1 (Gen.S L (λu hu=>(St.good L hl hu).1) h) (St.good L hl hu).1]
    exact ih _ _ F_ hu
  have su:St (R::l) u:=⟨R,Wx,p,hu⟩
  refine c7 (hp u v su mY) λp' u' w' IT uT e'=>?_
  obtain⟨sw,_⟩:=H.good L hl hw
  obtain⟨Ie,_⟩:=H.good L hl uT
  have Vm:=(St.good L hv su).1
  have Vn:=(St.good L hv mY).1
  have Vo:=(hv.1.st p' u' IT).1
  refine⟨p',u',Y.mul w w',IT,all (H.gen L hl uT),?_⟩
  rw[e,L.assoc sw Vm Vn,e',<-L.assoc sw Ie Vo]
def H.all(L:gJ Y)(hv:VL Y l i)(hp:∀u v,St l u->St l v->H Y l (Y.mul u v))(ht:H Y l t)(hx:Gen Y (St l) x):H Y l (Y.mul t x):=by
 induction hx with
 |one=>rw[L.mul_one (H.good L hv ht).1];exact ht
 |mul h hu ih=>
  rw[<-L.assoc (H.good L hv ht).1 (Gen.S L (λu hu=>(St.good L hv hu).1) h) (St.good L hv hu).1]
  exact H.closed L hv hp _ _ ih hu
def H.row(L:gJ Y)(hv:VL Y l 0)(hG:∀u,G u->Y.S u)(hp:∀u v,St l u->St l v->H Y l (Y.mul u v))(hr:∀g,G g->H Y l g)(hs:∀u,St l u->Gen Y G u)(t:α):H Y l t↔Gen Y G t:=by
 constructor
 .intro h
  have:∀{x:α},Gen Y (St l) x->Gen Y G x:=λ{x} hx=>by
   induction hx with
   |one=>exact .one
   |mul h hu ih=>exact Gen.app L hG ih (hs _ hu)
  exact this (H.gen L hv h)
 .intro h
  induction h with
  |one=>exact H.one L hv
  |mul h hu ih=>exact H.all L hv hp ih (H.gen L hv (hr _ hu))
noncomputable def ij(R:Rg α)(p:Nat):Option α:=(R.find? λe=>e.1==p).map (·.2)
def fy(h:ij R p=some u):(p,u)∈R:=by
 unfold ij at h
 cases e:R.find? (λe=>e.1==p)with
 |none=>rw[e]at h;cases h
 |some x=>
  rw[e]at h
  cases h
  have h1:=List.find?_some e
  have h2:=List.mem_of_find?_eq_some e
  have:x.1=p:=by simpa using h1
  rw[<-this];exact h2
def j6{R:Rg α}{p:Nat}(h:ij R p=none):p∉R.map (·.1):=λhm=>by
 unfold ij at h
 rw[Option.map_eq_none_iff,List.find?_eq_none]at h
 exact ae (WD.mp hm) λe he hp=>h e he (by simp[hp])
def vw{R:Rg α}(nd:(R.map (·.1)).Nodup){p:Nat}{u:α}(h:(p,u)∈R):ij R p=some u:=by
 cases e:ij R p with
 |none=>exact absurd (WD.mpr ⟨_,h,rfl⟩) (j6 e)
 |some v=>rw[kY nd h (fy e)]
noncomputable def dh(Y:Pg α):List (Rg α)->Nat->α->α
 |[],_,t=>t
 |R::l,i,t=>match ij R (Y.im t i)with
  |some u=>dh Y l (i+1) (Y.mul t (Y.inv u))
  |none=>t
noncomputable def add:List (Rg α)->Nat->Nat×α->List (Rg α)
 |[],_,_=>[]
 |R::l,0,x=>(R++[x])::l
 |R::l,k+1,x=>R::add l k x
theorem H.add:∀{l:List (Rg α)}{k:Nat}{t:α},H Y l t->H Y (jv.add l k x) t
 |[],_,_,h=>h
 |R::l,0,t,⟨p,u,w,hu,hw,e⟩=>⟨p,u,w,WY _ hu,hw,e⟩
 |R::l,k+1,t,⟨p,u,w,hu,hw,e⟩=>⟨p,u,w,hu,H.add hw,e⟩
theorem St.add:∀{l:List (Rg α)}{k:Nat},St (jv.add l k x) v->St l v\/v=x.2
 |[],_,⟨_,h,_⟩=>by cases h
 |R::l,0,⟨R',hR,p,hp⟩=>by
  rcases WG.mp hR with e|e
  .rw[e]at hp
   rcases WQ.mp hp with z|z
   .exact .inl ⟨R,Wx,p,z⟩
   .rw[Ww]at z
    exact .inr (by rw[<-z])
  .exact .inl ⟨R',Wu _ e,p,hp⟩
 |R::l,k+1,⟨R',hR,p,hp⟩=>by
  rcases WG.mp hR with e|e
  .exact .inl ⟨R,Wx,p,by rw[<-e];exact hp⟩
  .rcases St.add (l:=l) (k:=k) ⟨R',e,p,hp⟩with⟨R2,h2,q⟩|z
   .exact .inl ⟨R2,Wu _ h2,q⟩
   .exact .inr z
theorem oC(L:gJ Y):∀{l:List (Rg α)}{i:Nat}{t:α},VL Y l i->Y.S t->iK Y t i->
  (dh Y l i t=Y.one/\H Y l t)\/∃k R,l[k]?=some R/\i+k<Y.n/\Y.S (dh Y l i t)/\iK Y (dh Y l i t) (i+k)/\Y.im (dh Y l i t) (i+k)∉R.map (·.1)/\Y.im (dh Y l i t) (i+k)≠i+k/\
   H Y (add l k (Y.im (dh Y l i t) (i+k),dh Y l i t)) t/\VL Y (add l k (Y.im (dh Y l i t) (i+k),dh Y l i t)) i
 |[],i,t,hv,hs,hf=>by
  have IW:i=Y.n:=hv
  have:t=Y.one:=L.ext hs L.s1 λk hk=>by rw[hf k (by lia),L.aY hk]
  exact .inl ⟨this,this⟩
 |R::l,i,t,hv,hs,hf=>by
  refine cU hv λhV hi hl=>?_
  unfold dh
  cases e:ij R (Y.im t i)with
  |none=>
   have hn:=j6 e
   have eU:Y.im t i≠i:=λz=>hn (WD.mpr ⟨_,hV.one,z.symm⟩)
   refine .inr ⟨0,R,rfl,hi,hs,hf,hn,eU,?_,?_⟩
   .exact⟨Y.im t i,t,Y.one,WN _ (Ww.mpr rfl),H.one L hl,(L.one_mul hs).symm⟩
   .refine⟨⟨λp u hu=>?_,WY _ hV.one,?_⟩,hi,hl⟩
    .rcases WQ.mp hu with z|z
     .exact hV.st p u z
     .rw[Ww]at z
      cases z
      exact⟨hs,hf,rfl⟩
    .rw[W4,XT]
     refine⟨hV.nd,by simp,λa ha b hb z=>?_⟩
     have:b=Y.im t i:=by simpa using hb
     exact hn (by rw[<-this,<-z];exact ha)
  |some u=>
   have hu:=fy e
   refine cU (hV.st _ u hu) λs2 f2 f3=>?_
   have sI:=L.si s2
   have s3:Y.S (Y.mul t (Y.inv u)):=L.sm hs sI
   have back:Y.mul (Y.mul t (Y.inv u)) u=t:=by rw[L.assoc hs sI s2,L.inv_mul s2,L.mul_one hs]
   have Ap:∀k,k<Y.n->Y.im (Y.inv u) (Y.im u k)=k:=λk hk=>by rw[<-L.aI s2 sI hk,L.dA s2,L.aY hk]
   have f4:iK Y (Y.mul t (Y.inv u)) (i+1):=λk hk=>by
    rw[L.aI hs sI (by lia)]
    rcases Xr k i with z|z
    .rw[hf k z]
     have:=Ap k (by lia)
     rwa [f2 k z]at this
    .have e2:k=i:=by lia
     rw[e2]
     have:=Ap i hi
     rwa [f3]at this
   dsimp only
   rcases oC L hl s3 f4 with⟨a,b⟩|⟨k,R',a1,a2,a3,a4,a5,a6,a7,a8⟩
   .exact .inl ⟨a,_,u,_,hu,b,back.symm⟩
   .have ek:i+1+k=i+(k+1):=by lia
    rw[ek]at a2 a4 a5 a6 a7 a8
    exact .inr ⟨k+1,R',a1,a2,a3,a4,a5,a6,⟨_,u,_,hu,a7,back.symm⟩,hV,hi,a8⟩
structure Fd(Y:Pg α)(G:α->Prop)(l:List (Rg α))(W:List α):Prop where
 v:VL Y l 0
 g:∀u,St l u->Gen Y G u
 wg:∀t∈W,Gen Y G t
 row:∀t,G t->t∈W\/H Y l t
 Mb:∀u v,St l u->St l v->Y.mul u v∈W\/H Y l (Y.mul u v)
def Fd.done(L:gJ Y)(hG:∀u,G u->Y.S u)(h:Fd Y G l [])(t:α):H Y l t↔Gen Y G t:=
 H.row L h.v hG (λu v hu hv=>(h.Mb u v hu hv).resolve_left (by simp)) (λg hg=>(h.row g hg).resolve_left (by simp)) h.g t
def Fd.none(h:Fd Y G l (W++[t]))(ht:H Y l t):Fd Y G l W where
 v:=h.v
 g:=h.g
 wg:=λx hx=>h.wg x (WY _ hx)
 row:=λx hx=>by
  rcases h.row x hx with z|z
  .rcases WQ.mp z with z|z
   .exact .inl z
   .rw[Ww.mp z];exact .inr ht
  .exact .inr z
 Mb:=λu v hu hv=>by
  rcases h.Mb u v hu hv with z|z
  .rcases WQ.mp z with z|z
   .exact .inl z
   .rw[Ww.mp z];exact .inr ht
  .exact .inr z
def Fd.more(L:gJ Y)(h:Fd Y G l (W++[t]))(hv:VL Y (add l k (p,r)) 0)(ht:H Y (add l k (p,r)) t)(hr:Gen Y G r)(mT:∀x∈Ps,Gen Y G x)
  (hP:∀u,St (add l k (p,r)) u->Y.mul u r∈Ps/\Y.mul r u∈Ps):Fd Y G (add l k (p,r)) (W++Ps) where
 v:=hv
 g:=λu hu=>by
  rcases hu.add with z|z
  .exact h.g u z
  .rw[z];exact hr
 wg:=λx hx=>(WQ.mp hx).elim (λz=>h.wg x (WY _ z)) (mT x)
 row:=λx hx=>by
  rcases h.row x hx with z|z
  .rcases WQ.mp z with z|z
   .exact .inl (WY _ z)
   .rw[Ww.mp z];exact .inr ht
  .exact .inr z.add
 Mb:=λu v hu IW=>by
  rcases hu.add with z1|z1
  .rcases IW.add with z2|z2
   .rcases h.Mb u v z1 z2 with z|z
    .rcases WQ.mp z with z|z
     .exact .inl (WY _ z)
     .rw[Ww.mp z];exact .inr ht
    .exact .inr z.add
   .rw[z2]
    exact .inl (WN _ (hP u hu).1)
  .rw[z1]
   exact .inl (WN _ (hP v IW).2)
theorem iK.mul(L:gJ Y)(ha:Y.S a)(hb:Y.S b)(hi:i<=Y.n)(h1:iK Y a i)(h2:iK Y b i):iK Y (Y.mul a b) i:=λk hk=>by rw[L.aI ha hb (by lia),h1 k hk,h2 k hk]
theorem iK.inv(L:gJ Y)(ha:Y.S a)(hi:i<=Y.n)(h1:iK Y a i):iK Y (Y.inv a) i:=λk hk=>by
 have:=L.aI ha (L.si ha) (k:=k) (by lia)
 rw[L.dA ha,L.aY (by lia),h1 k hk]at this
 exact this.symm
structure cy(Y:Pg α)(M:α->Prop):Prop where
 s:∀t,M t->Y.S t
 one:M Y.one
 mul:∀a b,M a->M b->M (Y.mul a b)
 inv:∀a,M a->M (Y.inv a)
def Hm(Y:Pg α)(M:α->Prop)(l:List (Rg α))(i:Nat):Prop:=VL Y l i/\∀t,H Y l t↔M t/\iK Y t i
def Hm.tail(L:gJ Y)(h:Hm Y M (R::l) i):Hm Y M l (i+1):=by
 refine⟨h.1.2.2,λt=>⟨λht=>?_,λ⟨h1,h2⟩=>?_⟩⟩
 .exact⟨((h.2 t).mp (ht.DB L h.1)).1,(H.good L h.1.2.2 ht).2⟩
 .exact((h.2 t).mpr ⟨h1,λk hk=>h2 k (by lia)⟩).drop L h.1 (h2 i (by lia))
def Hm.step(L:gJ Y)(h:Hm Y M (R::l) i)(hu:(p,u)∈R):M u/\iK Y u i/\Y.im u i=p:=by
 refine cU (h.1.1.st p u hu) λs1 f1 f2=>?_
 have:H Y (R::l) u:=⟨p,u,Y.one,hu,H.one L h.1.2.2,(L.one_mul s1).symm⟩
 exact⟨((h.2 u).mp this).1,f1,f2⟩
def Hm.split(L:gJ Y)(h:Hm Y M (R::l) i)(hM:M t)(hf:iK Y t i):∃u w,(Y.im t i,u)∈R/\H Y l w/\t=Y.mul w u:=by
 refine au λnO=>c7 ((h.2 t).mpr ⟨hM,hf⟩) λp u w hu hw e=>?_
 obtain⟨s1,f1⟩:=H.good L h.1.2.2 hw
 refine cU (h.1.1.st p u hu) λs2 f2 f3=>nO ?_
 have:Y.im t i=p:=by rw[e,L.aI s1 s2 h.1.2.1,f1 i (by lia),f3]
 exact⟨u,w,by rw[this];exact hu,hw,e⟩
def Lt(Y:Pg α)(a b:α):Prop:=∃i,i<Y.n/\(∀k,k<i->Y.im a k=Y.im b k)/\Y.im a i<Y.im b i
def Lt.M0(h:Lt Y a b)(h':Lt Y b a):False:=by
 refine bL h λi i1 i2 i3=>bL h' λj j1 j2 j3=>?_
 rcases Nat.lt_trichotomy i j with z|z|z
 .have:=j2 i z;lia
 .subst z;lia
 .have:=i2 j z;lia
inductive LM(Y:Pg α):List (Rg α)->α->α->Prop
 |nil {u:α}:LM Y [] u u
 |cons {R:Rg α}{l:List (Rg α)}{u x:α}{p:Nat}{v:α}:(p,v)∈R->(∀q,q∈R.map (·.1)->Y.im u p<=Y.im u q)->LM Y l (Y.mul v u) x->LM Y (R::l) u x
theorem LM.least(L:gJ Y):∀{l:List (Rg α)}{i:Nat}{u x:α},VL Y l i->Y.S u->LM Y l u x->(∃w,H Y l w/\x=Y.mul w u)/\∀w,H Y l w->x=Y.mul w u\/Lt Y x (Y.mul w u)
 |[],i,u,x,hv,hs,h=>by
  cases h
  refine⟨⟨Y.one,rfl,(L.one_mul hs).symm⟩,λw hw=>?_⟩
  have uT:w=Y.one:=hw
  rw[uT,L.one_mul hs];exact .inl rfl
 |R::l,i,u,x,hv,hs,h=>by
  cases h
  rename_i p v hp Aq hl
  refine au λnO=>cU hv λhV hi Qn=>cU (hV.st p v hp) λs2 f2 f3=>?_
  obtain⟨⟨w',uT,ex⟩,ih⟩:=LM.least L Qn (L.sm s2 hs) hl
  obtain⟨Ie,Sf⟩:=H.good L Qn uT
  refine nO ?_
  have hx:x=Y.mul (Y.mul w' v) u:=by rw[ex,L.assoc Ie s2 hs]
  refine⟨⟨Y.mul w' v,⟨p,v,w',hp,uT,rfl⟩,hx⟩,?_⟩
  rintro w ⟨p2,v2,w2,p_,Sg,ew⟩
  refine au λnO=>cU (hV.st p2 v2 p_) λs3 g2 g3=>?_
  obtain⟨Mc,Sh⟩:=H.good L Qn Sg
  refine nO ?_
  by_cases e:p2=p
  .subst e
   have:v2=v:=kY hV.nd p_ hp
   subst this
   rw[ew,L.assoc Mc s3 hs]
   exact ih w2 Sg
  .refine .inr ⟨i,hi,λk hk=>?_,?_⟩
   .rw[hx,ew,L.aI (L.sm Ie s2) hs (by lia),L.aI (L.sm Mc s3) hs (by lia),L.aI Ie s2 (by lia),L.aI Mc s3 (by lia),Sf k (by lia),Sh k (by lia),f2 k hk,g2 k hk]
   .rw[hx,ew,L.aI (L.sm Ie s2) hs hi,L.aI (L.sm Mc s3) hs hi,L.aI Ie s2 hi,L.aI Mc s3 hi,Sf i (by lia),Sh i (by lia),f3,g3]
    have h1:=Aq p2 (WD.mpr ⟨_,p_,rfl⟩)
    have xF:p<Y.n:=by rw[<-f3];exact L.fx s2 hi
    have Qo:p2<Y.n:=by rw[<-g3];exact L.fx s3 hi
    have h2:Y.im u p≠Y.im u p2:=λz=>e (L.inj hs xF Qo z).symm
    lia
def fA(Y:Pg α)(M:α->Prop)(i p:Nat)(x:α):Prop:=M x/\iK Y x i/\Y.im x i=p/\∀t,M t->iK Y t i->Y.im t i=p->x=t\/Lt Y x t
def fA.Md(h:fA Y M i p x)(h':fA Y M i p y):x=y:=by
 rcases h.2.2.2 y h'.1 h'.2.1 h'.2.2.1 with z|z
 .exact z
 .rcases h'.2.2.2 x h.1 h.2.1 h.2.2.1 with z'|z'
  .exact z'.symm
  .exact(z.M0 z').elim
def Hm.best(L:gJ Y)(hM:cy Y M)(h:Hm Y M (R::l) i)(hu:(p,u)∈R)(hx:LM Y l u x):fA Y M i p x:=by
 refine cU (h.step L hu) λm1 f1 f2=>?_
 have hs:=hM.s u m1
 obtain⟨⟨w,hw,ex⟩,least⟩:=LM.least L h.1.2.2 hs hx
 obtain⟨mw,fw⟩:=((h.tail L).2 w).mp hw
 have sw:=hM.s w mw
 have hi:=h.1.2.1
 refine⟨by rw[ex];exact hM.mul _ _ mw m1,?_,?_,λt ht hf hp=>?_⟩
 .rw[ex];exact iK.mul L sw hs (by lia) (λk hk=>fw k (by lia)) f1
 .rw[ex,L.aI sw hs hi,fw i (by lia),f2]
 .refine bC (h.split L ht hf) λu' w' h1 h2 e=>?_
  rw[hp]at h1
  have:u'=u:=kY h.1.1.nd h1 hu
  rw[e,this]
  exact least w' h2
def As(L:gJ Y)(hM:cy Y M)(hi:i<Y.n):fA Y M i i Y.one:=by
 refine⟨hM.one,λk hk=>L.aY (by lia),L.aY hi,λt ht hf hp=>?_⟩
 have hs:=hM.s t ht
 by_cases all:∀k,k<Y.n->Y.im t k=k
 .exact .inl (L.ext L.s1 hs λk hk=>by rw[L.aY hk,all k hk])
 .
  have ex:∃j,j<Y.n/\Y.im t j≠j/\∀k,k<j->Y.im t k=k:=by
   have key:∀m,m<=Y.n->(∀k,k<m->Y.im t k=k)\/∃j,j<m/\Y.im t j≠j/\∀k,k<j->Y.im t k=k:=λm=>by
    induction m with
    |zero=>intro _;exact .inl λk hk=>by lia
    |succ m ih=>
     intro hm
     rcases ih (by lia)with z|⟨j,z1,z2,z3⟩
     .by_cases e:Y.im t m=m
      .exact .inl λk hk=>by
        rcases Xr k m with y|y
        .exact z k y
        .rw[show k=m by lia];exact e
      .exact .inr ⟨m,by lia,e,z⟩
     .exact .inr ⟨j,by lia,z2,z3⟩
   rcases key Y.n (WE _)with z|⟨j,z1,z2,z3⟩
   .exact absurd z all
   .exact⟨j,z1,z2,z3⟩
  refine bL ex λj j1 j2 j3=> .inr ⟨j,j1,λk hk=>by rw[L.aY (by lia),j3 k hk],?_⟩
  rw[L.aY j1]
  rcases Nat.lt_trichotomy (Y.im t j) j with z|z|z
  .have:=L.inj hs (L.fx hs j1) j1 (j3 _ z)
   lia
  .exact absurd z j2
  .exact z
def DC(Y:Pg α)(M:α->Prop):List (Rg α)->Nat->Prop
 |[],i=>i=Y.n
 |R::l,i=>i<Y.n/\(∀p x,(p,x)∈R->fA Y M i p x)/\(∀t,M t->iK Y t i->∃x,(Y.im t i,x)∈R)/\(R.map (·.1)).Nodup /\DC Y M l (i+1)
theorem DC.hm(L:gJ Y)(hM:cy Y M):∀{l:List (Rg α)}{i:Nat},DC Y M l i->Hm Y M l i
 |[],i,h=>by
  have h':i=Y.n:=h
  refine⟨h,λt=>⟨λht=>?_,λ⟨h1,h2⟩=>?_⟩⟩
  .have e:t=Y.one:=ht
   rw[e]
   exact⟨hM.one,λk hk=>L.aY (by lia)⟩
  .exact L.ext (hM.s t h1) L.s1 λk hk=>by rw[h2 k (by lia),L.aY hk]
 |R::l,i,⟨hi,hb,ha,nd,hl⟩=>by
  have ih:=DC.hm L hM hl
  have Ig:(i,Y.one)∈R:=by
   obtain⟨x,hx⟩:=ha Y.one hM.one λk hk=>L.aY (by lia)
   rw[L.aY hi]at hx
   have:=(hb i x hx).Md (As L hM hi)
   rw[this]at hx
   exact hx
  have hV:VL Y (R::l) i:=⟨⟨λp u hu=>by
   exact xC (hb p u hu) λb1 b2 b3 _=>⟨hM.s u b1,b2,b3⟩,Ig,nd⟩,hi,ih.1⟩
  refine⟨hV,λt=>⟨?_,λ⟨h1,h2⟩=>?_⟩⟩
  .rintro⟨p,u,w,hu,hw,e⟩
   refine xC (hb p u hu) λb1 b2 b3 _=>?_
   obtain⟨mw,fw⟩:=(ih.2 w).mp hw
   rw[e]
   exact⟨hM.mul _ _ mw b1,iK.mul L (hM.s w mw) (hM.s u b1) (by lia) (λk hk=>fw k (by lia)) b2⟩
  .obtain⟨x,hx⟩:=ha t h1 h2
   refine xC (hb _ x hx) λb1 b2 b3 _=>?_
   have st:=hM.s t h1
   have sx:=hM.s x b1
   have sI:=L.si sx
   refine⟨_,x,Y.mul t (Y.inv x),hx,(ih.2 _).mpr ⟨hM.mul _ _ h1 (hM.inv _ b1),λk hk=>?_⟩,by rw[L.assoc st sI sx,L.inv_mul sx,L.mul_one st]⟩
   rw[L.aI st sI (by lia)]
   rcases Xr k i with z|z
   .rw[h2 k z];exact iK.inv L sx (by lia) b2 k z
   .have e:k=i:=by lia
    rw[e,<-b3,<-L.aI sx sI hi,L.dA sx,L.aY hi]
noncomputable def TL(Y:Pg α):List (Rg α)->List α
 |[]=>[Y.one]
 |R::l=>R.flatMap λe=>(TL Y l).map λw=>Y.mul w e.2
theorem iL:∀{l:List (Rg α)}{t:α},t∈TL Y l↔H Y l t
 |[],t=>Ww
 |R::l,t=>by
  unfold TL
  simp only[XC,WD]
  constructor
  .rintro⟨e,he,w,hw,rfl⟩
   exact⟨e.1,e.2,w,he,iL.mp hw,rfl⟩
  .rintro⟨p,u,w,hu,hw,e⟩
   exact⟨(p,u),hu,w,iL.mpr hw,e.symm⟩
theorem mF(L:gJ Y):∀{l:List (Rg α)}{i:Nat},VL Y l i->(TL Y l).Nodup
 |[],_,_=>by simp[TL]
 |R::l,i,⟨hV,hi,hl⟩=>by
  have ih:=mF L hl
  have good:∀w,w∈TL Y l->Y.S w/\iK Y w (i+1):=λw hw=>H.good L hl (iL.mp hw)
  have key:∀{R':Rg α},(∀p u,(p,u)∈R'->Y.S u/\Y.im u i=p)->(R'.map (·.1)).Nodup ->(R'.flatMap λe=>(TL Y l).map λw=>Y.mul w e.2).Nodup :=λ{R'}=>by
   induction R' with
   |nil=>intro _ _;simp
   |cons e R' F_=>
    intro hs nd
    rw[WJ,Xd]at nd
    obtain⟨se,pe⟩:=hs e.1 e.2 Wx
    rw[Zb,XT]
    refine⟨?_,F_ (λp u h=>hs p u (Wu _ h)) nd.2,λa ha b hb z=>?_⟩
    .refine Xk.mpr (ih.imp_of_mem λ{a b} ha hb eU tu=>eU ?_)
     have sa:=(good a ha).1
     have sb:=(good b hb).1
     have sI:=L.si se
     have:Y.mul (Y.mul a e.2) (Y.inv e.2)=Y.mul (Y.mul b e.2) (Y.inv e.2):=congrArg (λx=>Y.mul x (Y.inv e.2)) tu
     rwa [L.assoc sa se sI,L.assoc sb se sI,L.dA se,L.mul_one sa,L.mul_one sb]at this
    .refine ae (WD.mp ha) λw hw aj=>?_
     subst aj
     refine ae (XC.mp hb) λe' xm jH=>ae (WD.mp jH) λw' uT aU=>?_
     subst aU
     obtain⟨Vp,Vq⟩:=hs e'.1 e'.2 (Wu _ xm)
     have h1:Y.im (Y.mul w e.2) i=e.1:=by rw[L.aI (good w hw).1 se hi,(good w hw).2 i (by lia),pe]
     have h2:Y.im (Y.mul w' e'.2) i=e'.1:=by rw[L.aI (good w' uT).1 Vp hi,(good w' uT).2 i (by lia),Vq]
     rw[z,h2]at h1
     exact nd.1 (WD.mpr ⟨e',xm,h1⟩)
  exact key (λp u h=>⟨(hV.st p u h).1,(hV.st p u h).2.2⟩) hV.nd
end
open Py
noncomputable def pg(s:Nat):Pg (List Int) where
 n:=s
 S:=λp=>p∈perms s
 mul:=comp
 inv:=ip
 one:=bH s
 im:=λp k=>(p.getD k 0).toNat
section
variable {s:Nat}
def Ih(hp:p∈perms s)(hk:k<s):p.getD k 0∈p:=getD_mem (by rw[aB hp];exact hk)
def Au(hp:p∈perms s)(hk:k<s):0<=p.getD k 0/\p.getD k 0<s:=(aC.mp hp).2.2 _ (Ih hp hk)
def iz(hp:p∈perms s)(hk:k<s):p.getD k 0=(((pg s).im p k:Nat):Int):=by
 have:=Au hp hk
 show _=(((p.getD k 0).toNat :Nat):Int)
 lia
def DD(hp:p∈perms s)(hk:k<s):(comp p q).getD k 0=q.getD (p.getD k 0).toNat 0:=by
 have hl:k<p.length:=by rw[aB hp];exact hk
 unfold comp
 rw[Wz,WI,Wq hl,Wz (l:=p),Wq hl]
 rfl
def tT(hk:k<s):(bH s).getD k 0=(k:Int):=by
 unfold bH
 rw[Wz,WI,X4 hk]
 rfl
def ah:gJ (pg s) where
 s1:=dW s
 sm:=λha hb=>gW ha hb
 si:=λha=>jt ha
 assoc:=λha hb _=>iJ ha hb
 mul_one:=λha=>js ha
 one_mul:=λha=>mD ha
 dA:=λha=>Dy ha
 inv_mul:=λha=>vp ha
 aY:=λ{k} hk=>by
  show((bH s).getD k 0).toNat =k
  rw[tT (s:=s) hk];lia
 aI:=λ{a b k} ha hb hk=>by
  show((comp a b).getD k 0).toNat =(b.getD (a.getD k 0).toNat 0).toNat
  rw[DD ha hk]
 fx:=λ{a k} ha hk=>by
  have:=Au ha hk
  show(a.getD k 0).toNat<s
  lia
 ext:=λ{a b} ha hb h=>by
  apply XD
  intro k
  rcases Xr k s with z|z
  .have h1:=iz ha z
   have h2:=iz hb z
   have h3:=h k z
   rw[h3]at h1
   have e:a.getD k 0=b.getD k 0:=h1.trans h2.symm
   rw[Wz,Wz]at e
   have la:k<a.length:=by rw[aB ha];exact z
   have lb:k<b.length:=by rw[aB hb];exact z
   rw[Wq la,Wq lb]at e⊢
   simpa using e
  .rw[WS (by rw[aB ha];exact z),WS (by rw[aB hb];exact z)]
theorem vx:∀{a b:List Int},a.length=b.length->(bU.bD a b=true↔ ∃i,i<a.length/\(∀k,k<i->a.getD k 0=b.getD k 0)/\a.getD i 0<b.getD i 0)
 |[],[],_=>by simp[bU.bD]
 |[],_::_,h=>by simp at h
 |_::_,[],h=>by simp at h
 |x::a,y::b,h=>by
  have hl:a.length=b.length:=by simpa using h
  unfold bU.bD
  by_cases e:x=y
  .rw[WO e,vx hl]
   constructor
   .rintro⟨i,h1,h2,h3⟩
    refine⟨i+1,by simpa using h1,λk hk=>?_,by simpa using h3⟩
    cases k with
    |zero=>simpa using e
    |succ k=>simpa using h2 k (by lia)
   .rintro⟨i,h1,h2,h3⟩
    cases i with
    |zero=>
     have:x<y:=by simpa using h3
     lia
    |succ i=>exact⟨i,by simpa using h1,λk hk=>by simpa using h2 (k+1) (by lia),by simpa using h3⟩
  .rw[WV e]
   constructor
   .intro h
    have:=of_decide_eq_true h
    exact⟨0,by simp,λk hk=>by lia,by simpa using this⟩
   .rintro⟨i,h1,h2,h3⟩
    cases i with
    |zero=>exact decide_eq_true (by simpa using h3)
    |succ i=>exact absurd (by simpa using h2 0 (by lia)) e
def DE(ha:a∈perms s)(hb:b∈perms s):Lt (pg s) a b↔bU.bD a b=true:=by
 have la:=aB ha
 have lb:=aB hb
 rw[vx (la.trans lb.symm),la]
 constructor
 .rintro⟨i,h1,h2,h3⟩
  refine⟨i,h1,λk hk=>?_,?_⟩
  .rw[iz ha (YX hk h1),iz hb (YX hk h1),h2 k hk]
  .rw[iz ha h1,iz hb h1];lia
 .rintro⟨i,h1,h2,h3⟩
  refine⟨i,h1,λk hk=>?_,?_⟩
  .show(a.getD k 0).toNat =(b.getD k 0).toNat
   rw[h2 k hk]
  .have:=Au ha h1
   show(a.getD i 0).toNat<(b.getD i 0).toNat
   lia
theorem Av(L:gJ (pg s))(hG:∀u,G u->u∈perms s)(hu:Gen (pg s) G u):∀m,Gen (pg s) G (pw u m)
 |0=>by
  have hp:u∈perms s:=Gen.S L hG hu
  have:pw u 0=bH s:=by show bH u.length=bH s;rw[aB hp]
  rw[this];exact .one
 |m+1=>by
  have:=Gen.app L hG (Av L hG hu m) hu
  exact this
def mG(h6:s<=6)(hG:∀u,G u->u∈perms s):cy (pg s) (Gen (pg s) G) where
 s:=λt ht=>Gen.S ah hG ht
 one:= .one
 mul:=λa b ha hb=>Gen.app ah hG ha hb
 inv:=λa ha=>by
  have hp:a∈perms s:=Gen.S ah hG ha
  refine xC (Ak h6 hp) λo1 o2 o3 _=>?_
  have e:comp a (pw a (xl a-1))=bH s:=by
   have:=Aj hp 1 (xl a-1)
   rw[Ia hp,show 1+(xl a-1)=xl a by lia,o1]at this
   exact this.symm
  have:ip a=pw a (xl a-1):=(xk hp (ju hp _) e).symm
  show Gen (pg s) G (ip a)
  rw[this]
  exact Av ah hG ha _
end
end jv
namespace jv
section
variable {α:Type}{Y:Pg α}
open Classical in
noncomputable def cq(Y:Pg α)(M:α->Prop)(i p:Nat):α:=@Classical.epsilon α ⟨Y.one⟩ (fA Y M i p)
def fB(h:fA Y M i p x):cq Y M i p=x:=(@Y6 α (fA Y M i p) ⟨x,h⟩).Md h
open Classical in
noncomputable def a_(Y:Pg α)(M:α->Prop)(i:Nat):Rg α:=((List.range Y.n).filter λp=>decide (∃x,fA Y M i p x)).map λp=>(p,cq Y M i p)
def mH{l:List Nat}(h:l.Pairwise (· < ·)):l.Nodup:=h.imp λz e=>by lia
def Me{l m:List Nat}(h1:l.Pairwise (· < ·))(h2:m.Pairwise (· < ·))(h:∀a,a∈l↔a∈m):l=m:=
 ((YN (mH h1) (mH h2)).mpr h).eq_of_pairwise (λa b _ _ x y=>by lia) h1 h2
def Aw(L:gJ Y){M:α->Prop}{i:Nat}(hi:i<Y.n)(hM:∀t,M t->Y.S t){R:Rg α}(hb:∀p x,(p,x)∈R->fA Y M i p x)(ha:∀t,M t->iK Y t i->∃x,(Y.im t i,x)∈R)(hs:(R.map (·.1)).Pairwise (· < ·)):R=a_ Y M i:=by
 have keys:R.map (·.1)=(List.range Y.n).filter λp=>@decide (∃x,fA Y M i p x) (Classical.propDecidable _):=by
  refine Me hs (Y8.sublist (Yx)) λp=>?_
  rw[Xx,W7,WD]
  constructor
  .rintro⟨⟨q,x⟩,h1,h2⟩
   have Ls:q=p:=h2
   subst Ls
   have b:=hb q x h1
   exact⟨by rw[<-b.2.2.1];exact L.fx (hM x b.1) hi,@decide_eq_true _ (Classical.propDecidable _) ⟨x,b⟩⟩
  .rintro⟨h1,h2⟩
   obtain⟨x,b⟩:=@of_decide_eq_true _ (Classical.propDecidable _) h2
   obtain⟨y,hy⟩:=ha x b.1 b.2.1
   rw[b.2.2.1]at hy
   exact⟨(p,y),hy,rfl⟩
 unfold a_
 rw[<-keys,W6]
 have:R=R.map id:=(aav R).symm
 conv=>lhs;rw[this]
 refine YW λe he=>?_
 show e=(e.1,cq Y M i e.1)
 rw[fB (hb e.1 e.2 he)]
def Ax:((a_ Y M i).map (·.1)).Pairwise (· < ·):=by
 unfold a_
 rw[W6]
 have:((λx:Nat×α=>x.1) ∘ λp=>(p,cq Y M i p))=id:=rfl
 rw[this,aav]
 exact Y8.sublist Yx
def mI:∀p x,(p,x)∈a_ Y M i->fA Y M i p x:=λp x h=>by
 refine ae (WD.mp h) λq hq e=>?_
 cases e
 obtain⟨y,hy⟩:=@of_decide_eq_true _ (Classical.propDecidable _) (Xx.mp hq).2
 rw[fB hy]
 exact hy
noncomputable def bz(Y:Pg α)(M:α->Prop)(i:Nat):List (Rg α):=(List.range' i (Y.n-i)).map (a_ Y M)
theorem rR(L:gJ Y){M:α->Prop}(hM:cy Y M)(rS:∀i t,i<Y.n->M t->iK Y t i->∃x,fA Y M i (Y.im t i) x):∀(m i:Nat),i+m=Y.n->DC Y M ((List.range' i m).map (a_ Y M)) i
 |0,i,h=>by
  show i=Y.n
  lia
 |m+1,i,h=>by
  rw[YT,WJ]
  have hi:i<Y.n:=by lia
  refine⟨hi,mI,λt ht hf=>?_,mH Ax,rR L hM rS m (i+1) (by lia)⟩
  obtain⟨x,hx⟩:=rS i t hi ht hf
  have hp:Y.im t i<Y.n:=L.fx (hM.s t ht) hi
  exact⟨cq Y M i (Y.im t i),WD.mpr ⟨Y.im t i,Xx.mpr ⟨W7.mpr hp,@decide_eq_true _ (Classical.propDecidable _) ⟨x,hx⟩⟩,rfl⟩⟩
theorem Ay(f:β->Nat):∀{l:List β},l≠[]->∃e∈l,∀e'∈l,f e<=f e'
 |[],h=>absurd rfl h
 |[x],_=>⟨x,Ww.mpr rfl,λy hy=>by rw[Ww.mp hy];exact WE _⟩
 |x::y::l,_=>by
  refine ae (Ay f (l:=y::l) (by simp)) λe h1 h2=>?_
  by_cases c:f x<=f e
  .refine⟨x,Wx,λz hz=>?_⟩
   rcases WG.mp hz with rfl|hz
   .exact WE _
   .exact Xu c (h2 z hz)
  .refine⟨e,Wu _ h1,λz hz=>?_⟩
   rcases WG.mp hz with rfl|hz
   .lia
   .exact h2 z hz
theorem LM.ex:∀{l:List (Rg α)}{i:Nat},VL Y l i->∀u,∃x,LM Y l u x
 |[],_,_,u=>⟨u,.nil⟩
 |R::l,i,⟨hV,_,hl⟩,u=>by
  refine ae (Ay (λe:Nat×α=>Y.im u e.1) (l:=R) (λz=>by have:=hV.one;rw[z]at this;cases this)) λe h1 h2=>?_
  obtain⟨x,hx⟩:=LM.ex hl (Y.mul e.2 u)
  refine⟨x,.cons (p:=e.1) (v:=e.2) h1 (λq hq=>?_) hx⟩
  refine ae (WD.mp hq) λe' xm aj=>?_
  subst aj
  exact h2 e' xm
theorem Hm.vy(L:gJ Y)(hM:cy Y M):∀{l:List (Rg α)}{i:Nat},Hm Y M l i->∀j t,i<=j->j<Y.n->M t->iK Y t j->∃x,fA Y M j (Y.im t j) x
 |[],i,h,j,t,h1,h2,_,_=>by
  have:i=Y.n:=h.1
  lia
 |R::l,i,h,j,t,h1,h2,ht,hf=>by
  rcases Xr i j with z|z
  .exact Hm.vy L hM (h.tail L) j t (by lia) h2 ht hf
  .have e:j=i:=by lia
   subst e
   refine bC (h.split L ht hf) λu w hu _ _=>?_
   obtain⟨x,hx⟩:=LM.ex h.1.2.2 u
   exact⟨x,h.best L hM hu hx⟩
def Az(L:gJ Y)(hM:cy Y M)(h:Hm Y M l 0):DC Y M (bz Y M 0) 0/\(∀t,t∈TL Y (bz Y M 0)↔M t)/\(TL Y (bz Y M 0)).Nodup :=by
 have hl:DC Y M (bz Y M 0) 0:=rR L hM (λi t hi ht hf=>h.vy L hM i t (XF _) hi ht hf) _ 0 (by lia)
 have hm:=hl.hm L hM
 refine⟨hl,λt=>?_,mF L hm.1⟩
 rw[iL,hm.2 t]
 exact⟨λz=>z.1,λz=>⟨z,λk hk=>by lia⟩⟩
def Fd.hm(L:gJ Y)(hG:∀u,G u->Y.S u)(h:Fd Y G l []):Hm Y (Gen Y G) l 0:=
 ⟨h.v,λt=>⟨λz=>⟨(h.done L hG t).mp z,λk hk=>by lia⟩,λz=>(h.done L hG t).mpr z.1⟩⟩
end
section
variable {α β:Type}{act:β->α->β}{b t:β}{G D:List α}{B W:List β}
inductive AA(act:β->α->β)(b:β)(G:List α):β->Prop
 |one:AA act b G b
 |mul:AA act b G x->g∈G->AA act b G (act x g)
structure Al(act:β->α->β)(b:β)(G:List α)(B W:List β):Prop where
 one:b∈B
 nd:B.Nodup
 wb:∀x∈W,x∈B
 gen:∀x∈B,AA act b G x
 out:∀x∈B,x∉W->∀g∈G,act x g∈B
def Si:Al act b G [b] [b] where
 one:=Ww.mpr rfl
 nd:=by simp
 wb:=λ_ h=>h
 gen:=λx hx=>by rw[Ww.mp hx];exact .one
 out:=λx hx h=>absurd hx h
structure Am(act:β->α->β)(b:β)(G:List α)(t:β)(D:List α)(B W:List β):Prop where
 one:b∈B
 nd:B.Nodup
 wb:∀x∈W,x∈B
 gen:∀x∈B,AA act b G x
 tb:t∈B
 out:∀x∈B,x∉W->x≠t->∀g∈G,act x g∈B
 now:∀g∈D,act t g∈B
def Al.start(h:Al act b G B (W++[t])):Am act b G t [] B W where
 one:=h.one
 nd:=h.nd
 wb:=λx hx=>h.wb x (WY _ hx)
 gen:=h.gen
 tb:=h.wb t (WN _ (Ww.mpr rfl))
 out:=λx hx h1 h2=>h.out x hx λz=>(WQ.mp z).elim h1 λz=>h2 (Ww.mp z)
 now:=λ_ h=>nomatch h
def Am.old(h:Am act b G t D B W)(hg:act t g∈B):Am act b G t (D++[g]) B W:=
 ⟨h.one,h.nd,h.wb,h.gen,h.tb,h.out,λx hx=>(WQ.mp hx).elim (h.now x) λz=>by rw[Ww.mp z];exact hg⟩
def Am.new(h:Am act b G t D B W)(hG:g∈G)(hg:act t g∉B):Am act b G t (D++[g]) (B++[act t g]) (W++[act t g]) where
 one:=WY _ h.one
 nd:=by
  rw[XT]
  exact⟨h.nd,by simp,λa ha b hb e=>hg (by rw[<-Ww.mp hb,<-e];exact ha)⟩
 wb:=λx hx=>(WQ.mp hx).elim (λz=>WY _ (h.wb x z)) λz=>WN _ z
 gen:=λx hx=>(WQ.mp hx).elim (h.gen x) λz=>by
  rw[Ww.mp z]
  exact .mul (h.gen t h.tb) hG
 tb:=WY _ h.tb
 out:=λx hx h1 h2 g' Lh=>by
  rcases WQ.mp hx with z|z
  .exact WY _ (h.out x z (λy=>h1 (WY _ y)) h2 g' Lh)
  .exact absurd (WN _ z) h1
 now:=λx hx=>(WQ.mp hx).elim (λz=>WY _ (h.now x z)) λz=>by
  rw[Ww.mp z]
  exact WN _ (Ww.mpr rfl)
def Am.fin[DecidableEq β](h:Am act b G t D B W)(hD:∀g∈G,g∈D):Al act b G B W where
 one:=h.one
 nd:=h.nd
 wb:=h.wb
 gen:=h.gen
 out:=λx hx hw g hg=>by
  by_cases e:x=t
  .rw[e];exact h.now g (hD g hg)
  .exact h.out x hx hw e g hg
def Al.done(h:Al act b G B [])(t:β):t∈B↔AA act b G t:=by
 refine⟨h.gen t,λz=>?_⟩
 induction z with
 |one=>exact h.one
 |mul _ hu ih=>exact h.out _ ih (by simp) _ hu
end
def vA:AA Py.comp (Py.bH s) G t↔Gen (pg s) (· ∈G) t:=by
 constructor
 .intro h
  induction h with
  |one=>exact .one
  |mul _ hu ih=>exact .mul ih hu
 .intro h
  induction h with
  |one=>exact .one
  |mul _ hu ih=>exact .mul ih hu
def AB(hG:∀u∈G,u∈Py.perms s)(h:AA Py.comp (Py.bH s) G t):t∈Py.perms s:=Gen.S ah hG (vA.mp h)
end jv
namespace cu
open Py
noncomputable def d0:Fd:=⟨1,1,(.seq (.ret (.iW .tuple (.u 0))) .skip)⟩
noncomputable def d1:Fd:=⟨2,2,(.seq (.ret (.prim .tuple (.cons (.comp [1] 0 (.it (.var 0)) .nil (.idx (.var 1) (.var 0))) .nil))) .skip)⟩
noncomputable def d2:Fd:=⟨1,1,(.seq (.ret (.prim .tuple (.cons (.comp [0] 0 (.c8 (.cons (.prim .len (.u 0)) .nil)) .nil (.eQ .index (.var 1) (.u 0))) .nil))) .skip)⟩
noncomputable def d3:Fd:=⟨2,5,(.seq (.asg 2 (.var 1)) (.seq (.for [3,4] 2 (.BO (.var 0)) (.seq (.ifs (.qu true (.idx (.var 2) (.var 3)) 4) (.seq (.ret (.var 2)) .skip) .skip) (.seq (.asg 2 (.call 1 (.w 2 (.cons (.call 2 (.cons (.du 4 (.idx (.var 2) (.var 3))) .nil)) .nil)))) .skip))) (.seq (.ret (.var 2)) .skip)))⟩
noncomputable def d4:Fd:=⟨2,5,(.seq (.bV 2 (.lst .nil)) (.seq (.for [3] 0 (.it (.var 0)) (.seq (.for [4] 0 (.dv 3) (.seq (.app 2 (.call 1 (.w 1 (.u 4)))) (.seq (.app 2 (.call 1 (.w 4 (.u 1)))) .skip))) .skip)) (.seq (.ret (.var 2)) .skip)))⟩
noncomputable def d5:Fd:=⟨2,7,(.fst 2 [1] (.c8 (.u 1)) (.var 0) (.call 0 (.u 1)) (.bV 3 (.prim .list (.u 0))) 3 4 3 (.bV 5 (.comp [4] 0 (.c8 (.u 1)) (.cons (.cmp .NotEq (.idx (.var 1) (.var 0)) (.var 0)) .nil) (.var 0))) 5 (.asg 6 (.idx (.var 5) (.c (.int 0)))) (.var 6) (.idx (.var 4) (.var 6)) (.var 4) 4 (.var 4))⟩
noncomputable def d6:Fd:=⟨3,6,(.seq (.asg 3 (.var 2)) (.seq (.for [4] 0 (.it (.sl (.var 0) (.cons (.bin .Add (.var 1) (.c (.int 1))) .nil) .nil)) (.seq (.asg 5 (.prim .min (.cons (.comp [3] 0 (.dk 4) .nil (.idx (.var 1) (.var 0))) .nil))) (.seq (.asg 3 (.call 1 (.cons (.du 4 (.eQ .index (.var 3) (.u 5))) (.u 3)))) .skip))) (.seq (.ret (.var 3)) .skip)))⟩
noncomputable def d7:Fd:=⟨2,3,(.seq (.asg 2 (.idx (.var 0) (.var 1))) (.seq (.ret (.prim .tuple (.cons (.comp [0,1,2] 0 (.it (.dm 2)) .nil (.tup (.w 0 (.cons (.call 6 (.w 1 (.w 2 (.cons (.du 3 (.var 0)) .nil)))) .nil)))) .nil))) .skip))⟩
noncomputable def d8:Fd:=⟨2,3,(.seq (.asg 2 (.call 5 (.w 0 (.u 1)))) (.seq (.ret (.prim .tuple (.cons (.comp [2] 0 (.c8 (.u 1)) .nil (.call 7 (.w 1 (.u 0)))) .nil))) .skip))⟩
noncomputable def d9:Fd:=⟨1,3,(.seq (.asg 1 (.c (.int 1))) (.seq (.for [2] 0 (.it (.var 0)) (.seq (.asg 1 (.bin .Mult (.var 1) (.prim .len (.u 2)))) .skip)) (.seq (.ret (.var 1)) .skip)))⟩
noncomputable def xM:Fd:=⟨1,5,(.seq (.bV 1 (.lst (.cons (.call 0 (.cons (.prim .len (.u 0)) .nil)) .nil))) (.seq (.for [2] 0 (.En (.var 0)) (.seq (.bV 3 (.lst .nil)) (.seq (.for [4] 0 (.it (.var 2)) (.seq (.ext 3 (.comp [4] 0 (.it (.var 1)) .nil (.call 1 (.w 0 (.cons (.idx (.var 1) (.c (.int 1))) .nil))))) .skip)) (.seq (.Er 1 3) .skip)))) (.seq (.ret (.prim .tuple (.cons (.prim .sorted (.u 1)) .nil))) .skip)))⟩
noncomputable def Mf:Fd:=⟨1,3,(.seq (.bV 1 (.lst .nil)) (.seq (.for [2] 0 (.it (.var 0)) (.seq (.ext 1 (.comp [] 0 (.it (.var 2)) .nil (.idx (.var 0) (.c (.int 1))))) .skip)) (.seq (.ret (.prim .tuple (.u 1))) .skip)))⟩
noncomputable def IX:Fd:=⟨2,7,(.seq (.asg 2 (.call 11 (.u 0))) (.seq (.ng 3 0 (.w 1 (.cons (.c (.bl true)) .nil))) (.seq (.bV 4 (.lst (.u 1))) (.seq (.iF 4 (.seq (.pop 5 4) (.seq (.for [6] 0 (.it (.var 2)) (.seq (.ifs (.qu true (.idx (.var 6) (.var 5)) 3) (.seq (.kB 3 (.idx (.var 6) (.var 5)) (.c (.bl true))) (.seq (.app 4 (.idx (.var 6) (.var 5))) .skip)) .skip) .skip)) .skip))) (.seq (.ret (.prim .tuple (.cons (.dm 3) .nil))) .skip)))))⟩
noncomputable def EW:Fd:=⟨1,2,(.seq (.bV 1 (.comp [0] 0 (.c8 (.cons (.prim .len (.u 0)) .nil)) .nil (.call 12 (.w 1 (.u 0))))) (.seq (.ret (.prim .tuple (.cons (.lM [] (.var 1) (.cons (.cmp .Eq (.idx (.var 1) (.c (.int 0))) (.var 0)) .nil) (.var 1)) .nil))) .skip))⟩
noncomputable def IY:Fd:=⟨2,2,(.seq (.ret (.prim .all (.cons (.comp [0] 0 (.it (.var 1)) .nil (.cmp .Eq (.idx (.var 1) (.var 0)) (.var 0))) .nil))) .skip)⟩
noncomputable def EY:Fd:=⟨2,2,(.seq (.ret (.call 8 (.cons (.prim .tuple (.cons (.comp [1] 0 (.it (.call 10 (.u 0))) (.cons (.call 14 (.w 0 (.u 1))) .nil) (.var 0)) .nil)) (.cons (.prim .len (.u 0)) .nil)))) .skip)⟩
noncomputable def Sj:Fd:=⟨2,2,(.seq (.ifs (.cmp .Lt (.var 1) (.prim .len (.u 0))) (.seq (.ret (.idx (.var 0) (.var 1))) .skip) .skip) (.seq (.ret (.c (.int 0))) .skip))⟩
noncomputable def Sl:Fd:=⟨2,3,(.seq (.asg 2 (.bin .Mod (.bin .Mult (.bin .Add (.bin .Add (.call 16 (.w 0 (.u 1))) (.bin .Mult (.c (.int 7919)) (.var 1))) (.c (.int 1))) (.c (.int 48271))) (.c (.int 2147483647)))) (.seq (.ret (.bin .Mod (.bin .Add (.bin .Add (.bin .Mult (.var 2) (.var 2)) (.bin .Mult (.c (.int 7)) (.var 2))) (.var 1)) (.c (.int 2147483629)))) .skip))⟩
noncomputable def Sn:Fd:=⟨2,3,(.seq (.asg 2 (.bin .Mod (.bin .Mult (.bin .Add (.bin .Add (.var 0) (.bin .Mult (.c (.int 104729)) (.var 1))) (.c (.int 17))) (.c (.int 69621))) (.c (.int 2147483647)))) (.seq (.ret (.bin .Mod (.bin .Add (.bin .Add (.bin .Mult (.var 2) (.var 2)) (.bin .Mult (.c (.int 3)) (.var 2))) (.var 1)) (.c (.int 2147483629)))) .skip))⟩
noncomputable def Sr:Fd:=⟨2,10,(.seq (.bV 2 (.iW .list (.u 1))) (.seq (.ifs (.cmp .Eq (.bin .Mod (.var 0) (.c (.int 3))) (.c (.int 0))) (.seq (.asg 3 (.bin .Mod (.bin .FloorDiv (.var 0) (.c (.int 3))) (.var 1))) (.seq (.asg 4 (.bin .Mod (.bin .FloorDiv (.var 0) (.c (.int 18))) (.var 1))) (.seq (.lO 2 (.var 3) (.var 4)) (.seq (.lO 2 (.var 4) (.var 3)) (.seq (.ret (.prim .tuple (.u 2))) .skip))))) .skip) (.seq (.ifs (.cmp .Eq (.bin .Mod (.var 0) (.c (.int 3))) (.c (.int 1))) (.seq (.asg 5 (.bin .Add (.c (.int 1)) (.bin .Mod (.bin .FloorDiv (.var 0) (.c (.int 3))) (.var 1)))) (.seq (.asg 6 (.bin .Mod (.bin .FloorDiv (.var 0) (.c (.int 18))) (.var 1))) (.seq (.for [7] 0 (.c8 (.u 5)) (.seq (.lO 2 (.bin .Mod (.bin .Add (.var 6) (.var 7)) (.var 1)) (.bin .Mod (.bin .Add (.var 6) (.bin .Mod (.bin .Add (.var 7) (.c (.int 1))) (.var 5))) (.var 1))) .skip)) (.seq (.ret (.prim .tuple (.u 2))) .skip)))) .skip) (.seq (.bV 8 (.lst .nil)) (.seq (.for [7] 0 (.c8 (.u 1)) (.seq (.asg 9 (.bin .Mod (.call 18 (.w 0 (.u 7))) (.bin .Add (.prim .len (.u 8)) (.c (.int 1))))) (.seq (.bV 8 (.bin .Add (.bin .Add (.sl (.var 8) .nil (.u 9)) (.lst (.u 7))) (.sl (.var 8) (.u 9) .nil))) .skip))) (.seq (.ret (.prim .tuple (.u 8))) .skip))))))⟩
noncomputable def Ss:Fd:=⟨2,2,(.seq (.ret (.prim .tuple (.cons (.comp [0,1] 0 (.c8 (.cons (.idx (.tup (.cons (.c (.int 1)) (.cons (.c (.int 1)) (.cons (.c (.int 2)) (.cons (.c (.int 2)) (.cons (.c (.int 3)) (.cons (.c (.int 0)) (.cons (.c (.int 6)) .nil)))))))) (.bin .Mod (.var 0) (.c (.int 7)))) .nil)) .nil (.call 19 (.cons (.call 18 (.w 1 (.u 0))) (.u 2)))) .nil))) .skip)⟩
noncomputable def Su:Fd:=⟨2,2,(.seq (.ret (.prim .tuple (.cons (.comp [1] 0 (.it (.var 0)) .nil (.idx (.var 1) (.var 0))) .nil))) .skip)⟩
noncomputable def DF:Fd:=⟨2,8,(.seq (.asg 2 (.iW .tuple (.u 1))) (.seq (.ng 3 1 (.w 2 (.cons (.c (.bl true)) .nil))) (.seq (.bV 4 (.lst (.u 2))) (.seq (.while (.cmp .NotEq (.var 4) (.lst .nil)) (.seq (.pop 5 4) (.seq (.for [6] 0 (.it (.var 0)) (.seq (.asg 7 (.call 21 (.w 5 (.u 6)))) (.seq (.ifs (.qu true (.var 7) 3) (.seq (.kB 3 (.var 7) (.c (.bl true))) (.seq (.app 4 (.var 7)) .skip)) .skip) .skip))) .skip))) (.seq (.ret (.dm 3)) .skip)))))⟩
noncomputable def Ii:Fd:=⟨2,7,(.seq (.bV 2 (.lst .nil)) (.seq (.for [3] 0 (.c8 (.u 1)) (.seq (.bV 4 (.lst .nil)) (.seq (.for [5] 0 (.c8 (.u 1)) (.seq (.bV 6 (.comp [3,5] 0 (.it (.var 0)) (.cons (.wu true (.cons (.cmp .Eq (.sl (.var 0) .nil (.u 1)) (.iW .tuple (.u 1))) (.cons (.cmp .Eq (.idx (.var 0) (.var 1)) (.var 2)) .nil))) .nil) (.var 0))) (.seq (.ifs (.cmp .NotEq (.var 6) (.lst .nil)) (.seq (.app 4 (.tup (.w 5 (.cons (.prim .min (.u 6)) .nil)))) .skip) .skip) .skip))) (.seq (.app 2 (.prim .tuple (.u 4))) .skip)))) (.seq (.ret (.prim .tuple (.u 2))) .skip)))⟩
noncomputable def Ij:Fd:=⟨1,11,(.seq (.asg 1 (.bin .Add (.c (.int 1)) (.bin .Mod (.call 17 (.w 0 (.cons (.c (.int 0)) .nil))) (.c (.int 5))))) (.seq (.asg 2 (.call 20 (.cons (.call 17 (.w 0 (.cons (.c (.int 1)) .nil))) (.u 1)))) (.seq (.asg 3 (.call 8 (.w 2 (.u 1)))) (.seq (.asg 4 (.call 22 (.w 2 (.u 1)))) (.seq (.bV 5 (.lst .nil)) (.seq (.for [6] 0 (.c8 (.u 1)) (.seq (.asg 7 (.prim .tuple (.cons (.sset (.comp [6] 0 (.it (.var 4)) .nil (.idx (.var 0) (.var 1)))) .nil))) (.seq (.ifs (.cmp .NotEq (.call 12 (.w 3 (.u 6))) (.var 7)) (.seq (.ret (.c (.bl false))) .skip) .skip) (.seq (.ifs (.cmp .Eq (.idx (.var 7) (.c (.int 0))) (.var 6)) (.seq (.app 5 (.var 7)) .skip) .skip) .skip)))) (.seq (.ifs (.cmp .NotEq (.call 13 (.u 3)) (.prim .tuple (.u 5))) (.seq (.ret (.c (.bl false))) .skip) .skip) (.seq (.asg 8 (.prim .tuple (.cons (.comp [0,1] 0 (.c8 (.cons (.bin .Mod (.call 17 (.w 0 (.cons (.c (.int 2)) .nil))) (.c (.int 4))) .nil)) .nil (.bin .Mod (.call 17 (.w 1 (.cons (.bin .Add (.c (.int 3)) (.var 0)) .nil))) (.var 2))) .nil))) (.seq (.bV 9 (.comp [8] 0 (.it (.var 4)) (.cons (.cmp .Eq (.comp [0] 0 (.it (.var 1)) (.cons (.cmp .NotEq (.idx (.var 1) (.var 0)) (.var 0)) .nil) (.var 0)) (.lst .nil)) .nil) (.var 0))) (.seq (.ifs (.cmp .NotEq (.call 15 (.w 3 (.u 8))) (.call 23 (.w 9 (.u 1)))) (.seq (.ret (.c (.bl false))) .skip) .skip) (.seq (.asg 10 (.bin .Mod (.bin .FloorDiv (.call 17 (.w 0 (.cons (.c (.int 2)) .nil))) (.c (.int 4))) (.var 1))) (.seq (.ret (.cmp .Eq (.bin .Mult (.call 9 (.cons (.call 15 (.w 3 (.cons (.tup (.u 10)) .nil))) .nil)) (.prim .len (.cons (.call 12 (.w 3 (.u 10))) .nil))) (.prim .len (.u 4)))) .skip))))))))))))⟩
noncomputable def T:List Fd:=[d0,d1,d2,d3,d4,d5,d6,d7,d8,d9,xM,Mf,IX,EW,IY,EY,Sj,Sl,Sn,Sr,Ss,Su,DF,Ii,Ij]
open jv
noncomputable abbrev kR(R:Rg (List Int)):List (List Int):=R.map λe=>[(e.1:Int)]
noncomputable abbrev vR(R:Rg (List Int)):List D:=R.map λe=>tp e.2
noncomputable def aq(R:Rg (List Int)):D:= .bM 0 (kR R) (vR R)
theorem gX:∀(R:Rg (List Int)) (k:Nat),iE (kR R) (vR R) [(k:Int)]=(ij R k).map tp
 |[],k=>rfl
 |e::R,k=>by
  show iE ([(e.1:Int)]::kR R) (tp e.2::vR R) [(k:Int)]=_
  rw[iE]
  unfold ij
  rw[Yr]
  by_cases h:e.1=k
  .subst h
   rw[WO rfl]
   simp
  .have h':¬([(e.1:Int)]=[(k:Int)]):=λz=>h (by injection z with z _;lia)
   rw[WV h',gX R k]
   have:(e.1==k)=false:=by simp[h]
   rw[this]
   rfl
def AD{R:Rg (List Int)}{k:Nat}:[(k:Int)]∈kR R↔ij R k≠none:=by
 constructor
 .intro h z
  refine ae (WD.mp h) λe he hk=>?_
  have:e.1=k:=by injection hk with hk _;lia
  exact j6 z (WD.mpr ⟨e,he,this⟩)
 .intro h
  cases z:ij R k with
  |none=>exact absurd z h
  |some u=>exact WD.mpr ⟨_,fy z,rfl⟩
section
variable {s:Nat}{F:FT}
def fP{t:List Int}(ht:t∈perms s){k:Nat}(hk:k<s):item (tp t) (.int k)=some (.int ((pg s).im t k:Nat)):=by
 rw[vn (by lia) (by rw[aB ht];lia)]
 show some (D.int (t.getD (k:Int).toNat 0))=_
 rw[Xz,iz ht hk]
def kZ(a b:Nat):((a:Int)==(b:Int))=decide (a=b):=by
 by_cases h:a=b
 .rw[h,decide_eq_true rfl];exact beq_self_eq_true _
 .rw[decide_eq_false h];exact beq_eq_false_iff_ne.mpr λz=>h (by lia)
theorem VL.len{Y:Pg (List Int)}:∀{l:List (Rg (List Int))}{i:Nat},VL Y l i->i+l.length=Y.n
 |[],i,h=>h
 |R::l,i,h=>by
  have:=VL.len h.2.2
  rw[WM]
  lia
noncomputable abbrev lo1:C:=(.seq (.ifs (.qu true (.idx (.var 2) (.var 3)) 4) (.seq (.ret (.var 2)) .skip) .skip) (.seq (.asg 2 (.call 1 (.w 2 (.cons (.call 2 (.cons (.du 4 (.idx (.var 2) (.var 3))) .nil)) .nil)))) .skip))
noncomputable abbrev LE(x0 x1:Option (Bool×D))(t:List Int)(x3 x4:Option (Bool×D)):Env:=[x0,x1,some (false,tp t),x3,x4]
def DG(ht:∀p∈perms s,∀q∈perms s,F 1 [tp p,tp q]=some (tp (comp p q)))(hb:∀p∈perms s,F 2 [tp p]=some (tp (ip p))){x0 x1 x3 x4:Option (Bool×D)}{t:List Int}{i:Nat}{R:Rg (List Int)}(hi:i<s)(hv:V (pg s) i R)(hp:t∈perms s):
  ex F lo1 (LE x0 x1 t (some (false,.int i)) (some (false,aq R)))=match ij R ((pg s).im t i)with
   |some u=>some (.next (LE x0 x1 (comp t (ip u)) (some (false,.int i)) (some (false,aq R))))
   |none=>some (.ret (tp t)):=by
 have DH:∀b,ev F b (.idx (.var 2) (.var 3)) (LE x0 x1 t (some (false,.int i)) (some (false,aq R)))=some (.int ((pg s).im t i:Nat)):=λb=>fP hp hi
 have DI:ev F false (.qu true (.idx (.var 2) (.var 3)) 4) (LE x0 x1 t (some (false,.int i)) (some (false,aq R)))=some (.bl (!decide ([((pg s).im t i:Int)]∈kR R))):=by
  rw[J3,DH]
  rfl
 cases e:ij R ((pg s).im t i)with
 |none=>
  have hn:¬[((pg s).im t i:Int)]∈kR R:=λz=>AD.mp z e
  rw[decide_eq_false hn]at DI
  rw[br,f7,DI]
  rfl
 |some u=>
  have hn:[((pg s).im t i:Int)]∈kR R:=AD.mpr (by rw[e];simp)
  rw[decide_eq_true hn]at DI
  have hu:u∈perms s:=(hv.st _ _ (fy e)).1
  have AF:ev F true (.du 4 (.idx (.var 2) (.var 3))) (LE x0 x1 t (some (false,.int i)) (some (false,aq R)))=some (tp u):=by
   rw[J0,DH]
   show iE (kR R) (vR R) [((pg s).im t i:Int)]=_
   rw[gX,e]
   rfl
  have Vr:ev F true (.call 2 (.cons (.du 4 (.idx (.var 2) (.var 3))) .nil)) (LE x0 x1 t (some (false,.int i)) (some (false,aq R)))=some (tp (ip u)):=aM (dX AF) (hb u hu) (aF _)
  have Qp:ev F false (.call 1 (.w 2 (.cons (.call 2 (.cons (.du 4 (.idx (.var 2) (.var 3))) .nil)) .nil))) (LE x0 x1 t (some (false,.int i)) (some (false,aq R)))=some (tp (comp t (ip u))):=aM (dg rfl Vr) (ht t hp _ (jt hu)) (aF _)
  rw[br,f7,DI]
  show(ex F (.seq (.asg 2 _) .skip) _)=_
  rw[br,aT Qp]
  rfl
theorem vB(ht:∀p∈perms s,∀q∈perms s,F 1 [tp p,tp q]=some (tp (comp p q)))(hb:∀p∈perms s,F 2 [tp p]=some (tp (ip p))){x0 x1:Option (Bool×D)}:∀{l:List (Rg (List Int))}{i:Nat}{t:List Int}{x3 x4:Option (Bool×D)},VL (pg s) l i->t∈perms s->
  ∃o,aE (λx ρ=>(aA 2 x).bind λys=>(cI ρ [3,4] ys).bind λρ'=>ex F lo1 ρ') (aJ i (l.map aq)) (LE x0 x1 t x3 x4)=some o/\(o= .ret (tp (dh (pg s) l i t))\/∃y3 y4,o= .next (LE x0 x1 (dh (pg s) l i t) y3 y4))
 |[],i,t,x3,x4,_,_=>⟨_,rfl,.inr ⟨x3,x4,rfl⟩⟩
 |R::l,i,t,x3,x4,hv,hp=>by
  have hi:i<s:=hv.2.1
  have h1:=DG (x0:=x0) (x1:=x1) (x3:=x3) (x4:=x4) ht hb hi hv.1 hp
  show∃o,aE _ (.tup [.int i,aq R]::aJ ((i:Int)+1) (l.map aq)) _=some o/\_
  rw[aE]
  show∃o,(ex F lo1 (LE x0 x1 t (some (false,.int i)) (some (false,aq R)))).bind _=some o/\_
  rw[h1]
  unfold dh
  cases e:ij R ((pg s).im t i)with
  |none=>exact⟨_,rfl,.inl rfl⟩
  |some u=>
   have hu:u∈perms s:=(hv.1.st _ _ (fy e)).1
   have:=vB ht hb (x0:=x0) (x1:=x1) (l:=l) (i:=i+1) (t:=comp t (ip u)) (x3:=some (false,.int i)) (x4:=some (false,aq R)) hv.2.2 (gW hp (jt hu))
   rw[show(((i+1:Nat):Int))=(i:Int)+1 by lia]at this
   exact this
def DJ(ht:∀p∈perms s,∀q∈perms s,F 1 [tp p,tp q]=some (tp (comp p q)))(hb:∀p∈perms s,F 2 [tp p]=some (tp (ip p))){l:List (Rg (List Int))}{t:List Int}(hv:VL (pg s) l 0)(hp:t∈perms s):
  out (ex F d3.body (ai d3 [.lst (l.map aq),tp t]))=some (tp (dh (pg s) l 0 t)):=by
 refine ae (vB ht hb (x0:=some (false,.lst (l.map aq))) (x1:=some (false,tp t)) (x3:=none) (x4:=none) hv hp) λo h1 h2=>?_
 have hf:ex F (.for [3,4] 2 (.BO (.var 0)) lo1) (LE (some (false,.lst (l.map aq))) (some (false,tp t)) t none none)=some o:=h1
 have hx:ex F d3.body (ai d3 [.lst (l.map aq),tp t])=(ex F (.for [3,4] 2 (.BO (.var 0)) lo1) (LE (some (false,.lst (l.map aq))) (some (false,tp t)) t none none)).bind λo=>match o with
   | .next ρ'=>ex F (.seq (.ret (.var 2)) .skip) ρ'
   |o=>some o:=rfl
 rw[hx,hf]
 rcases h2 with rfl|⟨y3,y4,rfl⟩
 .rfl
 .rfl
noncomputable def nC(r:List Int)(R:Rg (List Int)):List (List Int):=R.flatMap λe=>[comp r e.2,comp e.2 r]
noncomputable def bA(r:List Int)(l:List (Rg (List Int))):List (List Int):=l.flatMap (nC r)
theorem jw(r:List Int):∀R:Rg (List Int),(nC r R).length =2*R.length
 |[]=>rfl
 |e::R=>by
  show([comp r e.2,comp e.2 r]++nC r R).length =_
  rw[WC,jw r R,WM]
  simp
  lia
noncomputable abbrev PE(x0:Option (Bool×D))(r:List Int)(acc:List (List Int))(x3 x4:Option (Bool×D)):Env:=[x0,some (false,tp r),some (true,.lst (acc.map tp)),x3,x4]
noncomputable abbrev Mi:C:=(.seq (.app 2 (.call 1 (.w 1 (.u 4)))) (.seq (.app 2 (.call 1 (.w 4 (.u 1)))) .skip))
noncomputable abbrev Mj:C:=(.seq (.for [4] 0 (.dv 3) Mi) .skip)
def dZ(h:ev F false e ρ=some d)(hi:ρ[i]?=some (some (true,.lst xs)))(hl:xs.length<ba):ex F (.app i e) ρ=some (.next (put ρ i true (.lst (xs++[d])))):=by
 rw[OB,h]
 show(match ρ[i]? with
  |some (some (true,.lst xs))=>if xs.length<ba then some (il.next (put ρ i true (.lst (xs++[d])))) else none
  |_=>none)=_
 rw[hi]
 exact WO hl
def DK(ht:∀p∈perms s,∀q∈perms s,F 1 [tp p,tp q]=some (tp (comp p q)))(hr:r∈perms s)(hu:u∈perms s)(hl:acc.length+2<=10000):
  ex F Mi (PE x0 r acc x3 (some (false,tp u)))=some (.next (PE x0 r (acc++[comp r u,comp u r]) x3 (some (false,tp u)))):=by
 have h1:ev F false (.call 1 (.w 1 (.u 4))) (PE x0 r acc x3 (some (false,tp u)))=some (tp (comp r u)):=aM (dg rfl rfl) (ht r hr u hu) (aF _)
 have h2:ev F false (.call 1 (.w 4 (.u 1))) (PE x0 r (acc++[comp r u]) x3 (some (false,tp u)))=some (tp (comp u r)):=aM (dg rfl rfl) (ht u hu r hr) (aF _)
 have e1:acc.map tp++[tp (comp r u)]=(acc++[comp r u]).map tp:=by rw[W4];rfl
 have e2:(acc++[comp r u]).map tp++[tp (comp u r)]=(acc++[comp r u,comp u r]).map tp:=by rw[W4,W4];simp
 have dO:ba=16777216:=rfl
 have s1:ex F (.app 2 (.call 1 (.w 1 (.u 4)))) (PE x0 r acc x3 (some (false,tp u)))=some (.next (PE x0 r (acc++[comp r u]) x3 (some (false,tp u)))):=by
  rw[dZ h1 (xs:=acc.map tp) rfl (by rw[Wr];lia),e1]
  rfl
 have s2:ex F (.app 2 (.call 1 (.w 4 (.u 1)))) (PE x0 r (acc++[comp r u]) x3 (some (false,tp u)))=some (.next (PE x0 r (acc++[comp r u,comp u r]) x3 (some (false,tp u)))):=by
  rw[dZ h2 (xs:=(acc++[comp r u]).map tp) rfl (by rw[Wr,WC,WR];lia),e2]
  rfl
 rw[br,s1]
 show ex F (.seq (.app 2 _) .skip) _=_
 rw[br,s2]
 rfl
theorem EZ(ht:∀p∈perms s,∀q∈perms s,F 1 [tp p,tp q]=some (tp (comp p q)))(hr:r∈perms s):∀{R:Rg (List Int)}{acc:List (List Int)}{x4:Option (Bool×D)},(∀e∈R,e.2∈perms s)->acc.length+2*R.length<=10000->
  ∃y4,aE (λx ρ=>(aA 0 x).bind λys=>(cI ρ [4] ys).bind λρ'=>ex F Mi ρ') (vR R) (PE x0 r acc x3 x4)=some (.next (PE x0 r (acc++nC r R) x3 y4))
 |[],acc,x4,_,_=>⟨x4,by show some (il.next _)=_;rw[show nC r []=[] from rfl,W9]⟩
 |e::R,acc,x4,h,hl=>by
  rw[WM]at hl
  have hu:=h e Wx
  obtain⟨y4,ih⟩:=EZ ht (x0:=x0) (x3:=x3) hr (R:=R) (acc:=acc++[comp r e.2,comp e.2 r]) (x4:=some (false,tp e.2)) (λe' xm=>h e' (Wu _ xm)) (by rw[WC];simp;lia)
  refine⟨y4,?_⟩
  show aE _ (tp e.2::vR R) _=_
  rw[aE]
  show(ex F Mi (PE x0 r acc x3 (some (false,tp e.2)))).bind _=_
  rw[DK ht hr hu (by lia)]
  show aE _ (vR R) _=_
  rw[ih,WZ]
  rfl
theorem AG(ht:∀p∈perms s,∀q∈perms s,F 1 [tp p,tp q]=some (tp (comp p q)))(hr:r∈perms s):∀{l:List (Rg (List Int))}{acc:List (List Int)}{x3 x4:Option (Bool×D)},(∀R∈l,∀e∈R,e.2∈perms s)->acc.length+(bA r l).length <=10000->
  ∃y3 y4,aE (λx ρ=>(aA 0 x).bind λys=>(cI ρ [3] ys).bind λρ'=>ex F Mj ρ') (l.map aq) (PE x0 r acc x3 x4)=some (.next (PE x0 r (acc++bA r l) y3 y4))
 |[],acc,x3,x4,_,_=>⟨x3,x4,by show some (il.next _)=_;rw[show bA r []=[] from rfl,W9]⟩
 |R::l,acc,x3,x4,h,hl=>by
  have e0:bA r (R::l)=nC r R++bA r l:=rfl
  rw[e0,WC,jw]at hl
  obtain⟨z4,i1⟩:=EZ ht (x0:=x0) (x3:=some (false,aq R)) hr (R:=R) (acc:=acc) (x4:=x4) (h R Wx) (by lia)
  refine D5 (AG ht (x0:=x0) hr (l:=l) (acc:=acc++nC r R) (x3:=some (false,aq R)) (x4:=z4) (λR' Qr=>h R' (Wu _ Qr)) (by rw[WC,jw];lia)) λy3 y4 ih=>⟨y3,y4,?_⟩
  have hb:ex F Mj (PE x0 r acc (some (false,aq R)) x4)=some (.next (PE x0 r (acc++nC r R) (some (false,aq R)) z4)):=by
   have:ex F (.for [4] 0 (.dv 3) Mi) (PE x0 r acc (some (false,aq R)) x4)=some (.next (PE x0 r (acc++nC r R) (some (false,aq R)) z4)):=i1
   rw[br,this]
   rfl
  rw[WJ,aE]
  show(ex F Mj (PE x0 r acc (some (false,aq R)) x4)).bind _=_
  rw[hb]
  show aE _ (l.map aq) _=_
  rw[ih,e0,WZ]
def DL(ht:∀p∈perms s,∀q∈perms s,F 1 [tp p,tp q]=some (tp (comp p q)))(hr:r∈perms s)(h:∀R∈l,∀e∈R,e.2∈perms s)(hl:(bA r l).length <=10000):
  out (ex F d4.body (ai d4 [.lst (l.map aq),tp r]))=some (.lst ((bA r l).map tp)):=by
 refine D5 (AG ht (x0:=some (false,.lst (l.map aq))) hr (l:=l) (acc:=[]) (x3:=none) (x4:=none) h (by simpa using hl)) λy3 y4 h1=>?_
 have hf:ex F (.for [3] 0 (.it (.var 0)) Mj) (PE (some (false,.lst (l.map aq))) r [] none none)=some (.next (PE (some (false,.lst (l.map aq))) r (bA r l) y3 y4)):=h1
 have hx:ex F d4.body (ai d4 [.lst (l.map aq),tp r])=(ex F (.for [3] 0 (.it (.var 0)) Mj) (PE (some (false,.lst (l.map aq))) r [] none none)).bind λo=>match o with
   | .next ρ'=>ex F (.seq (.ret (.var 2)) .skip) ρ'
   |o=>some o:=rfl
 rw[hx,hf]
 rfl
end
end cu
namespace jv
section
variable {α:Type}{Y:Pg α}
theorem k7(hM:cy Y M):∀{l:List (Rg α)}{i:Nat}{t:α},(∀u,St l u->M u)->M t->M (dh Y l i t)
 |[],_,_,_,h=>h
 |R::l,i,t,hs,h=>by
  unfold dh
  cases e:ij R (Y.im t i)with
  |none=>exact h
  |some u=>exact k7 hM (λv ⟨R',hR,q⟩=>hs v ⟨R',Wu _ hR,q⟩) (hM.mul _ _ h (hM.inv _ (hs u ⟨R,Wx,_,fy e⟩)))
theorem vD:∀{l:List (Rg α)}{k:Nat}{R:Rg α},l[k]?=some R->add l k x=l.set k (R++[x])
 |[],_,_,h=>by simp at h
 |R::l,0,_,h=>by simp at h;subst h;rfl
 |R::l,k+1,R',h=>by
  show R::add l k x=R::l.set k (R'++[x])
  rw[vD (by simpa using h)]
noncomputable def cnt:List (Rg α)->Nat
 |[]=>0
 |R::l=>R.length+cnt l
theorem vE:∀{l:List (Rg α)}{k:Nat}{R:Rg α},l[k]?=some R->cnt (add l k x)=cnt l+1
 |[],_,_,h=>by simp at h
 |R::l,0,_,h=>by
  show(R++[x]).length+cnt l=R.length+cnt l+1
  rw[WC,WR];lia
 |R::l,k+1,R',h=>by
  show R.length+cnt (add l k x)=R.length+cnt l+1
  rw[vE (by simpa using h)];lia
def tU{l:List Nat}{n:Nat}(nd:l.Nodup)(h:∀k∈l,k<n):l.length<=n:=by
 have:(l.map λk:Nat=>(k:Int)).length <=n:=Py.pU n _ (by
  rw[Xc,Xk]
  exact nd.imp λh e=>h (by lia)) λx hx=>by
   refine ae (WD.mp hx) λk hk aj=>?_
   subst aj
   have:=h k hk
   lia
 rwa [Wr]at this
theorem pX(L:gJ Y):∀{l:List (Rg α)}{i:Nat},VL Y l i->cnt l<=l.length*Y.n
 |[],_,_=>by simp[cnt]
 |R::l,i,⟨hv,hi,hl⟩=>by
  have h1:R.length<=Y.n:=by
   have:=tU hv.nd (n:=Y.n) λp hp=>by
    refine ae (WD.mp hp) λe he aj=>?_
    subst aj
    refine cU (hv.st e.1 e.2 he) λs1 _ s3=>?_
    rw[<-s3]
    exact L.fx s1 hi
   rwa [Wr]at this
  have:=pX L hl
  show R.length+cnt l<=(l.length+1)*Y.n
  rw[Nat.add_mul]
  lia
end
end jv
namespace cu
open Py jv
section
variable {s:Nat}{F:FT}
theorem j7(r:List Int):∀l:List (Rg (List Int)),(bA r l).length =2*cnt l
 |[]=>rfl
 |R::l=>by
  show(nC r R++bA r l).length =2*(R.length+cnt l)
  rw[WC,jw,j7 r l];lia
def xo(h:St l u):comp u r∈bA r l/\comp r u∈bA r l:=by
 obtain⟨R,hR,p,hp⟩:=h
 have h1:∀x,x∈[comp r u,comp u r]->x∈bA r l:=λx hx=>XC.mpr ⟨R,hR,XC.mpr ⟨(p,u),hp,hx⟩⟩
 exact⟨h1 _ (by simp),h1 _ (by simp)⟩
def AH(hM:cy (pg s) M)(hr:M r)(hs:∀u,St l u->M u):∀x∈bA r l,M x:=λx hx=>by
 refine ae (XC.mp hx) λR hR hx=>ae (XC.mp hx) λe he hx=>?_
 have hu:=hs e.2 ⟨R,hR,e.1,he⟩
 rcases WG.mp hx with z|z
 .rw[z];exact hM.mul _ _ hr hu
 .rw[Ww.mp z];exact hM.mul _ _ hu hr
noncomputable def j8(s:Nat)(r:List Int):List Nat:=(List.range s).filter λk=>decide ((pg s).im r k≠k)
noncomputable abbrev FE(x0:Option (Bool×D))(s:Nat)(W:List (List Int))(x4 x5 x6:Option (Bool×D)):Env:=[x0,some (false,.int s),some (true,sT),some (true,.lst (W.map tp)),x4,x5,x6]
noncomputable abbrev Np:C:=(.bV 5 (.comp [4] 0 (.c8 (.u 1)) (.cons (.cmp .NotEq (.idx (.var 1) (.var 0)) (.var 0)) .nil) (.var 0)))
def b_(n:Nat):bB 0 n=(List.range n).map λ(k:Nat)=>D.int (k:Int):=by
 rw[dU]
 unfold bH
 rw[W6]
 rfl
def E1(h6:s<=6)(hr:r∈perms s):ex F Np (FE x0 s W (some (false,tp r)) x5 x6)=some (.next (FE x0 s W (some (false,tp r)) (some (true,.lst ((j8 s r).map λ(k:Nat)=>D.int (k:Int)))) x6)):=by
 have hc:ev F false (.comp [4] 0 (.c8 (.u 1)) (.cons (.cmp .NotEq (.idx (.var 1) (.var 0)) (.var 0)) .nil) (.var 0)) (FE x0 s W (some (false,tp r)) x5 x6)=some (.lst ((j8 s r).map λ(k:Nat)=>D.int (k:Int))):=by
  have dO:ba=16777216:=rfl
  have Qs:(cv F false (.u 1) (FE x0 s W (some (false,tp r)) x5 x6)).bind cM=some (bB 0 s):=bP (by lia)
  rw[gI Qs (by rw[dY];lia)]
  have hw:walk (fu F [4] (.cons (.cmp .NotEq (.idx (.var 1) (.var 0)) (.var 0)) .nil) (.var 0) (FE x0 s W (some (false,tp r)) x5 x6)) (bB 0 s)=some ((bB 0 s).filter λd=>match d with
    | .int k=>decide ((pg s).im r k.toNat≠k.toNat)
    |_=>false):=by
   refine kq _ λx hx=>ae (rQ hx) λk hk aj=>?_
   subst aj
   have hi:ev F true (.idx (.var 1) (.var 0)) [some (false,.int k),some (false,tp r)]=some (.int ((pg s).im r k:Nat)):=fP hr hk
   have Vs:ev F false (.cmp .NotEq (.idx (.var 1) (.var 0)) (.var 0)) [some (false,.int k),some (false,tp r)]=some (.bl (decide ((pg s).im r k≠k))):=by
    rw[nh,hi]
    show some (D.bl (!(((pg s).im r k:Nat):Int)==(k:Int)))=_
    rw[kZ,<-decide_not]
   show((fG F true (.cons (.cmp .NotEq (.idx (.var 1) (.var 0)) (.var 0)) .nil) [some (false,.int k),some (false,tp r)]).bind λk'=>if k' then some (some (D.int k)) else some none)=_
   rw[fG,Vs]
   show((if decide ((pg s).im r k≠k)=true then fG F true .nil _ else some (decide ((pg s).im r k≠k))).bind _)=some (if decide ((pg s).im r (k:Int).toNat ≠(k:Int).toNat)=true then some (D.int k) else none)
   rw[Xz]
   cases decide ((pg s).im r k≠k)<;>rfl
  rw[hw,b_,List.filter_map]
  rfl
 rw[oZ,hc]
 rfl
def rU(hk:k<s)(hf:iK (pg s) r k)(hm:(pg s).im r k≠k):∃bK,j8 s r=k::bK:=by
 unfold j8
 obtain⟨m,hs⟩:∃m,s=k+(m+1):=⟨s-k-1,by lia⟩
 have e:List.range s=List.range k++k::(List.range m).map λj=>k+(j+1):=by
  rw[hs,List.range_add,List.range_succ_eq_map,WJ,W6]
  rfl
 have e1:(List.range k).filter (λj=>decide ((pg s).im r j≠j))=[]:=by
  rw[aac]
  intro j hj
  have:=hf j (W7.mp hj)
  simp[this]
 rw[e,List.filter_append,e1,XJ,X_,WO (by simp[hm])]
 exact⟨_,rfl⟩
def tW(hs:0<=s):j8 s (bH s)=[]:=by
 unfold j8
 rw[aac]
 intro j hj
 have:(pg s).im (bH s) j=j:=ah.aY (Y:=pg s) (W7.mp hj)
 simp[this]
end
noncomputable abbrev Qt:C:=(.asg 6 (.idx (.var 5) (.c (.int 0))))
section
variable {s:Nat}{F:FT}
noncomputable abbrev DM(F:FT):List D->Env->List D->Option (List D×Env):=iY F 2 3 4 3 (ex F Np) 5 (ex F Qt) (ev F false (.var 6)) (ev F false (.idx (.var 4) (.var 6))) (ev F false (.var 4)) 4 (ev F false (.var 4))
def DN(h:l[k]?=some R):(l.map aq).set k (.bM 0 (kR R++[[(x.1:Int)]]) (vR R++[tp x.2]))=(add l k x).map aq:=by
 rw[vD h,List.map_set]
 congr 1
 unfold aq kR vR
 rw[W4,W4]
 rfl
def xp(h6:s<=6){l:List (Rg (List Int))}(hl:F 3 [.lst (l.map aq),tp t]=some (tp (bH s))){x0 x4 x5 x6:Option (Bool×D)}{W:List (List Int)}:
  DM F (l.map aq) (FE x0 s (W++[t]) x4 x5 x6) ((W++[t]).map tp)=some (l.map aq,FE x0 s W (some (false,tp (bH s))) (some (true,.lst [])) x6):=by
 have e1:((W++[t]).map tp).getLast? =some (tp t):=by rw[W4];simp
 have e2:((W++[t]).map tp).dropLast =W.map tp:=by rw[W4];simp
 have hc:=E1 (F:=F) h6 (x0:=x0) (x5:=x5) (x6:=x6) (W:=W) (dW s)
 rw[tW (XF _)]at hc
 unfold DM iY
 rw[e1,e2]
 show((F 3 [.lst (l.map aq),tp t]).bind _)=_
 rw[hl]
 show(if(ay (tp t)&&ay (tp (bH s)))=true then(ex F Np (FE x0 s W (some (false,tp (bH s))) x5 x6)).bind _ else none)=_
 rw[aF,aF,aaD,WO rfl,hc]
 rfl
def xt(h6:s<=6)(hl:F 3 [.lst (l.map aq),tp t]=some (tp r))(hr:r∈perms s)(hk:k<s)(hR:l[k]?=some R)(hf:iK (pg s) r k)(hm:(pg s).im r k≠k)(hn:(pg s).im r k∉R.map (·.1))(Wg:R.length<=6)
  (hg:F 4 [.lst ((add l k ((pg s).im r k,r)).map aq),tp r]=some (.lst ((bA r (add l k ((pg s).im r k,r))).map tp))) (hW:W.length+(bA r (add l k ((pg s).im r k,r))).length <=10000):
  ∃y4 y5 y6,DM F (l.map aq) (FE x0 s (W++[t]) x4 x5 x6) ((W++[t]).map tp)=some ((add l k ((pg s).im r k,r)).map aq,FE x0 s (W++bA r (add l k ((pg s).im r k,r))) y4 y5 y6):=by
 have e1:((W++[t]).map tp).getLast? =some (tp t):=by rw[W4];simp
 have e2:((W++[t]).map tp).dropLast =W.map tp:=by rw[W4];simp
 have hc:=E1 (F:=F) h6 (x0:=x0) (x5:=x5) (x6:=x6) (W:=W) hr
 obtain⟨bK,Vt⟩:=rU hk hf hm
 rw[Vt]at hc
 have dO:ba=16777216:=rfl
 have Nq:k<l.length:=(WK.mp hR).1
 have zE:yw (l.map aq) k [((pg s).im r k:Int)] (tp r)=some ((add l k ((pg s).im r k,r)).map aq):=by
  unfold yw
  rw[WI,hR]
  show(if(kR R).length<ba/\[((pg s).im r k:Int)]∉kR R then some ((l.map aq).set k (.bM 0 (kR R++[[((pg s).im r k:Int)]]) (vR R++[tp r]))) else none)=_
  have Vu:[((pg s).im r k:Int)]∉kR R:=λz=>by
   refine ae (WD.mp z) λe he hq=>?_
   have:e.1=(pg s).im r k:=by injection hq with hq _;lia
   exact hn (WD.mpr ⟨e,he,this⟩)
  rw[WO ⟨by rw[Wr];lia,Vu⟩]
  exact congrArg some (DN (x:=((pg s).im r k,r)) hR)
 have jG:place (l.map aq).length (k:Int)=some k:=by
  unfold place
  rw[Wr,WO (by lia),WO (by lia)]
  rfl
 have Qu:∀Sv,ev F false (.idx (.var 4) (.var 6)) (FE x0 s W (some (false,tp r)) Sv (some (false,.int k)))=some (.int ((pg s).im r k:Nat)):=λSv=>fP hr hk
 have Vv:ex F Qt (FE x0 s W (some (false,tp r)) (some (true,.lst ((k::bK).map λ(k:Nat)=>D.int (k:Int)))) x6)=some (.next (FE x0 s W (some (false,tp r)) (some (true,.lst ((k::bK).map λ(k:Nat)=>D.int (k:Int)))) (some (false,.int k)))):=by
  have hi:ev F false (.idx (.var 5) (.c (.int 0))) (FE x0 s W (some (false,tp r)) (some (true,.lst ((k::bK).map λ(k:Nat)=>D.int (k:Int)))) x6)=some (.int k):=by
   show((place ((k::bK).map λ(k:Nat)=>D.int (k:Int)).length 0).bind λj=>((k::bK).map λ(k:Nat)=>D.int (k:Int))[j]?)=_
   unfold place
   rw[WO (by lia),WO (by rw[Wr,WM];lia)]
   rfl
  rw[aT hi]
  rfl
 refine⟨some (false,tp r),some (true,.lst ((k::bK).map λ(k:Nat)=>D.int (k:Int))),some (false,.int k),?_⟩
 unfold DM iY
 rw[e1,e2]
 show((F 3 [.lst (l.map aq),tp t]).bind _)=_
 rw[hl]
 show(if(ay (tp t)&&ay (tp r))=true then(ex F Np (FE x0 s W (some (false,tp r)) x5 x6)).bind _ else none)=_
 rw[aF,aF,aaD,WO rfl,hc]
 show((ex F Qt (FE x0 s W (some (false,tp r)) (some (true,.lst ((k::bK).map λ(k:Nat)=>D.int (k:Int)))) x6)).bind _)=_
 rw[Vv]
 show(if ay (tp r)=true then _ else none)=_
 rw[aF,WO rfl]
 show((place (l.map aq).length (k:Int)).bind _)=_
 rw[jG]
 show(((ev F false (.idx (.var 4) (.var 6)) (FE x0 s W (some (false,tp r)) (some (true,.lst ((k::bK).map λ(k:Nat)=>D.int (k:Int)))) (some (false,.int k)))).bind (de 0)).bind _)=_
 rw[Qu]
 show((yw (l.map aq) k [((pg s).im r k:Int)] (tp r)).bind _)=_
 rw[zE]
 show(if ay (tp r)=true then(F 4 [.lst ((add l k ((pg s).im r k,r)).map aq),tp r]).bind _ else none)=_
 rw[aF,WO rfl,hg]
 have nl:aV ((bA r (add l k ((pg s).im r k,r))).map tp)=true:=by
  have:∀ps:List (List Int),aV (ps.map tp)=true:=λps=>by
   induction ps with
   |nil=>rfl
   |cons p ps ih=>show(ay (tp p)&&aV (ps.map tp))=true;rw[aF,ih];rfl
  exact this _
 show(if aV ((bA r (add l k ((pg s).im r k,r))).map tp)=true then(if(W.map tp).length+((bA r (add l k ((pg s).im r k,r))).map tp).length <=ba then _ else none) else none)=_
 rw[nl,WO rfl,WO (by rw[Wr,Wr];lia),<-W4]
 rfl
theorem VL.at:∀{l:List (Rg (List Int))}{i k:Nat}{R:Rg (List Int)},VL Y l i->l[k]?=some R->V Y (i+k) R
 |[],_,_,_,_,h=>by simp at h
 |R::l,i,0,_,hv,h=>by simp at h;subst h;exact hv.1
 |R::l,i,k+1,R',hv,h=>by
  have:=VL.at hv.2.2 (k:=k) (R:=R') (by simpa using h)
  rwa [show i+1+k=i+(k+1) by lia]at this
def pY(hi:i<s)(hv:V (pg s) i R):R.length<=s:=by
 have:=tU hv.nd (n:=s) λp hp=>by
  refine ae (WD.mp hp) λe he aj=>?_
  subst aj
  refine cU (hv.st e.1 e.2 he) λs1 _ s3=>?_
  rw[<-s3]
  exact ah.fx (Y:=pg s) s1 hi
 rwa [Wr]at this
def DO(hv:VL (pg s) l i):∀R∈l,∀e∈R,e.2∈perms s:=λR hR e he=>(St.good ah hv ⟨R,hR,e.1,he⟩).1
theorem iM(h6:s<=6)(hG:∀u,G u->u∈perms s)(mJ:∀l t,VL (pg s) l 0->t∈perms s->F 3 [.lst (l.map aq),tp t]=some (tp (dh (pg s) l 0 t)))
  (mK:∀l r,VL (pg s) l 0->r∈perms s->F 4 [.lst (l.map aq),tp r]=some (.lst ((bA r l).map tp))):∀(n:Nat) (l:List (Rg (List Int))) (W:List (List Int)) (x4 x5 x6:Option (Bool×D)),Fd (pg s) G l W->(36-cnt l)*100+W.length<n->(36-cnt l)*100+W.length<=5000->
  ∃l',gr (DM F) 3 n (l.map aq) (FE x0 s W x4 x5 x6)=some (l'.map aq)/\Fd (pg s) G l' []
 |0,_,_,_,_,_,_,h,_=>absurd h (YG _)
 |n+1,l,W,x4,x5,x6,hd,hn,hm=>by
  have hY:=mG h6 hG
  have ss:s*s<=36:=aar h6 h6
  have cl:∀{l':List (Rg (List Int))},VL (pg s) l' 0->cnt l'<=36:=λ{l'} hv=>by
   have h1:=pX ah hv
   have h2:=VL.len hv
   have h3:l'.length=s:=by rw[Yc]at h2;exact h2
   rw[h3]at h1
   exact Xu h1 ss
  rw[gr]
  show∃l':List (Rg (List Int)),(if(W.map tp).isEmpty =true then some (l.map aq) else(DM F (l.map aq) (FE x0 s W x4 x5 x6) (W.map tp)).bind λz=>gr (DM F) 3 n z.1 z.2)=some (l'.map aq)/\_
  rcases Zg W with rfl|⟨W0,t,rfl⟩
  .exact⟨l,rfl,hd⟩
  .rw[Zh]at hd hn hm⊢
   have eU:((W0++[t]).map tp).isEmpty =false:=by rw[W4];simp
   rw[eU,WV Wt]
   rw[WC,WR]at hn hm
   have ht:Gen (pg s) G t:=hd.wg t (WN _ (Ww.mpr rfl))
   have Sw:t∈perms s:=Gen.S ah hG ht
   have hl:=mJ l t hd.v Sw
   rcases oC ah hd.v Sw (λk hk=>absurd hk (YG _))with⟨e1,e2⟩|⟨k,R,a1,a2,a3,a4,a5,a6,a7,a8⟩
   .rw[e1]at hl
    rw[xp h6 hl]
    exact iM h6 hG mJ mK n l W0 _ _ _ (hd.none e2) (by lia) (by lia)
   .rw[Yc]at a2 a4 a5 a6 a7 a8
    have hk:k<s:=a2
    have hV:=VL.at hd.v a1
    rw[Yc]at hV
    have Sx:=pY hk hV
    have hg:=mK _ _ a8 a3
    have kJ:=cl a8
    have Wh:=vE (x:=((pg s).im (dh (pg s) l 0 t) k,dh (pg s) l 0 t)) a1
    have jG:=j7 (dh (pg s) l 0 t) (add l k ((pg s).im (dh (pg s) l 0 t) k,dh (pg s) l 0 t))
    refine MC (xt h6 hl a3 hk a1 a4 a6 a5 (by lia) hg (x0:=x0) (x4:=x4) (x5:=x5) (x6:=x6) (W:=W0) (by lia)) λy4 y5 y6 hT=>?_
    rw[hT]
    refine iM h6 hG mJ mK n _ _ _ _ _ (hd.more ah a8 a7 (k7 hY hd.g ht) (AH hY (k7 hY hd.g ht) λu hu=>?_) λu hu=>xo hu) ?_ ?_
    .rcases hu.add with z|z
     .exact hd.g u z
     .rw[z];exact k7 hY hd.g ht
    .rw[WC];lia
    .rw[WC];lia
noncomputable def vF(s:Nat):List (Rg (List Int)):=(List.range s).map λi=>[(i,bH s)]
theorem VL.vF:∀(m i:Nat),i+m=s->VL (pg s) ((List.range' i m).map λi=>[(i,bH s)]) i
 |0,i,h=>by show i=s;lia
 |m+1,i,h=>by
  rw[YT,WJ]
  have hi:i<s:=by lia
  refine⟨⟨λp u hu=>?_,Ww.mpr rfl,by simp⟩,hi,VL.vF m (i+1) (by lia)⟩
  rw[Ww]at hu
  cases hu
  exact⟨dW s,λk hk=>ah.aY (Y:=pg s) (show k<s by lia),ah.aY (Y:=pg s) hi⟩
def AI(mT:∀p∈ps,p∈perms s):Fd (pg s) (· ∈ps) (vF s) ps:=by
 have mY:∀u,St (vF s) u->u=bH s:=λu zz=>by
  obtain⟨R,hR,p,hp⟩:=zz
  refine ae (WD.mp hR) λi _ aj=>?_
  subst aj
  rw[Ww]at hp
  exact(aaw hp).2
 have hv:VL (pg s) (vF s) 0:=by
  have:=VL.vF (s:=s) s 0 (by lia)
  unfold cu.vF
  rw[Yn]
  exact this
 refine⟨hv,λu hu=>by rw[mY u hu];exact .one,λt ht=>Gen.of ah (mT t ht) ht,λt ht=> .inl ht,λu v hu IW=> .inr ?_⟩
 rw[mY u hu,mY v IW]
 show H (pg s) (vF s) (comp (bH s) (bH s))
 rw[js (dW s)]
 exact H.one ah hv
def AJ(h6:s<=6){ps:List (List Int)}(mT:∀p∈ps,p∈perms s)(aS:ps.length<=720)(mY:F 0 [.int s]=some (tp (bH s)))(mJ:∀l t,VL (pg s) l 0->t∈perms s->F 3 [.lst (l.map aq),tp t]=some (tp (dh (pg s) l 0 t)))
  (mK:∀l r,VL (pg s) l 0->r∈perms s->F 4 [.lst (l.map aq),tp r]=some (.lst ((bA r l).map tp))):
  ∃l,out (ex F d5.body (ai d5 [.tup (ps.map tp),.int s]))=some (.lst (l.map aq))/\Fd (pg s) (· ∈ps) l []:=by
 have dO:ba=16777216:=rfl
 obtain⟨l,h1,h2⟩:=iM h6 mT mJ mK (x0:=some (false,.tup (ps.map tp))) et (vF s) ps none none none (AI mT) (by
  have:et=1000000:=rfl
  rw[this]
  have:(36-cnt (vF s))*100<=3600:=by lia
  lia) (by
  have:(36-cnt (vF s))*100<=3600:=by lia
  lia)
 refine⟨l,?_,h2⟩
 have hr:kA F true (.c8 (.u 1)) (ai d5 [.tup (ps.map tp),.int s])=some (bB 0 s):=bP (by lia)
 have hw:walk (qw (ev F false (.var 0)) (ev F false (.call 0 (.u 1))) [1] (ai d5 [.tup (ps.map tp),.int s])) (bB 0 s)=some ((vF s).map aq):=by
  rw[b_]
  unfold vF
  rw[W6]
  refine bO (λk:Nat=>D.int (k:Int)) _ _ _ λk hk=>?_
  have hc:ev F false (.call 0 (.u 1)) [some (false,.int k),some (false,.int s)]=some (tp (bH s)):=aM (dX rfl) mY (aF _)
  show((ev F false (.call 0 (.u 1)) [some (false,.int k),some (false,.int s)]).bind λd=>if ay d then some (some (D.bM 0 [[(k:Int)]] [d])) else none)=_
  rw[hc]
  show(if ay (tp (bH s))=true then _ else none)=_
  rw[aF,WO rfl]
  rfl
 have hx:ex F d5.body (ai d5 [.tup (ps.map tp),.int s])=(kA F true (.c8 (.u 1)) (ai d5 [.tup (ps.map tp),.int s])).bind λxs=>if xs.length<=ba/\2≠3/\2<(ai d5 [.tup (ps.map tp),.int s]).length /\qv (ai d5 [.tup (ps.map tp),.int s])=true then
   (walk (qw (ev F false (.var 0)) (ev F false (.call 0 (.u 1))) [1] (ai d5 [.tup (ps.map tp),.int s])) xs).bind λS=>(gr (DM F) 3 et S (FE (some (false,.tup (ps.map tp))) s ps none none none)).map λS=> .ret (.lst S) else none:=rfl
 rw[hx,hr]
 show out (if _ then _ else none)=_
 rw[WO ⟨by rw[dY];lia,by decide,(by decide:2<7),rfl⟩,hw]
 show out ((gr (DM F) 3 et ((vF s).map aq) (FE (some (false,.tup (ps.map tp))) s ps none none none)).map λS=> .ret (.lst S))=_
 rw[h1]
 rfl
end
end cu
namespace Py
theorem oD:∀(r:List Int) (a:Int),h_ a r∈a::r/\∀x∈a::r,h_ a r<=x
 |[],a=>⟨Ww.mpr rfl,λx hx=>by rw[Ww.mp hx];exact Int.le_refl _⟩
 |b::r,a=>by
  rw[h_]
  obtain⟨h1,h2⟩:=oD r (if b<a then b else a)
  have h0:=h2 _ Wx
  have yE:(if b<a then b else a)<=a/\(if b<a then b else a)<=b:=by split<;>lia
  refine⟨?_,λx hx=>?_⟩
  .rcases WG.mp h1 with z|z
   .rw[z]
    split
    .exact Wu _ Wx
    .exact Wx
   .exact Wu _ (Wu _ z)
  .rcases WG.mp hx with z|hx
   .rw[z];exact aaI h0 yE.1
   .rcases WG.mp hx with z|hx
    .rw[z];exact aaI h0 yE.2
    .exact h2 x (Wu _ hx)
end Py
namespace cu
open Py jv
section
variable {s:Nat}{F:FT}
noncomputable abbrev Mk:C:=(.seq (.asg 5 (.prim .min (.cons (.comp [3] 0 (.dk 4) .nil (.idx (.var 1) (.var 0))) .nil))) (.seq (.asg 3 (.call 1 (.cons (.du 4 (.eQ .index (.var 3) (.u 5))) (.u 3)))) .skip))
noncomputable abbrev TE(x0 x1 x2:Option (Bool×D))(u:List Int)(x4 x5:Option (Bool×D)):Env:=[x0,x1,x2,some (false,tp u),x4,x5]
def DP(h6:s<=6)(ht:∀p∈perms s,∀q∈perms s,F 1 [tp p,tp q]=some (tp (comp p q)))(hi:i<s)(hv:V (pg s) i R)(hu:u∈perms s):
  ∃e∈R,(∀q,q∈R.map (·.1)->(pg s).im u e.1<=(pg s).im u q)/\∃y5,ex F Mk (TE x0 x1 x2 u (some (false,aq R)) x5)=some (.next (TE x0 x1 x2 (comp e.2 u) (some (false,aq R)) y5)):=by
 have dO:ba=16777216:=rfl
 have kb:∀e∈R,e.1<s:=λe he=>by
  refine cU (hv.st e.1 e.2 he) λs1 _ s3=>?_
  rw[<-s3];exact ah.fx (Y:=pg s) s1 hi
 have Sx:=pY hi hv
 have hc:ev F true (.comp [3] 0 (.dk 4) .nil (.idx (.var 1) (.var 0))) (TE x0 x1 x2 u (some (false,aq R)) x5)=some (.lst ((R.map λe=>(((pg s).im u e.1:Nat):Int)).map .int)):=by
  have hk:kA F true (.dk 4) (TE x0 x1 x2 u (some (false,aq R)) x5)=some (R.map λe=>D.int (e.1:Int)):=by
   show some ((kR R).map λk=>D.int (k.headD 0))=_
   rw[W6]
   rfl
  have hw:walk (fu F [3] .nil (.idx (.var 1) (.var 0)) (TE x0 x1 x2 u (some (false,aq R)) x5)) (R.map λe=>D.int (e.1:Int))=some (R.map λe=>D.int (((pg s).im u e.1:Nat):Int)):=
   bO (λe:Nat×List Int=>D.int (e.1:Int)) _ _ _ λe he=>by
    have Qu:ev F false (.idx (.var 1) (.var 0)) [some (false,.int e.1),some (false,tp u)]=some (.int ((pg s).im u e.1:Nat)):=fP hu (kb e he)
    show(ev F false (.idx (.var 1) (.var 0)) [some (false,.int e.1),some (false,tp u)]).map some=_
    rw[Qu]
    rfl
  have he:ev F true (.comp [3] 0 (.dk 4) .nil (.idx (.var 1) (.var 0))) (TE x0 x1 x2 u (some (false,aq R)) x5)=(kA F true (.dk 4) (TE x0 x1 x2 u (some (false,aq R)) x5)).bind λxs=>if xs.length<=ba then(walk (fu F [3] .nil (.idx (.var 1) (.var 0)) (TE x0 x1 x2 u (some (false,aq R)) x5)) xs).map .lst else none:=rfl
  rw[he,hk]
  show(if(R.map λe=>D.int (e.1:Int)).length <=ba then _ else none)=_
  rw[WO (by rw[Wr];lia),hw,W6]
  rfl
 obtain⟨e0,R0,hR⟩:∃e0 R0,R=e0::R0:=by
  cases R with
  |nil=>exact absurd hv.one (by simp)
  |cons e R=>exact⟨e,R,rfl⟩
 obtain⟨m1,m2⟩:=oD (R0.map λe=>(((pg s).im u e.1:Nat):Int)) (((pg s).im u e0.1:Nat):Int)
 have Ml:R.map (λe=>(((pg s).im u e.1:Nat):Int))=(((pg s).im u e0.1:Nat):Int)::R0.map λe=>(((pg s).im u e.1:Nat):Int):=by rw[hR];rfl
 generalize Vw:h_ (((pg s).im u e0.1:Nat):Int) (R0.map λe=>(((pg s).im u e.1:Nat):Int))=mn at m1 m2
 rw[<-Ml]at m1 m2
 refine ae (WD.mp m1) λe he Vx=>⟨e,he,λq hq=>?_,some (false,.int mn),?_⟩
 .refine ae (WD.mp hq) λe' xm aj=>?_
  subst aj
  have:=m2 _ (WD.mpr ⟨e',xm,rfl⟩)
  lia
 .have Aq:ev F false (.prim .min (.cons (.comp [3] 0 (.dk 4) .nil (.idx (.var 1) (.var 0))) .nil)) (TE x0 x1 x2 u (some (false,aq R)) x5)=some (.int mn):=by
   rw[fH,dX hc]
   show(match aP ((R.map λe=>(((pg s).im u e.1:Nat):Int)).map .int)with
    |some ns=>match ns with|[]=>none|a::r=>some (D.int (h_ a r))
    |none=>_)=_
   rw[cT,Ml]
   show some (D.int (h_ _ _))=_
   rw[Vw]
  have DH:ev F false (.eQ .index (.var 3) (.u 5)) (TE x0 x1 x2 u (some (false,aq R)) (some (false,.int mn)))=some (.int (e.1:Nat)):=by
   have Vy:u[e.1]?=some mn:=by
    have bQ:e.1<u.length:=by rw[aB hu];exact kb e he
    rw[Wq bQ]
    have h1:=iz hu (kb e he)
    rw[Wz,Wq bQ]at h1
    have h2:u[e.1]=(((pg s).im u e.1:Nat):Int):=h1
    rw[h2,Vx]
   show(aP (u.map .int)).bind (λns=>(ef mn ns).map λ(i:Nat)=>D.int (i:Int))=_
   rw[cT]
   show(ef mn u).map (λ(i:Nat)=>D.int (i:Int))=_
   rw[pV (aC.mp hu).2.1 Vy]
   rfl
  have AF:ev F true (.du 4 (.eQ .index (.var 3) (.u 5))) (TE x0 x1 x2 u (some (false,aq R)) (some (false,.int mn)))=some (tp e.2):=by
   rw[J0,DH]
   show iE (kR R) (vR R) [(e.1:Int)]=_
   rw[gX,vw hv.nd (show(e.1,e.2)∈R from he)]
   rfl
  have Qp:ev F false (.call 1 (.cons (.du 4 (.eQ .index (.var 3) (.u 5))) (.u 3))) (TE x0 x1 x2 u (some (false,aq R)) (some (false,.int mn)))=some (tp (comp e.2 u)):=aM (dg AF rfl) (ht _ (hv.st _ _ (show(e.1,e.2)∈R from he)).1 u hu) (aF _)
  rw[br,aT Aq]
  show ex F (.seq (.asg 3 _) .skip) (TE x0 x1 x2 u (some (false,aq R)) (some (false,.int mn)))=_
  rw[br,aT Qp]
  rfl
theorem vG(h6:s<=6)(ht:∀p∈perms s,∀q∈perms s,F 1 [tp p,tp q]=some (tp (comp p q))):∀{l:List (Rg (List Int))}{i:Nat}{u:List Int}{x4 x5:Option (Bool×D)},VL (pg s) l i->u∈perms s->
  ∃x y4 y5,aE (λx ρ=>(aA 0 x).bind λys=>(cI ρ [4] ys).bind λρ'=>ex F Mk ρ') (l.map aq) (TE x0 x1 x2 u x4 x5)=some (.next (TE x0 x1 x2 x y4 y5))/\LM (pg s) l u x
 |[],_,u,x4,x5,_,_=>⟨u,x4,x5,rfl,.nil⟩
 |R::l,i,u,x4,x5,hv,hu=>by
  refine au λnO=>?_
  obtain⟨e,he,hm,z5,h1⟩:=DP (x0:=x0) (x1:=x1) (x2:=x2) (x5:=x5) h6 ht hv.2.1 hv.1 hu
  have hs:=(hv.1.st e.1 e.2 he).1
  refine r0 (vG h6 ht (x0:=x0) (x1:=x1) (x2:=x2) (l:=l) (i:=i+1) (u:=comp e.2 u) (x4:=some (false,aq R)) (x5:=z5) hv.2.2 (gW hs hu)) λx y4 y5 h2 h3=>nO ?_
  refine⟨x,y4,y5,?_,.cons (p:=e.1) (v:=e.2) he hm h3⟩
  rw[WJ,aE]
  show(ex F Mk (TE x0 x1 x2 u (some (false,aq R)) x5)).bind _=_
  rw[h1]
  exact h2
theorem VL.drop:∀{l:List (Rg (List Int))}{i:Nat} (k:Nat),VL Y l i->k<=l.length->VL Y (l.drop k) (i+k)
 |l,i,0,h,_=>h
 |[],i,k+1,h,hk=>absurd hk (by simp)
 |R::l,i,k+1,h,hk=>by
  have:=VL.drop k h.2.2 (by simpa using hk)
  rwa [show i+1+k=i+(k+1) by lia]at this
def AK(h6:s<=6)(ht:∀p∈perms s,∀q∈perms s,F 1 [tp p,tp q]=some (tp (comp p q)))(hv:VL (pg s) l 0)(hk:k<s)(hu:u∈perms s):
  ∃x,out (ex F d6.body (ai d6 [.lst (l.map aq),.int k,tp u]))=some (tp x)/\LM (pg s) (l.drop (k+1)) u x:=by
 have hl:l.length=s:=by have:=VL.len hv;rw[Yc]at this;exact this
 refine r0 (vG h6 ht (x0:=some (false,.lst (l.map aq))) (x1:=some (false,.int k)) (x2:=some (false,tp u)) (l:=l.drop (k+1)) (u:=u) (x4:=none) (x5:=none) (VL.drop (k+1) hv (by lia)) hu) λx y4 y5 h1 h2=>⟨x,?_,h2⟩
 have MT:kA F false (.it (.sl (.var 0) (.cons (.bin .Add (.var 1) (.c (.int 1))) .nil) .nil)) (TE (some (false,.lst (l.map aq))) (some (false,.int k)) (some (false,tp u)) u none none)=some ((l.drop (k+1)).map aq):=by
  show seq (.lst (xH (l.map aq) (some ((k:Int)+1)) none))=_
  rw[show(k:Int)+1=((k+1:Nat):Int) by lia,rH _ _ (by rw[Wr];lia),<-List.map_drop]
  rfl
 have hf:ex F (.for [4] 0 (.it (.sl (.var 0) (.cons (.bin .Add (.var 1) (.c (.int 1))) .nil) .nil)) Mk) (TE (some (false,.lst (l.map aq))) (some (false,.int k)) (some (false,tp u)) u none none)=some (.next (TE (some (false,.lst (l.map aq))) (some (false,.int k)) (some (false,tp u)) x y4 y5)):=by
  show(kA F false (.it (.sl (.var 0) (.cons (.bin .Add (.var 1) (.c (.int 1))) .nil) .nil)) (TE (some (false,.lst (l.map aq))) (some (false,.int k)) (some (false,tp u)) u none none)).bind _=_
  rw[MT]
  exact h1
 have hx:ex F d6.body (ai d6 [.lst (l.map aq),.int k,tp u])=(ex F (.for [4] 0 (.it (.sl (.var 0) (.cons (.bin .Add (.var 1) (.c (.int 1))) .nil) .nil)) Mk) (TE (some (false,.lst (l.map aq))) (some (false,.int k)) (some (false,tp u)) u none none)).bind λo=>match o with
   | .next ρ'=>ex F (.seq (.ret (.var 3)) .skip) ρ'
   |o=>some o:=rfl
 rw[hx,hf]
 rfl
end
noncomputable def pairD(e:Nat×List Int):D:= .tup [.int (e.1:Int),tp e.2]
noncomputable def ax(R:Rg (List Int)):D:= .tup (R.map pairD)
noncomputable def aG(l:List (Rg (List Int))):D:= .tup (l.map ax)
section
variable {s:Nat}{F:FT}
noncomputable def j9(R:Rg (List Int)):List Nat:=(sortI (R.map λe=>(e.1:Int))).map Int.toNat
def mL(R:Rg (List Int)):sortI (R.map λe=>(e.1:Int))=(j9 R).map λ(k:Nat)=>(k:Int):=by
 unfold j9
 rw[W6]
 have:∀x∈sortI (R.map λe=>(e.1:Int)),((λ(k:Nat)=>(k:Int))∘Int.toNat) x=x:=λx hx=>by
  refine ae (WD.mp ((sortI_perm _).mem_iff.mp hx)) λe _ aj=>?_
  subst aj
  show((e.1:Int).toNat :Int)=_
  lia
 rw[YW this,List.map_id']
def pZ:k∈j9 R↔k∈R.map (·.1):=by
 unfold j9
 constructor
 .intro h
  refine ae (WD.mp h) λx hx aj=>?_
  subst aj
  refine ae (WD.mp ((sortI_perm _).mem_iff.mp hx)) λe he aU=>?_
  subst aU
  exact WD.mpr ⟨e,he,by simp⟩
 .intro h
  refine ae (WD.mp h) λe he fF=>?_
  subst fF
  exact WD.mpr ⟨(e.1:Int),(sortI_perm _).mem_iff.mpr (WD.mpr ⟨e,he,rfl⟩),by simp⟩
def Ik(nd:(R.map (·.1)).Nodup):(j9 R).Pairwise (· < ·):=by
 have h1:=ma (R.map λe=>(e.1:Int))
 have h2:(sortI (R.map λe=>(e.1:Int))).Nodup :=by
  rw[(sortI_perm _).nodup_iff]
  rw[Xc,Xk]at nd⊢
  exact nd.imp λh e=>h (by lia)
 rw[mL,Xk]at h1
 rw[mL,Xc,Xk]at h2
 exact(h1.and h2).imp λh=>by lia
theorem Hm.drop:∀{l:List (Rg (List Int))}{i:Nat} (k:Nat),Hm (pg s) M l i->k<=l.length->Hm (pg s) M (l.drop k) (i+k)
 |l,i,0,h,_=>h
 |[],i,k+1,h,hk=>absurd hk (by simp)
 |R::l,i,k+1,h,hk=>by
  have:=Hm.drop k (h.tail ah) (by simpa using hk)
  rwa [show i+1+k=i+(k+1) by lia]at this
def DQ(h6:s<=6)(hM:cy (pg s) M)(hl:Hm (pg s) M l 0)(hk:k<s)
  (Il:∀u∈perms s,∃x,F 6 [.lst (l.map aq),.int k,tp u]=some (tp x)/\LM (pg s) (l.drop (k+1)) u x):
  out (ex F d7.body (ai d7 [.lst (l.map aq),.int k]))=some (ax (a_ (pg s) M k)):=by
 have dO:ba=16777216:=rfl
 have aS:l.length=s:=by have:=VL.len hl.1;rw[Yc]at this;exact this
 have Nq:k<l.length:=by lia
 obtain⟨R,hR⟩:∃R,l[k]?=some R:=⟨l[k],Wq Nq⟩
 have Vz:l.drop k=R::l.drop (k+1):=by
  rw[Xs Nq]
  rw[Wq Nq]at hR
  cases hR
  rfl
 have hm:=Hm.drop k hl (by lia)
 rw[Yc,Vz]at hm
 have hV:=hm.1.1
 have Sx:=pY hk hV
 have best:∀p u,(p,u)∈R->∃x,F 6 [.lst (l.map aq),.int k,tp u]=some (tp x)/\fA (pg s) M k p x:=λp u hu=>by
  exact ae (Il u (hV.st p u hu).1) λx h1 h2=>⟨x,h1,hm.best ah hM hu h2⟩
 have mY:item (.lst (l.map aq)) (.int k)=some (aq R):=by
  show((place (l.map aq).length (k:Int)).bind λj=>(l.map aq)[j]?)=_
  unfold place
  rw[Wr,WO (by lia),WO (by lia)]
  show(l.map aq)[k]?=_
  rw[WI,hR]
  rfl
 let jA:Env:=[some (false,.lst (l.map aq)),some (false,.int k),some (false,aq R)]
 have wK:ev F true (.dm 2) jA=some (.lst ((j9 R).map λ(k:Nat)=>D.int (k:Int))):=by
  show(if(kR R).length<64 then some (D.lst ((sortI ((kR R).map λk=>k.headD 0)).map .int)) else none)=_
  rw[WO (by rw[Wr];lia),W6]
  show some (D.lst ((sortI (R.map λe=>(e.1:Int))).map .int))=_
  rw[mL,W6]
  rfl
 have hw:walk (fu F [0,1,2] .nil (.tup (.w 0 (.cons (.call 6 (.w 1 (.w 2 (.cons (.du 3 (.var 0)) .nil)))) .nil))) jA) ((j9 R).map λ(k:Nat)=>D.int (k:Int))=some ((j9 R).map λp=>pairD (p,cq (pg s) M k p)):=
  bO (λk:Nat=>D.int (k:Int)) _ _ _ λp hp=>by
   refine ae (WD.mp (pZ.mp hp)) λe he Qv=>?_
   have xm:(p,e.2)∈R:=by rw[<-Qv];exact he
   refine ae (best p e.2 xm) λx q_ IU=>?_
   let xK:Env:=[some (false,.int p),some (false,.lst (l.map aq)),some (false,.int k),some (false,aq R)]
   have AF:ev F true (.du 3 (.var 0)) xK=some (tp e.2):=by
    show iE (kR R) (vR R) [(p:Int)]=_
    rw[gX,vw hV.nd xm]
    rfl
   have hc:ev F false (.call 6 (.w 1 (.w 2 (.cons (.du 3 (.var 0)) .nil)))) xK=some (tp x):=aM (Qm rfl rfl AF) q_ (aF _)
   have p_:ev F false (.tup (.w 0 (.cons (.call 6 (.w 1 (.w 2 (.cons (.du 3 (.var 0)) .nil)))) .nil))) xK=some (.tup [.int p,tp x]):=by
    have:=dg (b:=false) (F:=F) (ρ:=xK) (a:= .var 0) (x:= .int p) rfl hc
    rw[sU,this]
    rfl
   show(ev F false (.tup (.w 0 (.cons (.call 6 (.w 1 (.w 2 (.cons (.du 3 (.var 0)) .nil)))) .nil))) xK).map some=_
   rw[p_,fB IU]
   rfl
 have rV:ev F true (.comp [0,1,2] 0 (.it (.dm 2)) .nil (.tup (.w 0 (.cons (.call 6 (.w 1 (.w 2 (.cons (.du 3 (.var 0)) .nil)))) .nil)))) jA=some (.lst ((j9 R).map λp=>pairD (p,cq (pg s) M k p))):=by
  rw[dz wK rfl (by
   rw[Wr]
   have:(j9 R).length =R.length:=by unfold j9;rw[Wr,(sortI_perm _).length_eq,Wr]
   lia),hw]
  rfl
 have Ig:(j9 R).map (λp=>(p,cq (pg s) M k p))=a_ (pg s) M k:=by
  refine Aw ah hk hM.s (λp x hx=>?_) (λt ht hf=>?_) ?_
  .refine ae (WD.mp hx) λq hq e=>?_
   rw[<-(aaw e).1,<-(aaw e).2]
   refine ae (WD.mp (pZ.mp hq)) λe he Qv=>ae (best q e.2 (by rw[<-Qv];exact he)) λy _ hy=>?_
   rw[fB hy]
   exact hy
  .exact bC (hm.split ah ht hf) λu w hu _ _=>⟨_,WD.mpr ⟨_,pZ.mpr (WD.mpr ⟨_,hu,rfl⟩),rfl⟩⟩
  .rw[W6]
   have:((λx:Nat×List Int=>x.1) ∘ λp=>(p,cq (pg s) M k p))=id:=rfl
   rw[this,aav]
   exact Ik hV.nd
 have ha:ex F (.asg 2 (.idx (.var 0) (.var 1))) (ai d7 [.lst (l.map aq),.int k])=some (.next jA):=aT (F:=F) mY
 have hx:ex F d7.body (ai d7 [.lst (l.map aq),.int k])=(ex F (.asg 2 (.idx (.var 0) (.var 1))) (ai d7 [.lst (l.map aq),.int k])).bind λo=>match o with
   | .next ρ'=>ex F (.seq (.ret (.prim .tuple (.cons (.comp [0,1,2] 0 (.it (.dm 2)) .nil (.tup (.w 0 (.cons (.call 6 (.w 1 (.w 2 (.cons (.du 3 (.var 0)) .nil)))) .nil)))) .nil))) .skip) ρ'
   |o=>some o:=rfl
 rw[hx,ha]
 refine cV ?_
 rw[fH,dX rV]
 show some (D.tup ((j9 R).map λp=>pairD (p,cq (pg s) M k p)))=_
 rw[<-Ig]
 unfold ax
 rw[W6]
 rfl
def vH(R:Rg (List Int)):ay (ax R)=true:=by
 show aV (R.map pairD)=true
 induction R with
 |nil=>rfl
 |cons e R ih=>
  show(ay (pairD e)&&aV (R.map pairD))=true
  rw[ih]
  show((ay (.int (e.1:Int))&&(ay (tp e.2)&&true))&&true)=true
  rw[aF]
  rfl
def xu(h6:s<=6){M:List Int->Prop}{row:D}{l:List (Rg (List Int))}(hf:F 5 [row,.int s]=some (.lst (l.map aq)))(Mm:ay row=true)(hr:∀k,k<s->F 7 [.lst (l.map aq),.int k]=some (ax (a_ (pg s) M k))):
  out (ex F d8.body (ai d8 [row,.int s]))=some (aG (bz (pg s) M 0)):=by
 have dO:ba=16777216:=rfl
 let jA:Env:=[some (false,row),some (false,.int s),some (false,.lst (l.map aq))]
 have h1:ev F false (.call 5 (.w 0 (.u 1))) (ai d8 [row,.int s])=some (.lst (l.map aq)):=cj (dg rfl rfl) hf rfl
 have hw:walk (fu F [2] .nil (.call 7 (.w 1 (.u 0))) jA) (bB 0 s)=some ((List.range s).map λk=>ax (a_ (pg s) M k)):=by
  rw[b_]
  refine bO (λk:Nat=>D.int (k:Int)) _ _ _ λk hk=>?_
  have hc:ev F false (.call 7 (.w 1 (.u 0))) [some (false,.int k),some (false,.lst (l.map aq))]=some (ax (a_ (pg s) M k)):=aM (dg rfl rfl) (hr k (W7.mp hk)) (vH _)
  show(ev F false (.call 7 (.w 1 (.u 0))) [some (false,.int k),some (false,.lst (l.map aq))]).map some=_
  rw[hc]
  rfl
 have rV:ev F true (.comp [2] 0 (.c8 (.u 1)) .nil (.call 7 (.w 1 (.u 0)))) jA=some (.lst ((List.range s).map λk=>ax (a_ (pg s) M k))):=by
  have Qs:(cv F false (.u 1) jA).bind cM=some (bB 0 s):=bP (by lia)
  rw[gI Qs (by rw[dY];lia),hw]
  rfl
 have hx:ex F d8.body (ai d8 [row,.int s])=(ex F (.asg 2 (.call 5 (.w 0 (.u 1)))) (ai d8 [row,.int s])).bind λo=>match o with
   | .next ρ'=>ex F (.seq (.ret (.prim .tuple (.cons (.comp [2] 0 (.c8 (.u 1)) .nil (.call 7 (.w 1 (.u 0)))) .nil))) .skip) ρ'
   |o=>some o:=rfl
 rw[hx,aT h1]
 refine cV ?_
 show ev F true _ jA=_
 rw[fH,dX rV]
 show some (D.tup ((List.range s).map λk=>ax (a_ (pg s) M k)))=_
 unfold aG bz
 rw[W6,Yn]
 rfl
end
def xv:(List.range 7).all (λn=>decide ((perms n).length <=720))=true:=by decide +kernel
section
variable {s:Nat}{F:FT}
def jx(h6:s<=6):(perms s).length <=720:=of_decide_eq_true (all_range xv (show s<7 by lia))
theorem jy[DecidableEq α]:∀(l m:List α),l.Nodup->(∀x∈l,x∈m)->l.length<=m.length
 |[],_,_,_=>XF _
 |x::l,m,nd,h=>by
  rw[Xd]at nd
  have hx:=h x Wx
  have:=jy l (m.erase x) nd.2 λy hy=>(List.mem_erase_of_ne (λe:y=x=>nd.1 (e▸hy))).mpr (h y (Wu _ hy))
  rw[ZX hx]at this
  have:0<m.length:=List.length_pos_of_mem hx
  rw[WM]
  lia
def vI(h6:s<=6)(hv:VL (pg s) l i):(TL (pg s) l).length <=720:=
 Xu (jy _ _ (mF ah hv) λx hx=>(H.good ah hv (iL.mp hx)).1) (jx h6)
def Im:(TL (pg s) (R::l)).length =R.length*(TL (pg s) l).length :=by
 show(R.flatMap λe=>(TL (pg s) l).map λw=>(pg s).mul w e.2).length =_
 generalize TL (pg s) l=T
 induction R with
 |nil=>simp
 |cons e R ih=>rw[Zb,WC,Wr,ih,WM,Nat.add_mul];lia
def vJ(h:cE i j=true):bin .Mult (.int i) (.int j)=some (.int (i*j)):=WO h
def iA(h:ex F b (put ρ i false x)=some (.next ρ')):aE (λx ρ=>(aA 0 x).bind λys=>(cI ρ [i] ys).bind λρ'=>ex F b ρ') (x::r) ρ=aE (λx ρ=>(aA 0 x).bind λys=>(cI ρ [i] ys).bind λρ'=>ex F b ρ') r ρ':=by
 rw[aE]
 show(ex F b (put ρ i false x)).bind _=_
 rw[h]
 rfl
def gK(h1:ev F true a ρ=some x)(h2:ev F true c ρ=some y):ev F b (.bin o a c) ρ=bin o x y:=by
 rw[qx,h1,h2]
 rfl
noncomputable abbrev Nr:C:=(.seq (.asg 1 (.bin .Mult (.var 1) (.prim .len (.u 2)))) .skip)
theorem count_loop:∀{l:List (Rg (List Int))}{c:Nat}{x2:Option (Bool×D)},(∀R∈l,R.length<=1000)->
  ∃y2,aE (λx ρ=>(aA 0 x).bind λys=>(cI ρ [2] ys).bind λρ'=>ex F Nr ρ') (l.map ax) [x0,some (false,.int c),x2]=some (.next [x0,some (false,.int (c*(TL (pg s) l).length :Nat)),y2])
 |[],c,x2,_=>⟨x2,by show some (il.next [x0,some (false,.int c),x2])=_;rw[show(TL (pg s) []).length =1 from rfl,Nat.mul_one]⟩
 |R::l,c,x2,h=>by
  obtain⟨y2,ih⟩:=count_loop (x0:=x0) (l:=l) (c:=c*R.length) (x2:=some (false,ax R)) λR' Qr=>h R' (Wu _ Qr)
  refine⟨y2,?_⟩
  have hR:=h R Wx
  have aS:ev F true (.prim .len (.u 2)) [x0,some (false,.int c),some (false,ax R)]=some (.int (R.length:Nat)):=by
   show some (D.int ((R.map pairD).length :Nat))=_
   rw[Wr]
  have hm:ev F false (.bin .Mult (.var 1) (.prim .len (.u 2))) [x0,some (false,.int c),some (false,ax R)]=some (.int (c*R.length:Nat)):=by
   rw[gK (a:= .var 1) (x:= .int c) rfl aS,vJ (jr _ (by lia) (by lia))]
   congr 2
  have hb:ex F Nr (put [x0,some (false,.int c),x2] 2 false (ax R))=some (.next [x0,some (false,.int (c*R.length:Nat)),some (false,ax R)]):=by
   have e:put [x0,some (false,.int c),x2] 2 false (ax R)=[x0,some (false,.int c),some (false,ax R)]:=rfl
   rw[e,br,aT hm]
   rfl
  rw[WJ,iA hb,ih,Im,Nat.mul_assoc]
def AL(h:∀R∈l,R.length<=1000):out (ex F d9.body (ai d9 [aG l]))=some (.int ((TL (pg s) l).length :Nat)):=by
 obtain⟨y2,h1⟩:=count_loop (s:=s) (F:=F) (x0:=some (false,aG l)) (l:=l) (c:=1) (x2:=none) h
 rw[Nat.one_mul]at h1
 have hf:ex F (.for [2] 0 (.it (.var 0)) Nr) [some (false,aG l),some (false,.int (1:Nat)),none]=some (.next [some (false,aG l),some (false,.int ((TL (pg s) l).length :Nat)),y2]):=h1
 have hx:ex F d9.body (ai d9 [aG l])=(ex F (.for [2] 0 (.it (.var 0)) Nr) [some (false,aG l),some (false,.int (1:Nat)),none]).bind λo=>match o with
   | .next ρ'=>ex F (.seq (.ret (.var 1)) .skip) ρ'
   |o=>some o:=rfl
 rw[hx,hf]
 rfl
noncomputable abbrev Io:E:=(.comp [4] 0 (.it (.var 1)) .nil (.call 1 (.w 0 (.cons (.idx (.var 1) (.c (.int 1))) .nil))))
noncomputable abbrev Mn:C:=(.seq (.ext 3 Io) .skip)
noncomputable abbrev Mo:C:=(.seq (.bV 3 (.lst .nil)) (.seq (.for [4] 0 (.it (.var 2)) Mn) (.seq (.Er 1 3) .skip)))
noncomputable abbrev OE(x0:Option (Bool×D))(o:Bool)(ts:List (List Int))(x2 x3 x4:Option (Bool×D)):Env:=[x0,some (o,.lst (ts.map tp)),x2,x3,x4]
theorem E2(ht:∀p∈perms s,∀q∈perms s,F 1 [tp p,tp q]=some (tp (comp p q)))(Nt:∀t∈ts,t∈perms s)(hl:ts.length<=1000):∀{R:Rg (List Int)}{acc:List (List Int)}{x4:Option (Bool×D)},(∀e∈R,e.2∈perms s)->acc.length+(R.flatMap λe=>ts.map λw=>comp w e.2).length <=10000->
  ∃y4,aE (λx ρ=>(aA 0 x).bind λys=>(cI ρ [4] ys).bind λρ'=>ex F Mn ρ') (R.map pairD) (OE x0 o ts x2 (some (true,.lst (acc.map tp))) x4)=some (.next (OE x0 o ts x2 (some (true,.lst ((acc++R.flatMap λe=>ts.map λw=>comp w e.2).map tp))) y4))
 |[],acc,x4,_,_=>⟨x4,by show some (il.next _)=_;rw[List.flatMap_nil,W9]⟩
 |e::R,acc,x4,h,hb=>by
  have dO:ba=16777216:=rfl
  rw[Zb,WC,Wr]at hb
  have he:=h e Wx
  obtain⟨y4,ih⟩:=E2 ht (x0:=x0) (x2:=x2) (o:=o) Nt hl (R:=R) (acc:=acc++ts.map λw=>comp w e.2) (x4:=some (false,pairD e)) (λe' xm=>h e' (Wu _ xm)) (by rw[WC,Wr];lia)
  refine⟨y4,?_⟩
  let jA:Env:=OE x0 o ts x2 (some (true,.lst (acc.map tp))) (some (false,pairD e))
  have hv:ev F true (.var 1) jA=some (.lst (ts.map tp)):=by cases o<;>rfl
  have hw:walk (fu F [4] .nil (.call 1 (.w 0 (.cons (.idx (.var 1) (.c (.int 1))) .nil))) jA) (ts.map tp)=some (ts.map λw=>tp (comp w e.2)):=
   bO tp _ _ _ λw hw=>by
    have hc:ev F false (.call 1 (.w 0 (.cons (.idx (.var 1) (.c (.int 1))) .nil))) [some (false,tp w),some (false,pairD e)]=some (tp (comp w e.2)):=aM (dg rfl rfl) (ht w (Nt w hw) _ he) (aF _)
    show(ev F false (.call 1 (.w 0 (.cons (.idx (.var 1) (.c (.int 1))) .nil))) [some (false,tp w),some (false,pairD e)]).map some=_
    rw[hc]
    rfl
  have rV:ev F false Io jA=some (.lst ((ts.map λw=>comp w e.2).map tp)):=by
   rw[dz hv rfl (by rw[Wr];lia),hw,W6]
   rfl
  have Qw:ex F Mn jA=some (.next (OE x0 o ts x2 (some (true,.lst ((acc++ts.map λw=>comp w e.2).map tp))) (some (false,pairD e)))):=by
   have h1:ex F (.ext 3 Io) jA=some (.next (OE x0 o ts x2 (some (true,.lst ((acc++ts.map λw=>comp w e.2).map tp))) (some (false,pairD e)))):=by
    rw[J_,rV]
    show(if(acc.map tp).length+((ts.map λw=>comp w e.2).map tp).length <=ba then some (il.next (put jA 3 true (.lst (acc.map tp++(ts.map λw=>comp w e.2).map tp)))) else none)=_
    rw[WO (by rw[Wr,Wr,Wr];lia),<-W4]
    rfl
   rw[br,h1]
   rfl
  rw[WJ,aE]
  show(ex F Mn jA).bind _=_
  rw[Qw]
  show aE _ (R.map pairD) _=_
  rw[ih,Zb,WZ]
theorem AM(h6:s<=6)(ht:∀p∈perms s,∀q∈perms s,F 1 [tp p,tp q]=some (tp (comp p q))):∀{rs l:List (Rg (List Int))}{i:Nat}{o:Bool}{x2 x3 x4:Option (Bool×D)},VL (pg s) (rs.reverse++l) i->
  ∃o' y2 y3 y4,aE (λx ρ=>(aA 0 x).bind λys=>(cI ρ [2] ys).bind λρ'=>ex F Mo ρ') (rs.map ax) (OE x0 o (TL (pg s) l) x2 x3 x4)=some (.next (OE x0 o' (TL (pg s) (rs.reverse++l)) y2 y3 y4))
 |[],l,i,o,x2,x3,x4,_=>⟨o,x2,x3,x4,rfl⟩
 |R::rs,l,i,o,x2,x3,x4,hv=>by
  have e0:(R::rs).reverse ++l=rs.reverse++(R::l):=by simp
  rw[e0]at hv⊢
  have Qx:VL (pg s) (R::l) (i+rs.reverse.length):=by
   have:=VL.drop rs.reverse.length hv (by rw[WC];lia)
   rwa [List.drop_left]at this
  have hl:=Qx.2.2
  have Nt:∀t∈TL (pg s) l,t∈perms s:=λt h=>(H.good ah hl (iL.mp h)).1
  have hn:=vI h6 hl
  have JQ:(R.flatMap λe=>(TL (pg s) l).map λw=>comp w e.2).length <=720:=vI h6 Qx
  obtain⟨z4,i1⟩:=E2 ht (x0:=x0) (x2:=some (false,ax R)) (o:=o) Nt (by lia) (R:=R) (acc:=[]) (x4:=x4) (λe he=>(Qx.1.st e.1 e.2 he).1) (by rw[XZ];lia)
  rw[XJ]at i1
  have eT:TL (pg s) (R::l)=R.flatMap λe=>(TL (pg s) l).map λw=>comp w e.2:=rfl
  rw[<-eT]at i1
  refine ME (AM h6 ht (x0:=x0) (rs:=rs) (l:=R::l) (o:=false) (x2:=some (false,ax R)) (x3:=some (false,.lst ((TL (pg s) (R::l)).map tp))) (x4:=z4) hv) λo' y2 y3 y4 ih=>⟨o',y2,y3,y4,?_⟩
  have hb:ex F Mo (OE x0 o (TL (pg s) l) (some (false,ax R)) x3 x4)=some (.next (OE x0 false (TL (pg s) (R::l)) (some (false,ax R)) (some (false,.lst ((TL (pg s) (R::l)).map tp))) z4)):=by
   have a1:ex F (.bV 3 (.lst .nil)) (OE x0 o (TL (pg s) l) (some (false,ax R)) x3 x4)=some (.next (OE x0 o (TL (pg s) l) (some (false,ax R)) (some (true,.lst [])) x4)):=rfl
   have a2:ex F (.for [4] 0 (.it (.var 2)) Mn) (OE x0 o (TL (pg s) l) (some (false,ax R)) (some (true,.lst [])) x4)=some (.next (OE x0 o (TL (pg s) l) (some (false,ax R)) (some (true,.lst ((TL (pg s) (R::l)).map tp))) z4)):=i1
   have a3:ex F (.Er 1 3) (OE x0 o (TL (pg s) l) (some (false,ax R)) (some (true,.lst ((TL (pg s) (R::l)).map tp))) z4)=some (.next (OE x0 false (TL (pg s) (R::l)) (some (false,ax R)) (some (false,.lst ((TL (pg s) (R::l)).map tp))) z4)):=rfl
   rw[br,a1]
   show ex F (.seq _ (.seq _ .skip)) _=_
   rw[br,a2]
   show ex F (.seq (.Er 1 3) .skip) (OE x0 o (TL (pg s) l) (some (false,ax R)) (some (true,.lst ((TL (pg s) (R::l)).map tp))) z4)=_
   rw[br,a3]
   rfl
  rw[WJ,aE]
  show(ex F Mo (OE x0 o (TL (pg s) l) (some (false,ax R)) x3 x4)).bind _=_
  rw[hb]
  exact ih
theorem j_:∀{ks:List (List Int)},(∀k∈ks,k≠[])->eI (ks.map tp)=some ks
 |[],_=>rfl
 |k::ks,h=>by
  show(aP (k.map .int)).bind _=_
  rw[cT]
  show(if k=[] then none else(eI (ks.map tp)).map (k:: ·))=_
  rw[WV (h k Wx),j_ λx hx=>h x (Wu _ hx)]
  rfl
def tX(h1:1<=s)(h:t∈perms s):t≠[]:=λz=>by
 have:=aB h
 rw[z]at this
 simp at this
 lia
def AN(h1:1<=s)(h6:s<=6)(mY:F 0 [.int s]=some (tp (bH s)))(ht:∀p∈perms s,∀q∈perms s,F 1 [tp p,tp q]=some (tp (comp p q)))(hv:VL (pg s) l 0):
  out (ex F xM.body (ai xM [aG l]))=some (.tup ((bU.bF (TL (pg s) l)).map tp)):=by
 have aS:l.length=s:=by have:=VL.len hv;rw[Yc]at this;exact this
 refine ME (AM h6 ht (x0:=some (false,aG l)) (rs:=l.reverse) (l:=[]) (i:=0) (o:=true) (x2:=none) (x3:=none) (x4:=none) (by rw[aap,W9];exact hv)) λo' y2 y3 y4 h2=>?_
 rw[aap,W9]at h2
 have e1:ev F false (.call 0 (.cons (.prim .len (.u 0)) .nil)) (ai xM [aG l])=some (tp (bH s)):=by
  have:ev F true (.prim .len (.u 0)) (ai xM [aG l])=some (.int s):=by
   show some (D.int ((l.map ax).length :Nat))=_
   rw[Wr,aS]
  exact aM (dX this) mY (aF _)
 have a1:ex F (.bV 1 (.lst (.cons (.call 0 (.cons (.prim .len (.u 0)) .nil)) .nil))) (ai xM [aG l])=some (.next (OE (some (false,aG l)) true [bH s] none none none)):=by
  have:ev F false (.lst (.cons (.call 0 (.cons (.prim .len (.u 0)) .nil)) .nil)) (ai xM [aG l])=some (.lst [tp (bH s)]):=by
   rw[yx,dX e1]
   rfl
  rw[oZ,this]
  rfl
 have a2:ex F (.for [2] 0 (.En (.var 0)) Mo) (OE (some (false,aG l)) true [bH s] none none none)=some (.next (OE (some (false,aG l)) o' (TL (pg s) l) y2 y3 y4)):=by
  show aE _ ((l.map ax).reverse) _=_
  rw[<-List.map_reverse]
  exact h2
 have a3:ev F true (.prim .tuple (.cons (.prim .sorted (.u 1)) .nil)) (OE (some (false,aG l)) o' (TL (pg s) l) y2 y3 y4)=some (.tup ((bU.bF (TL (pg s) l)).map tp)):=by
  have Nf:ev F true (.var 1) (OE (some (false,aG l)) o' (TL (pg s) l) y2 y3 y4)=some (.lst ((TL (pg s) l).map tp)):=by cases o'<;>rfl
  have hs:ev F true (.prim .sorted (.u 1)) (OE (some (false,aG l)) o' (TL (pg s) l) y2 y3 y4)=some (.lst ((bU.bF (TL (pg s) l)).map tp)):=by
   rw[fH,dX Nf]
   show(eI ((TL (pg s) l).map tp)).map (λks=>D.lst ((bU.bF ks).map nc))=_
   rw[j_ λt h=>tX h1 (H.good ah hv (iL.mp h)).1]
   rfl
  rw[fH,dX hs]
  rfl
 have hx:ex F xM.body (ai xM [aG l])=(ex F (.bV 1 (.lst (.cons (.call 0 (.cons (.prim .len (.u 0)) .nil)) .nil))) (ai xM [aG l])).bind λo=>match o with
   | .next ρ'=>ex F (.seq (.for [2] 0 (.En (.var 0)) Mo) (.seq (.ret (.prim .tuple (.cons (.prim .sorted (.u 1)) .nil))) .skip)) ρ'
   |o=>some o:=rfl
 rw[hx,a1]
 show out (ex F (.seq _ _) _)=_
 rw[br,a2]
 exact cV a3
noncomputable abbrev mv(B:List (List Int)):List D:=B.map λ_=>D.bl true
noncomputable abbrev AE(x0 x1 x2:Option (Bool×D))(B W:List (List Int))(x5 x6 x7:Option (Bool×D)):Env:=[x0,x1,x2,some (true,.bM 1 B (mv B)),some (true,.lst (W.map tp)),x5,x6,x7]
noncomputable abbrev Mp:C:=(.seq (.asg 7 (.call 21 (.w 5 (.u 6)))) (.seq (.ifs (.qu true (.var 7) 3) (.seq (.kB 3 (.var 7) (.c (.bl true))) (.seq (.app 4 (.var 7)) .skip)) .skip) .skip))
noncomputable abbrev IZ:C:=(.seq (.pop 5 4) (.seq (.for [6] 0 (.it (.var 0)) Mp) .skip))
def p4(h:t≠0)(p:List Int):de t (tp p)=some p:=by
 show(if t=0 then none else aP (p.map .int))=some p
 rw[WV h]
 exact cT p
def DR(bQ:∀p∈perms s,∀q∈perms s,F 21 [tp p,tp q]=some (tp (comp p q)))(ht:t∈perms s)(hg:g∈perms s)(hB:B.length<=1000)(hW:W.length<=10000):
  ex F Mp (AE x0 x1 x2 B W (some (false,tp t)) (some (false,tp g)) x7)=some (.next (if comp t g∈B then AE x0 x1 x2 B W (some (false,tp t)) (some (false,tp g)) (some (false,tp (comp t g))) else AE x0 x1 x2 (B++[comp t g]) (W++[comp t g]) (some (false,tp t)) (some (false,tp g)) (some (false,tp (comp t g))))):=by
 have dO:ba=16777216:=rfl
 have h1:ev F false (.call 21 (.w 5 (.u 6))) (AE x0 x1 x2 B W (some (false,tp t)) (some (false,tp g)) x7)=some (tp (comp t g)):=aM (dg rfl rfl) (bQ t ht g hg) (aF _)
 have h2:ev F false (.qu true (.var 7) 3) (AE x0 x1 x2 B W (some (false,tp t)) (some (false,tp g)) (some (false,tp (comp t g))))=some (.bl (!decide (comp t g∈B))):=by
  show((de 1 (tp (comp t g))).map λx=>D.bl (!decide (x∈B)))=_
  rw[p4 (by decide)]
  rfl
 rw[br,aT h1]
 show ex F (.seq (.ifs (.qu true (.var 7) 3) _ .skip) .skip) (AE x0 x1 x2 B W (some (false,tp t)) (some (false,tp g)) (some (false,tp (comp t g))))=_
 by_cases hm:comp t g∈B
 .rw[decide_eq_true hm]at h2
  rw[br,f7,h2,WO hm]
  rfl
 .rw[decide_eq_false hm]at h2
  have s1:ex F (.kB 3 (.var 7) (.c (.bl true))) (AE x0 x1 x2 B W (some (false,tp t)) (some (false,tp g)) (some (false,tp (comp t g))))=some (.next (AE x0 x1 x2 (B++[comp t g]) W (some (false,tp t)) (some (false,tp g)) (some (false,tp (comp t g))))):=by
   show((de 1 (tp (comp t g))).bind λx=>if B.length<ba/\x∉B then some (il.next (put (AE x0 x1 x2 B W (some (false,tp t)) (some (false,tp g)) (some (false,tp (comp t g)))) 3 true (.bM 1 (B++[x]) (mv B++[.bl true])))) else none)=_
   rw[p4 (by decide)]
   show(if B.length<ba/\comp t g∉B then _ else none)=_
   rw[WO ⟨by lia,hm⟩]
   have:mv B++[D.bl true]=mv (B++[comp t g]):=by unfold mv;rw[W4];rfl
   rw[this]
   rfl
  have s2:ex F (.app 4 (.var 7)) (AE x0 x1 x2 (B++[comp t g]) W (some (false,tp t)) (some (false,tp g)) (some (false,tp (comp t g))))=some (.next (AE x0 x1 x2 (B++[comp t g]) (W++[comp t g]) (some (false,tp t)) (some (false,tp g)) (some (false,tp (comp t g))))):=by
   rw[dZ (d:=tp (comp t g)) (xs:=W.map tp) rfl rfl (by rw[Wr];lia)]
   have:W.map tp++[tp (comp t g)]=(W++[comp t g]).map tp:=by rw[W4];rfl
   rw[this]
   rfl
  rw[br,f7,h2,WV hm]
  show((ex F (.seq (.kB 3 (.var 7) (.c (.bl true))) (.seq (.app 4 (.var 7)) .skip)) (AE x0 x1 x2 B W (some (false,tp t)) (some (false,tp g)) (some (false,tp (comp t g))))).bind _)=_
  rw[br,s1]
  show((ex F (.seq (.app 4 (.var 7)) .skip) (AE x0 x1 x2 (B++[comp t g]) W (some (false,tp t)) (some (false,tp g)) (some (false,tp (comp t g))))).bind _)=_
  rw[br,s2]
  rfl
theorem AO(h6:s<=6)(bQ:∀p∈perms s,∀q∈perms s,F 21 [tp p,tp q]=some (tp (comp p q)))(hG:∀g∈G,g∈perms s)(ht:t∈perms s):∀{gs done B W:List (List Int)}{x6 x7:Option (Bool×D)},(∀g∈gs,g∈G)->Am comp (bH s) G t done B W->W.length+gs.length<=5000->
  ∃B' W' y6 y7,aE (λx ρ=>(aA 0 x).bind λys=>(cI ρ [6] ys).bind λρ'=>ex F Mp ρ') (gs.map tp) (AE x0 x1 x2 B W (some (false,tp t)) x6 x7)=some (.next (AE x0 x1 x2 B' W' (some (false,tp t)) y6 y7))/\Am comp (bH s) G t (done++gs) B' W'/\B.length<=B'.length/\B'.length+W.length=B.length+W'.length
 |[],done,B,W,x6,x7,_,h,_=>⟨B,W,x6,x7,rfl,by rw[W9];exact h,WE _,rfl⟩
 |g::gs,done,B,W,x6,x7,I8,h,hn=>by
  rw[WM]at hn
  have Mq:=I8 g Wx
  have hg:=hG g Mq
  have hB:B.length<=720:=Xu (jy _ _ h.nd λx hx=>AB hG (h.gen x hx)) (jx h6)
  have h1:=DR bQ (x0:=x0) (x1:=x1) (x2:=x2) (x7:=x7) (B:=B) (W:=W) ht hg (by lia) (by lia)
  have e0:done++g::gs=(done++[g])++gs:=by rw[WZ];rfl
  by_cases hm:comp t g∈B
  .rw[WO hm]at h1
   refine Jc (AO h6 bQ hG (x0:=x0) (x1:=x1) (x2:=x2) ht (gs:=gs) (done:=done++[g]) (B:=B) (W:=W) (x6:=some (false,tp g)) (x7:=some (false,tp (comp t g))) (λq hq=>I8 q (Wu _ hq)) (h.old hm) (by lia)) λB' W' y6 y7 i1 i2 i3 i4=>⟨B',W',y6,y7,?_,by rw[e0];exact i2,i3,i4⟩
   rw[WJ,iA (ρ':=AE x0 x1 x2 B W (some (false,tp t)) (some (false,tp g)) (some (false,tp (comp t g)))) h1]
   exact i1
  .rw[WV hm]at h1
   refine Jc (AO h6 bQ hG (x0:=x0) (x1:=x1) (x2:=x2) ht (gs:=gs) (done:=done++[g]) (B:=B++[comp t g]) (W:=W++[comp t g]) (x6:=some (false,tp g)) (x7:=some (false,tp (comp t g))) (λq hq=>I8 q (Wu _ hq)) (h.new Mq hm) (by rw[WC,WR];lia)) λB' W' y6 y7 i1 i2 i3 i4=>?_
   rw[WC,WR]at i3
   rw[WC,WR,WC,WR]at i4
   refine⟨B',W',y6,y7,?_,by rw[e0];exact i2,by lia,by lia⟩
   rw[WJ,iA (ρ':=AE x0 x1 x2 (B++[comp t g]) (W++[comp t g]) (some (false,tp t)) (some (false,tp g)) (some (false,tp (comp t g)))) h1]
   exact i1
theorem mM(n:Nat):∀W:List (List Int),dG (W.map tp) (n+1)=true
 |[]=>rfl
 |t::W=>by
  show(ed (tp t) (n+1)&&dG (W.map tp) (n+1))=true
  rw[tR,mM n W]
  rfl
def DS{x0 x1 x2 x5 x6 x7:Option (Bool×D)}{B W:List (List Int)}:ev F false (.cmp .NotEq (.var 4) (.lst .nil)) (AE x0 x1 x2 B W x5 x6 x7)=some (.bl (!W.isEmpty)):=by
 have h1:cmp .NotEq (.lst (W.map tp)) (.lst [])=some (!W.isEmpty):=by
  show(if(ed (.lst (W.map tp)) 60&&ed (.lst []) 60)=true then some (!jI (.lst (W.map tp)) (.lst [])) else none)=_
  have e1:ed (.lst (W.map tp)) 60=true:=mM 58 W
  rw[e1]
  cases W<;>rfl
 show(cmp .NotEq (.lst (W.map tp)) (.lst [])).map D.bl=_
 rw[h1]
 rfl
theorem vK(h6:s<=6)(bQ:∀p∈perms s,∀q∈perms s,F 21 [tp p,tp q]=some (tp (comp p q)))(hG:∀g∈G,g∈perms s)(Ip:G.length<=6):∀(n:Nat) {B W:List (List Int)}{x5 x6 x7:Option (Bool×D)},Al comp (bH s) G B W->2*(720-B.length)+W.length<n->2*(720-B.length)+W.length<=2000->
  ∃B' y5 y6 y7,fU (λρ=>(ev F false (.cmp .NotEq (.var 4) (.lst .nil)) ρ).bind f6) (ex F IZ) n (AE (some (false,.tup (G.map tp))) x1 x2 B W x5 x6 x7)=some (.next (AE (some (false,.tup (G.map tp))) x1 x2 B' [] y5 y6 y7))/\Al comp (bH s) G B' []
 |0,_,_,_,_,_,_,h,_=>absurd h (YG _)
 |n+1,B,W,x5,x6,x7,h,hn,hb=>by
  rw[fU,DS]
  rcases Zg W with rfl|⟨W0,t,rfl⟩
  .exact⟨B,x5,x6,x7,rfl,h⟩
  .rw[Zh]at h hn hb⊢
   rw[WC,WR]at hn hb
   have eU:(W0++[t]).isEmpty =false:=by simp
   rw[eU]
   have VA:t∈B:=h.wb t (WN _ (Ww.mpr rfl))
   have ht:t∈perms s:=AB hG (h.gen t VA)
   refine au λnO=>Jc (AO h6 bQ hG (x0:=some (false,.tup (G.map tp))) (x1:=x1) (x2:=x2) ht (gs:=G) (done:=[]) (B:=B) (W:=W0) (x6:=x6) (x7:=x7) (λ_ z=>z) h.start (by lia)) λB' W' y6 y7 i1 i2 i3 i4=>?_
   rw[XJ]at i2
   have hA:=i2.fin λg hg=>hg
   have VB:B'.length<=720:=Xu (jy _ _ hA.nd λx hx=>AB hG (hA.gen x hx)) (jx h6)
   refine Q3 (vK h6 bQ hG Ip (x1:=x1) (x2:=x2) n (B:=B') (W:=W') (x5:=some (false,tp t)) (x6:=y6) (x7:=y7) hA (by lia) (by lia)) λB2 z5 z6 z7 j1 j2=>nO ?_
   refine⟨B2,z5,z6,z7,?_,j2⟩
   have p1:ex F (.pop 5 4) (AE (some (false,.tup (G.map tp))) x1 x2 B (W0++[t]) x5 x6 x7)=some (.next (AE (some (false,.tup (G.map tp))) x1 x2 B W0 (some (false,tp t)) x6 x7)):=by
    have e1:((W0++[t]).map tp).getLast? =some (tp t):=by rw[W4];simp
    have e2:((W0++[t]).map tp).dropLast =W0.map tp:=by rw[W4];simp
    show(((W0++[t]).map tp).getLast?.map λz=>il.next (put (put (AE (some (false,.tup (G.map tp))) x1 x2 B (W0++[t]) x5 x6 x7) 4 true (.lst ((W0++[t]).map tp).dropLast)) 5 false z))=_
    rw[e1,e2]
    rfl
   have p2:ex F (.for [6] 0 (.it (.var 0)) Mp) (AE (some (false,.tup (G.map tp))) x1 x2 B W0 (some (false,tp t)) x6 x7)=some (.next (AE (some (false,.tup (G.map tp))) x1 x2 B' W' (some (false,tp t)) y6 y7)):=i1
   have p3:ex F IZ (AE (some (false,.tup (G.map tp))) x1 x2 B (W0++[t]) x5 x6 x7)=some (.next (AE (some (false,.tup (G.map tp))) x1 x2 B' W' (some (false,tp t)) y6 y7)):=by
    rw[br,p1]
    show ex F (.seq (.for [6] 0 (.it (.var 0)) Mp) .skip) _=_
    rw[br,p2]
    rfl
   show((ex F IZ (AE (some (false,.tup (G.map tp))) x1 x2 B (W0++[t]) x5 x6 x7)).bind _)=_
   rw[p3]
   exact j1
def Iq(h1:1<=s)(h6:s<=6)(bQ:∀p∈perms s,∀q∈perms s,F 21 [tp p,tp q]=some (tp (comp p q)))(hG:∀g∈G,g∈perms s)(Ip:G.length<=6):
  ∃B,out (ex F DF.body (ai DF [.tup (G.map tp),.int s]))=some (.lst ((bU.bF B).map tp))/\Al comp (bH s) G B []:=by
 obtain⟨B,y5,y6,y7,i1,i2⟩:=vK h6 bQ hG Ip (x1:=some (false,.int s)) (x2:=some (false,tp (bH s))) et (B:=[bH s]) (W:=[bH s]) (x5:=none) (x6:=none) (x7:=none) Si (by
  have:et=1000000:=rfl
  rw[this,WR];lia) (by rw[WR];lia)
 refine⟨B,?_,i2⟩
 have a1:ev F false (.iW .tuple (.u 1)) (ai DF [.tup (G.map tp),.int s])=some (tp (bH s)):=by
  show(cM [.int s]).bind (lN .tuple)=_
  rw[bP (by lia),dU]
  rfl
 have a2:ex F (.ng 3 1 (.w 2 (.cons (.c (.bl true)) .nil))) [some (false,.tup (G.map tp)),some (false,.int s),some (false,tp (bH s)),none,none,none,none,none]=some (.next [some (false,.tup (G.map tp)),some (false,.int s),some (false,tp (bH s)),some (true,.bM 1 [bH s] [.bl true]),none,none,none,none]):=by
  show(((de 1 (tp (bH s))).map λx=>D.bM 1 [x] [.bl true]).map λd=>il.next (put [some (false,.tup (G.map tp)),some (false,.int s),some (false,tp (bH s)),none,none,none,none,none] 3 true d))=_
  rw[p4 (by decide)]
  rfl
 have a3:ex F (.while (.cmp .NotEq (.var 4) (.lst .nil)) IZ) (AE (some (false,.tup (G.map tp))) (some (false,.int s)) (some (false,tp (bH s))) [bH s] [bH s] none none none)=some (.next (AE (some (false,.tup (G.map tp))) (some (false,.int s)) (some (false,tp (bH s))) B [] y5 y6 y7)):=i1
 have a4:ev F true (.dm 3) (AE (some (false,.tup (G.map tp))) (some (false,.int s)) (some (false,tp (bH s))) B [] y5 y6 y7)=some (.lst ((bU.bF B).map tp)):=by
  show(if []∈B then none else some (D.lst ((bU.bF B).map nc)))=_
  rw[WV λz=>tX h1 (AB hG (i2.gen _ z)) rfl]
  rfl
 have hx:ex F DF.body (ai DF [.tup (G.map tp),.int s])=(ex F (.asg 2 (.iW .tuple (.u 1))) (ai DF [.tup (G.map tp),.int s])).bind λo=>match o with
   | .next ρ'=>ex F (.seq (.ng 3 1 (.w 2 (.cons (.c (.bl true)) .nil))) (.seq (.bV 4 (.lst (.u 2))) (.seq (.while (.cmp .NotEq (.var 4) (.lst .nil)) IZ) (.seq (.ret (.dm 3)) .skip)))) ρ'
   |o=>some o:=rfl
 rw[hx,aT a1]
 show out (ex F (.seq (.ng 3 1 (.w 2 (.cons (.c (.bl true)) .nil))) _) [some (false,.tup (G.map tp)),some (false,.int s),some (false,tp (bH s)),none,none,none,none,none])=_
 rw[br,a2]
 show out (ex F (.seq (.while (.cmp .NotEq (.var 4) (.lst .nil)) IZ) (.seq (.ret (.dm 3)) .skip)) (AE (some (false,.tup (G.map tp))) (some (false,.int s)) (some (false,tp (bH s))) [bH s] [bH s] none none none))=_
 rw[br,a3]
 exact cV a4
end
section
variable {s:Nat}{F:FT}
def AQ(ht:t∈perms s)(hi:i<=s):t.take i=bH i↔iK (pg s) t i:=by
 have hl:=aB ht
 constructor
 .intro h k hk
  have h1:=iz ht (show k<s by lia)
  have e:(t.take i).getD k 0=(bH i).getD k 0:=by rw[h]
  rw[tT hk,Wz,Y0,WO hk,<-Wz,h1]at e
  lia
 .intro h
  apply XD
  intro k
  rw[Y0]
  by_cases hk:k<i
  .rw[WO hk]
   have h1:=iz ht (show k<s by lia)
   have h2:=tT hk
   rw[h k hk]at h1
   have la:k<t.length:=by lia
   have lb:k<(bH i).length :=by rw[aB (dW i)];exact hk
   rw[Wz,Wq la]at h1
   rw[Wz,Wq lb]at h2
   rw[Wq la,Wq lb]
   have PK:t[k]=(k:Int):=h1
   have Ls:(bH i)[k]=(k:Int):=h2
   rw[PK,Ls]
  .rw[WV hk,WS (by rw[aB (dW i)];lia)]
noncomputable def cn(s i p:Nat)(t:List Int):Bool:=decide (t.take i=bH i)&&decide ((pg s).im t i=p)
def j'(ht:t∈perms s)(hi:i<=s):cn s i p t=true↔iK (pg s) t i/\(pg s).im t i=p:=by
 unfold cn
 rw[Ws,decide_eq_true_eq,decide_eq_true_eq,AQ ht hi]
def AR{M:List Int->Prop}(hM:cy (pg s) M){Ts:List (List Int)}(hT:∀t,t∈Ts↔M t){i p:Nat}(hi:i<s){a:List Int}{r:List (List Int)}(h:Ts.filter (cn s i p)=a::r):fA (pg s) M i p (bU.hZ a r):=by
 have mem:∀x,x∈a::r↔M x/\iK (pg s) x i/\(pg s).im x i=p:=λx=>by
  rw[<-h,Xx,hT]
  constructor
  .rintro⟨h1,h2⟩
   exact⟨h1,(j' (hM.s x h1) (by lia)).mp h2⟩
  .rintro⟨h1,h2⟩
   exact⟨h1,(j' (hM.s x h1) (by lia)).mpr h2⟩
 refine cU ((mem _).mp (bU.qT r a)) λm1 m2 m3=>⟨m1,m2,m3,λt h1 h2 h3=>?_⟩
 have yE:=bU.uF r a t ((mem t).mpr ⟨h1,h2,h3⟩)
 cases e:bU.bD (bU.hZ a r) t with
 |true=>exact .inr ((DE (hM.s _ m1) (hM.s t h1)).mpr e)
 |false=>exact .inl (bU.jQ _ _ e yE)
def DT{M:List Int->Prop}(hM:cy (pg s) M){Ts:List (List Int)}(hT:∀t,t∈Ts↔M t){i p:Nat}(hi:i<s)(h:Ts.filter (cn s i p)=[]):¬ ∃x,fA (pg s) M i p x:=λzz=>by
 obtain⟨x,b⟩:=zz
 have:x∈Ts.filter (cn s i p):=Xx.mpr ⟨(hT x).mpr b.1,(j' (hM.s x b.1) (by lia)).mpr ⟨b.2.1,b.2.2.1⟩⟩
 rw[h]at this
 cases this
noncomputable abbrev AS:E:=(.comp [3,5] 0 (.it (.var 0)) (.cons (.wu true (.cons (.cmp .Eq (.sl (.var 0) .nil (.u 1)) (.iW .tuple (.u 1))) (.cons (.cmp .Eq (.idx (.var 0) (.var 1)) (.var 2)) .nil))) .nil) (.var 0))
noncomputable abbrev E3:C:=(.seq (.bV 6 AS) (.seq (.ifs (.cmp .NotEq (.var 6) (.lst .nil)) (.seq (.app 4 (.tup (.w 5 (.cons (.prim .min (.u 6)) .nil)))) .skip) .skip) .skip))
noncomputable abbrev Nu:C:=(.seq (.bV 4 (.lst .nil)) (.seq (.for [5] 0 (.c8 (.u 1)) E3) (.seq (.app 2 (.prim .tuple (.u 4))) .skip)))
noncomputable abbrev ZE(Ts:List (List Int))(s:Nat)(x2 x3:Option (Bool×D))(acc:List D)(x5 x6:Option (Bool×D)):Env:=[some (false,.lst (Ts.map tp)),some (false,.int s),x2,x3,some (true,.lst acc),x5,x6]
def DU(h6:s<=6){Ts:List (List Int)}(BB:∀t∈Ts,t∈perms s)(k9:Ts.length<=1000){i p:Nat}(hi:i<s){x2 x6:Option (Bool×D)}{acc:List D}:
  ev F false AS (ZE Ts s x2 (some (false,.int i)) acc (some (false,.int p)) x6)=some (.lst ((Ts.filter (cn s i p)).map tp)):=by
 have dO:ba=16777216:=rfl
 have hw:walk (fu F [3,5] (.cons (.wu true (.cons (.cmp .Eq (.sl (.var 0) .nil (.u 1)) (.iW .tuple (.u 1))) (.cons (.cmp .Eq (.idx (.var 0) (.var 1)) (.var 2)) .nil))) .nil) (.var 0) (ZE Ts s x2 (some (false,.int i)) acc (some (false,.int p)) x6)) (Ts.map tp)=some ((Ts.filter (cn s i p)).map tp):=by
  clear k9
  induction Ts with
  |nil=>rfl
  |cons t Ts ih=>
   have ht:=BB t Wx
   have hl:=aB ht
   let ρ:Env:=[some (false,tp t),some (false,.int i),some (false,.int p)]
   have c1:ev F false (.cmp .Eq (.sl (.var 0) .nil (.u 1)) (.iW .tuple (.u 1))) ρ=some (.bl (decide (t.take i=bH i))):=by
    have e1:ev F true (.sl (.var 0) .nil (.u 1)) ρ=some (tp (t.take i)):=by
     show some (D.tup (xH (t.map .int) none (some (i:Int))))=_
     rw[rG _ _ (by rw[Wr];lia),<-List.map_take]
     rfl
    have e2:ev F true (.iW .tuple (.u 1)) ρ=some (tp (bH i)):=by
     show(cM [.int i]).bind (lN .tuple)=_
     rw[bP (by lia),dU]
     rfl
    rw[nh,e1,e2]
    show(cmp .Eq (tp (t.take i)) (tp (bH i))).map D.bl=_
    rw[Ma]
    rfl
   have c2:ev F false (.cmp .Eq (.idx (.var 0) (.var 1)) (.var 2)) ρ=some (.bl (decide ((pg s).im t i=p))):=by
    have e1:ev F true (.idx (.var 0) (.var 1)) ρ=some (.int ((pg s).im t i:Nat)):=fP ht hi
    rw[nh,e1]
    show some (D.bl ((((pg s).im t i:Nat):Int)==(p:Int)))=_
    rw[kZ]
   have c3:fG F true (.cons (.wu true (.cons (.cmp .Eq (.sl (.var 0) .nil (.u 1)) (.iW .tuple (.u 1))) (.cons (.cmp .Eq (.idx (.var 0) (.var 1)) (.var 2)) .nil))) .nil) ρ=some (cn s i p t):=by
    have c4:fG F true (.cons (.cmp .Eq (.sl (.var 0) .nil (.u 1)) (.iW .tuple (.u 1))) (.cons (.cmp .Eq (.idx (.var 0) (.var 1)) (.var 2)) .nil)) ρ=some (cn s i p t):=by
     rw[fG,c1]
     show(if decide (t.take i=bH i)=true then fG F true (.cons (.cmp .Eq (.idx (.var 0) (.var 1)) (.var 2)) .nil) ρ else some (decide (t.take i=bH i)))=_
     rw[fG,c2]
     unfold cn
     cases decide (t.take i=bH i)<;>cases decide ((pg s).im t i=p)<;>rfl
    have c5:ev F false (.wu true (.cons (.cmp .Eq (.sl (.var 0) .nil (.u 1)) (.iW .tuple (.u 1))) (.cons (.cmp .Eq (.idx (.var 0) (.var 1)) (.var 2)) .nil))) ρ=some (.bl (cn s i p t)):=by
     rw[Oz,c4]
     rfl
    rw[fG,c5]
    cases cn s i p t<;>rfl
   have F_:=ih λx hx=>BB x (Wu _ hx)
   have Kb:fu F [3,5] (.cons (.wu true (.cons (.cmp .Eq (.sl (.var 0) .nil (.u 1)) (.iW .tuple (.u 1))) (.cons (.cmp .Eq (.idx (.var 0) (.var 1)) (.var 2)) .nil))) .nil) (.var 0) (ZE (t::Ts) s x2 (some (false,.int i)) acc (some (false,.int p)) x6) (tp t)=some (if cn s i p t then some (tp t) else none):=by
    show((fG F true _ ρ).bind λk=>if k then some (some (tp t)) else some none)=_
    rw[c3]
    cases cn s i p t<;>rfl
   have Sy:walk (fu F [3,5] (.cons (.wu true (.cons (.cmp .Eq (.sl (.var 0) .nil (.u 1)) (.iW .tuple (.u 1))) (.cons (.cmp .Eq (.idx (.var 0) (.var 1)) (.var 2)) .nil))) .nil) (.var 0) (ZE (t::Ts) s x2 (some (false,.int i)) acc (some (false,.int p)) x6)) (Ts.map tp)=some ((Ts.filter (cn s i p)).map tp):=F_
   rw[WJ,walk,Kb,X_]
   cases cn s i p t with
   |true=>
    show(walk _ (Ts.map tp)).map (tp t:: ·)=_
    rw[Sy]
    rfl
   |false=>exact Sy
 have hv:ev F true (.var 0) (ZE Ts s x2 (some (false,.int i)) acc (some (false,.int p)) x6)=some (.lst (Ts.map tp)):=rfl
 rw[dz hv rfl (by rw[Wr];lia),hw]
 rfl
open Classical in
theorem AU(h6:s<=6)(h1:1<=s){M:List Int->Prop}(hM:cy (pg s) M){Ts:List (List Int)}(hT:∀t,t∈Ts↔M t)(k9:Ts.length<=1000){i:Nat}(hi:i<s){x2:Option (Bool×D)}:∀{qs:List Nat}{acc:List D}{x5 x6:Option (Bool×D)},acc.length+qs.length<=10000->
  ∃y5 y6,aE (λx ρ=>(aA 0 x).bind λys=>(cI ρ [5] ys).bind λρ'=>ex F E3 ρ') (qs.map λ(k:Nat)=>D.int (k:Int)) (ZE Ts s x2 (some (false,.int i)) acc x5 x6)=some (.next (ZE Ts s x2 (some (false,.int i)) (acc++((qs.filter λp=>decide (∃x,fA (pg s) M i p x)).map λp=>pairD (p,cq (pg s) M i p))) y5 y6))
 |[],acc,x5,x6,_=>⟨x5,x6,by show some (il.next _)=_;rw[List.filter_nil,ZG,W9]⟩
 |p::qs,acc,x5,x6,hn=>by
  rw[WM]at hn
  have dO:ba=16777216:=rfl
  have BB:∀t∈Ts,t∈perms s:=λt h=>hM.s t ((hT t).mp h)
  have hg:=DU (F:=F) h6 BB k9 (p:=p) hi (x2:=x2) (x6:=x6) (acc:=acc)
  have a1:ex F (.bV 6 AS) (ZE Ts s x2 (some (false,.int i)) acc (some (false,.int p)) x6)=some (.next (ZE Ts s x2 (some (false,.int i)) acc (some (false,.int p)) (some (true,.lst ((Ts.filter (cn s i p)).map tp))))):=by
   rw[oZ,hg]
   rfl
  have a2:ev F false (.cmp .NotEq (.var 6) (.lst .nil)) (ZE Ts s x2 (some (false,.int i)) acc (some (false,.int p)) (some (true,.lst ((Ts.filter (cn s i p)).map tp))))=some (.bl (!(Ts.filter (cn s i p)).isEmpty)):=by
   have h1:∀W:List (List Int),cmp .NotEq (.lst (W.map tp)) (.lst [])=some (!W.isEmpty):=λW=>by
    show(if(ed (.lst (W.map tp)) 60&&ed (.lst []) 60)=true then some (!jI (.lst (W.map tp)) (.lst [])) else none)=_
    have e1:ed (.lst (W.map tp)) 60=true:=mM 58 W
    rw[e1]
    cases W<;>rfl
   show(cmp .NotEq (.lst ((Ts.filter (cn s i p)).map tp)) (.lst [])).map D.bl=_
   rw[h1]
   rfl
  cases hf:Ts.filter (cn s i p)with
  |nil=>
   rw[hf]at a1 a2
   refine D5 (AU h6 h1 hM hT k9 hi (x2:=x2) (qs:=qs) (acc:=acc) (x5:=some (false,.int p)) (x6:=some (true,.lst [])) (by lia)) λy5 y6 ih=>⟨y5,y6,?_⟩
   have hb:ex F E3 (put (ZE Ts s x2 (some (false,.int i)) acc x5 x6) 5 false (.int p))=some (.next (ZE Ts s x2 (some (false,.int i)) acc (some (false,.int p)) (some (true,.lst [])))):=by
    show ex F E3 (ZE Ts s x2 (some (false,.int i)) acc (some (false,.int p)) x6)=_
    rw[br,a1]
    show ex F (.seq (.ifs (.cmp .NotEq (.var 6) (.lst .nil)) (.seq (.app 4 (.tup (.w 5 (.cons (.prim .min (.u 6)) .nil)))) .skip) .skip) .skip) (ZE Ts s x2 (some (false,.int i)) acc (some (false,.int p)) (some (true,.lst [])))=_
    rw[br,f7]
    have Qy:ev F false (.cmp .NotEq (.var 6) (.lst .nil)) (ZE Ts s x2 (some (false,.int i)) acc (some (false,.int p)) (some (true,.lst [])))=some (.bl false):=a2
    rw[Qy]
    rfl
   rw[WJ,iA hb,ih,X_,WV (by rw[decide_eq_true_eq];exact DT hM hT hi hf)]
  |cons a r=>
   rw[hf]at a1 a2
   have rS:=AR hM hT hi hf
   refine D5 (AU h6 h1 hM hT k9 hi (x2:=x2) (qs:=qs) (acc:=acc++[pairD (p,cq (pg s) M i p)]) (x5:=some (false,.int p)) (x6:=some (true,.lst ((a::r).map tp))) (by rw[WC,WR];lia)) λy5 y6 ih=>⟨y5,y6,?_⟩
   have Aq:ev F false (.prim .min (.u 6)) (ZE Ts s x2 (some (false,.int i)) acc (some (false,.int p)) (some (true,.lst ((a::r).map tp))))=some (tp (bU.hZ a r)):=by
    show((eI ((a::r).map tp)).bind λks=>match ks with|[]=>none|a::r=>some (nc (bU.hZ a r)))=_
    rw[j_ λt ht=>tX h1 (BB t (Xx.mp (show t∈Ts.filter (cn s i p) by rw[hf];exact ht)).1)]
    rfl
   have Qz:ev F false (.tup (.w 5 (.cons (.prim .min (.u 6)) .nil))) (ZE Ts s x2 (some (false,.int i)) acc (some (false,.int p)) (some (true,.lst ((a::r).map tp))))=some (pairD (p,cq (pg s) M i p)):=by
    have:=dg (b:=false) (F:=F) (ρ:=ZE Ts s x2 (some (false,.int i)) acc (some (false,.int p)) (some (true,.lst ((a::r).map tp)))) (a:= .var 5) (x:= .int p) rfl Aq
    rw[sU,this,fB rS]
    rfl
   have QA:ex F (.app 4 (.tup (.w 5 (.cons (.prim .min (.u 6)) .nil)))) (ZE Ts s x2 (some (false,.int i)) acc (some (false,.int p)) (some (true,.lst ((a::r).map tp))))=some (.next (ZE Ts s x2 (some (false,.int i)) (acc++[pairD (p,cq (pg s) M i p)]) (some (false,.int p)) (some (true,.lst ((a::r).map tp))))):=by
    rw[dZ Qz (xs:=acc) rfl (by lia)]
    rfl
   have hb:ex F E3 (put (ZE Ts s x2 (some (false,.int i)) acc x5 x6) 5 false (.int p))=some (.next (ZE Ts s x2 (some (false,.int i)) (acc++[pairD (p,cq (pg s) M i p)]) (some (false,.int p)) (some (true,.lst ((a::r).map tp))))):=by
    show ex F E3 (ZE Ts s x2 (some (false,.int i)) acc (some (false,.int p)) x6)=_
    rw[br,a1]
    show ex F (.seq (.ifs (.cmp .NotEq (.var 6) (.lst .nil)) (.seq (.app 4 (.tup (.w 5 (.cons (.prim .min (.u 6)) .nil)))) .skip) .skip) .skip) (ZE Ts s x2 (some (false,.int i)) acc (some (false,.int p)) (some (true,.lst ((a::r).map tp))))=_
    have Qy:ev F false (.cmp .NotEq (.var 6) (.lst .nil)) (ZE Ts s x2 (some (false,.int i)) acc (some (false,.int p)) (some (true,.lst ((a::r).map tp))))=some (.bl true):=a2
    rw[br,f7,Qy]
    show((ex F (.seq (.app 4 (.tup (.w 5 (.cons (.prim .min (.u 6)) .nil)))) .skip) (ZE Ts s x2 (some (false,.int i)) acc (some (false,.int p)) (some (true,.lst ((a::r).map tp))))).bind _)=_
    rw[br,QA]
    rfl
   rw[WJ,iA hb,ih,X_,WO (by rw[decide_eq_true_eq];exact⟨_,rS⟩),WJ,WZ]
   rfl
theorem AV(h6:s<=6)(h1:1<=s){M:List Int->Prop}(hM:cy (pg s) M){Ts:List (List Int)}(hT:∀t,t∈Ts↔M t)(k9:Ts.length<=1000):∀{is:List Nat}{acc:List D}{x3 x4 x5 x6:Option (Bool×D)},(∀i∈is,i<s)->acc.length+is.length<=1000->
  ∃y3 y4 y5 y6,aE (λx ρ=>(aA 0 x).bind λys=>(cI ρ [3] ys).bind λρ'=>ex F Nu ρ') (is.map λ(k:Nat)=>D.int (k:Int)) [some (false,.lst (Ts.map tp)),some (false,.int s),some (true,.lst acc),x3,x4,x5,x6]=
   some (.next [some (false,.lst (Ts.map tp)),some (false,.int s),some (true,.lst (acc++is.map λi=>ax (a_ (pg s) M i))),y3,y4,y5,y6])
 |[],acc,x3,x4,x5,x6,_,_=>⟨x3,x4,x5,x6,by show some (il.next _)=_;rw[ZG,W9]⟩
 |i::is,acc,x3,x4,x5,x6,Sz,hn=>by
  rw[WM]at hn
  have dO:ba=16777216:=rfl
  have hi:=Sz i Wx
  refine D5 (AU h6 h1 hM hT k9 hi (F:=F) (x2:=some (true,.lst acc)) (qs:=List.range s) (acc:=[]) (x5:=x5) (x6:=x6) (by rw[XZ,Yf];lia)) λz5 z6 i1=>?_
  have er:((List.range s).filter λp=>@decide (∃x,fA (pg s) M i p x) (Classical.propDecidable _)).map (λp=>pairD (p,cq (pg s) M i p))=(a_ (pg s) M i).map pairD:=by
   unfold a_
   rw[W6]
   rfl
  rw[XJ,er]at i1
  refine ME (AV h6 h1 hM hT k9 (is:=is) (acc:=acc++[ax (a_ (pg s) M i)]) (x3:=some (false,.int i)) (x4:=some (true,.lst ((a_ (pg s) M i).map pairD))) (x5:=z5) (x6:=z6) (λj hj=>Sz j (Wu _ hj)) (by rw[WC,WR];lia)) λy3 y4 y5 y6 ih=>⟨y3,y4,y5,y6,?_⟩
  have a2:ex F (.for [5] 0 (.c8 (.u 1)) E3) (ZE Ts s (some (true,.lst acc)) (some (false,.int i)) [] x5 x6)=some (.next (ZE Ts s (some (true,.lst acc)) (some (false,.int i)) ((a_ (pg s) M i).map pairD) z5 z6)):=by
   have hr:(cv F false (.u 1) (ZE Ts s (some (true,.lst acc)) (some (false,.int i)) [] x5 x6)).bind cM=some (bB 0 s):=bP (by lia)
   rw[vt hr,b_]
   exact i1
  have a3:ex F (.app 2 (.prim .tuple (.u 4))) (ZE Ts s (some (true,.lst acc)) (some (false,.int i)) ((a_ (pg s) M i).map pairD) z5 z6)=some (.next (ZE Ts s (some (true,.lst (acc++[ax (a_ (pg s) M i)]))) (some (false,.int i)) ((a_ (pg s) M i).map pairD) z5 z6)):=by
   rw[dZ (d:=ax (a_ (pg s) M i)) (xs:=acc) rfl rfl (by lia)]
   rfl
  have hb:ex F Nu (put [some (false,.lst (Ts.map tp)),some (false,.int s),some (true,.lst acc),x3,x4,x5,x6] 3 false (.int i))=some (.next (ZE Ts s (some (true,.lst (acc++[ax (a_ (pg s) M i)]))) (some (false,.int i)) ((a_ (pg s) M i).map pairD) z5 z6)):=by
   show ex F (.seq (.for [5] 0 (.c8 (.u 1)) E3) (.seq (.app 2 (.prim .tuple (.u 4))) .skip)) (ZE Ts s (some (true,.lst acc)) (some (false,.int i)) [] x5 x6)=_
   rw[br,a2]
   show ex F (.seq (.app 2 (.prim .tuple (.u 4))) .skip) (ZE Ts s (some (true,.lst acc)) (some (false,.int i)) ((a_ (pg s) M i).map pairD) z5 z6)=_
   rw[br,a3]
   rfl
  rw[WJ,iA hb,WJ,show acc++ax (a_ (pg s) M i)::is.map (λi=>ax (a_ (pg s) M i))=(acc++[ax (a_ (pg s) M i)])++is.map (λi=>ax (a_ (pg s) M i)) by rw[WZ];rfl]
  exact ih
def tY(h6:s<=6)(h1:1<=s){M:List Int->Prop}(hM:cy (pg s) M){Ts:List (List Int)}(hT:∀t,t∈Ts↔M t)(k9:Ts.length<=1000):
  out (ex F Ii.body (ai Ii [.lst (Ts.map tp),.int s]))=some (aG (bz (pg s) M 0)):=by
 refine ME (AV h6 h1 hM hT k9 (F:=F) (is:=List.range s) (acc:=[]) (x3:=none) (x4:=none) (x5:=none) (x6:=none) (λi h=>W7.mp h) (by rw[XZ,Yf];lia)) λy3 y4 y5 y6 i1=>?_
 rw[XJ]at i1
 have a1:ex F (.for [3] 0 (.c8 (.u 1)) Nu) [some (false,.lst (Ts.map tp)),some (false,.int s),some (true,.lst []),none,none,none,none]=some (.next [some (false,.lst (Ts.map tp)),some (false,.int s),some (true,.lst ((List.range s).map λi=>ax (a_ (pg s) M i))),y3,y4,y5,y6]):=by
  have hr:(cv F false (.u 1) [some (false,.lst (Ts.map tp)),some (false,.int s),some (true,.lst []),none,none,none,none]).bind cM=some (bB 0 s):=bP (by lia)
  rw[vt hr,b_]
  exact i1
 have hx:ex F Ii.body (ai Ii [.lst (Ts.map tp),.int s])=(ex F (.for [3] 0 (.c8 (.u 1)) Nu) [some (false,.lst (Ts.map tp)),some (false,.int s),some (true,.lst []),none,none,none,none]).bind λo=>match o with
   | .next ρ'=>ex F (.seq (.ret (.prim .tuple (.u 2))) .skip) ρ'
   |o=>some o:=rfl
 rw[hx,a1]
 show some (D.tup ((List.range s).map λi=>ax (a_ (pg s) M i)))=_
 unfold aG bz
 rw[W6,Yn]
 rfl
end
section
variable {s:Nat}{F:FT}
def aN(h:ex F a ρ=some (.next ρ')):ex F (.seq a b) ρ=ex F b ρ':=by
 rw[br,h]
 rfl
noncomputable def r_(l:List (Rg (List Int))):List (List Int):=l.flatMap λR=>R.map (·.2)
noncomputable abbrev I9:E:= .comp [] 0 (.it (.var 2)) .nil (.idx (.var 0) (.c (.int 1)))
theorem vL:∀{l:List (Rg (List Int))}{acc:List (List Int)}{x2:Option (Bool×D)},acc.length+(r_ l).length <=10000->
  ∃y2,aE (λx ρ=>(aA 0 x).bind λys=>(cI ρ [2] ys).bind λρ'=>ex F (.seq (.ext 1 I9) .skip) ρ') (l.map ax) [x0,some (true,.lst (acc.map tp)),x2]=some (.next [x0,some (true,.lst ((acc++r_ l).map tp)),y2])
 |[],acc,x2,_=>⟨x2,by show some (il.next _)=_;rw[show r_ []=[] from rfl,W9]⟩
 |R::l,acc,x2,h=>by
  have e0:r_ (R::l)=R.map (·.2)++r_ l:=rfl
  rw[e0,WC,Wr]at h
  have dO:ba=16777216:=rfl
  obtain⟨y2,ih⟩:=vL (l:=l) (acc:=acc++R.map (·.2)) (x0:=x0) (x2:=some (false,ax R)) (by rw[WC,Wr];lia)
  refine⟨y2,?_⟩
  have hc:ev F false I9 [x0,some (true,.lst (acc.map tp)),some (false,ax R)]=some (.lst ((R.map (·.2)).map tp)):=by
   rw[dz (d:=ax R) rfl (xs:=R.map pairD) rfl (by rw[Wr];lia),bO pairD (λe=>tp e.2) _ R (λe _=>rfl),W6]
   rfl
  have hb:ex F (.seq (.ext 1 I9) .skip) (put [x0,some (true,.lst (acc.map tp)),x2] 2 false (ax R))=some (.next [x0,some (true,.lst ((acc++R.map (·.2)).map tp)),some (false,ax R)]):=by
   show ex F (.seq (.ext 1 I9) .skip) [x0,some (true,.lst (acc.map tp)),some (false,ax R)]=_
   rw[br,J_,hc]
   show((if(acc.map tp).length+((R.map (·.2)).map tp).length <=ba then _ else none).bind _)=_
   rw[WO (by simp only[Wr];lia),<-W4]
   rfl
  rw[WJ,iA hb,ih,e0,WZ]
def xw(h:(r_ l).length <=10000):out (ex F Mf.body (ai Mf [aG l]))=some (.tup ((r_ l).map tp)):=by
 obtain⟨y2,h1⟩:=vL (F:=F) (x0:=some (false,aG l)) (l:=l) (acc:=[]) (x2:=none) (by rw[XZ];lia)
 have hf:ex F (.for [2] 0 (.it (.var 0)) (.seq (.ext 1 I9) .skip)) [some (false,aG l),some (true,.lst []),none]=some (.next [some (false,aG l),some (true,.lst ((r_ l).map tp)),y2]):=h1
 show out (ex F (.seq (.for [2] 0 (.it (.var 0)) (.seq (.ext 1 I9) .skip)) _) [some (false,aG l),some (true,.lst []),none])=_
 rw[aN hf]
 rfl
noncomputable def aO(k:Nat):D:= .int k
noncomputable abbrev OR(x0 x1 x2:Option (Bool×D))(B W:List Nat)(x5 x6:Option (Bool×D)):Env:=[x0,x1,x2,some (true,.bM 0 (B.map λk:Nat=>[(k:Int)]) (B.map λ_=>D.bl true)),some (true,.lst (W.map aO)),x5,x6]
noncomputable abbrev Nv:C:= .seq (.ifs (.qu true (.idx (.var 6) (.var 5)) 3) (.seq (.kB 3 (.idx (.var 6) (.var 5)) (.c (.bl true))) (.seq (.app 4 (.idx (.var 6) (.var 5))) .skip)) .skip) .skip
noncomputable abbrev Nw:C:= .seq (.pop 5 4) (.seq (.for [6] 0 (.it (.var 2)) Nv) .skip)
noncomputable abbrev go(s:Nat)(p:Nat)(g:List Int):Nat:=(pg s).im g p
def rW{B:List Nat}{k:Nat}:[(k:Int)]∈B.map (λk:Nat=>[(k:Int)])↔k∈B:=by
 rw[WD]
 constructor
 .rintro⟨j,h,e⟩
  have:j=k:=by injection e with e _;lia
  exact this▸h
 .exact λh=>⟨k,h,rfl⟩
def DV(hg:g∈perms s)(hp:p<s)(hB:B.length<=1000)(hW:W.length<=10000):ex F Nv (OR x0 x1 x2 B W (some (false,aO p)) (some (false,tp g)))=
  some (.next (if go s p g∈B then OR x0 x1 x2 B W (some (false,aO p)) (some (false,tp g)) else OR x0 x1 x2 (B++[go s p g]) (W++[go s p g]) (some (false,aO p)) (some (false,tp g)))):=by
 have dO:ba=16777216:=rfl
 have hi:∀B W,ev F false (.idx (.var 6) (.var 5)) (OR x0 x1 x2 B W (some (false,aO p)) (some (false,tp g)))=some (aO (go s p g)):=λB W=>fP hg hp
 have h2:ev F false (.qu true (.idx (.var 6) (.var 5)) 3) (OR x0 x1 x2 B W (some (false,aO p)) (some (false,tp g)))=some (.bl (!decide ([((go s p g:Nat):Int)]∈B.map λk:Nat=>[(k:Int)]))):=by
  rw[J3,hi]
  rfl
 by_cases hm:go s p g∈B
 .rw[decide_eq_true (rW.mpr hm)]at h2
  rw[br,f7,h2,WO hm]
  rfl
 .have El:[((go s p g:Nat):Int)]∉B.map (λk:Nat=>[(k:Int)]):=λz=>hm (rW.mp z)
  rw[decide_eq_false El]at h2
  have s1:ex F (.kB 3 (.idx (.var 6) (.var 5)) (.c (.bl true))) (OR x0 x1 x2 B W (some (false,aO p)) (some (false,tp g)))=some (.next (OR x0 x1 x2 (B++[go s p g]) W (some (false,aO p)) (some (false,tp g)))):=by
   show(((ev F false (.idx (.var 6) (.var 5)) (OR x0 x1 x2 B W (some (false,aO p)) (some (false,tp g)))).bind (de 0)).bind _)=_
   rw[hi]
   show(if _ then _ else none)=_
   rw[WO ⟨by rw[Wr];lia,El⟩]
   unfold OR
   rw[W4,W4]
   rfl
  have s2:ex F (.app 4 (.idx (.var 6) (.var 5))) (OR x0 x1 x2 (B++[go s p g]) W (some (false,aO p)) (some (false,tp g)))=some (.next (OR x0 x1 x2 (B++[go s p g]) (W++[go s p g]) (some (false,aO p)) (some (false,tp g)))):=by
   rw[dZ (hi _ _) (xs:=W.map aO) rfl (by rw[Wr];lia)]
   unfold OR
   rw[W4 (l₁:=W)]
   rfl
  rw[br,f7,h2,WV hm]
  show((ex F (.seq (.kB 3 (.idx (.var 6) (.var 5)) (.c (.bl true))) _) _).bind _)=_
  rw[aN s1,aN s2]
  rfl
def AW(hG:∀g∈G,g∈perms s)(hp:p<s)(h:AA (go s) p G x):x<s:=by
 induction h with
 |one=>exact hp
 |mul _ hu ih=>exact ah.fx (Y:=pg s) (hG _ hu) ih
def tZ{B:List Nat}(h6:s<=6)(hG:∀g∈G,g∈perms s)(hp:p<s)(nd:B.Nodup)(h:∀x∈B,AA (go s) p G x):B.length<=6:=
 Xu (tU nd λx hx=>AW hG hp (h x hx)) h6
theorem AX(h6:s<=6)(hG:∀g∈G,g∈perms s)(hp:p<s)(ht:t<s):∀{gs done:List (List Int)}{B W:List Nat}{x6:Option (Bool×D)},(∀g∈gs,g∈G)->Am (go s) p G t done B W->W.length+gs.length<=5000->
  ∃B' W' y6,aE (λx ρ=>(aA 0 x).bind λys=>(cI ρ [6] ys).bind λρ'=>ex F Nv ρ') (gs.map tp) (OR x0 x1 x2 B W (some (false,aO t)) x6)=some (.next (OR x0 x1 x2 B' W' (some (false,aO t)) y6))/\Am (go s) p G t (done++gs) B' W'/\B.length<=B'.length/\B'.length+W.length=B.length+W'.length
 |[],done,B,W,x6,_,h,_=>⟨B,W,x6,rfl,by rw[W9];exact h,WE _,rfl⟩
 |g::gs,done,B,W,x6,I8,h,hn=>by
  rw[WM]at hn
  have Mq:=I8 g Wx
  have hB:=tZ h6 hG hp h.nd h.gen
  have h1:=DV (F:=F) (x0:=x0) (x1:=x1) (x2:=x2) (B:=B) (W:=W) (hG g Mq) ht (by lia) (by lia)
  have hq:∀q∈gs,q∈G:=λq hq=>I8 q (Wu _ hq)
  have e0:done++g::gs=(done++[g])++gs:=by rw[WZ];rfl
  rw[e0,WJ]
  by_cases hm:go s t g∈B
  .rw[WO hm]at h1
   obtain⟨B',W',y6,i1,i2,i3⟩:=AX h6 hG (x0:=x0) (x1:=x1) (x2:=x2) hp ht (x6:=some (false,tp g)) hq (h.old hm) (by lia)
   exact⟨B',W',y6,by rw[iA (ρ:=OR x0 x1 x2 B W (some (false,aO t)) x6) h1];exact i1,i2,i3⟩
  .rw[WV hm]at h1
   obtain⟨B',W',y6,i1,i2,i3⟩:=AX h6 hG (x0:=x0) (x1:=x1) (x2:=x2) hp ht (x6:=some (false,tp g)) hq (h.new Mq hm) (by rw[WC,WR];lia)
   simp only[WC,WR]at i3
   exact⟨B',W',y6,by rw[iA (ρ:=OR x0 x1 x2 B W (some (false,aO t)) x6) h1];exact i1,i2,by lia,by lia⟩
theorem vM(h6:s<=6)(hG:∀g∈G,g∈perms s)(Ip:G.length<=1000)(hp:p<s):∀(n:Nat) {B W:List Nat}{x5 x6:Option (Bool×D)},Al (go s) p G B W->2*(6-B.length)+W.length<n->2*(6-B.length)+W.length<=20->
  ∃B' y5 y6,fU (λρ=>((gq ρ 4).map λxs=>D.bl !xs.isEmpty).bind f6) (ex F Nw) n (OR x0 x1 (some (false,.tup (G.map tp))) B W x5 x6)=some (.next (OR x0 x1 (some (false,.tup (G.map tp))) B' [] y5 y6))/\Al (go s) p G B' []
 |0,_,_,_,_,_,h,_=>absurd h (YG _)
 |n+1,B,W,x5,x6,h,hn,hb=>by
  rw[fU]
  show∃B' y5 y6,(if(!(W.map aO).isEmpty)=true then _ else _)=_/\_
  rcases Zg W with rfl|⟨W0,t,rfl⟩
  .exact⟨B,x5,x6,rfl,h⟩
  .rw[Zh]at h hn hb⊢
   rw[WC,WR]at hn hb
   rw[show((W0++[t]).map aO).isEmpty =false by simp]
   have ht:=AW hG hp (h.gen t (h.wb t (WN _ (Ww.mpr rfl))))
   obtain⟨B',W',y6,i1,i2,i3,i4⟩:=AX (F:=F) h6 hG (x0:=x0) (x1:=x1) (x2:=some (false,.tup (G.map tp))) hp ht (gs:=G) (done:=[]) (B:=B) (W:=W0) (x6:=x6) (λ_ z=>z) h.start (by lia)
   rw[XJ]at i2
   have hA:=i2.fin λg hg=>hg
   have VB:=tZ h6 hG hp hA.nd hA.gen
   obtain⟨B2,z5,z6,j1,j2⟩:=vM h6 hG Ip hp (x0:=x0) (x1:=x1) n (x5:=some (false,aO t)) (x6:=y6) hA (by lia) (by lia)
   refine⟨B2,z5,z6,?_,j2⟩
   have p1:ex F (.pop 5 4) (OR x0 x1 (some (false,.tup (G.map tp))) B (W0++[t]) x5 x6)=some (.next (OR x0 x1 (some (false,.tup (G.map tp))) B W0 (some (false,aO t)) x6)):=by
    have e1:((W0++[t]).map aO).getLast? =some (aO t):=by rw[W4];simp
    have e2:((W0++[t]).map aO).dropLast =W0.map aO:=by rw[W4];simp
    show(((W0++[t]).map aO).getLast?.map λz=>il.next (put (put (OR x0 x1 (some (false,.tup (G.map tp))) B (W0++[t]) x5 x6) 4 true (.lst ((W0++[t]).map aO).dropLast)) 5 false z))=_
    rw[e1,e2]
    rfl
   have p2:ex F (.for [6] 0 (.it (.var 2)) Nv) (OR x0 x1 (some (false,.tup (G.map tp))) B W0 (some (false,aO t)) x6)=some (.next (OR x0 x1 (some (false,.tup (G.map tp))) B' W' (some (false,aO t)) y6)):=i1
   show((ex F Nw _).bind _)=_
   rw[aN p1,aN p2]
   exact j1
def AY(h6:s<=6)(hG:∀g∈G,g∈perms s)(Ip:G.length<=1000)(hp:p<s)(hm:F 11 [y]=some (.tup (G.map tp))):
  ∃B,out (ex F IX.body (ai IX [y,aO p]))=some (.tup ((sortI (B.map λk:Nat=>(k:Int))).map .int))/\Al (go s) p G B []:=by
 obtain⟨B,y5,y6,i1,i2⟩:=vM (F:=F) h6 hG Ip (x0:=some (false,y)) (x1:=some (false,aO p)) hp et (x5:=none) (x6:=none) Si (by
  rw[show et=1000000 from rfl,WR];lia) (by rw[WR];lia)
 refine⟨B,?_,i2⟩
 have nl:∀G:List (List Int),ay (.tup (G.map tp))=true:=λG=>by
  induction G with
  |nil=>rfl
  |cons g G ih=>show(ay (tp g)&&ay (.tup (G.map tp)))=true;rw[aF,ih];rfl
 have a1:ev F false (.call 11 (.u 0)) (ai IX [y,aO p])=some (.tup (G.map tp)):=aM (dX rfl) hm (nl G)
 have a3:ex F (.iF 4 Nw) (OR (some (false,y)) (some (false,aO p)) (some (false,.tup (G.map tp))) [p] [p] none none)=some (.next (OR (some (false,y)) (some (false,aO p)) (some (false,.tup (G.map tp))) B [] y5 y6)):=i1
 have a4:ev F true (.dm 3) (OR (some (false,y)) (some (false,aO p)) (some (false,.tup (G.map tp))) B [] y5 y6)=some (.lst ((sortI (B.map λk:Nat=>(k:Int))).map .int)):=by
  have:=tZ h6 hG hp i2.nd i2.gen
  show(if(B.map λk:Nat=>[(k:Int)]).length<64 then some (D.lst ((sortI ((B.map λk:Nat=>[(k:Int)]).map λk=>k.headD 0)).map .int)) else none)=_
  rw[WO (by rw[Wr];lia),W6]
  rfl
 show out (ex F (.seq (.asg 2 _) _) _)=_
 rw[aN (aT a1)]
 show out (ex F (.seq (.iF 4 Nw) _) (OR (some (false,y)) (some (false,aO p)) (some (false,.tup (G.map tp))) [p] [p] none none))=_
 rw[aN a3]
 refine cV ?_
 rw[fH,dX a4]
 rfl
end
section
variable {s:Nat}{F:FT}{M:List Int->Prop}{G:List (List Int)}
def vN:u∈r_ l↔St l u:=by
 unfold r_
 rw[XC]
 constructor
 .rintro⟨R,hR,h⟩
  obtain⟨e,he,rfl⟩:=WD.mp h
  exact⟨R,hR,e.1,he⟩
 .rintro⟨R,hR,p,h⟩
  exact⟨R,hR,WD.mpr ⟨_,h,rfl⟩⟩
def AZ(h:u∈r_ (bz (pg s) M 0)):M u:=by
 obtain⟨R,hR,p,hp⟩:=vN.mp h
 obtain⟨i,_,rfl⟩:=WD.mp hR
 exact(mI p u hp).1
def t8(hM:cy (pg s) M)(hG:∀u∈G,M u)(h:Gen (pg s) (· ∈G) t):M t:=by
 induction h with
 |one=>exact hM.one
 |mul _ hu ih=>exact hM.mul _ _ ih (hG _ hu)
def Ir(hM:cy (pg s) M)(hl:DC (pg s) M (bz (pg s) M 0) 0):Gen (pg s) (· ∈r_ (bz (pg s) M 0)) t↔M t:=by
 refine⟨t8 hM λu=>AZ,λh=>?_⟩
 have hm:=hl.hm ah hM
 exact(H.gen ah hm.1 ((hm.2 t).mpr ⟨h,λk hk=>by lia⟩)).mono λu hu=>vN.mpr hu
def vO(hM:cy (pg s) M)(hS:∀g∈G,M g)(hG:∀t,M t->Gen (pg s) (· ∈G) t)(hp:p<s):AA (go s) p G x↔ ∃t,M t/\go s p t=x:=by
 constructor
 .intro h
  induction h with
  |one=>exact⟨_,hM.one,ah.aY (Y:=pg s) hp⟩
  |mul _ hu ih=>
   obtain⟨t,ht,rfl⟩:=ih
   exact⟨_,hM.mul _ _ ht (hS _ hu),ah.aI (Y:=pg s) (hM.s _ ht) (hM.s _ (hS _ hu)) hp⟩
 .rintro⟨t,ht,rfl⟩
  have h:=hG t ht
  clear ht
  induction h with
  |one=>rw[show go s p (pg s).one =p from ah.aY (Y:=pg s) hp];exact .one
  |mul h1 hu ih=>
   rw[show go s p _=go s (go s p _) _ from ah.aI (Y:=pg s) (hM.s _ (t8 hM hS h1)) (hM.s _ (hS _ hu)) hp]
   exact .mul ih hu
open Classical in
noncomputable def c6(s:Nat)(M:List Int->Prop)(p:Nat):List Nat:=(List.range s).filter λq=>decide (∃t,M t/\go s p t=q)
open Classical in
def d_(hM:cy (pg s) M)(hp:p<s):q∈c6 s M p↔ ∃t,M t/\go s p t=q:=by
 unfold c6
 rw[Xx,W7,decide_eq_true_eq]
 exact⟨λh=>h.2,λ⟨t,h,e⟩=>⟨e▸ah.fx (Y:=pg s) (hM.s t h) hp,t,h,e⟩⟩
def p5:(c6 s M p).Pairwise (· < ·):=Y8.sublist Yx
def A0{L:List Int}(nd:L.Nodup)(h:∀x,x∈L↔ ∃q:Nat,q∈c6 s M p/\x=q):sortI L=(c6 s M p).map λk:Nat=>(k:Int):=by
 have VC:((c6 s M p).map λk:Nat=>(k:Int)).Nodup :=by
  rw[Xc,Xk]
  exact p5.imp λh e=>by lia
 refine(md ((YN VC nd).mpr λx=>?_) ?_).symm
 .rw[h,WD]
  exact⟨λ⟨q,a,b⟩=>⟨q,a,b.symm⟩,λ⟨q,a,b⟩=>⟨q,a,b.symm⟩⟩
 .rw[Xk]
  exact p5.imp λh=>by lia
noncomputable def bZ(s:Nat)(M:List Int->Prop)(p:Nat):D:= .tup ((c6 s M p).map aO)
def vP{L:List Int}(nd:L.Nodup)(h:∀x,x∈L↔ ∃q:Nat,q∈c6 s M p/\x=q):D.tup ((sortI L).map .int)=bZ s M p:=by
 rw[A0 nd h,W6]
 rfl
def A1(hM:cy (pg s) M)(hS:∀g∈G,M g)(hG:∀t,M t->Gen (pg s) (· ∈G) t)(hp:p<s){B:List Nat}(hB:Al (go s) p G B []):D.tup ((sortI (B.map λk:Nat=>(k:Int))).map .int)=bZ s M p:=by
 refine vP ?_ λx=>?_
 .rw[Xc,Xk]
  exact hB.nd.imp λh e=>h (by lia)
 .rw[WD]
  constructor
  .rintro⟨q,h,rfl⟩
   exact⟨q,(d_ hM hp).mpr ((vO hM hS hG hp).mp ((hB.done q).mp h)),rfl⟩
  .rintro⟨q,h,rfl⟩
   exact⟨q,(hB.done q).mpr ((vO hM hS hG hp).mpr ((d_ hM hp).mp h)),rfl⟩
def A2{ns:List Int}(h:∀n∈ns,0<=n/\n<5):x∈fZ ns↔x∈ns:=by
 unfold fZ
 rw[Xx,decide_eq_true_eq]
 refine⟨λz=>z.2,λz=>⟨?_,z⟩⟩
 have:=h x z
 simp only[WG,Zl,or_false]
 lia
def vQ(ns:List Int):(fZ ns).Pairwise (· < ·):=aal Yx (by decide)
def DW(hM:cy (pg s) M)(hp:p<s)(h5:s<=5){Ts:List (List Int)}(hT:∀t,t∈Ts↔M t):D.tup ((fZ (Ts.map λt=>((go s p t:Nat):Int))).map .int)=bZ s M p:=by
 have hr:∀n∈Ts.map λt=>((go s p t:Nat):Int),0<=n/\n<5:=λn hn=>by
  obtain⟨t,ht,rfl⟩:=WD.mp hn
  have:go s p t<s:=ah.fx (Y:=pg s) (hM.s t ((hT t).mp ht)) hp
  lia
 have hs:=(vQ (Ts.map λt=>((go s p t:Nat):Int))).imp λh=>Int.le_of_lt h
 rw[<-md (.refl _) hs |>.symm]
 refine vP ((vQ _).imp λh e=>by lia) λx=>?_
 rw[A2 hr,WD]
 constructor
 .rintro⟨t,h,rfl⟩
  exact⟨_,(d_ hM hp).mpr ⟨t,(hT t).mp h,rfl⟩,rfl⟩
 .rintro⟨q,h,rfl⟩
  obtain⟨t,h1,rfl⟩:=(d_ hM hp).mp h
  exact⟨t,(hT t).mpr h1,rfl⟩
def A3(hM:cy (pg s) M)(hp:p<s):∃q r,c6 s M p=q::r/\q<s:=by
 have h:p∈c6 s M p:=(d_ hM hp).mpr ⟨_,hM.one,ah.aY (Y:=pg s) hp⟩
 cases e:c6 s M p with
 |nil=>rw[e]at h;cases h
 |cons q r=>
  have:q∈c6 s M p:=by rw[e];exact Wx
  exact⟨q,r,rfl,W7.mp (Xx.mp this).1⟩
noncomputable def mU(s:Nat)(pts:List Nat)(t:List Int):Bool:=pts.all λp=>decide (go s p t=p)
def Lv(s:Nat)(M:List Int->Prop)(pts:List Nat)(t:List Int):Prop:=M t/\mU s pts t=true
def gL{pts:List Nat}:mU s pts t=true↔ ∀p∈pts,go s p t=p:=by
 unfold mU
 rw[Xw]
 exact⟨λh p hp=>of_decide_eq_true (h p hp),λh p hp=>decide_eq_true (h p hp)⟩
def DX(hM:cy (pg s) M){pts:List Nat}(hp:∀p∈pts,p<s):cy (pg s) (Lv s M pts) where
 s:=λt h=>hM.s t h.1
 one:=⟨hM.one,gL.mpr λp h=>ah.aY (Y:=pg s) (hp p h)⟩
 mul:=λa b ha hb=>⟨hM.mul a b ha.1 hb.1,gL.mpr λp h=>by
  show(pg s).im ((pg s).mul a b) p=p
  rw[ah.aI (hM.s a ha.1) (hM.s b hb.1) (hp p h),show(pg s).im a p=p from gL.mp ha.2 p h]
  exact gL.mp hb.2 p h⟩
 inv:=λa ha=>⟨hM.inv a ha.1,gL.mpr λp h=>by
  have e:(pg s).im ((pg s).mul a ((pg s).inv a)) p=(pg s).im ((pg s).inv a) ((pg s).im a p):=ah.aI (hM.s a ha.1) (ah.si (hM.s a ha.1)) (hp p h)
  rw[ah.dA (hM.s a ha.1),ah.aY (Y:=pg s) (hp p h),show(pg s).im a p=p from gL.mp ha.2 p h]at e
  exact e.symm⟩
def DY(hM:cy (pg s) M)(hT:∀t,t∈G↔M t):Gen (pg s) (· ∈G)=M:=by
 funext t
 refine propext ⟨t8 hM λu h=>(hT u).mp h,λh=>Gen.of ah (hM.s t h) ((hT t).mpr h)⟩
def A4(hM:cy (pg s) M)(hp:p<s){T U:List (List Int)}(hT:∀t,t∈T↔M t)(nT:T.Nodup)(hU:∀t,t∈U↔Lv s M [p] t)(nU:U.Nodup):U.length*(c6 s M p).length =T.length:=by
 have hl:∀u,u∈U->M u/\go s p u=p:=λu h=>⟨((hU u).mp h).1,gL.mp ((hU u).mp h).2 p (Ww.mpr rfl)⟩
 obtain⟨f,hf⟩:∃f:Nat->List Int,∀q∈c6 s M p,M (f q)/\go s p (f q)=q:=
  ⟨λq=>@Classical.epsilon _ ⟨[]⟩ λt=>M t/\go s p t=q,λq h=>@Y6 _ (λt=>M t/\go s p t=q) ((d_ hM hp).mp h)⟩
 have im:∀q∈c6 s M p,∀u∈U,go s p (comp u (f q))=q:=λq hq u hu=>by
  show(pg s).im ((pg s).mul u (f q)) p=q
  rw[ah.aI (hM.s u (hl u hu).1) (hM.s _ (hf q hq).1) hp,show(pg s).im u p=p from(hl u hu).2]
  exact(hf q hq).2
 have VD:((c6 s M p).flatMap λq=>U.map λu=>comp u (f q)).Nodup :=by
  rw[Xc,List.pairwise_flatMap]
  refine⟨λq hq=>?_,p5.imp_of_mem λ{q r} hq hr bQ x hx y hy e=>?_⟩
  .rw[Xk]
   refine nU.imp_of_mem λ{u v} hu hv eU e=>eU ?_
   have hc:∀w∈U,(pg s).mul ((pg s).mul w (f q)) ((pg s).inv (f q))=w:=λw hw=>by
    have h1:=hM.s w (hl w hw).1
    have h2:=hM.s _ (hf q hq).1
    rw[ah.assoc h1 h2 (ah.si h2),ah.dA h2,ah.mul_one h1]
   rw[<-hc u hu,<-hc v hv]
   exact congrArg (λz=>(pg s).mul z ((pg s).inv (f q))) e
  .obtain⟨u,hu,rfl⟩:=WD.mp hx
   obtain⟨v,hv,rfl⟩:=WD.mp hy
   have h1:=im q hq u hu
   rw[e,im r hr v hv]at h1
   lia
 have qS:((c6 s M p).flatMap λq=>U.map λu=>comp u (f q)).Perm T:=(YN VD nT).mpr λt=>by
  rw[XC,hT]
  constructor
  .rintro⟨q,hq,h⟩
   obtain⟨u,hu,rfl⟩:=WD.mp h
   exact hM.mul _ _ (hl u hu).1 (hf q hq).1
  .intro ht
   have hq:go s p t∈c6 s M p:=(d_ hM hp).mpr ⟨t,ht,rfl⟩
   have h1:=hM.s t ht
   have h2:=hM.s _ (hf _ hq).1
   have hi:=hM.inv _ (hf _ hq).1
   refine⟨_,hq,WD.mpr ⟨comp t ((pg s).inv (f (go s p t))),(hU _).mpr ⟨hM.mul _ _ ht hi,gL.mpr λp' xF=>?_⟩,?_⟩⟩
   .rw[Ww.mp xF]
    show(pg s).im ((pg s).mul t ((pg s).inv (f (go s p t)))) p=p
    rw[ah.aI h1 (ah.si h2) hp]
    have e:(pg s).im ((pg s).mul (f (go s p t)) ((pg s).inv (f (go s p t)))) p=(pg s).im ((pg s).inv (f (go s p t))) ((pg s).im (f (go s p t)) p):=ah.aI h2 (ah.si h2) hp
    rw[ah.dA h2,ah.aY (Y:=pg s) hp,show(pg s).im (f (go s p t)) p=go s p t from(hf _ hq).2]at e
    exact e.symm
   .show(pg s).mul ((pg s).mul t ((pg s).inv (f (go s p t)))) (f (go s p t))=t
    rw[ah.assoc h1 (ah.si h2) h2,ah.inv_mul h2,ah.mul_one h1]
 have:=qS.length_eq
 rw[List.length_flatMap]at this
 simp only[Wr,List.map_const',List.sum_replicate_nat]at this
 rw[Nat.mul_comm]
 exact this
end
section
variable {s:Nat}{F:FT}{M:List Int->Prop}{G:List (List Int)}{pts:List Nat}
theorem jz(h g:α->D)(c:α->Bool)(f:D->Option (Option D)):∀xs:List α,(∀x∈xs,f (h x)=some (if c x then some (g x) else none))->walk f (xs.map h)=some ((xs.filter c).map g)
 |[],_=>rfl
 |x::xs,H=>by
  rw[WJ,walk,H x Wx,X_]
  have ih:=jz h g c f xs λy hy=>H y (Wu _ hy)
  cases c x with
  |true=>show(walk f (xs.map h)).map (g x:: ·)=_;rw[ih];rfl
  |false=>exact ih
def A5{a:Nat}{b:Nat}:cmp .Eq (aO a) (aO b)=some (decide (a=b)):=by
 show some ((a:Int)==(b:Int))=_
 rw[kZ]
def Mr{a:Nat}{b:Nat}:cmp .NotEq (aO a) (aO b)=some (!decide (a=b)):=by
 show some (!((a:Int)==(b:Int)))=_
 rw[kZ]
def fQ(h1:ev F true a ρ=some x)(h2:ev F true c ρ=some y)(h3:cmp o x y=some k):ev F b (.cmp o a c) ρ=some (.bl k):=by
 rw[nh,h1,h2]
 show(cmp o x y).map D.bl=_
 rw[h3]
 rfl
noncomputable def A6(s:Nat)(M:List Int->Prop)(p:Nat):Bool:=decide ((c6 s M p).headD s=p)
noncomputable def nD(s:Nat)(M:List Int->Prop)(l:List Nat):List D:=(l.filter (A6 s M)).map (bZ s M)
def oE(hM:cy (pg s) M)(hp:p<s):item (bZ s M p) (.int 0)=some (aO ((c6 s M p).headD s)):=by
 obtain⟨q,r,e,_⟩:=A3 hM hp
 unfold bZ
 rw[e]
 show((place ((q::r).map aO).length 0).bind λj=>((q::r).map aO)[j]?)=_
 unfold place
 rw[WO (by lia),WO (by rw[Wr,WM];lia)]
 rfl
theorem mN(f:Nat->D):∀n k:Nat,aJ (k:Int) ((List.range' k n).map f)=(List.range' k n).map λj=> .tup [aO j,f j]
 |0,k=>rfl
 |n+1,k=>by
  rw[YT,WJ,WJ,<-mN f n (k+1)]
  rfl
theorem gY:∀l:List Nat,ay (.tup (l.map aO))=true
 |[]=>rfl
 |p::l=>gY l
def xy(h6:s<=6)(hM:cy (pg s) M)(hl:l.length=s)(ho:∀p,p<s->F 12 [aG l,aO p]=some (bZ s M p)):out (ex F EW.body (ai EW [aG l]))=some (.tup (nD s M (List.range s))):=by
 have dO:ba=16777216:=rfl
 have e1:ev F false (.comp [0] 0 (.c8 (.cons (.prim .len (.u 0)) .nil)) .nil (.call 12 (.w 1 (.u 0)))) (ai EW [aG l])=some (.lst ((List.range s).map (bZ s M))):=by
  have hr:(cv F false (.cons (.prim .len (.u 0)) .nil) (ai EW [aG l])).bind cM=some (bB 0 s):=by
   show cM [.int ((l.map ax).length :Nat)]=_
   rw[Wr,hl,bP (by lia)]
  rw[gI hr (by rw[dY];lia),b_,bO (λk:Nat=>D.int (k:Int)) (bZ s M) _ _ λk hk=>?_]
  .rfl
  .have:ev F false (.call 12 (.w 1 (.u 0))) [some (false,aO k),some (false,aG l)]=some (bZ s M k):=aM (dg rfl rfl) (ho k (W7.mp hk)) (gY _)
   show(ev F false (.call 12 (.w 1 (.u 0))) [some (false,aO k),some (false,aG l)]).map some=_
   rw[this]
   rfl
 have e2:ev F true (.lM [] (.var 1) (.cons (.cmp .Eq (.idx (.var 1) (.c (.int 0))) (.var 0)) .nil) (.var 1)) [some (false,aG l),some (true,.lst ((List.range s).map (bZ s M)))]=some (.lst (nD s M (List.range s))):=by
  have he:aJ 0 ((List.range s).map (bZ s M))=(List.range s).map λj=> .tup [aO j,bZ s M j]:=by
   rw[Yn]
   exact mN (bZ s M) s 0
  show(if(aJ 0 ((List.range s).map (bZ s M))).length <=ba then(walk _ (aJ 0 ((List.range s).map (bZ s M)))).map D.lst else none)=_
  rw[he,WO (by rw[Wr,Yf];lia),jz (λj=>D.tup [aO j,bZ s M j]) (bZ s M) (A6 s M) _ _ λp hp=>?_]
  .rfl
  .have hc:ev F false (.cmp .Eq (.idx (.var 1) (.c (.int 0))) (.var 0)) [some (false,aO p),some (false,bZ s M p)]=some (.bl (A6 s M p)):=fQ (a:= .idx (.var 1) (.c (.int 0))) (oE hM (W7.mp hp)) rfl A5
   show((fG F true (.cons (.cmp .Eq (.idx (.var 1) (.c (.int 0))) (.var 0)) .nil) [some (false,aO p),some (false,bZ s M p)]).bind _)=_
   rw[fG,hc]
   cases A6 s M p<;>rfl
 have a1:ex F (.bV 1 (.comp [0] 0 (.c8 (.cons (.prim .len (.u 0)) .nil)) .nil (.call 12 (.w 1 (.u 0))))) (ai EW [aG l])=some (.next [some (false,aG l),some (true,.lst ((List.range s).map (bZ s M)))]):=by
  rw[oZ,e1]
  rfl
 show out (ex F (.seq _ _) _)=_
 rw[aN a1]
 refine cV ?_
 rw[fH,dX e2]
 rfl
def xA(ht:t∈perms s)(hp:∀p∈pts,p<s)(hl:pts.length<=1000):out (ex F IY.body (ai IY [tp t,.tup (pts.map aO)]))=some (.bl (mU s pts t)):=by
 have dO:ba=16777216:=rfl
 have hb:∀bs:List Bool,eh (bs.map .bl)=some bs:=λbs=>by
  induction bs with
  |nil=>rfl
  |cons b bs ih=>show(eh (bs.map .bl)).map (b:: ·)=_;rw[ih];rfl
 have hc:ev F true (.comp [0] 0 (.it (.var 1)) .nil (.cmp .Eq (.idx (.var 1) (.var 0)) (.var 0))) (ai IY [tp t,.tup (pts.map aO)])=some (.lst ((pts.map λp=>decide (go s p t=p)).map .bl)):=by
  rw[dz (d:= .tup (pts.map aO)) rfl rfl (by rw[Wr];lia),W6,bO aO (D.bl ∘ λp=>decide (go s p t=p)) _ _ λp h=>?_]
  .rfl
  .have:ev F false (.cmp .Eq (.idx (.var 1) (.var 0)) (.var 0)) [some (false,aO p),some (false,tp t)]=some (.bl (decide (go s p t=p))):=fQ (fP ht (hp p h)) (y:=aO p) rfl A5
   show(ev F false (.cmp .Eq (.idx (.var 1) (.var 0)) (.var 0)) [some (false,aO p),some (false,tp t)]).map some=_
   rw[this]
   rfl
 refine cV ?_
 rw[fH,dX hc]
 show(eh ((pts.map λp=>decide (go s p t=p)).map .bl)).map (λbs=>D.bl (bs.all id))=_
 rw[hb]
 show some (D.bl ((pts.map λp=>decide (go s p t=p)).all id))=_
 rw[List.all_map]
 rfl
def DZ{Ts:List (List Int)}{r:D}(hl:l.length=s)(k9:Ts.length<=1000)(PL:F 10 [aG l]=some (.tup (Ts.map tp)))(VE:∀t∈Ts,F 14 [tp t,.tup (pts.map aO)]=some (.bl (mU s pts t)))(h8:F 8 [.tup ((Ts.filter (mU s pts)).map tp),.int s]=some r):
  out (ex F EY.body (ai EY [aG l,.tup (pts.map aO)]))=some r:=by
 have dO:ba=16777216:=rfl
 have c1:ev F true (.call 10 (.u 0)) (ai EY [aG l,.tup (pts.map aO)])=some (.tup (Ts.map tp)):=cj (dX rfl) PL rfl
 have c2:ev F true (.comp [1] 0 (.it (.call 10 (.u 0))) (.cons (.call 14 (.w 0 (.u 1))) .nil) (.var 0)) (ai EY [aG l,.tup (pts.map aO)])=some (.lst ((Ts.filter (mU s pts)).map tp)):=by
  rw[dz c1 rfl (by rw[Wr];lia),jz tp tp (mU s pts) _ _ λt h=>?_]
  .rfl
  .have:ev F false (.call 14 (.w 0 (.u 1))) [some (false,tp t),some (false,.tup (pts.map aO))]=some (.bl (mU s pts t)):=aM (dg rfl rfl) (VE t h) rfl
   show((fG F true (.cons (.call 14 (.w 0 (.u 1))) .nil) [some (false,tp t),some (false,.tup (pts.map aO))]).bind _)=_
   rw[fG,this]
   cases mU s pts t<;>rfl
 have c3:ev F true (.prim .tuple (.cons (.comp [1] 0 (.it (.call 10 (.u 0))) (.cons (.call 14 (.w 0 (.u 1))) .nil) (.var 0)) .nil)) (ai EY [aG l,.tup (pts.map aO)])=some (.tup ((Ts.filter (mU s pts)).map tp)):=by
  rw[fH,dX c2]
  rfl
 refine cV (cj (dg c3 (y:= .int s) ?_) h8 rfl)
 show some (D.int ((l.map ax).length :Nat))=_
 rw[Wr,hl]
end
end cu
namespace Py
mutual
theorem mO:∀d:D,jI d d=true
 | .fC =>rfl
 | .bl b=>by show(b==b)=true;simp
 | .int i=>by show(i==i)=true;simp
 | .tup xs=>mP xs
 | .lst xs=>mP xs
 | .bM _ _ _=>rfl
theorem mP:∀l:List D,yr l l=true
 |[]=>rfl
 |x::l=>by show(jI x x&&yr l l)=true;rw[mO x,mP l];rfl
end
end Py
namespace cu
open Py jv
section
variable {n s:Nat}
def A7(h:s<=6):run T (n+1) 0 [.int s]=some (tp (bH s)):=by
 rw[aX (d:=kX) rfl rfl];exact Ai (by lia)
def p6(h:s<=6):∀p∈perms s,∀q∈perms s,run T (n+1) 1 [tp p,tp q]=some (tp (comp p q)):=λp hp q hq=>by
 rw[aX (d:=kW) rfl rfl];exact rK (by lia) hp hq
def D0(h:s<=6):∀p∈perms s,∀q∈perms s,run T (n+1) 21 [tp p,tp q]=some (tp (comp p q)):=λp hp q hq=>by
 rw[aX (d:=kW) rfl rfl];exact rK (by lia) hp hq
def Mt(h:s<=6):∀p∈perms s,run T (n+1) 2 [tp p]=some (tp (ip p)):=λp hp=>by
 rw[aX (d:=tS) rfl rfl];exact Dz (by lia) hp
def QB(ns:List Int){k:Nat}(hk:k<1000):run T (n+2) 17 [.lst (ns.map .int),.int k]=some (.int (kU ns k)):=by
 rw[aX (d:=vh 16) rfl rfl]
 refine HY ns k hk ?_
 rw[aX (d:=mB) rfl rfl]
 exact Dr ns k
def A8(a k:Int):run T (n+1) 18 [.int a,.int k]=some (.int (drawn a k)):=by
 rw[aX (d:=kT) rfl rfl]
 exact Ad a k
def Mu(ha:0<=a)(h1:1<=s)(h6:s<=6):∃p∈perms s,run T (n+2) 19 [.int a,.int s]=some (tp p):=by
 rw[aX (d:=j4 18) rfl rfl]
 exact Dx ha h1 h6 λk=>⟨drawn a k,A8 a k⟩
def Mm(a:Int)(h1:1<=s)(h6:s<=6):∃ps:List (List Int),run T (n+3) 20 [.int a,.int s]=some (.tup (ps.map tp))/\ps.length<=6/\∀p∈ps,p∈perms s:=by
 rw[aX (d:=fX 19 18) rfl rfl]
 refine bL (Ic (F:=run T (n+2)) (ft:=19) (fd:=18) (s:=s) (a:=a) (λk=>A8 a k) λb hb=>Mu hb h1 h6) λys e hl hP=>ae (Ao ys hP) λps aj mT=>?_
 subst aj
 exact⟨ps,e,by rwa [Wr]at hl,mT⟩
theorem ka:∀ps:List (List Int),ay (.tup (ps.map tp))=true
 |[]=>rfl
 |p::ps=>by
  show(ay (tp p)&&ay (.tup (ps.map tp)))=true
  rw[aF,ka ps]
  rfl
def mJ(h6:s<=6):∀l t,VL (pg s) l 0->t∈perms s->run T (n+2) 3 [.lst (l.map aq),tp t]=some (tp (dh (pg s) l 0 t)):=λl t hv ht=>by
 rw[aX (d:=d3) rfl rfl];exact DJ (p6 h6) (Mt h6) hv ht
def mK(h6:s<=6):∀l r,VL (pg s) l 0->r∈perms s->run T (n+2) 4 [.lst (l.map aq),tp r]=some (.lst ((bA r l).map tp)):=λl r hv hr=>by
 rw[aX (d:=d4) rfl rfl]
 refine DL (p6 h6) hr (DO hv) ?_
 have h1:=pX ah hv
 have h2:=VL.len hv
 rw[Yc]at h2
 have h3:l.length*(pg s).n <=6*6:=aar (by rw[h2];exact h6) h6
 rw[j7]
 lia
def vS(h6:s<=6){ps:List (List Int)}(mT:∀p∈ps,p∈perms s)(hl:ps.length<=720):
  ∃l,Fd (pg s) (· ∈ps) l []/\∀n,run T (n+4) 8 [.tup (ps.map tp),.int s]=some (aG (bz (pg s) (Gen (pg s) (· ∈ps)) 0)):=by
 have key:∀n,∃l,run T (n+3) 5 [.tup (ps.map tp),.int s]=some (.lst (l.map aq))/\Fd (pg s) (· ∈ps) l []:=λn=>by
  exact ae (AJ (F:=run T (n+2)) h6 mT hl (A7 h6) (mJ h6) (mK h6)) λl e hd=>⟨l,by rw[aX (d:=d5) rfl rfl];exact e,hd⟩
 refine ae (key 0) λl0 _ VF=>⟨l0,VF,λn=>?_⟩
 refine ae (key n) λl e hd=>?_
 have hM:=mG h6 mT
 have hm:=hd.hm ah mT
 rw[aX (d:=d8) rfl rfl]
 refine xu h6 e (ka ps) λk hk=>?_
 rw[aX (d:=d7) rfl rfl]
 exact DQ h6 hM hm hk λu hu=>ae (AK (F:=run T (n+1)) h6 (p6 h6) hm.1 hk hu) λx e1 e2=>⟨x,by rw[aX (d:=d6) rfl rfl];exact e1,e2⟩
theorem oF(n:Nat):∀R:Rg (List Int),dG (R.map pairD) (n+2)=true
 |[]=>rfl
 |e::R=>by
  show((true&&(ed (tp e.2) (n+1)&&true))&&dG (R.map pairD) (n+2))=true
  rw[tR,oF n R]
  rfl
theorem oG(n:Nat):∀l:List (Rg (List Int)),dG (l.map ax) (n+3)=true
 |[]=>rfl
 |R::l=>by
  show(dG (R.map pairD) (n+2)&&dG (l.map ax) (n+3))=true
  rw[oF,oG n l]
  rfl
def A9(l:List (Rg (List Int))):ed (aG l) 60=true:=oG 56 l
def p7(h:ed d 60=true):cmp .NotEq d d=some false:=by
 show(if(ed d 60&&ed d 60)=true then some (!jI d d) else none)=_
 rw[h,mO]
 rfl
def D1(h:ed d 60=true):cmp .Eq d d=some true:=by
 show(if(ed d 60&&ed d 60)=true then some (jI d d) else none)=_
 rw[h,mO]
 rfl
end
section
variable {n s:Nat}{F:FT}{M:List Int->Prop}
theorem A_:∀l:List (Rg (List Int)),(r_ l).length =cnt l
 |[]=>rfl
 |R::l=>by
  show(R.map (·.2)++r_ l).length =R.length+cnt l
  rw[WC,Wr,A_ l]
structure Kn(s:Nat)(M:List Int->Prop):Prop where
 y:cy (pg s) M
 VG:DC (pg s) M (bz (pg s) M 0) 0
 tl:∀t,t∈TL (pg s) (bz (pg s) M 0)↔M t
 nd:(TL (pg s) (bz (pg s) M 0)).Nodup
 v:VL (pg s) (bz (pg s) M 0) 0
 len:(bz (pg s) M 0).length =s
 SA:(r_ (bz (pg s) M 0)).length <=36
 rl:∀R∈bz (pg s) M 0,R.length<=1000
def E4(h6:s<=6)(hM:cy (pg s) M)(h:Hm (pg s) M l 0):Kn s M:=by
 obtain⟨a,b,c⟩:=Az ah hM h
 have v:=(a.hm ah hM).1
 have hl:(bz (pg s) M 0).length =s:=by have:=VL.len v;rw[Yc]at this;exact this
 have h2:=pX ah v
 rw[hl]at h2
 refine⟨hM,a,b,c,v,hl,by rw[A_];exact Xu h2 (aar h6 h6),λR hR=>?_⟩
 obtain⟨i,hi⟩:=List.getElem?_of_mem hR
 have:=pY (by have:=(WK.mp hi).1;lia) (VL.at v hi)
 lia
theorem vT:∀l:List (Rg (List Int)),ay (aG l)=true
 |[]=>rfl
 |R::l=>by
  show(ay (ax R)&&ay (aG l))=true
  rw[vH,vT l]
  rfl
def D2(k:Kn s M):run T (n+1) 11 [aG (bz (pg s) M 0)]=some (.tup ((r_ (bz (pg s) M 0)).map tp)):=by
 rw[aX (d:=Mf) rfl rfl];exact xw (by have:=k.SA;lia)
def A'(h6:s<=6)(k:Kn s M)(hp:p<s):run T (n+2) 12 [aG (bz (pg s) M 0),aO p]=some (bZ s M p):=by
 rw[aX (d:=IX) rfl rfl]
 obtain⟨B,e,hB⟩:=AY (F:=run T (n+1)) h6 (λg hg=>k.y.s g (AZ hg)) (by have:=k.SA;lia) hp (D2 k)
 rw[e,A1 k.y (λg=>AZ) (λt ht=>(Ir k.y k.VG).mpr ht) hp hB]
def Iu(h1:1<=s)(h6:s<=6)(k:Kn s M):run T (n+2) 10 [aG (bz (pg s) M 0)]=some (.tup ((bU.bF (TL (pg s) (bz (pg s) M 0))).map tp)):=by
 rw[aX (d:=xM) rfl rfl];exact AN h1 h6 (A7 h6) (p6 h6) k.v
def mQ(k:Kn s M):t∈bU.bF (TL (pg s) (bz (pg s) M 0))↔M t:=((bU.cz _).mem_iff).trans (k.tl t)
def E5(h1:1<=s)(h6:s<=6)(k:Kn s M){pts:List Nat}(hp:∀p∈pts,p<s)(hl:pts.length<=1000):
  Kn s (Lv s M pts)/\∀n,run T (n+5) 15 [aG (bz (pg s) M 0),.tup (pts.map aO)]=some (aG (bz (pg s) (Lv s M pts) 0)):=by
 have Mv:∀t,t∈(bU.bF (TL (pg s) (bz (pg s) M 0))).filter (mU s pts)↔Lv s M pts t:=λt=>by
  rw[Xx,mQ k]
  exact Iff.rfl
 have k9:(bU.bF (TL (pg s) (bz (pg s) M 0))).length <=720:=by
  rw[(bU.cz _).length_eq]
  exact vI h6 k.v
 have hy:=DX k.y hp
 have hS:∀t∈(bU.bF (TL (pg s) (bz (pg s) M 0))).filter (mU s pts),t∈perms s:=λt ht=>hy.s t ((Mv t).mp ht)
 obtain⟨l,hd,e⟩:=vS h6 hS (Xu (aam _ _) k9)
 have hg:=DY hy Mv
 have hm:=hd.hm ah hS
 rw[hg]at hm e
 refine⟨E4 h6 hy hm,λn=>?_⟩
 rw[aX (d:=EY) rfl rfl]
 refine DZ k.len (by lia) (Iu h1 h6 k) (λt ht=>?_) (e n)
 rw[aX (d:=IY) rfl rfl]
 exact xA (k.y.s t ((mQ k).mp ht)) hp hl
def D3:ed (bZ s M p) 60=true:=by
 have:=eO 59 ((c6 s M p).map λk:Nat=>(k:Int))
 rwa [W6]at this
theorem rX:∀l:List Nat,dG (l.map (bZ s M)) 59=true
 |[]=>rfl
 |p::l=>by
  have:=eO 58 ((c6 s M p).map λk:Nat=>(k:Int))
  rw[W6]at this
  show(dG ((c6 s M p).map aO) 58&&dG (l.map (bZ s M)) 59)=true
  rw[show dG ((c6 s M p).map aO) 58=true from this,rX l]
  rfl
noncomputable abbrev Mw:E:= .prim .tuple (.cons (.sset (.comp [6] 0 (.it (.var 4)) .nil (.idx (.var 0) (.var 1)))) .nil)
noncomputable abbrev Mx:C:=(.seq (.asg 7 Mw) (.seq (.ifs (.cmp .NotEq (.call 12 (.w 3 (.u 6))) (.var 7)) (.seq (.ret (.c (.bl false))) .skip) .skip) (.seq (.ifs (.cmp .Eq (.idx (.var 7) (.c (.int 0))) (.var 6)) (.seq (.app 5 (.var 7)) .skip) .skip) .skip)))
noncomputable abbrev LW(x0 x1 x2:Option (Bool×D))(y:D)(Ts:List (List Int))(acc:List D)(x6 x7:Option (Bool×D)):Env:=[x0,x1,x2,some (false,y),some (false,.lst (Ts.map tp)),some (true,.lst acc),x6,x7,none,none,none]
def Ba(h5:s<=5)(hM:cy (pg s) M){Ts:List (List Int)}(hT:∀t,t∈Ts↔M t)(k9:Ts.length<=1000)(hp:p<s):ev F false Mw (LW x0 x1 x2 y Ts acc (some (false,aO p)) x7)=some (bZ s M p):=by
 have dO:ba=16777216:=rfl
 have c1:ev F true (.comp [6] 0 (.it (.var 4)) .nil (.idx (.var 0) (.var 1))) (LW x0 x1 x2 y Ts acc (some (false,aO p)) x7)=some (.lst ((Ts.map λt=>((go s p t:Nat):Int)).map .int)):=by
  rw[dz (d:= .lst (Ts.map tp)) rfl rfl (by rw[Wr];lia),W6,bO tp (D.int ∘ λt=>((go s p t:Nat):Int)) _ _ λt h=>?_]
  .rfl
  .have:ev F false (.idx (.var 0) (.var 1)) [some (false,tp t),some (false,aO p)]=some (aO (go s p t)):=fP (hM.s t ((hT t).mp h)) hp
   show(ev F false (.idx (.var 0) (.var 1)) [some (false,tp t),some (false,aO p)]).map some=_
   rw[this]
   rfl
 have hn:∀n∈Ts.map λt=>((go s p t:Nat):Int),0<=n/\n<5:=λn hn=>by
  obtain⟨t,ht,rfl⟩:=WD.mp hn
  have:go s p t<s:=ah.fx (Y:=pg s) (hM.s t ((hT t).mp ht)) hp
  lia
 have c2:ev F false (.sset (.comp [6] 0 (.it (.var 4)) .nil (.idx (.var 0) (.var 1)))) (LW x0 x1 x2 y Ts acc (some (false,aO p)) x7)=some (.lst ((fZ (Ts.map λt=>((go s p t:Nat):Int))).map .int)):=by
  rw[OA,c1]
  show(aP ((Ts.map λt=>((go s p t:Nat):Int)).map .int)).bind _=_
  rw[cT]
  show(if _ then _ else none)=_
  rw[WO ⟨hn,by rw[Wr];exact k9⟩]
 have c3:ev F true (.sset (.comp [6] 0 (.it (.var 4)) .nil (.idx (.var 0) (.var 1)))) (LW x0 x1 x2 y Ts acc (some (false,aO p)) x7)=_:=c2
 rw[fH,dX c3,<-DW hM hp h5 hT]
 rfl
theorem rY(h5:s<=5)(hM:cy (pg s) M){Ts:List (List Int)}(hT:∀t,t∈Ts↔M t)(k9:Ts.length<=1000)(ho:∀p,p<s->F 12 [y,aO p]=some (bZ s M p)):∀{qs:List Nat}{acc:List D}{x6 x7:Option (Bool×D)},(∀q∈qs,q<s)->acc.length+qs.length<=1000->
  ∃y6 y7,aE (λx ρ=>(aA 0 x).bind λys=>(cI ρ [6] ys).bind λρ'=>ex F Mx ρ') (qs.map aO) (LW x0 x1 x2 y Ts acc x6 x7)=some (.next (LW x0 x1 x2 y Ts (acc++nD s M qs) y6 y7))
 |[],acc,x6,x7,_,_=>⟨x6,x7,by show some (il.next _)=_;rw[show nD s M []=[] from rfl,W9]⟩
 |p::qs,acc,x6,x7,hq,hn=>by
  rw[WM]at hn
  have dO:ba=16777216:=rfl
  have hp:=hq p Wx
  let ρ:=LW x0 x1 x2 y Ts acc (some (false,aO p)) (some (false,bZ s M p))
  have t1:ev F false (.cmp .NotEq (.call 12 (.w 3 (.u 6))) (.var 7)) ρ=some (.bl false):=fQ (c:= .var 7) (aM (dg rfl rfl) (ho p hp) (gY _)) rfl (p7 D3)
  have t2:ev F false (.cmp .Eq (.idx (.var 7) (.c (.int 0))) (.var 6)) ρ=some (.bl (A6 s M p)):=fQ (a:= .idx (.var 7) (.c (.int 0))) (oE hM hp) rfl A5
  have t3:ex F (.app 5 (.var 7)) ρ=some (.next (LW x0 x1 x2 y Ts (acc++[bZ s M p]) (some (false,aO p)) (some (false,bZ s M p)))):=dZ (e:= .var 7) rfl (xs:=acc) rfl (by lia)
  have e0:nD s M (p::qs)=(if A6 s M p then [bZ s M p] else [])++nD s M qs:=by
   unfold nD
   rw[X_]
   cases A6 s M p<;>rfl
  have hb:ex F Mx (put (LW x0 x1 x2 y Ts acc x6 x7) 6 false (aO p))=some (.next (LW x0 x1 x2 y Ts (acc++if A6 s M p then [bZ s M p] else []) (some (false,aO p)) (some (false,bZ s M p)))):=by
   show ex F Mx (LW x0 x1 x2 y Ts acc (some (false,aO p)) x7)=_
   rw[aN (aT (Ba h5 hM hT k9 hp))]
   show ex F (.seq (.ifs _ _ _) _) ρ=_
   rw[br,f7,t1]
   show ex F (.seq (.ifs _ _ _) _) ρ=_
   rw[br,f7,t2]
   cases A6 s M p with
   |true=>
    show((ex F (.seq (.app 5 (.var 7)) .skip) ρ).bind _)=_
    rw[aN t3]
    rfl
   |false=>
    show some (il.next ρ)=some (il.next (LW x0 x1 x2 y Ts (acc++[]) _ _))
    rw[W9]
  obtain⟨y6,y7,ih⟩:=rY h5 hM hT k9 ho (qs:=qs) (x0:=x0) (x1:=x1) (x2:=x2) (acc:=acc++if A6 s M p then [bZ s M p] else []) (x6:=some (false,aO p)) (x7:=some (false,bZ s M p)) (λq h=>hq q (Wu _ h)) (by
   rw[WC]
   cases A6 s M p<;>simp only[WR,XZ,if_true,if_false,XB]<;>lia)
  exact⟨y6,y7,by rw[WJ,iA hb,ih,e0,WZ]⟩
noncomputable abbrev Nx:E:= .comp [8] 0 (.it (.var 4)) (.cons (.cmp .Eq (.comp [0] 0 (.it (.var 1)) (.cons (.cmp .NotEq (.idx (.var 1) (.var 0)) (.var 0)) .nil) (.var 0)) (.lst .nil)) .nil) (.var 0)
def D4{Ts:List (List Int)}(hT:∀t∈Ts,t∈perms s)(k9:Ts.length<=1000){pts:List Nat}(hp:∀p∈pts,p<s)(hl:pts.length<=1000)(e4:ρ[4]?=some (some (false,.lst (Ts.map tp))))(e8:ρ[8]?=some (some (false,.tup (pts.map aO)))):
  ev F false Nx ρ=some (.lst ((Ts.filter (mU s pts)).map tp)):=by
 have dO:ba=16777216:=rfl
 have hv:ev F true (.var 4) ρ=some (.lst (Ts.map tp)):=by
  show rd true ρ 4=_
  unfold rd
  rw[e4]
  rfl
 rw[dz hv rfl (by rw[Wr];lia),jz tp tp (mU s pts) _ _ λt h=>?_]
 .rfl
 .have hi:inner [tp t] ρ [8]=[some (false,tp t),some (false,.tup (pts.map aO))]:=by
   show [some (false,tp t),(ρ[8]?).join]=_
   rw[e8]
   rfl
  have c1:ev F true (.comp [0] 0 (.it (.var 1)) (.cons (.cmp .NotEq (.idx (.var 1) (.var 0)) (.var 0)) .nil) (.var 0)) [some (false,tp t),some (false,.tup (pts.map aO))]=some (.lst ((pts.filter λp=>!decide (go s p t=p)).map aO)):=by
   rw[dz (d:= .tup (pts.map aO)) rfl rfl (by rw[Wr];lia),jz aO aO (λp=>!decide (go s p t=p)) _ _ λp h'=>?_]
   .rfl
   .have:ev F false (.cmp .NotEq (.idx (.var 1) (.var 0)) (.var 0)) [some (false,aO p),some (false,tp t)]=some (.bl (!decide (go s p t=p))):=fQ (fP (hT t h) (hp p h')) (y:=aO p) rfl Mr
    show((fG F true (.cons (.cmp .NotEq (.idx (.var 1) (.var 0)) (.var 0)) .nil) [some (false,aO p),some (false,tp t)]).bind _)=_
    rw[fG,this]
    cases (!decide (go s p t=p))<;>rfl
  have c2:∀l:List Nat,cmp .Eq (.lst (l.map aO)) (.lst [])=some l.isEmpty:=λl=>by
   have e1:dG (l.map aO) 59=true:=by
    have:=eO 59 (l.map λk:Nat=>(k:Int))
    rwa [W6]at this
   show(if(dG (l.map aO) 59&&true)=true then some (jI (.lst (l.map aO)) (.lst [])) else none)=_
   rw[e1]
   cases l<;>rfl
  have c3:∀l:List Nat,(l.filter λp=>!decide (go s p t=p)).isEmpty =mU s l t:=λl=>by
   unfold mU
   induction l with
   |nil=>rfl
   |cons p r ih=>
    rw[X_,Yw]
    cases decide (go s p t=p)with
    |true=>exact ih
    |false=>rfl
  unfold fu
  rw[hi,fG,fQ c1 (y:= .lst []) rfl (c2 _),c3]
  cases mU s pts t<;>rfl
end
def holds(ns:List Int)(hl:ns.length<=63):run T (6+1) 24 [.lst (ns.map .int)]=some (.bl true):=by
 have g0:0<=kU ns 0%5:=XN _ (by decide)
 have g1:kU ns 0%5<5:=XH _ (by decide)
 obtain⟨s,hs⟩:∃s:Nat,1+kU ns 0%5=s:=⟨(1+kU ns 0%5).toNat,by lia⟩
 have h1:1<=s:=by lia
 have h6:s<=6:=by lia
 have dO:ba=16777216:=rfl
 obtain⟨ps,er,jG,mT⟩:=Mm (n:=3) (kU ns 1) h1 h6
 obtain⟨B,eB,hB⟩:=Iq (F:=run T 5) h1 h6 (D0 h6) mT jG
 obtain⟨l,hd,My⟩:=vS h6 mT (by lia)
 have hM:=mG h6 mT
 have kn:Kn s (Gen (pg s) (· ∈ps)):=E4 h6 hM (hd.hm ah mT)
 have Wi:B.length<=720:=Xu (jy _ _ hB.nd λx hx=>AB mT (hB.gen x hx)) (jx h6)
 have I_:∀t,t∈bU.bF B↔Gen (pg s) (· ∈ps) t:=λt=>((bU.cz B).mem_iff).trans ((hB.done t).trans vA)
 have k9:(bU.bF B).length <=1000:=by rw[(bU.cz B).length_eq];lia
 have SD:(bU.bF B).Nodup :=(bU.cz B).nodup_iff.mpr hB.nd
 generalize Wj:Gen (pg s) (· ∈ps)=M at My kn hM I_
 generalize Wk:bU.bF B=Ts at eB I_ k9 SD
 obtain⟨m,hm⟩:∃m:Nat,kU ns 2%4=m:=⟨(kU ns 2%4).toNat,by have:0<=kU ns 2%4:=XN _ (by decide);lia⟩
 have Wl:m<=4:=by have:kU ns 2%4<4:=XH _ (by decide);lia
 have Iv:∀a:Int,∃q:Nat,q<s/\a%(s:Int)=q:=λa=>⟨(a%(s:Int)).toNat,by
  have:0<=a%(s:Int):=XN _ (by lia)
  have:a%(s:Int)<s:=XH _ (by lia)
  lia,by have:0<=a%(s:Int):=XN _ (by lia);lia⟩
 obtain⟨f,hf⟩:∃f:Nat->Nat,∀k,f k<s/\kU ns (3+k)%(s:Int)=f k:=⟨λk=>(Iv (kU ns (3+k))).choose,λk=>(Iv (kU ns (3+k))).choose_spec⟩
 obtain⟨one,EB,MP⟩:=Iv (kU ns 2/4)
 have QC:∀p∈(List.range m).map f,p<s:=λp h=>by
  obtain⟨k,_,rfl⟩:=WD.mp h
  exact(hf k).1
 generalize SE:(List.range m).map f=pts at QC
 have Mz:pts.length<=1000:=by rw[<-SE,Wr,Yf];lia
 let F:=run T 6
 have SF:∀k:Nat,k<1000->F 17 [.lst (ns.map .int),.int k]=some (.int (kU ns k)):=λk hk=>QB (n:=4) ns hk
 have VH:F 22 [.tup (ps.map tp),.int s]=some (.lst (Ts.map tp)):=by
  show run T (5+1) 22 _=_
  rw[aX (d:=DF) rfl rfl];exact eB
 have f8:F 8 [.tup (ps.map tp),.int s]=some (aG (bz (pg s) M 0)):=My 2
 have SG:∀p,p<s->F 12 [aG (bz (pg s) M 0),aO p]=some (bZ s M p):=λp hp=>A' (n:=4) h6 kn hp
 have VI:F 13 [aG (bz (pg s) M 0)]=some (.tup (nD s M (List.range s))):=by
  show run T (5+1) 13 _=_
  rw[aX (d:=EW) rfl rfl];exact xy h6 hM kn.len λp hp=>A' (n:=3) h6 kn hp
 obtain⟨k1,e1⟩:=E5 h1 h6 kn QC Mz
 obtain⟨k2,e2⟩:=E5 h1 h6 kn (pts:=[one]) (λp h=>by rw[Ww.mp h];exact EB) (by rw[WR];lia)
 have VJ:=e1 1
 have QD:=e2 1
 have VM:F 23 [.lst ((Ts.filter (mU s pts)).map tp),.int s]=some (aG (bz (pg s) (Lv s M pts) 0)):=by
  show run T (5+1) 23 _=_
  rw[aX (d:=Ii) rfl rfl,tY h6 h1 k1.y (λt=>by rw[Xx,I_];exact Iff.rfl) (Xu (aam _ _) k9)]
 have f9:F 9 [aG (bz (pg s) (Lv s M [one]) 0)]=some (.int ((TL (pg s) (bz (pg s) (Lv s M [one]) 0)).length :Nat)):=by
  show run T (5+1) 9 _=_
  rw[aX (d:=d9) rfl rfl];exact AL k2.rl
 have cnt:=A4 hM EB I_ SD k2.tl k2.nd
 have Wm:(TL (pg s) (bz (pg s) (Lv s M [one]) 0)).length <=720:=vI h6 k2.v
 let sc:Option (Bool×D):=some (false,.lst (ns.map .int))
 let yd:Option (Bool×D):=some (false,aG (bz (pg s) M 0))
 let jA:Env:=[sc,some (false,.int s),none,none,none,none,none,none,none,none,none]
 let xK:Env:=[sc,some (false,.int s),some (false,.tup (ps.map tp)),none,none,none,none,none,none,none,none]
 let Es:Env:=[sc,some (false,.int s),some (false,.tup (ps.map tp)),yd,none,none,none,none,none,none,none]
 let QE:Env:=LW sc (some (false,.int s)) (some (false,.tup (ps.map tp))) (aG (bz (pg s) M 0)) Ts [] none none
 have mx:∀{b:Bool}{ρ:Env} (i:Int) (k:Nat),i=k->ρ[0]?=some sc->k<1000->ev F b (.call 17 (.w 0 (.cons (.c (.int i)) .nil))) ρ=some (.int (kU ns k)):=λ{b ρ} i k e h0 hk=>by
  subst e
  have hv:ev F true (.var 0) ρ=some (.lst (ns.map .int)):=by
   show rd true ρ 0=_
   unfold rd
   rw[h0]
   rfl
  exact aM (dg hv rfl) (SF k hk) rfl
 have s1:ev F false (.bin .Add (.c (.int 1)) (.bin .Mod (.call 17 (.w 0 (.cons (.c (.int 0)) .nil))) (.c (.int 5)))) (ai Ij [.lst (ns.map .int)])=some (.int s):=by
  rw[gK (a:= .c (.int 1)) (x:= .int 1) (y:= .int (kU ns 0%5)) rfl (gK (c:= .c (.int 5)) (y:= .int 5) (mx 0 0 rfl rfl (by lia)) rfl)]
  show some (D.int (1+kU ns 0%5))=_
  rw[hs]
 have s2:ev F false (.call 20 (.cons (.call 17 (.w 0 (.cons (.c (.int 1)) .nil))) (.u 1))) jA=some (.tup (ps.map tp)):=aM (dg (mx 1 1 rfl rfl (by lia)) (y:= .int s) rfl) er (ka ps)
 have s3:ev F false (.call 8 (.w 2 (.u 1))) xK=some (aG (bz (pg s) M 0)):=cj (dg (x:= .tup (ps.map tp)) (y:= .int s) rfl rfl) f8 rfl
 have s4:ev F false (.call 22 (.w 2 (.u 1))) Es=some (.lst (Ts.map tp)):=cj (dg (x:= .tup (ps.map tp)) (y:= .int s) rfl rfl) VH rfl
 obtain⟨y6,y7,lp⟩:=rY (by lia) hM I_ k9 SG (qs:=List.range s) (acc:=[]) (x0:=sc) (x1:=some (false,.int s)) (x2:=some (false,.tup (ps.map tp))) (x6:=none) (x7:=none) (λq h=>W7.mp h) (by rw[XZ,Yf];lia)
 rw[XJ]at lp
 let E6:Env:=LW sc (some (false,.int s)) (some (false,.tup (ps.map tp))) (aG (bz (pg s) M 0)) Ts (nD s M (List.range s)) y6 y7
 have s6:ex F (.for [6] 0 (.c8 (.u 1)) Mx) QE=some (.next E6):=by
  show((cM [.int s]).bind λxs=>aE (λx ρ=>(aA 0 x).bind λys=>(cI ρ [6] ys).bind λρ'=>ex F Mx ρ') xs QE)=_
  rw[bP (by lia),b_]
  exact lp
 have s7:ev F false (.cmp .NotEq (.call 13 (.u 3)) (.prim .tuple (.u 5))) E6=some (.bl false):=
  fQ (c:= .prim .tuple (.u 5)) (y:= .tup (nD s M (List.range s))) (cj (dX (x:=aG (bz (pg s) M 0)) rfl) VI rfl) rfl (p7 (rX _))
 let Ny:Env:=put E6 8 false (.tup (pts.map aO))
 have s8:ev F false (.prim .tuple (.cons (.comp [0,1] 0 (.c8 (.cons (.bin .Mod (.call 17 (.w 0 (.cons (.c (.int 2)) .nil))) (.c (.int 4))) .nil)) .nil (.bin .Mod (.call 17 (.w 1 (.cons (.bin .Add (.c (.int 3)) (.var 0)) .nil))) (.var 2))) .nil)) E6=some (.tup (pts.map aO)):=by
  have r1:(cv F false (.cons (.bin .Mod (.call 17 (.w 0 (.cons (.c (.int 2)) .nil))) (.c (.int 4))) .nil) E6).bind cM=some (bB 0 m):=by
   have:ev F false (.bin .Mod (.call 17 (.w 0 (.cons (.c (.int 2)) .nil))) (.c (.int 4))) E6=some (.int m):=by
    rw[gK (c:= .c (.int 4)) (y:= .int 4) (mx 2 2 rfl rfl (by lia)) rfl]
    show some (D.int (kU ns 2%4))=_
    rw[hm]
   rw[dX this]
   exact bP (by lia)
  have c1:∀b,ev F b (.comp [0,1] 0 (.c8 (.cons (.bin .Mod (.call 17 (.w 0 (.cons (.c (.int 2)) .nil))) (.c (.int 4))) .nil)) .nil (.bin .Mod (.call 17 (.w 1 (.cons (.bin .Add (.c (.int 3)) (.var 0)) .nil))) (.var 2))) E6=some (.lst (pts.map aO)):=λb=>by
   rw[gI r1 (by rw[dY];lia),b_,bO (λk:Nat=>D.int (k:Int)) (aO∘f) _ _ λk hk=>?_,<-SE,W6]
   .rfl
   .have hk:=W7.mp hk
    have c2:ev F true (.call 17 (.w 1 (.cons (.bin .Add (.c (.int 3)) (.var 0)) .nil))) [some (false,.int k),sc,some (false,.int s)]=some (.int (kU ns (3+k))):=aM (dg (x:= .lst (ns.map .int)) (y:= .int ((3+k:Nat):Int)) rfl rfl) (SF (3+k) (by lia)) rfl
    have c3:ev F false (.bin .Mod (.call 17 (.w 1 (.cons (.bin .Add (.c (.int 3)) (.var 0)) .nil))) (.var 2)) [some (false,.int k),sc,some (false,.int s)]=some (aO (f k)):=by
     rw[gK (c:= .var 2) (y:= .int s) c2 rfl]
     show(if(0:Int)<s then some (D.int (kU ns (3+k)%(s:Int))) else none)=_
     rw[WO (by lia),(hf k).2]
     rfl
    show(ev F false (.bin .Mod (.call 17 (.w 1 (.cons (.bin .Add (.c (.int 3)) (.var 0)) .nil))) (.var 2)) [some (false,.int k),sc,some (false,.int s)]).map some=_
    rw[c3]
    rfl
  rw[fH,dX (c1 true)]
  rfl
 have s9:ev F false Nx Ny=some (.lst ((Ts.filter (mU s pts)).map tp)):=D4 (λt h=>hM.s t ((I_ t).mp h)) k9 QC Mz rfl rfl
 let MA:Env:=put Ny 9 true (.lst ((Ts.filter (mU s pts)).map tp))
 have a9:ex F (.bV 9 Nx) Ny=some (.next MA):=by
  rw[oZ,s9]
  rfl
 have Ov:ev F false (.cmp .NotEq (.call 15 (.w 3 (.u 8))) (.call 23 (.w 9 (.u 1)))) MA=some (.bl false):=
  fQ (cj (dg (x:=aG (bz (pg s) M 0)) (y:= .tup (pts.map aO)) rfl rfl) VJ rfl) (aM (dg (x:= .lst ((Ts.filter (mU s pts)).map tp)) (y:= .int s) rfl rfl) VM (vT _)) (p7 (A9 _))
 let xB:Env:=put MA 10 false (aO one)
 have IG:ev F false (.bin .Mod (.bin .FloorDiv (.call 17 (.w 0 (.cons (.c (.int 2)) .nil))) (.c (.int 4))) (.var 1)) MA=some (aO one):=by
  rw[gK (c:= .var 1) (y:= .int s) (gK (c:= .c (.int 4)) (y:= .int 4) (mx 2 2 rfl rfl (by lia)) rfl) rfl]
  show(if(0:Int)<s then some (D.int (kU ns 2/4%(s:Int))) else none)=_
  rw[WO (by lia),MP]
  rfl
 have Qh:ev F true (.cmp .Eq (.bin .Mult (.call 9 (.cons (.call 15 (.w 3 (.cons (.tup (.u 10)) .nil))) .nil)) (.prim .len (.cons (.call 12 (.w 3 (.u 10))) .nil))) (.prim .len (.u 4))) xB=some (.bl true):=by
  have c1:ev F true (.call 15 (.w 3 (.cons (.tup (.u 10)) .nil))) xB=some (aG (bz (pg s) (Lv s M [one]) 0)):=cj (dg (x:=aG (bz (pg s) M 0)) (y:= .tup [aO one]) rfl rfl) QD rfl
  have c2:ev F true (.call 9 (.cons (.call 15 (.w 3 (.cons (.tup (.u 10)) .nil))) .nil)) xB=_:=cj (dX c1) f9 rfl
  have c3:ev F true (.prim .len (.cons (.call 12 (.w 3 (.u 10))) .nil)) xB=some (.int ((c6 s M one).length :Nat)):=by
   rw[fH,dX (aM (dg (x:=aG (bz (pg s) M 0)) (y:=aO one) rfl rfl) (SG one EB) (gY _))]
   show some (D.int (((c6 s M one).map aO).length :Nat))=_
   rw[Wr]
  have c4:ev F true (.bin .Mult (.call 9 (.cons (.call 15 (.w 3 (.cons (.tup (.u 10)) .nil))) .nil)) (.prim .len (.cons (.call 12 (.w 3 (.u 10))) .nil))) xB=some (.int (Ts.length:Nat)):=by
   rw[gK c2 c3,vJ (Ds _ (by lia) (by lia)),<-cnt]
   rfl
  have c5:ev F true (.prim .len (.u 4)) xB=some (.int (Ts.length:Nat)):=by
   show some (D.int ((Ts.map tp).length :Nat))=_
   rw[Wr]
  exact fQ c4 c5 (D1 rfl)
 rw[aX (d:=Ij) rfl rfl]
 show out (ex F (.seq (.asg 1 _) _) (ai Ij [.lst (ns.map .int)]))=_
 rw[aN (aT s1)]
 show out (ex F (.seq (.asg 2 _) _) jA)=_
 rw[aN (aT s2)]
 show out (ex F (.seq (.asg 3 _) _) xK)=_
 rw[aN (aT s3)]
 show out (ex F (.seq (.asg 4 _) _) Es)=_
 rw[aN (aT s4)]
 show out (ex F (.seq (.for [6] 0 _ _) _) QE)=_
 rw[aN s6,br,f7,s7]
 show out (ex F (.seq (.asg 8 _) _) E6)=_
 rw[aN (aT s8)]
 show out (ex F (.seq (.bV 9 Nx) _) Ny)=_
 rw[aN a9,br,f7,Ov]
 show out (ex F (.seq (.asg 10 _) _) MA)=_
 rw[aN (aT IG)]
 exact cV Qh
end cu
namespace cu
open PySem L2 Py
def top(i:Nat):Stmt:=PySem.Challenge.pw_turnyard_k20_points.main.body.getD i (.Pass ⟨0,0,0,0⟩)
abbrev Row:=Str×Nat×Fd×List Str
noncomputable def tb:List Row:=[("still",1,d0,["size"]),
 ("times",2,d1,["one","other"]),
 ("back",3,d2,["turn"]),
 ("left_over",5,d3,["found","turn","rest","place","steps"]),
 ("products_with",6,d4,["found","turn","made","steps","step"]),
 ("found_steps",7,d5,["row","size","found","waiting","rest","moved","place"]),
 ("least_turn",8,d6,["found","place","turn","least","steps","part"]),
 ("rung_at",9,d7,["found","place","steps"]),
 ("ladder",10,d8,["row","size","found"]),
 ("count_of",11,d9,["yard","count","rung"]),
 ("turns_of",12,xM,["yard","turns","rung","longer","pair"]),
 ("makers",13,Mf,["yard","turns","rung"]),
 ("orbit",15,IX,["yard","point","steps","reached","waiting","place","step"]),
 ("orbits",16,EW,["yard","begun"]),
 ("leaves",17,IY,["turn","points"]),
 ("kept_still",18,EY,["yard","points"]),
 ("_law_cell_at",20,Sj,["_law_script","_law_k"]),
 ("_law_mixed",21,Sl,["_law_script","_law_k","_law_drawn_here"]),
 ("_law_drawn",22,Sn,["_law_number","_law_k","_law_drawn_here"]),
 ("_law_turn",23,Sr,["_law_number","_law_size","_law_found","_law_one","_law_other","_law_many","_law_shift","_law_k","_law_made","_law_at"]),
 ("_law_row",24,Ss,["_law_number","_law_size"]),
 ("_law_times",25,Su,["_law_one","_law_other"]),
 ("_law_all",27,DF,["_law_row_here","_law_size","_law_start","_law_met","_law_todo","_law_turn_here","_law_other","_law_goal"]),
 ("_law_ladder",28,Ii,["_law_turns","_law_size","_law_rungs","_law_level","_law_rung","_law_point","_law_good"]),
 ("law",29,Ij,["_law_script","_law_size","_law_row_here","_law_yard","_law_turns","_law_due","_law_point","_law_found","_law_points","_law_good","_law_one"])]
noncomputable def G:GT:=(tb.map λr=>r.1,[])
noncomputable def SH(r:Row):Bool:=
 decide ((az (top r.2.1)).kind = .function)&&!(az (top r.2.1)).isCoroutine&&!(az (top r.2.1)).isGenerator&&decide r.2.2.2.Nodup&&decide ((r.2.2.2.take r.2.2.1.par).length =r.2.2.1.par) &&
 (r.2.2.2.take r.2.2.1.par).all (λx=>decide ((az (top r.2.1)).names.lookup x=some .local \/(az (top r.2.1)).names.lookup x=some .cell))&&(az (top r.2.1)).names.all (λy=>decide (y.2≠ .free)) &&
 gh G r.2.2.1.body r.2.2.2 (az (top r.2.1)) (bY (top r.2.1))&&decide (r.2.2.2.length=r.2.2.1.jB)
def ck:tb.all SH=true:=by decide +kernel
def Bd(r:Row):Prop:=∀(kV gZ pm:Value) (an:Option Addr) (eL ct:Value) (us:List Value),us.length=(r.2.2.2.take r.2.2.1.par).length ->bindArgs (PySem.W.fnOf r.1 r.1 (dq (top r.2.1)) (bY (top r.2.1)) (az (top r.2.1)) .none kV gZ pm an eL ct) ⟨us,[]⟩=pure ((r.2.2.2.take r.2.2.1.par).zip us)
def Iw:List Row->Prop
 |[]=>True
 |r::l=>Bd r/\Iw l
section
variable {r:Row}{l:List Row}{p q o:Str}(H:Iw l)
include H
def VN(e:r.2.2.2.take r.2.2.1.par=[p])(h:∀(kV gZ pm:Value) (an:Option Addr) (eL ct u:Value),bindArgs (PySem.W.fnOf r.1 r.1 (dq (top r.2.1)) (bY (top r.2.1)) (az (top r.2.1)) .none kV gZ pm an eL ct) ⟨[u],[]⟩=pure [(p,u)]):Iw (r::l):=
 ⟨λkV gZ pm an eL ct us hl=>by rw[e]at hl⊢;obtain⟨u,rfl⟩:=L9 hl;exact h kV gZ pm an eL ct u,H⟩
def VO(e:r.2.2.2.take r.2.2.1.par=[p,q])(h:∀(kV gZ pm:Value) (an:Option Addr) (eL ct u v:Value),bindArgs (PySem.W.fnOf r.1 r.1 (dq (top r.2.1)) (bY (top r.2.1)) (az (top r.2.1)) .none kV gZ pm an eL ct) ⟨[u,v],[]⟩=pure [(p,u),(q,v)]):Iw (r::l):=
 ⟨λkV gZ pm an eL ct us hl=>by rw[e]at hl⊢;obtain⟨u,v,rfl⟩:=L_ hl;exact h kV gZ pm an eL ct u v,H⟩
def VP(e:r.2.2.2.take r.2.2.1.par=[p,q,o])(h:∀(kV gZ pm:Value) (an:Option Addr) (eL ct u v w:Value),bindArgs (PySem.W.fnOf r.1 r.1 (dq (top r.2.1)) (bY (top r.2.1)) (az (top r.2.1)) .none kV gZ pm an eL ct) ⟨[u,v,w],[]⟩=pure [(p,u),(q,v),(o,w)]):Iw (r::l):=
 ⟨λkV gZ pm an eL ct us hl=>by rw[e]at hl⊢;obtain⟨u,v,w,rfl⟩:=Qj hl;exact h kV gZ pm an eL ct u v w,H⟩
end
def VQ:Iw tb:=by
 repeat first
  |refine VN ?_ rfl λ_ _ _ _ _ _ _=>rfl
  |refine VO ?_ rfl λ_ _ _ _ _ _ _ _=>rfl
  |refine VP ?_ rfl λ_ _ _ _ _ _ _ _ _=>rfl
 exact trivial
theorem E7:∀{l:List Row},Iw l->∀r∈l,Bd r
 |_::_,h,_,.head _=>h.1
 |_::_,h,r,.tail _ m=>E7 h.2 r m
def Dh(K:PySem.W.Frag)(r:Row):Prop:=∃(f:Addr) (fd:FuncData),Ee K r.1 r.1 (top r.2.1) f fd/\PySem.W.nsIn K mainGlobals r.1=some (some (.ref f))
def MB(K:PySem.W.Frag):List Row->Prop
 |[]=>True
 |r::l=>Dh K r/\MB K l
theorem Bb{K:PySem.W.Frag}:∀{l:List Row},MB K l->∀r∈l,Dh K r
 |_::_,h,_,.head _=>h.1
 |_::_,h,r,.tail _ m=>Bb h.2 r m
def VR{K:PySem.W.Frag}{r:List Row}{x:Str}{i:Nat}{d:Fd}{N:List Str}{f:Addr}{oc:Value}{od an:Option Addr}{sl:Array (Option Value)}{kV dc pm cd ct:Value}(a:PySem.W.nsIn K mainGlobals x=some (some (.ref f)))
  (l:K.lookup f=some ⟨oc,od,.func (PySem.W.fnOf x x (dq (top i)) (bY (top i)) (az (top i)) .none kV dc pm an cd ct),sl⟩) (c:PySem.W.codeIn K cd x=true) (k:PySem.W.keepIn K (.ref f)=true) (h:MB K r):MB K ((x,i,d,N)::r):=
 ⟨⟨f,_,F7 l c k,a⟩,h⟩
def Zs(K:PySem.W.Frag):List Str->Prop
 |[]=>True
 |x::l=>PySem.W.nsIn K mainGlobals x=some none/\Zs K l
def zs{K:PySem.W.Frag}(a:PySem.W.nsIn K mainGlobals x=some none)(h:Zs K l):Zs K (x::l):=⟨a,h⟩
theorem E8{K:PySem.W.Frag}(X:K.In h)(GM:h.Ns mainGlobals mg):∀{l:List Str},Zs K l->∀x∈l,mg x=none
 |_::_,z,_,.head _=>PySem.W.mg_none_of X GM z.1
 |_::_,z,x,.tail _ m=>E8 X GM z.2 x m
def all_mk{l:PySem.W.OpenLaw}{w:World}{K:PySem.W.Frag}{h:Heap}{mg:Str->Option Value}{fa:Addr}(X:K.In h)(GM:h.Ns mainGlobals mg)(VS:mg "law"=some (.ref fa))(D:MB K tb)(Z:Zs K ig):
  ∃fd:FuncData,(∀(s:Shared) (v:Value),BindsTo s fd ⟨[v],[]⟩ [("_law_script",v)])/\∀base:Heap,K.In base->base.Ns mainGlobals mg->iP l.prog w K mg base wm (6+1) fa fd ["_law_script"] (uQ K 1 (run T (6+1) 24)):=by
 have hb:=E8 X GM Z
 have yb:∀(x:Str) (i:Int),(x,i)∈G.2->∃t,mg x=some (.int i t):=λx i hx=>nomatch hx
 have cr:∀r∈tb,gO r.2.2.2 (r.2.2.2.take r.2.2.1.par) (az (top r.2.1))/\gh G r.2.2.1.body r.2.2.2 (az (top r.2.1)) (bY (top r.2.1))=true/\(r.2.2.2.take r.2.2.1.par).length =r.2.2.1.par/\r.2.2.2.length=r.2.2.1.jB:=λr hr=>by
  have h:=Xw.mp ck r hr
  unfold SH at h
  simp only[Ws,decide_eq_true_eq,Xw,Za]at h
  obtain⟨⟨⟨⟨⟨⟨⟨⟨h1,h2⟩,h3⟩,h4⟩,h5⟩,h6⟩,h7⟩,h8⟩,h9⟩:=h
  exact⟨⟨h1,h2,h3,h4,by rw[h5],h6,h7⟩,h8,h5,h9⟩
 have mY:∀(base:Heap) (f:Nat) (x:Str),G.1[f]?=some x->tQ l.prog w K mg base G T f x:=λbase f x hf=>by
  obtain⟨r,hr,rfl⟩:=Y4.mp ((WI ..).symm.trans hf)
  have hm:=XE hr
  obtain⟨fa,fd,F,a⟩:=Bb D r hm
  obtain⟨S,ok,l1,l2⟩:=cr r hm
  refine z_.step hb yb (d:=r.2.2.1) ?_ ⟨top r.2.1,fa,fd,_,_,F,S,F.binds (E7 VQ r hm),PySem.W.mg_of X GM a,ok,l1,l2⟩
  show(tb.map λr=>r.2.2.1)[f]?=_
  rw[WI,hr];rfl
 have hl:tb[24]?=some (("law",29,Ij,["_law_script","_law_size","_law_row_here","_law_yard","_law_turns","_law_due","_law_point","_law_found","_law_points","_law_good","_law_one"]):Row):=rfl
 have hm:=XE hl
 obtain⟨f,fd,F,a⟩:=Bb D _ hm
 cases VS.symm.trans (PySem.W.mg_of X GM a)
 obtain⟨S,ok,l1,l2⟩:=cr _ hm
 obtain⟨oc,od,kV,gZ,pm,an,eL,ct,BA,rfl,_⟩:=id F.ex
 exact⟨_,λs v=> .of_eq rfl,λbase _ _=>Ab (n:=6) (f:=24) (d:=Ij) (ps:=["_law_script"]) hb yb (Dq (mY base) 6) F S rfl ok l1 l2⟩
end cu
def VT:PySem.Stmt:=cu.top 0
def fD:PySem.Stmt:=cu.top 1
def cB:PySem.Stmt:=cu.top 2
def ku:PySem.Stmt:=cu.top 3
def IF:PySem.Stmt:=cu.top 4
def wc:PySem.Stmt:=cu.top 5
def VU:PySem.Stmt:=cu.top 6
def JX:PySem.Stmt:=cu.top 7
def VV:PySem.Stmt:=cu.top 8
def VW:PySem.Stmt:=cu.top 9
def QF:PySem.Stmt:=cu.top 10
def QG:PySem.Stmt:=cu.top 11
def QH:PySem.Stmt:=cu.top 12
def QI:PySem.Stmt:=cu.top 13
def QJ:PySem.Stmt:=cu.top 14
def QK:PySem.Stmt:=cu.top 15
def QL:PySem.Stmt:=cu.top 16
def QM:PySem.Stmt:=cu.top 17
def QN:PySem.Stmt:=cu.top 18
def QO:PySem.Stmt:=cu.top 19
def QP:PySem.Stmt:=cu.top 20
def QQ:PySem.Stmt:=cu.top 21
def QR:PySem.Stmt:=cu.top 22
def QS:PySem.Stmt:=cu.top 23
def QT:PySem.Stmt:=cu.top 24
def QU:PySem.Stmt:=cu.top 25
def QV:PySem.Stmt:=cu.top 26
def QW:PySem.Stmt:=cu.top 27
def QX:PySem.Stmt:=cu.top 28
def QY:PySem.Stmt:=cu.top 29
def VX:PySem.Program:={PySem.Challenge.pw_turnyard_k20_points with main:={PySem.Challenge.pw_turnyard_k20_points.main with body:=[VT,fD,cB,ku,IF,wc,VU,JX,VV,VW,QF,QG,QH,QI,QJ,QK,QL,QM,QN,QO,QP,QQ,QR,QS,QT,QU,QV,QW,QX,QY]}}
def SI:PySem.W.OpenLaw:={PySem.Challenge.rw_turnyard_k20_points with prog:=VX}
open PySem PySem.W PyProof.Rows
set_option maxRecDepth 100000 in
set_option maxHeartbeats 0 in
def hh:SI.Holds:=by
 w_on;o_law;k_head;(case hw=>w_witness2)
 k_fill
 refine Py.L8 (x:="_law_script") (l:=SI) (T:=cu.T) (n:=6+1) (f:=24) rfl rfl (by decide) (λw h Y=>PySem.W.kIn_of Y) ?F cu.holds
 case F=>
  intro w mg fa h KX G JO
  refine' cu.all_mk KX G JO ?D ?Z
  (case D=>
   iterate 25 (apply cu.VR;(case a=>k_is);(case l=>k_is);(case c=>k_is);(case k=>k_is))
   exact trivial)
  (case Z=>
   iterate 10 (apply cu.zs;(case a=>k_is))
   exact trivial)
theorem PySem.Challenge.cw_turnyard_k20_points_holds : PySem.Challenge.rw_turnyard_k20_points.Holds :=
 hh
