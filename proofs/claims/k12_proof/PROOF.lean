import PyProof.Rows.All
import Wide.All
import OpenK.AllK
import Wide.FinOn
import Lean
import PyProof.EqAt
import PyProof.EqKinds
import PyProof.TupleCall
import PyProof.CompFree
import PyProof.WalkInts
import PyProof.StrBlockI
import PyProof.StrBlockL
import PyProof.Rows.StrJoinMade
import PyProof.ZipIter
import KE.KRevSl
import PyProof.Rows.StrSplitAre
import PyProof.StrBlockH
import PyProof.MeetsSeq
import PyProof.Rows.SortRuns
import KE.KSortTup
import KE.KDictSum
import PyProof.DictValues
import PyProof.TableCode
import PySem.Challenge.RW_turnyard_k12_whole_ladder
set_option linter.all false
theorem ao (h: ¬p->False):p:=Classical.byContradiction h
theorem cK {A B C:Prop}{q:Prop} (x:A/\B/\C) (k:A->B->C->q):q:=k x.1 x.2.1 x.2.2
theorem yR {A B C D:Prop}{q:Prop} (x:A/\B/\C/\D) (k:A->B->C->D->q):q:=k x.1 x.2.1 x.2.2.1 x.2.2.2
theorem Lf {A B C D E:Prop}{q:Prop} (x:A/\B/\C/\D/\E) (k:A->B->C->D->E->q):q:=k x.1 x.2.1 x.2.2.1 x.2.2.2.1 x.2.2.2.2
theorem rX {A B C D E F:Prop}{q:Prop} (x:A/\B/\C/\D/\E/\F) (k:A->B->C->D->E->F->q):q:=k x.1 x.2.1 x.2.2.1 x.2.2.2.1 x.2.2.2.2.1 x.2.2.2.2.2
theorem ae {α:Sort _}{A B:α->Prop}{q:Prop} (x: ∃a,A a/\B a) (k: ∀a,A a->B a->q):q:=x.elim λa x=>k a x.1 x.2
theorem bA {α:Sort _}{A B C:α->Prop}{q:Prop} (x: ∃a,A a/\B a/\C a) (k: ∀a,A a->B a->C a->q):q:=x.elim λa x=>k a x.1 x.2.1 x.2.2
theorem zb {α:Sort _}{A B C D:α->Prop}{q:Prop} (x: ∃a,A a/\B a/\C a/\D a) (k: ∀a,A a->B a->C a->D a->q):q:=x.elim λa x=>k a x.1 x.2.1 x.2.2.1 x.2.2.2
theorem FV {α:Sort _}{A B C D E:α->Prop}{q:Prop} (x: ∃a,A a/\B a/\C a/\D a/\E a) (k: ∀a,A a->B a->C a->D a->E a->q):q:=x.elim λa x=>k a x.1 x.2.1 x.2.2.1 x.2.2.2.1 x.2.2.2.2
theorem Sb {α:Sort _}{A B C D E F:α->Prop}{q:Prop} (x: ∃a,A a/\B a/\C a/\D a/\E a/\F a) (k: ∀a,A a->B a->C a->D a->E a->F a->q):q:=x.elim λa x=>k a x.1 x.2.1 x.2.2.1 x.2.2.2.1 x.2.2.2.2.1 x.2.2.2.2.2
theorem Sd {α:Sort _}{A B C D E F G:α->Prop}{q:Prop} (x: ∃a,A a/\B a/\C a/\D a/\E a/\F a/\G a) (k: ∀a,A a->B a->C a->D a->E a->F a->G a->q):q:=x.elim λa x=>k a x.1 x.2.1 x.2.2.1 x.2.2.2.1 x.2.2.2.2.1 x.2.2.2.2.2.1 x.2.2.2.2.2.2
theorem Se {α:Sort _}{A B C D E F G H:α->Prop}{q:Prop} (x: ∃a,A a/\B a/\C a/\D a/\E a/\F a/\G a/\H a) (k: ∀a,A a->B a->C a->D a->E a->F a->G a->H a->q):q:=x.elim λa x=>k a x.1 x.2.1 x.2.2.1 x.2.2.2.1 x.2.2.2.2.1 x.2.2.2.2.2.1 x.2.2.2.2.2.2.1 x.2.2.2.2.2.2.2
theorem Lg {α:Sort _}{A B C D E F G H I J:α->Prop}{q:Prop} (x: ∃a,A a/\B a/\C a/\D a/\E a/\F a/\G a/\H a/\I a/\J a) (k: ∀a,A a->B a->C a->D a->E a->F a->G a->H a->I a->J a->q):q:=x.elim λa x=>k a x.1 x.2.1 x.2.2.1 x.2.2.2.1 x.2.2.2.2.1 x.2.2.2.2.2.1 x.2.2.2.2.2.2.1 x.2.2.2.2.2.2.2.1 x.2.2.2.2.2.2.2.2.1 x.2.2.2.2.2.2.2.2.2
theorem lP {α β:Sort _}{A:α->β->Prop}{q:Prop} (x: ∃a b,A a b) (k: ∀a b,A a b->q):q:=x.elim λa x=>x.elim (k a)
theorem gu {α β:Sort _}{A B:α->β->Prop}{q:Prop} (x: ∃a b,A a b/\B a b) (k: ∀a b,A a b->B a b->q):q:=x.elim λa x=>ae x (k a)
theorem ba {α β:Sort _}{A B C:α->β->Prop}{q:Prop} (x: ∃a b,A a b/\B a b/\C a b) (k: ∀a b,A a b->B a b->C a b->q):q:=x.elim λa x=>bA x (k a)
theorem fW {α β:Sort _}{A B C D:α->β->Prop}{q:Prop} (x: ∃a b,A a b/\B a b/\C a b/\D a b) (k: ∀a b,A a b->B a b->C a b->D a b->q):q:=x.elim λa x=>zb x (k a)
theorem jM {α β:Sort _}{A B C D E:α->β->Prop}{q:Prop} (x: ∃a b,A a b/\B a b/\C a b/\D a b/\E a b) (k: ∀a b,A a b->B a b->C a b->D a b->E a b->q):q:=x.elim λa x=>FV x (k a)
theorem Lh {α β:Sort _}{A B C D E F:α->β->Prop}{q:Prop} (x: ∃a b,A a b/\B a b/\C a b/\D a b/\E a b/\F a b) (k: ∀a b,A a b->B a b->C a b->D a b->E a b->F a b->q):q:=x.elim λa x=>Sb x (k a)
theorem QI {α β:Sort _}{A B C D E F G:α->β->Prop}{q:Prop} (x: ∃a b,A a b/\B a b/\C a b/\D a b/\E a b/\F a b/\G a b) (k: ∀a b,A a b->B a b->C a b->D a b->E a b->F a b->G a b->q):q:=x.elim λa x=>Sd x (k a)
theorem Sf {α β:Sort _}{A B C D E F G H:α->β->Prop}{q:Prop} (x: ∃a b,A a b/\B a b/\C a b/\D a b/\E a b/\F a b/\G a b/\H a b) (k: ∀a b,A a b->B a b->C a b->D a b->E a b->F a b->G a b->H a b->q):q:=x.elim λa x=>Se x (k a)
theorem Li {α β:Sort _}{A B C D E F G H I J:α->β->Prop}{q:Prop} (x: ∃a b,A a b/\B a b/\C a b/\D a b/\E a b/\F a b/\G a b/\H a b/\I a b/\J a b) (k: ∀a b,A a b->B a b->C a b->D a b->E a b->F a b->G a b->H a b->I a b->J a b->q):q:=x.elim λa x=>Lg x (k a)
theorem Gw {α β γ:Sort _}{A:α->β->γ->Prop}{q:Prop} (x: ∃a b c,A a b c) (k: ∀a b c,A a b c->q):q:=x.elim λa x=>lP x (k a)
theorem qG {α β γ:Sort _}{A B:α->β->γ->Prop}{q:Prop} (x: ∃a b c,A a b c/\B a b c) (k: ∀a b c,A a b c->B a b c->q):q:=x.elim λa x=>gu x (k a)
theorem cG {α β γ:Sort _}{A B C:α->β->γ->Prop}{q:Prop} (x: ∃a b c,A a b c/\B a b c/\C a b c) (k: ∀a b c,A a b c->B a b c->C a b c->q):q:=x.elim λa x=>ba x (k a)
theorem Kk {α β γ:Sort _}{A B C D:α->β->γ->Prop}{q:Prop} (x: ∃a b c,A a b c/\B a b c/\C a b c/\D a b c) (k: ∀a b c,A a b c->B a b c->C a b c->D a b c->q):q:=x.elim λa x=>fW x (k a)
theorem qJ {α β γ:Sort _}{A B C D E:α->β->γ->Prop}{q:Prop} (x: ∃a b c,A a b c/\B a b c/\C a b c/\D a b c/\E a b c) (k: ∀a b c,A a b c->B a b c->C a b c->D a b c->E a b c->q):q:=x.elim λa x=>jM x (k a)
theorem Gx {α β γ:Sort _}{A B C D E F:α->β->γ->Prop}{q:Prop} (x: ∃a b c,A a b c/\B a b c/\C a b c/\D a b c/\E a b c/\F a b c) (k: ∀a b c,A a b c->B a b c->C a b c->D a b c->E a b c->F a b c->q):q:=x.elim λa x=>Lh x (k a)
theorem Sg {α β γ:Sort _}{A B C D E F G:α->β->γ->Prop}{q:Prop} (x: ∃a b c,A a b c/\B a b c/\C a b c/\D a b c/\E a b c/\F a b c/\G a b c) (k: ∀a b c,A a b c->B a b c->C a b c->D a b c->E a b c->F a b c->G a b c->q):q:=x.elim λa x=>QI x (k a)
theorem Sh {α β γ:Sort _}{A B C D E F G H:α->β->γ->Prop}{q:Prop} (x: ∃a b c,A a b c/\B a b c/\C a b c/\D a b c/\E a b c/\F a b c/\G a b c/\H a b c) (k: ∀a b c,A a b c->B a b c->C a b c->D a b c->E a b c->F a b c->G a b c->H a b c->q):q:=x.elim λa x=>Sf x (k a)
theorem Lj {α β γ:Sort _}{A B C D E F G H I J:α->β->γ->Prop}{q:Prop} (x: ∃a b c,A a b c/\B a b c/\C a b c/\D a b c/\E a b c/\F a b c/\G a b c/\H a b c/\I a b c/\J a b c) (k: ∀a b c,A a b c->B a b c->C a b c->D a b c->E a b c->F a b c->G a b c->H a b c->I a b c->J a b c->q):q:=x.elim λa x=>Li x (k a)
theorem Kl {α β γ δ:Sort _}{A:α->β->γ->δ->Prop}{q:Prop} (x: ∃a b c d,A a b c d) (k: ∀a b c d,A a b c d->q):q:=x.elim λa x=>Gw x (k a)
theorem QJ {α β γ δ:Sort _}{A B:α->β->γ->δ->Prop}{q:Prop} (x: ∃a b c d,A a b c d/\B a b c d) (k: ∀a b c d,A a b c d->B a b c d->q):q:=x.elim λa x=>qG x (k a)
theorem CS {α β γ δ:Sort _}{A B C:α->β->γ->δ->Prop}{q:Prop} (x: ∃a b c d,A a b c d/\B a b c d/\C a b c d) (k: ∀a b c d,A a b c d->B a b c d->C a b c d->q):q:=x.elim λa x=>cG x (k a)
theorem Gy {α β γ δ:Sort _}{A B C D:α->β->γ->δ->Prop}{q:Prop} (x: ∃a b c d,A a b c d/\B a b c d/\C a b c d/\D a b c d) (k: ∀a b c d,A a b c d->B a b c d->C a b c d->D a b c d->q):q:=x.elim λa x=>Kk x (k a)
theorem qK {α β γ δ:Sort _}{A B C D E:α->β->γ->δ->Prop}{q:Prop} (x: ∃a b c d,A a b c d/\B a b c d/\C a b c d/\D a b c d/\E a b c d) (k: ∀a b c d,A a b c d->B a b c d->C a b c d->D a b c d->E a b c d->q):q:=x.elim λa x=>qJ x (k a)
theorem BU {α β γ δ:Sort _}{A B C D E F:α->β->γ->δ->Prop}{q:Prop} (x: ∃a b c d,A a b c d/\B a b c d/\C a b c d/\D a b c d/\E a b c d/\F a b c d) (k: ∀a b c d,A a b c d->B a b c d->C a b c d->D a b c d->E a b c d->F a b c d->q):q:=x.elim λa x=>Gx x (k a)
theorem Si {α β γ δ:Sort _}{A B C D E F G:α->β->γ->δ->Prop}{q:Prop} (x: ∃a b c d,A a b c d/\B a b c d/\C a b c d/\D a b c d/\E a b c d/\F a b c d/\G a b c d) (k: ∀a b c d,A a b c d->B a b c d->C a b c d->D a b c d->E a b c d->F a b c d->G a b c d->q):q:=x.elim λa x=>Sg x (k a)
theorem Sj {α β γ δ:Sort _}{A B C D E F G H:α->β->γ->δ->Prop}{q:Prop} (x: ∃a b c d,A a b c d/\B a b c d/\C a b c d/\D a b c d/\E a b c d/\F a b c d/\G a b c d/\H a b c d) (k: ∀a b c d,A a b c d->B a b c d->C a b c d->D a b c d->E a b c d->F a b c d->G a b c d->H a b c d->q):q:=x.elim λa x=>Sh x (k a)
theorem Lk {α β γ δ:Sort _}{A B C D E F G H I J:α->β->γ->δ->Prop}{q:Prop} (x: ∃a b c d,A a b c d/\B a b c d/\C a b c d/\D a b c d/\E a b c d/\F a b c d/\G a b c d/\H a b c d/\I a b c d/\J a b c d) (k: ∀a b c d,A a b c d->B a b c d->C a b c d->D a b c d->E a b c d->F a b c d->G a b c d->H a b c d->I a b c d->J a b c d->q):q:=x.elim λa x=>Lj x (k a)
theorem Sl {α β γ δ ε:Sort _}{A B C:α->β->γ->δ->ε->Prop}{q:Prop} (x: ∃a b c d e,A a b c d e/\B a b c d e/\C a b c d e) (k: ∀a b c d e,A a b c d e->B a b c d e->C a b c d e->q):q:=x.elim λa x=>CS x (k a)
theorem Ll {α β γ δ ε:Sort _}{A B C D:α->β->γ->δ->ε->Prop}{q:Prop} (x: ∃a b c d e,A a b c d e/\B a b c d e/\C a b c d e/\D a b c d e) (k: ∀a b c d e,A a b c d e->B a b c d e->C a b c d e->D a b c d e->q):q:=x.elim λa x=>Gy x (k a)
theorem Km {α β γ δ ε:Sort _}{A B C D E:α->β->γ->δ->ε->Prop}{q:Prop} (x: ∃a b c d e,A a b c d e/\B a b c d e/\C a b c d e/\D a b c d e/\E a b c d e) (k: ∀a b c d e,A a b c d e->B a b c d e->C a b c d e->D a b c d e->E a b c d e->q):q:=x.elim λa x=>qK x (k a)
theorem QK {α β γ δ ε:Sort _}{A B C D E F:α->β->γ->δ->ε->Prop}{q:Prop} (x: ∃a b c d e,A a b c d e/\B a b c d e/\C a b c d e/\D a b c d e/\E a b c d e/\F a b c d e) (k: ∀a b c d e,A a b c d e->B a b c d e->C a b c d e->D a b c d e->E a b c d e->F a b c d e->q):q:=x.elim λa x=>BU x (k a)
theorem Sn {α β γ δ ε:Sort _}{A B C D E F G:α->β->γ->δ->ε->Prop}{q:Prop} (x: ∃a b c d e,A a b c d e/\B a b c d e/\C a b c d e/\D a b c d e/\E a b c d e/\F a b c d e/\G a b c d e) (k: ∀a b c d e,A a b c d e->B a b c d e->C a b c d e->D a b c d e->E a b c d e->F a b c d e->G a b c d e->q):q:=x.elim λa x=>Si x (k a)
theorem Sr {α β γ δ ε:Sort _}{A B C D E F G H:α->β->γ->δ->ε->Prop}{q:Prop} (x: ∃a b c d e,A a b c d e/\B a b c d e/\C a b c d e/\D a b c d e/\E a b c d e/\F a b c d e/\G a b c d e/\H a b c d e) (k: ∀a b c d e,A a b c d e->B a b c d e->C a b c d e->D a b c d e->E a b c d e->F a b c d e->G a b c d e->H a b c d e->q):q:=x.elim λa x=>Sj x (k a)
theorem Lm {α β γ δ ε:Sort _}{A B C D E F G H I J:α->β->γ->δ->ε->Prop}{q:Prop} (x: ∃a b c d e,A a b c d e/\B a b c d e/\C a b c d e/\D a b c d e/\E a b c d e/\F a b c d e/\G a b c d e/\H a b c d e/\I a b c d e/\J a b c d e) (k: ∀a b c d e,A a b c d e->B a b c d e->C a b c d e->D a b c d e->E a b c d e->F a b c d e->G a b c d e->H a b c d e->I a b c d e->J a b c d e->q):q:=x.elim λa x=>Lk x (k a)
theorem Ss {α β γ δ ε ζ:Sort _}{A B C:α->β->γ->δ->ε->ζ->Prop}{q:Prop} (x: ∃a b c d e f,A a b c d e f/\B a b c d e f/\C a b c d e f) (k: ∀a b c d e f,A a b c d e f->B a b c d e f->C a b c d e f->q):q:=x.elim λa x=>Sl x (k a)
theorem FW {α β γ δ ε ζ:Sort _}{A B C D E:α->β->γ->δ->ε->ζ->Prop}{q:Prop} (x: ∃a b c d e f,A a b c d e f/\B a b c d e f/\C a b c d e f/\D a b c d e f/\E a b c d e f) (k: ∀a b c d e f,A a b c d e f->B a b c d e f->C a b c d e f->D a b c d e f->E a b c d e f->q):q:=x.elim λa x=>Km x (k a)
theorem Su {α β γ δ ε ζ:Sort _}{A B C D E F G:α->β->γ->δ->ε->ζ->Prop}{q:Prop} (x: ∃a b c d e f,A a b c d e f/\B a b c d e f/\C a b c d e f/\D a b c d e f/\E a b c d e f/\F a b c d e f/\G a b c d e f) (k: ∀a b c d e f,A a b c d e f->B a b c d e f->C a b c d e f->D a b c d e f->E a b c d e f->F a b c d e f->G a b c d e f->q):q:=x.elim λa x=>Sn x (k a)
theorem Sv {α β γ δ ε ζ:Sort _}{A B C D E F G H:α->β->γ->δ->ε->ζ->Prop}{q:Prop} (x: ∃a b c d e f,A a b c d e f/\B a b c d e f/\C a b c d e f/\D a b c d e f/\E a b c d e f/\F a b c d e f/\G a b c d e f/\H a b c d e f) (k: ∀a b c d e f,A a b c d e f->B a b c d e f->C a b c d e f->D a b c d e f->E a b c d e f->F a b c d e f->G a b c d e f->H a b c d e f->q):q:=x.elim λa x=>Sr x (k a)
theorem Gz {α β γ δ ε ζ:Sort _}{A B C D E F G H I J:α->β->γ->δ->ε->ζ->Prop}{q:Prop} (x: ∃a b c d e f,A a b c d e f/\B a b c d e f/\C a b c d e f/\D a b c d e f/\E a b c d e f/\F a b c d e f/\G a b c d e f/\H a b c d e f/\I a b c d e f/\J a b c d e f) (k: ∀a b c d e f,A a b c d e f->B a b c d e f->C a b c d e f->D a b c d e f->E a b c d e f->F a b c d e f->G a b c d e f->H a b c d e f->I a b c d e f->J a b c d e f->q):q:=x.elim λa x=>Lm x (k a)
theorem Sw {α β γ δ ε ζ η:Sort _}{A B C:α->β->γ->δ->ε->ζ->η->Prop}{q:Prop} (x: ∃a b c d e f g,A a b c d e f g/\B a b c d e f g/\C a b c d e f g) (k: ∀a b c d e f g,A a b c d e f g->B a b c d e f g->C a b c d e f g->q):q:=x.elim λa x=>Ss x (k a)
theorem QL {α β γ δ ε ζ η:Sort _}{A B C D E F G:α->β->γ->δ->ε->ζ->η->Prop}{q:Prop} (x: ∃a b c d e f g,A a b c d e f g/\B a b c d e f g/\C a b c d e f g/\D a b c d e f g/\E a b c d e f g/\F a b c d e f g/\G a b c d e f g) (k: ∀a b c d e f g,A a b c d e f g->B a b c d e f g->C a b c d e f g->D a b c d e f g->E a b c d e f g->F a b c d e f g->G a b c d e f g->q):q:=x.elim λa x=>Su x (k a)
theorem Sx {α β γ δ ε ζ η:Sort _}{A B C D E F G H:α->β->γ->δ->ε->ζ->η->Prop}{q:Prop} (x: ∃a b c d e f g,A a b c d e f g/\B a b c d e f g/\C a b c d e f g/\D a b c d e f g/\E a b c d e f g/\F a b c d e f g/\G a b c d e f g/\H a b c d e f g) (k: ∀a b c d e f g,A a b c d e f g->B a b c d e f g->C a b c d e f g->D a b c d e f g->E a b c d e f g->F a b c d e f g->G a b c d e f g->H a b c d e f g->q):q:=x.elim λa x=>Sv x (k a)
theorem nE {α β γ δ ε ζ η θ:Sort _}{A B C:α->β->γ->δ->ε->ζ->η->θ->Prop}{q:Prop} (x: ∃a b c d e f g h,A a b c d e f g h/\B a b c d e f g h/\C a b c d e f g h) (k: ∀a b c d e f g h,A a b c d e f g h->B a b c d e f g h->C a b c d e f g h->q):q:=x.elim λa x=>Sw x (k a)
theorem QM {α β γ δ ε ζ η θ ι:Sort _}{A B C:α->β->γ->δ->ε->ζ->η->θ->ι->Prop}{q:Prop} (x: ∃a b c d e f g h i,A a b c d e f g h i/\B a b c d e f g h i/\C a b c d e f g h i) (k: ∀a b c d e f g h i,A a b c d e f g h i->B a b c d e f g h i->C a b c d e f g h i->q):q:=x.elim λa x=>nE x (k a)
set_option bootstrap.genMatcherCode false
set_option genSizeOf false
set_option compiler.extract_closed false
set_option Elab.async false
set_option maxRecDepth 100000
namespace L2
open PySem PySem.Spec PyProof.Rows
noncomputable abbrev cB:=Sum Int Str
noncomputable def kg:cB->Value->Bool
 | .inl k,v=>Value.isInt k v
 | .inr x,v=>Value.isStrOf x v
noncomputable def Ln (w:World):cB->Int
 | .inl k=>hashInt k
 | .inr x=>hashStr w x
theorem aV: ∀{k:cB}{v:Value},kg k v=true->(∃i t,k=Sum.inl i/\v=Value.int i t)\/(∃x t,k=Sum.inr x/\v=Value.str x t)
 | .inl i,v,h=>by
  obtain⟨t,e⟩:=Value.isInt_shape (k:=i) (v:=v) h
  exact .inl ⟨i,t,rfl,e⟩
 | .inr x,v,h=>by
  obtain⟨t,e⟩:=Value.isStrOf_shape (x:=x) (v:=v) h
  exact .inr ⟨x,t,rfl,e⟩
theorem ui (i:Int) (t:Tok):kg (.inl i) (.int i t)=true:=by simp [kg,Value.isInt]
theorem uj (x:Str) (t:Tok):kg (.inr x) (.str x t)=true:=by simp [kg,Value.isStrOf]
theorem CT (a b:Int):decide ((Sum.inl a:cB)=Sum.inl b)=(a == b):=by
 by_cases e:a=b
 .subst e; simp
 .have h: ¬(Sum.inl a:cB)=Sum.inl b:=λq=>e (Sum.inl.inj q)
  rw [decide_eq_false h]
  exact(beq_eq_false_iff_ne.mpr e).symm
theorem CU (a b:Str):decide ((Sum.inr a:cB)=Sum.inr b)=decide (a=b):=by
 by_cases e:a=b
 .subst e; simp
 .have h: ¬(Sum.inr a:cB)=Sum.inr b:=λq=>e (Sum.inr.inj q)
  rw [decide_eq_false h,decide_eq_false e]
theorem CV (a:Int) (b:Str):decide ((Sum.inl a:cB)=Sum.inr b)=false:=decide_eq_false (λq=>nomatch q)
theorem CW (a:Str) (b:Int):decide ((Sum.inr a:cB)=Sum.inl b)=false:=decide_eq_false (λq=>nomatch q)
noncomputable def aU (prog:Program) (w:World):PySem.KeyKind prog w cB where
 is:=kg
 hash:=Ln w
 inj:=λv a b ha hb=>by
  rcases aV ha with ⟨i,t,rfl,rfl⟩|⟨x,t,rfl,rfl⟩
  .rcases aV hb with ⟨j,u,rfl,e⟩|⟨y,u,rfl,e⟩
   .injection e with e1 _; rw [e1]
   .exact nomatch e
  .rcases aV hb with ⟨j,u,rfl,e⟩|⟨y,u,rfl,e⟩
   .exact nomatch e
   .injection e with e1 _; rw [e1]
 byValue:=λk v h=>by
  rcases aV h with ⟨i,t,rfl,rfl⟩|⟨x,t,rfl,rfl⟩ <;> rfl
 pyHash:=λhv h=>by
  rcases aV hv with ⟨i,t,rfl,rfl⟩|⟨x,t,rfl,rfl⟩
  .exact wpAny_pyHash_int h
  .exact wpAny_pyHash_str h
 eqBool:=λhu hv h=>by
  rcases aV hu with ⟨i,t,rfl,rfl⟩|⟨x,t,rfl,rfl⟩
  .rcases aV hv with ⟨j,u,rfl,rfl⟩|⟨y,u,rfl,rfl⟩
   .rw [CT] at h; exact wpAny_eqBool_int h
   .rw [CV] at h; exact SeqAt.EqAt.int_str i t y u _ _ _ _ h
  .rcases aV hv with ⟨j,u,rfl,rfl⟩|⟨y,u,rfl,rfl⟩
   .rw [CW] at h; exact SeqAt.EqAt.str_int x t j u _ _ _ _ h
   .rw [CU] at h; exact wpAny_eqBool_str h
 «strs»:=λk x t v h=>by
  rcases aV h with ⟨i,u,rfl,e⟩|⟨y,u,rfl,e⟩
  .exact nomatch e
  .injection e with e1 _
   subst e1
   cases v <;> rfl
theorem pb (prog:Program) (w:World) (i:Int) (t:Tok):(aU prog w).is (.inl i) (.int i t)=true:=ui i t
theorem ph (prog:Program) (w:World) (x:Str) (t:Tok):(aU prog w).is (.inr x) (.str x t)=true:=uj x t
end L2
namespace L2
open PySem PySem.Spec PyProof.Rows
inductive V where
 |eK|bl (b:Bool)|int (i:Int)|str (x:Str)|GA (b:Array UInt8)|Lp (b:UInt64)|ref (a:Addr)|ty (n:String)
 deriving DecidableEq
noncomputable def RelV:V->Value->Prop
 | .eK,u=>u=Value.none
 | .bl b,u=>u=Value.bool b
 | .int i,u=> ∃t,u=Value.int i t
 | .str x,u=> ∃t,u=Value.str x t
 | .GA b,u=> ∃t,u=Value.bytes b t
 | .Lp b,u=> ∃t,u=Value.float b t
 | .ref a,u=>u=Value.ref a
 | .ty n,u=>u=Value.type n
noncomputable abbrev aA:List V->List Value->Prop:=Paired RelV
theorem aA.length (r:aA xs us):xs.length=us.length:=Paired.length r
theorem aA.get: ∀{xs:List V}{us:List Value}{i:Nat}{x:V},aA xs us->xs[i]?=some x-> ∃u,us[i]?=some u/\RelV x u
 |_,_,_,_,.nil,e=>by simp at e
 |_,_,0,_,.cons r _,e=>by simp at e; subst e; exact⟨_,rfl,r⟩
 |_,_,i + 1,x,.cons _ t,e=>by
  exact ae (aA.get (i:=i) (x:=x) t (by simpa using e)) λu h1 h2=>⟨u,by simpa using h1,h2⟩
theorem aA.set (r:RelV x u): ∀{xs:List V}{us:List Value} (i:Nat),aA xs us->aA (xs.set i x) (us.set i u)
 |_,_,_,.nil => .nil
 |_,_,0,.cons _ t=> .cons r t
 |_,_,i + 1,.cons q t=> .cons q (aA.set r i t)
theorem aA.append: ∀{xs ys:List V}{us ws:List Value},aA xs us->aA ys ws->aA (xs++ys) (us++ws):=λ{xs ys us ws} h s=>by
 induction h with
 |nil=>exact s
 |cons r t ih=>exact .cons r ih
theorem aA.take: ∀{xs:List V}{us:List Value} (n:Nat),aA xs us->aA (xs.take n) (us.take n)
 |_,_,0,_=> .nil
 |_,_,_ + 1,.nil => .nil
 |_,_,n + 1,.cons r t=> .cons r (aA.take n t)
theorem aA.drop: ∀{xs:List V}{us:List Value} (n:Nat),aA xs us->aA (xs.drop n) (us.drop n)
 |_,_,0,r=>r
 |_,_,_ + 1,.nil => .nil
 |_,_,n + 1,.cons _ t=>aA.drop n t
noncomputable def lU:Option V->Option Value->Prop
 |some v,some u=>RelV v u
 |none,none=>True
 |_,_=>False
noncomputable def KV {κ:Type}:List (κ×V)->List (κ×Value)->Prop:=Paired λ(p:κ×V) (q:κ×Value)=>p.1=q.1/\RelV p.2 q.2
noncomputable def kV:cB->V
 | .inl i=> .int i
 | .inr x=> .str x
inductive HO where
  |lst (xs:List V)
  |tup (xs:List V)
  |dK (aw:List (cB×V))|dT (aw:List (List cB×V))
  |set (S:Int->Bool) (n:Nat)
  |ins (C dx:Addr) (fs:List (Str×V))
  |own (x:Addr)
  |xd (fs:List (Str×V))
  |met (f x:Addr)
  |dQ (lo hi:Int)
  |cZ (o:Obj) (u:HO)
  |CY (ps:Array Value)
  |ext (φ:Heap->Prop)
noncomputable abbrev Hp:=Addr->Option HO
noncomputable def upd (H:Hp) (a:Addr) (o:HO):Hp:=λb=>if b=a then some o else H b
theorem ah:upd H a o a=some o:=by unfold upd; rw [if_pos rfl]
theorem ak (h:b≠a):upd H a o b=H b:=by unfold upd; rw [if_neg h]
theorem fc {H:Hp}{a b:Addr}{o u:HO} (h:H a=some o) (h':H b=some u) (d:o≠u):a≠b:=by
 intro e; subst e; rw [h] at h'; exact d (Option.some.inj h')
theorem bT {H:Hp}{a b:Addr}{o:HO} (h:H a=some o) (h':H b=none):a≠b:=by
 intro e; subst e; rw [h] at h'; cases h'
noncomputable def i5 (h:Heap) (a:Addr) (items:Array Value):Prop:= ∃o,h.get? a=some o/\o.cls= .type "tuple"/\(∃n,o.data= .seq items n)/\o.dict=none
theorem i5.tup {h:Heap}{a:Addr}{items:Array Value} (x:i5 h a items):IsTup h a items:=let ⟨o,e,c,d,_⟩:=x; ⟨o,e,c,d⟩
theorem i5.lt {h:Heap}{a:Addr}{items:Array Value} (x:i5 h a items):a < h.objs.size:=let ⟨_,ho,_⟩:=x; Heap.lt_size ho
theorem i5.new (h:Heap) (items:Array Value):i5 (h.push {cls:= .type "tuple",data:= .seq items}) h.objs.size items:=⟨_,Heap.get?_push_size _ rfl,rfl,⟨_,rfl⟩,rfl⟩
section
variable (P:Program) (w:World)
noncomputable def aP (H:Hp) (h:Heap) (a:Addr):HO->Prop
 | .lst xs=>xs.length<=sizeLine/\ ∃(its:List Value) (n:Nat),aA xs its/\h.get? a=some {cls:= .type "list",data:= .seq its.toArray n}
 | .tup xs=>xs.length<=sizeLine/\ ∃its:List Value,aA xs its/\i5 h a its.toArray
 | .dK aw=>aw.length<=sizeLine/\(a == sysModules)=false/\ ∃vs,KV aw vs/\h.DictOf (aU P w) a vs
 | .dT aw=>aw.length<=sizeLine/\(a == sysModules)=false/\ ∃xs:List (List cB×Addr×Value),
   Paired (λ(p:List cB×V) (q:List cB×Addr×Value)=>p.1=q.1/\H q.2.1=some (.tup (p.1.map kV))/\RelV p.2 q.2.2) aw xs/\
   ∃o es ep,h.get? a=some o/\o.ExactDict/\o.data= .dict es ep/\es.toList=xs.map (entryOfKey (tupleKind (aU P w)))/\(xs.map (·.1)).Nodup
 | .set S n=>h.SetOf (intKind P w) a S n
 | .ins C dx fs=>H dx=some (.own a)/\fs.length<=1000/\dx≠a/\h.get? a=some (PySem.W.instObj C dx)/\
   ∃mA,h.Ns1 dx mA/\(∀f,lU (fs.lookup f) (mA f))/\PySem.Within mA (fs.map (·.1))
 | .own _=> ∃o,h.get? a=some o
 | .xd fs=> ∃mA,h.Ns1 a mA/\ ∀f,lU (fs.lookup f) (mA f)
 | .dQ lo hi=> ∃t u v,h.get? a=some {cls:= .type "range",data:= .fields #[.int lo t,.int hi u,.int 1 v]}
 | .cZ o u=>h.get? a=some o/\aP H h a u
 | .CY ps=>h.get? a=some {cls:= .none,data:= .fields ps}
 | .met f x=>h.get? a=some (PySem.W.methodObj (.ref f) (.ref x))
 | .ext φ=>φ h/\(∃o,h.get? a=some o)/\ ∀h1 h2:Heap,φ h1->(∀o,h1.get? a=some o->h2.get? a=some o)->φ h2
noncomputable def gH (H:Hp) (h:Heap):Prop:= ∀a o,H a=some o->aP P w H h a o
end
section
variable {P:Program}{w:World}{H H':Hp}{h h':Heap}{a:Addr}{o:HO}
theorem aP.lt (x:aP P w H h a o):a < h.objs.size:=by
 cases o with
 |lst xs=>obtain⟨_,_,_,_,e⟩:=x; exact Heap.lt_size e
 |tup xs=>obtain⟨_,_,_,p⟩:=x; exact p.lt
 |dK aw=>obtain⟨_,_,_,_,o,_,_,e,_⟩:=x; exact Heap.lt_size e
 |dT aw=>obtain⟨_,_,_,_,o,_,_,e,_⟩:=x; exact Heap.lt_size e
 |set S n=>obtain⟨o,_,_,_,e,_⟩:=x; exact Heap.lt_size e
 |ins C dx fs=>obtain⟨_,_,_,e,_⟩:=x; exact Heap.lt_size e
 |own y=>obtain⟨_,e⟩:=x; exact Heap.lt_size e
 |xd fs=>obtain⟨_,⟨_,_,_,e,_⟩,_⟩:=x; exact Heap.lt_size e
 |dQ lo hi=>obtain⟨_,_,_,e⟩:=x; exact Heap.lt_size e
 |cZ ob u=>obtain⟨e,_⟩:=x; exact Heap.lt_size e
 |CY ps=>exact Heap.lt_size (show h.get? a=some _ from x)
 |met f y=>exact Heap.lt_size (show h.get? a=some _ from x)
 |ext φ=>obtain⟨_,⟨_,e⟩,_⟩:=x; exact Heap.lt_size e
theorem Paired.GB: ∀{CZ:List α}{C0:List β},Paired F CZ C0->(∀a b,F a b->G a b)->Paired G CZ C0:=λ{CZ C0} h f=>by
 induction h with
 |nil=>exact .nil
 |cons r t ih=>exact .cons (f _ _ r) ih
theorem aP.lV (x:aP P w H h a o) (k: ∀b u,(b=a\/H b=some (.own a))->h.get? b=some u->h'.get? b=some u)
  (ho: ∀b,H b=some (.own a)->H' b=some (.own a)) (ht: ∀b xs,H b=some (.tup xs)->H' b=some (.tup xs)):aP P w H' h' a o:=by
 induction o with
 |lst xs=>obtain⟨z,its,n,r,e⟩:=x; exact⟨z,its,n,r,k _ _ (.inl rfl) e⟩
 |tup xs=>obtain⟨z,its,r,ob,e,c⟩:=x; exact⟨z,its,r,ob,k _ _ (.inl rfl) e,c⟩
 |dK aw=>obtain⟨z,y,vs,r,ob,es,ep,e,c⟩:=x; exact⟨z,y,vs,r,ob,es,ep,k _ _ (.inl rfl) e,c⟩
 |dT aw=>
  obtain⟨z,y,xs,r,ob,es,ep,e,c⟩:=x
  exact⟨z,y,xs,Paired.GB r λp q z=>⟨z.1,ht _ _ z.2.1,z.2.2⟩,ob,es,ep,k _ _ (.inl rfl) e,c⟩
 |set S n=>obtain⟨ob,es,ep,t,e,c⟩:=x; exact⟨ob,es,ep,t,k _ _ (.inl rfl) e,c⟩
 |ins C dx fs=>
  obtain⟨d,z,ne,e,mA,⟨od,es,ep,e2,c⟩,r⟩:=x
  exact⟨ho _ d,z,ne,k _ _ (.inl rfl) e,mA,⟨od,es,ep,k _ _ (.inr d) e2,c⟩,r⟩
 |own y=>obtain⟨ob,e⟩:=x; exact⟨ob,k _ _ (.inl rfl) e⟩
 |xd fs=>obtain⟨mA,⟨od,es,ep,e,c⟩,r⟩:=x; exact⟨mA,⟨od,es,ep,k _ _ (.inl rfl) e,c⟩,r⟩
 |dQ lo hi=>obtain⟨t,u,v,e⟩:=x; exact⟨t,u,v,k _ _ (.inl rfl) e⟩
 |cZ ob u ih=>obtain⟨e,q⟩:=x; exact⟨k _ _ (.inl rfl) e,ih q⟩
 |CY ps=>
  have e:h.get? a=some {cls:= .none,data:= .fields ps}:=x
  show h'.get? a=some {cls:= .none,data:= .fields ps}
  exact k a _ (.inl rfl) e
 |met f y=>
  have e:h.get? a=some (PySem.W.methodObj (.ref f) (.ref y)):=x
  show h'.get? a=some (PySem.W.methodObj (.ref f) (.ref y))
  exact k a _ (.inl rfl) e
 |ext φ=>obtain⟨p,⟨o,e⟩,st⟩:=x; exact⟨st _ _ p λo q=>k _ _ (.inl rfl) q,⟨o,k _ _ (.inl rfl) e⟩,st⟩
theorem gH.lt (x:gH P w H h) (e:H a=some o):a < h.objs.size:=(x a o e).lt
theorem gH.fresh (x:gH P w H h) (e:h.objs.size<=a):H a=none:=by
 cases q:H a with
 |none=>rfl
 |some u=>exact absurd (Nat.lt_of_lt_of_le (x.lt q) e) (Nat.lt_irrefl _)
theorem gH.kept (x:gH P w H h) (k: ∀b u,h.get? b=some u->h'.get? b=some u):gH P w H h':=λa o e=>
 (x a o e).lV (λb u _ q=>k b u q) (λ_ q=>q) λ_ _ q=>q
theorem gH.laid (x:gH P w H h) (k: ∀b u,h.get? b=some u->h'.get? b=some u) (hp:h.objs.size<=a) (new:aP P w (upd H a o) h' a o):gH P w (upd H a o) h':=λb u e=>by
 have hn:=x.fresh hp
 by_cases hb:b=a
 .subst hb; rw [ah] at e; cases e; exact new
 .rw [ak hb] at e
  exact(x b u e).lV (λc v _ q=>k c v q) (λc q=>by rw [ak (bT q hn)]; exact q) λc xs q=>by rw [ak (bT q hn)]; exact q
end
noncomputable def Rd (H:Hp) (a:Addr) (u:HO):Prop:=H a=some u\/ ∃o,H a=some (.cZ o u)
theorem Rd.ok (r:Rd H a u) (x:gH P w H h):aP P w H h a u:=by
 rcases r with r|⟨o,r⟩
 .exact x a u r
 .obtain⟨_,q⟩:=x a _ r
  exact q
noncomputable def vH:Option HO->Prop
 |some (.lst _)=>True
 |some (.dK _)=>True
 |some (.dT _)=>True
 |some (.set _ _)=>True
 |some (.ins _ _ _)=>True
 |some (.ext _)=>True
 |_=>False
section
variable {P:Program}{w:World}{H:Hp}{h h':Heap}{x e:Addr}{o':HO}
theorem gH.write (ok:gH P w H h) (mu:vH (H x)) (he:e=x\/H e=some (.own x)) (k: ∀b u,b≠e->h.get? b=some u->h'.get? b=some u) (BV: ∃u,h'.get? e=some u)
  (new:aP P w (upd H x o') h' x o'):gH P w (upd H x o') h':=λb u q=>by
 have GC: ∀c y,H c=some (.own y)->c≠x:=λc y r z=>by subst z; rw [r] at mu; exact mu
 have Lq: ∀c xs,H c=some (.tup xs)->c≠x:=λc xs r z=>by subst z; rw [r] at mu; exact mu
 by_cases hb:b=x
 .subst hb; rw [ah] at q; cases q; exact new
 .rw [ak hb] at q
  by_cases yS:b=e
  .have q':H b=some (.own x):=by
    rcases he with z|z
    .exact absurd (yS.trans z) hb
    .rw [yS]; exact z
   rw [q] at q'; cases q'
   obtain⟨v,hv⟩:=BV
   exact⟨v,by rw [yS]; exact hv⟩
  .refine(ok b u q).lV (λc v hc r=>k c v ?_ r) (λc r=>by rw [ak (GC c b r)]; exact r) λc xs r=>by rw [ak (Lq c xs r)]; exact r
   rcases hc with rfl|hc
   .exact yS
   .rintro rfl
    rcases he with z|z
    .exact GC c b hc z
    .rw [hc] at z; cases z; exact hb rfl
end
structure Un (fs ex:List Addr) (H H':Hp) (h h':Heap):Prop where
 keep: ∀b o,h.get? b=some o->H b=none->b∉fs->b∉ex->h'.get? b=some o
 slot: ∀b o,h.get? b=some o->H b=none->b∈fs->b∉ex-> ∃sl,h'.get? b=some {o with slots:=sl}
 free: ∀b o,h.get? b=some o->H b=none->b∉ex->H' b=none
 there: ∀b o,h.get? b=some o->b∉ex-> ∃o',h'.get? b=some o'
 nF: ∀b xs,H b=some (.tup xs)->H' b=some (.tup xs)
 gI: ∀b o u,H b=some (.cZ o u)->H' b=some (.cZ o u)
 nG: ∀b ps,H b=some (.CY ps)-> ∃more,H' b=some (.CY (ps++more))
section
variable {fs Sy ex WM:List Addr}{H H1 H2:Hp}{h h1 h2 h':Heap}{a x e:Addr}{o:HO}
theorem Un.any (u:Un fs ex H H1 h h1) (q:h.get? b=some ob) (n:H b=none) (hx:b∉ex): ∃sl,h1.get? b=some {ob with slots:=sl}:=by
 by_cases hb:b∈fs
 .exact u.slot b ob q n hb hx
 .exact⟨ob.slots,u.keep b ob q n hb hx⟩
theorem Un.kept (k: ∀b u,h.get? b=some u->h'.get? b=some u):Un fs ex H H h h':=
 ⟨λb ob q _ _ _=>k b ob q,λb ob q _ _ _=>⟨ob.slots,k b ob q⟩,λ_ _ _ n _=>n,λb ob q _=>⟨ob,k b ob q⟩,λ_ _ q=>q,λ_ _ _ q=>q,λ_ ps q=>⟨#[],by rw [q]; simp⟩⟩
theorem Un.refl:Un fs ex H H h h:=Un.kept λ_ _ q=>q
theorem Un.laid (k: ∀b u,h.get? b=some u->h'.get? b=some u) (hp:h.objs.size<=a) (hn:H a=none):Un fs ex H (upd H a o) h h' where
 keep:=λb u q _ _ _=>k b u q
 slot:=λb u q _ _ _=>⟨u.slots,k b u q⟩
 free:=λb u q n _=>by rw [ak (Nat.ne_of_lt (Nat.lt_of_lt_of_le (Heap.lt_size q) hp))]; exact n
 there:=λb u q _=>⟨u,k b u q⟩
 nF:=λb xs q=>by rw [ak (bT q hn)]; exact q
 gI:=λb u xs q=>by rw [ak (bT q hn)]; exact q
 nG:=λb ps q=>⟨#[],by rw [ak (bT q hn),q]; simp⟩
theorem Un.write (mu:vH (H x)) (he:e=x\/H e=some (.own x)) (k: ∀b u,b≠e->h.get? b=some u->h'.get? b=some u) (BV: ∃u,h'.get? e=some u):Un fs ex H (upd H x o) h h':=by
 have hx: ∀b,H b=none->b≠x:=λb n z=>by subst z; rw [n] at mu; exact mu
 have hb: ∀b,H b=none->b≠e:=λb n z=>by
  subst z
  rcases he with r|r
  .exact hx b n r
  .rw [n] at r; cases r
 have hm: ∀b u,H b=some u-> ¬vH (some u)->b≠x:=λb u q nm z=>by subst z; rw [q] at mu; exact nm mu
 refine⟨λb u q n _ _=>k b u (hb b n) q,λb u q n _ _=>⟨u.slots,k b u (hb b n) q⟩,λb u q n _=>by rw [ak (hx b n)]; exact n,λb u q _=>?_,
  λb xs q=>by rw [ak (hm b _ q λz=>z)]; exact q,λb u xs q=>by rw [ak (hm b _ q λz=>z)]; exact q,λb ps q=>⟨#[],by rw [ak (hm b _ q λz=>z),q]; simp⟩⟩
 by_cases yS:b=e
 .subst yS; exact BV
 .exact⟨u,k b u yS q⟩
end
noncomputable def Kn (h:Heap) (H:Hp):List Addr:=(List.range h.objs.size).filter λa=>(H a).isSome
noncomputable def nH (h:Heap) (H:Hp):Heap:=PySem.W.hideAll h (Kn h H)
theorem uk (h:Heap) (H:Hp):(nH h H).objs.size =h.objs.size:=PySem.W.hideAll_size _ _
theorem vI (e:h.get? b=some o) (n:H b=none):(nH h H).get? b=some o:=
 PySem.W.hideAll_get _ e λhm=>by
  have q:(H b).isSome =true:=(List.mem_filter.mp hm).2
  rw [n] at q; simp at q
theorem zc (e:(nH h H).get? b=some o):h.get? b=some o/\H b=none:=by
 have e':h.get? b=some o:=PySem.W.of_hideAll (Kn h H) e
 refine⟨e',?_⟩
 cases q:H b with
 |none=>rfl
 |some x=>
  have hm:b∈Kn h H:=List.mem_filter.mpr ⟨List.mem_range.mpr (Heap.lt_size e'),by simp [q]⟩
  have z:(nH h H).get? b=none:=PySem.W.hideAll_none (Kn h H) hm
  rw [z] at e; cases e
end L2
namespace L2
open PySem PySem.Spec PyProof.Rows
structure Mod (K:PySem.W.Frag) (mg:Str->Option Value) (base:Heap):Prop where
 Ko:K.In base
 glob:base.Ns mainGlobals mg
 blt: ∃mb,base.Ns builtinsNs mb/\ ∀x:Str,x≠"__name__"->mb x=bootBuiltins x
 nolimit:base.NoLimit
structure Cx where
 prog:Program
 w:World
 K:PySem.W.Frag
 mg:Str->Option Value
 base:Heap
 A:Around
 N:List Str
 s₀:Shared
 H₀:Hp
 env:Env
 outer:List Env
 stack:List Env
 ex:List Addr
 fn:Str->Bool
 calm:Bool
 pn:List (Addr×Obj)
 xe:Value->Shared->Prop
noncomputable def vJ (l:List Env):List Addr:=l.filterMap (·.frame)
noncomputable abbrev Cx.fs (X:Cx):List Addr:=vJ X.outer
noncomputable def um (sc:Scope) (x:Str):Prop:=sc.names.lookup x=some .local \/sc.names.lookup x=some .cell \/sc.names.lookup x=some .free
noncomputable def Loc (sc:Scope) (x:Str):Prop:=sc.names.lookup x=some .local \/sc.names.lookup x=some .cell
noncomputable def Look (env:Env) (h:Heap) (m:Str->Option Value) (x:Str) (u:Value):Prop:=
 (env.kindOf x=some .local /\m x=some u)\/((env.kindOf x=some .cell \/env.kindOf x=some .free)/\ ∃c,env.cells.lookup x=some c/\h.IsCell c (some u))
structure Cx.Ok (X:Cx):Prop where
 mod:Mod X.K X.mg X.base
 kind:X.env.scope.kind= .function
 glob:X.env.globals=mainGlobals
 blt:X.env.builtins=builtinsNs
 above:X.s₀.heap.objs.size<=X.env.locals
 inj: ∀x y c,X.env.cells.lookup x=some c->X.env.cells.lookup y=some c->x=y
 has: ∀x,(X.env.kindOf x=some .cell \/X.env.kindOf x=some .free)-> ∃c,X.env.cells.lookup x=some c
 GD: ∀x c,X.fn x=true->X.env.cells.lookup x=some c->X.s₀.heap.objs.size<=c
 hd:X.calm=true->X.A.handled=none
 frames:X.A.frames=some X.stack
 Kp:X.stack=X.outer\/(X.stack=X.env::X.outer/\X.env.frame=some X.env.locals)
 QN: ∀b∈X.ex,b≠X.env.locals/\ ∀x c,X.env.cells.lookup x=some c->c≠b
 bs: ∀b o,X.base.get? b=some o->X.s₀.heap.get? b=some o/\X.H₀ b=none
 vK:X.base.objs.size<=X.s₀.heap.objs.size
 vL: ∀b o,X.base.get? b=some o->b∉X.ex
 zf: ∀b∈X.ex,b∉X.fs
 kh:X.s₀.heap.FunFrames X.base X.outer
 FX: ∀b∈X.fs,X.H₀ b=none
structure Inv (X:Cx) (U:List (Addr×Obj)) (σ:List (Option V)) (H:Hp) (s:Shared):Prop where
 ok:X.Ok
 os:s.os=X.s₀.os
 bare:AllBare s.gens
 base:Un X.fs X.ex X.H₀ H X.s₀.heap s.heap
 loc: ∃m,s.heap.Ns X.env.locals m/\ ∀(i:Nat) (x:Str) (v:V),X.N[i]?=some x->σ[i]?=some (some v)->um X.env.scope x-> ∃u,RelV v u/\Look X.env s.heap m x u
 cell: ∀x c,X.env.cells.lookup x=some c-> ∃v,s.heap.IsCell c v
 free:H X.env.locals=none
 fg: ∀x c,X.env.cells.lookup x=some c->H c=none
 pin: ∀p∈X.pn++U,s.heap.get? p.1=some p.2/\H p.1=none/\p.1≠X.env.locals/\p.1∉X.fs/\ ∀v,p.2.data≠ .cell v
 aN:gH X.prog X.w H s.heap
 len:σ.length=X.N.length
section
variable {X:Cx}{U:List (Addr×Obj)}{σ:List (Option V)}{H H':Hp}{s:Shared}{h':Heap}
theorem Cx.Ok.Lr (ok:X.Ok) (e:X.base.get? b=some o):b∉X.fs:=λhb=>by
 have:=(ok.kh.mem hb).1
 rw [e] at this; cases this
theorem Inv.bs (I:Inv X U σ H s): ∀b o,X.base.get? b=some o->s.heap.get? b=some o/\H b=none:=λb o e=>
 ⟨I.base.keep b o (I.ok.bs b o e).1 (I.ok.bs b o e).2 (I.ok.Lr e) (I.ok.vL b o e),I.base.free b o (I.ok.bs b o e).1 (I.ok.bs b o e).2 (I.ok.vL b o e)⟩
theorem Inv.bk (I:Inv X U σ H s): ∀b o,X.base.get? b=some o->s.heap.get? b=some o:=λb o e=>(I.bs b o e).1
theorem Inv.mod (I:Inv X U σ H s):Mod X.K X.mg X.base:=I.ok.mod
theorem Inv.BW (I:Inv X U σ H s):X.K.In s.heap:=I.ok.mod.Ko.keeps I.bk
theorem Inv.lt (I:Inv X U σ H s):X.env.locals < s.heap.objs.size:=let ⟨_,hn,_⟩:=I.loc; hn.lt
theorem Inv.sz (I:Inv X U σ H s):X.s₀.heap.objs.size<=s.heap.objs.size:=Nat.le_trans I.ok.above (Nat.le_of_lt I.lt)
theorem Inv.Ls (I:Inv X U σ H s) (h:s.heap.objs.size<=a):a∉X.fs:=λhb=>by
 obtain⟨_,o,ho,_⟩:=I.ok.kh.mem hb
 exact absurd (Nat.lt_of_lt_of_le (Heap.lt_size ho) (Nat.le_trans I.sz h)) (Nat.lt_irrefl _)
theorem Inv.C1 (I:Inv X U σ H s): ∀x c,X.env.cells.lookup x=some c->c≠X.env.locals:=λx c e z=>by
 refine gu (I.cell x c e) λv o ho hd=>?_
 obtain⟨m,⟨o',es,ep,C2,lQ,_⟩,_⟩:=I.loc
 rw [z,C2] at ho; cases ho; rw [lQ] at hd; cases hd
theorem Inv.kh (I:Inv X U σ H s):s.heap.FunFrames X.base X.outer:=by
 have all: ∀(l:List Env),(∀b∈vJ l,b∈X.fs)->X.s₀.heap.FunFrames X.base l->s.heap.FunFrames X.base l:=by
  intro l
  induction l with
  |nil=>intro _ _; trivial
  |cons env r ih=>
   intro hs hl
   refine ao λnO=>?_
   obtain⟨hk,⟨L,o,hf,hn,ho,hd⟩,hr⟩:=hl
   have hL:L∈X.fs:=hs L (by unfold vJ; rw [List.filterMap_cons,hf]; exact List.mem_cons_self)
   obtain⟨sl,e⟩:=I.base.slot L o ho (I.ok.FX L hL) hL λz=>I.ok.zf L z hL
   exact nO <| ⟨hk,⟨L,_,hf,hn,e,hd⟩,ih (λb hb=>hs b (by unfold vJ; rw [List.filterMap_cons,hf]; exact List.mem_cons_of_mem _ hb)) hr⟩
 exact all X.outer (λ_ hb=>hb) I.ok.kh
theorem Inv.stack (I:Inv X U σ H s):s.heap.FunFrames X.base X.stack:=by
 rcases I.ok.Kp with e|⟨e,hf⟩
 .rw [e]; exact I.kh
 .rw [e]
  refine ae I.loc λm hn _=> .cons (by rw [I.ok.kind]; decide) hf hn ?_ I.kh
  exact Heap.get?_none_of_le (Nat.le_trans I.ok.vK I.ok.above)
theorem Inv.kj (I:Inv X U σ H s): ∀b∈vJ X.stack,b∈X.env.locals::X.fs:=λb hb=>by
 rcases I.ok.Kp with e|⟨e,hf⟩
 .rw [e] at hb; exact List.mem_cons_of_mem _ hb
 .rw [e] at hb
  unfold vJ at hb
  rw [List.filterMap_cons,hf] at hb
  exact hb
theorem Inv.rY (I:Inv X U σ H s): ∀b∈vJ X.stack,H b=none:=λb hb=>by
 rcases List.mem_cons.mp (I.kj b hb) with e|hb
 .rw [e]; exact I.free
 .obtain⟨_,o,ho,_⟩:=I.ok.kh.mem hb
  exact I.base.free b o ho (I.ok.FX b hb) λz=>I.ok.zf b z hb
theorem Inv.step {g':Array GenState}{t':Nat}{d':Drawn}{ch:List Addr} (I:Inv X U σ H s)
  (yT: ∀b∈ch,(b∈X.ex\/X.s₀.heap.objs.size<=b)/\b≠X.env.locals/\(∀x c,X.env.cells.lookup x=some c->c≠b)/\ ∀p∈X.pn++U,p.1≠b)
  (keep: ∀b o,b≠X.env.locals->b∉X.fs->b∉ch->s.heap.get? b=some o->H b=none->h'.get? b=some o)
  (slot: ∀b o,b≠X.env.locals->b∈X.fs->b∉ch->s.heap.get? b=some o->H b=none-> ∃sl,h'.get? b=some {o with slots:=sl}) (free: ∀b o,b∉ch->s.heap.get? b=some o->H b=none->H' b=none)
  (there: ∀b o,b∉ch->s.heap.get? b=some o-> ∃o',h'.get? b=some o')
  (nF: ∀b xs,H b=some (.tup xs)->H' b=some (.tup xs)) (gI: ∀b o u,H b=some (.cZ o u)->H' b=some (.cZ o u)) (nG: ∀b ps,H b=some (.CY ps)-> ∃more,H' b=some (.CY (ps++more)))
  (ns: ∀m,s.heap.Ns X.env.locals m->h'.Ns X.env.locals m) (aN:gH X.prog X.w H' h') (hg:AllBare g'):
  Inv X U σ H' {s with heap:=h',gens:=g',drawn:=d',toks:=t'}:=by
 have QO: ∀b o,X.s₀.heap.get? b=some o->b≠X.env.locals:=λb o e=>Nat.ne_of_lt (Nat.lt_of_lt_of_le (Heap.lt_size e) I.ok.above)
 have Kq: ∀b o,X.s₀.heap.get? b=some o->b∉X.ex->b∉ch:=λb o e hx hb=>by
  rcases (yT b hb).1 with z|z
  .exact hx z
  .exact absurd (Nat.lt_of_lt_of_le (Heap.lt_size e) z) (Nat.lt_irrefl _)
 have cellK: ∀x c,X.env.cells.lookup x=some c-> ∀v,s.heap.IsCell c v->h'.IsCell c v:=λx c e v zz=>by
  refine ae zz λo ho hd=>?_
  have GF:c∉ch:=λz=>(yT c z).2.2.1 x c e rfl
  by_cases hc:c∈X.fs
  .obtain⟨sl,q⟩:=slot c o (I.C1 x c e) hc GF ho (I.fg x c e)
   exact⟨_,q,hd⟩
  .exact⟨o,keep c o (I.C1 x c e) hc GF ho (I.fg x c e),hd⟩
 refine⟨I.ok,I.os,hg,⟨λb o e n hb hx=>?_,λb o e n hb hx=>?_,λb o e n hx=>?_,λb o e hx=>?_,λb xs e=>nF b xs (I.base.nF b xs e),λb o xs e=>gI b o xs (I.base.gI b o xs e),λb ps e=>?_⟩,?_,λx c e=>?_,?_,λx c e=>?_,λp hp=>?_,aN,I.len⟩
 .exact keep b o (QO b o e) hb (Kq b o e hx) (I.base.keep b o e n hb hx) (I.base.free b o e n hx)
 .obtain⟨sl,e1⟩:=I.base.slot b o e n hb hx
  obtain⟨Sz,e2⟩:=slot b _ (QO b o e) hb (Kq b o e hx) e1 (I.base.free b o e n hx)
  exact⟨Sz,e2⟩
 .obtain⟨o',e1⟩:=I.base.there b o e hx
  exact free b o' (Kq b o e hx) e1 (I.base.free b o e n hx)
 .obtain⟨o',e1⟩:=I.base.there b o e hx
  exact there b o' (Kq b o e hx) e1
 .obtain⟨m1,e1⟩:=I.base.nG b ps e
  obtain⟨m2,e2⟩:=nG b _ e1
  exact⟨m1++m2,by rw [e2,Array.append_assoc]⟩
 .refine ae I.loc λm hn hl=>⟨m,ns m hn,λi x v e1 e2 e3=>?_⟩
  refine ae (hl i x v e1 e2 e3) λu r l=>⟨u,r,?_⟩
  rcases l with l|⟨k,c,e,z⟩
  .exact .inl l
  .exact .inr ⟨k,c,e,cellK x c e _ z⟩
 .obtain⟨v,z⟩:=I.cell x c e
  exact⟨v,cellK x c e v z⟩
 .obtain⟨m,⟨o,_,_,ho,_⟩,_⟩:=I.loc
  exact free _ o (λz=>(yT _ z).2.1 rfl) ho I.free
 .exact gu (I.cell x c e) λv o ho hd=>free c o (λz=>(yT c z).2.2.1 x c e rfl) ho (I.fg x c e)
 .refine Lf (I.pin p hp) λe n ne nf d=>?_
  have GF:p.1∉ch:=λz=>(yT p.1 z).2.2.2 p hp rfl
  exact⟨keep p.1 p.2 ne nf GF e n,free p.1 p.2 GF e n,ne,nf,d⟩
theorem Inv.un {t':Nat} (I:Inv X U σ H s) (u:Un X.fs [] H H' s.heap h') (aN:gH X.prog X.w H' h'):Inv X U σ H' {s with heap:=h',toks:=t'}:=by
 refine ao λnO=>?_
 obtain⟨m,⟨o,es,ep,ho,r⟩,_⟩:=id I.loc
 obtain⟨sl,hL⟩:=u.any ho I.free (by simp)
 refine nO ?_
 exact I.step (g':=s.gens) (d':=s.drawn) (ch:=[]) (λ_ z=>nomatch z) (λb o _ hb _ e n=>u.keep b o e n hb (by simp)) (λb o _ hb _ e n=>u.slot b o e n hb (by simp)) (λb o _ e n=>u.free b o e n (by simp)) (λb o _ e=>u.there b o e (by simp)) u.nF u.gI u.nG (λm' hm=>by
  refine ao λnO=>qG hm λo' zg C3 C2 r'=>nO ?_
  rw [ho] at C2; cases C2
  exact⟨_,zg,C3,hL,r'⟩) aN I.bare
theorem Inv.call {g':Array GenState}{t':Nat}{d':Drawn}{ch:List Addr} (I:Inv X U σ H s) (u:Un (vJ X.stack) ch H H' s.heap h') (aN:gH X.prog X.w H' h') (hg:AllBare g')
  (yT: ∀b∈ch,(b∈X.ex\/X.s₀.heap.objs.size<=b)/\b≠X.env.locals/\(∀x c,X.env.cells.lookup x=some c->c≠b)/\ ∀p∈X.pn++U,p.1≠b):
  Inv X U σ H' {s with heap:=h',gens:=g',drawn:=d',toks:=t'}:=by
 refine ao λnO=>?_
 obtain⟨m,⟨o,es,ep,ho,r⟩,_⟩:=id I.loc
 obtain⟨sl,hL⟩:=u.any ho I.free λz=>(yT _ z).2.1 rfl
 refine nO ?_
 exact I.step (ch:=ch) yT (λb o hL hb hc e n=>u.keep b o e n (λz=>(List.mem_cons.mp (I.kj b z)).elim hL hb) hc) (λb o _ _ hc e n=>u.any e n hc) (λb o hc e n=>u.free b o e n hc) (λb o hc e=>u.there b o e hc) u.nF u.gI u.nG (λm' hm=>by
  refine ao λnO=>qG hm λo' zg C3 C2 r'=>nO ?_
  rw [ho] at C2; cases C2
  exact⟨_,zg,C3,hL,r'⟩) aN hg
theorem Inv.turned {t':Nat}{it:Addr} (I:Inv X U σ H s) (k: ∀b o,b≠it->s.heap.get? b=some o->h'.get? b=some o) (hn:H it=none) (hL:it≠X.env.locals)
  (h1:it∈X.ex\/X.s₀.heap.objs.size<=it) (h2: ∀x c,X.env.cells.lookup x=some c->c≠it) (h3: ∀p∈X.pn++U,p.1≠it):Inv X U σ H {s with heap:=h',toks:=t'}:=by
 have GG: ∀b u,H b=some u->b≠it:=λb u e z=>by rw [z,hn] at e; cases e
 refine I.step (g':=s.gens) (d':=s.drawn) (ch:=[it]) (λb hb=>?_) (λb o _ _ hc e _=>k b o (λz=>hc (by simp [z])) e) (λb o _ _ hc e _=>⟨o.slots,k b o (λz=>hc (by simp [z])) e⟩) (λ_ _ _ _ n=>n)
  (λb o hc e=>⟨o,k b o (λz=>hc (by simp [z])) e⟩) (λ_ _ e=>e) (λ_ _ _ e=>e) (λb ps e=>⟨#[],by rw [e]; simp⟩) (λm hm=>?_) (λb u e=>?_) I.bare
 .have e:b=it:=by simpa using hb
  subst e
  exact⟨h1,hL,h2,h3⟩
 .exact qG hm λo es ep ho r=>⟨o,es,ep,k _ o (Ne.symm hL) ho,r⟩
 .refine(I.aN b u e).lV (λc v hc q=>k c v ?_ q) (λ_ q=>q) λ_ _ q=>q
  rcases hc with z|z
  .rw [z]; exact GG b u e
  .exact GG c _ z
theorem Inv.tok (I:Inv X U σ H s) (t:Nat):Inv X U σ H {s with toks:=t}:=I.un (h':=s.heap) (t':=t) Un.refl I.aN
theorem Inv.kept (I:Inv X U σ H s) (k: ∀b u,s.heap.get? b=some u->h'.get? b=some u):Inv X U σ H {s with heap:=h',toks:=t'}:=I.un (Un.kept k) (I.aN.kept k)
theorem Inv.laid (I:Inv X U σ H s) (k: ∀b u,s.heap.get? b=some u->h'.get? b=some u) (hp:s.heap.objs.size<=a) (new:aP X.prog X.w (upd H a o) h' a o):
  Inv X U σ (upd H a o) {s with heap:=h',toks:=t'}:=I.un (Un.laid k hp (I.aN.fresh hp)) (I.aN.laid k hp new)
theorem Inv.write (I:Inv X U σ H s) (mu:vH (H x)) (he:e=x\/H e=some (.own x)) (k: ∀b u,b≠e->s.heap.get? b=some u->h'.get? b=some u) (BV: ∃u,h'.get? e=some u)
  (new:aP X.prog X.w (upd H x o) h' x o):Inv X U σ (upd H x o) {s with heap:=h',toks:=t'}:=I.un (Un.write mu he k BV) (I.aN.write mu he k BV new)
theorem Inv.weak (I:Inv X U σ H s) (hl:bR.length=σ.length) (w: ∀(i:Nat) v,bR[i]?=some (some v)->σ[i]?=some (some v)):Inv X U bR H s:=
 ⟨I.ok,I.os,I.bare,I.base,let ⟨m,hn,nI⟩:=I.loc; ⟨m,hn,λi x v e1 e2 e3=>nI i x v e1 (w i v e2) e3⟩,I.cell,I.free,I.fg,I.pin,I.aN,hl.trans I.len⟩
theorem Inv.rZ (I:Inv X U σ H s) (h: ∀p∈GH,s.heap.get? p.1=some p.2/\H p.1=none/\p.1≠X.env.locals/\p.1∉X.fs/\ ∀v,p.2.data≠ .cell v):Inv X GH σ H s:=
 ⟨I.ok,I.os,I.bare,I.base,I.loc,I.cell,I.free,I.fg,λp hp=>(List.mem_append.mp hp).elim (λz=>I.pin p (List.mem_append_left _ z)) (h p),I.aN,I.len⟩
theorem pj {N:List Str} (hN:N.Nodup) {i j:Nat}{x:Str} (a:N[i]?=some x) (b:N[j]?=some x):i=j:=by
 obtain⟨h1,e1⟩:=List.getElem?_eq_some_iff.mp a
 obtain⟨h2,e2⟩:=List.getElem?_eq_some_iff.mp b
 exact(List.getElem_inj hN).mp (e1.trans e2.symm)
theorem mG {M:Model}{A:Around}{E:Value->Shared->Prop}{i:Nat}{x:Str}{v:V}{u:Value}{Q:Unit->Shared->Prop} (I:Inv X U σ H s) (hN:X.N.Nodup) (hi:X.N[i]?=some x) (hx:Loc X.env.scope x) (r:RelV v u)
  (h: ∀s',Inv X U (σ.set i (some v)) H s'->(∃a,Heap.SameBut a s.heap s'.heap/\(a=X.env.locals\/X.env.cells.lookup x=some a))->Q () s') (hf:X.fn x=true\/X.env.scope.names.lookup x=some .local :=by first|exact .inl rfl|exact .inr rfl|assumption):wpAny M A (storeName X.env x u) Q E s:=by
 obtain⟨m,hn,hl⟩:=id I.loc
 have Lu:(X.env.scope.kind == .class || (X.env.scope.kind == .module && X.env.locals !=X.env.globals))=false:=by rw [I.ok.kind]; rfl
 have GI:i < σ.length:=by rw [I.len]; exact(List.getElem?_eq_some_iff.mp hi).1
 have C1:=I.C1
 have tracked: ∀{a:Addr}{h':Heap},(∃o,s.heap.get? a=some o/\H a=none)->Heap.SameBut a s.heap h'->gH X.prog X.w H h':=λ{a h'} ha hs b ob e=>by
  obtain⟨_,_,BX⟩:=ha
  refine(I.aN b ob e).lV (λc w' hc q=>(hs.2 c ?_).trans q) (λ_ q=>q) λ_ _ q=>q
  rintro rfl
  rcases hc with rfl|hc
  .rw [BX] at e; cases e
  .rw [BX] at hc; cases hc
 rcases hx with hk|hk
 .refine wpAny_storeName_local hk hn (λh' SA hs=>?_) Lu
  refine ao λnO=>?_
  obtain⟨oL,_,_,zh,_⟩:=id hn
  refine nO ?_
  refine h _ ⟨I.ok,I.os,I.bare,⟨λb o e n hb hx=>?_,λb o e n hb hx=>?_,I.base.free,λb o e hx=>?_,I.base.nF,I.base.gI,I.base.nG⟩,⟨_,SA,λj y v' e1 e2 e3=>?_⟩,λy c e=>?_,I.free,I.fg,λp hp=>?_,tracked ⟨oL,zh,I.free⟩ hs,by simpa using I.len⟩ ⟨_,hs,.inl rfl⟩
  .exact(hs.2 b (Nat.ne_of_lt (Nat.lt_of_lt_of_le (Heap.lt_size e) I.ok.above))).trans (I.base.keep b o e n hb hx)
  .obtain⟨sl,e1⟩:=I.base.slot b o e n hb hx
   exact⟨sl,(hs.2 b (Nat.ne_of_lt (Nat.lt_of_lt_of_le (Heap.lt_size e) I.ok.above))).trans e1⟩
  .obtain⟨o',e1⟩:=I.base.there b o e hx
   exact⟨o',(hs.2 b (Nat.ne_of_lt (Nat.lt_of_lt_of_le (Heap.lt_size e) I.ok.above))).trans e1⟩
  .by_cases hj:j=i
   .subst hj
    rw [hi] at e1; cases e1
    rw [List.getElem?_set_self GI] at e2
    cases e2
    exact⟨u,r,.inl ⟨hk,by simp⟩⟩
   .rw [List.getElem?_set_ne (Ne.symm hj)] at e2
    obtain⟨u',r',q⟩:=hl j y v' e1 e2 e3
    refine⟨u',r',?_⟩
    rcases q with ⟨k,e⟩|⟨k,c,e,z⟩
    .refine .inl ⟨k,?_⟩
     have:y≠x:=λe=>hj (pj hN e1 (e▸hi))
     simp [this,e]
    .exact .inr ⟨k,c,e,z.sameBut hs (C1 y c e)⟩
  .obtain⟨w',z⟩:=I.cell y c e
   exact⟨w',z.sameBut hs (C1 y c e)⟩
  .refine ao λnO=>?_
   obtain⟨e,n,ne,nf,d⟩:=I.pin p hp
   exact nO <| ⟨(hs.2 p.1 ne).trans e,n,ne,nf,d⟩
 .have Lv:X.fn x=true:=by
   rcases hf with z|z
   .exact z
   .rw [z] at hk; cases hk
  obtain⟨c,hc⟩:=I.ok.has x (.inl hk)
  obtain⟨w',z⟩:=I.cell x c hc
  refine wpAny_storeName_cell I.ok.kind hk hc z (λh' jW hs=>?_)
  obtain⟨oc,QP,Lw⟩:=id z
  refine h {s with heap:=h'} ⟨I.ok,I.os,I.bare,⟨λb o e n hb hx=>?_,λb o e n hb hx=>?_,I.base.free,λb o e hx=>?_,I.base.nF,I.base.gI,I.base.nG⟩,⟨m,hn.sameBut hs (Ne.symm (C1 x c hc)),λj y v' e1 e2 e3=>?_⟩,λy c' e=>?_,I.free,I.fg,λp hp=>?_,tracked ⟨oc,QP,I.fg x c hc⟩ hs,by simpa using I.len⟩ ⟨c,hs,.inr hc⟩
  .exact(hs.2 b (Nat.ne_of_lt (Nat.lt_of_lt_of_le (Heap.lt_size e) (I.ok.GD x c Lv hc)))).trans (I.base.keep b o e n hb hx)
  .obtain⟨sl,e1⟩:=I.base.slot b o e n hb hx
   exact⟨sl,(hs.2 b (Nat.ne_of_lt (Nat.lt_of_lt_of_le (Heap.lt_size e) (I.ok.GD x c Lv hc)))).trans e1⟩
  .obtain⟨o',e1⟩:=I.base.there b o e hx
   exact⟨o',(hs.2 b (Nat.ne_of_lt (Nat.lt_of_lt_of_le (Heap.lt_size e) (I.ok.GD x c Lv hc)))).trans e1⟩
  .by_cases hj:j=i
   .subst hj
    rw [hi] at e1; cases e1
    rw [List.getElem?_set_self GI] at e2
    cases e2
    exact⟨u,r,.inr ⟨.inl hk,c,hc,jW⟩⟩
   .rw [List.getElem?_set_ne (Ne.symm hj)] at e2
    obtain⟨u',r',q⟩:=hl j y v' e1 e2 e3
    refine⟨u',r',?_⟩
    rcases q with q|⟨k,c',e,z'⟩
    .exact .inl q
    .refine .inr ⟨k,c',e,z'.sameBut hs ?_⟩
     rintro rfl
     exact hj (pj hN e1 (I.ok.inj _ _ _ e hc▸hi))
  .by_cases QQ:c'=c
   .subst QQ; exact⟨_,jW⟩
   .obtain⟨w2,z2⟩:=I.cell y c' e
    exact⟨w2,z2.sameBut hs QQ⟩
  .refine ao λnO=>?_
   obtain⟨e,n,ne,nf,d⟩:=I.pin p hp
   refine nO ?_
   refine⟨(hs.2 p.1 ?_).trans e,n,ne,nf,d⟩
   intro q
   rw [q,QP] at e
   have q':oc=p.2:=Option.some.inj e
   exact d w' (by rw [<-q']; exact Lw)
theorem pv (I:Inv X U σ H s) (hN:X.N.Nodup) (hi:X.N[i]?=some x) (hx:Loc X.env.scope x) (r:RelV v u)
  (h: ∀s',Inv X U (σ.set i (some v)) H s'->Q () s') (hf:X.fn x=true\/X.env.scope.names.lookup x=some .local :=by first|exact .inl rfl|exact .inr rfl|assumption):wpAny M A (storeName X.env x u) Q E s:=
 mG I hN hi hx r (λs' I' _=>h s' I') hf
theorem Inv.GJ (I:Inv X U σ H s) (ho:s'.os=s.os) (u:Un (vJ X.stack) ch H H' s.heap s'.heap) (aN:gH X.prog X.w H' s'.heap) (hg:AllBare s'.gens)
  (yT: ∀b∈ch,(b∈X.ex\/X.s₀.heap.objs.size<=b)/\b≠X.env.locals/\(∀x c,X.env.cells.lookup x=some c->c≠b)/\ ∀p∈X.pn++U,p.1≠b):Inv X U σ H' s':=by
 obtain⟨h',g',d',t',o'⟩:=s'
 have e:o'=s.os:=ho
 subst e
 exact I.call (g':=g') (t':=t') (d':=d') u aN hg yT
end
noncomputable abbrev XK:=Value->Option Addr->Hp->Prop
noncomputable abbrev St:=List (Option V)
noncomputable abbrev VK:=V->Hp->Prop
noncomputable abbrev TE:=St->Hp->VK->Prop
noncomputable abbrev TT:=St->Hp->(Bool->Hp->Prop)->Prop
noncomputable abbrev TA:=St->Hp->(List V->Hp->Prop)->Prop
structure vM where
 nx:St->Hp->Prop
 rt:VK
 bk:St->Hp->Prop:=λ_ _=>False
 ct:St->Hp->Prop:=λ_ _=>False
noncomputable abbrev TS:=vM->St->Hp->Prop
noncomputable def EP (X:Cx) (U:List (Addr×Obj)) (σ:St) (Q:VK) (u:Value) (s':Shared):Prop:= ∃v H',Inv X U σ H' s'/\RelV v u/\Q v H'
noncomputable def TP (X:Cx) (U:List (Addr×Obj)) (σ:St) (Q:Bool->Hp->Prop) (b:Bool) (s':Shared):Prop:= ∃H',Inv X U σ H' s'/\Q b H'
noncomputable def AP (X:Cx) (U:List (Addr×Obj)) (σ:St) (Q:List V->Hp->Prop) (us:List Value) (s':Shared):Prop:= ∃vs H',Inv X U σ H' s'/\aA vs us/\Q vs H'
noncomputable def SP (X:Cx) (U:List (Addr×Obj)) (D:vM) (f:Flow) (s':Shared):Prop:=
 match f with
 | .next => ∃bR H',Inv X U bR H' s'/\D.nx bR H'
 | .brk => ∃bR H',Inv X U bR H' s'/\D.bk bR H'
 | .cont => ∃bR H',Inv X U bR H' s'/\D.ct bR H'
 | .ret u=> ∃v bR H',Inv X U bR H' s'/\RelV v u/\D.rt v H'
noncomputable def PE (X:Cx) (e:Expr) (t:TE):Prop:=
 ∀(U:List (Addr×Obj)) (s:Shared) (σ:St) (H:Hp) (Q:VK),Inv X U σ H s->t σ H Q->wpAny (model X.prog X.w) X.A (eval e X.env) (EP X U σ Q) X.xe s
noncomputable def PT (X:Cx) (e:Expr) (t:TT):Prop:=
 ∀(U:List (Addr×Obj)) (s:Shared) (σ:St) (H:Hp) (Q:Bool->Hp->Prop),Inv X U σ H s->t σ H Q->wpAny (model X.prog X.w) X.A (isTrue e X.env (eval e X.env)) (TP X U σ Q) X.xe s
noncomputable def PW (X:Cx) (e:Expr) (t:TT):Prop:=
 ∀(whole:Sem Value) (U:List (Addr×Obj)) (s:Shared) (σ:St) (H:Hp) (Q:Bool->Hp->Prop),Inv X U σ H s->t σ H Q->wpAny (model X.prog X.w) X.A (isTrue e X.env whole) (TP X U σ Q) X.xe s
theorem PW.pt (h:PW X e t):PT X e t:=h _
noncomputable def PA (X:Cx) (es:List Expr) (t:TA):Prop:=
 ∀(pos:Pos) (U:List (Addr×Obj)) (s:Shared) (σ:St) (H:Hp) (Q:List V->Hp->Prop),Inv X U σ H s->t σ H Q->wpAny (model X.prog X.w) X.A (spliced (backTo pos (starEach es X.env))) (AP X U σ Q) X.xe s
noncomputable def PS (X:Cx) (st:Stmt) (t:TS):Prop:=
 ∀(U:List (Addr×Obj)) (s:Shared) (σ:St) (H:Hp) (D:vM),Inv X U σ H s->t D σ H->wpAny (model X.prog X.w) X.A (exec st X.env) (SP X U D) X.xe s
noncomputable def jX (X:Cx) (st:List Stmt) (t:TS):Prop:=
 ∀(U:List (Addr×Obj)) (s:Shared) (σ:St) (H:Hp) (D:vM),Inv X U σ H s->t D σ H->wpAny (model X.prog X.w) X.A (execs st X.env) (SP X U D) X.xe s
theorem bz (h:wpAny M A t Q E s) (hQ: ∀a s,Q a s->Q' a s):wpAny M A t Q' E s:=wpAny_mono h hQ λ_ _ x=>x
end L2
namespace L2
open PySem PySem.Spec PyProof.Rows
section
variable {X:Cx}
noncomputable def cR (i:Nat):TE:=λσ H Q=> ∃v,σ[i]?=some (some v)/\Q v H
noncomputable def tC (v:V):TE:=λ_ H Q=>Q v H
theorem bC (hN:X.N[i]?=some x) (hv:um X.env.scope x) (hd:(x == ("__debug__":Str))=false:=by decide) (vN:(x == ("__classdict__":Str))=false:=by decide):PE X (.Name x pos) (cR i):=by
 intro U s σ H Q I h
 refine ae h λv e h=>ae I.loc λm hn hl=>ae (hl i x v hN e hv) λu r l=>?_
 have fin:EP X U σ Q u s:=⟨v,H,I,r,h⟩
 rcases l with ⟨hk,hm⟩|⟨hk,c,hc,r0⟩
 .exact wpAny_Name (wpAny_loadName_local I.ok.kind hk hn hm fin) hd
 .rcases hk with hk|hk
  .exact wpAny_Name (wpAny_loadName_cell I.ok.kind hk hc r0 fin) hd
  .exact wpAny_Name (wpAny_loadName_free I.ok.kind hk hc r0 fin vN) hd
theorem C4:PE X (.Constant (.int i) j pos) (tC (.int i)):=λ_ _ _ H _ I h=>wpAny_Constant_int ⟨.int i,H,I.tok _,⟨_,rfl⟩,h⟩
theorem GK:PE X (.Constant (.bool b) j pos) (tC (.bl b)):=λ_ _ _ H _ I h=>Constant_bool ⟨.bl b,H,I,rfl,h⟩
theorem C5:PE X (.Constant .none j pos) (tC .eK):=λ_ _ _ H _ I h=>Constant_none ⟨.eK,H,I,rfl,h⟩
noncomputable def Gl (X:Cx) (x:Str):Prop:=X.env.kindOf x=some .globalImplicit
theorem nJ (I:Inv X U σ H s) (hg:Gl X x) (hm:X.mg x=some u) (h:Q u s)
  (hd:(x == ("__debug__":Str))=false:=by decide):wpAny (model X.prog X.w) X.A (eval (.Name x pos) X.env) Q E s:=
 Calls.Name_function_global I.ok.kind hg (Calls.loadGlobal_global (by rw [I.ok.glob]; exact I.mod.glob.keeps I.bk) hm h) hd
theorem gJ (I:Inv X U σ H s) (hg:Gl X x) (hm:X.mg x=none) (hv:bootBuiltins x=some u) (h:Q u s)
  (hn:x≠"__name__":=by decide) (hd:(x == ("__debug__":Str))=false:=by decide):wpAny (model X.prog X.w) X.A (eval (.Name x pos) X.env) Q E s:=by
 exact ae I.mod.blt λmb h1 h2=>Calls.Name_function_global I.ok.kind hg (Calls.loadGlobal_builtin (by rw [I.ok.glob]; exact I.mod.glob.keeps I.bk) hm (by rw [I.ok.blt]; exact h1.keeps I.bk) ((h2 x hn).trans hv) h) hd
theorem zi (hg:Gl X x) (hm:X.mg x=some u) (r:RelV v u) (hd:(x == ("__debug__":Str))=false:=by decide):PE X (.Name x pos) (tC v):=
 λ_ _ _ H _ I h=>nJ I hg hm ⟨v,H,I,r,h⟩ hd
theorem zj (hg:Gl X x) (hm:X.mg x=none) (hv:bootBuiltins x=some u) (r:RelV v u) (hn:x≠"__name__":=by decide) (hd:(x == ("__debug__":Str))=false:=by decide):PE X (.Name x pos) (tC v):=
 λ_ _ _ H _ I h=>gJ I hg hm hv ⟨v,H,I,r,h⟩ hn hd
variable {a b:Expr}{ta tb:TE}{pos:Pos}
noncomputable def PC (X:Cx) (op:CmpOp) (a b:Expr) (t:TE):Prop:=
 ∀(U:List (Addr×Obj)) (s:Shared) (σ:St) (H:Hp) (Q:VK),Inv X U σ H s->t σ H Q->
  wpAny (model X.prog X.w) X.A (eval a X.env) (λv aT=>wpAny (model X.prog X.w) X.A (eval b X.env) (λu kl=>wpAny (model X.prog X.w) X.A (compareOp op v u) (EP X U σ Q) X.xe kl) X.xe aT) X.xe s
noncomputable def tB (t:TE):TT:=λσ H Q=>t σ H λx H1=> ∃c,x= .bl c/\Q c H1
theorem C6 (h:PC X op a b t) (h1:behindInMarks op b=false:=by first|exact vO _ (by decide) (by decide)|rfl):PE X (.Compare a [op] [b] pos) t:=λU s σ H Q I hw=>wpAny_Compare1 (h U s σ H Q I hw) h1
theorem C7 (h:PC X op a b t) (h1:behindInMarks op b=false:=by first|exact vO _ (by decide) (by decide)|rfl):PT X (.Compare a [op] [b] pos) (tB t):=by
 intro U s σ H Q I hw
 refine wpAny_isTrue_Compare1 (bz (h U s σ H _ I hw) λv s1 h1=>bz h1 λu s2 h2=>bz h2 λc s3 zz=>ba zz λx H1 I1 r1 q1=>?_) h1
 refine ae q1 λd af q=>?_
 try clear q1
 subst af
 cases r1
 exact wpAny_truthy_bool ⟨H1,I1,q⟩
theorem C8 (h:PE X e t) (he: ∀whole,isTrue e X.env whole=(do let v<-whole; standAt e.pos; holding [v] (truthy v)):=by intro _; rfl):PT X e (tB t):=by
 intro U s σ H Q I hw
 refine isTrue_plain (bz (h U s σ H _ I hw) λv s1 ⟨x,H1,I1,r1,q1⟩=>?_) (he _)
 refine ae q1 λd af q=>?_
 try clear q1
 subst af
 cases r1
 exact wpAny_truthy_bool ⟨H1,I1,q⟩
variable {tA Kr:TT}{bL:List Expr}
noncomputable def GL (t u:TT):TT:=λσ H Q=>t σ H λc H1=>if c=true then u σ H1 Q else Q false H1
noncomputable def SD (t u:TT):TT:=λσ H Q=>t σ H λc H1=>if c=true then Q true H1 else u σ H1 Q
noncomputable def Lx (t:TT):TT:=λσ H Q=>t σ H λc H1=>Q (!c) H1
theorem zk (ha:PT X a tA):PW X (.BoolOp .And [a] pos) tA:=by
 intro wh U s σ H Q I h
 refine isTrue_and (bz (ha U s σ H Q I h) λc s1 e=>?_)
 cases c with
 |true=>exact isTrue_and_nil e
 |false=>exact e
theorem C9 (ha:PT X a tA):PW X (.BoolOp .Or [a] pos) tA:=by
 intro wh U s σ H Q I h
 refine isTrue_or (bz (ha U s σ H Q I h) λc s1 e=>?_)
 cases c with
 |false=>exact isTrue_or_nil e
 |true=>exact e
theorem C_ (ha:PT X a tA) (hb:PW X (.BoolOp .And (b::bL) pos) Kr):PW X (.BoolOp .And (a::b::bL) pos) (GL tA Kr):=by
 intro wh U s σ H Q I h
 refine isTrue_and (bz (ha U s σ H _ I h) λc s1 zz=>?_)
 refine ae zz λH1 I1 q1=>?_
 cases c with
 |true=>exact hb wh U s1 σ H1 Q I1 q1
 |false=>exact⟨H1,I1,q1⟩
theorem GN (ha:PT X a tA) (hb:PW X (.BoolOp .Or (b::bL) pos) Kr):PW X (.BoolOp .Or (a::b::bL) pos) (SD tA Kr):=by
 intro wh U s σ H Q I h
 refine isTrue_or (bz (ha U s σ H _ I h) λc s1 zz=>?_)
 refine ae zz λH1 I1 q1=>?_
 cases c with
 |true=>exact⟨H1,I1,q1⟩
 |false=>exact hb wh U s1 σ H1 Q I1 q1
theorem C' (ha:PT X a tA):PT X (.UnaryOp .Not a pos) (Lx tA):=by
 intro U s σ H Q I h
 exact isTrue_not (ha U s σ H (λc H1=>Q (!c) H1) I h)
noncomputable def GO (ta tb:TE):TE:=λσ H Q=>ta σ H λx H1=> ∃c,x= .bl c/\if c=true then tb σ H1 Q else Q (.bl false) H1
noncomputable def Ly (ta tb:TE):TE:=λσ H Q=>ta σ H λx H1=> ∃c,x= .bl c/\if c=true then Q (.bl true) H1 else tb σ H1 Q
noncomputable def GP (ta:TE):TE:=λσ H Q=>ta σ H λx H1=> ∃c,x= .bl c/\Q (.bl (!c)) H1
theorem Dc (h:PE X a t):PE X (.BoolOp op [a] pos) t:=λU s σ H Q I hw=>BoolOp_one (h U s σ H Q I hw)
theorem Dd (ha:PE X a ta) (hb:PE X (.BoolOp .And (b::bL) pos) tb):PE X (.BoolOp .And (a::b::bL) pos) (GO ta tb):=by
 intro U s σ H Q I h
 refine BoolOp_and (bz (ha U s σ H _ I h) λv s1 zz=>?_)
 refine ao λnO=>?_
 obtain⟨x,H1,I1,r1,q1⟩:=zz
 obtain⟨c,rfl,q1⟩:=q1
 cases r1
 refine nO <| wpAny_truthy_bool ?_
 cases c with
 |true=>exact hb U s1 σ H1 Q I1 q1
 |false=>exact⟨.bl false,H1,I1,rfl,q1⟩
theorem GQ (ha:PE X a ta) (hb:PE X (.BoolOp .Or (b::bL) pos) tb):PE X (.BoolOp .Or (a::b::bL) pos) (Ly ta tb):=by
 intro U s σ H Q I h
 refine BoolOp_or (bz (ha U s σ H _ I h) λv s1 zz=>?_)
 refine ao λnO=>?_
 obtain⟨x,H1,I1,r1,q1⟩:=zz
 obtain⟨c,rfl,q1⟩:=q1
 cases r1
 refine nO <| wpAny_truthy_bool ?_
 cases c with
 |false=>exact hb U s1 σ H1 Q I1 q1
 |true=>exact⟨.bl true,H1,I1,rfl,q1⟩
theorem Df (ha:PE X a ta):PE X (.UnaryOp .Not a pos) (GP ta):=by
 intro U s σ H Q I h
 refine UnaryOp_ (bz (ha U s σ H _ I h) λv s1 zz=>?_)
 refine ao λnO=>?_
 obtain⟨x,H1,I1,r1,q1⟩:=zz
 obtain⟨c,rfl,q1⟩:=q1
 cases r1
 exact nO <| not_of (wpAny_truthy_bool ⟨.bl (!c),H1,I1,rfl,q1⟩)
end
end L2
namespace L2
open PySem PySem.Spec PyProof.Rows
noncomputable def dg (K:PySem.W.Frag) (H:Hp) (a:Addr) (xs:List V):Prop:=
 Rd H a (.lst xs)\/
  ∃(o:Obj) (its:Array Value) (n:Nat),K.lookup a=some o/\o.cls= .type "list"/\o.dict=none/\o.data= .seq its n/\its.size<=sizeLine/\aA xs its.toList/\o.slots=#[]
noncomputable def dh (K:PySem.W.Frag) (H:Hp) (a:Addr) (xs:List V):Prop:=H a=some (.tup xs)
noncomputable def Lz:Value->Option V
 | .none =>some .eK
 | .bool b=>some (.bl b)
 | .int i _=>some (.int i)
 | .str x _=>some (.str x)
 | .bytes b _=>some (.GA b)
 | .float b _=>some (.Lp b)
 | .ref a=>some (.ref a)
 | .type n=>some (.ty n)
 |_=>none
theorem RelV.abs (r:RelV x u):Lz u=some x:=by
 cases x with
 |eK=>cases r; rfl
 |bl _=>cases r; rfl
 |int _=>obtain⟨t,rfl⟩:=r; rfl
 |str _=>obtain⟨t,rfl⟩:=r; rfl
 |GA _=>obtain⟨t,rfl⟩:=r; rfl
 |Lp _=>obtain⟨t,rfl⟩:=r; rfl
 |ref _=>cases r; rfl
 |ty _=>cases r; rfl
theorem RelV.inj (r:RelV x u) (q:RelV y u):x=y:=Option.some.inj (r.abs.symm.trans q.abs)
theorem aA.inj: ∀{xs ys:List V}{us:List Value},aA xs us->aA ys us->xs=ys:=λ{xs ys us} h=>by
 induction h generalizing ys with
 |nil=>intro h; cases h; rfl
 |cons r t ih=>intro h; cases h with|cons r' t'=>rw [r.inj r',ih t']
section
variable {X:Cx}{U:List (Addr×Obj)}{σ:St}{H:Hp}{s:Shared}{a:Addr}{xs ys:List V}
theorem dg.of {K:PySem.W.Frag} (h:H a=some (.lst xs)):dg K H a xs:= .inl (.inl h)
theorem dh.of {K:PySem.W.Frag} (h:H a=some (.tup xs)):dh K H a xs:=h
theorem Inv.list (I:Inv X U σ H s) (h:dg X.K H a xs): ∃its:List Value,aA xs its/\PlainL s.heap a its.toArray/\xs.length<=sizeLine:=by
 rcases h with h|⟨o,its,n,hk,hc,hd,hs,hz,r,_⟩
 .obtain⟨z,its,n,r,e⟩:=h.ok I.aN
  exact⟨its,r,⟨_,n,e,rfl,rfl,rfl⟩,z⟩
 .refine⟨its.toList,r,⟨o,n,I.BW a o hk,hc,hd,by simpa using hs⟩,?_⟩
  have e:=r.length
  simp only [Array.length_toList] at e
  lia
theorem Inv.tuple (I:Inv X U σ H s) (h:dh X.K H a xs): ∃its:List Value,aA xs its/\IsTup s.heap a its.toArray/\xs.length<=sizeLine:=by
 obtain⟨z,its,r,p⟩:=I.aN a _ h
 exact⟨its,r,p.tup,z⟩
theorem Inv.Dg (I:Inv X U σ H s) (h:dh X.K H a xs): ∃its:List Value,aA xs its/\i5 s.heap a its.toArray/\xs.length<=sizeLine:=by
 obtain⟨z,its,r,p⟩:=I.aN a _ h
 exact⟨its,r,p,z⟩
theorem Inv.pz (I:Inv X U σ H s) (h:dg X.K H a xs) (h':dg X.K H a ys):xs=ys:=by
 refine ao λnO=>?_
 obtain⟨its,r,⟨o,n,e,_,_,d⟩,_⟩:=I.list h
 obtain⟨its',r',⟨o',n',e',_,_,d'⟩,_⟩:=I.list h'
 refine nO ?_
 rw [e] at e'; cases e'
 rw [d] at d'
 injection d' with d1 _
 have:its=its':=by simpa using congrArg Array.toList d1
 subst this
 exact r.inj r'
theorem Inv.i6 (I:Inv X U σ H s) (h:dh X.K H a xs) (h':dh X.K H a ys):xs=ys:=by
 obtain⟨its,r,⟨o,e,_,n,d⟩,_⟩:=I.tuple h
 obtain⟨its',r',⟨o',e',_,n',d'⟩,_⟩:=I.tuple h'
 rw [e] at e'; cases e'
 rw [d] at d'
 injection d' with d1 _
 have:its=its':=by simpa using congrArg Array.toList d1
 subst this
 exact r.inj r'
end
noncomputable abbrev Cx.lW (X:Cx) (E:Value->Shared->Prop):Cx:={X with xe:=E}
noncomputable abbrev Cx.GR (X:Cx):Cx:=X.lW λ_ _=>False
theorem Cx.Ok.lW {X:Cx} (ok:X.Ok) (E:Value->Shared->Prop):(X.lW E).Ok :=
 ⟨ok.mod,ok.kind,ok.glob,ok.blt,ok.above,ok.inj,ok.has,ok.GD,ok.hd,ok.frames,ok.Kp,ok.QN,ok.bs,ok.vK,ok.vL,ok.zf,ok.kh,ok.FX⟩
theorem Cx.Ok.fG {X:Cx}{E:Value->Shared->Prop} (ok:(X.lW E).Ok):X.Ok:=
 ⟨ok.mod,ok.kind,ok.glob,ok.blt,ok.above,ok.inj,ok.has,ok.GD,ok.hd,ok.frames,ok.Kp,ok.QN,ok.bs,ok.vK,ok.vL,ok.zf,ok.kh,ok.FX⟩
section
variable {X:Cx}{U:List (Addr×Obj)}{σ:St}{H:Hp}{s:Shared}{E:Value->Shared->Prop}
theorem Inv.lW (I:Inv X U σ H s) (E:Value->Shared->Prop):Inv (X.lW E) U σ H s:=⟨I.ok.lW E,I.os,I.bare,I.base,I.loc,I.cell,I.free,I.fg,I.pin,I.aN,I.len⟩
theorem Inv.fG (I:Inv (X.lW E) U σ H s):Inv X U σ H s:=⟨I.ok.fG,I.os,I.bare,I.base,I.loc,I.cell,I.free,I.fg,I.pin,I.aN,I.len⟩
theorem SP.fG (h:SP (X.lW E) U D f s'):SP X U D f s':=by
 cases f with
 |next=>obtain⟨bR,H',I,q⟩:=h; exact⟨bR,H',I.fG,q⟩
 |brk=>obtain⟨bR,H',I,q⟩:=h; exact⟨bR,H',I.fG,q⟩
 |cont=>obtain⟨bR,H',I,q⟩:=h; exact⟨bR,H',I.fG,q⟩
 |ret u=>obtain⟨v,bR,H',I,r,q⟩:=h; exact⟨v,bR,H',I.fG,r,q⟩
theorem jX.GR {st:List Stmt}{t:TS} (h:jX X.GR st t):jX X st t:=λU s σ H D I hw=>
 wpAny_mono (h U s σ H D (I.lW _) hw) (λ_ _ q=>q.fG) λ_ _ z=>False.elim z
end
section
variable {X:Cx}{st:Stmt}{bL:List Stmt}{t u:TS}{e:Expr}{te:TE}{pos:Pos}
noncomputable def r8:TS:=λD σ H=>D.nx σ H
noncomputable def nK (t u:TS):TS:=λD σ H=>t {D with nx:=u D} σ H
theorem gY:jX X [] r8:=λ_ _ σ H _ I h=>wpAny_execs_nil ⟨σ,H,I,h⟩
theorem bU (h1:PS X st t) (h2:jX X bL u):jX X (st::bL) (nK t u):=by
 intro U s σ H D I h
 refine wpAny_execs_cons (bz (h1 U s σ H {D with nx:=u D} I h) λf s1 q=>?_)
 cases f with
 |next=>
  exact gu q λbR H' I' q=>h2 U s1 bR H' D I' q
 |ret v=>exact q
 |brk=>exact q
 |cont=>exact q
theorem Inv.quiet (I:Inv X U σ H s):interactive X.env=false:=by simp [interactive,I.ok.kind]
noncomputable def r_ (te:TE):TS:=λD σ H=>te σ H λ_ H1=>D.nx σ H1
theorem nL (he:PE X e te) (hs:swapsWith e none pos.line X.env=pure false:=by rfl):PS X (.Expr e pos) (r_ te):=by
 intro U s σ H D I h
 exact wpAny_Expr_any (bz (he U s σ H _ I h) λv s1 zz=>ba zz λx H1 I1 r1 q1=>⟨σ,H1,I1,q1⟩) I.quiet hs
noncomputable def LA (te:TE):TS:=λD σ H=>te σ H D.rt
theorem qL (he:PE X e te):PS X (.Return (some e) pos) (LA te):=by
 intro U s σ H D I h
 exact wpAny_Return_some (bz (he U s σ H _ I h) λv s1 zz=>ba zz λx H1 I1 r1 q1=>⟨x,σ,H1,I1,r1,q1⟩)
noncomputable def zl (c:TT) (t u:TS):TS:=λD σ H=>c σ H λb H1=>if b=true then t D σ H1 else u D σ H1
theorem BY (hc:PT X c tc) (ha:jX X a t) (hb:jX X b u):PS X (.If c a b pos) (zl tc t u):=by
 intro U s σ H D I h
 refine wpAny_If (bz (hc U s σ H _ I h) λd s1 zz=>?_)
 refine ae zz λH1 I1 q1=>?_
 cases d with
 |true=>exact ha U s1 σ H1 D I1 q1
 |false=>exact hb U s1 σ H1 D I1 q1
end
noncomputable abbrev TG:=V->St->Hp->(St->Hp->Prop)->Prop
noncomputable abbrev Dh:=List V->St->Hp->(St->Hp->Prop)->Prop
noncomputable def PG (X:Cx) (target:Expr) (t:TG):Prop:=
 ∀(U:List (Addr×Obj)) (s:Shared) (σ:St) (H:Hp) (v:V) (u:Value) (Q:St->Hp->Prop),Inv X U σ H s->RelV v u->t v σ H Q->
  wpAny (model X.prog X.w) X.A (assign target X.env u) (λ_ s'=> ∃bR H',Inv X U bR H' s'/\Q bR H') X.xe s
noncomputable def FY (X:Cx) (ts:List Expr) (t:Dh):Prop:=
 ∀(U:List (Addr×Obj)) (s:Shared) (σ:St) (H:Hp) (vs:List V) (us:List Value) (Q:St->Hp->Prop),Inv X U σ H s->aA vs us->t vs σ H Q->
  wpAny (model X.prog X.w) X.A (assignInOrder ((assignEach ts X.env).map (·.2)) us) (λ_ s'=> ∃bR H',Inv X U bR H' s'/\Q bR H') X.xe s
noncomputable abbrev GS:=V->V->V->Hp->(Hp->Prop)->Prop
noncomputable def GU (X:Cx) (t:GS):Prop:=
 ∀(U:List (Addr×Obj)) (s:Shared) (σ:St) (H:Hp) (o i v:V) (ov iv u:Value) (Q:Hp->Prop),Inv X U σ H s->RelV o ov->RelV i iv->RelV v u->t o i v H Q->
  wpAny (model X.prog X.w) X.A (setItem ov iv u) (λ_ s'=> ∃H',Inv X U σ H' s'/\Q H') X.xe s
section
variable {X:Cx}{pos:Pos}
noncomputable def cw (i:Nat):TG:=λv σ H Q=>Q (σ.set i (some v)) H
theorem jY (hN:X.N.Nodup) (hi:X.N[i]?=some x) (hx:Loc X.env.scope x) (hf:X.fn x=true\/X.env.scope.names.lookup x=some .local :=by first|exact .inl rfl|exact .inr rfl|assumption):PG X (.Name x pos) (cw i):=by
 intro U s σ H v u Q I r h
 exact wpAny_assign_Name (pv I hN hi hx r (λs' I'=>⟨_,H,I',h⟩) hf)
noncomputable def GV:Dh:=λvs σ H Q=>vs=[]/\Q σ H
noncomputable def BZ (t:TG) (u:Dh):Dh:=λvs σ H Q=> ∃v r,vs=v::r/\t v σ H λbR H'=>u r bR H' Q
theorem zo:FY X [] GV:=by
 intro U s σ H vs us Q I r h
 obtain⟨e,h⟩:=h
 subst e
 cases r
 exact assignInOrder_nil ⟨σ,H,I,h⟩
theorem vP (h1:PG X e t) (h2:FY X es u)
  (hs:(assignEach (e::es) X.env).map (·.2)=assign e X.env::(assignEach es X.env).map (·.2):=by rfl):FY X (e::es) (BZ t u):=by
 intro U s σ H vs us Q I r h
 obtain⟨v,vr,e1,h⟩:=h
 subst e1
 cases r with
 |cons r rr=>
  rw [hs]
  refine assignInOrder_cons (bz (h1 U s σ H _ _ _ I r h) λ_ s1 zz=>?_)
  obtain⟨Di,H1,I1,q1⟩:=zz
  exact h2 U s1 Di H1 _ _ Q I1 rr q1
noncomputable def LB (K:PySem.W.Frag) (n:Nat) (t:Dh):TG:=λv σ H Q=> ∃a xs,v= .ref a/\dh K H a xs/\xs.length=n/\t xs σ H Q
theorem Dj (hc:X.calm=true) (h:FY X es t)
  (hn:(assignEach es X.env).length =n:=by rfl) (lX:(assignEach es X.env).findIdx? (·.1)=none:=by rfl):PG X (.Tuple es k pos) (LB X.K n t):=by
 intro U s σ H v u Q I r hw
 refine ao λnO=>?_
 obtain⟨a,xs,e1,hq,hl,hw⟩:=hw
 subst e1
 cases r
 obtain⟨its,rv,ht,hz⟩:=I.tuple hq
 refine nO <| assign_Tuple_tuple (I.ok.hd hc) ht (by simp [hn,<-hl,rv.length]) lX λh' hx=>?_
 have I1:Inv X U σ H {s with heap:=h'}:=I.kept (t':=s.toks) λb o e=>hx b o (Nat.ne_of_lt (Heap.lt_size e)) e
 exact h U _ σ H xs _ Q I1 (by simpa using rv) hw
noncomputable def LC (to ti:TE) (t:GS):TG:=λv σ H Q=>to σ H λo H1=>ti σ H1 λi H2=>t o i v H2 λH3=>Q σ H3
theorem Dk (ho:PE X o to) (hi:PE X i ti) (hs:GU X t)
  (ha: ∀v,assign (.Subscript o i pos) X.env v=(do
   let ov<-holding [v] (eval o X.env)
   let iv<-holding [v,ov] (eval i X.env)
   standAt pos
   holding [v,ov,iv] (setItem ov iv v)
   release [v,ov,iv] []):=by intro _; rfl):PG X (.Subscript o i pos) (LC to ti t):=by
 intro U s σ H v u Q I r h
 rw [ha]
 refine wpAny_bind (wpAny_holding (bz (ho U s σ H _ I h) λov s1 zz=>?_))
 refine ba zz λx H1 I1 r1 q1=>wpAny_bind (wpAny_holding (bz (hi U s1 σ H1 _ I1 q1) λiv s2 zz=>?_))
 refine ba zz λy H2 I2 r2 q2=>wpAny_bind (wpAny_standAt (wpAny_bind (wpAny_holding (bz (hs U s2 σ H2 x y v ov iv u _ I2 r1 r2 r q2) λ_ s3 zz=>?_))))
 exact ae zz λH3 I3 q3=>wpAny_release ⟨σ,H3,I3,q3⟩
noncomputable def lY (te:TE) (g:TG):TS:=λD σ H=>te σ H λx H1=>g x σ H1 D.nx
theorem Dl (he:PE X e te) (hg:PG X tg g) (hs:swapsWithSole [tg] e pos.line X.env=pure false:=by rfl) (hw:swappedStores [tg] e X.env=pure none:=by rfl)
  (h1:(assignEach [tg] X.env).map (·.2)=[assign tg X.env]:=by rfl):PS X (.Assign [tg] e pos) (lY te g):=by
 intro U s σ H D I h
 refine wpAny_Assign_stores (bz (he U s σ H _ I h) λv s1 zz=>ba zz λx H1 I1 r1 q1=>?_) hs hw
 rw [h1]
 exact bz (hg U s1 σ H1 x v _ I1 r1 q1) λ_ s2 q=>q
theorem gK (hN:X.N.Nodup) (hi:X.N[i]?=some x) (hx:Loc X.env.scope x) (he:PE X e te) (hs:swapsWith e (some (.Name x pA)) pos.line X.env=pure false:=by rfl) (hf:X.fn x=true\/X.env.scope.names.lookup x=some .local :=by first|exact .inl rfl|exact .inr rfl|assumption):
  PS X (.Assign [.Name x pA] e pos) (lY te (cw i)):=by
 intro U s σ H D I h
 refine wpAny_Assign_Name (bz (he U s σ H _ I h) λv s1 zz=>ba zz λy H1 I1 r1 q1=>?_) hs
 exact pv I1 hN hi hx r1 (λs2 I2=>⟨_,H1,I2,q1⟩) hf
end
section
variable {X:Cx}{pos:Pos}
noncomputable def Dm (c:TT) (tb:TS):TS:=λD σ H=> ∃W:Nat->St->Hp->Prop,(∃m,W m σ H)/\ ∀m σ H,W m σ H->
 c σ H λb H1=>if b=true then∃N:St->Hp->Prop,(∀bR H',N bR H'-> ∃m',m' < m/\W m' bR H')/\tb {D with nx:=N,ct:=N,bk:=D.nx} σ H1 else D.nx σ H1
theorem pB (hp:PassesOwn (model X.prog X.w) X.A X.env X.xe) (hc:PT X c tc) (hb:jX X body tb):PS X (.While c body [] pos) (Dm tc tb):=by
 intro U s σ H D I h
 refine ao λnO=>?_
 obtain⟨W,⟨m0,w0⟩,turn⟩:=h
 refine nO ?_
 refine wpAny_While (codeAny_whileLoop (λn s'=> ∃bR H',Inv X U bR H' s'/\W n bR H') ?_ m0 ⟨σ,H,I,w0⟩)
 rintro n s1 ⟨Di,H1,I1,w1⟩
 refine wpAny_passesOwn hp (bz (hc U s1 Di H1 _ I1 (turn n Di H1 w1)) λb s2 zz=>?_)
 refine ae zz λH2 I2 q2=>?_
 cases b with
 |true=>
  refine ae q2 λN hN q2=>?_
  rw [if_pos rfl]
  refine wpAny_passesOwn hp (bz (hb U s2 Di H2 _ I2 q2) λf s3 q3=>?_)
  cases f with
  |next=>
   exact ao λnO=>gu q3 λuo H3 I3 n3=>ae (hN uo H3 n3) λm' hm w3=>nO <| ⟨m',hm,uo,H3,I3,w3⟩
  |cont=>
   exact ao λnO=>gu q3 λuo H3 I3 n3=>ae (hN uo H3 n3) λm' hm w3=>nO <| ⟨m',hm,uo,H3,I3,w3⟩
  |brk=>exact q3
  |ret v=>exact q3
 |false=>
  rw [if_neg Bool.false_ne_true]
  exact wpAny_execs_nil ⟨Di,H2,I2,q2⟩
end
structure It where
 go:Nat->Hp->Prop
 vQ:Nat->Hp->V->Hp->Prop
 stop:Nat->Hp->Prop
noncomputable def jN (X:Cx) (U:List (Addr×Obj)) (H:Hp) (b:Addr):Prop:=
 H b=none/\b≠X.env.locals/\b∉X.fs/\(b∈X.ex\/X.s₀.heap.objs.size<=b)/\(∀x c,X.env.cells.lookup x=some c->c≠b)/\ ∀p∈X.pn++U,p.1≠b
theorem Inv.qM (I:Inv X U σ H s) (hb:s.heap.objs.size<=b) (hn:H' b=none):jN X U H' b:=by
 refine⟨hn,Nat.ne_of_gt (Nat.lt_of_lt_of_le I.lt hb),I.Ls hb,.inr (Nat.le_trans I.sz hb),λx c e z=>?_,λp hp z=>?_⟩
 .obtain⟨v,q⟩:=I.cell x c e
  exact absurd (Nat.lt_of_lt_of_le q.lt (by rw [z]; exact hb)) (Nat.lt_irrefl _)
 .exact absurd (Nat.lt_of_lt_of_le (Heap.lt_size (I.pin p hp).1) (by rw [z]; exact hb)) (Nat.lt_irrefl _)
structure nM (P:Program) (w:World) (K:PySem.W.Frag) (tg:Expr) (J:It) (fp:List Addr) (it:Addr) (tn:Nat->Heap->Prop):Prop where
 mem:it∈fp
 obj: ∀i h,tn i h-> ∀b∈fp,∃o,h.get? b=some o/\ ∀v,o.data≠ .cell v
 keep: ∀i h h',tn i h->(∀b∈fp,∀o,h.get? b=some o->h'.get? b=some o)->tn i h'
 item: ∀(X:Cx),X.prog=P->X.w=w->X.K=K->X.calm=true-> ∀(i:Nat) (U:List (Addr×Obj)) (s:Shared) (σ:St) (H:Hp) (E:Value->Shared->Prop),Inv X U σ H s->(∀b∈fp,jN X U H b)->tn i s.heap->J.go i H->
  wpAny (model P w) X.A (pyNext (.ref it)) (λr s1=> ∃u,r=some u/\
   wpAny (model P w) X.A (letOwnedTupleGo tg (.ref it) u) (λ_ s2=> ∃x H',Inv X U σ H' s2/\RelV x u/\J.vQ i H x H'/\tn (i + 1) s2.heap/\ ∀b∈fp,H' b=none) E s1) E s
 done: ∀(X:Cx),X.prog=P->X.w=w->X.K=K->X.calm=true-> ∀(i:Nat) (U:List (Addr×Obj)) (s:Shared) (σ:St) (H:Hp) (E:Value->Shared->Prop),Inv X U σ H s->(∀b∈fp,jN X U H b)->tn i s.heap->J.stop i H->
  wpAny (model P w) X.A (pyNext (.ref it)) (λr s1=>r=none/\Inv X U σ H s1) E s
 self: ∀(A:Around) (i:Nat) (s:Shared) (Q:Value->Shared->Prop) (E:Value->Shared->Prop),tn i s.heap->Q (.ref it) s->wpAny (model P w) A (pyIter (.ref it)) Q E s
noncomputable abbrev TI:=St->Hp->(It->Hp->Prop)->Prop
noncomputable def QR (X:Cx) (U:List (Addr×Obj)) (σ:St) (tg:Expr) (R:It->Hp->Prop) (Ks:Value) (s2:Shared):Prop:=
 ∃(it:Addr) (fp:List Addr) (tn:Nat->Heap->Prop) (J:It) (H':Hp),Ks= .ref it/\Inv X U σ H' s2/\nM X.prog X.w X.K tg J fp it tn/\tn 0 s2.heap/\(∀b∈fp,jN X U H' b)/\R J H'
noncomputable def PI (X:Cx) (tg iter:Expr) (wi:TI):Prop:=
 ∀(U:List (Addr×Obj)) (s:Shared) (σ:St) (H:Hp) (R:It->Hp->Prop),Inv X U σ H s->wi σ H R->
  wpAny (model X.prog X.w) X.A (eval iter X.env) (λv s1=>wpAny (model X.prog X.w) X.A (pyIter v) (QR X U σ tg R) X.xe s1) X.xe s
theorem mH (ho:s.heap.get? it=some o) (hc:o.cls= .type n) (hd:o.data= .fields vs)
  (hn:["enumerate","zip","dict_itemiterator","dict_reverseitemiterator","odict_iterator","itertools.zip_longest","itertools.pairwise"].contains n=false) (hQ:Q () s):wpAny M A (letOwnedTupleGo tg (.ref it) u) Q E s:=by
 unfold letOwnedTupleGo
 cases tg <;> first
  |exact wpAny_pure hQ
  |(cases u <;> first
    |exact wpAny_pure hQ
    |(refine wpAny_bind (wpAny_load ho ?_); rw [hc,hd]; show wpAny M A (if(["enumerate","zip","dict_itemiterator","dict_reverseitemiterator","odict_iterator","itertools.zip_longest","itertools.pairwise"].contains n && vs[0]? == some (rawInt _))=true then _ else _) Q E s; rw [if_neg (by intro h; rw [hn,Bool.false_and] at h; cases h)]; exact wpAny_pure hQ))
noncomputable def LD (K:PySem.W.Frag) (a:Addr):It:=
 ⟨λi H=> ∃xs x,dg K H a xs/\xs[i]?=some x,λi H x H'=>H'=H/\ ∀xs,dg K H a xs->xs[i]?=some x,λi H=> ∃xs,dg K H a xs/\xs.length<=i⟩
noncomputable def LF (K:PySem.W.Frag) (a:Addr):It:=
 ⟨λi H=> ∃xs x,dh K H a xs/\xs[i]?=some x,λi H x H'=>H'=H/\ ∀xs,dh K H a xs->xs[i]?=some x,λi H=> ∃xs,dh K H a xs/\xs.length<=i⟩
noncomputable def Kt (lo:Int) (n:Nat):It:=⟨λi _=>i < n,λi H x H'=>H'=H/\x= .int (lo + i),λi _=>n<=i⟩
theorem uq {P:Program}{w:World}{K:PySem.W.Frag}{tg:Expr} (a it:Addr):nM P w K tg (LD K a) [it] it (λi h=>h.IsListIter it a i) where
 mem:=by simp
 obj:=λi h st b hb=>by
  have e:b=it:=by simpa using hb
  subst e
  exact bA st λo e c d=>⟨o,e,λv z=>by rw [d] at z; cases z⟩
 keep:=λi h h' st k=>st.at λo e=>k it (by simp) o e
 item:=by
  intro X hP hw hK hc i U s σ H E I hf st hg
  subst hP hw hK
  refine gu hg λxs x hq hx=>bA (I.list hq) λits rv p hz=>ae (rv.get hx) λu hu ru=>rX (hf it (by simp)) λf0 f1 f2 f3 f4 f5=>wpAny_pyNext_list_item st p.isList (x:=u) (by simpa using hu) λh' aj sb=>?_
  have I1:Inv X U σ H {s with heap:=h'}:=I.turned (t':=s.toks) (λb o hb e=>(sb.2 b hb).trans e) f0 f1 f3 f4 f5
  exact bA (id aj) λo e c d=>⟨u,rfl,mH (s:={s with heap:=h'}) e c d (by decide) ⟨x,H,I1,ru,⟨rfl,λys hy=>by rw [I.pz hy hq]; exact hx⟩,aj,λb hb=>(hf b hb).1⟩⟩
 done:=by
  intro X hP hw hK hc i U s σ H E I hf st hg
  subst hP hw hK
  refine ae hg λxs hq hx=>bA (I.list hq) λits rv p hz=>rX (hf it (by simp)) λf0 f1 f2 f3 f4 f5=>?_
  have hl:=rv.length
  exact wpAny_pyNext_list_end (I.ok.hd hc) st p.isList (by simp; lia) λh' eb=>⟨rfl,I.turned (t':=s.toks) (λb o hb e=>eb b o hb e) f0 f1 f3 f4 f5⟩
 self:=λ_ _ _ _ _ st h=>wpAny_pyIter_listiter st h
theorem qN {P:Program}{w:World}{K:PySem.W.Frag}{tg:Expr} (a it:Addr):nM P w K tg (LF K a) [it] it (λi h=>h.IsTupleIter it a i) where
 mem:=by simp
 obj:=λi h st b hb=>by
  have e:b=it:=by simpa using hb
  subst e
  exact bA st λo e c d=>⟨o,e,λv z=>by rw [d] at z; cases z⟩
 keep:=λi h h' st k=>st.at λo e=>k it (by simp) o e
 item:=by
  intro X hP hw hK hc i U s σ H E I hf st hg
  subst hP hw hK
  refine gu hg λxs x hq hx=>bA (I.tuple hq) λits rv p hz=>ae (rv.get hx) λu hu ru=>rX (hf it (by simp)) λf0 f1 f2 f3 f4 f5=>wpAny_pyNext_tuple_item st (show s.heap.IsTuple a its.toArray from p) (x:=u) (by simpa using hu) λh' aj sb=>?_
  have I1:Inv X U σ H {s with heap:=h'}:=I.turned (t':=s.toks) (λb o hb e=>(sb.2 b hb).trans e) f0 f1 f3 f4 f5
  exact bA (id aj) λo e c d=>⟨u,rfl,mH (s:={s with heap:=h'}) e c d (by decide) ⟨x,H,I1,ru,⟨rfl,λys hy=>by rw [I.i6 hy hq]; exact hx⟩,aj,λb hb=>(hf b hb).1⟩⟩
 done:=by
  intro X hP hw hK hc i U s σ H E I hf st hg
  subst hP hw hK
  refine ae hg λxs hq hx=>bA (I.tuple hq) λits rv p hz=>rX (hf it (by simp)) λf0 f1 f2 f3 f4 f5=>?_
  have hl:=rv.length
  exact wpAny_pyNext_tuple_end (I.ok.hd hc) st (show s.heap.IsTuple a its.toArray from p) (by simp; lia) λh' eb=>⟨rfl,I.turned (t':=s.toks) (λb o hb e=>eb b o hb e) f0 f1 f3 f4 f5⟩
 self:=λ_ _ _ _ _ st h=>wpAny_pyIter_tupleiter st h
theorem qO {P:Program}{w:World}{K:PySem.W.Frag}{tg:Expr} (it:Addr) (lo:Int) (n:Nat):nM P w K tg (Kt lo n) [it] it (λi h=>IsRangeIter h it (lo + (i:Nat) * 1) ((n:Int) - (i:Nat)) 1) where
 mem:=by simp
 obj:=λi h st b hb=>by
  have e:b=it:=by simpa using hb
  subst e
  exact⟨_,st,λv z=>by
   have z':Data.fields _=Data.cell v:=z
   cases z'⟩
 keep:=λi h h' st k=>k it (by simp) _ st
 item:=by
  intro X hP hw hK hc i U s σ H E I hf st hg
  subst hP hw hK
  refine rX (hf it (by simp)) λf0 f1 f2 f3 f4 f5=>?_
  have W:=Walks.range (prog:=X.prog) (w:=X.w) (I.ok.hd hc) it lo 1 n
  refine W.item i s _ _ hg st λv h' tk hv aj kk=>?_
  obtain⟨t,rfl⟩:=hv
  have I1:Inv X U σ H {s with heap:=h',toks:=tk}:=I.turned (λb o hb e=>kk b o (by simpa using hb) e) f0 f1 f3 f4 f5
  refine⟨_,rfl,mH (s:={s with heap:=h',toks:=tk}) (n:="range_iterator") aj rfl rfl (by decide) ⟨.int (lo + i),H,I1,⟨t,?_⟩,⟨rfl,rfl⟩,aj,λb hb=>(hf b hb).1⟩⟩
  rw [Int.mul_one]
 done:=by
  intro X hP hw hK hc i U s σ H E I hf st hg
  subst hP hw hK
  exact rX (hf it (by simp)) λf0 f1 f2 f3 f4 f5=>wpAny_pyNext_range_end (I.ok.hd hc) st (by have:n<=i:=hg; lia) λh' eb=>⟨rfl,I.turned (t':=s.toks) (λb o hb e=>eb b o hb e) f0 f1 f3 f4 f5⟩
 self:=λ_ _ _ _ _ st h=>wpAny_pyIter_rangeiter st h
end L2
namespace L2
open PySem PySem.Spec PyProof.Rows
section
variable {X:Cx}{tg:Expr}
theorem vS {U:List (Addr×Obj)}{σ:St}{H:Hp}{s:Shared}{R:It->Hp->Prop}{E:Value->Shared->Prop}{lo hi:Int}{t u v:Tok}{tk:Nat} (I:Inv X U σ H s) (h1: -(2 ^ 62)<=lo) (h2:lo < 2 ^ 62) (h3: -(2 ^ 62)<=hi) (h4:hi < 2 ^ 62)
  (q:R (Kt lo (hi - lo).toNat) H):wpAny (model X.prog X.w) X.A (pyIter (.ref s.heap.objs.size)) (QR X U σ tg R) E {s with heap:=s.heap.push {cls:= .type "range",data:= .fields #[.int lo t,.int hi u,.int 1 v]},toks:=tk}:=by
 refine wpAny_pyIter_range (IsRange.new ..) (small_one h1 h2 h3 h4) ?_
 have I1:Inv X U σ H {s with heap:=s.heap.push {cls:= .type "range",data:= .fields #[.int lo t,.int hi u,.int 1 v]},toks:=tk}:=I.kept λb o e=>Heap.get?_push_of_some _ e
 refine⟨(s.heap.push {cls:= .type "range",data:= .fields #[.int lo t,.int hi u,.int 1 v]}).objs.size,[(s.heap.push {cls:= .type "range",data:= .fields #[.int lo t,.int hi u,.int 1 v]}).objs.size],_,_,H,rfl,
  I1.kept (t':=tk) λb o e=>Heap.get?_push_of_some _ e,qO _ lo (hi - lo).toNat,?_,λb hb=>?_,q⟩
 .have e1:lo + ((0:Nat):Int) * 1=lo:=by simp
  have e2:(((hi - lo).toNat :Nat):Int) - ((0:Nat):Int)=Builtin.Range.rangeSize lo hi 1:=by rw [rangeSize_one]; split <;> lia
  show IsRangeIter _ _ (lo + ((0:Nat):Int) * 1) ((((hi - lo).toNat :Nat):Int) - ((0:Nat):Int)) 1
  rw [e1,e2]
  exact Heap.get?_push_size _ rfl
 .have e:b=(s.heap.push {cls:= .type "range",data:= .fields #[.int lo t,.int hi u,.int 1 v]}).objs.size :=by simpa using hb
  subst e
  exact I1.qM (Nat.le_refl _) (I1.aN.fresh (Nat.le_refl _))
noncomputable def GW (ta:TA):TI:=λσ H R=>ta σ H λvs H1=> ∃j:Int,vs=[.int j]/\ -(2 ^ 62)<=j/\j < 2 ^ 62/\R (Kt 0 j.toNat) H1
theorem ur {a:Expr}{ta:TA}{p pos:Pos} (hg:Gl X "range") (hm:X.mg "range"=none) (ha:PA X [a] ta) (hs:starEach [a] X.env=[(false,eval a X.env)]:=by rfl):PI X tg (.Call (.Name "range" p) [a] [] pos) (GW ta):=by
 intro U s σ H R I h
 refine Call_ (gJ I hg hm boot_range (PyProof.Rows.callWith_type1 (bz (ha pos U s σ H _ I h) λus s1 zz=>ba zz λvs H1 I1 r1 q1=>?_) hs rfl))
 obtain⟨j,e,q1,q2,q⟩:=q1
 subst e
 cases r1 with
 |cons r rr=>
  cases rr
  obtain⟨t,rfl⟩:=r
  exact call_range_1 (vS I1 (by lia) (by lia) q1 q2 (by simpa using q))
noncomputable def LG (wi:TI) (g:TG) (tb:TS):TS:=λD σ H=>wi σ H λJ H1=> ∃W:Nat->Nat->St->Hp->Prop,(∃m,W 0 m σ H1)/\ ∀i m σ H,W i m σ H->
 (J.stop i H/\D.nx σ H)\/(J.go i H/\ ∃N:St->Hp->Prop,(∀bR H',N bR H'-> ∃m',m' < m/\W (i + 1) m' bR H')/\ ∀x H',J.vQ i H x H'->g x σ H' λvA H2=>tb {D with nx:=N,ct:=N,bk:=D.nx} vA H2)
noncomputable def km (fp:List Addr) (h:Heap):List (Addr×Obj):=fp.filterMap λb=>(h.get? b).map λo=>(b,o)
theorem eM (hb:b∈fp) (e:h.get? b=some o):(b,o)∈km fp h:=List.mem_filterMap.mpr ⟨b,hb,by rw [e]; rfl⟩
theorem uu (hp:p∈km fp h):p.1∈fp/\h.get? p.1=some p.2:=by
 refine ae (List.mem_filterMap.mp hp) λb hb e=>?_
 cases q:h.get? b with
 |none=>rw [q] at e; cases e
 |some o=>
  rw [q] at e
  have e':(b,o)=p:=Option.some.inj e
  subst e'
  exact⟨hb,q⟩
theorem Inv.pinned (I:Inv X U σ H s) (hf: ∀b∈fp,jN X U H b) (ho: ∀b∈fp,∃o,s.heap.get? b=some o/\ ∀v,o.data≠ .cell v):Inv X (U++km fp s.heap) σ H s:=
 I.rZ λp hp=>(List.mem_append.mp hp).elim (λz=>I.pin p (List.mem_append_right _ z)) λz=>by
  refine ao λnO=>?_
  obtain⟨hb,e⟩:=uu z
  refine yR (hf p.1 hb) λf0 f1 f2 _=>ae (ho p.1 hb) λo e' d=>nO ?_
  rw [e] at e'; cases e'
  exact⟨e,f0,f1,f2,d⟩
theorem Inv.gZ (I:Inv X (U++pl) σ H s):Inv X U σ H s:=I.rZ λp hp=>I.pin p (List.mem_append_right _ (List.mem_append_left _ hp))
theorem Dp (hp:PassesOwn (model X.prog X.w) X.A X.env X.xe) (hc:X.calm=true) (hi:PI X tg iter wi) (hg:PG X tg g) (hb:jX X body tb)
  (hs: ∀x,foldedSetIterable iter X.env x=pure x:=by intro _; rfl):PS X (.For tg iter body [] pos) (LG wi g tb):=by
 intro U s σ H D I h
 refine wpAny_For (bz (hi U s σ H _ I h) λv s1 h1=>bz h1 λKs s2 h2=>?_) hs
 refine ao λnO=>?_
 obtain⟨it,fp,tn,J,H2,e,I2,T,cv,f2,W,⟨m0,w0⟩,turn⟩:=h2
 subst e
 refine nO ?_
 have qP: ∀{H':Hp},(∀b∈fp,H' b=none)-> ∀b∈fp,jN X U H' b:=λhn b hb=>⟨hn b hb,(f2 b hb).2⟩
 refine codeAny_forLoop_any (λn s'=> ∃i bR H',Inv X U bR H' s'/\tn i s'.heap/\(∀b∈fp,H' b=none)/\W i n bR H') ?_ m0 ⟨0,σ,H2,I2,cv,λb hb=>(f2 b hb).1,w0⟩
 rintro n s3 ⟨i,uo,H3,I3,kn,QS,w3⟩
 rcases turn i n uo H3 w3 with ⟨stop,qn⟩|⟨go,N,hN,step⟩
 .refine wpAny_passesOwn hp (bz (T.done X rfl rfl rfl hc i U s3 uo H3 X.xe I3 (qP QS) kn stop) λr s4 zz=>?_)
  obtain⟨hr,I4⟩:=zz
  subst hr
  exact wpAny_execs_nil ⟨uo,H3,I4,qn⟩
 .refine wpAny_passesOwn hp (bz (T.item X rfl rfl rfl hc i U s3 uo H3 X.xe I3 (qP QS) kn go) λr s4 zz=>?_)
  refine ao λnO=>ae zz λu hr h4=>?_
  subst hr
  refine nO ?_
  refine wpAny_passesOwn hp (bz h4 λ_ s5 zz=>?_)
  refine ao λnO=>jM zz λx H5 I5 r5 y5 vT Ku=>nO ?_
  have SE:=I5.pinned (qP Ku) (T.obj _ _ vT)
  refine wpAny_passesOwn hp (bz (hg _ s5 uo H5 x u _ SE r5 (step x H5 y5)) λ_ s6 zz=>?_)
  refine ao λnO=>gu zz λSF H6 I6 q6=>nO ?_
  refine wpAny_passesOwn hp (bz (hb _ s6 SF H6 _ I6 q6) λf s7 q7=>?_)
  have again: ∀{vU:St}{H7:Hp},Inv X (U++km fp s5.heap) vU H7 s7->N vU H7-> ∃m,m < n/\ ∃i bR H',Inv X U bR H' s7/\tn i s7.heap/\(∀b∈fp,H' b=none)/\W i m bR H':=λ{vU H7} I7 n7=>by
   refine ae (hN vU H7 n7) λm' hm w7=>⟨m',hm,i + 1,vU,H7,I7.gZ,T.keep _ _ _ vT λb hb o e=>(I7.pin (b,o) (List.mem_append_right _ (List.mem_append_right _ (eM hb e)))).1,λb hb=>?_,w7⟩
   exact ae (T.obj _ _ vT b hb) λo e d=>(I7.pin (b,o) (List.mem_append_right _ (List.mem_append_right _ (eM hb e)))).2.1
  cases f with
  |next=>obtain⟨vU,H7,I7,n7⟩:=q7; exact again I7 n7
  |cont=>obtain⟨vU,H7,I7,n7⟩:=q7; exact again I7 n7
  |brk=>obtain⟨vU,H7,I7,q7⟩:=q7; exact⟨vU,H7,I7.gZ,q7⟩
  |ret v=>obtain⟨x7,vU,H7,I7,r7,q7⟩:=q7; exact⟨x7,vU,H7,I7.gZ,r7,q7⟩
end
end L2
namespace L2
open PySem PySem.Spec PyProof.Rows
noncomputable abbrev R2:=V->V->Hp->VK->Prop
noncomputable def mI (X:Cx) (f:Value->Value->Sem Value) (r:R2):Prop:=
 ∀(U:List (Addr×Obj)) (s:Shared) (σ:St) (H:Hp) (x y:V) (v u:Value) (Q:VK),Inv X U σ H s->RelV x v->RelV y u->r x y H Q->
  wpAny (model X.prog X.w) X.A (f v u) (EP X U σ Q) X.xe s
noncomputable def cN (X:Cx) (f:Value) (r:List V->Hp->VK->Prop):Prop:=
 ∀(U:List (Addr×Obj)) (s:Shared) (σ:St) (H:Hp) (xs:List V) (us:List Value) (Q:VK),Inv X U σ H s->aA xs us->r xs H Q->
  wpAny (model X.prog X.w) X.A (call f us) (EP X U σ Q) X.xe s
noncomputable def LH (X:Cx) (r:V->Hp->(Bool->Hp->Prop)->Prop):Prop:=
 ∀(U:List (Addr×Obj)) (s:Shared) (σ:St) (H:Hp) (x:V) (v:Value) (Q:Bool->Hp->Prop),Inv X U σ H s->RelV x v->r x H Q->
  wpAny (model X.prog X.w) X.A (truthy v) (TP X U σ Q) X.xe s
noncomputable def B0 (r:R2) (ta tb:TE):TE:=λσ H Q=>ta σ H λx H1=>tb σ H1 λy H2=>r x y H2 Q
noncomputable def rI (C:Int->Int->Prop) (g:Int->Int->V):R2:=λx y H Q=> ∃i j,x= .int i/\y= .int j/\C i j/\Q (g i j) H
noncomputable def GX (g:Int->Int->V):R2:=λx y H Q=> ∃i j,x= .int i/\y= .int j/\Q (g i j) H
section
variable {X:Cx}{a b c:Expr}{ta tb tc:TE}{pos:Pos}
theorem Dq (ha:PE X a ta) (hb:PE X b tb) {U:List (Addr×Obj)}{s:Shared}{σ:St}{H:Hp}{R:V->V->Hp->Prop} (I:Inv X U σ H s)
  (h:ta σ H λx H1=>tb σ H1 λy H2=>R x y H2) {Q:Value->Shared->Prop}{f:Value->Value->Sem Value}
  (hf: ∀v u s2 x y H2,Inv X U σ H2 s2->RelV x v->RelV y u->R x y H2->wpAny (model X.prog X.w) X.A (f v u) Q X.xe s2):
  wpAny (model X.prog X.w) X.A (eval a X.env) (λv aT=>wpAny (model X.prog X.w) X.A (eval b X.env) (λu kl=>wpAny (model X.prog X.w) X.A (f v u) Q X.xe kl) X.xe aT) X.xe s:=by
 exact bz (ha U s σ H _ I h) λv s1 zz=>ba zz λx H1 I1 r1 q1=>bz (hb U s1 σ H1 _ I1 q1) λu s2 zz=>ba zz λy H2 I2 r2 q2=>hf v u s2 x y H2 I2 r1 r2 q2
theorem pC {op:Operator}{r:R2} (ho:mI X (binaryOp op) r) (ha:PE X a ta) (hb:PE X b tb):PE X (.BinOp a op b pos) (B0 r ta tb):=by
 intro U s σ H Q I h
 exact wpAny_BinOp (Dq ha hb I h λv u s2 x y H2 I2 rx ry q=>ho U s2 σ H2 x y v u Q I2 rx ry q)
theorem LI {f:Value->Value->Sem Value}{C:Int->Int->Prop}{g:Int->Int->Int}
  (rule: ∀(i j:Int) (t u:Tok) (s:Shared) (Q:Value->Shared->Prop) (E:Value->Shared->Prop),C i j->Q (.int (g i j) s.toks) {s with toks:=s.toks + 1}->wpAny (model X.prog X.w) X.A (f (.int i t) (.int j u)) Q E s):
  mI X f (rI C λi j=> .int (g i j)):=by
 intro U s σ H x y v u Q I rx ry h
 refine fW h λi j af aO hc q=>?_
 try clear h
 subst af
 subst aO
 obtain⟨t,rfl⟩:=rx
 obtain⟨t',rfl⟩:=ry
 exact rule i j t t' s _ _ hc ⟨.int (g i j),H,I.tok _,⟨_,rfl⟩,q⟩
theorem LJ {f:Value->Value->Sem Value}{g:Int->Int->Int}
  (rule: ∀(i j:Int) (t u:Tok) (s:Shared) (Q:Value->Shared->Prop) (E:Value->Shared->Prop),Q (.int (g i j) s.toks) {s with toks:=s.toks + 1}->wpAny (model X.prog X.w) X.A (f (.int i t) (.int j u)) Q E s):
  mI X f (GX λi j=> .int (g i j)):=by
 intro U s σ H x y v u Q I rx ry h
 refine ba h λi j af aO q=>?_
 try clear h
 subst af
 subst aO
 obtain⟨t,rfl⟩:=rx
 obtain⟨t',rfl⟩:=ry
 exact rule i j t t' s _ _ ⟨.int (g i j),H,I.tok _,⟨_,rfl⟩,q⟩
theorem LK {f:Value->Value->Sem Value}{g:Int->Int->Bool}
  (rule: ∀(i j:Int) (t u:Tok) (s:Shared) (Q:Value->Shared->Prop) (E:Value->Shared->Prop),Q (.bool (g i j)) s->wpAny (model X.prog X.w) X.A (f (.int i t) (.int j u)) Q E s):
  mI X f (GX λi j=> .bl (g i j)):=by
 intro U s σ H x y v u Q I rx ry h
 refine ba h λi j af aO q=>?_
 try clear h
 subst af
 subst aO
 obtain⟨t,rfl⟩:=rx
 obtain⟨t',rfl⟩:=ry
 exact rule i j t t' s _ _ ⟨.bl (g i j),H,I,rfl,q⟩
noncomputable def LL (i j:Int):Prop:=0 < j/\j < 1073741824
noncomputable def zp (i j:Int):Prop:=(-(2 ^ 64) < i/\i < 2 ^ 64)\/(-(2 ^ 64) < j/\j < 2 ^ 64)
theorem zp.ok (h:zp i j):IntMulOk i j:=by
 rcases h with ⟨h1,h2⟩|⟨h1,h2⟩
 .exact .of_left (intBits_le_64 h1 h2)
 .exact .of_right (intBits_le_64 h1 h2)
theorem Dr:mI X (binaryOp .Add) (GX λi j=> .int (i + j)):=LJ λ_ _ _ _ _ _ _ q=>add_int q
theorem Ds:mI X (binaryOp .Mult) (rI zp λi j=> .int (i * j)):=LI λ_ _ _ _ _ _ _ hc q=>mul_int q hc.ok
theorem zq:mI X (binaryOp .FloorDiv) (rI LL λi j=> .int (i / j)):=LI λi j _ _ _ _ _ hc q=>by
 have h1:(0:Int) < j:=hc.1
 have h2:j < 1073741824:=hc.2
 exact floordiv_int (by lia) (by rw [Int.fdiv_eq_ediv_of_nonneg i (by lia)]; exact q) (.inl (PyProof.noPylong_small (by lia)))
theorem Dt:mI X (binaryOp .Mod) (rI (λ_ j=>0 < j) λi j=> .int (i % j)):=LI λi j _ _ _ _ _ hc q=>by
 have h1:(0:Int) < j:=hc
 exact mod_int' (by lia) (by rw [Int.fmod_eq_emod_of_nonneg i (by lia)]; exact q)
end
section
variable {X:Cx}{a b c:Expr}{ta tb tc:TE}{pos:Pos}
theorem GY:mI X (compareOp .Lt) (GX λi j=> .bl (decide (i < j))):=LK λ_ _ _ _ _ _ _ q=>lt_int q
theorem mI.or (h:mI X f r) (h':mI X f r'):mI X f (λx y H Q=>r x y H Q\/r' x y H Q):=by
 intro U s σ H x y v u Q I rx ry q
 rcases q with q|q
 .exact h U s σ H x y v u Q I rx ry q
 .exact h' U s σ H x y v u Q I rx ry q
theorem zr {op:CmpOp}{r:R2} (ho:mI X (compareOp op) r) (ha:PE X a ta) (hb:PE X b tb) (hm:behindInMarks op b=false):PE X (.Compare a [op] [b] pos) (B0 r ta tb):=by
 intro U s σ H Q I h
 exact wpAny_Compare1 (Dq ha hb I h λv u s2 x y H2 I2 rx ry q=>ho U s2 σ H2 x y v u Q I2 rx ry q) hm
noncomputable def GZ (t:TE):TT:=λσ H Q=>t σ H λx H'=> ∃k,x= .bl k/\Q k H'
theorem zu (ho:mI X (compareOp op) r) (ha:PE X a ta) (hb:PE X b tb) (hm:behindInMarks op b=false):PT X (.Compare a [op] [b] pos) (GZ (B0 r ta tb)):=by
 intro U s σ H Q I h
 refine wpAny_isTrue_Compare1 (bz (ha U s σ H _ I h) λv s1 ⟨x,H1,I1,r1,q1⟩=>bz (hb U s1 σ H1 _ I1 q1) λu s2 ⟨y,H2,I2,r2,q2⟩=>
  bz (ho U s2 σ H2 x y v u _ I2 r1 r2 q2) λc s3 ⟨z,H3,I3,r3,k,e,q3⟩=>?_) hm
 subst e
 cases r3
 exact wpAny_truthy_bool ⟨H3,I3,q3⟩
noncomputable def Du (K:PySem.W.Frag) (x:V) (H:Hp) (k:Bool):Prop:=
 match x with
 | .eK =>k=false
 | .bl b=>k=b
 | .int i=>k=(i !=0)
 | .str y=>y.length<=sizeLine/\k=((y.length:Int) !=0)
 | .GA y=>y.size<=sizeLine/\k=((y.size:Int) !=0)
 | .ref p=>(∃xs,dg K H p xs/\k=!xs.isEmpty)\/(∃xs,dh K H p xs/\k=!xs.isEmpty)\/ ∃aw,H p=some (.dK aw)/\k=!aw.isEmpty
 |_=>False
theorem qQ (r:KV aw vs):(!vs.isEmpty)=!aw.isEmpty:=by
 cases r <;> rfl
theorem ko (r:aA xs its):(!its.toArray.isEmpty)=!xs.isEmpty:=by
 cases r <;> simp
theorem kq:(sizeLine:Nat) < 2 ^ 63:=by rw [sizeLine_eq]; decide
theorem Dv:LH X (λx H Q=> ∃k,Du X.K x H k/\Q k H):=by
 intro U s σ H x v Q I rx h
 obtain⟨k,e,q⟩:=h
 have hl:=kq
 have hs:sizeLine=16777216:=sizeLine_eq
 cases x with
 |eK=>
  cases rx
  have e':k=false:=e
  subst e'
  exact truthy_none ⟨H,I,q⟩
 |bl b=>
  cases rx
  have e':k=b:=e
  subst e'
  exact wpAny_truthy_bool ⟨H,I,q⟩
 |int i=>
  obtain⟨t,rfl⟩:=rx
  have e':k=(i !=0):=e
  subst e'
  exact PySem.P.truthy_int ⟨H,I,q⟩
 |str y=>
  obtain⟨t,rfl⟩:=rx
  obtain⟨hy,e'⟩:y.length<=sizeLine/\k=((y.length:Int) !=0):=e
  subst e'
  exact PySem.P.truthy_str (by lia) ⟨H,I.tok _,q⟩
 |GA y=>
  obtain⟨t,rfl⟩:=rx
  obtain⟨hy,e'⟩:y.size<=sizeLine/\k=((y.size:Int) !=0):=e
  subst e'
  exact PySem.W.truthy_bytes (by lia) ⟨H,I.tok _,q⟩
 |ref p=>
  cases rx
  have e':(∃xs,dg X.K H p xs/\k=!xs.isEmpty)\/(∃xs,dh X.K H p xs/\k=!xs.isEmpty)\/ ∃aw,H p=some (.dK aw)/\k=!aw.isEmpty:=e
  rcases e' with ⟨xs,hx,e'⟩|⟨xs,hx,e'⟩|⟨aw,hx,e'⟩
  .refine ao λnO=>?_
   subst e'
   obtain⟨its,r,pl,hz⟩:=I.list hx
   refine nO ?_
   have aL:=r.length
   exact wpAny_truthy_list pl.isList (by simp only [List.size_toArray]; lia) ⟨H,I.tok _,by rw [ko r]; exact q⟩
  .refine ao λnO=>?_
   subst e'
   obtain⟨its,r,pl,hz⟩:=I.tuple hx
   refine nO ?_
   have aL:=r.length
   exact truthy_tuple pl (by simp only [List.size_toArray]; lia) ⟨H,I.tok _,by rw [ko r]; exact q⟩
  .subst e'
   obtain⟨hz,hS,vs,r,m⟩:aw.length<=sizeLine/\(p == sysModules)=false/\ ∃vs,KV aw vs/\s.heap.DictOf (aU X.prog X.w) p vs:=I.aN p _ hx
   have aL:aw.length=vs.length:=Paired.length r
   exact wpAny_truthy_dict hS m (by lia) ⟨H,I.tok _,by rw [qQ r]; exact q⟩
 |_=>exact(show False from e).elim
theorem pD (ha:PE X a ta) (he: ∀whole,isTrue a X.env whole=(do let v<-whole; standAt a.pos; holding [v] (truthy v))):
  PT X a (λσ H Q=>ta σ H λx H'=> ∃k,Du X.K x H' k/\Q k H'):=by
 intro U s σ H Q I h
 exact isTrue_plain (bz (ha U s σ H _ I h) λv s1 zz=>ba zz λx H1 I1 r1 q1=>Dv U s1 σ H1 x v Q I1 r1 q1) (he _)
theorem vals1 (r:aA [x] us): ∃u,us=[u]/\RelV x u:=by
 cases r with
 |cons r1 r2=>cases r2; exact⟨_,rfl,r1⟩
theorem vals2 (r:aA [x,y] us): ∃u w',us=[u,w']/\RelV x u/\RelV y w':=by
 cases r with
 |cons r1 r2=>
  cases r2 with
  |cons r3 r4=>cases r4; exact⟨_,_,rfl,r1,r3⟩
end
end L2
namespace L2
open PySem PySem.Spec PyProof.Rows
section
variable {prog:Program}{w:World}{A:Around}{E:Value->Shared->Prop}{s:Shared}{K:PySem.W.Frag}{x dx C f:Addr}{mA:Str->Option Value}{name:Str}{v:Value}
end
noncomputable def Dw (f:Str) (v:V):List (Str×V)->List (Str×V)
 |[]=>[(f,v)]
 |(g,x)::r=>if g=f then(g,v)::r else(g,x)::Dw f v r
theorem lU.some_of (r:lU (some v) o): ∃u,o=some u/\RelV v u:=by
 cases o with
 |none=>exact(show False from r).elim
 |some u=>exact⟨u,rfl,r⟩
section
variable {P:Program}{w:World}{H H':Hp}{h h':Heap}{a C dx:Addr}{fs Sy:List (Str×V)}
end
section
variable {X:Cx}{U:List (Addr×Obj)}{σ:St}{H:Hp}{s:Shared}{a C dx:Addr}{fs:List (Str×V)}{f:Str}{v:V}{A:Around}{E:Value->Shared->Prop}
end
section
variable {X:Cx}{o e value:Expr}{f:Str}{pos pA tpos:Pos}{ta tv:TE}
noncomputable def Dx:V->V->Hp->VK->Prop:=λx y H Q=> ∃i j,x= .int i/\y= .int j/\Q (.int (i + j)) H
end
section
variable {X:Cx}{U:List (Addr×Obj)}{σ:St}{H:Hp}{s:Shared}{A:Around}{E:Value->Shared->Prop}{Q:Value->Shared->Prop}{c:Value}{b:Bool}
end
end L2
namespace L2
open PySem PySem.Spec PyProof.Rows
structure dR (k:Nat) (A:Around):Prop where
 hd:A.handled=none
 dp:A.depth + 3 * k + 5 < recursionLimit
 un:A.units + 16 * k + 200 < cLine
theorem dR.mono (r:dR k A) (h:j<=k):dR j A:=⟨r.hd,by have:=r.dp; lia,by have:=r.un; lia⟩
theorem dR.deeper (r:dR (k + 1) A) (env:Env):dR k (A.deeper env):=
 ⟨r.hd,by have:=r.dp; show A.depth + 1 + 3 * k + 5 < _; lia,by have:=r.un; show A.units + 3 + 16 * k + 200 < _; lia⟩
theorem dR.depth (r:dR k A):A.depth < recursionLimit:=by have:=r.dp; lia
theorem dR.units (r:dR k A):A.units + 64 < cLine:=by have:=r.un; lia
noncomputable def kr:TA:=λ_ H Q=>Q [] H
noncomputable def cE (ta:TE) (tr:TA):TA:=λσ H Q=>ta σ H λx H1=>tr σ H1 λxs H2=>Q (x::xs) H2
section
variable {X:Cx}{e:Expr}{es:List Expr}{te:TE}{t:TA}{pos:Pos}
theorem dj:PA X [] kr:=λ_ _ _ _ H Q I h=>Calls.spliced_nil ⟨[],H,I,.nil,h⟩
theorem bV (ha:PE X e te) (hr:PA X es t) (hs:starEach (e::es) X.env=(false,eval e X.env)::starEach es X.env:=by rfl):PA X (e::es) (cE te t):=by
 intro pos U s σ H Q I h
 rw [hs]
 show wpAny _ _ (spliced ((false,eval e X.env)::backTo pos (starEach es X.env))) _ _ s
 refine Calls.spliced_cons (bz (ha U s σ H _ I h) λu s1 zz=>?_)
 exact ba zz λx H1 I1 r1 q1=>bz (hr pos U s1 σ H1 _ I1 q1) λus s2 zz=>ba zz λxs H2 I2 r2 q2=>⟨x::xs,H2,I2,.cons r1 r2,q2⟩
noncomputable def LN (t:TA):TE:=λσ H Q=>t σ H λxs H1=>xs.length<=sizeLine/\ ∀p,H1 p=none->Q (.ref p) (upd H1 p (.tup xs))
noncomputable def LO (t:TA):TE:=λσ H Q=>t σ H λxs H1=>xs.length<=sizeLine/\ ∀p,H1 p=none->Q (.ref p) (upd H1 p (.lst xs))
theorem Dy (h:PA X es t):PE X (.Tuple es x1 pos) (LN t):=by
 intro U s σ H Q I hq
 refine wpAny_Tuple_spliced (bz (h pos U s σ H _ I hq) λus s1 ⟨xs,H1,I1,r,z,q⟩=>⟨by rw [<-r.length]; exact z,?_⟩)
 have hf:H1 s1.heap.objs.size=none:=I1.aN.fresh (Nat.le_refl _)
 refine⟨.ref s1.heap.objs.size,upd H1 s1.heap.objs.size (.tup xs),I1.laid (t':=s1.toks) (λb u e=>Heap.get?_push_of_some _ e) (Nat.le_refl _) ?_,rfl,q _ hf⟩
 exact⟨z,us,r,i5.new _ _⟩
theorem Dz (h:PA X es t):PE X (.List es pos) (LO t):=by
 intro U s σ H Q I hq
 refine wpAny_List_spliced (bz (h pos U s σ H _ I hq) λus s1 ⟨xs,H1,I1,r,z,q⟩=>⟨by rw [<-r.length]; exact z,?_⟩)
 have hf:H1 s1.heap.objs.size=none:=I1.aN.fresh (Nat.le_refl _)
 refine⟨.ref s1.heap.objs.size,upd H1 s1.heap.objs.size (.lst xs),I1.laid (t':=s1.toks) (λb u e=>Heap.get?_push_of_some _ e) (Nat.le_refl _) ?_,rfl,q _ hf⟩
 exact⟨z,us,0,r,Heap.get?_push_size _ rfl⟩
end
noncomputable abbrev Sp:=List V->Hp->VK->XK->Prop
noncomputable abbrev vV:=List Env->Hp->Shared->XK->Value->Shared->Prop
structure zw (P:Program) (w:World) (K:PySem.W.Frag) (mg:Str->Option Value) (base:Heap) (A:Around) (outer:List Env) (s:Shared) (H:Hp):Prop where
 frames:A.frames=some outer
 mod:Mod K mg base
 bs: ∀b o,base.get? b=some o->s.heap.get? b=some o/\H b=none
 vK:base.objs.size<=s.heap.objs.size
 kh:s.heap.FunFrames base outer
 FX: ∀b∈vJ outer,H b=none
 aN:gH P w H s.heap
 bare:AllBare s.gens
noncomputable def CE (outer:List Env) (P:Program) (w:World) (H:Hp) (s:Shared) (Q:VK) (u:Value) (s':Shared):Prop:=
 ∃v H',s'.os=s.os/\AllBare s'.gens/\Un (vJ outer) [] H H' s.heap s'.heap/\gH P w H' s'.heap/\RelV v u/\Q v H'
noncomputable def CR (CX:vV) (outer:List Env) (P:Program) (w:World) (H:Hp) (s:Shared) (Q:VK) (E:XK) (r:Result) (s':Shared):Prop:=
 match r with
 | .ok (.ret u)=>CE outer P w H s Q u s'
 | .ok _=>False
 | .error e=>CX outer H s E e s'
structure g_ (P:Program) (w:World) (K:PySem.W.Frag) (mg:Str->Option Value) (base:Heap) (CX:vV) (k:Nat) (f:Addr) (fd:FuncData) (ps:List Str) (sp:Sp):Prop where
 len: ∀vs H Q E,sp vs H Q E->vs.length=ps.length
 run: ∀(A:Around) (outer:List Env) (s:Shared) (H:Hp) (args:Args) (us:List Value) (vs:List V) (Q:VK) (E:XK),dR k A->zw P w K mg base A outer s H->BindsTo s fd args (ps.zip us)->aA vs us->sp vs H Q E->
  codeAny (model P w) A (.call (.ref f) args) (CR CX outer P w H s Q E) s
section
variable {X:Cx}{U:List (Addr×Obj)}{σ:St}{H:Hp}{s s':Shared}
theorem Inv.LP (I:Inv X U σ H s):zw X.prog X.w X.K X.mg X.base X.A X.stack s H:=
 ⟨I.ok.frames,I.ok.mod,I.bs,Nat.le_trans I.ok.vK I.sz,I.stack,I.rY,I.aN,I.bare⟩
theorem Inv.after (I:Inv X U σ H s) (h:CE X.stack X.prog X.w H s Q u s'):EP X U σ Q u s':=by
 refine Lh h λv H' os bare un aN r q=>?_
 obtain⟨hh,g,d,t,SG⟩:=s'
 obtain rfl:SG=s.os:=os
 exact⟨v,H',I.call (h':=hh) (g':=g) (d':=d) (t':=t) (ch:=[]) un aN bare (λb z=>absurd z (by simp)),r,q⟩
end
noncomputable def G0 (sp:Sp) (zx:List V) (E:XK) (t:TA):TE:=λσ H Q=>t σ H λvs H1=>sp (vs++zx) H1 Q E
noncomputable def Binds (K:PySem.W.Frag) (fd:FuncData) (ps:List Str) (ds:List Value):Prop:=
 ∀(s:Shared) (us:List Value),K.In s.heap->(us++ds).length =ps.length->BindsTo s fd ⟨us,[]⟩ (ps.zip (us++ds))
theorem Binds.all {K:PySem.W.Frag}{fd:FuncData}{ps:List Str} (h: ∀us:List Value,us.length=ps.length->bindArgs fd ⟨us,[]⟩=pure (ps.zip us)):Binds K fd ps []:=λs us _ hl=>by
 rw [List.append_nil] at hl ⊢
 exact .of_eq (h us hl)
noncomputable def qR (CX:vV) (X:Cx) (E:XK):Prop:= ∀(U:List (Addr×Obj)) (σ:St) (H:Hp) (s:Shared) (e:Value) (s':Shared),Inv X U σ H s->CX X.stack H s E e s'->X.xe e s'
section
variable {X:Cx}{CX:vV}{k:Nat}{f C:Addr}{fd:FuncData}{ps:List Str}{sp:Sp}{zx:List V}{ds:List Value}{E:XK}{x m:Str}{p pos lZ:Pos}{e o:Expr}{es:List Expr}{ta:TE}{t:TA}
theorem vW (F:g_ X.prog X.w X.K X.mg X.base CX k f fd ps sp) (hr:dR k X.A) (hb:Binds X.K fd ps ds) (hd:aA zx ds) (hx:qR CX X E)
  (I:Inv X U σ H s) (r:aA vs us) (h:sp (vs++zx) H Q E):wpAny (model X.prog X.w) X.A (call (.ref f) us) (EP X U σ Q) X.xe s:=by
 have r2:aA (vs++zx) (us++ds):=r.append hd
 have hl:(us++ds).length =ps.length:=by rw [<-r2.length]; exact F.len _ _ _ _ h
 refine wpAny_call (codeAny_mono (F.run X.A X.stack s H ⟨us,[]⟩ (us++ds) (vs++zx) Q E hr I.LP (hb s us I.BW hl) r2 h) λr s' hq=>?_)
 cases r with
 |error e=>exact hx U σ H s e s' I hq
 |ok fl=>
  cases fl with
  |ret u=>exact I.after hq
  |next=>exact False.elim hq
  |brk=>exact False.elim hq
  |cont=>exact False.elim hq
theorem sf (F:g_ X.prog X.w X.K X.mg X.base CX k f fd ps sp) (hr:dR k X.A) (hg:Gl X x) (hm:X.mg x=some (.ref f)) (hk:PySem.W.keepIn X.K (.ref f)=true) (hb:Binds X.K fd ps ds) (hd:aA zx ds) (hx:qR CX X E)
  (ha:PA X (e::es) t) (yU:(x == ("__debug__":Str))=false:=by decide) (he:starEach (e::es) X.env=(false,eval e X.env)::starEach es X.env:=by rfl) (i7:(backTo pos (starEach es X.env)).any (·.1)=false:=by rfl):
  PE X (.Call (.Name x p) (e::es) [] pos) (G0 sp zx E t):=by
 intro U s σ H Q I h
 refine wpAny_Call_Name_kw (nJ I hg hm ?_ yU)
 refine PySem.W.callWith_K (h₀:=X.base) I.ok.mod.Ko hk (bz (ha pos U s σ H _ I h) λus s1 zz=>ba zz λvs H1 I1 r q=>⟨I1.BW,?_⟩) he i7
 exact vW F hr hb hd hx I1 r q
end
section
variable {X:Cx}{CX:vV}{k:Nat}{f C:Addr}{fd:FuncData}{ps ks:List Str}{sp:Sp}{E:XK}{x m:Str}{p pos lZ SH:Pos}{e o:Expr}{es:List Expr}{cn:List Keyword}{te ta:TE}{t tk:TA}{nm:Option Str}
variable {g:List Value->List Value->List Value}{gV:List V->List V->List V}
end
structure aF (N P:List Str) (sc:Scope):Prop where
 kind:sc.kind= .function
 co:sc.isCoroutine=false
 gen:sc.isGenerator=false
 nd:N.Nodup
 pre:N.take P.length=P
 par: ∀x∈P,sc.names.lookup x=some .local \/sc.names.lookup x=some .cell
 DA: ∀y∈sc.names,y.2≠ .free
theorem mJ {kindOf:Str->Option NameKind}{x:Str}: ∀{binds:List (Str×Value)}{m:Str->Option Value},(∀v,(x,v)∉binds)->bindL kindOf binds m x=m x
 |[],_,_=>rfl
 |(n,v)::r,m,h=>by
  unfold bindL
  rw [mJ λw hw=>h w (List.mem_cons_of_mem _ hw)]
  split
  .have:x≠n:=by rintro rfl; exact h v List.mem_cons_self
   simp [this]
  .rfl
theorem mK {kindOf:Str->Option NameKind}{x:Str}: ∀{binds:List (Str×Value)}{m:Str->Option Value},(∀v,(x,v)∉binds)->bindC kindOf binds m x=m x
 |[],_,_=>rfl
 |(n,v)::r,m,h=>by
  unfold bindC
  rw [mK λw hw=>h w (List.mem_cons_of_mem _ hw)]
  split
  .rfl
  .have:x≠n:=by rintro rfl; exact h v List.mem_cons_self
   simp [this]
theorem mL {kindOf:Str->Option NameKind}{x:Str}{v:Value}: ∀{P:List Str}{vs:List Value}{i:Nat}{m:Str->Option Value},P.Nodup->P[i]?=some x->vs[i]?=some v->kindOf x=some .local ->
  bindL kindOf (P.zip vs) m x=some v
 |[],_,_,_,_,h,_,_=>by simp at h
 |_::_,[],_,_,_,_,h,_=>by simp at h
 |p::P,w::vs,0,m,nd,h1,h2,hk=>by
  simp at h1 h2; subst h1; subst h2
  show bindL kindOf ((p,w)::P.zip vs) m p=_
  unfold bindL
  rw [mJ λv hv=>(List.nodup_cons.mp nd).1 (List.of_mem_zip hv).1,if_pos hk]
  simp
 |p::P,w::vs,i + 1,m,nd,h1,h2,hk=>by
  show bindL kindOf ((p,w)::P.zip vs) m x=_
  unfold bindL
  exact mL (i:=i) (List.nodup_cons.mp nd).2 (by simpa using h1) (by simpa using h2) hk
theorem mM {kindOf:Str->Option NameKind}{x:Str}{v:Value}: ∀{P:List Str}{vs:List Value}{i:Nat}{m:Str->Option Value},P.Nodup->P[i]?=some x->vs[i]?=some v->kindOf x≠some .local ->
  bindC kindOf (P.zip vs) m x=some v
 |[],_,_,_,_,h,_,_=>by simp at h
 |_::_,[],_,_,_,_,h,_=>by simp at h
 |p::P,w::vs,0,m,nd,h1,h2,hk=>by
  simp at h1 h2; subst h1; subst h2
  show bindC kindOf ((p,w)::P.zip vs) m p=_
  unfold bindC
  rw [mK λv hv=>(List.nodup_cons.mp nd).1 (List.of_mem_zip hv).1,if_neg hk]
  simp
 |p::P,w::vs,i + 1,m,nd,h1,h2,hk=>by
  show bindC kindOf ((p,w)::P.zip vs) m x=_
  unfold bindC
  exact mM (i:=i) (List.nodup_cons.mp nd).2 (by simpa using h1) (by simpa using h2) hk
noncomputable def start (N:List Str) (vs:List V):St:=vs.map some++List.replicate (N.length - vs.length) none
noncomputable def qS (CX:vV) (P:Program) (w:World) (K:PySem.W.Frag) (mg:Str->Option Value) (base:Heap) (N:List Str) (qual:Str) (scope:Scope) (f:Addr) (cd:Value) (A:Around) (outer:List Env) (s:Shared) (H:Hp) (E:XK):Cx where
 prog:=P
 w:=w
 K:=K
 mg:=mg
 base:=base
 A:=A.deeper (envOfC qual scope s.heap.objs.size f cd)
 N:=N
 s₀:=s
 H₀:=H
 env:=envOfC qual scope s.heap.objs.size f cd
 outer:=outer
 stack:=envOfC qual scope s.heap.objs.size f cd::outer
 ex:=[]
 calm:=true
 fn:=λ_=>true
 pn:=[]
 xe:=λe s'=>wpAny (model P w) (A.deeper (envOfC qual scope s.heap.objs.size f cd)) (leaving (envOfC qual scope s.heap.objs.size f cd) e) (λ_ G6=>CX outer H s E e G6) (λe' G6=>CX outer H s E e' G6) s'
theorem pE {sc:Scope}{n:Nat}{x:Str} (h:sc.names.lookup x=some .cell): ∃c,(cellsFrom n sc.names []).lookup x=some c:=by
 have q:=PySem.W.cellsFrom_some sc.names n [] (.inl h)
 exact Option.isSome_iff_exists.mp q
theorem uw {CX:vV}{P:Program}{w:World}{K:PySem.W.Frag}{mg:Str->Option Value}{base:Heap}{N ps:List Str}{qual:Str}{scope:Scope}{f:Addr}{cd:Value}{A:Around}{outer:List Env}{s s1:Shared}{H:Hp}{E:XK}{us:List Value}{vs:List V}
  (S:aF N ps scope) (hd:A.handled=none) (e0:zw P w K mg base A outer s H) (hl:vs.length=ps.length) (r:aA vs us)
  (x:InCallC s s.heap.objs.size (bindL (envOfC qual scope s.heap.objs.size f cd).kindOf (ps.zip us) λ_=>none) (cellsFrom (s.heap.objs.size + 1) scope.names []) (bindC (envOfC qual scope s.heap.objs.size f cd).kindOf (ps.zip us) λ_=>none) s1):
  Inv (qS CX P w K mg base N qual scope f cd A outer s H E) [] (start N vs) H s1:=by
 have i7:ps.length<=N.length:=by have:=congrArg List.length S.pre; rw [List.length_take] at this; lia
 refine gu x.done λh1 tk af hk=>?_
 subst af
 have G7: ∀b:Addr,b∉(qS CX P w K mg base N qual scope f cd A outer s H E).ex :=λb z=>absurd (show b∈([]:List Addr) from z) (by simp)
 refine⟨⟨e0.mod,S.kind,rfl,rfl,Nat.le_refl _,λy z c h1 h2=>?_,λy hy=>?_,λy c _ h=>?_,λ_=>hd,Around.frames_deeper e0.frames,.inr ⟨rfl,rfl⟩,λb z=>absurd z (G7 b),e0.bs,e0.vK,λb _ _=>G7 b,λb z=>absurd z (G7 b),e0.kh,e0.FX⟩,
  rfl,e0.bare,Un.kept hk,⟨_,x.toInCall.ns,λi y v h1 h2 h3=>?_⟩,λy c h=>⟨_,x.cell y c h⟩,e0.aN.fresh (Nat.le_refl _),λy c h=>?_,λp hp=>absurd (show p∈([]:List (Addr×Obj)) from hp) (by simp),e0.aN.kept hk,?_⟩
 .exact name_of_addr x.apart (PySem.mem_of_lookup h1) (PySem.mem_of_lookup h2)
 .have hy:scope.names.lookup y=some .cell \/scope.names.lookup y=some .free :=hy
  rcases hy with hy|hy
  .exact pE hy
  .exact absurd rfl (S.DA _ (PySem.mem_of_lookup hy))
 .exact Nat.le_of_lt (x.above y c (PySem.mem_of_lookup h))
 .have hi:i < vs.length:=by
   unfold start at h2
   by_cases hi:i < vs.length
   .exact hi
   .rw [List.getElem?_append_right (by simpa using hi),List.getElem?_replicate] at h2
    split at h2 <;> cases h2
  have ha:vs[i]?=some v:=by
   unfold start at h2
   rw [List.getElem?_append_left (by simpa using hi),List.getElem?_map] at h2
   cases e:vs[i]? with
   |none=>rw [e] at h2; cases h2
   |some a=>rw [e] at h2; cases h2; rfl
  refine ae (r.get ha) λu hu rv=>?_
  have hp:ps[i]?=some y:=by
   rw [<-S.pre,List.getElem?_take_of_lt (by lia)]; exact h1
  have QT:ps.Nodup:=by rw [<-S.pre]; exact S.nd.sublist (List.take_sublist _ _)
  refine⟨u,rv,?_⟩
  rcases S.par y (List.mem_of_getElem? hp) with k|k
  .exact .inl ⟨k,mL QT hp hu k⟩
  .obtain⟨c,e⟩:=pE (n:=s.heap.objs.size + 1) k
   refine .inr ⟨.inl k,c,e,?_⟩
   have q:=x.cell y c e
   rw [mM QT hp hu (by show scope.names.lookup y≠_; rw [k]; decide)] at q
   exact q
 .exact e0.aN.fresh (Nat.le_of_lt (x.above y c (PySem.mem_of_lookup h)))
 .unfold start
  show _=N.length
  rw [List.length_append,List.length_map,List.length_replicate]
  lia
theorem G8 {CX:vV}{P:Program}{w:World}{K:PySem.W.Frag}{mg:Str->Option Value}{base:Heap}{k:Nat}{f:Addr}{name qual:Str}{params:Arguments}{body:List Stmt}{scope:Scope}{dV kV oV pm jB ct oc:Value}{an od:Option Addr}
  {B1:Array (Option Value)}{N ps:List Str}{sp:Sp} (lk:K.lookup f=some ⟨oc,od,.func (PySem.W.fnOf name qual params body scope dV kV oV pm an jB ct),B1⟩) (vN:PySem.W.codeIn K jB qual=true) (S:aF N ps scope)
  (len: ∀vs H Q E,sp vs H Q E->vs.length=ps.length)
  (vX: ∀(A:Around) (outer:List Env) (s:Shared) (H:Hp) (vs:List V) (Q:VK) (E:XK),dR k (A.deeper (envOfC qual scope s.heap.objs.size f jB))->sp vs H Q E->
   ∃t,jX (qS CX P w K mg base N qual scope f jB A outer s H E) body t/\t {nx:=λ_ H'=>Q .eK H',rt:=Q} (start N vs) H):
  g_ P w K mg base CX (k + 1) f (PySem.W.fnOf name qual params body scope dV kV oV pm an jB ct) ps sp:=by
 refine⟨len,λA outer s H args us vs Q E hr e0 hb r B3=>?_⟩
 have hl:=len _ _ _ _ B3
 have KX:K.In s.heap:=e0.mod.Ko.keeps λb o e=>(e0.bs b o e).1
 have lim:s.heap.NoLimit:=e0.mod.nolimit.keeps λb o e=>(e0.bs b o e).1
 have G9: ∀y∈ps.zip us,scope.names.lookup y.1=some .local \/(scope.names.lookup y.1=some .cell /\((cellsFrom (s.heap.objs.size + 1) scope.names []).lookup y.1).isSome =true):=λ⟨n,v⟩ hy=>by
  rcases S.par n (List.of_mem_zip hy).1 with q|q
  .exact .inl q
  .exact .inr ⟨q,PySem.W.cellsFrom_some _ _ _ (.inl q)⟩
 refine codeAny_call_function hr.depth (KX _ _ lk) rfl S.co S.gen rfl (PySem.W.codeRec_of KX vN) (hb _ _ _ _ ?_)
 refine wpAny_newFunctionEnv_cells S.kind G9 λenv he s1 x=>?_
 subst he
 refine⟨lim.keeps x.toInCall.keep,codeAny_func ?_⟩
 refine ae (vX A outer s H vs Q E (hr.deeper _) B3) λt ht hq=>?_
 have I:Inv (qS CX P w K mg base N qual scope f jB A outer s H E) [] (start N vs) H s1:=uw S hr.hd e0 hl r x
 refine wpAny_mono (ht [] s1 (start N vs) H _ I hq) (λfl s' hs=>?_) λe s' hs=>hs
 have fin: ∀{bR:St}{H':Hp}{v:V}{u:Value},Inv (qS CX P w K mg base N qual scope f jB A outer s H E) [] bR H' s'->RelV v u->Q v H'->CE outer P w H s Q u s':=
  λ{bR H' v u} J rv q=>⟨v,H',J.os,J.bare,J.base,J.aN,rv,q⟩
 cases fl with
 |ret u=>
  exact cG hs λv bR H' J rv q=>fin J rv q
 |next=>
  exact gu hs λbR H' J q=>fin (v:=V.eK) (u:=Value.none) J rfl q
 |brk=>
  exact gu hs λ_ _ _ q=>False.elim q
 |cont=>
  exact gu hs λ_ _ _ q=>False.elim q
end L2
namespace L2
open PySem PySem.Spec PyProof.Rows
section
variable {X:Cx}{x:Str}{p pos:Pos}{e:Expr}{es:List Expr}{t:TA}{id T:String}{r:List V->Hp->VK->Prop}
noncomputable def LQ (r:List V->Hp->VK->Prop) (t:TA):TE:=λσ H Q=>t σ H λvs H1=>r vs H1 Q
theorem fH (hc:cN X (.builtin id) r) (hg:Gl X x) (hm:X.mg x=none) (hv:bootBuiltins x=some (.builtin id)) (ha:PA X (e::es) t) (hn:x≠"__name__":=by decide) (yU:(x == ("__debug__":Str))=false:=by decide)
  (he:starEach (e::es) X.env=(false,eval e X.env)::starEach es X.env:=by rfl) (i7:(backTo pos (starEach es X.env)).any (·.1)=false:=by rfl):PE X (.Call (.Name x p) (e::es) [] pos) (LQ r t):=by
 intro U s σ H Q I h
 refine wpAny_Call_Name_kw (gJ I hg hm hv ?_ hn yU)
 exact PyProof.Rows.callWith_builtin1 (bz (ha pos U s σ H _ I h) λus s1 zz=>ba zz λvs H1 I1 r1 q1=>hc U s1 σ H1 vs us Q I1 r1 q1) he i7
theorem dX (hc:cN X (.type T) r) (hg:Gl X x) (hm:X.mg x=none) (hv:bootBuiltins x=some (.type T)) (ha:PA X (e::es) t) (hn:x≠"__name__":=by decide) (yU:(x == ("__debug__":Str))=false:=by decide)
  (he:starEach (e::es) X.env=(false,eval e X.env)::starEach es X.env:=by rfl) (i7:(backTo pos (starEach es X.env)).any (·.1)=false:=by rfl):PE X (.Call (.Name x p) (e::es) [] pos) (LQ r t):=by
 intro U s σ H Q I h
 refine wpAny_Call_Name_kw (gJ I hg hm hv ?_ hn yU)
 exact PyProof.Rows.callWith_type1 (bz (ha pos U s σ H _ I h) λus s1 zz=>ba zz λvs H1 I1 r1 q1=>hc U s1 σ H1 vs us Q I1 r1 q1) he i7
end
end L2
namespace HT
open PySem PyProof.Rows
noncomputable def lexLt:List Int->List Int->Bool
 |[],[]=>false
 |[],_::_=>true
 |_::_,[]=>false
 |x::xs,y::ys=>if x=y then lexLt xs ys else decide (x < y)
theorem qT (x y:Int) (xs ys:List Int):lexLt (x::xs) (y::ys)=if x=y then lexLt xs ys else decide (x < y):=rfl
theorem l_:lexLt [] []=false:=rfl
theorem ku (y:Int) (ys:List Int):lexLt [] (y::ys)=true:=rfl
theorem ky (x:Int) (xs:List Int):lexLt (x::xs) []=false:=rfl
theorem vY (A:Around) (s:Shared) (a:Int) (t:Tok) (c:Int) (u:Tok): ∃e,SeqAt.EqAt A s (.int a t) (.int c u) e/\(e=true↔a=c):=
 ⟨(a == c),SeqAt.EqAt.int_int a t c u,by simp⟩
theorem vZ (A:Around) (s:Shared) (a:Int) (t:Tok) (c:Int) (u:Tok) (prog:Program) (w:World) (E:Value->Shared->Prop) (Q:Value->Shared->Prop) (h:Q (.bool (decide (a < c))) s):
  wpAny (model prog w) A (richCompare .Lt (.int a t) (.int c u)) Q E s:=
 (PyProof.Rows.lt_int h:wpAny (model prog w) A (compareOp .Lt (.int a t) (.int c u)) Q E s)
section
open PySem.SeqAt
open PySem.AutoSeq1 (wpAny_loadPart')
open PySem.MeetsSeq PySem.MeetsSeq2 PySem.MeetsSeq3
theorem ma (l b:Addr) (items items2:Array Value) (n n2:Nat) (dd LR:Option Addr) (sl G_:Array (Option Value)) (ns ms:List Int) (hi:IntsAre items.toList ns) (hj:IntsAre items2.toList ms):
  Meets (Builtin.«tuple.__lt__» ⟨[.ref l,.ref b],[]⟩)
   (λ_ R s=>s.heap.get? l=some {cls:= .type "tuple",dict:=dd,data:= .seq items n,slots:=sl}/\s.heap.get? b=some {cls:= .type "tuple",dict:=LR,data:= .seq items2 n2,slots:=G_}/\
    R (.ok (.ret (.bool (lexLt ns ms)))) s):=
 .of_wp λprog w A R s h=>by
  obtain⟨hp,g,d,tk,os⟩:=s; obtain⟨hl,hb,h⟩:=h
  have f2:=AutoSeq1.sub_tuple_tuple
  have z1:items.size=ns.length:=by rw [<-hi.length]; simp
  have z2:items2.size=ms.length:=by rw [<-hj.length]; simp
  wp_walk using wpAny_loadPart' hl,wpAny_loadPart' hb,wpAny_forIn_list _ (λbL b s'=>b.1=none/\s'=⟨hp,g,d,tk,os⟩/\ ∃(vs ws:List Value) (lR FZ:List Int),bL=vs.zip ws/\
   IntsAre vs lR/\IntsAre ws FZ/\lR.length + items2.size=FZ.length + items.size/\R (.ok (.ret (.bool (lexLt lR FZ)))) ⟨hp,g,d,tk,os⟩) _
  case turn=>
   rintro⟨y,x⟩ bL b s' ⟨i8,rfl,vs,ws,lR,FZ,hz,LU,Kv,aL,hR⟩
   cases LU with
   |nil=>rw [List.zip_nil_left] at hz; cases hz
   |cons a t LV=>
    cases Kv with
    |nil=>rw [List.zip_nil_right] at hz; cases hz
    |cons c u LW=>
     rw [List.zip_cons_cons] at hz
     injection hz with Ha Hb
     injection Ha with hy hx
     subst hy hx
     rw [qT] at hR
     simp only [List.length_cons] at aL
     obtain⟨e,he,Hc⟩:=vY A.in1 ⟨hp,g,d,tk,os⟩ a t c u
     refine wpAny_bind (he prog w _ _ ?_)
     cases e with
     |true=>
      rw [if_pos (Hc.mp rfl)] at hR
      wp_walk
      exact⟨rfl,rfl,_,_,_,_,Hb,LV,LW,by lia,hR⟩
     |false=>
      rw [if_neg (λq=>absurd (Hc.mpr q) Bool.false_ne_true)] at hR
      have SI:=vZ A.in1 ⟨hp,g,d,tk,os⟩ a t c u prog w
      wp_walk using SI
      exact⟨_,rfl,by simpa using hR⟩
  case fin=>
   rintro⟨b1,b2⟩ s' ⟨i8,rfl,vs,ws,lR,FZ,hz,LU,Kv,aL,hR⟩
   simp only at i8
   subst i8
   have hv:lexLt lR FZ=decide (items.size < items2.size):=by
    cases LU with
    |nil=>
     cases Kv with
     |nil=>
      simp only [List.length_nil] at aL
      rw [l_]
      exact(decide_eq_false (by lia)).symm
     |cons c u hw=>
      simp only [List.length_nil,List.length_cons] at aL
      rw [ku]
      exact(decide_eq_true (by lia)).symm
    |cons a t hv=>
     cases Kv with
     |nil=>
      simp only [List.length_nil,List.length_cons] at aL
      rw [ky]
      exact(decide_eq_false (by lia)).symm
     |cons c u hw=>
      rw [List.zip_cons_cons] at hz
      cases hz
   rw [hv] at hR
   wp_walk
   exact⟨_,rfl,by simpa [Builtin.Tuple.tupleCompareSizes] using hR⟩
  case h=>
   exact⟨rfl,rfl,items.toList,items2.toList,ns,ms,rfl,hi,hj,by lia,h⟩
end
section
variable {prog:Program}{w:World}{A:Around}{E:Value->Shared->Prop}{s:Shared}
theorem qU (hl:IsTup s.heap l items) (hb:IsTup s.heap b items2) (hi:IntsAre items.toList ns) (hj:IntsAre items2.toList ms)
  (hu:A.units < cLine) (h:Q (.bool (lexLt ns ms)) s):wpAny (model prog w) A (compareOp .Lt (.ref l) (.ref b)) Q E s:=by
 refine ao λnO=>?_
 obtain⟨⟨cls,dd,data,sl⟩,ho,hc,n,hd⟩:=id hl
 obtain⟨⟨SJ,LR,data2,G_⟩,QU,QV,n2,qV⟩:=id hb
 refine nO ?_
 simp only at hc hd QV qV
 subst hc hd QV qV
 exact richCompare_meets_room (op:= .Lt) ⟨_,ho,rfl⟩ ⟨_,QU,rfl⟩ PySem.F.slot_tuple_lt PySem.F.entry_tuple_lt (PySem.F.args_tuple_lt_2 _ _) (ma l b items items2 n n2 dd LR sl G_ ns ms hi hj)
  ⟨ho,QU,show Value.bool (lexLt ns ms)≠Value.notImplemented/\Q (.bool (lexLt ns ms)) s from⟨(λx=>nomatch x),h⟩⟩ hu
noncomputable def cq (n d:Nat):Option Int->Nat
 |none=>d
 |some v=>if v < 0 then(v + (n:Int)).toNat else min v.toNat n
theorem DB (n d:Nat) (hd:d<=n) (o:Option Int):cq n d o<=n:=by
 cases o with
 |none=>exact hd
 |some v=>
  show(if v < 0 then(v + (n:Int)).toNat else min v.toNat n)<=n
  by_cases hv:v < 0
  .rw [if_pos hv]; lia
  .rw [if_neg hv]; exact Nat.min_le_right _ _
theorem nN (v:Int) (n d:Nat):(if v < 0 then max (v + (n:Int)) 0 else min v (n:Int))=((cq n d (some v):Nat):Int):=by
 show(if v < 0 then max (v + (n:Int)) 0 else min v (n:Int))=(((if v < 0 then(v + (n:Int)).toNat else min v.toNat n):Nat):Int)
 by_cases hv:v < 0
 .simp only [if_pos hv]; lia
 .simp only [if_neg hv]; lia
theorem qW (lo hi:Option Int) (n:Nat):Builtin.Slice.sliceAdjust lo hi 1 (n:Int)=(((cq n 0 lo:Nat):Int),((cq n n hi:Nat):Int)):=by
 have h1: ¬((1:Int) < 0):=by lia
 unfold Builtin.Slice.sliceAdjust
 simp only [h1,if_false]
 refine Prod.ext ?_ ?_
 .cases lo with
  |none=>rfl
  |some v=>exact nN v n 0
 .cases hi with
  |none=>rfl
  |some v=>exact nN v n n
theorem qX (i j:Nat):Builtin.Slice.slicePlaces (i:Int) (j:Int) 1=j - i:=by
 unfold Builtin.Slice.slicePlaces
 have h1:(1:Int) > 0:=by lia
 simp only [h1,if_true,Int.ediv_one]
 split <;> lia
theorem kz (p:IsPart v o) (h:Q o s):wpAny (model prog w) A (Builtin.Slice.slicePartIndex v) Q E s:=by
 cases p with
 |none=>exact slicePart_none h
 |int i t=>exact slicePart_int h
theorem dY {sl:Addr}{vl vu:Value}{lo hi:Option Int}{n:Nat}{Q:Int×Int×Nat->Shared->Prop} (hs:s.heap.IsSliceOf sl vl vu .none) (pl:IsPart vl lo) (pu:IsPart vu hi)
  (h:Q (((cq n 0 lo:Nat):Int),1,cq n n hi - cq n 0 lo) s):wpAny (model prog w) A (Builtin.Slice.sliceApplied (.ref sl) (pure (n:Int))) Q E s:=by
 refine bA (id hs) λos DC gX Hd=>?_
 unfold Builtin.Slice.sliceApplied Builtin.Slice.sliceFields
 refine wpAny_bind (wpAny_bind (wpAny_field DC Hd (x:=vl) rfl (wpAny_bind (wpAny_field DC Hd (x:=vu) rfl (wpAny_bind (wpAny_field DC Hd (x:= .none) rfl (wpAny_pure ?_)))))))
 refine wpAny_bind (slicePart_none ?_)
 show wpAny _ _ (if((1:Int) == 0)=true then _ else _) _ _ s
 rw [if_neg (by decide)]
 refine wpAny_bind (kz pl (wpAny_bind (kz pu (wpAny_bind (wpAny_pure ?_)))))
 show wpAny _ _ (match Builtin.Slice.sliceAdjust lo hi 1 (n:Int) with|(lo,hi)=>pure (lo,(1:Int),Builtin.Slice.slicePlaces lo hi 1)) _ _ s
 rw [qW lo hi n]
 show wpAny _ _ (pure (((cq n 0 lo:Nat):Int),(1:Int),Builtin.Slice.slicePlaces ((cq n 0 lo:Nat):Int) ((cq n n hi:Nat):Int) 1)) _ _ s
 rw [qX]
 exact wpAny_pure h
theorem v5 (xs:Array Value) (i k:Nat):((List.range k).filterMap λ(m:Nat)=>xs[((i:Int) + (m:Int) * 1).toNat]?).toArray =((xs.toList.drop i).take k).toArray :=by
 have e:(λ(m:Nat)=>xs[((i:Int) + (m:Int) * 1).toNat]?)=λm=>xs[i + m]?:=by
  funext m
  have:((i:Int) + (m:Int) * 1).toNat =i + m:=by lia
  rw [this]
 rw [e]
 have:=pick_run xs i k
 rw [List.filterMap_map] at this
 have e2:((λx=>xs[x]?) ∘ λx=>i + x)=λm=>xs[i + m]?:=rfl
 rw [e2] at this
 rw [this]
theorem hJ {t sl:Addr}{items:Array Value}{vl vu:Value}{lo hi:Option Int}{Q:Value->Shared->Prop} (ht:IsTup s.heap t items) (hs:s.heap.IsSliceOf sl vl vu .none) (pl:IsPart vl lo) (pu:IsPart vu hi)
  (hw: ¬(cq items.size 0 lo=0/\cq items.size items.size hi=items.size))
  (h:Q (.ref s.heap.objs.size) {s with heap:=s.heap.push {cls:= .type "tuple",data:= .seq ((items.toList.drop (cq items.size 0 lo)).take (cq items.size items.size hi - cq items.size 0 lo)).toArray}})
  (hsz:items.size<=sizeLine):wpAny (model prog w) A (getItem (.ref t) (.ref sl)) Q E s:=by
 have sh:sizeOk (.seq ((items.toList.drop (cq items.size 0 lo)).take (cq items.size items.size hi - cq items.size 0 lo)).toArray):=by
  show((items.toList.drop (cq items.size 0 lo)).take (cq items.size items.size hi - cq items.size 0 lo)).toArray.size <=sizeLine
  rw [List.size_toArray,List.length_take,List.length_drop,Array.length_toList]
  lia
 have hj:cq items.size items.size hi<=items.size:=DB _ _ (Nat.le_refl _) hi
 refine bA (id hs) λos DC gX Hd=>?_
 have zy:s.TypeIs (.ref sl) "slice":=⟨os,DC,gX⟩
 unfold getItem
 try with_reducible refine wpAny_holding ?_
 first|refine wpAny_bind (wpAny_pure ?_)|skip
 refine wpAny_bind (wpAny_sequenceKey ht.typeIs (by decide) ?_)
 refine wpAny_bind (wpAny_callSpecial?_slot (name:=Str.ofString "__getitem__") ht.typeIs PyProof.Rows.slot_tuple_getitem
  (wpAny_call_entry PyProof.Rows.slot_tuple_getitem ht.typeIs entry_tuple_getitem ?_ (args_tuple_getitem _ _)))
 show wpAny _ _ (Builtin.Tuple.tupleItemsOf (.ref t) >>= _) _ _ s
 refine wpAny_bind (tupleItemsOf_ ht ?_)
 refine wpAny_bind (wpAny_typeOf zy ?_)
 rw [if_pos (by decide)]
 refine wpAny_bind (dY hs pl pu ?_)
 have vB: ¬((((cq items.size 0 lo:Nat):Int) == 0 && (1:Int) == 1 && (cq items.size items.size hi - cq items.size 0 lo) == items.size)=true):=by
  intro q
  rw [Bool.and_eq_true,Bool.and_eq_true] at q
  have q1:((cq items.size 0 lo:Nat):Int)=0:=eq_of_beq q.1.1
  have q2:cq items.size items.size hi - cq items.size 0 lo=items.size:=eq_of_beq q.2
  exact hw ⟨by lia,by lia⟩
 show wpAny _ _ (if(((cq items.size 0 lo:Nat):Int) == 0 && (1:Int) == 1 && (cq items.size items.size hi - cq items.size 0 lo) == items.size)=true then _ else _) _ _ s
 rw [if_neg vB,v5]
 first
  |exact wpAny_bind (m:=Builtin.Tuple.tupleExact _) (wpAny_newObj_type (wpAny_pure ⟨_,rfl,wpAny_pure h⟩) sh)
  |exact wpAny_bind (m:=Builtin.Tuple.tupleExact _) (wpAny_newObj_type (wpAny_bind (wpAny_pure (wpAny_pure ⟨_,rfl,wpAny_pure h⟩))) sh)
  |exact wpAny_bind (wpAny_bind (m:=Builtin.Tuple.tupleExact _) (wpAny_newObj_type (wpAny_pure (wpAny_pure ⟨_,rfl,wpAny_pure h⟩)) sh))
  |exact wpAny_bind (wpAny_bind (m:=Builtin.Tuple.tupleExact _) (wpAny_newObj_type (wpAny_pure ⟨_,rfl,wpAny_pure h⟩) sh))
end
end HT
namespace L2
open PySem PySem.Spec PyProof.Rows
noncomputable abbrev TO:=St->Hp->(Option Int->Hp->Prop)->Prop
noncomputable def PO (X:Cx) (e:Option Expr) (t:TO):Prop:=
 ∀(U:List (Addr×Obj)) (s:Shared) (σ:St) (H:Hp) (Q:Option Int->Hp->Prop),Inv X U σ H s->t σ H Q->
  wpAny (model X.prog X.w) X.A (evalPart e X.env) (λu s'=> ∃o H',Inv X U σ H' s'/\IsPart u o/\Q o H') X.xe s
noncomputable def zA:TO:=λ_ H Q=>Q none H
noncomputable def He (t:TE):TO:=λσ H Q=>t σ H λx H1=> ∃i,x= .int i/\Q (some i) H1
theorem intsAre_of: ∀{us:List Value},aA (ns.map V.int) us->IntsAre us ns:=by
 induction ns with
 |nil=>intro us r; rw [List.map_nil] at r; cases r; exact .nil
 |cons n ns ih=>
  intro us r
  rw [List.map_cons] at r
  cases r with
  |cons r1 r2=>
   obtain⟨t,e⟩:=r1
   subst e
   exact .cons n t (ih r2)
section
variable {X:Cx}{e:Expr}{te:TE}{lo hi:Option Expr}{tl th:TO}{pos p2:Pos}
theorem zB:PO X none zA:=by
 intro U s σ H Q I h
 rw [evalPart_none]
 exact wpAny_pure ⟨none,H,I,.none,h⟩
theorem zC (h:PE X e te):PO X (some e) (He te):=by
 intro U s σ H Q I hw
 rw [evalPart_some]
 refine bz (h U s σ H _ I hw) λu s1 zz=>ba zz λx H1 I1 r1 q1=>ae q1 λi af q=>?_
 try clear q1
 subst af
 obtain⟨t,rfl⟩:=r1
 exact⟨some i,H1,I1,.int i t,q⟩
noncomputable def yV (X:Cx) (r:V->Option Int->Option Int->Hp->VK->Prop):Prop:=
 ∀(U:List (Addr×Obj)) (s:Shared) (σ:St) (H:Hp) (x:V) (v vl vu:Value) (lo hi:Option Int) (sl:Addr) (Q:VK),Inv X U σ H s->RelV x v->s.heap.IsSliceOf sl vl vu .none ->IsPart vl lo->IsPart vu hi->r x lo hi H Q->
  ∃T id,typeLookup (.type T) "__getitem__"=pure (some (.builtin id))/\s.TypeIs v T/\wpAny (model X.prog X.w) X.A (getItem v (.ref sl)) (EP X U σ Q) X.xe s
theorem yV.or (h:yV X r) (h':yV X r'):yV X (λx lo hi H Q=>r x lo hi H Q\/r' x lo hi H Q):=by
 intro U s σ H x v vl vu lo hi sl Q I rx hs pl pu q
 rcases q with q|q
 .exact h U s σ H x v vl vu lo hi sl Q I rx hs pl pu q
 .exact h' U s σ H x v vl vu lo hi sl Q I rx hs pl pu q
noncomputable def SK (r:V->Option Int->Option Int->Hp->VK->Prop) (te:TE) (tl th:TO):TE:=λσ H Q=>te σ H λx H1=>tl σ H1 λl H2=>th σ H2 λu H3=>r x l u H3 Q
theorem pF (hr:yV X r) (he:PE X e te) (hl:PO X lo tl) (hu:PO X hi th):PE X (.Subscript e (.Slice lo hi none p2) pos) (SK r te tl th):=by
 intro U s σ H Q I h
 refine Subscript_ (bz (he U s σ H _ I h) λv s1 zz=>?_)
 refine ba zz λx H1 I1 r1 q1=>wpAny_Slice (bz (hl U s1 σ H1 _ I1 q1) λvl s2 zz=>ba zz λl H2 I2 pl q2=>bz (hu U s2 σ H2 _ I2 q2) λvu s3 zz=>?_)
 refine ba zz λu H3 I3 pu q3=>?_
 rw [evalPart_none]
 refine wpAny_pure ?_
 have I4:Inv X U σ H3 {s3 with heap:=s3.heap.push {cls:= .type "slice",data:= .fields #[vl,vu,.none]}}:=I3.kept (t':=s3.toks) λb ob q=>Heap.get?_push_of_some _ q
 refine ba (hr U {s3 with heap:=s3.heap.push {cls:= .type "slice",data:= .fields #[vl,vu,.none]}} σ H3 x v vl vu l u s3.heap.objs.size Q I4 r1 (Heap.IsSliceOf.new ..) pl pu q3) λT id hT ht hg=>?_
 show wpAny (model X.prog X.w) X.A (subscriptTail e (.Slice lo hi none p2) v (.ref s3.heap.objs.size)) (EP X U σ Q) X.xe {s3 with heap:=s3.heap.push {cls:= .type "slice",data:= .fields #[vl,vu,.none]}}
 exact tail_any (ops:=[.ref s3.heap.objs.size,v]) ht hT hg (by with_unfolding_all rfl)
noncomputable def pG (xs:List V) (lo hi:Option Int):List V:=(xs.drop (HT.cq xs.length 0 lo)).take (HT.cq xs.length xs.length hi - HT.cq xs.length 0 lo)
theorem jC (xs:List V) (lo hi:Option Int):(pG xs lo hi).length <=xs.length:=by
 unfold pG
 rw [List.length_take,List.length_drop]
 lia
noncomputable def Hf (K:PySem.W.Frag):V->Option Int->Option Int->Hp->VK->Prop:=λx lo hi H Q=> ∃a xs,x= .ref a/\dh K H a xs/\
 ¬(HT.cq xs.length 0 lo=0/\HT.cq xs.length xs.length hi=xs.length)/\ ∀p,H p=none->Q (.ref p) (upd H p (.tup (pG xs lo hi)))
theorem DD:yV X (Hf X.K):=by
 intro U s σ H x v vl vu lo hi sl Q I rx hs pl pu h
 refine fW h λa xs af hx hw q=>?_
 try clear h
 subst af
 cases rx
 refine bA (I.tuple hx) λits r ht hz=>?_
 have aL:its.toArray.size=xs.length:=by rw [List.size_toArray]; exact r.length.symm
 refine⟨"tuple",_,PyProof.Rows.slot_tuple_getitem.lookup,ht.typeIs,?_⟩
 refine HT.hJ ht hs pl pu (by rw [aL]; exact hw) ?_ (by rw [aL]; exact hz)
 rw [aL]
 refine⟨.ref s.heap.objs.size,_,I.laid (t':=s.toks) (o:= .tup (pG xs lo hi)) (λb ob q=>Heap.get?_push_of_some _ q) (Nat.le_refl _) ?_,rfl,q _ (I.aN.fresh (Nat.le_refl _))⟩
 exact⟨Nat.le_trans (jC xs lo hi) hz,_,(r.drop (HT.cq xs.length 0 lo)).take (HT.cq xs.length xs.length hi - HT.cq xs.length 0 lo),i5.new _ _⟩
end
end L2
namespace L2
open PySem PySem.Spec PyProof.Rows
noncomputable def F_ (n:Nat) (i:Int):Option Nat:=if 0<=i then(if i < n then some i.toNat else none) else if -(n:Int)<=i then some (i + n).toNat else none
noncomputable def B4 {α:Type} (xs:List α) (i:Int):Option α:=(F_ xs.length i).bind λj=>xs[j]?
theorem sj (h:F_ n i=some j):seqIndex? i n=some j/\j < n/\ -(n:Int)<=i/\i < n:=by
 unfold F_ at h
 by_cases h0:0<=i
 .rw [if_pos h0] at h
  by_cases h1:i < n
  .rw [if_pos h1] at h
   have e:i.toNat=j:=Option.some.inj h
   exact⟨by rw [seqIndex_of h0 h1,e],by lia,by lia,h1⟩
  .rw [if_neg h1] at h; cases h
 .rw [if_neg h0] at h
  by_cases h1: -(n:Int)<=i
  .rw [if_pos h1] at h
   have e:(i + n).toNat =j:=Option.some.inj h
   exact⟨by rw [seqIndex_neg (by lia) h1,e],by lia,h1,by lia⟩
  .rw [if_neg h1] at h; cases h
theorem sk (h:B4 xs i=some v): ∃j,seqIndex? i xs.length=some j/\xs[j]?=some v/\j < xs.length/\ -(xs.length:Int)<=i/\i < xs.length:=by
 unfold B4 at h
 cases e:F_ xs.length i with
 |none=>rw [e] at h; cases h
 |some j=>
  rw [e] at h
  exact yR (sj e) λh1 h2 h3 h4=>⟨j,h1,h,h2,h3,h4⟩
noncomputable def nP (b:Expr):Prop:= ∀o i,subscripted b false o i=operate [o,i] (getItem o i)
noncomputable def DE (X:Cx) (r:R2):Prop:=
 ∀(value slice:Expr) (U:List (Addr×Obj)) (s:Shared) (σ:St) (H:Hp) (x y:V) (v u:Value) (Q:VK),Inv X U σ H s->RelV x v->RelV y u->r x y H Q->
  subscripted slice false v u=operate [v,u] (getItem v u)->wpAny (model X.prog X.w) X.A (subscriptTail value slice v u) (EP X U σ Q) X.xe s
noncomputable def Kw (X:Cx) (id:String) (r:V->List V->Hp->VK->Prop):Prop:=
 ∀(U:List (Addr×Obj)) (s:Shared) (σ:St) (H:Hp) (x:V) (xs:List V) (v:Value) (us:List Value) (Q:VK),Inv X U σ H s->RelV x v->aA xs us->r x xs H Q->
  wpAny (model X.prog X.w) X.A (call (.builtin id) (v::us)) (EP X U σ Q) X.xe s
section
variable {X:Cx}{a b:Expr}{ta tb:TE}{pos:Pos}
theorem DE.or (h:DE X r) (h':DE X r'):DE X (λx y H Q=>r x y H Q\/r' x y H Q):=by
 intro value slice U s σ H x y v u Q I rx ry q hs
 rcases q with q|q
 .exact h value slice U s σ H x y v u Q I rx ry q hs
 .exact h' value slice U s σ H x y v u Q I rx ry q hs
theorem B5 (hr:DE X r) (ha:PE X a ta) (hb:PE X b tb) (hs:nP b):PE X (.Subscript a b pos) (B0 r ta tb):=by
 intro U s σ H Q I h
 exact Subscript_ (Dq ha hb I h λv u s2 x y H2 I2 rx ry q=>hr a b U s2 σ H2 x y v u Q I2 rx ry q (hs _ _))
noncomputable def zD (K:PySem.W.Frag):R2:=λx y H Q=> ∃p xs i v,x= .ref p/\y= .int i/\dg K H p xs/\B4 xs i=some v/\Q v H
noncomputable def LX (K:PySem.W.Frag):R2:=λx y H Q=> ∃p xs i v,x= .ref p/\y= .int i/\dh K H p xs/\B4 xs i=some v/\Q v H
theorem so:DE X (zD X.K):=by
 intro value slice U s σ H x y v u Q I rx ry h hs
 refine ao λnO=>qK h λp xs i z af aO hq he q=>?_
 try clear h
 subst af
 subst aO
 cases rx
 obtain⟨t,rfl⟩:=ry
 refine bA (I.list hq) λits r pl hz=>FV (sk he) λj h1 h2 h3 h4 h5=>ae (r.get h2) λw ew v8=>nO ?_
 have hl:=r.length
 have hn:=kq
 have fin:EP X U σ Q w s:=⟨z,H,I,v8,q⟩
 by_cases h0:0<=i
 .have hj:i.toNat=j:=by
   rw [seqIndex_of h0 h5] at h1
   exact Option.some.inj h1
  exact item_listR pl.isList h0 (by lia) (by rw [hj]; simpa using ew) fin hs
 .have hj:(i + (its.toArray.size:Int)).toNat =j:=by
   rw [seqIndex_neg (by lia) h4] at h1
   rw [List.size_toArray,<-hl]
   exact Option.some.inj h1
  exact subscriptTail_builtinR (x:=w) pl.isList.typeIs slot_list_getitem.lookup
   (wpAny_getItem_list_neg (Q:=λr s'=>r=w/\EP X U σ Q r s') pl.isList (by lia) (by rw [List.size_toArray] <;> lia) (by lia) (by rw [hj]; simpa using ew) ⟨rfl,fin⟩) hs
theorem DF:DE X (LX X.K):=by
 intro value slice U s σ H x y v u Q I rx ry h hs
 refine ao λnO=>qK h λp xs i z af aO hq he q=>?_
 try clear h
 subst af
 subst aO
 cases rx
 obtain⟨t,rfl⟩:=ry
 refine bA (I.tuple hq) λits r pl hz=>FV (sk he) λj h1 h2 h3 h4 h5=>ae (r.get h2) λw ew v8=>nO ?_
 have hl:=r.length
 have hn:=kq
 have fin:EP X U σ Q w s:=⟨z,H,I,v8,q⟩
 exact subscriptTail_builtinR (x:=w) pl.typeIs slot_tuple_getitem.lookup
  (getItem_tuple (j:=j) (Q:=λr s'=>r=w/\EP X U σ Q r s') pl (by lia) (by lia) (by rw [List.size_toArray,<-hl]; exact h1) (by simpa using ew) ⟨rfl,fin⟩) hs
theorem qY (its:List Value) (n j:Nat) (u:Value):Obj.mapSeq (·.setIfInBounds j u) {cls:= .type "list",data:= .seq its.toArray n}={cls:= .type "list",data:= .seq (its.set j u).toArray n}:=by
 simp [Obj.mapSeq]
theorem Inv.lst {U:List (Addr×Obj)}{σ:St}{H:Hp}{s:Shared}{p:Addr}{xs:List V} (I:Inv X U σ H s) (h:H p=some (.lst xs)):
  ∃(its:List Value) (n:Nat),aA xs its/\s.heap.get? p=some {cls:= .type "list",data:= .seq its.toArray n}/\xs.length<=sizeLine:=by
 refine ao λnO=>?_
 obtain⟨z,its,n,r,e⟩:=I.aN p _ h
 exact nO <| ⟨its,n,r,e,z⟩
theorem Inv.DG {U:List (Addr×Obj)}{σ:St}{H:Hp}{s:Shared}{p:Addr}{xs ys:List V}{its its':List Value}{n n':Nat}{f:Obj->Obj} (I:Inv X U σ H s) (h:H p=some (.lst xs))
  (ho:s.heap.get? p=some {cls:= .type "list",data:= .seq its.toArray n}) (hf:f {cls:= .type "list",data:= .seq its.toArray n}={cls:= .type "list",data:= .seq its'.toArray n'}) (r:aA ys its') (hz:ys.length<=sizeLine) (t:Nat):
  Inv X U σ (upd H p (.lst ys)) {s with heap:=s.heap.update p f,toks:=t}:=by
 have e:(s.heap.update p f).get? p=some {cls:= .type "list",data:= .seq its'.toArray n'}:=by
  rw [Heap.get?_update_self f ho (by rw [hf] <;> rfl),hf]
 exact I.write (x:=p) (e:=p) (by rw [h]; trivial) (.inl rfl) (λb u hb q=>(Heap.get?_update_other _ _ (Ne.symm hb)).trans q) ⟨_,e⟩ <| ⟨hz,its',n',r,e⟩
noncomputable def Hg:V->V->V->Hp->(Hp->Prop)->Prop:=λo i v H Q=> ∃p xs k j,o= .ref p/\i= .int k/\H p=some (.lst xs)/\F_ xs.length k=some j/\Q (upd H p (.lst (xs.set j v)))
theorem v_:GU X Hg:=by
 intro U s σ H o i v ov iv u Q I ro ri rv h
 refine ao λnO=>qK h λp xs k j af aO hp hj q=>?_
 try clear h
 subst af
 subst aO
 cases ro
 obtain⟨t,rfl⟩:=ri
 refine ba (I.lst hp) λits n r ho hz=>yR (sj hj) λh1 h2 h3 h4=>nO ?_
 have hl:=r.length
 have hn:=kq
 have I':Inv X U σ (upd H p (.lst (xs.set j v))) {s with heap:=s.heap.update p (Obj.mapSeq (·.setIfInBounds j u))}:=
  I.DG hp ho (qY its n j u) (r.set rv j) (by rw [List.length_set]; exact hz) s.toks
 by_cases h0:0<=k
 .have hk:k.toNat=j:=by
   rw [seqIndex_of h0 h4] at h1
   exact Option.some.inj h1
  exact PySem.W.ki_setAt ho h0 (by lia) (by rw [List.size_toArray,<-hl]; exact h4) (by rw [hk]; exact⟨_,I',q⟩)
 .have hk:(k + (its.toArray.size:Int)).toNat =j:=by
   rw [seqIndex_neg (by lia) h3] at h1
   rw [List.size_toArray,<-hl]
   exact Option.some.inj h1
  exact PySem.W.ki_setBack ho (by lia) (by rw [List.size_toArray,<-hl]; exact h3) (by lia) (by rw [hk]; exact⟨_,I',q⟩)
theorem nQ (lo hi:Option Int) (n:Nat):(sliceBounds lo hi none n).1 =((HT.cq n 0 lo:Nat):Int)/\(sliceBounds lo hi none n).2.1 =((HT.cq n n hi:Nat):Int)/\(sliceBounds lo hi none n).2.2 =1:=by
 refine⟨?_,?_,rfl⟩
 .cases lo with
  |none=>simp [sliceBounds,HT.cq]
  |some i=>
   simp only [sliceBounds,HT.cq,Option.getD_none,show(1:Int) > 0 by decide,if_true]
   by_cases h:i < 0
   .simp only [h,if_true] <;> lia
   .simp only [h,if_false] <;> lia
 .cases hi with
  |none=>simp [sliceBounds,HT.cq]
  |some i=>
   simp only [sliceBounds,HT.cq,Option.getD_none,show(1:Int) > 0 by decide,if_true]
   by_cases h:i < 0
   .simp only [h,if_true] <;> lia
   .simp only [h,if_false] <;> lia
theorem md (its:List Value) (lo hi:Option Int):slicePick its.toArray lo hi none=((its.drop (HT.cq its.length 0 lo)).take (HT.cq its.length its.length hi - HT.cq its.length 0 lo)).toArray :=by
 refine cK (nQ lo hi its.toArray.size) λh1 h2 h3=>?_
 unfold slicePick
 rw [h1,h2,h3]
 simp only [sliceRange_one,pick_run,List.size_toArray] <;> rfl
noncomputable def LY (K:PySem.W.Frag):V->Option Int->Option Int->Hp->VK->Prop:=λx lo hi H Q=> ∃a xs,x= .ref a/\dg K H a xs/\ ∀p,H p=none->Q (.ref p) (upd H p (.lst (pG xs lo hi)))
theorem sq:yV X (LY X.K):=by
 intro U s σ H x v vl vu lo hi sl Q I rx hs pl pu h
 refine ba h λa xs af hx q=>?_
 try clear h
 subst af
 cases rx
 refine bA (I.list hx) λits r ht hz=>?_
 have aL:=r.length
 refine⟨"list",_,slot_list_getitem.lookup,ht.isList.typeIs,?_⟩
 refine wpAny_getItem_list_slice ht.isList hs pl pu .none (by simp) ?_ (by rw [List.size_toArray] <;> lia)
 rw [md,<-aL]
 refine⟨.ref s.heap.objs.size,_,I.laid (t':=s.toks) (o:= .lst (pG xs lo hi)) (λb ob q=>Heap.get?_push_of_some _ q) (Nat.le_refl _) ?_,rfl,q _ (I.aN.fresh (Nat.le_refl _))⟩
 exact⟨Nat.le_trans (jC xs lo hi) hz,_,0,(r.drop (HT.cq xs.length 0 lo)).take (HT.cq xs.length xs.length hi - HT.cq xs.length 0 lo),Heap.get?_push_size _ rfl⟩
theorem nR:cN X (.builtin "len") (λxs H Q=> ∃p ys,xs=[.ref p]/\(dg X.K H p ys\/dh X.K H p ys)/\Q (.int ys.length) H):=by
 intro U s σ H xs us Q I r h
 refine ba h λp ys af hq q=>?_
 try clear h
 subst af
 refine ae (vals1 r) λu aO rx=>?_
 subst aO
 cases rx
 have hn:=kq
 rcases hq with hq|hq
 .refine bA (I.list hq) λits r' pl hz=>?_
  have aL:=r'.length
  exact Calls.call_len_list pl.isList (by simp only [List.size_toArray] <;> lia) ⟨.int ys.length,H,I.tok _,⟨s.toks + 1,by rw [List.size_toArray,aL]⟩,q⟩
 .refine bA (I.tuple hq) λits r' pl hz=>?_
  have aL:=r'.length
  exact len_tuple pl (by simp only [List.size_toArray] <;> lia) ⟨.int ys.length,H,I.tok _,⟨s.toks + 1,by rw [List.size_toArray,aL]⟩,q⟩
theorem cN.or (h:cN X f r) (h':cN X f r'):cN X f (λxs H Q=>r xs H Q\/r' xs H Q):=by
 intro U s σ H xs us Q I rs q
 rcases q with q|q
 .exact h U s σ H xs us Q I rs q
 .exact h' U s σ H xs us Q I rs q
theorem hU:cN X (.type "list") (λxs H Q=> ∃p ys,xs=[.ref p]/\(dg X.K H p ys\/dh X.K H p ys)/\ ∀l,H l=none->Q (.ref l) (upd H l (.lst ys))):=by
 intro U s σ H xs us Q I r h
 refine ao λnO=>ba h λp ys af hq q=>?_
 try clear h
 subst af
 refine ae (vals1 r) λu aO rx=>?_
 subst aO
 cases rx
 refine nO ?_
 have fin: ∀(its:List Value),aA ys its->ys.length<=sizeLine-> ∀(h':Heap) (c':Nat),(∀b o',s.heap.get? b=some o'->h'.get? b=some o')->
   h'.get? s.heap.objs.size=some {cls:= .type "list",dict:=none,data:= .seq its.toArray c',slots:=#[]}->EP X U σ Q (.ref s.heap.objs.size) {s with heap:=h'}:=λits r' hz h' c' kp e=>
  ⟨.ref s.heap.objs.size,_,I.laid (t':=s.toks) kp (Nat.le_refl _) (show aP X.prog X.w _ h' _ (.lst ys) from⟨hz,its,c',r',e⟩),rfl,q _ (I.aN.fresh (Nat.le_refl _))⟩
 rcases hq with hq|hq
 .refine ao λnO=>bA (I.list hq) λits r' pl hz=>?_
  have aL:=r'.length
  obtain⟨o,ho,hc,n,hd⟩:=pl.isList
  exact nO <| call_list_seq p (.inl rfl) ho hc hd (λh' c' kp e=>fin its r' hz h' c' kp e) (by simp only [List.size_toArray] <;> lia)
 .refine ao λnO=>bA (I.tuple hq) λits r' pl hz=>?_
  have aL:=r'.length
  obtain⟨o,ho,hc,n,hd⟩:=pl
  exact nO <| call_list_seq p (.inr rfl) ho hc hd (λh' c' kp e=>fin its r' hz h' c' kp e) (by simp only [List.size_toArray] <;> lia)
theorem me:cN X (.type "tuple") (λxs H Q=> ∃p ys,xs=[.ref p]/\((dg X.K H p ys/\ ∀l,H l=none->Q (.ref l) (upd H l (.tup ys)))\/(dh X.K H p ys/\Q (.ref p) H))):=by
 intro U s σ H xs us Q I r h
 refine ao λnO=>?_
 obtain⟨p,ys,rfl,h⟩:=h
 obtain⟨u,rfl,rx⟩:=vals1 r
 cases rx
 refine nO ?_
 rcases h with ⟨hq,q⟩|⟨hq,q⟩
 .refine ao λnO=>?_
  obtain⟨its,r',pl,hz⟩:=I.list hq
  refine nO ?_
  have aL:=r'.length
  refine call_tuple_list pl.isList (λh' kp=>?_) (by simp only [List.size_toArray] <;> lia)
  have I1:Inv X U σ H {s with heap:=h'}:=I.kept (t':=s.toks) kp
  have I2:Inv X U σ (upd H h'.objs.size (.tup ys)) {s with heap:=h'.push {cls:= .type "tuple",data:= .seq its.toArray}}:=
   I1.laid (t':=s.toks) (λb o e=>Heap.get?_push_of_some _ e) (Nat.le_refl _) (show aP X.prog X.w _ _ _ (.tup ys) from⟨hz,its,r',i5.new _ _⟩)
  exact⟨.ref h'.objs.size,_,I2,rfl,q _ (I1.aN.fresh (Nat.le_refl _))⟩
 .refine ao λnO=>?_
  obtain⟨its,r',pl,hz⟩:=I.tuple hq
  exact nO <| call_tuple_same pl ⟨.ref p,H,I,rfl,q⟩
noncomputable def LZ (K:PySem.W.Frag) (T:String) (x:V) (H:Hp):Prop:=match x with
 | .str _=>T="str"
 | .int _=>T="int"
 | .ref p=>(T="list"/\ ∃xs,dg K H p xs)\/(T="tuple"/\ ∃o,K.lookup p=some o/\o.cls= .type "tuple"/\o.dict=none)\/
   (T="dict"/\((∃aw,H p=some (.dK aw))\/ ∃aw,H p=some (.dT aw)))\/(T="set"/\ ∃S n,H p=some (.set S n))
 |_=>False
theorem wa (I:Inv X U σ H s) (r:RelV x v) (ty:LZ X.K T x H):
  s.TypeIs v T/\ ∀a,v= .ref a-> ∃ob,s.heap.get? a=some ob/\ob.dict=none:=by
 cases x with
 |str z=>
  obtain⟨t,rfl⟩:=r
  cases (show T="str" from ty)
  exact⟨typeIs_str s z t,λ_ e=>nomatch e⟩
 |int i=>
  obtain⟨t,rfl⟩:=r
  cases (show T="int" from ty)
  exact⟨typeIs_int s i t,λ_ e=>nomatch e⟩
 |ref p=>
  cases r
  rcases ty with ⟨rfl,xs,hq⟩|⟨rfl,o,hk,hc,hd⟩|⟨rfl,hk⟩|⟨rfl,S,n,hk⟩
  .refine bA (I.list hq) λits _ pl _=>⟨pl.isList.typeIs,λa e=>?_⟩
   cases e
   exact fW pl λo n e c hd _=>⟨o,e,hd⟩
  .refine⟨⟨o,I.BW p o hk,hc⟩,λa e=>?_⟩
   cases e
   exact⟨o,I.BW _ o hk,hd⟩
  .have z: ∃o,s.heap.get? p=some o/\o.ExactDict:=by
    rcases hk with ⟨aw,hk⟩|⟨aw,hk⟩
    .obtain⟨_,_,_,_,o,_,_,e,ex,_⟩:=I.aN p _ hk
     exact⟨o,e,ex⟩
    .obtain⟨_,_,_,_,o,_,_,e,ex,_⟩:=I.aN p _ hk
     exact⟨o,e,ex⟩
   refine ae z λo e ex=>⟨⟨o,e,ex.1⟩,λa e2=>?_⟩
   cases e2
   exact⟨o,e,ex.2.1⟩
  .refine CS (I.aN p _ hk) λo _ _ _ e ex _=>⟨⟨o,e,ex.1⟩,λa e2=>?_⟩
   cases e2
   exact⟨o,e,ex.2.1⟩
 |_=>exact False.elim ty
noncomputable def L4 (K:PySem.W.Frag) (T:String) (r:V->List V->Hp->VK->Prop) (to:TE):TE:=λσ H Q=>to σ H λx H1=>LZ K T x H1/\r x [] H1 Q
noncomputable def Kx (K:PySem.W.Frag) (T:String) (r:V->List V->Hp->VK->Prop) (to:TE) (t:TA):TE:=λσ H Q=>to σ H λx H1=>LZ K T x H1/\t σ H1 λxs H2=>r x xs H2 Q
variable {o e:Expr}{es:List Expr}{to:TE}{t:TA}{name:Str}{lZ fx:Pos}{T id:String}{r:V->List V->Hp->VK->Prop}
theorem DH (pa:PlainAttrs T) (slot:Slot T name id) (Hh:typeOf (.builtin id)=pure (.type "method_descriptor")) (hm:Kw X id r) (ho:PE X o to)
  (hZ:attributeBase o name X.env (eval o X.env)=eval o X.env:=by rfl) (h_:(lZ.endLine == fx.line)=true:=by rfl):PE X (.Call (.Attribute o name lZ) [] [] fx) (L4 X.K T r to):=by
 intro U s σ H Q I h
 refine wpAny_Call_method0_late hZ h_ (bz (ho U s σ H _ I h) λv s1 zz=>?_)
 refine fW zz λx H1 I1 r1 ty q1=>?_
 obtain⟨h1,h2⟩:=wa I1 r1 ty
 exact⟨T,id,pa,slot,Hh,h1,h2,Calls.callWith_builtin rfl (PySem.evalArgs_none (hm U s1 σ H1 x [] v [] Q I1 r1 .nil q1))⟩
theorem wc (pa:PlainAttrs T) (slot:Slot T name id) (Hh:typeOf (.builtin id)=pure (.type "method_descriptor")) (hm:Kw X id r) (ho:PE X o to) (ha:PA X (e::es) t)
  (hZ:attributeBase o name X.env (eval o X.env)=eval o X.env:=by rfl)
  (DI:((backTo fx (starEach (e::es) X.env)).all (λx=>!x.1) && (backToKw fx (keywordEach [] X.env)).all (λx=>x.1.isSome)
   && decide ((e::es).length + ([]:List Keyword).length + (if([]:List Keyword).isEmpty then 0 else 1) < 30))=true:=by rfl)
  (h_:(lZ.endLine == fx.line)=true:=by rfl) (hs:starEach (e::es) X.env=(false,eval e X.env)::starEach es X.env:=by rfl) (qZ:(backTo fx (starEach es X.env)).any (·.1)=false:=by rfl):
  PE X (.Call (.Attribute o name lZ) (e::es) [] fx) (Kx X.K T r to t):=by
 intro U s σ H Q I h
 refine wpAny_Call_method_late hZ DI h_ rfl (bz (ho U s σ H _ I h) λv s1 zz=>?_)
 refine fW zz λx H1 I1 r1 ty q1=>?_
 obtain⟨h1,h2⟩:=wa I1 r1 ty
 refine⟨T,id,pa,slot,Hh,h1,h2,?_⟩
 have hA:=ha fx U s1 σ H1 _ I1 q1
 rw [hs] at hA ⊢
 refine Calls.callWith_builtin (by show(false || (backTo fx (starEach es X.env)).any (·.1))=false; rw [qZ] <;> rfl) (Calls.evalArgs_plain ?_)
 exact bz hA λus s2 zz=>ba zz λvs H2 I2 r2 q2=>hm U s2 σ H2 x vs v us Q I2 r1 r2 q2
end
end L2
namespace L2
open PySem PySem.Spec PyProof.Rows
noncomputable def L5 (X:Cx) (id:String) (r:V->List V->Hp->VK->Prop):Prop:=
 ∀(U:List (Addr×Obj)) (s:Shared) (σ:St) (H:Hp) (x:V) (xs:List V) (v:Value) (us:List Value) (Q:VK),Inv X U σ H s->RelV x v->aA xs us->r x xs H Q->
  wpAny (model X.prog X.w) X.A (call (.builtin id) (v::us)) (EP X U σ Q) X.xe s
theorem aA.one (h:aA [x] us): ∃u,us=[u]/\RelV x u:=by
 cases h with
 |cons r t=>cases t; exact⟨_,rfl,r⟩
theorem aA.zero: ∀{us:List Value},aA [] us->us=[]
 |_,.nil =>rfl
theorem aA.dropLast (h:aA xs us):aA xs.dropLast us.dropLast:=by
 induction h with
 |nil=>exact .nil
 |cons r t ih=>
  cases t with
  |nil=>exact .nil
  |cons q t'=>exact .cons r ih
theorem q0 (l:List α):l.eraseIdx (l.length - 1)=l.dropLast:=by
 induction l with
 |nil=>rfl
 |cons a r ih=>
  cases r with
  |nil=>rfl
  |cons b r=>
   have e:(a::b::r).length - 1=((b::r).length - 1) + 1:=by
    have h1:(a::b::r).length =r.length + 2:=rfl
    have h2:(b::r).length =r.length + 1:=rfl
    lia
   rw [e,List.eraseIdx_cons_succ,ih]
   all_goals rfl
section
variable {X:Cx}{U:List (Addr×Obj)}{σ:St}{H:Hp}{s:Shared}{l b:Addr}{xs ys zs:List V}
theorem Inv.DJ {its its':List Value}{n:Nat}{f:Array Value->Array Value}{t':Nat} (I:Inv X U σ H s) (hH:H l=some (.lst xs))
  (e:s.heap.get? l=some {cls:= .type "list",data:= .seq its.toArray n}) (hf:f its.toArray=its'.toArray) (hv:aA ys its') (hz:ys.length<=sizeLine):
  Inv X U σ (upd H l (.lst ys)) {s with heap:=s.heap.update l (Obj.mapSeq f),toks:=t'}:=by
 have q:=PySem.IsL.update e f
 rw [hf] at q
 exact I.write (x:=l) (e:=l) (by rw [hH]; exact trivial) (.inl rfl) (λb' u hb hu=>(Heap.get?_update_other s.heap (Obj.mapSeq f) (Ne.symm hb)).trans hu) ⟨_,q⟩ <| ⟨hz,its',_,hv,q⟩
theorem Inv.Hj (I:Inv X U σ H s) (hv:aA ys its) (hz:ys.length<=sizeLine):
  Inv X U σ (upd H s.heap.objs.size (.lst ys)) {s with heap:=s.heap.push {cls:= .type "list",data:= .seq its.toArray},toks:=t'}:=
 I.laid (λ_ _ q=>Heap.get?_push_of_some _ q) (Nat.le_refl _) ⟨hz,its,0,hv,Heap.get?_push_size _ rfl⟩
theorem Inv.fresh (I:Inv X U σ H s):H s.heap.objs.size=none:=I.aN.fresh (Nat.le_refl _)
theorem Inv.DK (I:Inv X U σ H s) (hH:H l=some (.lst xs)):xs.length<=sizeLine/\ ∃(its:List Value) (n:Nat),aA xs its/\xs.length=its.length/\s.heap.get? l=some {cls:= .type "list",data:= .seq its.toArray n}:=by
 refine ao λnO=>?_
 obtain⟨z,its,n,r,e⟩:=I.aN l _ hH
 exact nO <| ⟨z,its,n,r,r.length,e⟩
theorem wd (h:n<=sizeLine):Builtin.List.listTooLong n=false:=by
 unfold Builtin.List.listTooLong
 exact decide_eq_false (by lia)
end
section
variable {X:Cx}
noncomputable def zE:V->List V->Hp->VK->Prop:=λx vs H Q=> ∃l xs y,x= .ref l/\vs=[y]/\H l=some (.lst xs)/\xs.length < sizeLine/\Q .eK (upd H l (.lst (xs++[y])))
theorem mN:L5 X "list.append" zE:=by
 intro U s σ H x vs v us Q I rx rv h
 refine ao λnO=>qJ h λl xs y af aO hH hz q=>?_
 try clear h
 subst af
 subst aO
 cases rx
 refine ae rv.one λu eN ru=>?_
 subst eN
 obtain⟨z,its,n,r,hl,e⟩:=I.DK hH
 refine nO ?_
 refine call_meets F.slot_list_append ⟨_,e,rfl⟩ F.entry_list_append (F.args_list_append_2 _ _) (PySem.list_append l its.toArray n u (by rw [List.size_toArray]; lia)) ⟨e,?_⟩
 refine⟨.eK,_,I.DJ (its':=its++[u]) hH e (by simp) (r.append (.cons ru .nil)) ?_,rfl,q⟩
 rw [List.length_append,List.length_singleton]
 lia
noncomputable def L6:V->List V->Hp->VK->Prop:=λx vs H Q=> ∃l xs y,x= .ref l/\vs=[]/\H l=some (.lst xs)/\xs[xs.length - 1]?=some y/\Q y (upd H l (.lst xs.dropLast))
theorem DL:L5 X "list.pop" L6:=by
 intro U s σ H x vs v us Q I rx rv h
 refine ao λnO=>qJ h λl xs y af aO hH hy q=>?_
 try clear h
 subst af
 subst aO
 cases rx
 have SN:=rv.zero
 subst SN
 obtain⟨z,its,n,r,hl,e⟩:=I.DK hH
 refine ae (r.get hy) λu hu ru=>nO ?_
 have yW:its.toArray[its.toArray.size - 1]?=some u:=by
  show its.toArray[its.length - 1]?=some u
  rw [<-Array.getElem?_toList,<-hl]
  exact hu
 refine call_meets F.slot_list_pop ⟨_,e,rfl⟩ F.entry_list_pop (F.args_list_pop_1 _) (MeetsSeq.list_pop_last l its.toArray n u yW (by rw [List.size_toArray]; lia)) ⟨e,?_⟩
 refine⟨y,_,I.DJ (its':=its.dropLast) hH e ?_ r.dropLast ?_,ru,q⟩
 .show its.toArray.eraseIdxIfInBounds (its.toArray.size - 1)=its.dropLast.toArray
  rw [List.size_toArray,List.eraseIdxIfInBounds_toArray,q0]
 .rw [List.length_dropLast]
  lia
end
section
variable {prog:Program}{w:World}{A:Around}{E:Value->Shared->Prop}{s:Shared}
end
section
variable {X:Cx}
end
end L2
namespace QW
open PySem PySem.W PySem.Calls PyProof.Rows
theorem jO: ∀(ns:List Int) (vs:List Value),WellAll P h vs (ns.map WData.int)->IntsAre vs ns:=by
 intro ns
 induction ns with
 |nil=>
  intro vs w
  rw [List.map_nil] at w
  cases w
  exact .nil
 |cons n ns ih=>
  intro vs w
  rw [List.map_cons] at w
  cases w with
  |cons a b=>
   cases a
   exact .cons _ _ (ih _ b)
theorem ux {l:OpenLaw}{n:Nat} (hn:l.most=some n) {P:Params}{h:Heap}{args:List WData}{vals:List Value}
  (zF:l.row.toRowW.claim.pre args=true) (L7:WellAll P h vals args):
  ∃a vs ns,vals=[Value.ref a]/\args=[WData.list (ns.map WData.int)]/\h.get? a=some {cls:= .type "list",data:= .seq vs.toArray}/\IntsAre vs ns/\ns.length<=n:=by
 have SO:WShape.hasAll [] args [.list .int]=true:=(pre_splitW zF).1
 have hc:l.pre.holds [] {args:=args}=true:=(pre_splitW zF).2
 refine ba (hasAllW_cons SO) λd r af h1 h2=>?_
 subst af
 obtain rfl:=hasAllW_nil h2
 refine ae (hasW_list h1) λxs aO h3=>?_
 subst aO
 obtain⟨ns,rfl⟩:=items_int h3
 have aL:ns.length<=n:=by
  unfold OpenLaw.pre at hc
  have h4:(WTm.not (.lt (.lit (.int (n:Int))) (.len (.arg 0)))).holds [] {args:=[.list (ns.map .int)]}=true:=by
   have h4:=(holds_andW hc).1
   rw [hn] at h4
   exact h4
  have h5:=condW_of h4 (w_not (w_lt w_lit (w_len_list (w_arg rfl))))
  rw [List.length_map] at h5
  refine Nat.le_of_not_lt λq=>?_
  have q':(n:Int) < ((ns.length:Nat):Int):=by lia
  first
   |(rw [decide_eq_true q'] at h5; exact absurd h5 (by decide))
   |(simp at h5; lia)
 cases L7 with
 |cons w1 w2=>
  cases w2
  cases w1 with
  |list ho DM=>exact⟨_,_,ns,rfl,rfl,ho,jO ns _ DM,aL⟩
theorem uy (l:OpenLaw) (args:List WData):l.row.toRowW.claim.post args (.bool true) args=true:=
 postW_of (r:=l.row.toRowW) (X:=(true == true))
  (show WShape.has [] (.bool true) .bool =true by first|rfl|decide|simp [WShape.has,WShape.arms,WShape.armsAll])
  (show(WTm.eq .res (.lit (.bool true))).value [] {args:=args,res:=some (.bool true),after:=args}=some (.bool (true == true)) from w_eq_bool (w_res rfl) w_lit) rfl
theorem pH {l:OpenLaw}{n:Nat}{q:Program}{loose:List Str}{XP:(Str->Option Value)->Heap->Prop}{YP:World->Heap->Prop}{d:DefRec}
  (hn:l.most=some n) (Hk:d.params.defaults=[])
  (call: ∀(w:World) (s₀ aT:Shared) (mg mb:Str->Option Value) (fa:Addr) (o:Obj) (pm cd oV:Value) (a:Addr) (vs:List Value) (ns:List Int),
   Ground q loose [] XP w s₀ mg mb aT.heap->YP w aT.heap->
   aT.heap.get? fa=some o->o.data= .func (docDef d.name d.params d.body d.scope pm cd oV)->aT.heap.CodeRec cd d.name->mg d.name=some (.ref fa)->
   aT.heap.get? a=some {cls:= .type "list",data:= .seq vs.toArray}->IntsAre vs ns->ns.length<=n->aT.gens=#[]->
   codeAny (model l.prog w) callerA (.call (.ref fa) ⟨[.ref a],[]⟩) (λr s'=>r= .ok (.ret (.bool true))/\OldK aT.heap s'.heap/\s'.os=aT.os/\AllBare s'.gens) aT):
  WalkO q loose XP YP l.row.toRowW d [] (λf vs=>PySem.call f vs):=by
 intro w s₀ aT mg mb G Y fa o pm cd oV dV kV ho hd vN hD Hl hg args vals as zF SQ WN L7 DN
 obtain rfl:dV= .none :=Dflts.none hD Hk
 obtain rfl:kV= .none :=Dflts.noKw hD
 refine qJ (ux hn zF L7) λa vs ns af aO DO hints aL=>?_
 subst af
 subst aO
 refine enter_call (codeAny_mono (call w s₀ aT mg mb fa o pm cd oV a vs ns G Y ho (fd_plain hd) vN Hl DO hints aL hg) λr s' hq=>?_)
 refine yR hq λeN h2 h3 h4=>?_
 try clear hq
 subst eN
 exact⟨.inl ⟨.bool true,.bool true,[],rfl,λ_=>rfl,.bool true,uy l _,λ_=>⟨List.Pairwise.nil,λ_ hm=>(nomatch hm)⟩⟩,h2,h3,h4⟩
section
variable {prog:Program}{w:World}{A:Around}{E:Value->Shared->Prop}{s:Shared}{K:Frag}
end
end QW
namespace L2
open PySem PySem.Spec PyProof.Rows
theorem uz: ∀{vs:List Value}{ns:List Int},IntsAre vs ns->aA (ns.map V.int) vs:=λ{vs ns} h=>by
 induction h with
 |nil=>exact .nil
 |cons n t h ih=>exact .cons ⟨t,rfl⟩ ih
noncomputable def DP (H:Hp):Prop:= ∀b,H b=none\/ ∃o xs,H b=some (.cZ o (.lst xs))
theorem wj {P:Program}{w:World}{K:PySem.W.Frag}{mg mb:Str->Option Value}{CX:vV}{k:Nat}{fa a:Addr}{fd:FuncData}{x:Str}{sp:Sp}{aT:Shared}{vs:List Value}{ns:List Int}
  (KX:K.In aT.heap) (QX:aT.heap.Ns mainGlobals mg) (hb:aT.heap.Ns builtinsNs mb) (SR: ∀x:Str,x≠"__name__"->mb x=bootBuiltins x) (L8:aT.heap.NoLimit) (hg:aT.gens=#[])
  (ha:aT.heap.get? a=some {cls:= .type "list",data:= .seq vs.toArray}) (hi:IntsAre vs ns) (hl:ns.length<=sizeLine) (hr:dR k callerA)
  (F: ∀base:Heap,K.In base->base.Ns mainGlobals mg->g_ P w K mg base CX k fa fd [x] sp) (Hn: ∀(s:Shared) (u:Value),BindsTo s fd ⟨[u],[]⟩ [(x,u)])
  (B3: ∀H:Hp,DP H->dg K H a (ns.map V.int)->sp [.ref a] H (λv _=>v= .bl true) λ_ _ _=>False)
  (L9: ∀H e s',CX [] H aT (λ_ _ _=>False) e s'->False):
  codeAny (model P w) callerA (.call (.ref fa) ⟨[.ref a],[]⟩) (λr s'=>r= .ok (.ret (.bool true))/\OldK aT.heap s'.heap/\s'.os=aT.os/\AllBare s'.gens) aT:=by
 have rv:=uz hi
 have L_:=hi.length
 have aJ: ∀H:Hp,DP H->dg K H a (ns.map V.int)->gH P w H aT.heap->(∀b,H b≠none->b=a)->(H a≠none->K.lookup a=none)->
   codeAny (model P w) callerA (.call (.ref fa) ⟨[.ref a],[]⟩) (λr s'=>r= .ok (.ret (.bool true))/\OldK aT.heap s'.heap/\s'.os=aT.os/\AllBare s'.gens) aT:=by
  intro H hO hS aN hA hK
  have jZ: ∀{b:Addr}{o:Obj},aT.heap.get? b=some o->H b=none->(nH aT.heap H).get? b=some o:=λe n=>vI e n
  have G7: ∀{b:Addr}{o:Obj}{es:Array DictEntry}{ep:Nat},aT.heap.get? b=some o->o.data= .dict es ep->H b=none:=λ{b o es ep} e d=>by
   cases q:H b with
   |none=>rfl
   |some u=>
    have e':b=a:=hA b (by rw [q]; simp)
    subst e'
    rw [ha] at e; cases e
    have d':Data.seq vs.toArray _=Data.dict es ep:=d
    cases d'
  have Ky: ∀{b:Addr}{m:Str->Option Value},aT.heap.Ns b m->(nH aT.heap H).Ns b m:=λ{b m} zz=>cG zz λo es ep e d r=>⟨o,es,ep,jZ e (G7 e d),d,r⟩
  have QY:K.In (nH aT.heap H):=λb o e=>jZ (KX b o e) (by
   cases q:H b with
   |none=>rfl
   |some u=>
    have e':b=a:=hA b (by rw [q]; simp)
    subst e'
    rw [hK (by rw [q]; simp)] at e; cases e)
  have hM:Mod K mg (nH aT.heap H):=⟨QY,Ky QX,⟨mb,Ky hb,SR⟩,let ⟨mc,h1,h2⟩:=L8; ⟨mc,Ky h1,h2⟩⟩
  have e0:zw P w K mg (nH aT.heap H) callerA [] aT H:=⟨rfl,hM,λb o e=>zc e,Nat.le_of_eq (uk _ _),trivial,λb hb=>absurd (show b∈([]:List Addr) from hb) (by simp),aN,.of_eq hg⟩
  refine codeAny_mono ((F _ QY (Ky QX)).run callerA [] aT H ⟨[.ref a],[]⟩ [.ref a] [.ref a] _ _ hr e0 (Hn aT (.ref a)) (.cons rfl .nil) (B3 H hO hS)) λr s' h=>?_
  cases r with
  |error e=>exact(L9 H e s' h).elim
  |ok fl=>
   cases fl with
   |next=>exact False.elim h
   |brk=>exact False.elim h
   |cont=>exact False.elim h
   |ret u=>
    refine Lh h λv H' os bare un L' r' q=>?_
    have q':v= .bl true:=q
    subst q'
    obtain rfl:u=Value.bool true:=r'
    refine⟨rfl,OldK.of_keep λb o e=>?_,os,bare⟩
    cases q:H b with
    |none=>exact un.keep b o e q (by intro z; exact absurd (show b∈([]:List Addr) from z) (by simp)) (by simp)
    |some u=>
     rcases hO b with z|⟨ob,xs,z⟩
     .rw [q] at z; cases z
     .have z2:=un.gI b ob _ z
      obtain⟨e1,_⟩:=aN b _ z
      obtain⟨e2,_⟩:=L' b _ z2
      rw [e] at e1; cases e1
      exact e2
 cases hk:K.lookup a with
 |some o=>
  have e:=KX a o hk
  rw [ha] at e
  cases e
  refine aJ (λ_=>none) (λ_=> .inl rfl) (.inr ⟨_,vs.toArray,_,hk,rfl,rfl,rfl,by rw [List.size_toArray,L_]; exact hl,by simpa using rv⟩) (λb u z=>by have z':(none:Option HO)=some u:=z; cases z') (λb z=>absurd rfl z) λz=>absurd rfl z
 |none=>
  refine aJ (λb=>if b=a then some (.cZ {cls:= .type "list",data:= .seq vs.toArray} (.lst (ns.map V.int))) else none) (λb=>?_) (.inl (.inr ⟨{cls:= .type "list",data:= .seq vs.toArray},if_pos rfl⟩)) (λb u z=>?_) (λb z=>?_) λ_=>hk
  .by_cases hb:b=a
   .exact .inr ⟨_,_,if_pos hb⟩
   .exact .inl (if_neg hb)
  .by_cases hb:b=a
   .have z':=(if_pos hb).symm.trans z
    cases z'
    subst hb
    exact⟨ha,by rw [List.length_map]; exact hl,vs,_,rv,ha⟩
   .have z':=(if_neg hb).symm.trans z
    cases z'
  .by_cases hb:b=a
   .exact hb
   .exact absurd (if_neg hb) z
end L2
namespace L2
open PySem PySem.Spec PyProof.Rows
theorem zG {l:PySem.W.OpenLaw}{n k:Nat}{q:Program}{loose:List Str}{XP:(Str->Option Value)->Heap->Prop}{YP:World->Heap->Prop}{d:DefRec}{K:Params->PySem.W.Frag}{CX:World->vV}{sp:World->Sp}{x:Str}
  (hn:l.most=some n) (Ho:n<=sizeLine) (Hk:d.params.defaults=[]) (hr:dR k callerA)
  (hY: ∀(w:World) (h:Heap),YP w h->(K w.params).In h)
  (F: ∀(w:World) (mg:Str->Option Value) (fa:Addr) (h:Heap),(K w.params).In h->h.Ns mainGlobals mg->mg d.name=some (.ref fa)->
   ∃fd:FuncData,(∀(s:Shared) (u:Value),BindsTo s fd ⟨[u],[]⟩ [(x,u)])/\
    ∀base:Heap,(K w.params).In base->base.Ns mainGlobals mg->g_ l.prog w (K w.params) mg base (CX w) k fa fd [x] (sp w))
  (B3: ∀(w:World) (H:Hp) (a:Addr) (ns:List Int),ns.length<=n->DP H->dg (K w.params) H a (ns.map V.int)->sp w [.ref a] H (λv _=>v= .bl true) λ_ _ _=>False)
  (L9: ∀(w:World) (H:Hp) (s:Shared) (e:Value) (s':Shared),CX w [] H s (λ_ _ _=>False) e s'->False):
  PySem.W.WalkO q loose XP YP l.row.toRowW d [] (λf vs=>PySem.call f vs):=by
 refine QW.pH hn Hk λw s₀ aT mg mb fa o pm cd oV a vs ns G Y ho hd vN Hl DO hints aL hg=>?_
 have KX:=hY w _ Y
 exact ae (F w mg fa _ KX G.T.g Hl) λfd hb hF=>wj KX G.T.g G.T.b G.T.builtins G.T.nolimit hg DO hints (Nat.le_trans aL Ho) hr hF hb (λH hO hS=>B3 w H a ns aL hO hS) λH e s'=>L9 w H aT e s'
end L2
namespace L2
open PySem PySem.Spec PyProof.Rows
noncomputable def aG (s:Stmt):Arguments:=match s with
 | .FunctionDef _ a _ _ _ _ _ _ _ _=>a
 |_=>{posonlyargs:=[],args:=[],vararg:=none,kwonlyargs:=[],kw_defaults:=[],kwarg:=none,defaults:=[]}
noncomputable def ai (s:Stmt):List Stmt:=match s with
 | .FunctionDef _ _ b _ _ _ _ _ _ _=>b
 |_=>[]
noncomputable def aa (s:Stmt):Scope:=match s with
 | .FunctionDef _ _ _ _ _ _ sc _ _ _=>sc
 |_=>{kind:= .function,names:=[],isGenerator:=false,isCoroutine:=false}
noncomputable abbrev uA:vV:=λ_ _ _ _ _ _=>False
noncomputable abbrev E0:XK:=λ_ _ _=>False
theorem wk:qR uA X E0:=λ_ _ _ _ _ _ _ h=>h.elim
structure DQ (K:PySem.W.Frag) (x qual:Str) (st:Stmt) (f:Addr) (fd:FuncData):Prop where
 ex: ∃(oc:Value) (od:Option Addr) (kV oV pm:Value) (an:Option Addr) (jB ct:Value) (B1:Array (Option Value)),
  fd=PySem.W.fnOf x qual (aG st) (ai st) (aa st) .none kV oV pm an jB ct/\K.lookup f=some ⟨oc,od,.func fd,B1⟩/\PySem.W.codeIn K jB qual=true
 kp:PySem.W.keepIn K (.ref f)=true
section
variable {P:Program}{w:World}{K:PySem.W.Frag}{mg:Str->Option Value}{base:Heap}
theorem DQ.ok {x qual:Str}{st:Stmt}{f:Addr}{fd:FuncData}{N ps:List Str}{k:Nat}{sp:Sp} (F:DQ K x qual st f fd) (S:aF N ps (aa st)) (len: ∀vs H Q E,sp vs H Q E->vs.length=ps.length)
  (vX: ∀(jB:Value) (A:Around) (outer:List Env) (s:Shared) (H:Hp) (vs:List V) (Q:VK) (E:XK),dR k (A.deeper (envOfC qual (aa st) s.heap.objs.size f jB))->sp vs H Q E->
   ∃t,jX (qS uA P w K mg base N qual (aa st) f jB A outer s H E).GR (ai st) t/\t {nx:=λ_ H'=>Q .eK H',rt:=Q} (start N vs) H):g_ P w K mg base uA (k + 1) f fd ps sp:=by
 refine QM F.ex λoc od kV oV pm an jB ct B1 af lk vN=>?_
 subst af
 exact G8 lk vN S len λA outer s H vs Q E hr B3=>ae (vX jB A outer s H vs Q E hr B3) λt h q=>⟨t,h.GR,q⟩
theorem DQ.binds {x qual:Str}{st:Stmt}{f:Addr}{fd:FuncData}{ps:List Str} (F:DQ K x qual st f fd)
  (h: ∀(kV oV pm:Value) (an:Option Addr) (jB ct:Value) (us:List Value),us.length=ps.length->bindArgs (PySem.W.fnOf x qual (aG st) (ai st) (aa st) .none kV oV pm an jB ct) ⟨us,[]⟩=pure (ps.zip us)):Binds K fd ps []:=by
 refine QM F.ex λoc od kV oV pm an jB ct B1 af lk vN=>?_
 subst af
 exact .all (h kV oV pm an jB ct)
theorem bD {x qual:Str}{st:Stmt}{f:Addr}{oc:Value}{od an:Option Addr}{B1:Array (Option Value)}{kV oV pm jB ct:Value} (l:K.lookup f=some ⟨oc,od,.func (PySem.W.fnOf x qual (aG st) (ai st) (aa st) .none kV oV pm an jB ct),B1⟩)
  (c:PySem.W.codeIn K jB qual=true) (k:PySem.W.keepIn K (.ref f)=true):DQ K x qual st f (PySem.W.fnOf x qual (aG st) (ai st) (aa st) .none kV oV pm an jB ct):=⟨⟨oc,od,kV,oV,pm,an,jB,ct,B1,rfl,l,c⟩,k⟩
end
section
variable {X:Cx}
end
theorem mf {A B:Prop} (h:B):if false=true then A else B:=by
 rw [if_neg Bool.false_ne_true]
 exact h
theorem kA {A B:Prop} (h:A):if true=true then A else B:=by
 rw [if_pos rfl]
 exact h
noncomputable def ag (H H':Hp):Prop:= ∀b o,H b=some o->H' b=some o
theorem ag.refl (H:Hp):ag H H:=λ_ _ h=>h
theorem ag.trans (a:ag H H1) (b:ag H1 H2):ag H H2:=λc o h=>b c o (a c o h)
theorem ag.seq {K:PySem.W.Frag}{H H':Hp}{a:Addr}{xs:List V} (e:ag H H') (h:dg K H a xs):dg K H' a xs:=by
 rcases h with (h|⟨o,h⟩)|h
 .exact .inl (.inl (e _ _ h))
 .exact .inl (.inr ⟨o,e _ _ h⟩)
 .exact .inr h
end L2
namespace L2
open PySem
theorem gL (env:Env): ∀(l:List (Str×NameKind)) (cs:List (Str×Addr)),(∀y∈l,y.2= .free -> ∃c,env.cells.lookup y.1=some c)->
  ∃cl,(forIn l cs λ(x:Str×NameKind) (r:List (Str×Addr))=>if(x.2 == NameKind.free)=true then(do let a<-cellOf env x.1; pure (ForInStep.yield ((x.1,a)::r))) else pure (ForInStep.yield r):Sem (List (Str×Addr)))=pure cl/\
   (∀x c,cl.lookup x=some c->cs.lookup x=some c\/(env.cells.lookup x=some c/\(x,NameKind.free)∈l))/\
   (∀x,(x,NameKind.free)∈l\/(∃c,cs.lookup x=some c)-> ∃c,cl.lookup x=some c)
 |[],cs,_=>⟨cs,rfl,λx c h=> .inl h,λx h=>h.elim (λz=>nomatch z) id⟩
 |(n,k)::l,cs,h=>by
  have hl: ∀y∈l,y.2= .free -> ∃c,env.cells.lookup y.1=some c:=λy hy=>h y (List.mem_cons_of_mem _ hy)
  by_cases hk:k= .free
  .subst hk
   obtain⟨c,hc⟩:=h (n,.free) List.mem_cons_self rfl
   refine bA (gL env l ((n,c)::cs) hl) λcl e h1 h2=>⟨cl,?_,λx d hx=>?_,λx hx=>?_⟩
   .rw [List.forIn_cons]
    simp only [beq_self_eq_true,if_true,cellOf,hc]
    exact e
   .rcases h1 x d hx with z|⟨z,m⟩
    .rw [List.lookup_cons] at z
     by_cases F':(x == n)=true
     .rw [F'] at z
      have:x=n:=eq_of_beq F'
      subst this
      cases z
      exact .inr ⟨hc,List.mem_cons_self⟩
     .have e0:(x == n)=false:=by simpa using F'
      rw [e0] at z
      exact .inl z
    .exact .inr ⟨z,List.mem_cons_of_mem _ m⟩
   .refine h2 x ?_
    rcases hx with hx|⟨d,hd⟩
    .rcases List.mem_cons.mp hx with e1|hx
     .cases e1
      exact .inr ⟨c,by rw [List.lookup_cons,beq_self_eq_true]⟩
     .exact .inl hx
    .by_cases F':(x == n)=true
     .exact .inr ⟨c,by rw [List.lookup_cons,F']⟩
     .have e0:(x == n)=false:=by simpa using F'
      exact .inr ⟨d,by rw [List.lookup_cons,e0]; exact hd⟩
  .refine bA (gL env l cs hl) λcl e h1 h2=>?_
   have hb:(k == NameKind.free)=false:=by simpa using hk
   refine⟨cl,?_,λx d hx=>?_,λx hx=>h2 x ?_⟩
   .rw [List.forIn_cons]
    simp only [hb,Bool.false_eq_true,if_false]
    exact e
   .rcases h1 x d hx with z|⟨z,m⟩
    .exact .inl z
    .exact .inr ⟨z,List.mem_cons_of_mem _ m⟩
   .rcases hx with hx|hx
    .rcases List.mem_cons.mp hx with e1|hx
     .cases e1; exact absurd rfl hk
     .exact .inl hx
    .exact .inr hx
theorem q5 (h: ∀y∈sc.names,y.2= .free -> ∃c,env.cells.lookup y.1=some c):
  ∃cl,closureFor sc env=pure cl/\(∀x c,cl.lookup x=some c->env.cells.lookup x=some c/\(x,NameKind.free)∈sc.names)/\(∀x,(x,NameKind.free)∈sc.names-> ∃c,cl.lookup x=some c):=by
 refine bA (gL env sc.names [] h) λcl e h1 h2=>⟨cl,?_,λx c hx=>(h1 x c hx).resolve_left (λz=>by simp at z),λx hx=>h2 x (.inl hx)⟩
 have e':closureFor sc env=(forIn sc.names ([]:List (Str×Addr)) λ(x:Str×NameKind) (r:List (Str×Addr))=>if(x.2 == NameKind.free)=true then(do let a<-cellOf env x.1; pure (ForInStep.yield ((x.1,a)::r))) else pure (ForInStep.yield r):Sem (List (Str×Addr))) >>= λr=>pure r:=by
  rfl
 rw [e',e]
 rfl
section
variable {prog:Program}{w:World}{A:Around}{E:Value->Shared->Prop}{R:Result->Shared->Prop}{s:Shared}
theorem q_ (I:Nat->Shared->Prop)
  (turn: ∀n s,I n s->wpAny (model prog w) A (pyNext it) (λr aT=>match r with
   |none=>R (.ok .next) aT
   |some v=>wpAny (model prog w) A (letOwnedTupleGo target it v) (λ_ B6=>wpAny (model prog w) A (assign target env v) (λ_ kl=>
     wpAny (model prog w) A (forIn ifs true λc r=>if r=true then do let ok<-isTrue c env (eval c env); pure (ForInStep.yield ok) else pure (ForInStep.yield r)) (λok uB=>
      if ok=true then wpAny (model prog w) A (eval dF env) (λx Hq=>
       wpAny (model prog w) A (call (.builtin "list.append") [acc,x]) (λ_ Hr=> ∃m,m < n/\I m Hr) (λ_ _=>False) Hq) (λ_ _=>False) uB
      else∃m,m < n/\I m uB) (λ_ _=>False) kl) (λ_ _=>False) B6) (λ_ _=>False) aT) (λ_ _=>False) s)
  (n:Nat) (h:I n s):
  codeAny (model prog w) A (.compLoop (.ListComp dF [⟨target,iter,ifs,0⟩] scope pos) 0 it acc env) R s:=by
 refine codeAny_loop rfl I (λn s hI=>?_) n h
 show wpAny _ A ((compTurn (.ListComp dF [⟨target,iter,ifs,0⟩] scope pos) 0 it acc env).onRaise (λx=>do noteFrame x env; theTreesLotGoes x)) _ _ s
 refine wpAny_noted ?_
 rw [compTurn_list]
 refine wpAny_bind (wpAny_standAt (wpAny_bind (wpAny_mono (turn n s hI) (λr aT zH=>?_) λ_ _ h'=>h'.elim)))
 cases r with
 |none=>exact wpAny_pure zH
 |some v=>
  refine wpAny_bind (wpAny_mono zH (λ_ B6 Hs=>?_) λ_ _ h'=>h'.elim)
  refine wpAny_bind (wpAny_mono Hs (λ_ kl wm=>wpAny_bind (wpAny_mono wm (λok uB zI=>?_) λ_ _ h'=>h'.elim)) λ_ _ h'=>h'.elim)
  cases ok with
  |false=>exact wpAny_pure ⟨rfl,zI⟩
  |true=>
   exact wpAny_bind (wpAny_bind (wpAny_mono zI (λx Hq Ma=>wpAny_bind (wpAny_mono Ma (λ_ Hr Mb=>wpAny_pure (wpAny_pure ⟨rfl,Mb⟩)) λ_ _ h'=>h'.elim)) λ_ _ h'=>h'.elim))
end
end L2
set_option maxHeartbeats 4000000
namespace L2
open PySem PySem.Spec PyProof.Rows
theorem Inv.B7 (I:Inv X U σ H s) (h:dg X.K H a xs): ∃(its:List Value) (n:Nat),aA xs its/\xs.length=its.length/\s.heap.get? a=some {cls:= .type "list",data:= .seq its.toArray n}/\xs.length<=sizeLine:=by
 rcases h with h|⟨o,its,n,hk,hc,hd,hs,hz,r,Kz⟩
 .obtain⟨z,its,n,r,e⟩:=h.ok I.aN
  exact⟨its,n,r,r.length,e,z⟩
 .refine⟨its.toList,n,r,r.length,?_,?_⟩
  .rw [I.BW a o hk]
   obtain⟨c,d,dt,sl⟩:=o
   simp only at hc hd hs Kz
   subst hc hd hs Kz
   simp
  .have e:=r.length
   simp only [Array.length_toList] at e
   lia
theorem cV {env:Env}: ∀{names:List (Str×NameKind)}{x:Str},names.lookup x=some .free ->
  (names.map λ(n,k)=>if(k == NameKind.free && env.scope.kind == .function && env.kindOf n == some .cell) then(n,NameKind.cell) else(n,k)).lookup x=some .cell \/
  (names.map λ(n,k)=>if(k == NameKind.free && env.scope.kind == .function && env.kindOf n == some .cell) then(n,NameKind.cell) else(n,k)).lookup x=some .free
 |[],_,h=>by simp at h
 |(n,k)::r,x,h=>by
  have ih:=@cV env r x
  rw [List.map_cons]
  show List.lookup x ((if(k == NameKind.free && env.scope.kind == .function && env.kindOf n == some .cell)=true then(n,NameKind.cell) else(n,k))::_)=_\/List.lookup x ((if(k == NameKind.free && env.scope.kind == .function && env.kindOf n == some .cell)=true then(n,NameKind.cell) else(n,k))::_)=_
  cases hx:x == n with
  |true=>
   simp only [List.lookup_cons,hx] at h
   cases h
   by_cases hc:(NameKind.free == NameKind.free && env.scope.kind == .function && env.kindOf n == some .cell)=true
   .rw [if_pos hc]; simp only [List.lookup_cons,hx]; exact .inl trivial
   .rw [if_neg hc]; simp only [List.lookup_cons,hx]; exact .inr trivial
  |false=>
   simp only [List.lookup_cons,hx] at h
   by_cases hc:(k == NameKind.free && env.scope.kind == .function && env.kindOf n == some .cell)=true
   .rw [if_pos hc]; simp only [List.lookup_cons,hx]; exact ih h
   .rw [if_neg hc]; simp only [List.lookup_cons,hx]; exact ih h
theorem fI {env:Env}: ∀{names:List (Str×NameKind)}{x:Str}{kd:NameKind},(∀y∈names,y.2≠ .cell)->(kd= .cell \/kd= .free)->
  (names.map λ(n,k)=>if(k == NameKind.free && env.scope.kind == .function && env.kindOf n == some .cell) then(n,NameKind.cell) else(n,k)).lookup x=some kd->(x,NameKind.free)∈names
 |[],_,_,_,_,h=>by simp at h
 |(n,k)::r,x,kd,hn,hk,h=>by
  have ih:=@fI env r x kd (λy hy=>hn y (List.mem_cons_of_mem _ hy)) hk
  rw [List.map_cons] at h
  replace h:List.lookup x ((if(k == NameKind.free && env.scope.kind == .function && env.kindOf n == some .cell)=true then(n,NameKind.cell) else(n,k))::_)=some kd:=h
  cases hx:x == n with
  |true=>
   have e:x=n:=eq_of_beq hx
   subst e
   by_cases hc:(k == NameKind.free && env.scope.kind == .function && env.kindOf x == some .cell)=true
   .have kf:k= .free :=by
     simp only [Bool.and_eq_true] at hc
     exact eq_of_beq hc.1.1
    subst kf
    exact List.mem_cons_self
   .rw [if_neg hc] at h
    simp only [List.lookup_cons,beq_self_eq_true] at h
    cases h
    rcases hk with e|e
    .exact absurd e (hn (x,_) List.mem_cons_self)
    .subst e; exact List.mem_cons_self
  |false=>
   refine List.mem_cons_of_mem _ (ih ?_)
   by_cases hc:(k == NameKind.free && env.scope.kind == .function && env.kindOf n == some .cell)=true
   .rw [if_pos hc] at h; simp only [List.lookup_cons,hx] at h; exact h
   .rw [if_neg hc] at h; simp only [List.lookup_cons,hx] at h; exact h
noncomputable def uC (X:Cx) (ifs:List Expr) (t:TT):Prop:=
 ∀(U:List (Addr×Obj)) (s:Shared) (σ:St) (H:Hp) (Q:Bool->Hp->Prop),Inv X U σ H s->t σ H Q->
  wpAny (model X.prog X.w) X.A (forIn ifs true λc r=>if r=true then do let ok<-isTrue c X.env (eval c X.env); pure (ForInStep.yield ok) else pure (ForInStep.yield r)) (TP X U σ Q) X.xe s
theorem mO: ∀(cs:List Expr),(forIn cs false λc r=>if r=true then do let ok<-isTrue c env (eval c env); pure (ForInStep.yield ok) else pure (ForInStep.yield r):Sem Bool)=pure false
 |[]=>rfl
 |c::cs=>by
  rw [List.forIn_cons,if_neg Bool.false_ne_true]
  exact mO cs
section
variable {X:Cx}
theorem zJ:uC X [] (λσ H Q=>Q true H):=λ_ _ _ H _ I h=>wpAny_pure ⟨H,I,h⟩
theorem wo (h:PT X c t) (hr:uC X cs u):uC X (c::cs) (GL t u):=by
 intro U s σ H Q I hw
 rw [List.forIn_cons,if_pos rfl]
 refine wpAny_bind (wpAny_bind (bz (h U s σ H _ I hw) λb s1 zz=>ae zz λH1 I1 q1=>wpAny_pure ?_))
 cases b with
 |true=>exact hr U s1 σ H1 Q I1 q1
 |false=>
  show wpAny _ _ (forIn cs false _) _ _ _
  rw [mO]
  exact wpAny_pure ⟨H1,I1,q1⟩
noncomputable def fy (fr:List Nat) (σ:St):St:=fr.map λi=>(σ[i]?).join
noncomputable def gv (X:Cx) (sc:Scope) (cl:List (Str×Addr)) (C:Addr) (N:List Str) (U:List (Addr×Obj)) (s:Shared) (H:Hp) (ex:List Addr):Cx:=
 {X with N:=N,s₀:=s,H₀:=H,env:=compEnvC sc cl C X.env,outer:=X.stack,ex:=ex,fn:=λ_=>false,pn:=X.pn++U,xe:=λ_ _=>False}
structure DR (N:List Str) (uD:Scope) (sc:Scope) (N':List Str) (k:Nat) (fr:List Nat):Prop where
 kind:sc.kind= .function
 rf: ∀y∈sc.names,y.2≠ .cell
 loc: ∀y∈sc.names,y.2= .local ->sc.names.lookup y.1=some .local
 free: ∀y∈sc.names,y.2= .free ->uD.names.lookup y.1=some .cell \/uD.names.lookup y.1=some .free
 len:N'.length=k + fr.length
 SS: ∀j x,N'[k + j]?=some x-> ∃i,fr[j]?=some i/\N[i]?=some x/\sc.names.lookup x=some .free
noncomputable def mP (k:Nat) (fr:List Nat) (wi:TI) (g:TG) (tt:TT) (te:TE):TE:=λσ H Q=>wi σ H λJ H1=>
 ∀p,H1 p=none-> ∃W:Nat->Nat->Hp->Prop,(∃m,W 0 m (upd H1 p (.lst [])))/\ ∀i m H,W i m H->
  (J.stop i H/\Q (.ref p) H)\/
  (J.go i H/\ ∀x H',J.vQ i H x H'->g x (List.replicate k none++fy fr σ) H' λvA H2=>tt vA H2 λb H3=>
   if b=true then te vA H3 λv H4=> ∃xs m',H4 p=some (.lst xs)/\xs.length < sizeLine/\m' < m/\W (i + 1) m' (upd H4 p (.lst (xs++[v])))
   else∃m',m' < m/\W (i + 1) m' H3)
noncomputable def nT (k:Nat) (g:TG):Prop:= ∀x σ H Q,g x σ H Q->g x σ H λvA H2=>Q vA H2/\vA.length=σ.length/\ ∀i,k<=i->vA[i]?=σ[i]?
theorem wq (I:Inv X U σ H s) (S:DR X.N X.env.scope sc N' k fr)
  (h1: ∀x c,cl.lookup x=some c->X.env.cells.lookup x=some c/\(x,NameKind.free)∈sc.names) (h2: ∀x,(x,NameKind.free)∈sc.names-> ∃c,cl.lookup x=some c)
  (KA: ∀b∈fp,jN X U H b) (bZ: ∀b∈fp,b < s.heap.objs.size) (os:s4.os=s.os) (gens:s4.gens=s.gens) (keep: ∀b o,s.heap.get? b=some o->s4.heap.get? b=some o)
  (ns:s4.heap.Ns s.heap.objs.size m):
  Inv (gv X sc cl s.heap.objs.size N' U s H fp) [] (List.replicate k none++fy fr σ) H s4:=by
 have kx: ∀x,(x,NameKind.free)∈sc.names->X.env.kindOf x=some .cell \/X.env.kindOf x=some .free :=λx hx=>S.free (x,.free) hx rfl
 have B8: ∀x c v,X.env.cells.lookup x=some c->s.heap.IsCell c v->s4.heap.IsCell c v:=λx c v _ ⟨o,ho,hd⟩=>⟨o,keep c o ho,hd⟩
 refine⟨⟨I.ok.mod,S.kind,I.ok.glob,I.ok.blt,Nat.le_refl _,λx y c hx hy=>?_,λx hx=>?_,λx c hf _=>?_,I.ok.hd,I.ok.frames,.inl rfl,λb hb=>⟨?_,λx c hx=>?_⟩,I.bs,Nat.le_trans I.ok.vK I.sz,λb o e hb=>?_,λb hb=>?_,I.stack,I.rY⟩,
  os,by rw [gens]; exact I.bare,Un.kept keep,⟨m,ns,λi x v e1 e2 e3=>?_⟩,λx c hx=>?_,I.fresh,λx c hx=>?_,λp hp=>?_,I.aN.kept keep,?_⟩
 .exact I.ok.inj x y c (h1 x c hx).1 (h1 y c hy).1
 .rcases hx with hx|hx
  .exact h2 x (fI S.rf (.inl rfl) hx)
  .exact h2 x (fI S.rf (.inr rfl) hx)
 .exact absurd (show false=true from hf) Bool.false_ne_true
 .exact Nat.ne_of_lt (bZ b hb)
 .exact(KA b hb).2.2.2.2.1 x c (h1 x c hx).1
 .rcases (KA b hb).2.2.2.1 with z|z
  .exact I.ok.vL b o e z
  .exact absurd (Nat.lt_of_lt_of_le (Nat.lt_of_lt_of_le (Heap.lt_size e) I.ok.vK) z) (Nat.lt_irrefl _)
 .intro i8
  rcases List.mem_cons.mp (I.kj b i8) with z|z
  .exact(KA b hb).2.1 z
  .exact(KA b hb).2.2.1 z
 .by_cases hi:i < k
  .rw [List.getElem?_append_left (by simpa using hi),List.getElem?_replicate_of_lt hi] at e2
   cases e2
  .have gw:k<=i:=Nat.le_of_not_lt hi
   rw [List.getElem?_append_right (by simpa using gw),List.length_replicate] at e2
   have oX:N'[k + (i - k)]?=some x:=by rw [Nat.add_sub_cancel' gw]; exact e1
   refine bA (S.SS (i - k) x oX) λj f1 f2 f3=>?_
   unfold fy at e2
   rw [List.getElem?_map,f1] at e2
   have zK:(σ[j]?).join =some v:=by simpa using e2
   have Mc:σ[j]?=some (some v):=by
    cases q:σ[j]? with
    |none=>rw [q] at zK; cases zK
    |some y=>rw [q] at zK; simp at zK; rw [zK]
   refine ae I.loc λmo vB DN=>?_
   have SU:um X.env.scope x:=by
    rcases kx x (PySem.mem_of_lookup f3) with z|z
    .exact .inr (.inl z)
    .exact .inr (.inr z)
   refine ae (DN j x v f2 Mc SU) λu r l=>⟨u,r,?_⟩
   rcases l with ⟨z,_⟩|⟨_,c,hc,r0⟩
   .rcases kx x (PySem.mem_of_lookup f3) with y|y
    .rw [y] at z; cases z
    .rw [y] at z; cases z
   .obtain⟨c',jW⟩:=h2 x (PySem.mem_of_lookup f3)
    have ec:=(h1 x c' jW).1
    rw [hc] at ec; cases ec
    refine .inr ⟨?_,c,jW,B8 x c _ hc r0⟩
    have vz:um (relabel sc X.env) x:=e3
    rcases vz with z|z|z
    .rcases cV (env:=X.env) f3 with y|y
     .exact absurd ((show(relabel sc X.env).names.lookup x=some .cell from y).symm.trans z) (by intro q; cases q)
     .exact absurd ((show(relabel sc X.env).names.lookup x=some .free from y).symm.trans z) (by intro q; cases q)
    .exact .inl z
    .exact .inr z
 .obtain⟨v,z⟩:=I.cell x c (h1 x c hx).1
  exact⟨v,B8 x c v (h1 x c hx).1 z⟩
 .exact I.fg x c (h1 x c hx).1
 .have Ga:p∈X.pn++U:=by simpa [gv] using hp
  refine Lf (I.pin p Ga) λe n ne nf d=>⟨keep _ _ e,n,Nat.ne_of_lt (Heap.lt_size e),λz=>?_,d⟩
  rcases List.mem_cons.mp (I.kj p.1 z) with y|y
  .exact ne y
  .exact nf y
 .show _=N'.length
  rw [S.len,List.length_append,List.length_replicate]
  unfold fy
  rw [List.length_map]
noncomputable def Ht (X:Cx) (U:List (Addr×Obj)) (H:Hp) (C:Addr):Prop:=
 H C=none/\C≠X.env.locals/\X.s₀.heap.objs.size<=C/\(∀x c,X.env.cells.lookup x=some c->c≠C)/\ ∀p∈X.pn++U,p.1≠C
theorem Inv.Hu (I:Inv X U σ H s) (h:Ht X U H C) (hs:Heap.SameBut C s.heap h'):Inv X U σ H {s with heap:=h'}:=by
 exact Lf h λa b c d e=>I.turned (t':=s.toks) (it:=C) (λb o hb q=>(hs.2 b hb).trans q) a b (.inr c) d e
theorem mQ {U:List (Addr×Obj)}{σ:St}{H1:Hp}{s2:Shared}{dF tg iter:Expr}{ifs:List Expr}{sc:Scope}{pos:Pos}{N':List Str}{k:Nat}{fr:List Nat}{cl:List (Str×Addr)}{fp:List Addr}{it:Addr}{tn:Nat->Heap->Prop}{J:It}
  {g:TG}{tt:TT}{te:TE}{E:Value->Shared->Prop}{Qe:Addr->Hp->Prop}{RR:Value->Addr->Result->Shared->Prop}
  (I2:Inv X U σ H1 s2) (T:nM X.prog X.w X.K tg J fp it tn) (cv:tn 0 s2.heap) (f2: ∀b∈fp,jN X U H1 b) (S:DR X.N X.env.scope sc N' k fr) (hc:X.calm=true)
  (h1: ∀x c,cl.lookup x=some c->X.env.cells.lookup x=some c/\(x,NameKind.free)∈sc.names) (h2: ∀x,(x,NameKind.free)∈sc.names-> ∃c,cl.lookup x=some c) (gk:nT k g)
  (DS: ∀C s H ex,PG (gv X sc cl C N' U s H ex) tg g/\uC (gv X sc cl C N' U s H ex) ifs tt/\PE (gv X sc cl C N' U s H ex) dF te)
  (hW: ∀p,H1 p=none-> ∃W:Nat->Nat->Hp->Prop,(∃m,W 0 m (upd H1 p (.lst [])))/\ ∀i m H,W i m H->
   (J.stop i H/\Qe p H)\/
   (J.go i H/\ ∀x H',J.vQ i H x H'->g x (List.replicate k none++fy fr σ) H' λvA H2=>tt vA H2 λb H3=>
    if b=true then te vA H3 λv H4=> ∃xs m',H4 p=some (.lst xs)/\xs.length < sizeLine/\m' < m/\W (i + 1) m' (upd H4 p (.lst (xs++[v])))
    else∃m',m' < m/\W (i + 1) m' H3))
  (SV: ∀a C s' H',Inv X U σ H' s'->Ht X U H' C->(∃m,s'.heap.Ns C m)->Qe a H'->RR (.ref a) C (.ok .next) s'):
  wpAny (model X.prog X.w) X.A (newList []) (λacc s3=>wpAny (model X.prog X.w) X.A (newFunctionEnv sc X.env.globals cl [] X.env.qual none .none (some X.env)) (λHv s4=>
   codeAny (model X.prog X.w) X.A (.compStart (.ListComp dF [⟨tg,iter,ifs,0⟩] sc pos) 0 (.ref it) acc {Hv with scope:=relabel sc X.env}) (RR acc Hv.locals) s4) E s3) E s2:=by
 have hD:H1 s2.heap.objs.size=none:=I2.fresh
 refine ao λnO=>?_
 obtain⟨W,⟨m0,w0⟩,turn⟩:=hW _ hD
 refine nO ?_
 have B9: ∀b∈fp,b < s2.heap.objs.size:=λb hb=>by
  exact ae (T.obj _ _ cv b hb) λo e _=>Heap.lt_size e
 refine wpAny_newObj_type ?_ (Nat.zero_le _)
 have I3:Inv X U σ (upd H1 s2.heap.objs.size (.lst [])) {s2 with heap:=s2.heap.push {cls:= .type "list",data:= .seq ([]:List Value).toArray}}:=I2.Hj (ys:=[]) (its:=[]) (t':=s2.toks) .nil (Nat.zero_le _)
 have B_: ∀b o,s2.heap.get? b=some o->(s2.heap.push {cls:= .type "list",data:= .seq ([]:List Value).toArray}).get? b=some o:=λb o e=>Heap.get?_push_of_some _ e
 have ne: ∀b∈fp,b≠s2.heap.objs.size:=λb hb=>Nat.ne_of_lt (B9 b hb)
 have f3: ∀b∈fp,jN X U (upd H1 s2.heap.objs.size (.lst [])) b:=λb hb=>⟨by rw [ak (ne b hb)]; exact(f2 b hb).1,(f2 b hb).2⟩
 have DT: ∀b∈fp,b < (s2.heap.push {cls:= .type "list",data:= .seq ([]:List Value).toArray}).objs.size :=λb hb=>by
  rw [Heap.size_push]; exact Nat.lt_succ_of_lt (B9 b hb)
 have kn:tn 0 (s2.heap.push {cls:= .type "list",data:= .seq ([]:List Value).toArray}):=T.keep _ _ _ cv λb _ o e=>B_ b o e
 generalize SW:({s2 with heap:=s2.heap.push {cls:= .type "list",data:= .seq ([]:List Value).toArray}}:Shared)=s3 at *
 have SY:s3.heap=s2.heap.push {cls:= .type "list",data:= .seq ([]:List Value).toArray}:=by rw [<-SW]
 rw [<-SY] at B_ DT kn
 refine wpAny_newFunctionEnv S.rf (by intro y hy; simp at hy) (λh4 S0 S1=>?_) S.kind
 generalize eH:upd H1 s2.heap.objs.size (.lst [])=H3 at *
 generalize eD:s2.heap.objs.size=D at *
 have Ca: ∀b o,s3.heap.get? b=some o->h4.get? b=some o:=λb o e=>(S1.2 b (Nat.ne_of_lt (Heap.lt_size e))).trans (Heap.get?_push_of_some _ e)
 have J4:Inv (gv X sc cl s3.heap.objs.size N' U s3 H3 fp) [] (List.replicate k none++fy fr σ) H3 {s3 with heap:=h4,toks:=s3.toks + ([]:List (Str×Value)).length}:=
  wq (s4:={s3 with heap:=h4,toks:=s3.toks + ([]:List (Str×Value)).length}) I3 S h1 h2 f3 DT rfl rfl Ca S0
 have KC:tn 0 h4:=T.keep _ _ _ kn λb _ o e=>Ca b o e
 refine cK (DS s3.heap.objs.size s3 H3 fp) λpg pt pe=>?_
 have qP: ∀{H':Hp},(∀b∈fp,H' b=none)-> ∀b∈fp,jN (gv X sc cl s3.heap.objs.size N' U s3 H3 fp) [] H' b:=λ{H'} hn b hb=>by
  refine ao λnO=>rX (f3 b hb) λ_ a1 a2 a3 a4 a5=>nO ?_
  refine⟨hn b hb,Nat.ne_of_lt (DT b hb),λz=>?_,.inl hb,λx c hx=>a4 x c (h1 x c hx).1,λp hp=>a5 p (by simpa [gv] using hp)⟩
  rcases List.mem_cons.mp (I3.kj b z) with y|y
  .exact a1 y
  .exact a2 y
 have fin: ∀{s':Shared}{H':Hp},Inv (gv X sc cl s3.heap.objs.size N' U s3 H3 fp) [] (List.replicate k none++fy fr σ) H' s'->Qe D H'->RR (.ref D) s3.heap.objs.size (.ok .next) s':=λ{s' H'} J5 q=>by
  refine SV D s3.heap.objs.size s' H' ?_ ⟨J5.free,(Nat.ne_of_lt I3.lt).symm,I3.sz,λx c hx z=>?_,λp hp z=>?_⟩ (let ⟨m,hn,_⟩:=J5.loc; ⟨m,hn⟩) q
  .exact I3.GJ (ch:=fp) J5.os J5.base J5.aN J5.bare λb hb=>let ⟨_,a1,a2,a3,a4,a5⟩:=f3 b hb; ⟨a3,a1,a4,a5⟩
  .exact ao λnO=>gu (I3.cell x c hx) λv o ho _=>nO <| absurd (Heap.lt_size ho) (by rw [z]; exact Nat.lt_irrefl _)
  .exact absurd (Heap.lt_size (I3.pin p hp).1) (by rw [z]; exact Nat.lt_irrefl _)
 have loop: ∀s5:Shared,s5={s3 with heap:=h4,toks:=s3.toks + ([]:List (Str×Value)).length}->codeAny (model X.prog X.w) X.A (.compLoop (.ListComp dF [⟨tg,iter,ifs,0⟩] sc pos) 0 (.ref it) (.ref D) (compEnvC sc cl s3.heap.objs.size X.env)) (RR (.ref D) s3.heap.objs.size) s5:=by
  rintro s5 rfl
  refine q_ (λn s'=> ∃i H',Inv (gv X sc cl s3.heap.objs.size N' U s3 H3 fp) [] (List.replicate k none++fy fr σ) H' s'/\tn i s'.heap/\(∀b∈fp,H' b=none)/\W i n H') ?_ m0 ⟨0,H3,J4,KC,λb hb=>(f3 b hb).1,w0⟩
  rintro n s5 ⟨i,H5,J5,vT,Ku,w5⟩
  rcases turn i n H5 w5 with ⟨stop,qn⟩|⟨go,step⟩
  .refine bz (T.done (gv X sc cl s3.heap.objs.size N' U s3 H3 fp) rfl rfl rfl hc i [] s5 _ H5 (λ_ _=>False) J5 (qP Ku) vT stop) λr s6 zz=>?_
   obtain⟨hr,J6⟩:=zz
   subst hr
   exact fin J6 qn
  .refine bz (T.item (gv X sc cl s3.heap.objs.size N' U s3 H3 fp) rfl rfl rfl hc i [] s5 _ H5 (λ_ _=>False) J5 (qP Ku) vT go) λr s6 zz=>ao λnO=>ae zz λu hr h6=>?_
   subst hr
   refine nO <| bz h6 λ_ s7 zz=>ao λnO=>jM zz λx H7 J7 r7 y7 Md S2=>nO ?_
   have S3:=J7.pinned (qP S2) (T.obj _ _ Md)
   refine bz (pg _ s7 _ H7 x u _ S3 r7 (gk _ _ _ _ (step x H7 y7))) λ_ s8 zz=>ao λnO=>fW zz λKD H8 J8 q8 l8 k8=>nO ?_
   have back: ∀{s9:Shared}{H9:Hp}{m:Nat},Inv (gv X sc cl s3.heap.objs.size N' U s3 H3 fp) ([]++km fp s7.heap) KD H9 s9->m < n->W (i + 1) m H9->
     ∃m,m < n/\ ∃i H',Inv (gv X sc cl s3.heap.objs.size N' U s3 H3 fp) [] (List.replicate k none++fy fr σ) H' s9/\tn i s9.heap/\(∀b∈fp,H' b=none)/\W i m H':=λ{s9 H9 m} J9 hm w9=>by
    refine⟨m,hm,i + 1,H9,(J9.gZ).weak l8.symm λj v e=>?_,T.keep _ _ _ Md λb hb o e=>(J9.pin (b,o) (List.mem_append_right _ (List.mem_append_right _ (eM hb e)))).1,λb hb=>?_,w9⟩
    .by_cases hj:j < k
     .rw [List.getElem?_append_left (by simpa using hj),List.getElem?_replicate_of_lt hj] at e
      cases e
     .rw [k8 j (Nat.le_of_not_lt hj)]; exact e
    .exact ae (T.obj _ _ Md b hb) λo e _=>(J9.pin (b,o) (List.mem_append_right _ (List.mem_append_right _ (eM hb e)))).2.1
   refine bz (pt _ s8 KD H8 _ J8 q8) λb s9 zz=>ae zz λH9 J9 q9=>?_
   cases b with
   |false=>
    rw [if_neg Bool.false_ne_true] at q9 ⊢
    exact ae q9 λm' hm w'=>back J9 hm w'
   |true=>
    rw [if_pos rfl] at q9 ⊢
    refine bz (pe _ s9 KD H9 _ J9 q9) λy yX zz=>ao λnO=>?_
    obtain⟨v,Me,S4,S5,xs,m',hx,hl,hm,w'⟩:=zz
    refine nO <| bz (mN _ yX KD Me (.ref D) [v] (.ref D) [y] (λ_ Mf=> ∃m',m' < n/\W (i + 1) m' Mf) S4 rfl (.cons S5 .nil) ⟨D,xs,v,rfl,rfl,hx,hl,m',hm,w'⟩) λ_ uE zz=>ao λnO=>?_
    obtain⟨_,Mf,S6,_,WO,Hw,S7⟩:=zz
    exact nO <| back S6 Hw S7
 exact codeAny_compStart_list (loop _ rfl) (T.self X.A 0 _ _ _ KC (loop _ rfl))
theorem pI (I:Inv X U σ H s) (S:DR X.N X.env.scope sc N' k fr):
  ∃cl,closureFor sc X.env=pure cl/\(∀x c,cl.lookup x=some c->X.env.cells.lookup x=some c/\(x,NameKind.free)∈sc.names)/\(∀x,(x,NameKind.free)∈sc.names-> ∃c,cl.lookup x=some c):=
 q5 λy hy hf=>I.ok.has y.1 (S.free y hy hf)
theorem sv {dF tg iter:Expr}{ifs:List Expr}{sc:Scope}{pos:Pos}{N':List Str}{k:Nat}{fr:List Nat}{wi:TI}{g:TG}{tt:TT}{te:TE} (hi:PI X tg iter wi) (S:DR X.N X.env.scope sc N' k fr) (hc:X.calm=true) (gk:nT k g)
  (DS: ∀cl C U s H ex,PG (gv X sc cl C N' U s H ex) tg g/\uC (gv X sc cl C N' U s H ex) ifs tt/\PE (gv X sc cl C N' U s H ex) dF te)
  (hs: ∀x,foldedSetIterable iter X.env x=pure x):PE X (.ListComp dF [⟨tg,iter,ifs,0⟩] sc pos) (mP k fr wi g tt te):=by
 intro U s σ H Q I h
 refine bA (pI I S) λcl Mi h1 h2=>?_
 rw [eval_ListComp]
 refine wpAny_comprehension_free (use:=none) (g:=⟨tg,iter,ifs,0⟩) (gs:=[]) rfl hs Mi S.kind S.loc <| bz (hi U s σ H _ I h) λv s1 q1=>bz q1 λKs s2 q2=>QK q2 λit fp tn J H2 e I2 T cv f2 hW=>?_
 subst e
 refine mQ (Qe:=λp H=>Q (.ref p) H) (RR:=λacc C=>compPost (model X.prog X.w) X.A X.xe none (EP X U σ Q) acc C) I2 T cv f2 S hc h1 h2 gk (λC s H ex=>DS cl C U s H ex) hW ?_
 intro a C s' H' I' off ⟨m,hn⟩ q
 exact⟨m,hn,λh' Cb=>⟨.ref a,H',I'.Hu off Cb,rfl,q⟩⟩
theorem kB {dF tg iter:Expr}{ifs:List Expr}{sc:Scope}{pos Hx py:Pos}{N':List Str}{k:Nat}{fr:List Nat}{wi:TI}{g:TG}{tt:TT}{te:TE}{y:Str}{j:Nat} (hi:PI X tg iter wi) (S:DR X.N X.env.scope sc N' k fr) (hc:X.calm=true) (gk:nT k g)
  (DS: ∀cl C U s H ex,PG (gv X sc cl C N' U s H ex) tg g/\uC (gv X sc cl C N' U s H ex) ifs tt/\PE (gv X sc cl C N' U s H ex) dF te)
  (hs: ∀x,foldedSetIterable iter X.env x=pure x) (hN:X.N.Nodup) (hj:X.N[j]?=some y) (hy:X.env.scope.names.lookup y=some .local)
  (S8:swapsWith (.ListComp dF [⟨tg,iter,ifs,0⟩] sc pos) (some (.Name y py)) Hx.line X.env=pure true):
  PS X (.Assign [.Name y py] (.ListComp dF [⟨tg,iter,ifs,0⟩] sc pos) Hx) (lY (mP k fr wi g tt te) (cw j)):=by
 intro U s σ H D I h
 refine bA (pI I S) λcl Mi h1 h2=>?_
 rw [exec_Assign_Name_used _ _ _ _ S8]
 refine wpAny_bind (wpAny_standAt (wpAny_bind ?_))
 show wpAny _ _ (do let _<-comprehension (.ListComp dF [⟨tg,iter,ifs,0⟩] sc pos) sc X.env _ (newList []) false (eval iter X.env) (some (assign (.Name y py) X.env))) _ _ s
 refine wpAny_bind (wpAny_mono (wpAny_comprehension_free (g:=⟨tg,iter,ifs,0⟩) (gs:=[]) (use:=some (assign (.Name y py) X.env)) (Q:=λ_ s'=>SP X U D .next s') rfl hs Mi S.kind S.loc ?_) (λ_ s' hq=>wpAny_pure (wpAny_pure hq)) λ_ _ e=>e)
 refine bz (hi U s σ H _ I h) λv s1 q1=>bz q1 λKs s2 q2=>QK q2 λit fp tn J H2 e I2 T cv f2 hW=>?_
 subst e
 refine mQ (Qe:=λp H=>D.nx (σ.set j (some (.ref p))) H) (RR:=λacc C=>compPost (model X.prog X.w) X.A X.xe (some (assign (.Name y py) X.env)) (λ_ s'=>SP X U D .next s') acc C) I2 T cv f2 S hc h1 h2 gk (λC s H ex=>DS cl C U s H ex) hW ?_
 intro a C s' H' I' off ⟨m,hn⟩ q
 show wpAny _ _ (assign (.Name y py) X.env (.ref a)) _ _ _
 refine wpAny_assign_Name (mG I' hN hj (.inl hy) (v:= .ref a) rfl (λG6 S9 sb=>?_) (.inr hy))
 refine ae sb λb hb i8=>?_
 have S_:C≠b:=by
  rintro rfl
  rcases i8 with z|z
  .exact off.2.1 z
  .exact off.2.2.2.1 _ _ z rfl
 exact⟨m,hn.sameBut hb S_,λh' Cb=>⟨_,H',S9.Hu off Cb,q⟩⟩
end
end L2
namespace bI
noncomputable def bh:List Int->List Int->Bool
 |[],[]=>false
 |[],_::_=>true
 |_::_,[]=>false
 |n::u,m::v=>if n=m then bh u v else decide (n < m)
noncomputable def uF (x:List Int):List (List Int)->List (List Int)
 |[]=>[x]
 |y::r=>if bh y x then y::uF x r else x::y::r
noncomputable def aK:List (List Int)->List (List Int)
 |[]=>[]
 |x::r=>uF x (aK r)
noncomputable def gn:List Int->List (List Int)->List Int
 |a,[]=>a
 |a,b::r=>gn (if bh b a then b else a) r
end bI
namespace Py
open PySem
set_option genInjectivity false
inductive D where
 |eK|bl (b:Bool)|int (i:Int)|tup (xs:List D)|lst (xs:List D)
  |bF (t:Nat) (ks:List (List Int)) (vs:List D)
 deriving Inhabited
noncomputable def bJ:Nat:=16777216
mutual
noncomputable def jD:D->D->Bool
 | .eK,b=>match b with| .eK =>true| .bF _ _ _=>true|_=>false
 | .bl x,b=>match b with| .bl y=>x == y| .int j=>(if x then 1 else 0) == j|_=>false
 | .int i,b=>match b with| .bl y=>i == (if y then 1 else 0)| .int j=>i == j|_=>false
 | .tup xs,b=>match b with| .tup ys=>wt xs ys|_=>false
 | .lst xs,b=>match b with| .lst ys=>wt xs ys|_=>false
 | .bF _ _ _,b=>match b with| .eK =>true| .bF _ _ _=>true|_=>false
noncomputable def wt:List D->List D->Bool
 |[],ys=>match ys with|[]=>true|_=>false
 |x::xs,ys=>match ys with|[]=>false|y::ys=>jD x y && wt xs ys
end
mutual
noncomputable def aB:D->Bool
 | .tup xs=>aR xs
 | .lst _=>false
 | .bF _ _ _=>false
 |_=>true
noncomputable def aR:List D->Bool
 |[]=>true
 |x::xs=>aB x && aR xs
end
mutual
noncomputable def dG:D->Nat->Bool
 | .tup xs,n=>match n with|0=>false|n + 1=>fJ xs n
 | .lst xs,n=>match n with|0=>false|n + 1=>fJ xs n
 | .bF _ _ _,_=>false
 |_,_=>true
noncomputable def fJ:List D->Nat->Bool
 |[],_=>true
 |x::xs,n=>dG x n && fJ xs n
end
theorem mR (n:Nat): ∀ns:List Int,fJ (ns.map .int) n=true
 |[]=>by simp [fJ]
 |i::ns=>by simp [fJ,dG,mR n ns]
noncomputable def kC:D->Bool
 | .bF t _ _=>t == 2
 |_=>false
@[simp] def DU:D->Bool
 | .bF _ _ _=>false
 |_=>true
inductive rg where
 |len|tuple|list|min|sorted
 deriving DecidableEq,Inhabited
inductive QZ where
 |index
 deriving DecidableEq,Inhabited
inductive E where
 |nil|cons (a r:E)
 |var (i:Nat)
 |c (d:D)
 |bin (o:Operator) (a b:E)
 |cmp (o:CmpOp) (a b:E)
 |qH (k:Bool) (es:E)|not (a:E)
  |vC (a:E) (b:Bool)
 |tup (es:E)|lst (es:E)
 |idx (a i:E)
 |sl (a lo hi:E)
 |call (f:Nat) (es:E)
 |prim (p:rg) (es:E)
 |dZ (m:QZ) (o:E) (es:E)
 |comp (fr:List Nat) (tg:Nat) (it ifs dF:E)
 |dQ (es:E)|zL (a:E)|it (a:E)
 |iZ (p:rg) (es:E)
  |dm (i:Nat) (k:E)
 |uG (neg:Bool) (k:E) (i:Nat)
  |dM (i:Nat)
 |dk (i:Nat)|dv (i:Nat)
 |Cc (a:E)
 deriving Inhabited
noncomputable abbrev Env:=List (Option (Bool×D))
noncomputable abbrev FT:=Nat->List D->Option D
noncomputable def rd (b:Bool) (ρ:Env) (i:Nat):Option D:=
 match ρ[i]? with
 |some (some (o,d))=>if o && !(b && DU d) then none else some d
 |_=>none
noncomputable def j0 (ρ:Env) (i:Nat):Bool:=
 match ρ[i]? with
 |some (some (o,_))=>o
 |_=>false
noncomputable def kD (ρ:Env):E->Bool
 | .cons (.var i) r=>j0 ρ i || kD ρ r
 | .cons _ r=>kD ρ r
 |_=>false
noncomputable def cF (i j:Int):Bool:=(decide (-(2 ^ 64) < i) && decide (i < 2 ^ 64)) || (decide (-(2 ^ 64) < j) && decide (j < 2 ^ 64))
noncomputable def bin (o:Operator) (x y:D):Option D:=
 match o with
 | .Add =>match x,y with
  | .int i,.int j=>some (.int (i + j))
  | .lst a,.lst b=>if a.length + b.length<=bJ then some (.lst (a++b)) else none
  |_,_=>none
 | .Mult =>match x,y with
  | .int i,.int j=>if cF i j then some (.int (i * j)) else none
  |_,_=>none
 | .FloorDiv =>match x,y with
  | .int i,.int j=>if 0 < j/\j < 1073741824 then some (.int (i / j)) else none
  |_,_=>none
 | .Mod =>match x,y with
  | .int i,.int j=>if 0 < j then some (.int (i % j)) else none
  |_,_=>none
 |_=>none
noncomputable def aX:List D->Option (List Int)
 |[]=>some []
 | .int i::r=>(aX r).map (i:: ·)
 |_::_=>none
noncomputable def dH (t:Nat) (x:D):Option (List Int):=
 match x with
 | .int i=>if t=0 then some [i] else none
 | .tup xs=>if t=0 then none else aX xs
 |_=>none
noncomputable def ic:List (List Int)->List D->List Int->Option D
 |k::ks,v::vs,x=>if k=x then some v else ic ks vs x
 |_,_,_=>none
noncomputable abbrev Q0:=Nat×List (List Int)×List D
noncomputable def ie (ρ:List (Option (Bool×D))) (i:Nat):Option Q0:=
 match ρ[i]? with
 |some (some (_,.bF t ks vs))=>if t=2 then none else some (t,ks,vs)
 |_=>none
noncomputable def keysAt (ρ:List (Option (Bool×D))) (i:Nat):Option (List D):=
 match ρ[i]? with
 |some (some (false,.bF 0 ks _))=>some (ks.map λk=> .int (k.headD 0))
 |_=>none
noncomputable def nU (ρ:List (Option (Bool×D))) (i:Nat):Option (List D):=
 match ρ[i]? with
 |some (some (false,.bF 0 _ vs))=>some vs
 |_=>none
noncomputable def jE (ρ:List (Option (Bool×D))) (i:Nat):Option (List D):=
 match ρ[i]? with
 |some (some (_,.lst xs))=>some xs
 |_=>none
noncomputable def wu (t:Nat):List D->Option D
 |[k,v]=>(dH t k).map λx=> .bF t [x] [v]
 |_=>none
noncomputable def cmp (o:CmpOp) (x y:D):Option Bool:=
 match o with
 | .Eq =>if dG x 60 && dG y 60 then some (jD x y) else none
 | .NotEq =>if dG x 60 && dG y 60 then some (!jD x y) else none
 | .Lt =>match x,y with
  | .int i,.int j=>some (decide (i < j))
  |_,_=>none
 |_=>none
noncomputable def cu (n:Nat) (i:Int):Option Nat:=if 0<=i then(if i < n then some i.toNat else none) else if -(n:Int)<=i then some (i + n).toNat else none
noncomputable def item (x i:D):Option D:=
 match x,i with
 | .lst xs,.int k=>(cu xs.length k).bind λj=>xs[j]?
 | .tup xs,.int k=>(cu xs.length k).bind λj=>xs[j]?
 |_,_=>none
noncomputable def bound (n d:Nat):Option Int->Nat
 |none=>d
 |some v=>(if v < 0 then max (v + (n:Int)) 0 else min v (n:Int)).toNat
noncomputable def vD (xs:List D) (lo hi:Option Int):List D:=(xs.drop (bound xs.length 0 lo)).take (bound xs.length xs.length hi - bound xs.length 0 lo)
noncomputable def insI (x:Int):List Int->List Int
 |[]=>[x]
 |y::r=>if x<=y then x::y::r else y::insI x r
noncomputable def sortI:List Int->List Int
 |[]=>[]
 |x::r=>insI x (sortI r)
noncomputable def dS:List D->Option (List (List Int))
 |[]=>some []
 | .tup xs::r=>(aX xs).bind λk=>if k=[] then none else(dS r).map (k:: ·)
 |_::_=>none
noncomputable def mh (k:List Int):D:= .tup (k.map .int)
noncomputable def gp:Int->List Int->Int
 |a,[]=>a
 |a,b::r=>gp (if b < a then b else a) r
noncomputable def seq:D->Option (List D)
 | .lst xs=>some xs
 | .tup xs=>some xs
 |_=>none
noncomputable def prim (p:rg) (xs:List D):Option D:=
 match p with
 | .len =>match xs with
  |[x]=>(seq x).map λys=> .int ys.length
  |_=>none
 | .tuple =>match xs with
  |[x]=>(seq x).map .tup
  |_=>none
 | .list =>match xs with
  |[x]=>(seq x).map .lst
  |_=>none
 | .min =>match xs with
  |[x]=>(seq x).bind λys=>match aX ys with
   |some ns=>match ns with|[]=>none|a::r=>some (.int (gp a r))
   |none=>match x with
    | .lst zs=>(dS zs).bind λks=>match ks with|[]=>none|a::r=>some (mh (bI.gn a r))
    |_=>none
  |_=>none
 | .sorted =>match xs with
  |[x]=>(seq x).bind λys=>(dS ys).map λks=> .lst ((bI.aK ks).map mh)
  |_=>none
noncomputable def dI (k:Int):List Int->Option Nat
 |[]=>none
 |n::r=>if n=k then some 0 else(dI k r).map (· + 1)
noncomputable def dZ (m:QZ) (o:D) (xs:List D):Option D:=
 match m,o,xs with
 | .index,.tup ys,[.int k]=>(aX ys).bind λns=>(dI k ns).map λ(i:Nat)=> .int (i:Int)
 |_,_,_=>none
noncomputable def br (lo:Int):Nat->List D
 |0=>[]
 |n + 1=> .int lo::br (lo + 1) n
noncomputable def dn (xs:List D):Option (List D):=
 match xs with
 |[.int n]=>if -(2 ^ 62)<=n/\n<=bJ then some (br 0 n.toNat) else none
 |_=>none
noncomputable def bM (k:Int):List D->List D
 |[]=>[]
 |x::r=> .tup [.int k,x]::bM (k + 1) r
noncomputable def aM (tg:Nat) (x:D):Option (List D):=
 match tg with
 |0=>some [x]
 |n + 1=>match x with
  | .tup xs=>if xs.length=n + 1 then some xs else none
  |_=>none
noncomputable def uH (ρ:Env) (fr:List Nat):Env:=fr.map λi=>(ρ[i]?).join
noncomputable def Q2:D->Option Bool
 | .bl b=>some b
 |_=>none
noncomputable def walk (f:D->Option (Option D)):List D->Option (List D)
 |[]=>some []
 |x::r=>match f x with
  |none=>none
  |some none=>walk f r
  |some (some y)=>(walk f r).map (y:: ·)
noncomputable def eO:D->Option Bool
 | .bl b=>some b
 |_=>none
noncomputable def zM:D->Option Int
 | .int i=>some i
 |_=>none
noncomputable def cutD (x:D) (l h:Option Int):Option D:=
 match x with
 | .lst xs=>some (.lst (vD xs l h))
 | .tup xs=>some (.tup (vD xs l h))
 |_=>none
noncomputable def mi (p:rg) (xs:List D):Option D:=
 match p with
 | .list =>some (.lst xs)
 | .tuple =>some (.tup xs)
 |_=>none
noncomputable def inner (ys:List D) (ρ:Env) (fr:List Nat):Env:=ys.map (λy=>some (false,y))++uH ρ fr
mutual
noncomputable def ev (F:FT):Bool->E->Env->Option D
 |b,.var i,ρ=>rd b ρ i
 |_,.c d,_=>some d
 |_,.bin o a b,ρ=>(ev F true a ρ).bind λx=>(ev F true b ρ).bind λy=>bin o x y
 |_,.cmp o a b,ρ=>(ev F true a ρ).bind λx=>(ev F true b ρ).bind λy=>(cmp o x y).map .bl
 |_,.qH k es,ρ=>(gM F k es ρ).map .bl
 |_,.not a,ρ=>((ev F false a ρ).bind eO).map λk=> .bl !k
 |_,.vC a b,ρ=>((ev F false a ρ).bind zM).map λ_=> .bl !b
 |_,.tup es,ρ=>(cx F false es ρ).bind λxs=>if xs.length<=bJ then some (.tup xs) else none
 |_,.lst es,ρ=>(cx F false es ρ).bind λxs=>if xs.length<=bJ then some (.lst xs) else none
 |_,.idx a i,ρ=>(ev F true a ρ).bind λx=>(ev F false i ρ).bind λk=>item x k
 |_,.sl a lo hi,ρ=>(ev F true a ρ).bind λx=>(Gb F lo ρ).bind λl=>(Gb F hi ρ).bind λh=>cutD x l h
 |_,.call f es,ρ=>(cx F true es ρ).bind λxs=>(F f xs).bind λd=>if kD ρ es && !aB d then none else some d
 |_,.prim p es,ρ=>(cx F true es ρ).bind λxs=>prim p xs
 |_,.iZ p es,ρ=>((cx F false es ρ).bind dn).bind (mi p)
 |_,.dZ m o es,ρ=>(ev F true o ρ).bind λx=>(cx F true es ρ).bind λxs=>dZ m x xs
 |_,.comp fr tg it ifs dF,ρ=>(kE F true it ρ).bind λxs=>if xs.length<=bJ then(walk (λx=>(aM tg x).bind λys=>
   (gM F true ifs (inner ys ρ fr)).bind λk=>if k then(ev F false dF (inner ys ρ fr)).map some else some none) xs).map .lst else none
 |_,.dm i k,ρ=>(ie ρ i).bind λd=>((ev F false k ρ).bind (dH d.1)).bind λx=>ic d.2.1 d.2.2 x
 |_,.uG neg k i,ρ=>((ev F false k ρ).bind λy=>(ie ρ i).bind λd=>(dH d.1 y).map λx=> .bl (if neg then !decide (x∈d.2.1) else decide (x∈d.2.1)))
 |_,.dM i,ρ=>(ie ρ i).bind λd=>if d.1=0 then(if d.2.1.length < 64 then some (.lst ((sortI (d.2.1.map λk=>k.headD 0)).map .int)) else none)
   else if []∈d.2.1 then none else some (.lst ((bI.aK d.2.1).map mh))
 |_,.nil,_=>none
 |_,.cons _ _,_=>none
 |_,.dQ _,_=>none
 |_,.zL _,_=>none
 |_,.it _,_=>none
 |_,.dk _,_=>none
 |_,.dv _,_=>none
 |_,.Cc _,_=>none
noncomputable def cx (F:FT):Bool->E->Env->Option (List D)
 |_,.nil,_=>some []
 |b,.cons a r,ρ=>(ev F b a ρ).bind λx=>(cx F b r ρ).bind λxs=>some (x::xs)
 |_,_,_=>none
noncomputable def Gb (F:FT):E->Env->Option (Option Int)
 | .nil,_=>some none
 | .cons a _,ρ=>((ev F false a ρ).bind zM).map some
 |_,_=>none
noncomputable def gM (F:FT):Bool->E->Env->Option Bool
 |k,.nil,_=>some k
 |k,.cons a r,ρ=>((ev F false a ρ).bind eO).bind λx=>if x=k then gM F k r ρ else some x
 |_,_,_=>none
noncomputable def kE (F:FT):Bool->E->Env->Option (List D)
 |_,.dQ es,ρ=>(cx F false es ρ).bind dn
 |b,.zL a,ρ=>(ev F b a ρ).bind λx=>(seq x).map (bM 0)
 |b,.it a,ρ=>(ev F b a ρ).bind seq
 |_,.dk i,ρ=>keysAt ρ i
 |_,.dv i,ρ=>nU ρ i
 |b,.Cc a,ρ=>(ev F false a ρ).bind λx=>match x with| .tup xs=>some xs.reverse|_=>none
 |_,_,_=>none
end
inductive C where
 |skip|seq (a b:C)
 |asg (i:Nat) (e:E)
  |cC (i:Nat) (e:E)
 |mj (i:Nat) (ix e:E)
 |app (i:Nat) (e:E)
 |ret (e:E)
 |ifs (c:E) (t u:C)
 |while (c:E) (b:C)
 |for (is:List Nat) (tg:Nat) (it:E) (b:C)
  |nV (i:Nat) (t:Nat) (es:E)
  |pJ (i:Nat) (k e:E)
  |Cd (i j:Nat)
  |pop (i j:Nat)
  |ext (i:Nat) (e:E)
  |fst (x:Nat) (fr:List Nat) (it k v:E) (c1:C) (y r f:Nat) (c2:C) (m:Nat) (c3:C) (p q u:E) (g:Nat) (w:E)
 deriving Inhabited
inductive i9 where
 |next (ρ:Env)|brk (ρ:Env)|cont (ρ:Env)|ret (d:D)
 deriving Inhabited
noncomputable def put (ρ:Env) (i:Nat) (o:Bool) (d:D):Env:=ρ.set i (some (o,d))
noncomputable def cX (ρ:Env):List Nat->List D->Option Env
 |[],[]=>some ρ
 |i::is,d::ds=>cX (put ρ i false d) is ds
 |_,_=>none
noncomputable def gx:Nat:=1000000
noncomputable def ig (c:Env->Option Bool) (b:Env->Option i9):Nat->Env->Option i9
 |0,_=>none
 |n + 1,ρ=>(c ρ).bind λk=>if k then(b ρ).bind λo=>match o with
   | .next ρ'=>ig c b n ρ'
   | .cont ρ'=>ig c b n ρ'
   | .brk ρ'=>some (.next ρ')
   | .ret d=>some (.ret d)
  else some (.next ρ)
noncomputable def aH (b:D->Env->Option i9):List D->Env->Option i9
 |[],ρ=>some (.next ρ)
 |x::r,ρ=>(b x ρ).bind λo=>match o with
   | .next ρ'=>aH b r ρ'
   | .cont ρ'=>aH b r ρ'
   | .brk ρ'=>some (.next ρ')
   | .ret d=>some (.ret d)
noncomputable def eQ (it:E) (ρ:Env):Env:=
 match it with
 | .it (.var i)=>match ρ[i]? with
  |some (some (true,.lst xs))=>ρ.set i (some (false,.lst xs))
  |_=>ρ
 | .zL (.var i)=>match ρ[i]? with
  |some (some (true,.lst xs))=>ρ.set i (some (false,.lst xs))
  |_=>ρ
 |_=>ρ
noncomputable def gN (ρ:Env) (i:Nat):Option (List D):=
 match ρ[i]? with
 |some (some (true,.lst xs))=>some xs
 |_=>none
noncomputable def wx (ρ:Env) (i:Nat):Option Q0:=
 match ρ[i]? with
 |some (some (true,.bF t ks vs))=>if t=2 then none else some (t,ks,vs)
 |_=>none
noncomputable def wy (T:List D) (q:Nat) (k:List Int) (v:D):Option (List D):=
 match T[q]? with
 |some (.bF 0 ks vs)=>if ks.length < bJ/\k∉ks then some (T.set q (.bF 0 (ks++[k]) (vs++[v]))) else none
 |_=>none
noncomputable def rh:D:= .bF 2 [] []
noncomputable def ij (ρ:Env) (x:Nat):Bool:=
 match ρ[x]? with
 |some (some (true,.bF t [] []))=>t == 2
 |_=>false
noncomputable def pK (ρ:Env):Bool:=ρ.all λo=>match o with
 |some (_,d)=>!kC d
 |none=>true
noncomputable def ik (F:FT) (x y r f:Nat) (c2:Env->Option i9) (m:Nat) (c3:Env->Option i9) (p q u:Env->Option D) (g:Nat) (w:Env->Option D) (T:List D) (ρ:Env) (l:List D):Option (List D×Env):=
 (l.getLast?).bind λz=>(F f [.lst T,z]).bind λd=>if aB z && aB d then
  (c2 (put (put ρ y true (.lst l.dropLast)) r false d)).bind λo=>match o with
  | .next Ce=>if ij Ce x then(jE Ce m).bind λms=>if ms.isEmpty then some (T,Ce) else(c3 Ce).bind λo=>match o with
   | .next nW=>if ij nW x then(u nW).bind λuv=>if aB uv then((p nW).bind zM).bind λpi=>(cu T.length pi).bind λpq=>((q nW).bind (dH 0)).bind λkk=>(wy T pq kk uv).bind λT'=>
     (w nW).bind λwv=>if aB wv then(F g [.lst T',wv]).bind λzd=>match zd with
     | .lst zs=>if aR zs then(gN nW y).bind λws=>if ws.length + zs.length<=bJ then some (T',put nW y true (.lst (ws++zs))) else none else none
     |_=>none
     else none
    else none
    else none
   |_=>none
   else none
  |_=>none
 else none
noncomputable def fK (tn:List D->Env->List D->Option (List D×Env)) (y:Nat):Nat->List D->Env->Option (List D)
 |0,_,_=>none
 |n + 1,T,ρ=>(gN ρ y).bind λl=>if l.isEmpty then some T else(tn T ρ l).bind λs=>fK tn y n s.1 s.2
noncomputable def pL (k v:Env->Option D) (fr:List Nat) (ρ:Env) (x:D):Option (Option D):=
 ((k (inner [x] ρ fr)).bind (dH 0)).bind λkk=>(v (inner [x] ρ fr)).bind λd=>if aB d then some (some (.bF 0 [kk] [d])) else none
noncomputable def ex (F:FT):C->Env->Option i9
 | .skip,ρ=>some (.next ρ)
 | .seq a b,ρ=>(ex F a ρ).bind λo=>match o with
  | .next ρ'=>ex F b ρ'
  |o=>some o
 | .asg i e,ρ=>(ev F false e ρ).map λd=> .next (put ρ i false d)
 | .cC i e,ρ=>(ev F false e ρ).bind λd=>match d with
  | .lst xs=>some (.next (put ρ i true (.lst xs)))
  |_=>none
 | .mj i ix e,ρ=>(ev F false e ρ).bind λd=>((ev F false ix ρ).bind zM).bind λk=>match ρ[i]? with
  |some (some (true,.lst xs))=>(cu xs.length k).map λj=> .next (put ρ i true (.lst (xs.set j d)))
  |_=>none
 | .app i e,ρ=>(ev F false e ρ).bind λd=>match ρ[i]? with
  |some (some (true,.lst xs))=>if xs.length < bJ then some (.next (put ρ i true (.lst (xs++[d])))) else none
  |_=>none
 | .ret e,ρ=>(ev F true e ρ).map .ret
 | .ifs c t u,ρ=>((ev F false c ρ).bind eO).bind λk=>if k then ex F t ρ else ex F u ρ
 | .while c b,ρ=>ig (λρ=>(ev F false c ρ).bind eO) (ex F b) gx ρ
 | .for is tg it b,ρ=>(kE F false it (eQ it ρ)).bind λxs=>aH (λx ρ=>(aM tg x).bind λys=>(cX ρ is ys).bind λρ'=>ex F b ρ') xs (eQ it ρ)
 | .nV i t es,ρ=>if t=2 then none else((cx F false es ρ).bind (wu t)).map λd=> .next (put ρ i true d)
 | .pJ i k e,ρ=>(ev F false e ρ).bind λy=>(wx ρ i).bind λd=>((ev F false k ρ).bind (dH d.1)).bind λx=>
   if d.2.1.length < bJ/\x∉d.2.1 then some (.next (put ρ i true (.bF d.1 (d.2.1++[x]) (d.2.2++[y])))) else none
 | .Cd i j,ρ=>(gN ρ j).map λxs=> .next (put (ρ.set j (some (false,.lst xs))) i false (.lst xs))
 | .pop i j,ρ=>(gN ρ j).bind λl=>(l.getLast?).map λz=> .next (put (put ρ j true (.lst l.dropLast)) i false z)
 | .ext i e,ρ=>(ev F false e ρ).bind λd=>match d with
  | .lst zs=>(gN ρ i).bind λws=>if ws.length + zs.length<=bJ then some (.next (put ρ i true (.lst (ws++zs)))) else none
  |_=>none
 | .fst x fr it k v c1 y r f c2 m c3 p q u g w,ρ=>(kE F true it ρ).bind λxs=>if xs.length<=bJ/\x≠y/\x < ρ.length/\pK ρ=true then(walk (pL (ev F false k) (ev F false v) fr ρ) xs).bind λT=>
   (ex F c1 (put ρ x true rh)).bind λo=>match o with
   | .next il=>if ij il x then(fK (ik F x y r f (ex F c2) m (ex F c3) (ev F false p) (ev F false q) (ev F false u) g (ev F false w)) y gx T il).map λT=> .ret (.lst T) else none
   |_=>none
  else none
structure Fd where
 par:Nat
 jP:Nat
 body:C
 deriving Inhabited
noncomputable def aq (d:Fd) (xs:List D):Env:=xs.map (λx=>some (false,x))++List.replicate (d.jP - d.par) none
noncomputable def out:Option i9->Option D
 |some (.ret d)=>some d
 |some (.next _)=>some .eK
 |_=>none
noncomputable def run (P:List Fd):Nat->FT
 |0,_,_=>none
 |n + 1,f,xs=>match P[f]? with
  |some d=>if xs.length=d.par then out (ex (run P n) d.body (aq d xs)) else none
  |none=>none
end Py
namespace L2
open PySem PyProof.Rows
theorem pM (val:Nat->Int): ∀(k:Nat),∀(ns:List Int),(∀i,i < k->ns[i]?=some (val (i + 1)))->val (argBest (λi j=>decide (val i < val j)) k)=Py.gp (val 0) (ns.take k):=by
 have snoc: ∀(ns:List Int) (a b:Int),Py.gp a (ns++[b])=if b < Py.gp a ns then b else Py.gp a ns:=by
  intro ns
  induction ns with
  |nil=>intro a b; rfl
  |cons x ns ih=>intro a b; exact ih _ b
 intro k
 induction k with
 |zero=>intro ns _; rfl
 |succ k ih=>
  intro ns h
  have hk:=h k (Nat.lt_succ_self k)
  have DV:=ih ns λi hi=>h i (Nat.lt_succ_of_lt hi)
  have e:ns.take (k + 1)=ns.take k++[val (k + 1)]:=by
   rw [List.take_add_one,hk]; rfl
  rw [e,snoc,<-DV]
  show val (if(decide (val (k + 1) < val (argBest _ k)))=true then k + 1 else argBest _ k)=_
  by_cases c:val (k + 1) < val (argBest (λi j=>decide (val i < val j)) k)
  .rw [if_pos (decide_eq_true c),if_pos c]
  .rw [if_neg (by simpa using c),if_neg c]
theorem ints_get: ∀{vs:List Value}{ns:List Int},IntsAre vs ns-> ∀(i:Nat) (v:Value),vs[i]?=some v-> ∃t,v= .int (ns.getD i 0) t:=λ{vs ns} h=>by
 induction h with
 |nil=>intro i v h; simp at h
 |cons n t r ih=>
  intro i v h
  cases i with
  |zero=>simp at h; subst h; exact⟨t,rfl⟩
  |succ i=>
   obtain⟨t',e⟩:=ih i v (by simpa using h)
   exact⟨t',by simpa using e⟩
section
variable {prog:Program}{w:World}{A:Around}{E:Value->Shared->Prop}{s:Shared}{l:Addr}
theorem jF (hh:A.handled=none) (hl:s.heap.IsList l vs.toArray\/IsTup s.heap l vs.toArray) (hi:IntsAre vs (n::ns))
  (h: ∀h' tk t,(∀b o,s.heap.get? b=some o->h'.get? b=some o)->Q (.int (Py.gp n ns) t) {s with heap:=h',toks:=tk}):wpAny (model prog w) A (call (.builtin "min") [.ref l]) Q E s:=by
 have len:=hi.length
 have DW: ∀(i:Nat) (v:Value),vs.toArray[i]?=some v-> ∃t,v=Value.int ((n::ns).getD i 0) t:=λi v e=>ints_get hi i v (by simpa using e)
 have best:(n::ns).getD (argBest (λi j=>decide ((n::ns).getD i 0 < (n::ns).getD j 0)) ns.length) 0=Py.gp n ns:=by
  have:=pM (λi=>(n::ns).getD i 0) ns.length ns (λi hi=>by simp [hi])
  simpa using this
 have fin: ∀(v:Value) (h':Heap) (tk:Nat),vs.toArray[argBest (λi j=>decide ((n::ns).getD i 0 < (n::ns).getD j 0)) (vs.toArray.size - 1)]?=some v->(∀b o,s.heap.get? b=some o->h'.get? b=some o)->Q v {s with heap:=h',toks:=tk}:=λv h' tk hP hk=>by
  have e:vs.toArray.size - 1=ns.length:=by rw [List.size_toArray,len]; simp
  rw [e] at hP
  obtain⟨t,rfl⟩:=DW _ v hP
  rw [best]
  exact h h' tk t hk
 have pos:0 < vs.toArray.size:=by rw [List.size_toArray,len]; simp
 rcases hl with hl|hl
 .have bZ:l < s.heap.objs.size:=by obtain⟨_,e,_⟩:=hl; exact Heap.lt_size e
  refine call_min_walk (wpAny_pyIter_list hl ?_)
  refine⟨_,[_,l],[_],_,_,_,_,rfl,Walks.list (A:=A.in1) hh s.heap.objs.size l (Nat.ne_of_lt bZ) vs.toArray,⟨⟨_,Heap.get?_push_size _ rfl,rfl,rfl⟩,hl.push _⟩,λb hb=>?_,pos,CmpOf.ints_lt (λi=>(n::ns).getD i 0) DW,λv h' tk hP hk=>fin v h' tk hP λb o e=>hk b o ?_ (Heap.get?_push_of_some _ e)⟩
  .show b < (s.heap.push _).objs.size
   rw [Heap.size_push]
   rcases List.mem_cons.mp hb with rfl|hb
   .exact Nat.lt_succ_self _
   .rw [List.mem_singleton.mp hb]; exact Nat.lt_succ_of_lt bZ
  .intro hm
   rw [List.mem_singleton.mp hm] at e
   exact absurd (Heap.lt_size e) (Nat.lt_irrefl _)
 .have nI:s.heap.IsTuple l vs.toArray:=hl
  have bZ:l < s.heap.objs.size:=by obtain⟨_,e,_⟩:=hl; exact Heap.lt_size e
  refine call_min_walk (wpAny_pyIter_tuple nI ?_)
  refine⟨_,[_,l],[_],_,_,_,_,rfl,Walks.tuple (A:=A.in1) hh s.heap.objs.size l (Nat.ne_of_lt bZ) vs.toArray,⟨⟨_,Heap.get?_push_size _ rfl,rfl,rfl⟩,nI.push _⟩,λb hb=>?_,pos,CmpOf.ints_lt (λi=>(n::ns).getD i 0) DW,λv h' tk hP hk=>fin v h' tk hP λb o e=>hk b o ?_ (Heap.get?_push_of_some _ e)⟩
  .show b < (s.heap.push _).objs.size
   rw [Heap.size_push]
   rcases List.mem_cons.mp hb with rfl|hb
   .exact Nat.lt_succ_self _
   .rw [List.mem_singleton.mp hb]; exact Nat.lt_succ_of_lt bZ
  .intro hm
   rw [List.mem_singleton.mp hm] at e
   exact absurd (Heap.lt_size e) (Nat.lt_irrefl _)
end
end L2
namespace L2
open PySem PySem.Spec PyProof.Rows
open AutoSeq1 (wpAny_loadPart')
noncomputable abbrev pN (l:Addr):Obj:={cls:= .type "tuple_iterator",data:= .fields #[.ref l,.int 0 0]}
noncomputable abbrev DX (it:Addr):Obj:={cls:= .type "enumerate",data:= .fields #[.none,.bool false,.ref it,rawInt 0,.none,.none]}
theorem pO (l:Addr) (items:Array Value) (n:Nat) (zN:Option Addr) (sl:Array (Option Value)):
  Meets (Builtin.«enumerate.__new__» ⟨[.type "enumerate",.ref l],[]⟩) (λ_ R s=>s.heap.get? l=some {cls:= .type "tuple",dict:=zN,data:= .seq items n,slots:=sl}/\
   R (.ok (.ret (.ref (s.heap.push (pN l)).objs.size))) {s with heap:=(s.heap.push (pN l)).push (DX s.heap.objs.size)}):=
 .of_wp λprog w A R s h=>by
  obtain⟨hp,g,d,tk,os⟩:=s
  obtain⟨hl,h⟩:=h
  have sb:=sub_enumerate
  have hL:Heap.IsTuple (Shared.heap ⟨hp,g,d,tk,os⟩) l items:=⟨_,hl,rfl,n,rfl⟩
  wp_walk using wpAny_loadPart' hl
  refine wpAny_stack_any λst=>wpAny_pure ?_
  split
  .rename_i c _ _ _ _ _
   cases (c == Value.type "enumerate")
   .wp_walk using wpAny_loadPart' hl,wpAny_pyIter_tuple hL
    exact⟨_,rfl,h⟩
   .wp_walk using wpAny_loadPart' hl,wpAny_pyIter_tuple hL
    exact⟨_,rfl,h⟩
  .wp_walk using wpAny_loadPart' hl,wpAny_pyIter_tuple hL
   exact⟨_,rfl,h⟩
section
variable {prog:Program}{w:World}{A:Around}{E:Value->Shared->Prop}{s:Shared}
theorem rj (hL:s.heap.IsTuple l items)
  (h: ∀h',IsEnum h' (s.heap.objs.size + 1) s.heap.objs.size 0 .none ->h'.IsTupleIter s.heap.objs.size l 0->h'.objs.size=s.heap.objs.size + 2->
   (∀b o,s.heap.get? b=some o->h'.get? b=some o)->Q (.ref (s.heap.objs.size + 1)) {s with heap:=h'}):
  wpAny (model prog w) A (call (.type "enumerate") [.ref l]) Q E s:=by
 refine ao λnO=>?_
 obtain⟨⟨c,zN,dt,sl⟩,hl,hc,n,hd⟩:=hL
 have jW:c= .type "tuple":=hc
 have lQ:dt= .seq items n:=hd
 subst jW lQ
 refine nO ?_
 refine callType_new F.called_enumerate (by decide) (F.typeCall_enumerate_1 _) (F.newCall_enumerate_1 _) (λobj=>F.args_object_init_2 obj _) F.entry_enumerate_new (pO l items n zN sl) ⟨hl,?_⟩
 have hz:(s.heap.push (pN l)).objs.size =s.heap.objs.size + 1:=Heap.size_push ..
 have he:IsEnum ((s.heap.push (pN l)).push (DX s.heap.objs.size)) (s.heap.objs.size + 1) s.heap.objs.size 0 .none :=by
  have q:=Heap.get?_push_size (s.heap.push (pN l)) (o:=DX s.heap.objs.size) rfl
  rw [hz] at q
  exact q
 show _/\_
 rw [hz]
 exact⟨⟨_,he,rfl⟩,h _ he ⟨_,Heap.get?_push_of_some _ (Heap.get?_push_size _ rfl),rfl,rfl⟩ (by rw [Heap.size_push,hz]) λb o x=>Heap.get?_push_of_some _ (Heap.get?_push_of_some _ x)⟩
theorem pP (rk:s.heap.IsTupleIter it l i) (hl:s.heap.IsTuple l items) (hx:items[i]?=some x)
  (hQ: ∀h',h'.IsTupleIter it l (i + 1)->Heap.SameBut it s.heap h'->Q x {s with heap:=h'}):wpAny (model prog w) A (Builtin.SmallTypes.nextOf (.ref it)) Q E s:=by
 refine bA (id rk) λo ho hc hd=>?_
 obtain⟨ol,Mj,_,nl,Mk⟩:=hl
 unfold Builtin.SmallTypes.nextOf
 refine wpAny_bind (wpAny_callSpecial?_slot (name:=Str.ofString "__next__") rk.typeIs F.slot_tuple_iterator_next (wpAny_call_entry F.slot_tuple_iterator_next rk.typeIs F.entry_tuple_iterator_next ?_ (F.args_tuple_iterator_next_1 _)))
 show wpAny _ _ (field (.ref it) 0 >>= _) _ _ s
 refine wpAny_bind (wpAny_field ho hd (x:= .ref l) rfl ?_)
 first
  |(show wpAny _ _ (if(Value.ref l == Value.none)=true then _ else _) _ _ s; rw [if_neg (show¬((Value.ref l == Value.none)=true) from Bool.false_ne_true)])
  |skip
 show wpAny _ _ (field (.ref it) 1 >>= _) _ _ s
 refine wpAny_bind (wpAny_field ho hd (x:= .int i 0) rfl ?_)
 show wpAny _ _ (seqItems? (.ref l) >>= _) _ _ s
 refine wpAny_bind (wpAny_seqItems Mj Mk ?_)
 simp only [Int.toNat_natCast,hx]
 refine wpAny_bind (wpAny_setField ho hd (by simp) (wpAny_pure ⟨x,rfl,wpAny_pure (hQ _ ⟨_,Heap.get?_update_self _ ho (Obj.isFreed_of_fields (Obj.data_mapFields hd _)),(Obj.cls_mapFields ..).trans hc,?_⟩ (Heap.SameBut.update ..))⟩))
 rw [Obj.data_mapFields hd]
 simp [rawInt]
theorem pQ (hh:A.handled=none) (rk:s.heap.IsTupleIter it l i) (hl:s.heap.IsTuple l items) (hx:items[i]?=none)
  (hE: ∀h' e,Heap.ExtBut it s.heap h'->(∃o,h'.get? e=some o/\o.cls= .type "StopIteration")->E (.ref e) {s with heap:=h'}):wpAny (model prog w) A (Builtin.SmallTypes.nextOf (.ref it)) Q E s:=by
 refine bA (id rk) λo ho hc hd=>?_
 obtain⟨ol,Mj,_,nl,Mk⟩:=hl
 unfold Builtin.SmallTypes.nextOf
 refine wpAny_bind (wpAny_callSpecial?_slot (name:=Str.ofString "__next__") rk.typeIs F.slot_tuple_iterator_next (wpAny_call_entry F.slot_tuple_iterator_next rk.typeIs F.entry_tuple_iterator_next ?_ (F.args_tuple_iterator_next_1 _)))
 show wpAny _ _ (field (.ref it) 0 >>= _) _ _ s
 refine wpAny_bind (wpAny_field ho hd (x:= .ref l) rfl ?_)
 first
  |(show wpAny _ _ (if(Value.ref l == Value.none)=true then _ else _) _ _ s; rw [if_neg (show¬((Value.ref l == Value.none)=true) from Bool.false_ne_true)])
  |skip
 show wpAny _ _ (field (.ref it) 1 >>= _) _ _ s
 refine wpAny_bind (wpAny_field ho hd (x:= .int i 0) rfl ?_)
 show wpAny _ _ (seqItems? (.ref l) >>= _) _ _ s
 refine wpAny_bind (wpAny_seqItems Mj Mk ?_)
 simp only [Int.toNat_natCast,hx]
 first
  |refine wpAny_bind (wpAny_rule (wpAny_bind (wpAny_setField ho hd (by simp) ?_)))
  |refine wpAny_bind (wpAny_rule (wpAny_bind (wpAny_setField ho hd (by simp) (wpAny_bind (wpAny_letGo ?_)))))
 show wpAny _ _ (newExc (.type "StopIteration") [] >>= _) _ _ _
 refine wpAny_bind ?_
 simp only [newExc,newTuple]
 refine wpAny_bind (wpAny_newObj_type ?_ (by size_fits))
 refine wpAny_bind (m:=firstArgMember _ _) (wpAny_of_eq (a:=Value.none) (by first|rfl|(simp only [firstArgMember]; rfl)) ?_)
 refine wpAny_newObj_type ?_ (by size_fits)
 simp only [raiseNew]
 refine wpAny_bind (wpAny_handled ?_)
 first|rw [show A.in1.handled=none from hh]|rw [hh]
 exact wpAny_bind (wpAny_pure (wpAny_throw (hE _ _ (((Heap.SameBut.update ..).extBut.push _).push _) ⟨_,Heap.get?_push_size _ rfl,rfl⟩)))
end
theorem uI (hh:A.handled=none) (it l:Addr) (fX:l≠it) (items:Array Value):
  Draws prog w A it [it,l] items.size (λi v=>items[i]?=some v) (λi h=>h.IsTupleIter it l i/\h.IsTuple l items) where
 live:=λ_ _ st=>let ⟨o,ho,_⟩:=st.1; ⟨o,ho⟩
 frame:=λ_ _ _ st hk=>⟨st.1.at λo e=>hk it (by simp) o e,st.2.at λo e=>hk l (by simp) o e⟩
 item:=λi s Q E hi st hQ=>pP st.1 st.2 (x:=items[i]) (by simp [hi]) λh' Ml Cb=>hQ _ h' s.toks (by simp [hi]) ⟨Ml,st.2.extBut Cb.extBut fX⟩ Cb
 done:=λs Q E st hE=>pQ hh st.1 st.2 (by simp) hE
end L2
namespace L2
open PySem PySem.Spec PyProof.Rows
section
variable {X:Cx}{U:List (Addr×Obj)}{σ:List (Option V)}{H H':Hp}{s:Shared}{h':Heap}
theorem Inv.sA {t':Nat}{ch:List Addr} (I:Inv X U σ H s) (k: ∀b o,b∉ch->s.heap.get? b=some o->h'.get? b=some o) (hf: ∀b∈ch,jN X U H b):Inv X U σ H {s with heap:=h',toks:=t'}:=by
 have GG: ∀b u,H b=some u->b∉ch:=λb u e z=>by rw [(hf b z).1] at e; cases e
 refine I.step (g':=s.gens) (d':=s.drawn) (ch:=ch) (λb hb=>?_) (λb o _ _ hc e _=>k b o hc e) (λb o _ _ hc e _=>⟨o.slots,k b o hc e⟩) (λ_ _ _ _ n=>n)
  (λb o hc e=>⟨o,k b o hc e⟩) (λ_ _ e=>e) (λ_ _ _ e=>e) (λb ps e=>⟨#[],by rw [e]; simp⟩) (λm hm=>?_) (λb u e=>?_) I.bare
 .exact rX (hf b hb) λ_ f1 _ f3 f4 f5=>⟨f3,f1,f4,f5⟩
 .exact qG hm λo es ep ho r=>⟨o,es,ep,k _ o (λz=>(hf _ z).2.1 rfl) ho,r⟩
 .refine(I.aN b u e).lV (λc v hc q=>k c v ?_ q) (λ_ q=>q) λ_ _ q=>q
  rcases hc with z|z
  .rw [z]; exact GG b u e
  .exact GG c _ z
end
structure DY (K:PySem.W.Frag) (a it:Addr) (Sq:Hp->List V->Prop) (Hy:Heap->Array Value->Prop) (DZ:Nat->Heap->Prop):Prop where
 get: ∀{X:Cx}{U:List (Addr×Obj)}{σ:St}{H:Hp}{s:Shared}{xs:List V},X.K=K->Inv X U σ H s->Sq H xs-> ∃its:List Value,aA xs its/\Hy s.heap its.toArray
 inj: ∀{X:Cx}{U:List (Addr×Obj)}{σ:St}{H:Hp}{s:Shared}{xs ys:List V},X.K=K->Inv X U σ H s->Sq H xs->Sq H ys->xs=ys
 dr: ∀(prog:Program) (w:World) (A:Around) (items:Array Value),A.handled=none->Draws prog w A it [it,a] items.size (λi v=>items[i]?=some v) (λi h=>DZ i h/\Hy h items)
 obj: ∀{i:Nat}{h:Heap},DZ i h-> ∃o,h.get? it=some o/\ ∀v,o.data≠ .cell v
 at': ∀{i:Nat}{h h':Heap},DZ i h->(∀o,h.get? it=some o->h'.get? it=some o)->DZ i h'
 ne: ∀{h:Heap}{e:Addr}{i:Int}{old:Value}{items:Array Value},IsEnum h e it i old->Hy h items->e≠a
noncomputable def KG (Sq:Hp->List V->Prop):It:=
 ⟨λi H=> ∃xs x,Sq H xs/\xs[i]?=some x,λi H x H'=> ∃(t:Addr) (y:V),H t=none/\x= .ref t/\H'=upd H t (.tup [.int i,y])/\ ∀xs,Sq H xs->xs[i]?=some y,λi H=> ∃xs,Sq H xs/\xs.length=i⟩
theorem mS {P:Program}{w:World}{K:PySem.W.Frag}{elts:List Expr}{k0:Nat}{tpos:Pos}{a it e:Addr}{Sq:Hp->List V->Prop}{Hy:Heap->Array Value->Prop}{DZ:Nat->Heap->Prop} (S:DY K a it Sq Hy DZ) (fX:e≠it):
  nM P w K (.Tuple elts k0 tpos) (KG Sq) [e,it] e (λi h=>(∃old,IsEnum h e it i old)/\DZ i h) where
 mem:=by simp
 obj:=λi h st b hb=>by
  obtain⟨⟨old,he⟩,hi⟩:=st
  rcases List.mem_cons.mp hb with rfl|hb
  .exact⟨_,he,λv z=>by cases z⟩
  .rw [List.mem_singleton.mp hb]; exact S.obj hi
 keep:=λi h h' st k=>⟨let ⟨old,he⟩:=st.1; ⟨old,k e (by simp) _ he⟩,S.at' st.2 λo z=>k it (by simp) o z⟩
 item:=by
  intro X hP hw hK hc i U s σ H E I hf st hg
  subst hP hw hK
  obtain⟨⟨old,he⟩,hi⟩:=st
  refine gu hg λxs x hq hx=>ae (S.get rfl I hq) λits rv hX=>ae (rv.get hx) λu hu ru=>?_
  have bZ:i < its.toArray.size:=by
   have:=(List.getElem?_eq_some_iff.mp hu).1
   simpa using this
  have Ta:e∉[it,a]:=λz=>by
   rcases List.mem_cons.mp z with z|z
   .exact fX z
   .exact S.ne he hX (List.mem_singleton.mp z)
  refine wpAny_pyNext_enum_itemD (S.dr X.prog X.w X.A.in1 its.toArray (I.ok.hd hc)) he ⟨hi,hX⟩ bZ fX Ta λv h' tk hP BV lX hT hsz hk=>?_
  have hP:its.toArray[i]?=some v:=hP
  have ev:v=u:=by
   have q:its[i]?=some v:=by simpa using hP
   rw [hu] at q
   exact(Option.some.inj q).symm
  subst ev
  refine⟨_,rfl,wpAny_letOwnedTupleGo_enum BV λKH Mm zO=>?_⟩
  have zO:Heap.SameBut e h' KH:=zO
  have Tb:e < s.heap.objs.size:=Heap.lt_size he
  have ltI:it < s.heap.objs.size:=by obtain⟨o,ho,_⟩:=S.obj hi; exact Heap.lt_size ho
  have I1:Inv X U σ (upd H s.heap.objs.size (.tup [.int i,x])) {s with heap:=s.heap.push {cls:= .type "tuple",data:= .seq #[.int i tk,v]}}:=
   I.laid (t':=s.toks) (λb o z=>Heap.get?_push_of_some _ z) (Nat.le_refl _) ⟨by show 2<=sizeLine; decide,[.int i tk,v],.cons ⟨_,rfl⟩ (.cons ru .nil),i5.new s.heap _⟩
  have Tc:H s.heap.objs.size=none:=I.aN.fresh (Nat.le_refl _)
  have Hz: ∀b∈[e,it],(upd H s.heap.objs.size (.tup [.int i,x])) b=none:=λb hb=>by
   have i8:b≠s.heap.objs.size:=by
    rcases List.mem_cons.mp hb with rfl|hb
    .exact Nat.ne_of_lt Tb
    .rw [List.mem_singleton.mp hb]; exact Nat.ne_of_lt ltI
   rw [ak i8]; exact(hf b hb).1
  have I2:Inv X U σ (upd H s.heap.objs.size (.tup [.int i,x])) {s with heap:=KH,toks:=tk + 1}:=by
   have key: ∀b o,b∉[e,it]->(s.heap.push {cls:= .type "tuple",data:= .seq #[.int i tk,v]}).get? b=some o->KH.get? b=some o:=λb o hb z=>by
    have yS:b≠e:=λq=>hb (by simp [q])
    have Td:b≠it:=λq=>hb (by simp [q])
    refine(zO.2 b yS).trans ?_
    rcases Heap.get?_push_cases z with ⟨rfl,rfl⟩|z
    .exact hT
    .exact hk b o yS Td z
   have J:=I1.sA (h':=KH) (t':=tk + 1) (ch:=[e,it]) key λb hb=>⟨Hz b hb,(hf b hb).2⟩
   exact J
  refine⟨.ref s.heap.objs.size,_,I2,rfl,⟨s.heap.objs.size,x,Tc,rfl,rfl,λys hy=>by rw [S.inj rfl I hy hq]; exact hx⟩,⟨⟨v,?_⟩,S.at' lX.1 λo z=>(zO.2 it (Ne.symm fX)).trans z⟩,Hz⟩
  have:((i + 1:Nat):Int)=(i:Int) + 1:=by push_cast; rfl
  rw [this]
  exact Mm
 done:=by
  intro X hP hw hK hc i U s σ H E I hf st hg
  subst hP hw hK
  obtain⟨⟨old,he⟩,hi⟩:=st
  refine ae hg λxs hq af=>?_
  try clear hg
  subst af
  refine ae (S.get rfl I hq) λits rv hX=>?_
  have hl:xs.length=its.toArray.size:=by rw [List.size_toArray]; exact rv.length
  rw [hl] at hi he
  refine wpAny_pyNext_enum_endD (S.dr X.prog X.w X.A.in1 its.toArray (I.ok.hd hc)) he ⟨hi,hX⟩ λh' hx=>⟨rfl,?_⟩
  exact I.sA (t':=s.toks) (ch:=[e,it]) (λb o hb z=>hx b o (λq=>hb (by simp [q])) z) hf
 self:=λ_ _ _ _ _ st h=>let ⟨⟨_,he⟩,_⟩:=st; wpAny_pyIter_enum he h
theorem wz {K:PySem.W.Frag}{a it:Addr} (h:a≠it):DY K a it (λH xs=>dh K H a xs) (λh xs=>h.IsTuple a xs) (λi h=>h.IsTupleIter it a i) where
 get:=λhK I q=>by subst hK; obtain⟨its,r,t,_⟩:=I.tuple q; exact⟨its,r,t⟩
 inj:=λhK I q q'=>by subst hK; exact I.i6 q q'
 dr:=λprog w A items hh=>uI hh it a h items
 obj:=λzz=>bA zz λo e c d=>⟨o,e,λv z=>by rw [d] at z; cases z⟩
 at':=λst k=>st.at k
 ne:=λhe ⟨o,e,c,_⟩ z=>by subst z; rw [he] at e; cases e; injection c with c; exact absurd c (by decide)
theorem wA {K:PySem.W.Frag}{a it:Addr} (h:a≠it):DY K a it (λH xs=>dg K H a xs) (λh xs=>h.IsList a xs) (λi h=>h.IsListIter it a i) where
 get:=λhK I q=>by subst hK; obtain⟨its,r,t,_⟩:=I.list q; exact⟨its,r,t.isList⟩
 inj:=λhK I q q'=>by subst hK; exact I.pz q q'
 dr:=λprog w A items hh=>Draws.list hh it a h items
 obj:=λzz=>bA zz λo e c d=>⟨o,e,λv z=>by rw [d] at z; cases z⟩
 at':=λst k=>st.at k
 ne:=λhe ⟨o,e,c,_⟩ z=>by subst z; rw [he] at e; cases e; injection c with c; exact absurd c (by decide)
noncomputable def Mn (K:PySem.W.Frag) (ta:TA):TI:=λσ H R=>ta σ H λvs H1=> ∃a xs,vs=[.ref a]/\((dh K H1 a xs/\R (KG λH ys=>dh K H a ys) H1)\/(dg K H1 a xs/\R (KG λH ys=>dg K H a ys) H1))
theorem zP {X:Cx}{a:Expr}{ta:TA}{p pos:Pos}{elts:List Expr}{k0:Nat}{tpos:Pos} (hg:Gl X "enumerate") (hm:X.mg "enumerate"=none) (ha:PA X [a] ta) (hs:starEach [a] X.env=[(false,eval a X.env)]:=by rfl):
  PI X (.Tuple elts k0 tpos) (.Call (.Name "enumerate" p) [a] [] pos) (Mn X.K ta):=by
 intro U s σ H R I h
 refine Call_ (gJ I hg hm PyProof.Rows.boot_enumerate (PyProof.Rows.callWith_type1 (bz (ha pos U s σ H _ I h) λus s1 zz=>ba zz λvs H1 I1 r1 q1=>?_) hs rfl))
 refine gu q1 λb xs af q=>?_
 try clear q1
 subst af
 cases r1 with
 |cons r rr=>
  cases rr
  cases r
  have fin: ∀(h':Heap),h'.objs.size=s1.heap.objs.size + 2->(∀b o,s1.heap.get? b=some o->h'.get? b=some o)->Inv X U σ H1 {s1 with heap:=h'}/\ ∀c∈[s1.heap.objs.size + 1,s1.heap.objs.size],jN X U H1 c:=λh' _ hk=>by
   refine⟨I1.kept (t':=s1.toks) hk,λc hc=>?_⟩
   have wB:s1.heap.objs.size<=c:=by
    rcases List.mem_cons.mp hc with rfl|hc
    .exact Nat.le_succ _
    .rw [List.mem_singleton.mp hc]; exact Nat.le_refl _
   exact I1.qM wB (I1.aN.fresh wB)
  rcases q with ⟨hq,hR⟩|⟨hq,hR⟩
  .refine bA (I1.tuple hq) λits rv t _=>?_
   have ht:s1.heap.IsTuple b its.toArray:=t
   have hb:b≠s1.heap.objs.size:=by obtain⟨o,e,_⟩:=ht; exact Nat.ne_of_lt (Heap.lt_size e)
   refine rj ht λh' he rk hsz hk=>?_
   obtain⟨J1,J2⟩:=fin h' hsz hk
   exact wpAny_pyIter_enum he ⟨s1.heap.objs.size + 1,[s1.heap.objs.size + 1,s1.heap.objs.size],_,_,H1,rfl,J1,mS (wz hb) (Nat.succ_ne_self _),⟨⟨_,he⟩,rk⟩,J2,hR⟩
  .refine bA (I1.list hq) λits rv t _=>?_
   have ht:s1.heap.IsList b its.toArray:=t.isList
   have hb:b≠s1.heap.objs.size:=by obtain⟨o,e,_⟩:=ht; exact Nat.ne_of_lt (Heap.lt_size e)
   refine call_enumerate_list ht λh' he rk hsz hk=>?_
   obtain⟨J1,J2⟩:=fin h' hsz hk
   exact wpAny_pyIter_enum he ⟨s1.heap.objs.size + 1,[s1.heap.objs.size + 1,s1.heap.objs.size],_,_,H1,rfl,J1,mS (wA hb) (Nat.succ_ne_self _),⟨⟨_,he⟩,rk⟩,J2,hR⟩
section
variable {prog:Program}{w:World}{A:Around}{E:Value->Shared->Prop}{s:Shared}
theorem pR (fX:t≠it): ∀(n i:Nat) (s:Shared) (Q:List Value->Shared->Prop),s.heap.IsListIter it t i->s.heap.IsList t items->i + n<=items.size->
  (∀h',h'.IsListIter it t (i + n)->Heap.SameBut it s.heap h'->Q ((items.toList.drop i).take n) {s with heap:=h'})->wpAny (model prog w) A (draw (.ref it) n) Q E s
 |0,i,s,Q,rk,_,_,hQ=>wpAny_pure (by simpa using hQ s.heap rk (Heap.SameBut.refl ..))
 |n + 1,i,s,Q,rk,ht,wB,hQ=>by
  have bZ:i < items.size:=by lia
  show wpAny _ _ (pyNext (.ref it) >>= _) Q E s
  refine wpAny_bind (wpAny_pyNext_list_item rk ht (x:=items[i]) (by simp [bZ]) λh1 D0 Gd=>?_)
  refine wpAny_bind (wpAny_holding (pR fX n (i + 1) _ _ D0 (ht.extBut Gd.extBut fX) (by lia) λh2 Mo Mp=>wpAny_pure ?_))
  have hd:items.toList.drop i=items[i]::items.toList.drop (i + 1):=by simp [List.drop_eq_getElem_cons,bZ]
  have q:=hQ h2 (by rw [show i + (n + 1)=i + 1 + n by lia]; exact Mo) (Gd.trans Mp)
  rw [hd,List.take_succ_cons] at q
  exact q
theorem jQ (hh:A.handled=none) (ht:s.heap.IsList t items)
  (hQ: ∀h',Heap.ExtBut s.heap.objs.size s.heap h'->Q items.toList {s with heap:=h'}):wpAny (model prog w) A (unpackItems (.ref t) items.size none) Q E s:=by
 have bZ:t≠s.heap.objs.size:=by obtain⟨o,ho,_⟩:=ht; exact Nat.ne_of_lt (Heap.lt_size ho)
 have push: ∀o,(s.heap.push o).IsList t items:=λo=>by obtain⟨ol,e,r⟩:=ht; exact⟨ol,Heap.get?_push_of_some _ e,r⟩
 unfold unpackItems
 refine wpAny_bind ?_
 unfold notIterableAtAll
 refine wpAny_bind (wpAny_specialOf ht.typeIs F.slot_list_iter.lookup (wpAny_pure ?_))
 simp only [Bool.false_eq_true,if_false]
 refine wpAny_bind (wpAny_holding (wpAny_pyIter_list ht ?_))
 refine wpAny_bind (wpAny_holding (pR bZ items.size 0 _ _ ⟨_,Heap.get?_push_size _ rfl,rfl,rfl⟩ (push _) (by lia) λh1 D0 Gd=>?_))
 have DM:List.take items.size (List.drop 0 items.toList)=items.toList:=by
  rw [List.drop_zero]; exact List.take_of_length_le (by simp)
 rw [DM,if_neg (by simp)]
 have HA:h1.IsList t items:=(push _).extBut Gd.extBut bZ
 refine wpAny_bind (wpAny_holding (wpAny_pyNext_list_end hh D0 HA (by simp) λh2 Te=>?_))
 simp only [Option.isSome_none,Bool.false_eq_true,if_false]
 exact wpAny_pure (hQ h2 λb o hb e=>Te b o hb (Gd.extBut b o hb (Heap.get?_push_of_some _ e)))
theorem rl (hh:A.handled=none) (ht:s.heap.IsList t items)
  (hn:(assignEach elts env).length =items.size) (HB:(assignEach elts env).findIdx? (·.1)=none)
  (h: ∀h',Heap.ExtBut s.heap.objs.size s.heap h'->wpAny (model prog w) A (assignInOrder ((assignEach elts env).map (·.2)) items.toList) Q E {s with heap:=h'}):
  wpAny (model prog w) A (assign (.Tuple elts x1 pos) env (.ref t)) Q E s:=by
 rw [PyProof.Rows.assign_Tuple]
 refine wpAny_bind (wpAny_standAt ?_)
 unfold unpack
 rw [hn,HB]
 exact wpAny_bind (wpAny_holding (jQ hh ht h))
end
noncomputable def HC (K:PySem.W.Frag) (n:Nat) (t:Dh):TG:=λv σ H Q=> ∃a xs,v= .ref a/\(dg K H a xs\/dh K H a xs)/\xs.length=n/\t xs σ H Q
theorem D1 (hc:X.calm=true) (h:FY X es t)
  (hn:(assignEach es X.env).length =n:=by rfl) (lX:(assignEach es X.env).findIdx? (·.1)=none:=by rfl):PG X (.Tuple es k pos) (HC X.K n t):=by
 intro U s σ H v u Q I r hw
 refine ao λnO=>?_
 obtain⟨a,xs,e1,hq,hl,hw⟩:=hw
 subst e1
 cases r
 refine nO ?_
 rcases hq with hq|hq
 .refine ao λnO=>?_
  obtain⟨its,rv,ht,hz⟩:=I.list hq
  refine nO <| rl (I.ok.hd hc) ht.isList (by simp [hn,<-hl,rv.length]) lX λh' hx=>?_
  have I1:Inv X U σ H {s with heap:=h'}:=I.kept (t':=s.toks) λb o e=>hx b o (Nat.ne_of_lt (Heap.lt_size e)) e
  exact h U _ σ H xs _ Q I1 (by simpa using rv) hw
 .exact Dj hc h hn lX U s σ H (.ref a) (.ref a) Q I rfl ⟨a,xs,rfl,hq,hl,hw⟩
end L2
namespace L2
open PySem PySem.Spec PyProof.Rows
open AutoSeq1 (wpAny_loadPart')
noncomputable abbrev nX (items:Array Value) (x:Value) (i:Nat) (_:Option PySem.Fin×Unit):Sem (ForInStep (Option PySem.Fin×Unit)):=
 match items[i]? with
 |some y=>do
  let c<-eqBool y x
  if c=true then do
   let r<-retInt (i:Int)
   pure (ForInStep.done (some r,()))
  else pure (ForInStep.yield (none,()))
 |_=>pure (ForInStep.yield (none,()))
section
variable {prog:Program}{w:World}{A:Around}{E:Value->Shared->Prop}
theorem pS (hi:IntsAre items.toList ns) (hj:ns[j]?=some k) (vB: ∀m,m < j->ns[m]?≠some k):
  ∀(m i:Nat) (s:Shared) (Q:Option PySem.Fin×Unit->Shared->Prop),i<=j->j < i + m->i + m<=items.size->Q (some (.done (.ret (.int j s.toks))),()) {s with toks:=s.toks + 1}->
   wpAny (model prog w) A (forIn (List.range' i m) ((none,()):Option PySem.Fin×Unit) (nX items (.int k t))) Q E s
 |0,i,s,Q,h1,h2,_,_=>absurd h2 (by lia)
 |m + 1,i,s,Q,h1,h2,h3,h=>by
  have bZ:i < items.size:=by lia
  have hl:ns.length=items.toList.length:=hi.length.symm
  obtain⟨ti,ei⟩:=ints_get hi i items[i] (by simp [bZ])
  have hn:ns[i]?=some (ns.getD i 0):=by
   rw [List.getD_eq_getElem?_getD,List.getElem?_eq_getElem (by rw [hl]; simpa using bZ)]
   rfl
  rw [List.range'_succ,List.forIn_cons]
  unfold nX
  rw [Array.getElem?_eq_getElem bZ]
  show wpAny _ _ ((eqBool items[i] (.int k t) >>= _) >>= _) _ _ s
  rw [ei]
  refine wpAny_bind (wpAny_bind (wpAny_eqBool_int ?_))
  by_cases D2:i=j
  .subst D2
   rw [hj] at hn
   have e:ns.getD i 0=k:=(Option.some.inj hn).symm
   rw [e,beq_self_eq_true,if_pos rfl]
   refine wpAny_bind ?_
   unfold retInt ret
   refine wpAny_bind (wpAny_mkInt (wpAny_pure (wpAny_pure (wpAny_pure h))))
  .have e:(ns.getD i 0 == k)=false:=by
    rw [beq_eq_false_iff_ne]
    exact λz=>vB i (by lia) (by rw [hn,z])
   rw [e,if_neg Bool.false_ne_true]
   exact wpAny_pure (pS hi hj vB m (i + 1) s Q (by lia) (by lia) (by lia) h)
end
theorem uJ (l:Addr) (items:Array Value) (n:Nat) (dd:Option Addr) (sl:Array (Option Value)) {ns:List Int} (hi:IntsAre items.toList ns) {k:Int}{t:Tok}{j:Nat} (hj:ns[j]?=some k) (vB: ∀m,m < j->ns[m]?≠some k):
  Meets (Builtin.«tuple.index» ⟨[.ref l,.int k t],[]⟩)
   (λA R s=>s.heap.get? l=some {cls:= .type "tuple",dict:=dd,data:= .seq items n,slots:=sl}/\R (.ok (.ret (.int j s.toks))) {s with toks:=s.toks + 1}):=by
 intro prog w A R s h
 obtain⟨hp,g,d,tk,os⟩:=s; obtain⟨hl,h⟩:=h
 unfold Builtin.«tuple.index»
 simp only [Std.Legacy.Range.forIn_eq_forIn_range']
 wp_walk using wpAny_loadPart' hl
 have WQ:j < items.size:=by
  have q:=(List.getElem?_eq_some_iff.mp hj).1
  have:=hi.length
  simp at this
  lia
 have Tf:(([:min items.size items.size]:Std.Legacy.Range)).size =items.size:=by simp [Std.Legacy.Range.size]
 rw [Tf]
 show wpAny _ _ (forIn (List.range' 0 items.size) ((none,()):Option PySem.Fin×Unit) (nX items (.int k t))) _ _ _
 exact pS hi hj vB items.size 0 _ _ (Nat.zero_le _) (by lia) (by lia) <| wpAny_pure h
noncomputable def D3 (K:PySem.W.Frag):V->List V->Hp->VK->Prop:=λx vs H Q=> ∃(l:Addr) (ns:List Int) (k:Int) (j:Nat),x= .ref l/\vs=[.int k]/\dh K H l (ns.map V.int)/\ns[j]?=some k/\(∀m,m < j->ns[m]?≠some k)/\Q (.int (j:Nat)) H
theorem wC {X:Cx}:Kw X "tuple.index" (D3 X.K):=by
 intro U s σ H x vs v us Q I rx rv h
 refine ao λnO=>BU h λl ns k j af aO hq hj vB q=>?_
 try clear h
 subst af
 subst aO
 cases rx
 obtain⟨u,rfl,t,rfl⟩:=vals1 rv
 obtain⟨its,r,⟨⟨c,dd,dt,sl⟩,ho,hc,n,hd⟩,hz⟩:=I.tuple hq
 have jW:c= .type "tuple":=hc
 have lQ:dt= .seq its.toArray n:=hd
 subst jW lQ
 refine nO ?_
 have hi:IntsAre its.toArray.toList ns:=by simpa using intsAre_of r
 exact call_meets PySem.F.slot_tuple_index ⟨_,ho,rfl⟩ PySem.F.entry_tuple_index (PySem.F.args_tuple_index_2 _ _) (uJ l its.toArray n dd sl hi hj vB) ⟨ho,.int j,H,I.tok _,⟨_,rfl⟩,q⟩
noncomputable def Tg (K:PySem.W.Frag) (r:V->List V->Hp->VK->Prop) (to:TE) (t:TA):TE:=λσ H Q=>to σ H λx H1=>(∃a xs,x= .ref a/\dh K H1 a xs)/\t σ H1 λxs H2=>r x xs H2 Q
theorem HD {X:Cx}{o e:Expr}{es:List Expr}{to:TE}{t:TA}{name:Str}{lZ fx:Pos}{id:String}{r:V->List V->Hp->VK->Prop} (pa:PlainAttrs "tuple") (slot:Slot "tuple" name id) (Hh:typeOf (.builtin id)=pure (.type "method_descriptor")) (hm:Kw X id r) (ho:PE X o to) (ha:PA X (e::es) t)
  (hZ:attributeBase o name X.env (eval o X.env)=eval o X.env)
  (DI:((backTo fx (starEach (e::es) X.env)).all (λx=>!x.1) && (backToKw fx (keywordEach [] X.env)).all (λx=>x.1.isSome)
   && decide ((e::es).length + ([]:List Keyword).length + (if([]:List Keyword).isEmpty then 0 else 1) < 30))=true)
  (h_:(lZ.endLine == fx.line)=true) (hs:starEach (e::es) X.env=(false,eval e X.env)::starEach es X.env) (qZ:(backTo fx (starEach es X.env)).any (·.1)=false):
  PE X (.Call (.Attribute o name lZ) (e::es) [] fx) (Tg X.K r to t):=by
 intro U s σ H Q I h
 refine wpAny_Call_method_late hZ DI h_ rfl (bz (ho U s σ H _ I h) λv s1 zz=>?_)
 refine ao λnO=>fW zz λx H1 I1 r1 ty q1=>gu ty λa xs af hq=>?_
 try clear ty
 subst af
 cases r1
 obtain⟨its,rv,⟨ob,e1,e2,_,e4⟩,_⟩:=I1.Dg hq
 refine nO ?_
 refine⟨"tuple",id,pa,slot,Hh,⟨ob,e1,e2⟩,λb z=>by cases z; exact⟨ob,e1,e4⟩,?_⟩
 have hA:=ha fx U s1 σ H1 _ I1 q1
 rw [hs] at hA ⊢
 refine Calls.callWith_builtin (by show(false || (backTo fx (starEach es X.env)).any (·.1))=false; rw [qZ] <;> rfl) (Calls.evalArgs_plain ?_)
 exact bz hA λus s2 zz=>ba zz λvs H2 I2 Th q2=>hm U s2 σ H2 (.ref a) vs (.ref a) us Q I2 rfl Th q2
end L2
namespace L2
open PySem PySem.Spec PyProof.Rows
open AutoSeq1 (wpAny_loadPart')
noncomputable abbrev HE (a c:Int):Nat->Value->Prop:=λi v=> ∃t,v= .int (a + i * c) t
section
variable {prog:Program}{w:World}{A:Around}{E:Value->Shared->Prop}{s:Shared}
theorem ml {Q:List Value->Shared->Prop}{r:Addr}{a b c:Int}{t u v:Tok}{n:Nat} (hh:A.handled=none) (hr:IsRange s.heap r a b c t u v) (kF:Builtin.Range.small a b c=true)
  (hn:Builtin.Range.rangeSize a b c=n) (aL:n<=2 ^ 24)
  (hQ: ∀h' tk acc,(∀b o,s.heap.get? b=some o->h'.get? b=some o)->ItemsOf (HE a c) acc n->Q acc.toList {s with heap:=h',toks:=tk}):wpAny (model prog w) A (collect (.ref r)) Q E s:=by
 unfold collect
 refine wpAny_bind (wpAny_runValue (codeAny_builtin F.entry_proto_collect ?_))
 rw [Around.under_plainId F.plain_proto_collect _]
 show wpAny _ A.in1 (newList [] >>= λl=>again (.builtin "list.__iadd__" ⟨[l,.ref r],[]⟩)) _ _ s
 refine wpAny_bind (wpAny_newObj_type ?_)
 refine wpAny_pure ⟨plainId_quiet F.plain_list_iadd _,codeAny_builtin F.entry_list_iadd ?_⟩
 rw [Around.under_plainId F.plain_list_iadd _]
 show wpAny _ A.in1 (Builtin.List.listExtendWith (.ref s.heap.objs.size) (.ref r) (.ref s.heap.objs.size)) _ _ _
 have hS:(s.heap.push {cls:= .type "list",data:= .seq ([]:List Value).toArray}).get? s.heap.objs.size=some {cls:= .type "list",data:= .seq #[] 0}:=Heap.get?_push_size _ rfl
 let RR:Result->Shared->Prop:=λr s'=> ∃(h':Heap) (tk:Nat) (acc:Array Value) (c':Nat),r= .ok (.ret (.ref s.heap.objs.size))/\s'={s with heap:=h',toks:=tk}/\
  (∀b o,s.heap.get? b=some o->h'.get? b=some o)/\h'.get? s.heap.objs.size=some {cls:= .type "list",dict:=none,data:= .seq acc c',slots:=#[]}/\ItemsOf (HE a c) acc n
 have cY: ∀(h':Heap) (tk:Nat) (acc:Array Value) (c':Nat),(∀b o,s.heap.get? b=some o->h'.get? b=some o)->h'.get? s.heap.objs.size=some {cls:= .type "list",dict:=none,data:= .seq acc c',slots:=#[]}->ItemsOf (HE a c) acc n->
   wpAny (model prog w) A (match Value.ref s.heap.objs.size with
    |Value.ref a=>do
     match (<-load a).data with
      |Data.seq xs _=>pure xs.toList
      |_=>unsupported "internal:collect"
    |_=>unsupported "internal:collect") Q E {s with heap:=h',toks:=tk}:=λh' tk acc c' hk D4 jR=>by
  show wpAny _ A (load s.heap.objs.size >>= _) _ _ _
  exact wpAny_bind (wpAny_load D4 (wpAny_pure (hQ h' tk acc hk jR)))
 refine wpAny_mono (wpAny_extend_range (A:=A) (R:=RR) (s:={s with heap:=s.heap.push {cls:= .type "list",data:= .seq ([]:List Value).toArray}}) hh (Heap.get?_push_of_some _ hr) kF hn aL _ (.ref s.heap.objs.size) _ hS λh' tk D5 c' hk D4 jR=>⟨h',tk,D5,c',rfl,rfl,λb o e=>hk b o (Nat.ne_of_lt (Heap.lt_size e)) (Heap.get?_push_of_some _ e),D4,jR⟩) (λfin s' h=>?_) (λe s' h=>?_)
 .cases fin with
  |done f=>
   refine qK h λh' tk acc c' e af hk D4 jR=>?_
   try clear h
   subst af
   cases e
   exact cY h' tk acc c' hk D4 jR
  |again c'=>
   refine⟨h.1,codeAny_mono h.2 λr G6 hr=>?_⟩
   refine qK hr λh' tk acc c' e aO hk D4 jR=>?_
   try clear hr
   subst aO
   subst e
   exact cY h' tk acc c' hk D4 jR
 .refine QJ h λh' tk acc c' e _=>?_
  cases e
end
theorem rm {r:Addr}{a b c:Int}{t u v:Tok}{n:Nat} (kF:Builtin.Range.small a b c=true) (hn:Builtin.Range.rangeSize a b c=n) (aL:n<=2 ^ 24):
  Meets (Builtin.«tuple.__new__» ⟨[.type "tuple",.ref r],[]⟩)
   (λA R s=>A.handled=none/\IsRange s.heap r a b c t u v/\ ∀(h':Heap) (tk:Nat) (acc:Array Value),(∀b o,s.heap.get? b=some o->h'.get? b=some o)->ItemsOf (HE a c) acc n->
    R (.ok (.ret (.ref h'.objs.size))) {s with heap:=h'.push {cls:= .type "tuple",data:= .seq acc},toks:=tk}):=
 .of_wp λprog w A R s h=>by
  obtain⟨hp,g,d,Ti,os⟩:=s
  refine cK h λhh hr h=>?_
  have Tj:=sub_tuple_self
  have Q3:=init_tuple_lookup
  have WR:=madeHere_tuple
  have hT:Shared.TypeIs ⟨hp,g,d,Ti,os⟩ (.ref r) "range":=⟨_,hr,rfl⟩
  have Tn:A.in1.handled=none:=hh
  wp_walk using wpAny_loadPart' hr,wpAny_typeOf hT,ml Tn hr kF hn aL
  intro h' tk acc hk jR
  show wpAny _ _ (Builtin.Tuple.tupleExact acc.toList.toArray >>= λv=>ret v) _ _ _
  unfold Builtin.Tuple.tupleExact
  refine wpAny_bind (wpAny_newObj_type ?_ (show acc.toList.toArray.size<=sizeLine by simp only [Array.toArray_toList]; rw [jR.1,sizeLine_eq]; exact aL))
  refine wpAny_pure ⟨_,rfl,?_⟩
  have e:acc.toList.toArray=acc:=by simp
  rw [e]
  exact h h' tk acc hk jR
section
variable {prog:Program}{w:World}{A:Around}{E:Value->Shared->Prop}{s:Shared}
theorem uK {Q:Value->Shared->Prop}{r:Addr}{a b c:Int}{t u v:Tok}{n:Nat} (hh:A.handled=none) (hr:IsRange s.heap r a b c t u v) (kF:Builtin.Range.small a b c=true) (hn:Builtin.Range.rangeSize a b c=n) (aL:n<=2 ^ 24)
  (h: ∀(h':Heap) (tk:Nat) (acc:Array Value),(∀b o,s.heap.get? b=some o->h'.get? b=some o)->ItemsOf (HE a c) acc n->Q (.ref h'.objs.size) {s with heap:=h'.push {cls:= .type "tuple",data:= .seq acc},toks:=tk}):
  wpAny (model prog w) A (call (.type "tuple") [.ref r]) Q E s:=
 callType_new F.called_tuple (by decide) (F.typeCall_tuple_1 _) (F.newCall_tuple_1 _) (λobj=>F.args_object_init_2 obj _) F.entry_tuple_new (rm kF hn aL)
  ⟨hh,hr,λh' tk acc hk jR=>⟨⟨_,Heap.get?_push_size _ rfl,rfl⟩,h h' tk acc hk jR⟩⟩
end
end L2
namespace L2
open PySem PySem.Spec PyProof.Rows
open AutoSeq1 (wpAny_loadPart')
section
variable {prog:Program}{w:World}{A:Around}{E:Value->Shared->Prop}{s:Shared}{l:Addr}
end
section
variable {X:Cx}
end
section
variable {prog:Program}{w:World}{A:Around}{E:Value->Shared->Prop}{s:Shared}
end
section
variable {X:Cx}
theorem iq: ∀{us:List Value}{ns:List Int},IntsAre us ns->aA (ns.map V.int) us
 |_,_,.nil => .nil
 |_,_,.cons n t r=> .cons ⟨t,rfl⟩ (iq r)
end
end L2
namespace L2
open PySem PySem.Spec PyProof.Rows HT
open AutoSeq1 (wpAny_loadPart')
section
variable {prog:Program}{w:World}{A:Around}{E:Value->Shared->Prop}{s:Shared}
theorem mr (ht:IsTup s.heap t items) (h:Q true s):wpAny (model prog w) A (Builtin.Tuple.tupleIsExact (.ref t)) Q E s:=by
 unfold Builtin.Tuple.tupleIsExact
 exact wpAny_bind (wpAny_typeOf ht.typeIs (wpAny_pure (by simpa using h)))
theorem gq {t sl:Addr}{items:Array Value}{vl vu:Value}{lo hi:Option Int}{Q:Value->Shared->Prop} (ht:IsTup s.heap t items) (hs:s.heap.IsSliceOf sl vl vu .none) (pl:IsPart vl lo) (pu:IsPart vu hi)
  (hw:cq items.size 0 lo=0/\cq items.size items.size hi=items.size) (h:Q (.ref t) s):wpAny (model prog w) A (getItem (.ref t) (.ref sl)) Q E s:=by
 refine bA (id hs) λos DC gX Hd=>?_
 have zy:s.TypeIs (.ref sl) "slice":=⟨os,DC,gX⟩
 unfold getItem
 try with_reducible refine wpAny_holding ?_
 first|refine wpAny_bind (wpAny_pure ?_)|skip
 refine wpAny_bind (wpAny_sequenceKey ht.typeIs (by decide) ?_)
 refine wpAny_bind (wpAny_callSpecial?_slot (name:=Str.ofString "__getitem__") ht.typeIs PyProof.Rows.slot_tuple_getitem (wpAny_call_entry PyProof.Rows.slot_tuple_getitem ht.typeIs entry_tuple_getitem ?_ (args_tuple_getitem _ _)))
 show wpAny _ _ (Builtin.Tuple.tupleItemsOf (.ref t) >>= _) _ _ s
 refine wpAny_bind (tupleItemsOf_ ht ?_)
 refine wpAny_bind (wpAny_typeOf zy ?_)
 rw [if_pos (by decide)]
 refine wpAny_bind (dY hs pl pu ?_)
 have Mq:(((cq items.size 0 lo:Nat):Int) == 0 && (1:Int) == 1 && (cq items.size items.size hi - cq items.size 0 lo) == items.size)=true:=by
  rw [hw.1,hw.2]; simp
 show wpAny _ _ (if(((cq items.size 0 lo:Nat):Int) == 0 && (1:Int) == 1 && (cq items.size items.size hi - cq items.size 0 lo) == items.size)=true then _ else _) _ _ s
 rw [if_pos Mq]
 refine wpAny_bind (mr ht ?_)
 rw [if_pos rfl]
 exact wpAny_bind (wpAny_rule (wpAny_pure ⟨_,rfl,wpAny_pure h⟩))
end
section
variable {X:Cx}
noncomputable def HF (K:PySem.W.Frag):V->Option Int->Option Int->Hp->VK->Prop:=λx lo hi H Q=> ∃a xs,x= .ref a/\dh K H a xs/\(cq xs.length 0 lo=0/\cq xs.length xs.length hi=xs.length)/\Q x H
theorem wD:yV X (HF X.K):=by
 intro U s σ H x v vl vu lo hi sl Q I rx hs pl pu h
 refine fW h λa xs af hx hw q=>?_
 try clear h
 subst af
 cases rx
 refine bA (I.tuple hx) λits r ht hz=>?_
 have aL:its.toArray.size=xs.length:=by rw [List.size_toArray]; exact r.length.symm
 exact⟨"tuple",_,PyProof.Rows.slot_tuple_getitem.lookup,ht.typeIs,gq ht hs pl pu (by rw [aL]; exact hw) ⟨.ref a,H,I,rfl,q⟩⟩
theorem zQ:yV X (λx lo hi H Q=>Hf X.K x lo hi H Q\/HF X.K x lo hi H Q):=DD.or wD
end
end L2
namespace L2
open PySem PyProof.Rows
end L2
namespace L2
open PySem PySem.Spec PyProof.Rows
end L2
namespace L2
open PySem PySem.Spec PyProof.Rows
section
variable {κ:Type} [DecidableEq κ]
noncomputable def i_ (aw:List (κ×V)) (k:κ):Option V:=(aw.find? λkv=>decide (kv.1=k)).map (·.2)
noncomputable def ja (aw:List (κ×V)) (k:κ) (v:V):List (κ×V):=
 if(aw.any λkv=>decide (kv.1=k))=true then aw.map (λkv=>if kv.1=k then(kv.1,v) else kv) else aw++[(k,v)]
theorem ir {p:κ×V}{r:List (κ×V)}{k:κ} (e:p.1=k):i_ (p::r) k=some p.2:=by simp [i_,List.find?_cons,e]
theorem iu {p:κ×V}{r:List (κ×V)}{k:κ} (e: ¬p.1=k):i_ (p::r) k=i_ r k:=by simp [i_,List.find?_cons,e]
theorem pT (k:κ): ∀aw:List (κ×V),(aw.any λkv=>decide (kv.1=k))=(i_ aw k).isSome
 |[]=>rfl
 |p::r=>by
  rw [List.any_cons]
  by_cases e:p.1=k
  .simp only [ir e,decide_eq_true e,Bool.true_or,Option.isSome_some]
  .rw [iu e,decide_eq_false e,Bool.false_or]; exact pT k r
theorem jG (aw:List (κ×V)) (k:κ) (v:V):(ja aw k v).length <=aw.length + 1:=by
 unfold ja
 split
 .rw [List.length_map]; lia
 .rw [List.length_append,List.length_cons,List.length_nil]; lia
theorem lU.d_ (r:lU o u):o.isSome=u.isSome:=by
 cases o with
 |none=>cases u with
  |none=>rfl
  |some _=>exact(show False from r).elim
 |some _=>cases u with
  |none=>exact(show False from r).elim
  |some _=>rfl
theorem KV.val {aw:List (κ×V)}{vs:List (κ×Value)} (r:KV aw vs) (k:κ):lU (i_ aw k) (valueAt vs k):=by
 unfold KV at r
 induction r with
 |nil=>exact True.intro
 |@cons p q ps qs h t ih=>
  obtain⟨h1,h2⟩:=h
  by_cases e:p.1=k
  .have e':q.1=k:=h1.symm.trans e
   have b:valueAt (q::qs) k=some q.2:=by simp [valueAt,List.find?_cons,e']
   rw [ir e,b]; exact h2
  .have e': ¬q.1=k:=λz=>e (h1.trans z)
   have b:valueAt (q::qs) k=valueAt qs k:=by simp [valueAt,List.find?_cons,e']
   rw [iu e,b]; exact ih
theorem KV.any (r:KV aw vs) (k:κ):(aw.any λkv=>decide (kv.1=k))=vs.any λkv=>decide (kv.1=k):=by
 unfold KV at r
 induction r with
 |nil=>rfl
 |cons h t ih=>rw [List.any_cons,List.any_cons,ih,h.1]
theorem KV.D6 (r:KV aw vs) (k:κ) (ry:RelV y u):
  KV (aw.map λkv=>if kv.1=k then(kv.1,y) else kv) (vs.map λkv=>if kv.1=k then(kv.1,u) else kv):=by
 unfold KV at r ⊢
 induction r with
 |nil=>exact .nil
 |@cons p q ps qs h t ih=>
  rw [List.map_cons,List.map_cons]
  refine .cons ?_ ih
  obtain⟨h1,h2⟩:=h
  by_cases e:p.1=k
  .rw [if_pos e,if_pos (h1.symm.trans e)]; exact⟨h1,ry⟩
  .rw [if_neg e,if_neg (λz=>e (h1.trans z))]; exact⟨h1,h2⟩
theorem KV.put (r:KV aw vs) (k:κ) (ry:RelV y u):KV (ja aw k y) (stored vs k u):=by
 unfold ja stored
 rw [r.any k]
 by_cases e:(vs.any λkv=>decide (kv.1=k))=true
 .rw [if_pos e,if_pos e]; exact r.D6 k ry
 .rw [if_neg e,if_neg e]; exact Paired.snoc r ⟨rfl,ry⟩
theorem KV.keys {aw:List (κ×V)}{vs:List (κ×Value)} (r:KV aw vs):aw.map (·.1)=vs.map (·.1):=by
 unfold KV at r
 induction r with
 |nil=>rfl
 |cons h t ih=>rw [List.map_cons,List.map_cons,ih,h.1]
theorem KV.length (r:KV aw vs):aw.length=vs.length:=Paired.length r
end
theorem mT (r:RelV (kV k) u):(aU P w).is k u=true:=by
 cases k with
 |inl i=>obtain⟨t,e⟩:=(show∃t,u=Value.int i t from r); subst e; exact pb P w i t
 |inr x=>obtain⟨t,e⟩:=(show∃t,u=Value.str x t from r); subst e; exact ph P w x t
theorem mU: ∀{ks:List cB}{us:List Value},aA (ks.map kV) us->ItemsAre (aU P w) ks us
 |[],_,r=>by rw [List.map_nil] at r; cases r; exact .nil
 |k::ks,_,r=>by
  rw [List.map_cons] at r
  cases r with
  |cons h t=>exact .cons (mT h) (mU t)
noncomputable abbrev KT (H:Hp):List (List cB×V)->List (List cB×Addr×Value)->Prop:=Paired λp q=>p.1=q.1/\H q.2.1=some (.tup (p.1.map kV))/\RelV p.2 q.2.2
theorem KT.val {H:Hp}{aw:List (List cB×V)}{xs:List (List cB×Addr×Value)} (r:KT H aw xs) (k:List cB):lU (i_ aw k) ((atKey xs k).map (·.2)):=by
 induction r with
 |nil=>exact True.intro
 |@cons p q ps qs h t ih=>
  refine cK h λh1 _ h2=>?_
  by_cases e:p.1=k
  .have e':q.1=k:=h1.symm.trans e
   have b:atKey (q::qs) k=some q.2:=by simp [atKey,List.find?_cons,e']
   rw [ir e,b]; exact h2
  .have e': ¬q.1=k:=λz=>e (h1.trans z)
   have b:atKey (q::qs) k=atKey qs k:=by simp [atKey,List.find?_cons,e']
   rw [iu e,b]; exact ih
theorem KT.D6 (r:KT H aw xs) (k:List cB) (ry:RelV y u):
  KT H (aw.map λkv=>if kv.1=k then(kv.1,y) else kv) (xs.map (putAt k u)):=by
 induction r with
 |nil=>exact .nil
 |@cons p q ps qs h t ih=>
  rw [List.map_cons,List.map_cons]
  refine .cons ?_ ih
  refine cK h λh1 h2 h3=>?_
  unfold putAt
  by_cases e:p.1=k
  .rw [if_pos e,if_pos (h1.symm.trans e)]; exact⟨h1,h2,ry⟩
  .rw [if_neg e,if_neg (λz=>e (h1.trans z))]; exact⟨h1,h2,h3⟩
theorem KT.put (r:KT H aw xs) (k:List cB) (hb:H b=some (.tup (k.map kV))) (ry:RelV y u):
  KT H (ja aw k y) (storedH xs k b u):=by
 have e:(aw.any λkv=>decide (kv.1=k))=(atKey xs k).isSome :=by
  rw [pT,(r.val k).d_,Option.isSome_map]
 unfold ja storedH
 rw [e]
 by_cases q:(atKey xs k).isSome =true
 .rw [if_pos q,if_pos q]; exact r.D6 k ry
 .rw [if_neg q,if_neg q]; exact Paired.snoc r ⟨rfl,hb,ry⟩
theorem KT.keeps (r:KT H aw xs) (ht: ∀b ys,H b=some (.tup ys)->H' b=some (.tup ys)):KT H' aw xs:=
 Paired.GB r λ_ _ z=>⟨z.1,ht _ _ z.2.1,z.2.2⟩
section
variable {P:Program}{w:World}{H:Hp}{h:Heap}{a:Addr}
theorem Cf (ok:gH P w H h) (e:Rd H a u):aP P w H h a u:=e.ok ok
theorem iw (ok:gH P w H h) (e:Rd H a (.dK aw)):aw.length<=sizeLine/\(a == sysModules)=false/\ ∃vs,KV aw vs/\h.DictOf (aU P w) a vs:=
 show aP P w H h a (.dK aw) from Cf ok e
theorem Cg (ok:gH P w H h) (e:H a=some (.dK aw)):aw.length<=sizeLine/\(a == sysModules)=false/\ ∃vs,KV aw vs/\h.DictOf (aU P w) a vs:=iw ok (.inl e)
theorem jc (ok:gH P w H h) (e:H a=some (.tup (ks.map kV))):(tupleKind (aU P w)).is h ks a:=by
 refine ao λnO=>?_
 obtain⟨_,its,r,o,h1,h2,⟨n,h3⟩,_⟩:=(show aP P w H h a (.tup (ks.map kV)) from ok a _ e)
 exact nO <| ⟨o,its.toArray,n,h1,h2,h3,by simpa using mU r⟩
theorem kG (ok:gH P w H h) (e:Rd H a (.dT aw)):aw.length<=sizeLine/\(a == sysModules)=false/\
  ∃xs,KT H aw xs/\h.DictOfH (tupleKind (aU P w)) a xs:=by
 refine ao λnO=>?_
 obtain⟨z,y,xs,r,o,es,ep,h1,h2,h3,h4,h5⟩:=(show aP P w H h a (.dT aw) from Cf ok e)
 refine nO ?_
 refine⟨z,y,xs,r,o,es,ep,h1,h2,h3,h4,λx hx=>?_,h5⟩
 have all: ∀{l:List (List cB×V)}{m:List (List cB×Addr×Value)},KT H l m-> ∀x∈m,(tupleKind (aU P w)).is h x.1 x.2.1:=by
  intro l m q
  induction q with
  |nil=>intro x hx; exact nomatch hx
  |@cons p q ps qs hq t ih=>
   intro x hx
   rcases List.mem_cons.mp hx with e|hx
   .subst e
    exact jc ok (by rw [<-hq.1]; exact hq.2.1)
   .exact ih x hx
 exact all r x hx
theorem Ci (ok:gH P w H h) (e:H a=some (.dT aw)):aw.length<=sizeLine/\(a == sysModules)=false/\
  ∃xs,KT H aw xs/\h.DictOfH (tupleKind (aU P w)) a xs:=kG ok (.inl e)
end
noncomputable def nY (H:Hp) (a:Addr) (y:V) (r:Option V):Prop:=
 (∃aw k,Rd H a (.dK aw)/\y=kV k/\r=i_ aw k)\/ ∃aw k b,Rd H a (.dT aw)/\y= .ref b/\H b=some (.tup (k.map kV))/\r=i_ aw k
noncomputable def D7 (H:Hp) (a:Addr) (y v:V) (H':Hp):Prop:=
 (∃aw k,H a=some (.dK aw)/\y=kV k/\aw.length < sizeLine/\H'=upd H a (.dK (ja aw k v)))\/
 ∃aw k b,H a=some (.dT aw)/\y= .ref b/\H b=some (.tup (k.map kV))/\aw.length < sizeLine/\H'=upd H a (.dT (ja aw k v))
section
variable {X:Cx}{U:List (Addr×Obj)}{σ:St}{H:Hp}{s:Shared}{a:Addr}{y v:V}{u r:Value}{o:Option V}{A:Around}{E:Value->Shared->Prop}
theorem Inv.big (I:Inv X U σ H s):sysModules < s.heap.objs.size:=by
 have h:mainGlobals < s.heap.objs.size:=(I.mod.glob.keeps I.bk).lt
 exact Nat.lt_trans (by decide) h
theorem uL (hu:A.units + 1 < cLine) (I:Inv X U σ H s) (g:nY H a y (some v)) (ry:RelV y u) (h: ∀w' s',Inv X U σ H s'->RelV v w'->Q w' s'):
  wpAny (model X.prog X.w) A (getItem (.ref a) u) Q E s:=by
 rcases g with ⟨aw,k,e,ey,l⟩|⟨aw,k,b,e,ey,eb,l⟩
 .refine ao λnO=>?_
  subst ey
  obtain⟨z,hd,vs,ed,dd⟩:=iw I.aN e
  exact ae (lU.some_of (v:=v) (o:=valueAt vs k) (by rw [l]; exact ed.val k)) λw' hw v8=>nO <| wpAny_getItem_of (mT ry) dd.mapOf hw (h w' _ (I.tok _) v8)
 .subst ey
  cases (show u=Value.ref b from ry)
  refine ao λnO=>?_
  obtain⟨z,hd,xs,ed,dd⟩:=kG I.aN e
  refine ae (lU.some_of (v:=v) (o:=(atKey xs k).map (·.2)) (by rw [l]; exact ed.val k)) λw' hw v8=>ae (Option.map_eq_some_iff.mp hw) λp hp uM=>nO <| wpAny_getItem_heap (tupleKind_room_in1 hu) (jc I.aN eb) dd hp ?_
  rw [uM]
  exact h w' _ (I.tok _) v8
theorem Mr (hu:A.units + 1 < cLine) (I:Inv X U σ H s) (g:nY H a y o) (ry:RelV y u) (h: ∀s',Inv X U σ H s'->Q (.bool o.isSome) s'):
  wpAny (model X.prog X.w) A (compareOp .In u (.ref a)) Q E s:=by
 rcases g with ⟨aw,k,e,ey,l⟩|⟨aw,k,b,e,ey,eb,l⟩
 .refine ao λnO=>?_
  subst ey
  obtain⟨z,hd,vs,ed,dd⟩:=iw I.aN e
  refine nO <| wpAny_in_of (mT ry) hd dd.mapOf ?_
  rw [<-(ed.val k).d_,<-l]
  exact h _ (I.tok _)
 .subst ey
  cases (show u=Value.ref b from ry)
  refine ao λnO=>?_
  obtain⟨z,hd,xs,ed,dd⟩:=kG I.aN e
  refine nO <| wpAny_in_heap (tupleKind_room_in1 hu) (jc I.aN eb) hd dd ?_
  have q:=(ed.val k).d_
  rw [Option.isSome_map] at q
  rw [<-q,<-l]
  exact h _ (I.tok _)
theorem zR (hu:A.units + 1 < cLine) (I:Inv X U σ H s) (g:nY H a y o) (ry:RelV y u) (h: ∀s',Inv X U σ H s'->Q (.bool (!o.isSome)) s'):
  wpAny (model X.prog X.w) A (compareOp .NotIn u (.ref a)) Q E s:=by
 rcases g with ⟨aw,k,e,ey,l⟩|⟨aw,k,b,e,ey,eb,l⟩
 .refine ao λnO=>?_
  subst ey
  obtain⟨z,hd,vs,ed,dd⟩:=iw I.aN e
  refine nO <| wpAny_notIn_of (mT ry) hd dd.mapOf ?_
  rw [<-(ed.val k).d_,<-l]
  exact h _ (I.tok _)
 .subst ey
  cases (show u=Value.ref b from ry)
  refine ao λnO=>?_
  obtain⟨z,hd,xs,ed,dd⟩:=kG I.aN e
  refine nO <| wpAny_notIn_heap (tupleKind_room_in1 hu) (jc I.aN eb) hd dd ?_
  have q:=(ed.val k).d_
  rw [Option.isSome_map] at q
  rw [<-q,<-l]
  exact h _ (I.tok _)
theorem j4 (I:Inv X U σ H s) (mu:vH (H a)) (hs:Heap.SameBut a s.heap h') (he: ∃q,h'.get? a=some q) (new:aP X.prog X.w (upd H a ob) h' a ob):
  Inv X U σ (upd H a ob) {s with heap:=h',toks:=t'}:=
 I.write (x:=a) (e:=a) mu (.inl rfl) (λb q hb z=>(hs.2 b hb).trans z) he new
theorem wF (z:aw.length<=sizeLine) (hd:(a == sysModules)=false) (ed:KV aw vs) (dd:h'.DictOf (aU P w) a vs):
  aP P w H' h' a (.dK aw):=⟨z,hd,vs,ed,dd⟩
theorem uN (hu:A.units + 1 < cLine) (I:Inv X U σ H s) (g:D7 H a y v H') (ry:RelV y u) (rv:RelV v r) (h: ∀s',Inv X U σ H' s'->Q () s'):
  wpAny (model X.prog X.w) A (setItem (.ref a) u r) Q E s:=by
 rcases g with ⟨aw,k,e,ey,l,eH⟩|⟨aw,k,b,e,ey,eb,l,eH⟩
 .refine ao λnO=>?_
  subst ey eH
  obtain⟨z,hd,vs,ed,dd⟩:=Cg I.aN e
  refine nO ?_
  have hz:vs.length<=sizeLine:=by rw [<-ed.length]; exact z
  have hl:(ja aw k v).length <=sizeLine:=by have:=jG aw k v; lia
  refine wpAny_setItem_pairs (hsz:=hz) (mT ry) dd λh' zS hs=>h _ ?_
  have he: ∃q,h'.get? a=some q:=let ⟨q,_,_,hq,_⟩:=zS; ⟨q,hq⟩
  exact j4 I (by rw [e]; exact True.intro) hs he (wF hl hd (ed.put k rv) zS)
 .subst ey eH
  cases (show u=Value.ref b from ry)
  refine ao λnO=>?_
  obtain⟨z,hd,xs,ed,dd⟩:=Ci I.aN e
  refine nO ?_
  have hz:xs.length<=sizeLine:=by rw [<-Paired.length ed]; exact z
  have hl:(ja aw k v).length <=sizeLine:=by have:=jG aw k v; lia
  refine wpAny_setItem_heap (hsz:=hz) (tupleKind_room_in1 hu) (jc I.aN eb) dd λh' zS hs=>h _ <| ao λnO=>Gx zS λq es ep hq h2 h3 h4 _ h5=>nO ?_
  refine j4 I (by rw [e]; exact True.intro) hs ⟨q,hq⟩ ⟨hl,hd,_,(ed.put k eb rv).keeps λc ys ec=>?_,q,es,ep,hq,h2,h3,h4,h5⟩
  rw [ak (fc ec e (λz=>nomatch z))]
  exact ec
end
noncomputable def zT (i:Expr):Prop:= ∀ov iv,subscripted i false ov iv=operate [ov,iv] (getItem ov iv)
theorem zU {prog:Program}{w:World}{A:Around}{E:Value->Shared->Prop}{s:Shared}{env:Env}{value slice:Expr}{pos:Pos}{T id:String}{Q:Value->Shared->Prop}
  (hl:typeLookup (.type T) "__getitem__"=pure (some (.builtin id))) (hs:zT slice)
  (h:wpAny (model prog w) A (eval value env) (λo aT=>wpAny (model prog w) A (eval slice env) (λi kl=>kl.TypeIs o T/\wpAny (model prog w) A (getItem o i) Q E kl) E aT) E s):
  wpAny (model prog w) A (eval (.Subscript value slice pos) env) Q E s:=by
 refine Subscript_ (wpAny_mono h (λo aT zH=>wpAny_mono zH (λi kl wm=>?_) λ_ _ x=>x) λ_ _ x=>x)
 obtain⟨hT,wm⟩:=wm
 unfold subscriptTail
 refine wpAny_bind ?_
 rw [getitemInPython_of_ne hT.not_modules]
 refine wpAny_bind (wpAny_specialOf hT hl ?_)
 have fin:wpAny (model prog w) A (subscripted slice false o i) (λr uB=>wpAny (model prog w) A (letTemporaryGo value o r >>= λ_=>pure r) Q E uB) E kl:=by
  rw [hs o i]
  exact wpAny_operating (wpAny_mono wm (λr uB zI=>wpAny_bind (wpAny_letTemporaryGo (wpAny_pure zI))) λ_ _ x=>x)
 first
  |exact wpAny_pure (wpAny_bind fin)
  |exact wpAny_bind (wpAny_pure (wpAny_bind fin))
  |exact wpAny_bind fin
theorem pU (I:Inv X U σ H s) (g:nY H a y o):s.TypeIs (.ref a) "dict":=by
 rcases g with ⟨aw,k,e,_,_⟩|⟨aw,k,b,e,_,_,_⟩
 .obtain⟨_,_,vs,_,dd⟩:=iw I.aN e
  exact dd.typeIs
 .obtain⟨_,_,xs,_,dd⟩:=kG I.aN e
  exact dd.typeIs
noncomputable def HG (td ty:TE):TE:=λσ H Q=>td σ H λx H1=>ty σ H1 λy H2=> ∃a v,x= .ref a/\nY H2 a y (some v)/\Q v H2
noncomputable def Mt (ty td:TE):TE:=λσ H Q=>ty σ H λy H1=>td σ H1 λx H2=> ∃a o,x= .ref a/\nY H2 a y o/\Q (.bl o.isSome) H2
noncomputable def zV (ty td:TE):TE:=λσ H Q=>ty σ H λy H1=>td σ H1 λx H2=> ∃a o,x= .ref a/\nY H2 a y o/\Q (.bl (!o.isSome)) H2
noncomputable def sC (td ty tv:TE):TS:=λD σ H=>tv σ H λv H1=>td σ H1 λx H2=>ty σ H2 λy H3=> ∃a H4,x= .ref a/\D7 H3 a y v H4/\D.nx σ H4
section
variable {X:Cx}{o i e value:Expr}{pos pA tpos:Pos}{td ty tv:TE}
theorem zW (hu:X.A.units + 1 < cLine) (ho:PE X o td) (hi:PE X i ty) (hs:zT i):PE X (.Subscript o i pos) (HG td ty):=by
 intro U s σ H Q I h
 refine zU PySem.F.slot_dict_getitem.lookup hs (bz (ho U s σ H _ I h) λu s1 zz=>ba zz λx H1 I1 rx q1=>bz (hi U s1 σ H1 _ I1 q1) λiv s2 zz=>?_)
 refine ao λnO=>?_
 obtain⟨y,H2,I2,ry,a,v,ex,g,q2⟩:=zz
 subst ex
 refine nO ?_
 obtain rfl:u=Value.ref a:=rx
 exact⟨pU I2 g,uL hu I2 g ry λw' s3 I3 v8=>⟨v,H2,I3,v8,q2⟩⟩
theorem D8 (hu:X.A.units + 1 < cLine) (hi:PE X i ty) (ho:PE X o td):PC X .In i o (Mt ty td):=by
 intro U s σ H Q I h
 refine bz (hi U s σ H _ I h) λiv s1 zz=>ba zz λy H1 I1 ry q1=>bz (ho U s1 σ H1 _ I1 q1) λu s2 zz=>ao λnO=>?_
 obtain⟨x,H2,I2,rx,a,ov,ex,g,q2⟩:=zz
 subst ex
 refine nO ?_
 obtain rfl:u=Value.ref a:=rx
 exact Mr hu I2 g ry λs3 I3=>⟨.bl ov.isSome,H2,I3,rfl,q2⟩
theorem uO (hu:X.A.units + 1 < cLine) (hi:PE X i ty) (ho:PE X o td):PC X .NotIn i o (zV ty td):=by
 intro U s σ H Q I h
 refine bz (hi U s σ H _ I h) λiv s1 zz=>ba zz λy H1 I1 ry q1=>bz (ho U s1 σ H1 _ I1 q1) λu s2 zz=>ao λnO=>?_
 obtain⟨x,H2,I2,rx,a,ov,ex,g,q2⟩:=zz
 subst ex
 refine nO ?_
 obtain rfl:u=Value.ref a:=rx
 exact zR hu I2 g ry λs3 I3=>⟨.bl (!ov.isSome),H2,I3,rfl,q2⟩
theorem sD (hu:X.A.units + 1 < cLine) (ho:PE X o td) (hi:PE X i ty) (hv:PE X value tv) (hs:swapsWith value (some (.Subscript o i pA)) pos.line X.env=pure false):
  PS X (.Assign [.Subscript o i pA] value pos) (sC td ty tv):=by
 intro U s σ H D I h
 refine wpAny_Assign_Subscript (bz (hv U s σ H _ I h) λr s1 ⟨v,H1,I1,rv,q1⟩=>bz (ho U s1 σ H1 _ I1 q1) λu s2 ⟨x,H2,I2,rx,q2⟩=>bz (hi U s2 σ H2 _ I2 q2) λiv s3 ⟨y,H3,I3,ry,a,H4,ex,g,q3⟩=>?_) hs
 subst ex
 obtain rfl:u=Value.ref a:=rx
 exact uN hu I3 g ry rv λs4 I4=>⟨σ,H4,I4,q3⟩
end
theorem wG (h:Heap) (hb:sysModules < h.objs.size):aP P w H (h.push {cls:= .type "dict",data:= .dict #[]}) h.objs.size (.dK []):=
 ⟨Nat.zero_le _,beq_eq_false_iff_ne.mpr (Ne.symm (Nat.ne_of_lt hb)),[],.nil,Heap.DictOf.new h⟩
theorem wH (h:Heap) (hb:sysModules < h.objs.size):aP P w H (h.push {cls:= .type "dict",data:= .dict #[]}) h.objs.size (.dT []):=
 ⟨Nat.zero_le _,beq_eq_false_iff_ne.mpr (Ne.symm (Nat.ne_of_lt hb)),[],.nil,_,#[],0,Heap.get?_push_size _ rfl,⟨rfl,rfl,rfl⟩,rfl,rfl,List.nodup_nil⟩
section
variable {X:Cx}{pos:Pos}
end
noncomputable def To (H:Hp) (a:Addr):Prop:=(∃aw,Rd H a (.dK aw))\/ ∃aw,Rd H a (.dT aw)
theorem D9 (I:Inv X U σ H s) (d:To H a):
  s.TypeIs (.ref a) "dict"/\(∀b,Value.ref a= .ref b-> ∃ob,s.heap.get? b=some ob/\ob.dict=none)/\(a == sysModules)=false:=by
 rcases d with ⟨aw,e⟩|⟨aw,e⟩
 .refine ao λnO=>?_
  obtain⟨_,hd,vs,_,dd⟩:=iw I.aN e
  refine nO ?_
  refine⟨dd.typeIs,λb q=>?_,hd⟩
  refine ao λnO=>?_
  cases q
  exact cG dd λob _ _ h1 h2 _=>nO <| ⟨ob,h1,h2.2.1⟩
 .refine ao λnO=>?_
  obtain⟨_,hd,xs,_,dd⟩:=kG I.aN e
  refine nO ?_
  refine⟨dd.typeIs,λb q=>?_,hd⟩
  refine ao λnO=>?_
  cases q
  exact cG dd λob _ _ h1 h2 _=>nO <| ⟨ob,h1,h2.2.1⟩
section
variable {X:Cx}{U:List (Addr×Obj)}{σ:St}{H:Hp}{s:Shared}{a:Addr}{y d:V}{u r:Value}{o:Option V}{A:Around}{E:Value->Shared->Prop}
end
section
variable {X:Cx}{o e f:Expr}{lZ fx:Pos}{td ty tx:TE}
end
end L2
namespace bI
open PySem PyProof.Rows
noncomputable abbrev SM:=StateT SortSt Sem
noncomputable def bW:Bool->Keyed->Array Keyed->Nat->Nat->Nat->SM (Option Nat):=sortPriv% PySem.Builtin.gallop
noncomputable def kH:Array Keyed->Array Keyed->SM (Array Keyed):=sortPriv% PySem.Builtin.mergeLo
noncomputable def kI:Array Keyed->Array Keyed->SM (Array Keyed):=sortPriv% PySem.Builtin.mergeHi
noncomputable abbrev setG (zt:SortSt) (g:Nat):SortSt:=SortSt.mk' (kindOf zt) (arrOf zt) (pendingOf zt) g (failedOf zt)
noncomputable def aW (g:Nat):SM Unit:=modify λs=>setG s g
noncomputable def dN (left:Bool) (key:Keyed) (arr:Array Keyed) (base i:Nat):SM (Option Bool):=do {let x<-elem' arr (base + i); if left then lt' x key else return (<-lt' key x).map (!·)}
section
variable {prog:Program}{w:World}{A:Around}{E:Value->Shared->Prop}{s:Shared}{κ:SortKind}{P:Keyed->Prop}
theorem aY (hi:i < arr.size) (q:Q arr[i] zt):wpS (model prog w) A E s (elem' arr i) Q zt:=by
 rw [elem'_eq,Array.getElem?_eq_getElem hi]
 exact wpS_pure q
structure Sm (zt aj:SortSt):Prop where
 k:kindOf aj=kindOf zt
 a:arrOf aj=arrOf zt
 p:pendingOf aj=pendingOf zt
 f:failedOf aj=failedOf zt
theorem Sm.rfl':Sm zt zt:=⟨rfl,rfl,rfl,rfl⟩
theorem Sm.setG (h:Sm zt aj):Sm zt (setG aj g):=⟨h.k,h.a,h.p,h.f⟩
noncomputable def Pt (a b out:Array Keyed) (i j:Nat):Prop:=out.toList.Perm (a.toList.take i++b.toList.take j)
theorem c_ (X Y Z:List α):((X++Y)++Z).Perm ((X++Z)++Y):=by
 rw [List.append_assoc,List.append_assoc]
 exact List.Perm.append_left X List.perm_append_comm
section
variable {a b out:Array Keyed}{i j k:Nat}
theorem ef (a:Array Keyed):a.toList.take i++(a.extract i (i + k)).toList =a.toList.take (i + k):=by
 rw [Array.toList_extract]
 unfold List.extract
 rw [show i + k - i=k by lia,List.take_add]
theorem Pt.nZ (h:Pt a b out i j):Pt a b (out++b.extract j (j + k)) i (j + k):=by
 unfold Pt at h ⊢
 rw [Array.toList_append,<-ef b,<-List.append_assoc]
 exact h.append_right _
theorem Pt.n6 (h:Pt a b out i j):Pt a b (out++a.extract i (i + k)) (i + k) j:=by
 unfold Pt at h ⊢
 rw [Array.toList_append,<-ef a]
 exact(h.append_right _).trans (c_ _ _ _)
theorem fY (hi:i < a.size):(a.extract i (i + 1)).toList =[a[i]]:=by
 rw [Array.toList_extract]
 unfold List.extract
 have gw:i < a.toList.length:=by simpa using hi
 rw [show i + 1 - i=1 by lia,List.drop_eq_getElem_cons gw]
 simp
theorem sE (a:Array Keyed) (hi:i<=a.size):a.toList.take i++(a.extract i a.size).toList =a.toList:=by
 have:=ef a (i:=i) (k:=a.size - i)
 rw [show i + (a.size - i)=a.size by lia] at this
 rw [this]
 exact List.take_of_length_le (by simp)
theorem Pt.done (h:Pt a b out i j) (hi:i<=a.size) (hj:j<=b.size):((out++a.extract i a.size)++b.extract j b.size).toList.Perm (a.toList++b.toList):=by
 unfold Pt at h
 rw [Array.toList_append,Array.toList_append]
 refine((h.append_right _).append_right _).trans <| ((c_ _ _ _).append_right _).trans ?_
 rw [sE a hi,List.append_assoc,sE b hj]
theorem Pt.last (h:Pt a b out i j) (hi:i<=a.size) (hj:j<=b.size):((out++b.extract j b.size)++a.extract i a.size).toList.Perm (a.toList++b.toList):=by
 refine List.Perm.trans ?_ (h.done hi hj)
 simp only [Array.toList_append]
 exact c_ _ _ _
end
theorem fA [Decidable c] (t:c->wpS (model prog w) A E s x Q zt) (f: ¬c->wpS (model prog w) A E s y Q zt):wpS (model prog w) A E s (if c then x else y) Q zt:=by
 split
 .exact t ‹_›
 .exact f ‹_›
noncomputable def Ph (a b out:Array Keyed) (i j:Nat):Prop:=((a.toList.take i++b.toList.take j)++out.toList).Perm (a.toList++b.toList)
section
variable {a b out:Array Keyed}{i j k:Nat}
theorem pV (a:Array Keyed) (h:k<=i):a.toList.take k++(a.extract k i).toList =a.toList.take i:=by
 have:=ef a (i:=k) (k:=i - k)
 rwa [show k + (i - k)=i by lia] at this
theorem dq (a:Array Keyed):(a.extract 0 i).toList =a.toList.take i:=by
 rw [Array.toList_extract]
 unfold List.extract
 simp
theorem Ph.n6 (h:Ph a b out i j) (hk:k<=i) (_:i<=a.size):Ph a b (out++(a.extract k i).reverse) k j:=by
 unfold Ph at h ⊢
 refine List.Perm.trans ?_ h
 rw [Array.toList_append,Array.toList_reverse,<-pV a hk,<-List.append_assoc]
 exact(List.Perm.append_left _ (List.reverse_perm _)).trans <| (c_ _ _ _).trans <| (c_ _ _ _).append_right _
theorem Ph.nZ (h:Ph a b out i j) (hk:k<=j) (_:j<=b.size):Ph a b (out++(b.extract k j).reverse) i k:=by
 unfold Ph at h ⊢
 refine List.Perm.trans ?_ h
 rw [Array.toList_append,Array.toList_reverse,<-pV b hk,<-List.append_assoc,<-List.append_assoc]
 exact(List.Perm.append_left _ (List.reverse_perm _)).trans <| c_ _ _ _
theorem iy (h1:1<=i) (hi:i - 1 < a.size):(a.extract (i - 1) i).toList =[a[i - 1]]:=by
 have:=fY (a:=a) (i:=i - 1) hi
 rwa [show i - 1 + 1=i by lia] at this
theorem Ph.done (h:Ph a b out i j):((a.extract 0 i++b.extract 0 j)++out.reverse).toList.Perm (a.toList++b.toList):=by
 unfold Ph at h
 refine List.Perm.trans ?_ h
 rw [Array.toList_append,Array.toList_append,dq,dq,Array.toList_reverse]
 exact List.Perm.append_left _ (List.reverse_perm _)
theorem Ph.first (h:Ph a b out i j):((b.extract 0 j++a.extract 0 i)++out.reverse).toList.Perm (a.toList++b.toList):=by
 refine List.Perm.trans ?_ h.done
 simp only [Array.toList_append]
 exact List.perm_append_comm.append_right _
end
end
end bI
namespace bI
open PySem PyProof.Rows
section
variable {prog:Program}{w:World}{A:Around}{E:Value->Shared->Prop}{s:Shared}{κ:SortKind}{P:Keyed->Prop}
structure Ar (zt aj:SortSt):Prop where
 k:kindOf aj=kindOf zt
 a:(arrOf aj).Perm (arrOf zt)
 p:pendingOf aj=pendingOf zt
 f:failedOf aj=failedOf zt
theorem Ar.rfl':Ar zt zt:=⟨rfl,Array.Perm.refl _,rfl,rfl⟩
theorem Ar.set (h:Ar zt aj) (hx:x.Perm (arrOf aj)):Ar zt (setArr aj x):=⟨h.k,hx.trans h.a,h.p,h.f⟩
theorem Ar.size (h:Ar zt aj):(arrOf aj).size =(arrOf zt).size :=h.a.size_eq
theorem Ar.all (h:Ar zt aj) (hp: ∀x∈arrOf zt,P x): ∀x∈arrOf aj,P x:=λx hx=>hp x (h.a.mem_iff.mp hx)
theorem sF (q:Q () (setArr zt (mirror (arrOf zt) i j ((j - i) / 2)))):wpS (model prog w) A E s (reverseSlice' i j) Q zt:=by
 rw [reverseSlice'_eq]
 exact wpS_modify q
theorem pW (i:Nat):mergeAt' i=(do
  let s<-get
  let (some (sa,na,power),some (sb,nb,_)):=((pendingOf s)[i]?,(pendingOf s)[i + 1]?)|unsupported "internal:list.sort.pending"
  set (setPending s (((pendingOf s).setIfInBounds i (sa,na + nb,power)).eraseIdxIfInBounds (i + 1)))
  let some k<-bW false (<-elem' (arrOf s) sb) (arrOf s) sa na 0|return false
  let (sa,na):=(sa + k,na - k)
  if na == 0 then return true
  let some nb<-bW true (<-elem' (arrOf s) (sa + na - 1)) (arrOf s) sb nb (nb - 1)|return false
  if nb == 0 then return true
  let x:=(arrOf s).extract sa sb
  let y:=(arrOf s).extract sb (sb + nb)
  let merged<-if na<=nb then kH x y else kI x y
  modify λs=>setArr s (merged.toList.zipIdx.foldl (λa (p,j)=>a.setIfInBounds (sa + j) p) (arrOf s))
  return (failedOf (<-get)).isNone):=rfl
theorem zX {σ:Type}{M:Model}{zt aj:σ}{Q:PUnit->σ->Prop} (h:Q ⟨⟩ aj):wpS M A E s (set aj:StateT σ Sem PUnit) Q zt:=by
 unfold wpS
 rw [StateT.run_set]
 exact wpAny_pure ⟨rfl,h⟩
theorem n8: ∀(ms:List Keyed) (o j:Nat) (a:Array Keyed),o + j + ms.length<=a.size->
  ((ms.zipIdx j).foldl (λa (p:Keyed×Nat)=>a.setIfInBounds (o + p.2) p.1) a).toList =a.toList.take (o + j)++ms++a.toList.drop (o + j + ms.length)
 |[],o,j,a,h=>by simp
 |m::ms,o,j,a,h=>by
  rw [List.length_cons] at h
  rw [List.zipIdx_cons,List.foldl_cons,n8 ms o (j + 1) _ (by rw [Array.size_setIfInBounds]; lia)]
  have e:(a.setIfInBounds (o + j) m).toList =a.toList.set (o + j) m:=Array.toList_setIfInBounds ..
  have hl:o + j < a.toList.length:=by rw [Array.length_toList]; lia
  rw [e,List.set_eq_take_append_cons_drop,if_pos hl,List.length_cons]
  have ht:(List.take (o + j) a.toList).length =o + j:=by rw [List.length_take]; lia
  have e5:(a.toList.take (o + j)++m::a.toList.drop (o + j + 1)).take (o + (j + 1))=a.toList.take (o + j)++[m]:=by
   rw [List.take_append,ht,show o + (j + 1) - (o + j)=1 by lia,List.take_of_length_le (by rw [ht]; lia)]
   rfl
  have e6:(a.toList.take (o + j)++m::a.toList.drop (o + j + 1)).drop (o + (j + 1) + ms.length)=a.toList.drop (o + j + (ms.length + 1)):=by
   rw [List.drop_append,ht,show o + (j + 1) + ms.length - (o + j)=ms.length + 1 by lia,List.drop_of_length_le (by rw [ht]; lia),List.nil_append,List.drop_succ_cons,List.drop_drop]
   congr 1
   lia
  rw [e5,e6]
  simp
theorem sG {a:Array Keyed}{i j:Nat}{x:Keyed} (h:x∈a.extract i j):x∈a:=by
 rw [<-Array.mem_toList_iff,Array.toList_extract] at h
 unfold List.extract at h
 exact Array.mem_toList_iff.mp (List.mem_of_mem_drop (List.mem_of_mem_take h))
end
end bI
namespace bI
open PySem PyProof.Rows
section
variable {prog:Program}{w:World}{A:Around}{E:Value->Shared->Prop}{s:Shared}{κ:SortKind}{P:Keyed->Prop}
theorem HH [Decidable c] (h1:x + 1 < n) (h2:y + 1 < n):(if c then x else y) + 1 < n:=by split <;> assumption
end
end bI
namespace bI
open PySem PyProof.Rows PySem.W
noncomputable def jd (h:Heap) (v:Value):Prop:= ∃(x:Addr) (o:Obj) (xs:List Value) (n:Nat) (i:Int) (r:List Int),v= .ref x/\h.get? x=some o/\o.cls= .type "tuple"/\o.data= .seq xs.toArray n/\IntsAre xs (i::r)
section
variable {prog:Program}{w:World}{A:Around}{E:Value->Shared->Prop}{s:Shared}
theorem jH: ∀{vs:List Value},(∀v∈vs,jd h v)-> ∃fs,KatTups h vs fs/\(∀f∈fs,∃i t,f=Value.int i t)/\fs.length=vs.length
 |[],_=>⟨[],.nil,λ_ z=>(nomatch z),rfl⟩
 |v::vs,hv=>by
  refine bA (jH (vs:=vs) λz hz=>hv z (List.mem_cons_of_mem _ hz)) λfs h1 h2 h3=>FW (hv v List.mem_cons_self) λx o xs n i r af g1 g2 g3 g4=>?_
  subst af
  cases g4 with
  |cons _ t g5=>exact⟨_,.cons g1 g2 g3 rfl h1,λf hf=>(List.mem_cons.mp hf).elim (λz=>⟨i,t,z⟩) (h2 f),by rw [List.length_cons,List.length_cons,h3]⟩
theorem pX (vs:List Value):(vs.toArray.zip vs.toArray).map (λp:Keyed=>p.2)=vs.toArray:=by
 apply Array.toList_inj.mp
 rw [Array.toList_map,Array.toList_zip]
 exact List.map_snd_zip (Nat.le_refl _)
end
end bI
namespace L2
open PySem PySem.Spec PyProof.Rows
noncomputable def fB (h:Heap) (d:Addr) (es:Array DictEntry) (ep:Nat):Prop:= ∃o,h.get? d=some o/\o.ExactDict/\o.data= .dict es ep
theorem fB.ty {s:Shared}{d:Addr}{es:Array DictEntry}{ep:Nat} (r:fB s.heap d es ep):s.TypeIs (.ref d) "dict":=let ⟨o,e,c,_⟩:=r; ⟨o,e,c.1⟩
theorem fB.on (r:fB h d es ep) (k: ∀o,h.get? d=some o->h'.get? d=some o):fB h' d es ep:=let ⟨o,e,c⟩:=r; ⟨o,k o e,c⟩
theorem fB.lt {h:Heap}{d:Addr}{es:Array DictEntry}{ep:Nat} (r:fB h d es ep):d < h.objs.size:=let ⟨_,e,_⟩:=r; Heap.lt_size e
section
variable {prog:Program}{w:World}{A:Around}{E:Value->Shared->Prop}{s:Shared}{d:Addr}{es:Array DictEntry}{ep:Nat}
end
end L2
namespace L2
open PySem PySem.Spec PyProof.Rows PySem.W
section
variable {prog:Program}{w:World}{A:Around}{E:Value->Shared->Prop}{s:Shared}{d it:Addr}{es:Array DictEntry}{ep i:Nat}
theorem pY (hm:(d == sysModules)=false) (r:fB s.heap d es ep) (h:Q (.ref s.heap.objs.size) {s with heap:=s.heap.push {cls:= .type "dict_keyiterator",data:= .fields #[.ref d,.int 0 0,.int es.size 0,.int ep 0]}}):
  wpAny (model prog w) A (pyIter (.ref d)) Q E s:=by
 have T:=r.ty
 refine bA r λo e c dt=>wpAny_pyIter_slot T F.slot_dict_iter (wpAny_call_entry F.slot_dict_iter T F.entry_dict_iter ?_ (F.args_dict_iter_1 _))
 unfold Builtin.«dict.__iter__» Builtin.Dict.dictSlotNone
 refine wpAny_bind (wpAny_bind (wpAny_notOrdered_dict T ?_))
 show wpAny _ _ (pure (Value.ref d)) _ _ s
 refine wpAny_pure ?_
 show wpAny _ _ (Builtin.Dict.showsAll d >>= λ_=>_) _ _ s
 unfold Builtin.Dict.showsAll
 rw [if_neg (by rw [hm]; exact Bool.false_ne_true)]
 refine wpAny_bind (wpAny_pure (wpAny_bind (wpAny_dictEntries e dt (wpAny_bind (wpAny_dictEpoch e dt ?_)))))
 refine wpAny_bind (wpAny_newObj_type (wpAny_pure ⟨_,rfl,"dict_keyiterator",_,⟨_,Heap.get?_push_size _ rfl,rfl⟩,F.slot_dict_keyiterator_next.lookup,?_⟩))
 simpa [rawInt] using h
theorem pZ (k:s.heap.IsKeyIter it d i es.size ep) (r:fB s.heap d es ep) (hi:i < es.size)
  (h: ∀h',h'.IsKeyIter it d (i + 1) es.size ep->Heap.SameBut it s.heap h'->Q (some es[i].key) {s with heap:=h'}):wpAny (model prog w) A (pyNext (.ref it)) Q E s:=by
 have T:=k.typeIs
 refine bA (id k) λoi ei ci di=>bA r λo e c dt=>?_
 unfold pyNext
 refine wpAny_bind (wpAny_attempt (wpAny_callSpecial?_slot (name:=Str.ofString "__next__") T F.slot_dict_keyiterator_next (wpAny_call_entry F.slot_dict_keyiterator_next T F.entry_dict_keyiterator_next ?_ (F.args_dict_keyiterator_next_1 _))))
 refine wpAny_bind (wpAny_pure (wpAny_bind (wpAny_bind ?_)))
 first|refine wpAny_bind (wpAny_typeNameOfWhole_keyiter T (wpAny_pure (wpAny_bind (wpAny_fieldsOf ei di ?_))))|refine wpAny_bind (wpAny_typeNameOf_keyiter T (wpAny_pure (wpAny_bind (wpAny_fieldsOf ei di ?_))))
 have own:Builtin.Dict_items.ownsTuple "dict_keyiterator"=false:=by decide
 simp only [own,Bool.false_eq_true,if_false]
 show wpAny _ _ (if(Value.ref d == Value.none)=true then _ else _) _ _ s
 rw [if_neg (show¬((Value.ref d == Value.none)=true) from Bool.false_ne_true)]
 refine wpAny_bind (wpAny_pure (wpAny_bind (wpAny_dictEntries e dt ?_)))
 rw [if_neg (by simp)]
 refine wpAny_bind (wpAny_pure (wpAny_bind (wpAny_dictEpoch e dt ?_)))
 rw [if_neg (by simp)]
 refine wpAny_pure ?_
 simp only [show¬((i:Int) < 0) from by lia,if_false,Int.toNat_natCast,Array.getElem?_eq_getElem hi]
 refine wpAny_bind ?_
 first|refine wpAny_bind (wpAny_typeNameOfWhole_keyiter T (wpAny_pure (wpAny_bind (wpAny_isOneOf_keyiter T ?_))))|refine wpAny_bind (wpAny_typeNameOf_keyiter T (wpAny_pure (wpAny_bind (wpAny_isOneOf_keyiter T ?_))))
 show wpAny _ _ (setField (.ref it) 1 (rawInt ((i:Int) + 1)) >>= λ_=>_) _ _ s
 refine wpAny_bind (wpAny_setField ei di (by simp) ?_)
 have k':(s.heap.update it (Obj.mapFields (·.setIfInBounds 1 (rawInt ((i:Int) + 1))))).IsKeyIter it d (i + 1) es.size ep:=
  ⟨_,Heap.get?_update_self _ ei (Obj.isFreed_of_fields (Obj.data_mapFields di _)),(Obj.cls_mapFields ..).trans ci,by rw [Obj.data_mapFields di]; simp [rawInt]⟩
 refine wpAny_bind (wpAny_holding (wpAny_bind (wpAny_isOneOf_keyiter (s:={s with heap:=s.heap.update it (Obj.mapFields (·.setIfInBounds 1 (rawInt ((i:Int) + 1))))}) k'.typeIs ?_)))
 show wpAny _ _ (pure es[i].key) _ _ _
 exact wpAny_pure (wpAny_pure ⟨_,rfl,wpAny_pure (h _ k' (Heap.SameBut.update ..))⟩)
theorem sH (hh:A.handled=none) (k:s.heap.IsKeyIter it d es.size es.size ep) (r:fB s.heap d es ep) (h: ∀h',Heap.ExtBut it s.heap h'->Q none {s with heap:=h'}):wpAny (model prog w) A (pyNext (.ref it)) Q E s:=by
 have T:=k.typeIs
 refine bA (id k) λoi ei ci di=>bA r λo e c dt=>?_
 unfold pyNext
 refine wpAny_bind (wpAny_attempt (wpAny_callSpecial?_slot (name:=Str.ofString "__next__") T F.slot_dict_keyiterator_next (wpAny_call_entry F.slot_dict_keyiterator_next T F.entry_dict_keyiterator_next ?_ (F.args_dict_keyiterator_next_1 _))))
 refine wpAny_bind (wpAny_pure (wpAny_bind (wpAny_bind ?_)))
 first|refine wpAny_bind (wpAny_typeNameOfWhole_keyiter T (wpAny_pure (wpAny_bind (wpAny_fieldsOf ei di ?_))))|refine wpAny_bind (wpAny_typeNameOf_keyiter T (wpAny_pure (wpAny_bind (wpAny_fieldsOf ei di ?_))))
 have own:Builtin.Dict_items.ownsTuple "dict_keyiterator"=false:=by decide
 simp only [own,Bool.false_eq_true,if_false]
 show wpAny _ _ (if(Value.ref d == Value.none)=true then _ else _) _ _ s
 rw [if_neg (show¬((Value.ref d == Value.none)=true) from Bool.false_ne_true)]
 refine wpAny_bind (wpAny_pure (wpAny_bind (wpAny_dictEntries e dt ?_)))
 rw [if_neg (by simp)]
 refine wpAny_bind (wpAny_pure (wpAny_bind (wpAny_dictEpoch e dt ?_)))
 rw [if_neg (by simp)]
 refine wpAny_pure ?_
 simp only [show¬((es.size:Int) < 0) from by lia,if_false,Int.toNat_natCast,Array.getElem?_eq_none (Nat.le_refl es.size)]
 refine wpAny_bind ?_
 first|refine wpAny_bind (wpAny_typeNameOfWhole_keyiter T (wpAny_pure ?c))|refine wpAny_bind (wpAny_typeNameOf_keyiter T (wpAny_pure ?c))
 case c=>
  show wpAny _ _ (setField (.ref it) 0 .none >>= λ_=>_) _ _ s
  refine wpAny_bind (wpAny_setField ei di (by simp) ?_)
  show wpAny _ _ (newExc (.type "StopIteration") [] >>= λ_=>_) _ _ _
  refine wpAny_bind ?_
  simp only [newExc,newTuple]
  refine wpAny_bind (wpAny_newObj_type (wpAny_bind (m:=firstArgMember _ _) (wpAny_of_eq (a:=Value.none) (by first|rfl|(simp only [firstArgMember]; rfl)) (wpAny_newObj_type ?_ (by size_fits)))) (by size_fits))
  simp only [raiseNew]
  refine wpAny_bind (wpAny_handled ?_)
  rw [show A.in1.handled=none from hh]
  refine(wpAny_bind (wpAny_pure (wpAny_throw ?_)))
  refine(wpAny_bind (wpAny_isInstance (T:="StopIteration") (b:=true) ⟨_,Heap.get?_push_size _ rfl,rfl⟩ isSubtype_stop ?_))
  exact wpAny_pure (h _ (((Heap.SameBut.update ..).extBut.push _).push _))
theorem p4 (k:s.heap.IsKeyIter it d i n ep) (h:Q (.ref it) s):wpAny (model prog w) A (pyIter (.ref it)) Q E s:=wpAny_pyIter_keyiter k h
theorem uP (hh:A.handled=none) (it d:Addr) (fX:d≠it) (es:Array DictEntry) (ep:Nat):Walks prog w A it [it,d] [it] es.size (λi v=> ∃e,es[i]?=some e/\v=e.key) (λi h=>h.IsKeyIter it d i es.size ep/\fB h d es ep) where
 sub:=λb hb=>by simp at hb; simp [hb]
 frame:=λ_ _ _ st hk=>⟨st.1.at λo e=>hk it (by simp) o e,st.2.on λo e=>hk d (by simp) o e⟩
 item:=λi s Q E hi st hQ=>pZ st.1 st.2 hi λh' k' hs=>hQ _ h' s.toks ⟨_,Array.getElem?_eq_getElem hi,rfl⟩ ⟨k',st.2.on λo e=>hs.extBut d o fX e⟩ λb o hb e=>hs.extBut b o (λz=>hb (by simp [z])) e
 done:=λs Q E st hQ=>sH hh st.1 st.2 λh' he=>hQ h' s.toks λb o hb e=>he b o (λz=>hb (by simp [z])) e
 self:=λ_ _ _ _ st hQ=>p4 st.1 hQ
theorem sJ (lo:(d == sysModules)=false):KdlSrc prog w "dict" d d es.size (λi v=> ∃e,es[i]?=some e/\v=e.key) (λh=>fB h d es ep) where
 type:=λ_ r=>r.ty
 there:=λ_ r=>⟨r.lt,r.lt⟩
 keep:=λ_ _ r hk=>r.on λo e=>hk d (.inl rfl) o e
 notList:=by decide
 notTuple:=by decide
 hint:=λ_ _ _ _ r hq=>kdl_hint_dict r.ty hq
 iter:=λA s hh r=>⟨_,λi h=>h.IsKeyIter s.heap.objs.size d i es.size ep/\fB h d es ep,(λ_ _ hq=>pY lo r hq),uP hh _ d (Nat.ne_of_lt r.lt) es ep,⟨⟨_,Heap.get?_push_size _ rfl,rfl,rfl⟩,r.on λo e=>Heap.get?_push_of_some _ e⟩⟩
end
end L2
namespace L2
open PySem PySem.Spec PyProof.Rows PySem.W
theorem rn (I:Inv X U σ H s) (e:Rd H a (.dK aw)): ∃es ep,fB s.heap a es ep/\es.size=aw.length/\(a == sysModules)=false/\aw.length<=sizeLine/\ ∀(i:Nat) (kv:cB×V),aw[i]?=some kv-> ∃en,es[i]?=some en/\RelV (kV kv.1) en.key:=by
 refine ao λnO=>?_
 obtain⟨z,lo,vs,ed,o,es,ep,h1,h2,h3,h4,h5,h6⟩:=iw I.aN e
 refine nO ?_
 have hl:es.size=aw.length:=by rw [ed.length,<-h5.length]; simp
 refine⟨es,ep,⟨o,h1,h2,h3⟩,hl,lo,z,λi kv hi=>?_⟩
 have bZ:i < aw.length:=(List.getElem?_eq_some_iff.mp hi).1
 have wB:i < es.size:=by lia
 have Q4:i < vs.length:=by rw [<-ed.length]; exact bZ
 refine⟨es[i],Array.getElem?_eq_getElem wB,?_⟩
 have hk:=(h5.get? (e:=es[i]) (k:=vs[i].1) (v:=vs[i].2) (i:=i) (by rw [Array.getElem?_toList]; exact Array.getElem?_eq_getElem wB) (List.getElem?_eq_getElem Q4)).1
 have he:vs[i].1 =kv.1:=by
  have:=congrArg (λl:List cB=>l[i]?) ed.keys
  simp only [List.getElem?_map,hi,List.getElem?_eq_getElem Q4,Option.map_some] at this
  exact(Option.some.inj this).symm
 rw [he] at hk
 rcases aV (show kg kv.1 es[i].key =true from hk) with ⟨n,t,e1,e2⟩|⟨x,t,e1,e2⟩
 .rw [e1,e2]; exact⟨t,rfl⟩
 .rw [e1,e2]; exact⟨t,rfl⟩
section
variable {X:Cx}
end
end L2
namespace L2
open PySem PySem.Spec PyProof.Rows PySem.W
noncomputable def Mu (a:Addr) (o:Obj) (aw:List (cB×V)):It:=
 ⟨λi H=>H a=some (.cZ o (.dK aw))/\i < aw.length,λi H x H'=>H'=H/\(aw[i]?).map (λkv=>kV kv.1)=some x,λi H=>H a=some (.cZ o (.dK aw))/\i=aw.length⟩
theorem sL (I:Inv X U σ H s) (e:H a=some (.cZ o (.dK aw))) (hd:o.data= .dict es ep):
  fB s.heap a es ep/\es.size=aw.length/\ ∀(i:Nat) (kv:cB×V),aw[i]?=some kv-> ∃en,es[i]?=some en/\RelV (kV kv.1) en.key:=by
 refine ao λnO=>jM (rn I (.inr ⟨o,e⟩)) λzg C3 r1 r2 _ _ r5=>?_
 have ho:s.heap.get? a=some o:=(show aP X.prog X.w H s.heap a (.cZ o (.dK aw)) from I.aN a _ e).1
 refine bA (id r1) λo' g1 g2 g3=>?_
 rw [ho] at g1
 cases g1
 rw [hd] at g3
 cases g3
 exact nO <| ⟨r1,r2,r5⟩
theorem zY {P:Program}{w:World}{K:PySem.W.Frag}{tg:Expr} (a it:Addr) (fX:a≠it) (o:Obj) (aw:List (cB×V)) (es:Array DictEntry) (ep:Nat) (hd:o.data= .dict es ep):nM P w K tg (Mu a o aw) [it] it (λi h=>h.IsKeyIter it a i es.size ep) where
 mem:=by simp
 obj:=λi h st b hb=>by
  have e:b=it:=by simpa using hb
  refine ao λnO=>?_
  subst e
  exact bA st λo e c d=>nO <| ⟨o,e,λv z=>by rw [d] at z; cases z⟩
 keep:=λi h h' st k=>st.at λo e=>k it (by simp) o e
 item:=by
  intro X hP hw hK hc i U s σ H E I hf st hg
  refine ao λnO=>?_
  subst hP hw hK
  obtain⟨e1,e2⟩:=hg
  refine cK (sL I e1 hd) λr1 r2 r3=>rX (hf it (by simp)) λf0 f1 f2 f3 f4 f5=>?_
  have hi:i < es.size:=by lia
  refine ae (r3 i aw[i] (List.getElem?_eq_getElem e2)) λen n1 n2=>?_
  rw [Array.getElem?_eq_getElem hi] at n1
  cases n1
  refine nO <| pZ st r1 hi λh' k' hs=>?_
  have I1:Inv X U σ H {s with heap:=h'}:=I.turned (t':=s.toks) (λb o hb e=>(hs.2 b hb).trans e) f0 f1 f3 f4 f5
  exact ao λnO=>bA (id k') λoi g1 g2 g3=>nO <| ⟨_,rfl,mH (s:={s with heap:=h'}) g1 g2 g3 (by decide) ⟨_,H,I1,n2,⟨rfl,by rw [List.getElem?_eq_getElem e2]; rfl⟩,k',λb hb=>(hf b hb).1⟩⟩
 done:=by
  intro X hP hw hK hc i U s σ H E I hf st hg
  refine ao λnO=>?_
  subst hP hw hK
  obtain⟨e1,e2⟩:=hg
  refine cK (sL I e1 hd) λr1 r2 r3=>rX (hf it (by simp)) λf0 f1 f2 f3 f4 f5=>?_
  have e:i=es.size:=by lia
  subst e
  exact nO <| sH (I.ok.hd hc) st r1 λh' eb=>⟨rfl,I.turned (t':=s.toks) (λb o hb e=>eb b o hb e) f0 f1 f3 f4 f5⟩
 self:=λ_ _ _ _ _ st h=>p4 st h
section
variable {X:Cx}{tg:Expr}
noncomputable def Tp (tl:TE):TI:=λσ H R=>tl σ H λx H1=> ∃a o aw,x= .ref a/\H1 a=some (.cZ o (.dK aw))/\R (Mu a o aw) H1
theorem HK {l:Expr}{tl:TE} (hl:PE X l tl):PI X tg l (Tp tl):=by
 intro U s σ H R I h
 refine bz (hl U s σ H _ I h) λv s1 zz=>ba zz λx H1 I1 r1 q1=>cG q1 λa o aw e hq q=>?_
 subst e
 cases r1
 refine jM (rn I1 (.inr ⟨o,hq⟩)) λes ep g1 g2 g3 g4 g5=>?_
 have ho:s1.heap.get? a=some o:=(show aP X.prog X.w H1 s1.heap a (.cZ o (.dK aw)) from I1.aN a _ hq).1
 have hd:o.data= .dict es ep:=by
  refine bA (id g1) λo' z1 z2 z3=>?_
  rw [ho] at z1
  cases z1
  exact z3
 refine pY g3 g1 ?_
 refine⟨s1.heap.objs.size,[s1.heap.objs.size],_,_,H1,rfl,I1.kept (t':=s1.toks) λb o e=>Heap.get?_push_of_some _ e,zY a _ (Nat.ne_of_lt (Heap.lt_size ho)) o aw es ep hd,⟨_,Heap.get?_push_size _ rfl,rfl,rfl⟩,λb hb=>?_,q⟩
 have e:b=s1.heap.objs.size:=by simpa using hb
 subst e
 exact I1.qM (Nat.le_refl _) (I1.aN.fresh (Nat.le_refl _))
noncomputable def HL (tk tv:TE):TE:=λσ H Q=> ∀p,H p=none->tk σ (upd H p (.dT [])) λx H1=>tv σ H1 λy H2=> ∃b ks,x= .ref b/\H2 b=some (.tup (ks.map kV))/\H2 p=some (.dT [])/\Q (.ref p) (upd H2 p (.dT [(ks,y)]))
theorem zZ (hu:X.A.units + 1 < cLine) (hk:PE X k tk) (hv:PE X v tv):PE X (.Dict [some k] [v] pos) (HL tk tv):=by
 intro U s σ H Q I h
 have hn:H s.heap.objs.size=none:=I.aN.fresh (Nat.le_refl _)
 refine wpAny_Dict_any rfl rfl (by simp) (show 1<=15 by decide) ?_
 have I0:Inv X U σ (upd H s.heap.objs.size (.dT [])) {s with heap:=s.heap.push {cls:= .type "dict",data:= .dict #[]}}:=I.laid (a:=s.heap.objs.size) (o:= .dT []) (t':=s.toks) (λ_ _ q=>Heap.get?_push_of_some _ q) (Nat.le_refl _) (wH s.heap I.big)
 refine pairTrees_cons_walk (bz (hk U _ σ _ _ I0 (h _ hn)) λkv s1 ⟨x,H1,I1,r1,q1⟩=>bz (hv U s1 σ H1 _ I1 q1) λvv s2 ⟨y,H2,I2,r2,q2⟩=>pairTrees_nil_walk ?_)
 refine ao λnO=>fW q2 λb ks ex eb ep q3=>?_
 subst ex
 cases r1
 refine nO ?_
 unfold storeAll
 rw [List.forIn_cons]
 refine ao λnO=>?_
 obtain⟨z,hd,xs,ed,dd⟩:=Ci I2.aN ep
 cases ed
 refine nO ?_
 refine wpAny_bind (wpAny_bind (wpAny_dictSet_heap (hsz:=Nat.zero_le _) (knd:=tupleKind (aU X.prog X.w)) (show X.A.units < cLine by lia) (jc I2.aN eb) dd λh' zS hs=>wpAny_pure ?_))
 dsimp only
 rw [List.forIn_nil]
 refine wpAny_pure ⟨.ref s.heap.objs.size,_,?_,rfl,q3⟩
 refine ao λnO=>Gx zS λo es e2 g1 g2 g3 g4 _ g5=>nO ?_
 refine j4 I2 (by rw [ep]; exact True.intro) hs ⟨o,g1⟩ ⟨by rw [sizeLine_eq]; exact(by decide:(1:Nat)<=16777216),hd,_,?_,o,es,e2,g1,g2,g3,g4,g5⟩
 refine .cons ⟨rfl,?_,r2⟩ .nil
 rw [ak (fc eb ep (λz=>nomatch z))]
 exact eb
end
end L2
namespace bI
open PySem PyProof.Rows
structure Ord (r:Keyed->Keyed->Bool):Prop where
 KI: ∀x y,r x y=true->r y x=false
 tr: ∀x y z,r y x=false->r z y=false->r z x=false
noncomputable def le (r:Keyed->Keyed->Bool) (x y:Keyed):Prop:=r y x=false
section
variable {r:Keyed->Keyed->Bool}
theorem Ord.refl (O:Ord r) (x:Keyed):le r x x:=by
 show r x x=false
 cases h:r x x with
 |false=>rfl
 |true=>exact(O.KI x x h).symm.trans h |>.symm ▸rfl
theorem Ord.of_lt (O:Ord r) (h:r x y=true):le r x y:=O.KI x y h
theorem Ord.trans (O:Ord r) (h1:le r x y) (h2:le r y z):le r x z:=O.tr x y z h1 h2
end
section
variable {prog:Program}{w:World}{A:Around}{E:Value->Shared->Prop}{s:Shared}{κ:SortKind}{P:Keyed->Prop}{r:Keyed->Keyed->Bool}
noncomputable def jS (prog:Program) (w:World) (A:Around) (E:Value->Shared->Prop) (s:Shared) (κ:SortKind) (P:Keyed->Prop) (r:Keyed->Keyed->Bool):Prop:=
 ∀(x y:Keyed) (zt:SortSt) (Q:Option Bool->SortSt->Prop),P x->P y->kindOf zt=κ->Q (some (r x y)) zt->wpS (model prog w) A E s (lt' x y) Q zt
noncomputable def rq (r:Keyed->Keyed->Bool) (left:Bool) (key x:Keyed):Bool:=if left then r x key else !r key x
theorem wI {left:Bool}{key:Keyed}{arr:Array Keyed}{base i:Nat}{zt:SortSt}{Q:Option Bool->SortSt->Prop} (L:jS prog w A E s κ P r) (hk:kindOf zt=κ) (hp:P key) (ha: ∀x∈arr,P x) (hi:base + i < arr.size) (q:Q (some (rq r left key arr[base + i])) zt):
  wpS (model prog w) A E s (dN left key arr base i) Q zt:=by
 unfold dN
 refine wpS_bind (aY hi ?_)
 have hx:=ha _ (Array.getElem_mem hi)
 cases left with
 |true=>exact L _ _ zt _ hx hp hk q
 |false=>exact wpS_bind (L _ _ zt _ hp hx hk (wpS_pure q))
theorem wJ (O:Ord r) (h:le r x y) (hy:rq r left key y=true):rq r left key x=true:=by
 unfold rq at hy ⊢
 cases left with
 |true=>
  have yW:r y key=true:=hy
  show r x key=true
  cases e:r x key with
  |true=>rfl
  |false=>
   have:=O.tr key x y e h
   rw [this] at yW
   cases yW
 |false=>
  have yW:(!r key y)=true:=hy
  show(!r key x)=true
  have h1:r key y=false:=by simpa using yW
  have:=O.tr x y key h h1
  simp [this]
noncomputable abbrev W3:=Option (Option Nat)×Nat×Nat
noncomputable def Mv (left:Bool) (key:Keyed) (arr:Array Keyed) (base n hint l o:Nat):SM (ForInStep W3):=do
 if o ≥ n - hint then return .done (none,l,o)
 let some more<-dN left key arr base (hint + o)|return .done (some none,l,o)
 if !more then return .done (none,l,o)
 return .yield (none,o,2 * o + 1)
noncomputable def Mw (left:Bool) (key:Keyed) (arr:Array Keyed) (base hint l o:Nat):SM (ForInStep W3):=do
 if o ≥ hint + 1 then return .done (none,l,o)
 let some found<-dN left key arr base (hint - o)|return .done (some none,l,o)
 if found then return .done (none,l,o)
 return .yield (none,o,2 * o + 1)
noncomputable def Mx (left:Bool) (key:Keyed) (arr:Array Keyed) (base lo hi:Nat):SM (ForInStep W3):=do
 if lo ≥ hi then return .done (none,lo,hi)
 let some more<-dN left key arr base (lo + (hi - lo) / 2)|return .done (some none,lo,hi)
 if more then return .yield (none,lo + (hi - lo) / 2 + 1,hi) else return .yield (none,lo,lo + (hi - lo) / 2)
noncomputable def KJ (left:Bool) (key:Keyed) (arr:Array Keyed) (base n lo hi:Nat):SM (Option Nat):=do
 let c<-forIn [0:n] ((none,lo,hi):W3) λ_ c=>Mx left key arr base c.2.1 c.2.2
 match c.1 with
 |some r=>pure r
 |none=>pure (some c.2.2)
theorem HM (left:Bool) (key:Keyed) (arr:Array Keyed) (base n hint:Nat):bW left key arr base n hint=(do
  let some right<-dN left key arr base hint|return none
  if right then
   let c<-forIn [0:n] ((none,0,1):W3) λ_ c=>Mv left key arr base n hint c.2.1 c.2.2
   match c.1 with
   |some r=>pure r
   |none=>KJ left key arr base n (hint + c.2.1 + 1) (hint + min c.2.2 (n - hint))
  else
   let c<-forIn [0:n] ((none,0,1):W3) λ_ c=>Mw left key arr base hint c.2.1 c.2.2
   match c.1 with
   |some r=>pure r
   |none=>KJ left key arr base n (hint + 1 - min c.2.2 (hint + 1)) (hint - c.2.1)):=by kernel_rfl
section
variable {left:Bool}{key:Keyed}{arr:Array Keyed}{base n hint lo hi:Nat}{zt:SortSt}{Q:Option Nat->SortSt->Prop}{f:Nat->Bool}
theorem Cj (hB: ∀(i:Nat) (Q:Option Bool->SortSt->Prop),i < n->Q (some (f i)) zt->wpS (model prog w) A E s (dN left key arr base i) Q zt)
  (mono: ∀i j,i<=j->j < n->f j=true->f i=true) (up: ∀i j,i<=j->j < n->f i=false->f j=false) (z1:lo<=hi) (z2:hi<=n) (a1: ∀i,i < lo->f i=true) (a2: ∀i,hi<=i->i < n->f i=false)
  (q: ∀k,k<=n->(∀i,i < k->f i=true)->(∀i,k<=i->i < n->f i=false)->Q (some k) zt):wpS (model prog w) A E s (KJ left key arr base n lo hi) Q zt:=by
 unfold KJ
 refine wpS_bind (wpS_mono (wpS_forRange (I:=λi c cv=>cv=zt/\ ∃lo hi,c=(none,lo,hi)/\lo<=hi/\hi<=n/\hi - lo + i<=n/\(∀i,i < lo->f i=true)/\(∀i,hi<=i->i < n->f i=false)) (Q:=λc cv=>cv=zt/\ ∃lo hi,c=(none,lo,hi)/\hi<=n/\(∀i,i < hi->f i=true)/\(∀i,hi<=i->i < n->f i=false)) ?_ ?_ ⟨rfl,_,_,rfl,z1,z2,by omega,a1,a2⟩) ?_)
 .rintro i c cv _ _ ⟨rfl,lo,hi,rfl,z1,z2,z3,z4,z5⟩
  show wpS (model prog w) A E s (Mx left key arr base lo hi) _ _
  unfold Mx
  refine fA (λhg=>?_) (λhg=>?_)
  .exact wpS_pure ⟨rfl,lo,hi,rfl,z2,λi h=>z4 i (by omega),z5⟩
  .refine wpS_bind (hB _ _ (by omega) ?_)
   cases e2:f (lo + (hi - lo) / 2) with
   |true=>exact wpS_pure ⟨rfl,_,hi,rfl,by omega,z2,by omega,λi h=>mono i _ (by omega) (by omega) e2,z5⟩
   |false=>exact wpS_pure ⟨rfl,lo,_,rfl,by omega,by omega,by omega,z4,λi h1 h2=>up _ i h1 h2 e2⟩
 .rintro c cv ⟨rfl,lo,hi,rfl,z1,z2,z3,z4,z5⟩
  exact⟨rfl,lo,hi,rfl,z2,λi h=>z4 i (by omega),z5⟩
 .rintro c cv ⟨rfl,lo,hi,rfl,z2,z4,z5⟩
  exact wpS_pure (q hi z2 z4 z5)
theorem wK (hn:hint < n) (hB: ∀(i:Nat) (Q:Option Bool->SortSt->Prop),i < n->Q (some (f i)) zt->wpS (model prog w) A E s (dN left key arr base i) Q zt)
  (mono: ∀i j,i<=j->j < n->f j=true->f i=true)
  (q: ∀k,k<=n->(∀i,i < k->f i=true)->(∀i,k<=i->i < n->f i=false)->Q (some k) zt):wpS (model prog w) A E s (bW left key arr base n hint) Q zt:=by
 have up: ∀i j,i<=j->j < n->f i=false->f j=false:=λi j h1 h2 h3=>by
  cases e:f j with
  |false=>rfl
  |true=>rw [mono i j h1 h2 e] at h3; cases h3
 rw [HM]
 refine wpS_bind (hB hint _ hn ?_)
 cases e0:f hint with
 |true=>
  dsimp only
  rw [if_pos rfl]
  refine wpS_bind (wpS_mono (wpS_forRange (I:=λi c aj=>aj=zt/\ ∃l o,c=(none,l,o)/\l < o/\i + 1<=o/\hint + l < n/\f (hint + l)=true)
   (Q:=λc aj=>aj=zt/\ ∃l o,c=(none,l,o)/\l < o/\hint + l < n/\f (hint + l)=true/\(n - hint<=o\/(hint + o < n/\f (hint + o)=false))) ?_ ?_ ⟨rfl,0,1,rfl,by omega,by omega,by omega,e0⟩) ?_)
  .rintro i c aj _ _ ⟨rfl,l,o,rfl,g1,g2,g3,g4⟩
   show wpS (model prog w) A E s (Mv left key arr base n hint l o) _ _
   unfold Mv
   refine fA (λhg=>?_) (λhg=>?_)
   .exact wpS_pure ⟨rfl,l,o,rfl,g1,g3,g4,.inl hg⟩
   .refine wpS_bind (hB (hint + o) _ (by omega) ?_)
    cases e1:f (hint + o) with
    |true=>exact wpS_pure ⟨rfl,_,_,rfl,by omega,by omega,by omega,e1⟩
    |false=>exact wpS_pure ⟨rfl,_,_,rfl,g1,g3,g4,.inr ⟨by omega,e1⟩⟩
  .rintro c aj ⟨rfl,l,o,rfl,g1,g2,g3,g4⟩
   exact⟨rfl,l,o,rfl,g1,g3,g4,.inl (by omega)⟩
  rintro c aj ⟨rfl,l,o,rfl,g1,g3,g4,g5⟩
  refine Cj hB mono up ?_ ?_ (λi hi=>mono i (hint + l) (by lia) g3 g4) (λi h1 h2=>?_) q
  .dsimp only
   omega
  .dsimp only
   omega
  .dsimp only at h1
   rcases g5 with g5|⟨g5,g6⟩
   .omega
   .exact up (hint + o) i (by omega) h2 g6
 |false=>
  dsimp only
  rw [if_neg Bool.false_ne_true]
  refine wpS_bind (wpS_mono (wpS_forRange (I:=λi c aj=>aj=zt/\ ∃l o,c=(none,l,o)/\l < o/\i + 1<=o/\l<=hint/\f (hint - l)=false)
   (Q:=λc aj=>aj=zt/\ ∃l o,c=(none,l,o)/\l < o/\l<=hint/\f (hint - l)=false/\(hint + 1<=o\/(o<=hint/\f (hint - o)=true))) ?_ ?_ ⟨rfl,0,1,rfl,by omega,by omega,by omega,e0⟩) ?_)
  .rintro i c aj _ _ ⟨rfl,l,o,rfl,g1,g2,g3,g4⟩
   show wpS (model prog w) A E s (Mw left key arr base hint l o) _ _
   unfold Mw
   refine fA (λhg=>?_) (λhg=>?_)
   .exact wpS_pure ⟨rfl,l,o,rfl,g1,g3,g4,.inl hg⟩
   .refine wpS_bind (hB (hint - o) _ (by omega) ?_)
    cases e1:f (hint - o) with
    |true=>exact wpS_pure ⟨rfl,_,_,rfl,g1,g3,g4,.inr ⟨by omega,e1⟩⟩
    |false=>exact wpS_pure ⟨rfl,_,_,rfl,by omega,by omega,by omega,e1⟩
  .rintro c aj ⟨rfl,l,o,rfl,g1,g2,g3,g4⟩
   exact⟨rfl,l,o,rfl,g1,g3,g4,.inl (by omega)⟩
  rintro c aj ⟨rfl,l,o,rfl,g1,g3,g4,g5⟩
  refine Cj hB mono up ?_ ?_ (λi hi=>?_) (λi h1 h2=>up (hint - l) i h1 h2 g4) q
  .dsimp only
   omega
  .dsimp only
   omega
  .dsimp only at hi
   rcases g5 with g5|⟨g5,g6⟩
   .omega
   .exact mono i (hint - o) (by omega) (by omega) g6
end
noncomputable abbrev sg (arr:Array Keyed) (base n:Nat):List Keyed:=(arr.toList.drop base).take n
theorem eU (hi:i < n) (hz:base + n<=arr.size):(sg arr base n)[i]?=some (arr[base + i]'(by omega)):=by
 rw [List.getElem?_take,if_pos hi,List.getElem?_drop,Array.getElem?_toList,Array.getElem?_eq_getElem]
theorem du (hz:base + n<=arr.size):(sg arr base n).length =n:=by
 rw [List.length_take,List.length_drop,Array.length_toList]; omega
theorem cH {left:Bool}{key:Keyed}{arr:Array Keyed}{base n hint:Nat}{zt:SortSt}{Q:Option Nat->SortSt->Prop} (L:jS prog w A E s κ P r) (O:Ord r) (hk:kindOf zt=κ) (hp:P key) (ha: ∀x∈arr,P x) (hz:base + n<=arr.size) (hn:hint < n)
  (hS:(sg arr base n).Pairwise (le r))
  (q: ∀k,k<=n->(∀x∈(sg arr base n).take k,rq r left key x=true)->(∀x∈(sg arr base n).drop k,rq r left key x=false)->Q (some k) zt):wpS (model prog w) A E s (bW left key arr base n hint) Q zt:=by
 have hl:=du hz
 have fe: ∀i (h:i < n),(((sg arr base n)[i]?).elim false (rq r left key))=rq r left key (arr[base + i]'(by omega)):=λi h=>by rw [eU h hz]; rfl
 refine wK (f:=λi=>((sg arr base n)[i]?).elim false (rq r left key)) hn (λi Q hi hq=>wI L hk hp ha (by omega) (by rw [<-fe i hi]; exact hq)) (λi j D2 hj hf=>?_) (λk D_ h1 h2=>q k D_ (λx hx=>?_) (λx hx=>?_))
 .rcases Nat.lt_or_ge i j with z|z
  .rw [fe j hj] at hf
   rw [fe i (by omega)]
   refine wJ O ?_ hf
   have:=(List.pairwise_iff_getElem.mp hS) i j (by omega) (by omega) z
   have e1:=eU (arr:=arr) (show i < n by omega) hz
   have e2:=eU (arr:=arr) hj hz
   rw [List.getElem?_eq_getElem (by omega)] at e1 e2
   rw [Option.some.inj e1,Option.some.inj e2] at this
   exact this
  .rw [show i=j by omega]; exact hf
 .obtain⟨i,hi,rfl⟩:=List.getElem_of_mem hx
  rw [List.length_take] at hi
  have:=h1 i (by omega)
  rw [List.getElem?_eq_getElem (by omega)] at this
  rw [List.getElem_take]
  exact this
 .obtain⟨i,hi,rfl⟩:=List.getElem_of_mem hx
  rw [List.length_drop] at hi
  have:=h2 (k + i) (by omega) (by omega)
  rw [List.getElem?_eq_getElem (by omega)] at this
  rw [List.getElem_drop]
  exact this
structure Ms (r:Keyed->Keyed->Bool) (a b out:Array Keyed) (i j:Nat):Prop where
 p:Pt a b out i j
 s:out.toList.Pairwise (le r)
 ta: ∀x∈out.toList,∀y∈a.toList.drop i,le r x y
 tb: ∀x∈out.toList,∀y∈b.toList.drop j,le r x y
end
section
variable {r:Keyed->Keyed->Bool}{a b out:Array Keyed}{i j k:Nat}
theorem dw (a:Array Keyed) (i k:Nat):(a.extract i (i + k)).toList =sg a i k:=by
 rw [Array.toList_extract]
 unfold List.extract
 rw [show i + k - i=k by omega]
theorem wL (a:Array Keyed) (i k:Nat):a.toList.drop i=sg a i k++a.toList.drop (i + k):=by
 have:=(List.take_append_drop k (a.toList.drop i)).symm
 rwa [List.drop_drop] at this
theorem Ms.n6 (h:Ms r a b out i j) (sa:a.toList.Pairwise (le r)) (hb: ∀x∈sg a i k,∀y∈b.toList.drop j,le r x y):Ms r a b (out++a.extract i (i + k)) (i + k) j:=by
 have sd:(a.toList.drop i).Pairwise (le r):=sa.sublist (List.drop_sublist _ _)
 have e:=wL a i k
 rw [e,List.pairwise_append] at sd
 refine cK sd λp1 p2 p3=>?_
 have HN: ∀x∈out.toList,∀y∈sg a i k++a.toList.drop (i + k),le r x y:=λx hx y hy=>h.ta x hx y (by rw [e]; exact hy)
 refine⟨h.p.n6,?_,λx hx y hy=>?_,λx hx y hy=>?_⟩
 .rw [Array.toList_append,dw,List.pairwise_append]
  exact⟨h.s,p1,λx hx y hy=>HN x hx y (List.mem_append_left _ hy)⟩
 .rw [Array.toList_append,dw] at hx
  rcases List.mem_append.mp hx with z|z
  .exact HN x z y (List.mem_append_right _ hy)
  .exact p3 x z y hy
 .rw [Array.toList_append,dw] at hx
  rcases List.mem_append.mp hx with z|z
  .exact h.tb x z y hy
  .exact hb x z y hy
theorem Ms.nZ (h:Ms r a b out i j) (sb:b.toList.Pairwise (le r)) (ha: ∀x∈sg b j k,∀y∈a.toList.drop i,le r x y):Ms r a b (out++b.extract j (j + k)) i (j + k):=by
 have sd:(b.toList.drop j).Pairwise (le r):=sb.sublist (List.drop_sublist _ _)
 have e:=wL b j k
 rw [e,List.pairwise_append] at sd
 refine cK sd λp1 p2 p3=>?_
 have HP: ∀x∈out.toList,∀y∈sg b j k++b.toList.drop (j + k),le r x y:=λx hx y hy=>h.tb x hx y (by rw [e]; exact hy)
 refine⟨h.p.nZ,?_,λx hx y hy=>?_,λx hx y hy=>?_⟩
 .rw [Array.toList_append,dw,List.pairwise_append]
  exact⟨h.s,p1,λx hx y hy=>HP x hx y (List.mem_append_left _ hy)⟩
 .rw [Array.toList_append,dw] at hx
  rcases List.mem_append.mp hx with z|z
  .exact h.ta x z y hy
  .exact ha x z y hy
 .rw [Array.toList_append,dw] at hx
  rcases List.mem_append.mp hx with z|z
  .exact HP x z y (List.mem_append_right _ hy)
  .exact p3 x z y hy
theorem Ms.cg (h:Ms r a b out i j) (e:o.toList=out.toList):Ms r a b o i j:=⟨by unfold Pt; rw [e]; exact h.p,by rw [e]; exact h.s,λx hx=>h.ta x (by rw [<-e]; exact hx),λx hx=>h.tb x (by rw [<-e]; exact hx)⟩
theorem Ms.mV (h:Ms r a b out i j) (sa:a.toList.Pairwise (le r)) (hi:i < a.size) (hb: ∀y∈b.toList.drop j,le r a[i] y):Ms r a b (out.push a[i]) (i + 1) j:=by
 refine(h.n6 (k:=1) sa λx hx=>?_).cg (by rw [Array.toList_append,fY hi,<-Array.toList_push])
 rw [<-dw,fY hi,List.mem_singleton] at hx
 rw [hx]; exact hb
theorem Ms.mW (h:Ms r a b out i j) (sb:b.toList.Pairwise (le r)) (hj:j < b.size) (ha: ∀y∈a.toList.drop i,le r b[j] y):Ms r a b (out.push b[j]) i (j + 1):=by
 refine(h.nZ (k:=1) sb λx hx=>?_).cg (by rw [Array.toList_append,fY hj,<-Array.toList_push])
 rw [<-dw,fY hj,List.mem_singleton] at hx
 rw [hx]; exact ha
theorem HQ (O:Ord r) (sa:a.toList.Pairwise (le r)) (hi:i < a.size): ∀y∈a.toList.drop i,le r a[i] y:=λy hy=>by
 have gw:i < a.toList.length:=by simpa using hi
 have sd:(a.toList.drop i).Pairwise (le r):=sa.sublist (List.drop_sublist _ _)
 rw [List.drop_eq_getElem_cons gw] at sd hy
 rcases List.mem_cons.mp hy with z|z
 .rw [z]; exact O.refl _
 .exact(List.pairwise_cons.mp sd).1 y z
theorem n9 (O:Ord r) (sa:a.toList.Pairwise (le r)) (hi:i < a.size) (h:le r x a[i]): ∀y∈a.toList.drop i,le r x y:=λy hy=>O.trans h (HQ O sa hi y hy)
theorem j5 (a:Array Keyed) (hi:i<=a.size):(a.extract i a.size).toList =a.toList.drop i:=by
 have:=dw a i (a.size - i)
 rw [show i + (a.size - i)=a.size by omega] at this
 rw [this]
 exact List.take_of_length_le (by simp)
theorem Ms.done (h:Ms r a b out i j) (sa:a.toList.Pairwise (le r)) (sb:b.toList.Pairwise (le r)) (hi:i<=a.size) (hj:j<=b.size) (c:i=a.size\/j=b.size):((out++a.extract i a.size)++b.extract j b.size).toList.Pairwise (le r):=by
 rw [Array.toList_append,Array.toList_append,j5 a hi,j5 b hj]
 have na:i=a.size->a.toList.drop i=[]:=λe=>List.drop_eq_nil_of_le (by simp [e])
 have nb:j=b.size->b.toList.drop j=[]:=λe=>List.drop_eq_nil_of_le (by simp [e])
 rcases c with c|c
 .rw [na c,List.append_nil,List.pairwise_append]
  exact⟨h.s,sb.sublist (List.drop_sublist _ _),h.tb⟩
 .rw [nb c,List.append_nil,List.pairwise_append]
  exact⟨h.s,sa.sublist (List.drop_sublist _ _),h.ta⟩
theorem Ms.last (h:Ms r a b out i j) (sa:a.toList.Pairwise (le r)) (sb:b.toList.Pairwise (le r)) (hi:i<=a.size) (hj:j<=b.size) (c: ∀y∈b.toList,∀x∈a.toList.drop i,le r y x):((out++b.extract j b.size)++a.extract i a.size).toList.Pairwise (le r):=by
 rw [Array.toList_append,Array.toList_append,j5 a hi,j5 b hj,List.append_assoc,List.pairwise_append]
 refine⟨h.s,?_,λx hx y hy=>?_⟩
 .rw [List.pairwise_append]
  exact⟨sb.sublist (List.drop_sublist _ _),sa.sublist (List.drop_sublist _ _),λy hy x hx=>c y (List.mem_of_mem_drop hy) x hx⟩
 .rcases List.mem_append.mp hy with z|z
  .exact h.tb x hx y z
  .exact h.ta x hx y z
end
end bI
namespace bI
open PySem PyProof.Rows
section
variable {prog:Program}{w:World}{A:Around}{E:Value->Shared->Prop}{s:Shared}{κ:SortKind}{P:Keyed->Prop}{r:Keyed->Keyed->Bool}
theorem bne {n m:Nat} (h: ¬(n == m)=true):n≠m:=λe=>h (by rw [e]; simp)
structure Lo (r:Keyed->Keyed->Bool) (a b:Array Keyed) (k:Nat) (out:Array Keyed) (ia ib:Nat):Prop where
 m:Ms r a b out ia ib
 x1:ia + 1 < a.size
 x2:ib < b.size
 x3:k<=ia + ib
noncomputable abbrev Dn (r:Keyed->Keyed->Bool) (a b:Array Keyed) (o:Option (Array Keyed)):Prop:= ∃o',o=some o'/\o'.toList.Perm (a.toList++b.toList)/\o'.toList.Pairwise (le r)
noncomputable abbrev Q5 (r:Keyed->Keyed->Bool) (a b:Array Keyed) (zt:SortSt) (k:Nat) (c:Option (Array Keyed)×Array Keyed×Nat×Nat×Nat) (aj:SortSt):Prop:=Sm zt aj/\ ∃out ia ib g,c=(none,out,ia,ib,g)/\Lo r a b k out ia ib
noncomputable abbrev Q1 {β:Type} (r:Keyed->Keyed->Bool) (a b:Array Keyed) (zt:SortSt) (c:Option (Array Keyed)×β) (aj:SortSt):Prop:=Sm zt aj/\Dn r a b c.1
noncomputable abbrev HR (r:Keyed->Keyed->Bool) (a b:Array Keyed) (k:Nat) (c:Option (Array Keyed)×Array Keyed×Nat×Nat×Nat×Nat):Prop:= ∃out ia ib n m,c=(none,out,ia,ib,n,m)/\Lo r a b k out ia ib
noncomputable abbrev Ge (r:Keyed->Keyed->Bool) (a b:Array Keyed) (k:Nat) (c:Option (Array Keyed)×Array Keyed×Nat×Nat×Nat×Nat×Nat):Prop:= ∃out ia ib g n m,c=(none,out,ia,ib,g,n,m)/\Lo r a b k out ia ib
noncomputable abbrev Pq {β:Type} (J:Option (Array Keyed)×β->Prop) (zt:SortSt) (c:Option (Array Keyed)×β) (aj:SortSt):Prop:=Sm zt aj/\J c
noncomputable abbrev Qq {β:Type} (r:Keyed->Keyed->Bool) (a b:Array Keyed) (J:Option (Array Keyed)×β->Prop) (zt:SortSt) (c:Option (Array Keyed)×β) (aj:SortSt):Prop:=Sm zt aj/\(Dn r a b c.1\/J c)
noncomputable abbrev T5:=Option (Array Keyed)×Array Keyed×Nat×Nat×Nat
noncomputable abbrev T6:=Option (Array Keyed)×Array Keyed×Nat×Nat×Nat×Nat
noncomputable abbrev T7:=Option (Array Keyed)×Array Keyed×Nat×Nat×Nat×Nat×Nat
noncomputable def Ck (a b out:Array Keyed) (ia ib:Nat):Array Keyed:=(out++a.extract ia a.size)++b.extract ib b.size
noncomputable def KL (a b out:Array Keyed) (ia ib:Nat):Array Keyed:=(out++b.extract ib b.size)++a.extract ia a.size
noncomputable def My (a b:Array Keyed) (g:Nat) (out:Array Keyed) (ia ib ac bc:Nat):SM (ForInStep T6):=do
 let some w<-lt' (<-elem' b ib) (<-elem' a ia)|return .done (some (Ck a b out ia ib),out,ia,ib,ac,bc)
 if w then
  let o:=out.push (<-elem' b ib)
  if ib + 1 == b.size then return .done (some (Ck a b o ia (ib + 1)),o,ia,ib + 1,0,bc + 1)
  if bc + 1 ≥ g then return .done (none,o,ia,ib + 1,0,bc + 1)
  return .yield (none,o,ia,ib + 1,0,bc + 1)
 else
  let o:=out.push (<-elem' a ia)
  if ia + 1 + 1 == a.size then return .done (some (KL a b o (ia + 1) ib),o,ia + 1,ib,ac + 1,0)
  if ac + 1 ≥ g then return .done (none,o,ia + 1,ib,ac + 1,0)
  return .yield (none,o,ia + 1,ib,ac + 1,0)
noncomputable def z_ (a b out:Array Keyed) (ia ib g ac bc:Nat):SM (ForInStep T7):=do
 let o:=out.push (<-elem' a ia)
 if ia + 1 + 1 == a.size then return .done (some (KL a b o (ia + 1) ib),o,ia + 1,ib,g,ac,bc)
 if ac < 7 && bc < 7 then return .done (none,o,ia + 1,ib,g,ac,bc)
 return .yield (none,o,ia + 1,ib,g,ac,bc)
noncomputable def Aa (a b out:Array Keyed) (ia ib g ac bc:Nat):SM (ForInStep T7):=do
 let o:=out.push (<-elem' b ib)
 if ib + 1 == b.size then return .done (some (Ck a b o ia (ib + 1)),o,ia,ib + 1,g,ac,bc)
 let some k<-bW true (<-elem' a ia) b (ib + 1) (b.size - (ib + 1)) 0|return .done (some (Ck a b o ia (ib + 1)),o,ia,ib + 1,g,ac,bc)
 if k > 0 then
  let o:=o++b.extract (ib + 1) (ib + 1 + k)
  if ib + 1 + k == b.size then return .done (some (Ck a b o ia (ib + 1 + k)),o,ia,ib + 1 + k,g,ac,k)
  z_ a b o ia (ib + 1 + k) g ac k
 else z_ a b o ia (ib + 1) g ac k
noncomputable def Ab (a b out:Array Keyed) (ia ib ac bc g:Nat):SM (ForInStep T7):=do
 aW g
 let some k<-bW false (<-elem' b ib) a ia (a.size - ia) 0|return .done (some (Ck a b out ia ib),out,ia,ib,g,ac,bc)
 if k > 0 then
  let o:=out++a.extract ia (ia + k)
  if ia + k + 1 == a.size then return .done (some (KL a b o (ia + k) ib),o,ia + k,ib,g,k,bc)
  if ia + k == a.size then return .done (some (Ck a b o (ia + k) ib),o,ia + k,ib,g,k,bc)
  Aa a b o (ia + k) ib g k bc
 else Aa a b out ia ib g k bc
noncomputable def Q6 (a b out:Array Keyed) (ia ib g ac bc:Nat):SM (ForInStep T7):=if g > 1 then Ab a b out ia ib ac bc (g - 1) else Ab a b out ia ib ac bc g
noncomputable def Mz (a b:Array Keyed) (g:Nat) (u:T7):SM (ForInStep T5):=
 match u.1 with
 |some r=>pure (.done (some r,u.2.1,u.2.2.1,u.2.2.2.1,u.2.2.2.2.1))
 |none=>do
  aW (u.2.2.2.2.1 + 1)
  pure (.yield (none,u.2.1,u.2.2.1,u.2.2.2.1,u.2.2.2.2.1 + 1))
noncomputable def MA (a b:Array Keyed) (g:Nat) (t:T6):SM (ForInStep T5):=
 match t.1 with
 |some r=>pure (.done (some r,t.2.1,t.2.2.1,t.2.2.2.1,g))
 |none=>do
  rule "list.sort.gallop"
  let u<-forIn [0:a.size + b.size] ((none,t.2.1,t.2.2.1,t.2.2.2.1,g + 1,t.2.2.2.2.1,t.2.2.2.2.2):T7) λ_ u=>Q6 a b u.2.1 u.2.2.1 u.2.2.2.1 u.2.2.2.2.1 u.2.2.2.2.2.1 u.2.2.2.2.2.2
  Mz a b g u
noncomputable def MB (a b out:Array Keyed) (ia ib g:Nat):SM (ForInStep T5):=do
 let t<-forIn [0:a.size + b.size] ((none,out,ia,ib,0,0):T6) λ_ t=>My a b g t.2.1 t.2.2.1 t.2.2.2.1 t.2.2.2.2.1 t.2.2.2.2.2
 MA a b g t
theorem HS (a b:Array Keyed):kH a b=(do
  rule "list.sort.merge-lo"
  let x<-elem' b 0
  if 1 == b.size then return Ck a b #[x] 0 1
  if 0 + 1 == a.size then return KL a b #[x] 0 1
  let g:=gallopOf (<-get)
  let s<-forIn [0:a.size + b.size] ((none,#[x],0,1,g):T5) λ_ s=>MB a b s.2.1 s.2.2.1 s.2.2.2.1 s.2.2.2.2
  match s.1 with
  |some r=>pure r
  |none=>unsupported "internal:list.sort.merge-bound"):=by kernel_rfl
structure Mg (prog:Program) (w:World) (A:Around) (E:Value->Shared->Prop) (s:Shared) (κ:SortKind) (P:Keyed->Prop) (r:Keyed->Keyed->Bool) (a b:Array Keyed) (zt:SortSt):Prop where
 L:jS prog w A E s κ P r
 O:Ord r
 hk:kindOf zt=κ
 ha: ∀x∈a,P x
 hb: ∀x∈b,P x
 sa:a.toList.Pairwise (le r)
 sb:b.toList.Pairwise (le r)
theorem Mg.gA {a b:Array Keyed}{zt aj:SortSt}{ia ib:Nat}{Q':Option Nat->SortSt->Prop} (G:Mg prog w A E s κ P r a b zt) (yY:ib < b.size) (hS:Sm zt aj) (rA:ia < a.size) (hq: ∀k,k<=a.size - ia->(∀x∈sg a ia k,∀y∈b.toList.drop ib,le r x y)->(∀x∈a.toList.drop (ia + k),le r b[ib] x)->Q' (some k) aj):
  wpS (model prog w) A E s (bW false b[ib] a ia (a.size - ia) 0) Q' aj:=by
 have e:sg a ia (a.size - ia)=a.toList.drop ia:=List.take_of_length_le (by simp)
 refine cH G.L G.O (hS.k.trans G.hk) (G.hb _ (Array.getElem_mem _)) G.ha (by lia) (by lia) (by rw [e]; exact G.sa.sublist (List.drop_sublist _ _)) λk hk g1 g2=>hq k hk (λx hx=>?_) (λx hx=>?_)
 .have:=g1 x (by rw [e]; exact hx)
  have h':le r x b[ib]:=by unfold rq at this; simpa [le] using this
  exact n9 G.O G.sb yY h'
 .have:=g2 x (by rw [e,List.drop_drop]; exact hx)
  unfold rq at this
  have h':r b[ib] x=true:=by simpa using this
  exact G.O.of_lt h'
theorem Mg.gB {a b:Array Keyed}{zt aj:SortSt}{ia ib:Nat}{Q':Option Nat->SortSt->Prop} (G:Mg prog w A E s κ P r a b zt) (rA:ia < a.size) (hS:Sm zt aj) (yY:ib < b.size) (hq: ∀k,k<=b.size - ib->(∀x∈sg b ib k,∀y∈a.toList.drop ia,le r x y)->(∀x∈b.toList.drop (ib + k),le r a[ia] x)->Q' (some k) aj):
  wpS (model prog w) A E s (bW true a[ia] b ib (b.size - ib) 0) Q' aj:=by
 have e:sg b ib (b.size - ib)=b.toList.drop ib:=List.take_of_length_le (by simp)
 refine cH G.L G.O (hS.k.trans G.hk) (G.ha _ (Array.getElem_mem _)) G.hb (by lia) (by lia) (by rw [e]; exact G.sb.sublist (List.drop_sublist _ _)) λk hk g1 g2=>hq k hk (λx hx=>?_) (λx hx=>?_)
 .have:=g1 x (by rw [e]; exact hx)
  exact n9 G.O G.sa rA (G.O.of_lt this)
 .exact g2 x (by rw [e,List.drop_drop]; exact hx)
noncomputable abbrev RI (r:Keyed->Keyed->Bool) (a b:Array Keyed) (zt:SortSt) (K:Nat) (x:ForInStep T6) (aj:SortSt):Prop:=match x with
 | .done c=>Qq r a b (HR r a b K) zt c aj
 | .yield c=>Pq (HR r a b K) zt c aj
noncomputable abbrev RJ (r:Keyed->Keyed->Bool) (a b:Array Keyed) (zt:SortSt) (K:Nat) (x:ForInStep T7) (aj:SortSt):Prop:=match x with
 | .done c=>Qq r a b (Ge r a b K) zt c aj
 | .yield c=>Pq (Ge r a b K) zt c aj
section
variable {a b out:Array Keyed}{zt aj:SortSt}{ia ib g ac bc K:Nat}
theorem HU (G:Mg prog w A E s κ P r a b zt) (cY: ∀i,i + 1=a.size-> ∀y∈b.toList,∀x∈a.toList.drop i,le r y x) (hS:Sm zt aj) (h:Lo r a b K out ia ib):wpS (model prog w) A E s (My a b g out ia ib ac bc) (RI r a b zt K) aj:=by
 have hP:=h.m
 have x1:=h.x1
 have x2:=h.x2
 have x3:=h.x3
 have rA:ia < a.size:=by lia
 unfold My
 refine wpS_bind (aY x2 (wpS_bind (aY rA (wpS_bind (G.L _ _ _ _ (G.hb _ (Array.getElem_mem _)) (G.ha _ (Array.getElem_mem _)) (hS.k.trans G.hk) ?_)))))
 cases bw:r b[ib] a[ia] with
 |true=>
  dsimp only
  rw [if_pos rfl]
  refine wpS_bind (aY x2 ?_)
  have mz:=hP.mW G.sb x2 (n9 G.O G.sa rA (G.O.of_lt bw))
  refine fA (λe1=>?_) (λe1=>?_)
  .exact wpS_pure ⟨hS,.inl ⟨_,rfl,mz.p.done (by lia) (by lia),mz.done G.sa G.sb (by lia) (by lia) (.inr (by simpa using e1))⟩⟩
  .have oX:ib + 1 < b.size:=by have:=bne e1; lia
   refine fA (λ_=>?_) (λ_=>?_)
   .exact wpS_pure ⟨hS,.inr ⟨_,_,_,_,_,rfl,mz,x1,oX,by lia⟩⟩
   .exact wpS_pure ⟨hS,_,_,_,_,_,rfl,mz,x1,oX,by lia⟩
 |false=>
  dsimp only
  rw [if_neg Bool.false_ne_true]
  refine wpS_bind (aY rA ?_)
  have mz:=hP.mV G.sa rA (n9 G.O G.sb x2 bw)
  refine fA (λe1=>?_) (λe1=>?_)
  .exact wpS_pure ⟨hS,.inl ⟨_,rfl,mz.p.last (by lia) (by lia),mz.last G.sa G.sb (by lia) (by lia) (cY _ (by simpa using e1))⟩⟩
  .have oX:ia + 1 + 1 < a.size:=by have:=bne e1; lia
   refine fA (λ_=>?_) (λ_=>?_)
   .exact wpS_pure ⟨hS,.inr ⟨_,_,_,_,_,rfl,mz,oX,x2,by lia⟩⟩
   .exact wpS_pure ⟨hS,_,_,_,_,_,rfl,mz,oX,x2,by lia⟩
theorem wM (G:Mg prog w A E s κ P r a b zt) (cY: ∀i,i + 1=a.size-> ∀y∈b.toList,∀x∈a.toList.drop i,le r y x) (hS:Sm zt aj) (hP:Ms r a b out ia ib) (x1:ia + 1 < a.size) (x2:ib < b.size) (x3:K<=ia + ib) (hi:ia < a.size) (y5: ∀x∈b.toList.drop ib,le r a[ia] x):
  wpS (model prog w) A E s (z_ a b out ia ib g ac bc) (RJ r a b zt K) aj:=by
 unfold z_
 refine wpS_bind (aY hi ?_)
 have Ac:=hP.mV G.sa hi y5
 refine fA (λe5=>?_) (λe5=>?_)
 .exact wpS_pure ⟨hS,.inl ⟨_,rfl,Ac.p.last (by lia) (by lia),Ac.last G.sa G.sb (by lia) (by lia) (cY _ (by simpa using e5))⟩⟩
 have HV:ia + 1 + 1 < a.size:=by have:=bne e5; lia
 refine fA (λ_=>?_) (λ_=>?_)
 .exact wpS_pure ⟨hS,.inr ⟨_,_,_,_,_,_,rfl,Ac,HV,x2,by lia⟩⟩
 .exact wpS_pure ⟨hS,_,_,_,_,_,_,rfl,Ac,HV,x2,by lia⟩
theorem wN (G:Mg prog w A E s κ P r a b zt) (cY: ∀i,i + 1=a.size-> ∀y∈b.toList,∀x∈a.toList.drop i,le r y x) (hS:Sm zt aj) (hP:Ms r a b out ia ib) (x1:ia + 1 < a.size) (x2:ib < b.size) (x3:K<=ia + ib) (y3: ∀x∈a.toList.drop ia,le r b[ib] x):
  wpS (model prog w) A E s (Aa a b out ia ib g ac bc) (RJ r a b zt (K + 1)) aj:=by
 unfold Aa
 refine wpS_bind (aY x2 ?_)
 have Ad:=hP.mW G.sb x2 y3
 refine fA (λe3=>?_) (λe3=>?_)
 .exact wpS_pure ⟨hS,.inl ⟨_,rfl,Ad.p.done (by lia) (by lia),Ad.done G.sa G.sb (by lia) (by lia) (.inr (by simpa using e3))⟩⟩
 have KN:ib + 1 < b.size:=by have:=bne e3; lia
 have gw:ia < a.size:=by lia
 refine wpS_bind (aY gw (wpS_bind (G.gB gw hS KN λkk Q7 g1 g2=>?_)))
 dsimp only
 refine fA (λMC=>?_) (λMC=>?_)
 .have Ae:=Ad.nZ G.sb g1
  refine fA (λe4=>?_) (λe4=>?_)
  .exact wpS_pure ⟨hS,.inl ⟨_,rfl,Ae.p.done (by lia) (by lia),Ae.done G.sa G.sb (by lia) (by lia) (.inr (by simpa using e4))⟩⟩
  exact wM G cY hS Ae x1 (by have:=bne e4; lia) (by lia) gw g2
 .exact wM G cY hS Ad x1 KN (by lia) gw (by rw [show ib + 1=ib + 1 + kk by lia]; exact g2)
theorem wO (G:Mg prog w A E s κ P r a b zt) (cY: ∀i,i + 1=a.size-> ∀y∈b.toList,∀x∈a.toList.drop i,le r y x) (hS:Sm zt aj) (h:Lo r a b K out ia ib):wpS (model prog w) A E s (Ab a b out ia ib ac bc g) (RJ r a b zt (K + 1)) aj:=by
 have hP:=h.m
 have x1:=h.x1
 have x2:=h.x2
 have x3:=h.x3
 unfold Ab aW
 refine wpS_bind (wpS_modify ?_)
 refine wpS_bind (aY x2 (wpS_bind (G.gA x2 hS.setG (by lia) λk D_ k1 k2=>?_)))
 dsimp only
 refine fA (λMD=>?_) (λMD=>?_)
 .have Af:=hP.n6 G.sa k1
  refine fA (λe1=>?_) (λe1=>?_)
  .exact wpS_pure ⟨hS.setG,.inl ⟨_,rfl,Af.p.last (by lia) (by lia),Af.last G.sa G.sb (by lia) (by lia) (cY _ (by simpa using e1))⟩⟩
  refine fA (λe2=>?_) (λe2=>?_)
  .exact wpS_pure ⟨hS.setG,.inl ⟨_,rfl,Af.p.done (by lia) (by lia),Af.done G.sa G.sb (by lia) (by lia) (.inl (by simpa using e2))⟩⟩
  exact wN G cY hS.setG Af (by have:=bne e1; have:=bne e2; lia) x2 (by lia) k2
 .exact wN G cY hS.setG hP x1 x2 x3 (by rw [show ia=ia + k by lia]; exact k2)
theorem HW (G:Mg prog w A E s κ P r a b zt) (cY: ∀i,i + 1=a.size-> ∀y∈b.toList,∀x∈a.toList.drop i,le r y x) (hS:Sm zt aj) (h:Lo r a b K out ia ib):wpS (model prog w) A E s (Q6 a b out ia ib g ac bc) (RJ r a b zt (K + 1)) aj:=
 fA (λ_=>wO G cY hS h) λ_=>wO G cY hS h
theorem Lo.less (h:Lo r a b (K + 1) out ia ib):Lo r a b K out ia ib:=⟨h.m,h.x1,h.x2,by have:=h.x3; lia⟩
noncomputable abbrev R5 (r:Keyed->Keyed->Bool) (a b:Array Keyed) (zt:SortSt) (K:Nat) (x:ForInStep T5) (aj:SortSt):Prop:=match x with
 | .done c=>Q1 r a b zt c aj
 | .yield c=>Q5 r a b zt K c aj
theorem HX {u:T7} (h:Qq r a b (Ge r a b K) zt u aj):wpS (model prog w) A E s (Mz a b g u) (R5 r a b zt K) aj:=by
 obtain⟨c,d⟩:=u
 obtain⟨hS,⟨o,hc,hr⟩|⟨out,ia,ib,g',n,m,hc,hL⟩⟩:=h
 .have jW:c=some o:=hc
  subst jW
  exact wpS_pure ⟨hS,o,rfl,hr⟩
 .cases hc
  unfold Mz aW
  exact wpS_bind (wpS_modify (wpS_pure ⟨hS.setG,_,_,_,_,rfl,hL⟩))
theorem HY {t:T6} (G:Mg prog w A E s κ P r a b zt) (cY: ∀i,i + 1=a.size-> ∀y∈b.toList,∀x∈a.toList.drop i,le r y x) (rB:1<=a.size + b.size) (h:Qq r a b (HR r a b K) zt t aj):wpS (model prog w) A E s (MA a b g t) (R5 r a b zt (K + 1)) aj:=by
 obtain⟨c,d⟩:=t
 obtain⟨hS,⟨o,hc,hr⟩|⟨out,ia,ib,n,m,hc,hL⟩⟩:=h
 .have jW:c=some o:=hc
  subst jW
  exact wpS_pure ⟨hS,o,rfl,hr⟩
 .cases hc
  unfold MA
  refine wpS_bind (wpS_lift (wpAny_rule ⟨rfl,?_⟩))
  refine wpS_bind (wpS_mono (wpS_forRange
   (I:=λj=>match j with|0=>Pq (Ge r a b K) zt|_ + 1=>Pq (Ge r a b (K + 1)) zt)
   (Q:=Qq r a b (Ge r a b (K + 1)) zt) ?step ?fin ⟨hS,_,_,_,_,_,_,rfl,hL⟩) λu cv h2=>HX h2)
  case fin=>
   intro c cv h2
   rw [show max 0 (a.size + b.size)=(a.size + b.size - 1) + 1 by lia] at h2
   exact⟨h2.1,.inr h2.2⟩
  case step=>
   intro j c cv _ _ h2
   have h3:Sm zt cv/\ ∃out ia ib g n m,c=(none,out,ia,ib,g,n,m)/\Lo r a b K out ia ib:=by
    cases j with
    |zero=>exact h2
    |succ j=>
     obtain⟨z1,out,ia,ib,g,n,m,z2,z3⟩:=h2
     exact⟨z1,out,ia,ib,g,n,m,z2,z3.less⟩
   obtain⟨z1,out,ia,ib,g,n,m,rfl,z3⟩:=h3
   exact wpS_mono (HW G cY z1 z3) λx _ h=>by cases x <;> exact h
theorem HZ (G:Mg prog w A E s κ P r a b zt) (cY: ∀i,i + 1=a.size-> ∀y∈b.toList,∀x∈a.toList.drop i,le r y x) (rB:1<=a.size + b.size) (hS:Sm zt aj) (h:Lo r a b K out ia ib):wpS (model prog w) A E s (MB a b out ia ib g) (R5 r a b zt (K + 1)) aj:=by
 unfold MB
 refine wpS_bind (wpS_mono (wpS_forRange (I:=λ_=>Pq (HR r a b K) zt) (Q:=Qq r a b (HR r a b K) zt) ?step (λc cv h2=>⟨h2.1,.inr h2.2⟩) ⟨hS,_,_,_,_,_,rfl,h⟩) λt cv h2=>HY G cY rB h2)
 intro _ c cv _ _ h2
 obtain⟨z1,out,ia,ib,n,m,rfl,z3⟩:=h2
 exact wpS_mono (HU G cY z1 z3) λx _ h=>by cases x <;> exact h
end
theorem uQ {a b:Array Keyed}{zt:SortSt}{Q:Array Keyed->SortSt->Prop} (L:jS prog w A E s κ P r) (O:Ord r) (hk:kindOf zt=κ) (ha: ∀x∈a,P x) (hb: ∀x∈b,P x) (h1:1<=a.size) (h2:1<=b.size)
  (sa:a.toList.Pairwise (le r)) (sb:b.toList.Pairwise (le r)) (first: ∀y∈a.toList,le r b[0] y) (final: ∀y∈b.toList,∀x∈a.toList.drop (a.size - 1),le r y x)
  (q: ∀out aj,out.toList.Perm (a.toList++b.toList)->out.toList.Pairwise (le r)->Sm zt aj->Q out aj):wpS (model prog w) A E s (kH a b) Q zt:=by
 have cY: ∀i,i + 1=a.size-> ∀y∈b.toList,∀x∈a.toList.drop i,le r y x:=λi hi=>by rw [show i=a.size - 1 by lia]; exact final
 have G:Mg prog w A E s κ P r a b zt:=⟨L,O,hk,ha,hb,sa,sb⟩
 rw [HS]
 refine wpS_bind (wpS_lift (wpAny_rule ⟨rfl,?_⟩))
 refine wpS_bind (aY (by lia) ?_)
 have p0:Ms r a b #[b[0]] 0 1:=by
  have:Ms r a b #[] 0 0:=⟨by unfold Pt; simp,by simp,by simp,by simp⟩
  exact this.mW sb (by lia) first
 refine fA (λc1=>?_) (λc1=>?_)
 .exact wpS_pure (q _ _ (p0.p.done (by lia) h2) (p0.done sa sb (by lia) h2 (.inr (by simpa using c1))) .rfl')
 have yZ:1 < b.size:=by have:=bne c1; lia
 refine fA (λc2=>?_) (λc2=>?_)
 .exact wpS_pure (q _ _ (p0.p.last (by lia) h2) (p0.last sa sb (by lia) h2 (cY 0 (by simpa using c2))) .rfl')
 have Cm:0 + 1 < a.size:=by have:=bne c2; lia
 refine wpS_bind (wpS_get ?_)
 refine wpS_bind (wpS_mono (wpS_forRange (I:=λi=>Q5 r a b zt (i + 1)) (Q:=Q1 r a b zt) ?step ?fin ⟨.rfl',_,_,_,_,rfl,p0,Cm,yZ,Nat.le_refl _⟩) ?post)
 case post=>
  rintro⟨c,d⟩ aj ⟨hS,o,hc,hr,ME⟩
  have jW:c=some o:=hc
  subst jW
  exact wpS_pure (q o aj hr ME hS)
 case fin=>
  rintro c aj ⟨_,out,ia,ib,g,_,_,x1,x2,x3⟩
  lia
 case step=>
  rintro i c fj _ _ ⟨MF,out,ia,ib,g,rfl,hL⟩
  exact wpS_mono (HZ G cY (by lia) MF hL) λx _ h=>by cases x <;> exact h
end
end bI
namespace bI
open PySem PyProof.Rows
structure Mh (r:Keyed->Keyed->Bool) (a b out:Array Keyed) (i j:Nat):Prop where
 p:Ph a b out i j
 s:out.toList.Pairwise λx y=>le r y x
 ta: ∀x∈out.toList,∀y∈a.toList.take i,le r y x
 tb: ∀x∈out.toList,∀y∈b.toList.take j,le r y x
section
variable {r:Keyed->Keyed->Bool}{a b out:Array Keyed}{i j k:Nat}
theorem iz (a:Array Keyed) (k i:Nat):(a.extract k i).toList =(a.toList.take i).drop k:=by
 rw [Array.toList_extract]
 unfold List.extract
 rw [List.drop_take]
theorem p5 (a:Array Keyed) (h:k<=i):a.toList.take i=a.toList.take k++(a.toList.take i).drop k:=by
 have:=(List.take_append_drop k (a.toList.take i)).symm
 rwa [List.take_take,Nat.min_eq_left h] at this
theorem Mh.n6 (h:Mh r a b out i j) (sa:a.toList.Pairwise (le r)) (hk:k<=i) (hi:i<=a.size) (hb: ∀x∈(a.toList.take i).drop k,∀y∈b.toList.take j,le r y x):Mh r a b (out++(a.extract k i).reverse) k j:=by
 have sd:(a.toList.take i).Pairwise (le r):=sa.sublist (List.take_sublist _ _)
 have e:=p5 a hk
 rw [e,List.pairwise_append] at sd
 refine cK sd λp1 p2 p3=>?_
 have HN: ∀x∈out.toList,∀y∈a.toList.take k++(a.toList.take i).drop k,le r y x:=λx hx y hy=>h.ta x hx y (by rw [e]; exact hy)
 have el:(out++(a.extract k i).reverse).toList =out.toList++((a.toList.take i).drop k).reverse :=by rw [Array.toList_append,Array.toList_reverse,iz]
 refine⟨h.p.n6 hk hi,?_,λx hx y hy=>?_,λx hx y hy=>?_⟩
 .rw [el,List.pairwise_append]
  exact⟨h.s,List.pairwise_reverse.mpr p2,λx hx y hy=>HN x hx y (List.mem_append_right _ (List.mem_reverse.mp hy))⟩
 .rw [el] at hx
  rcases List.mem_append.mp hx with z|z
  .exact HN x z y (List.mem_append_left _ hy)
  .exact p3 y hy x (List.mem_reverse.mp z)
 .rw [el] at hx
  rcases List.mem_append.mp hx with z|z
  .exact h.tb x z y hy
  .exact hb x (List.mem_reverse.mp z) y hy
theorem Mh.nZ (h:Mh r a b out i j) (sb:b.toList.Pairwise (le r)) (hk:k<=j) (hj:j<=b.size) (ha: ∀x∈(b.toList.take j).drop k,∀y∈a.toList.take i,le r y x):Mh r a b (out++(b.extract k j).reverse) i k:=by
 have sd:(b.toList.take j).Pairwise (le r):=sb.sublist (List.take_sublist _ _)
 have e:=p5 b hk
 rw [e,List.pairwise_append] at sd
 refine cK sd λp1 p2 p3=>?_
 have HP: ∀x∈out.toList,∀y∈b.toList.take k++(b.toList.take j).drop k,le r y x:=λx hx y hy=>h.tb x hx y (by rw [e]; exact hy)
 have el:(out++(b.extract k j).reverse).toList =out.toList++((b.toList.take j).drop k).reverse :=by rw [Array.toList_append,Array.toList_reverse,iz]
 refine⟨h.p.nZ hk hj,?_,λx hx y hy=>?_,λx hx y hy=>?_⟩
 .rw [el,List.pairwise_append]
  exact⟨h.s,List.pairwise_reverse.mpr p2,λx hx y hy=>HP x hx y (List.mem_append_right _ (List.mem_reverse.mp hy))⟩
 .rw [el] at hx
  rcases List.mem_append.mp hx with z|z
  .exact h.ta x z y hy
  .exact ha x (List.mem_reverse.mp z) y hy
 .rw [el] at hx
  rcases List.mem_append.mp hx with z|z
  .exact HP x z y (List.mem_append_left _ hy)
  .exact p3 y hy x (List.mem_reverse.mp z)
theorem Mh.cg (h:Mh r a b out i j) (e:o.toList=out.toList):Mh r a b o i j:=⟨by unfold Ph; rw [e]; exact h.p,by rw [e]; exact h.s,λx hx=>h.ta x (by rw [<-e]; exact hx),λx hx=>h.tb x (by rw [<-e]; exact hx)⟩
theorem Mh.mV (h:Mh r a b out i j) (sa:a.toList.Pairwise (le r)) (h1:1<=i) (hi:i - 1 < a.size) (hb: ∀y∈b.toList.take j,le r y a[i - 1]):Mh r a b (out.push a[i - 1]) (i - 1) j:=by
 refine(h.n6 (k:=i - 1) sa (by lia) (by lia) λx hx=>?_).cg (by rw [Array.toList_append,Array.toList_reverse,iy h1 hi,List.reverse_singleton,<-Array.toList_push])
 rw [<-iz,iy h1 hi,List.mem_singleton] at hx
 rw [hx]; exact hb
theorem Mh.mW (h:Mh r a b out i j) (sb:b.toList.Pairwise (le r)) (h1:1<=j) (hj:j - 1 < b.size) (ha: ∀y∈a.toList.take i,le r y b[j - 1]):Mh r a b (out.push b[j - 1]) i (j - 1):=by
 refine(h.nZ (k:=j - 1) sb (by lia) (by lia) λx hx=>?_).cg (by rw [Array.toList_append,Array.toList_reverse,iy h1 hj,List.reverse_singleton,<-Array.toList_push])
 rw [<-iz,iy h1 hj,List.mem_singleton] at hx
 rw [hx]; exact ha
theorem sM (O:Ord r) (sa:a.toList.Pairwise (le r)) (hi:i - 1 < a.size) (hx:le r a[i - 1] x): ∀y∈a.toList.take i,le r y x:=λy hy=>by
 obtain⟨m,hm,rfl⟩:=List.getElem_of_mem hy
 rw [List.length_take,Array.length_toList] at hm
 rw [List.getElem_take]
 rcases Nat.lt_or_ge m (i - 1) with z|z
 .refine O.trans ?_ hx
  have:=(List.pairwise_iff_getElem.mp sa) m (i - 1) (by simp; lia) (by simp; lia) z
  simpa using this
 .have e:m=i - 1:=by lia
  subst e
  simpa using hx
theorem Mh.done (h:Mh r a b out i j) (sa:a.toList.Pairwise (le r)) (sb:b.toList.Pairwise (le r)) (c:i=0\/j=0):((a.extract 0 i++b.extract 0 j)++out.reverse).toList.Pairwise (le r):=by
 rw [Array.toList_append,Array.toList_append,dq,dq,Array.toList_reverse,List.pairwise_append]
 refine⟨?_,List.pairwise_reverse.mpr h.s,λx hx y hy=>?_⟩
 .rcases c with rfl|rfl
  .rw [List.take_zero,List.nil_append]; exact sb.sublist (List.take_sublist _ _)
  .rw [List.take_zero,List.append_nil]; exact sa.sublist (List.take_sublist _ _)
 .rcases List.mem_append.mp hx with z|z
  .exact h.ta y (List.mem_reverse.mp hy) x z
  .exact h.tb y (List.mem_reverse.mp hy) x z
theorem Mh.first (h:Mh r a b out i j) (sa:a.toList.Pairwise (le r)) (sb:b.toList.Pairwise (le r)) (c: ∀x∈b.toList.take j,∀y∈a.toList,le r x y):((b.extract 0 j++a.extract 0 i)++out.reverse).toList.Pairwise (le r):=by
 rw [Array.toList_append,Array.toList_append,dq,dq,Array.toList_reverse,List.pairwise_append]
 refine⟨?_,List.pairwise_reverse.mpr h.s,λx hx y hy=>?_⟩
 .rw [List.pairwise_append]
  exact⟨sb.sublist (List.take_sublist _ _),sa.sublist (List.take_sublist _ _),λx hx y hy=>c x hx y (List.mem_of_mem_take hy)⟩
 .rcases List.mem_append.mp hx with z|z
  .exact h.tb y (List.mem_reverse.mp hy) x z
  .exact h.ta y (List.mem_reverse.mp hy) x z
end
section
variable {prog:Program}{w:World}{A:Around}{E:Value->Shared->Prop}{s:Shared}{κ:SortKind}{P:Keyed->Prop}{r:Keyed->Keyed->Bool}
structure Hi (r:Keyed->Keyed->Bool) (a b:Array Keyed) (k:Nat) (out:Array Keyed) (ia ib:Nat):Prop where
 m:Mh r a b out ia ib
 x1:1<=ia
 x2:ia<=a.size
 x3:2<=ib
 x4:ib<=b.size
 x5:k + ia + ib<=a.size + b.size
noncomputable abbrev Q8 (r:Keyed->Keyed->Bool) (a b:Array Keyed) (k:Nat) (c:Option (Array Keyed)×Nat×Nat×Array Keyed×Nat):Prop:= ∃ia ib out g,c=(none,ia,ib,out,g)/\Hi r a b k out ia ib
noncomputable abbrev H_ (r:Keyed->Keyed->Bool) (a b:Array Keyed) (k:Nat) (c:Option (Array Keyed)×Nat×Nat×Array Keyed×Nat×Nat):Prop:= ∃ia ib out n m,c=(none,ia,ib,out,n,m)/\Hi r a b k out ia ib
noncomputable abbrev Gf (r:Keyed->Keyed->Bool) (a b:Array Keyed) (k:Nat) (c:Option (Array Keyed)×Nat×Nat×Array Keyed×Nat×Nat×Nat):Prop:= ∃ia ib out g n m,c=(none,ia,ib,out,g,n,m)/\Hi r a b k out ia ib
noncomputable abbrev U5:=Option (Array Keyed)×Nat×Nat×Array Keyed×Nat
noncomputable abbrev U6:=Option (Array Keyed)×Nat×Nat×Array Keyed×Nat×Nat
noncomputable abbrev U7:=Option (Array Keyed)×Nat×Nat×Array Keyed×Nat×Nat×Nat
noncomputable def Cn (a b out:Array Keyed) (na nb:Nat):Array Keyed:=(a.extract 0 na++b.extract 0 nb)++out.reverse
noncomputable def KO (a b out:Array Keyed) (na nb:Nat):Array Keyed:=(b.extract 0 nb++a.extract 0 na)++out.reverse
noncomputable def MG (a b:Array Keyed) (g na nb:Nat) (out:Array Keyed) (ac bc:Nat):SM (ForInStep U6):=do
 let some w<-lt' (<-elem' b (nb - 1)) (<-elem' a (na - 1))|return .done (some (Cn a b out na nb),na,nb,out,ac,bc)
 if w then
  let o:=out.push (<-elem' a (na - 1))
  if na - 1 == 0 then return .done (some (Cn a b o (na - 1) nb),na - 1,nb,o,ac + 1,0)
  if ac + 1 ≥ g then return .done (none,na - 1,nb,o,ac + 1,0)
  return .yield (none,na - 1,nb,o,ac + 1,0)
 else
  let o:=out.push (<-elem' b (nb - 1))
  if nb - 1 == 1 then return .done (some (KO a b o na (nb - 1)),na,nb - 1,o,0,bc + 1)
  if bc + 1 ≥ g then return .done (none,na,nb - 1,o,0,bc + 1)
  return .yield (none,na,nb - 1,o,0,bc + 1)
noncomputable def Ag (a b:Array Keyed) (na nb:Nat) (out:Array Keyed) (g ac bc:Nat):SM (ForInStep U7):=do
 let o:=out.push (<-elem' a (na - 1))
 if na - 1 == 0 then return .done (some (Cn a b o (na - 1) nb),na - 1,nb,o,g,ac,bc)
 if ac < 7 && bc < 7 then return .done (none,na - 1,nb,o,g,ac,bc)
 return .yield (none,na - 1,nb,o,g,ac,bc)
noncomputable def Ah (a b:Array Keyed) (na nb:Nat) (out:Array Keyed) (g ac bc:Nat):SM (ForInStep U7):=do
 let o:=out.push (<-elem' b (nb - 1))
 if nb - 1 == 1 then return .done (some (KO a b o na (nb - 1)),na,nb - 1,o,g,ac,bc)
 let some k<-bW true (<-elem' a (na - 1)) b 0 (nb - 1) (nb - 1 - 1)|return .done (some (Cn a b o na (nb - 1)),na,nb - 1,o,g,ac,bc)
 if nb - 1 - k > 0 then
  let o:=o++(b.extract k (nb - 1)).reverse
  if k == 1 then return .done (some (KO a b o na k),na,k,o,g,ac,nb - 1 - k)
  if k == 0 then return .done (some (Cn a b o na k),na,k,o,g,ac,nb - 1 - k)
  Ag a b na k o g ac (nb - 1 - k)
 else Ag a b na (nb - 1) o g ac (nb - 1 - k)
noncomputable def Ai (a b:Array Keyed) (na nb:Nat) (out:Array Keyed) (ac bc g:Nat):SM (ForInStep U7):=do
 aW g
 let some k<-bW false (<-elem' b (nb - 1)) a 0 na (na - 1)|return .done (some (Cn a b out na nb),na,nb,out,g,ac,bc)
 if na - k > 0 then
  let o:=out++(a.extract k na).reverse
  if k == 0 then return .done (some (Cn a b o k nb),k,nb,o,g,na - k,bc)
  Ah a b k nb o g (na - k) bc
 else Ah a b na nb out g (na - k) bc
noncomputable def Q9 (a b:Array Keyed) (na nb:Nat) (out:Array Keyed) (g ac bc:Nat):SM (ForInStep U7):=if g > 1 then Ai a b na nb out ac bc (g - 1) else Ai a b na nb out ac bc g
noncomputable def MH (u:U7):SM (ForInStep U5):=
 match u.1 with
 |some r=>pure (.done (some r,u.2.1,u.2.2.1,u.2.2.2.1,u.2.2.2.2.1))
 |none=>do
  aW (u.2.2.2.2.1 + 1)
  pure (.yield (none,u.2.1,u.2.2.1,u.2.2.2.1,u.2.2.2.2.1 + 1))
noncomputable def MI (a b:Array Keyed) (g:Nat) (t:U6):SM (ForInStep U5):=
 match t.1 with
 |some r=>pure (.done (some r,t.2.1,t.2.2.1,t.2.2.2.1,g))
 |none=>do
  rule "list.sort.gallop"
  let u<-forIn [0:a.size + b.size] ((none,t.2.1,t.2.2.1,t.2.2.2.1,g + 1,t.2.2.2.2.1,t.2.2.2.2.2):U7) λ_ u=>Q9 a b u.2.1 u.2.2.1 u.2.2.2.1 u.2.2.2.2.1 u.2.2.2.2.2.1 u.2.2.2.2.2.2
  MH u
noncomputable def MJ (a b:Array Keyed) (na nb:Nat) (out:Array Keyed) (g:Nat):SM (ForInStep U5):=do
 let t<-forIn [0:a.size + b.size] ((none,na,nb,out,0,0):U6) λ_ t=>MG a b g t.2.1 t.2.2.1 t.2.2.2.1 t.2.2.2.2.1 t.2.2.2.2.2
 MI a b g t
theorem Ia (a b:Array Keyed):kI a b=(do
  rule "list.sort.merge-hi"
  let x<-elem' a (a.size - 1)
  if a.size - 1 == 0 then return Cn a b #[x] (a.size - 1) b.size
  if b.size == 1 then return KO a b #[x] (a.size - 1) b.size
  let g:=gallopOf (<-get)
  let s<-forIn [0:a.size + b.size] ((none,a.size - 1,b.size,#[x],g):U5) λ_ s=>MJ a b s.2.1 s.2.2.1 s.2.2.2.1 s.2.2.2.2
  match s.1 with
  |some r=>pure r
  |none=>unsupported "internal:list.sort.merge-bound"):=by kernel_rfl
theorem Mg.hA {a b:Array Keyed}{zt aj:SortSt}{ia ib:Nat}{Q':Option Nat->SortSt->Prop} (G:Mg prog w A E s κ P r a b zt) (yY:ib - 1 < b.size) (hS:Sm zt aj) (rA:1<=ia) (Tq:ia<=a.size) (hq: ∀k,k<=ia->(∀x∈(a.toList.take ia).drop k,∀y∈b.toList.take ib,le r y x)->(∀y∈a.toList.take k,le r y b[ib - 1])->Q' (some k) aj):
  wpS (model prog w) A E s (bW false b[ib - 1] a 0 ia (ia - 1)) Q' aj:=by
 have e:sg a 0 ia=a.toList.take ia:=by unfold sg; rw [List.drop_zero]
 refine cH G.L G.O (hS.k.trans G.hk) (G.hb _ (Array.getElem_mem _)) G.ha (by lia) (by lia) (by rw [e]; exact G.sa.sublist (List.take_sublist _ _)) λk hk g1 g2=>hq k hk (λx hx=>?_) (λx hx=>?_)
 .have:=g2 x (by rw [e]; exact hx)
  unfold rq at this
  have h':r b[ib - 1] x=true:=by simpa using this
  exact sM G.O G.sb yY (G.O.of_lt h')
 .have:=g1 x (by rw [e,List.take_take,Nat.min_eq_left hk]; exact hx)
  unfold rq at this
  simpa [le] using this
theorem Mg.hB {a b:Array Keyed}{zt aj:SortSt}{ia ib:Nat}{Q':Option Nat->SortSt->Prop} (G:Mg prog w A E s κ P r a b zt) (rA:ia - 1 < a.size) (hS:Sm zt aj) (yY:1<=ib) (Tr:ib<=b.size) (hq: ∀k,k<=ib->(∀x∈(b.toList.take ib).drop k,∀y∈a.toList.take ia,le r y x)->(∀y∈b.toList.take k,le r y a[ia - 1])->Q' (some k) aj):
  wpS (model prog w) A E s (bW true a[ia - 1] b 0 ib (ib - 1)) Q' aj:=by
 have e:sg b 0 ib=b.toList.take ib:=by unfold sg; rw [List.drop_zero]
 refine cH G.L G.O (hS.k.trans G.hk) (G.ha _ (Array.getElem_mem _)) G.hb (by lia) (by lia) (by rw [e]; exact G.sb.sublist (List.take_sublist _ _)) λk hk g1 g2=>hq k hk (λx hx=>?_) (λx hx=>?_)
 .exact sM G.O G.sa rA (g2 x (by rw [e]; exact hx))
 .exact G.O.of_lt (g1 x (by rw [e,List.take_take,Nat.min_eq_left hk]; exact hx))
noncomputable abbrev HI (r:Keyed->Keyed->Bool) (a b:Array Keyed) (zt:SortSt) (K:Nat) (x:ForInStep U6) (aj:SortSt):Prop:=match x with
 | .done c=>Qq r a b (H_ r a b K) zt c aj
 | .yield c=>Pq (H_ r a b K) zt c aj
noncomputable abbrev HJ (r:Keyed->Keyed->Bool) (a b:Array Keyed) (zt:SortSt) (K:Nat) (x:ForInStep U7) (aj:SortSt):Prop:=match x with
 | .done c=>Qq r a b (Gf r a b K) zt c aj
 | .yield c=>Pq (Gf r a b K) zt c aj
noncomputable abbrev H5 (r:Keyed->Keyed->Bool) (a b:Array Keyed) (zt:SortSt) (K:Nat) (x:ForInStep U5) (aj:SortSt):Prop:=match x with
 | .done c=>Q1 r a b zt c aj
 | .yield c=>Pq (Q8 r a b K) zt c aj
section
variable {a b out:Array Keyed}{zt aj:SortSt}{ia ib g ac bc K:Nat}
theorem Ib (G:Mg prog w A E s κ P r a b zt) (fC: ∀j,j=1-> ∀x∈b.toList.take j,∀y∈a.toList,le r x y) (hS:Sm zt aj) (h:Hi r a b K out ia ib):wpS (model prog w) A E s (MG a b g ia ib out ac bc) (HI r a b zt K) aj:=by
 have hP:=h.m
 have x1:=h.x1
 have x2:=h.x2
 have x3:=h.x3
 have x4:=h.x4
 have x5:=h.x5
 have yY:ib - 1 < b.size:=by lia
 have rA:ia - 1 < a.size:=by lia
 unfold MG
 refine wpS_bind (aY yY (wpS_bind (aY rA (wpS_bind (G.L _ _ _ _ (G.hb _ (Array.getElem_mem _)) (G.ha _ (Array.getElem_mem _)) (hS.k.trans G.hk) ?_)))))
 cases bw:r b[ib - 1] a[ia - 1] with
 |true=>
  dsimp only
  rw [if_pos rfl]
  refine wpS_bind (aY rA ?_)
  have mz:=hP.mV G.sa x1 rA (sM G.O G.sb yY (G.O.of_lt bw))
  refine fA (λe1=>?_) (λe1=>?_)
  .exact wpS_pure ⟨hS,.inl ⟨_,rfl,mz.p.done,mz.done G.sa G.sb (.inl (by simpa using e1))⟩⟩
  .have oX:1<=ia - 1:=by have:=bne e1; lia
   refine fA (λ_=>?_) (λ_=>?_)
   .exact wpS_pure ⟨hS,.inr ⟨_,_,_,_,_,rfl,mz,oX,by lia,by lia,by lia,by lia⟩⟩
   .exact wpS_pure ⟨hS,_,_,_,_,_,rfl,mz,oX,by lia,by lia,by lia,by lia⟩
 |false=>
  dsimp only
  rw [if_neg Bool.false_ne_true]
  refine wpS_bind (aY yY ?_)
  have mz:=hP.mW G.sb (show 1<=ib by lia) yY (sM G.O G.sa rA bw)
  refine fA (λe1=>?_) (λe1=>?_)
  .exact wpS_pure ⟨hS,.inl ⟨_,rfl,mz.p.first,mz.first G.sa G.sb (fC _ (by simpa using e1))⟩⟩
  .have oX:2<=ib - 1:=by have:=bne e1; lia
   refine fA (λ_=>?_) (λ_=>?_)
   .exact wpS_pure ⟨hS,.inr ⟨_,_,_,_,_,rfl,mz,x1,by lia,oX,by lia,by lia⟩⟩
   .exact wpS_pure ⟨hS,_,_,_,_,_,rfl,mz,x1,by lia,oX,by lia,by lia⟩
theorem wQ (G:Mg prog w A E s κ P r a b zt) (hS:Sm zt aj) (hP:Mh r a b out ia ib) (x1:1<=ia) (x2:ia<=a.size) (x3:2<=ib) (x4:ib<=b.size) (x5:K + (ia - 1) + ib<=a.size + b.size) (Ea:ia - 1 < a.size) (y7: ∀y∈b.toList.take ib,le r y a[ia - 1]):
  wpS (model prog w) A E s (Ag a b ia ib out g ac bc) (HJ r a b zt K) aj:=by
 unfold Ag
 refine wpS_bind (aY Ea ?_)
 have Ac:=hP.mV G.sa x1 Ea y7
 refine fA (λe5=>?_) (λe5=>?_)
 .exact wpS_pure ⟨hS,.inl ⟨_,rfl,Ac.p.done,Ac.done G.sa G.sb (.inl (by simpa using e5))⟩⟩
 have HV:1<=ia - 1:=by have:=bne e5; lia
 refine fA (λ_=>?_) (λ_=>?_)
 .exact wpS_pure ⟨hS,.inr ⟨_,_,_,_,_,_,rfl,Ac,HV,by lia,x3,x4,x5⟩⟩
 .exact wpS_pure ⟨hS,_,_,_,_,_,_,rfl,Ac,HV,by lia,x3,x4,x5⟩
theorem wR (G:Mg prog w A E s κ P r a b zt) (fC: ∀j,j=1-> ∀x∈b.toList.take j,∀y∈a.toList,le r x y) (hS:Sm zt aj) (hP:Mh r a b out ia ib) (x1:1<=ia) (x2:ia<=a.size) (x3:2<=ib) (x4:ib<=b.size) (x5:K + ia + ib<=a.size + b.size) (Eb:ib - 1 < b.size) (y6: ∀y∈a.toList.take ia,le r y b[ib - 1]):
  wpS (model prog w) A E s (Ah a b ia ib out g ac bc) (HJ r a b zt (K + 1)) aj:=by
 unfold Ah
 refine wpS_bind (aY Eb ?_)
 have Ad:=hP.mW G.sb (show 1<=ib by lia) Eb y6
 refine fA (λe3=>?_) (λe3=>?_)
 .exact wpS_pure ⟨hS,.inl ⟨_,rfl,Ad.p.first,Ad.first G.sa G.sb (fC _ (by simpa using e3))⟩⟩
 have KN:2<=ib - 1:=by have:=bne e3; lia
 have Ea:ia - 1 < a.size:=by lia
 refine wpS_bind (aY Ea (wpS_bind (G.hB Ea hS (by lia) (by lia) λk Q7 g1 g2=>?_)))
 dsimp only
 refine fA (λMC=>?_) (λMC=>?_)
 .have Ae:=Ad.nZ (k:=k) G.sb Q7 (by lia) g1
  refine fA (λe4=>?_) (λe4=>?_)
  .exact wpS_pure ⟨hS,.inl ⟨_,rfl,Ae.p.first,Ae.first G.sa G.sb (fC _ (by simpa using e4))⟩⟩
  refine fA (λe6=>?_) (λe6=>?_)
  .exact wpS_pure ⟨hS,.inl ⟨_,rfl,Ae.p.done,Ae.done G.sa G.sb (.inr (by simpa using e6))⟩⟩
  exact wQ G hS Ae x1 x2 (by have:=bne e4; have:=bne e6; lia) (by lia) (by lia) Ea g2
 .exact wQ G hS Ad x1 x2 KN (by lia) (by lia) Ea (by rw [show ib - 1=k by lia]; exact g2)
theorem wU (G:Mg prog w A E s κ P r a b zt) (fC: ∀j,j=1-> ∀x∈b.toList.take j,∀y∈a.toList,le r x y) (hS:Sm zt aj) (h:Hi r a b K out ia ib):wpS (model prog w) A E s (Ai a b ia ib out ac bc g) (HJ r a b zt (K + 1)) aj:=by
 have hP:=h.m
 have x1:=h.x1
 have x2:=h.x2
 have x3:=h.x3
 have x4:=h.x4
 have x5:=h.x5
 have Eb:ib - 1 < b.size:=by lia
 unfold Ai aW
 refine wpS_bind (wpS_modify ?_)
 refine wpS_bind (aY Eb (wpS_bind (G.hA Eb hS.setG x1 x2 λk D_ k1 k2=>?_)))
 dsimp only
 refine fA (λMD=>?_) (λMD=>?_)
 .have Af:=hP.n6 (k:=k) G.sa D_ x2 k1
  refine fA (λe1=>?_) (λe1=>?_)
  .exact wpS_pure ⟨hS.setG,.inl ⟨_,rfl,Af.p.done,Af.done G.sa G.sb (.inl (by simpa using e1))⟩⟩
  exact wR G fC hS.setG Af (by have:=bne e1; lia) (by lia) x3 x4 (by lia) Eb k2
 .exact wR G fC hS.setG hP x1 x2 x3 x4 x5 Eb (by rw [show ia=k by lia]; exact k2)
theorem Ic (G:Mg prog w A E s κ P r a b zt) (fC: ∀j,j=1-> ∀x∈b.toList.take j,∀y∈a.toList,le r x y) (hS:Sm zt aj) (h:Hi r a b K out ia ib):wpS (model prog w) A E s (Q9 a b ia ib out g ac bc) (HJ r a b zt (K + 1)) aj:=
 fA (λ_=>wU G fC hS h) λ_=>wU G fC hS h
theorem Hi.less (h:Hi r a b (K + 1) out ia ib):Hi r a b K out ia ib:=⟨h.m,h.x1,h.x2,h.x3,h.x4,by have:=h.x5; lia⟩
theorem Ie {u:U7} (h:Qq r a b (Gf r a b K) zt u aj):wpS (model prog w) A E s (MH u) (H5 r a b zt K) aj:=by
 obtain⟨c,d⟩:=u
 obtain⟨hS,⟨o,hc,hr⟩|⟨ia,ib,out,g',n,m,hc,hL⟩⟩:=h
 .have jW:c=some o:=hc
  subst jW
  exact wpS_pure ⟨hS,o,rfl,hr⟩
 .cases hc
  unfold MH aW
  exact wpS_bind (wpS_modify (wpS_pure ⟨hS.setG,_,_,_,_,rfl,hL⟩))
theorem Ig {t:U6} (G:Mg prog w A E s κ P r a b zt) (fC: ∀j,j=1-> ∀x∈b.toList.take j,∀y∈a.toList,le r x y) (rB:1<=a.size + b.size) (h:Qq r a b (H_ r a b K) zt t aj):wpS (model prog w) A E s (MI a b g t) (H5 r a b zt (K + 1)) aj:=by
 obtain⟨c,d⟩:=t
 obtain⟨hS,⟨o,hc,hr⟩|⟨ia,ib,out,n,m,hc,hL⟩⟩:=h
 .have jW:c=some o:=hc
  subst jW
  exact wpS_pure ⟨hS,o,rfl,hr⟩
 .cases hc
  unfold MI
  refine wpS_bind (wpS_lift (wpAny_rule ⟨rfl,?_⟩))
  refine wpS_bind (wpS_mono (wpS_forRange
   (I:=λj=>match j with|0=>Pq (Gf r a b K) zt|_ + 1=>Pq (Gf r a b (K + 1)) zt)
   (Q:=Qq r a b (Gf r a b (K + 1)) zt) ?step ?fin ⟨hS,_,_,_,_,_,_,rfl,hL⟩) λu cv h2=>Ie h2)
  case fin=>
   intro c cv h2
   rw [show max 0 (a.size + b.size)=(a.size + b.size - 1) + 1 by lia] at h2
   exact⟨h2.1,.inr h2.2⟩
  case step=>
   intro j c cv _ _ h2
   have h3:Sm zt cv/\ ∃ia ib out g n m,c=(none,ia,ib,out,g,n,m)/\Hi r a b K out ia ib:=by
    cases j with
    |zero=>exact h2
    |succ j=>
     obtain⟨z1,ia,ib,out,g,n,m,z2,z3⟩:=h2
     exact⟨z1,ia,ib,out,g,n,m,z2,z3.less⟩
   obtain⟨z1,ia,ib,out,g,n,m,rfl,z3⟩:=h3
   exact wpS_mono (Ic G fC z1 z3) λx _ h=>by cases x <;> exact h
theorem Ih (G:Mg prog w A E s κ P r a b zt) (fC: ∀j,j=1-> ∀x∈b.toList.take j,∀y∈a.toList,le r x y) (rB:1<=a.size + b.size) (hS:Sm zt aj) (h:Hi r a b K out ia ib):wpS (model prog w) A E s (MJ a b ia ib out g) (H5 r a b zt (K + 1)) aj:=by
 unfold MJ
 refine wpS_bind (wpS_mono (wpS_forRange (I:=λ_=>Pq (H_ r a b K) zt) (Q:=Qq r a b (H_ r a b K) zt) ?step (λc cv h2=>⟨h2.1,.inr h2.2⟩) ⟨hS,_,_,_,_,_,rfl,h⟩) λt cv h2=>Ig G fC rB h2)
 intro _ c cv _ _ h2
 obtain⟨z1,ia,ib,out,n,m,rfl,z3⟩:=h2
 exact wpS_mono (Ib G fC z1 z3) λx _ h=>by cases x <;> exact h
end
theorem uR {a b:Array Keyed}{zt:SortSt}{Q:Array Keyed->SortSt->Prop} (L:jS prog w A E s κ P r) (O:Ord r) (hk:kindOf zt=κ) (ha: ∀x∈a,P x) (hb: ∀x∈b,P x) (h1:1<=a.size) (h2:1<=b.size)
  (sa:a.toList.Pairwise (le r)) (sb:b.toList.Pairwise (le r)) (first: ∀y∈a.toList,le r b[0] y) (final: ∀y∈b.toList,∀x∈a.toList.drop (a.size - 1),le r y x)
  (q: ∀out aj,out.toList.Perm (a.toList++b.toList)->out.toList.Pairwise (le r)->Sm zt aj->Q out aj):wpS (model prog w) A E s (kI a b) Q zt:=by
 have fC: ∀j,j=1-> ∀x∈b.toList.take j,∀y∈a.toList,le r x y:=λj hj x hx=>by
  subst hj
  have:=dq b (i:=1)
  rw [<-this,fY (by lia),List.mem_singleton] at hx
  rw [hx]; exact first
 have G:Mg prog w A E s κ P r a b zt:=⟨L,O,hk,ha,hb,sa,sb⟩
 rw [Ia]
 refine wpS_bind (wpS_lift (wpAny_rule ⟨rfl,?_⟩))
 refine wpS_bind (aY (show a.size - 1 < a.size by lia) ?_)
 have p0:Mh r a b #[a[a.size - 1]] (a.size - 1) b.size:=by
  have:Mh r a b #[] a.size b.size:=⟨by
   unfold Ph
   rw [List.take_of_length_le (by simp),List.take_of_length_le (by simp)]
   simp,by simp,by simp,by simp⟩
  refine this.mV sa h1 (by lia) λy hy=>?_
  have gw:a.size - 1 < a.toList.length:=by simp; lia
  refine final y (List.mem_of_mem_take hy) _ ?_
  rw [List.drop_eq_getElem_cons gw]
  simp
 refine fA (λc1=>?_) (λc1=>?_)
 .exact wpS_pure (q _ _ p0.p.done (p0.done sa sb (.inl (by simpa using c1))) .rfl')
 have yZ:1<=a.size - 1:=by have:=bne c1; lia
 refine fA (λc2=>?_) (λc2=>?_)
 .exact wpS_pure (q _ _ p0.p.first (p0.first sa sb (fC _ (by simpa using c2))) .rfl')
 have Cm:2<=b.size:=by have:=bne c2; lia
 refine wpS_bind (wpS_get ?_)
 refine wpS_bind (wpS_mono (wpS_forRange (I:=λi=>Pq (Q8 r a b (i + 1)) zt) (Q:=Q1 r a b zt) ?step ?fin ⟨.rfl',_,_,_,_,rfl,p0,yZ,by lia,Cm,Nat.le_refl _,by lia⟩) ?post)
 case post=>
  rintro⟨c,d⟩ aj ⟨hS,o,hc,hr,ME⟩
  have jW:c=some o:=hc
  subst jW
  exact wpS_pure (q o aj hr ME hS)
 case fin=>
  rintro c aj ⟨_,ia,ib,out,g,_,_,x1,x2,x3,x4,x5⟩
  lia
 case step=>
  rintro i c fj _ _ ⟨MF,ia,ib,out,g,rfl,hL⟩
  exact wpS_mono (Ih G fC (by lia) MF hL) λx _ h=>by cases x <;> exact h
end
end bI
namespace bI
open PySem PyProof.Rows
noncomputable def gt (xs:Array Keyed) (i:Nat):Keyed:=xs[i]?.getD (.none,.none)
theorem gy (h:i < xs.size):gt xs i=xs[i]:=by unfold gt; rw [Array.getElem?_eq_getElem h]; rfl
noncomputable def So (r:Keyed->Keyed->Bool) (xs:Array Keyed) (lo hi:Nat):Prop:= ∀i j,lo<=i->i<=j->j < hi->le r (gt xs i) (gt xs j)
noncomputable def De (r:Keyed->Keyed->Bool) (xs:Array Keyed) (lo hi:Nat):Prop:= ∀i j,lo<=i->i<=j->j < hi->le r (gt xs j) (gt xs i)
theorem fZ (hj:j<=xs.size) (k:Nat):gt (mirror xs i j ((j - i) / 2)) k=if i<=k/\k < j then gt xs (i + j - 1 - k) else gt xs k:=by
 unfold gt
 rw [getElem?_mirror_all hj k]
 split <;> rfl
theorem je (hs:fD < xs.size) (hd:d<=fD) (k:Nat):gt (bubble xs fD d) k=if k=fD - d then gt xs fD else if fD - d < k/\k<=fD then gt xs (k - 1) else gt xs k:=by
 unfold gt
 rw [getElem?_bubble hs d hd k]
 split
 .rfl
 .split <;> rfl
structure At (zt aj:SortSt) (lo hi:Nat):Prop where
 a:Ar zt aj
 o: ∀i,i < lo\/hi<=i->gt (arrOf aj) i=gt (arrOf zt) i
theorem At.rfl' {zt:SortSt}{lo hi:Nat}:At zt zt lo hi:=⟨.rfl',λ_ _=>rfl⟩
theorem At.trans {zt aj Ii:SortSt}{lo hi:Nat} (h:At zt aj lo hi) (h':At aj Ii lo hi):At zt Ii lo hi:=
 ⟨⟨h'.a.k.trans h.a.k,h'.a.a.trans h.a.a,h'.a.p.trans h.a.p,h'.a.f.trans h.a.f⟩,λi hi=>(h'.o i hi).trans (h.o i hi)⟩
theorem At.mirror {zt:SortSt}{lo hi i j:Nat} (hj:j<=(arrOf zt).size) (h1:lo<=i) (h2:j<=hi):At zt (setArr zt (mirror (arrOf zt) i j ((j - i) / 2))) lo hi:=
 ⟨(Ar.rfl').set (mirror_perm _ _ _ _),λk hk=>by
  show gt (PyProof.Rows.mirror (arrOf zt) i j ((j - i) / 2)) k=_
  rw [fZ hj,if_neg (by lia)]⟩
theorem At.bubble {zt:SortSt}{lo hi fD d:Nat} (hs:fD < (arrOf zt).size) (hd:d<=fD) (h1:lo<=fD - d) (h2:fD < hi):At zt (setArr zt (bubble (arrOf zt) fD d)) lo hi:=
 ⟨(Ar.rfl').set (bubble_perm _ _ _),λk hk=>by
  show gt (PyProof.Rows.bubble (arrOf zt) fD d) k=_
  rw [je hs hd,if_neg (by lia),if_neg (by lia)]⟩
section
variable {prog:Program}{w:World}{A:Around}{E:Value->Shared->Prop}{s:Shared}{κ:SortKind}{P:Keyed->Prop}{r:Keyed->Keyed->Bool}
theorem jf {i j:Nat}{zt:SortSt}{Q:Option Bool->SortSt->Prop} (L:jS prog w A E s κ P r) (hk:kindOf zt=κ) (hp: ∀x∈arrOf zt,P x) (hi:i < (arrOf zt).size) (hj:j < (arrOf zt).size) (q:Q (some (r (gt (arrOf zt) i) (gt (arrOf zt) j))) zt):wpS (model prog w) A E s (ltAt' i j) Q zt:=by
 rw [gy hi,gy hj] at q
 rw [ltAt'_eq]
 exact wpS_bind (wpS_get (wpS_bind (aY hi (wpS_bind (aY hj (L _ _ _ _ (hp _ (Array.getElem_mem _)) (hp _ (Array.getElem_mem _)) hk q))))))
theorem n_ {lo n ok:Nat}{zt:SortSt}{Q:Bool->SortSt->Prop} (L:jS prog w A E s κ P r) (O:Ord r) (hk:kindOf zt=κ) (hp: ∀x∈arrOf zt,P x) (hz:lo + n<=(arrOf zt).size) (aN:ok<=n) (hs:So r (arrOf zt) lo (lo + ok)) (q: ∀aj,At zt aj lo (lo + n)->So r (arrOf aj) lo (lo + n)->Q true aj):wpS (model prog w) A E s (binarySort' lo n ok) Q zt:=by
 rw [binarySort'_eq]
 refine wpS_bind (wpS_mono (wpS_forRange (I:=λk c aj=>c=(none,())/\At zt aj lo (lo + n)/\So r (arrOf aj) lo (lo + min k n)) (Q:=λc aj=>c=(none,())/\At zt aj lo (lo + n)/\So r (arrOf aj) lo (lo + n)) ?_ ?_ ⟨rfl,.rfl',λi j h1 h2 h3=>?_⟩) ?_)
 .rintro k c fj k1 k2 ⟨rfl,a1,s1⟩
  rw [show min k n=k by lia] at s1
  have hsz:=a1.a.size
  refine wpS_bind (wpS_mono (wpS_forRange (I:=λx c aj=>aj=fj/\ ∃l u,c=(none,l,u)/\l<=u/\u<=k/\u - l<=k - x/\(∀i,i < l->le r (gt (arrOf fj) (lo + i)) (gt (arrOf fj) (lo + k)))/\(∀i,u<=i->i < k->le r (gt (arrOf fj) (lo + k)) (gt (arrOf fj) (lo + i))))
   (Q:=λc aj=>aj=fj/\ ∃l u,c=(none,l,u)/\l<=k/\(∀i,i < l->le r (gt (arrOf fj) (lo + i)) (gt (arrOf fj) (lo + k)))/\(∀i,l<=i->i < k->le r (gt (arrOf fj) (lo + k)) (gt (arrOf fj) (lo + i)))) ?_ ?_ ⟨rfl,0,k,rfl,by lia,by lia,by lia,λi h=>by lia,λi h1 h2=>by lia⟩) ?_)
  .rintro x c cv _ hx ⟨rfl,l,u,rfl,z1,z2,z3,z4,z5⟩
   dsimp only
   refine fA (λhl=>?_) (λhl=>?_)
   .exact wpS_pure ⟨rfl,l,u,rfl,by lia,z4,λi h1 h2=>z5 i (by lia) h2⟩
   .refine wpS_bind (jf L (a1.a.k.trans hk) (a1.a.all hp) (by lia) (by lia) ?_)
    cases e:r (gt (arrOf cv) (lo + k)) (gt (arrOf cv) (lo + (l + u) / 2)) with
    |true=>exact wpS_pure ⟨rfl,l,_,rfl,by lia,by lia,by lia,z4,λi h1 h2=>O.trans (O.of_lt e) (s1 _ _ (by lia) (by lia) (by lia))⟩
    |false=>exact wpS_pure ⟨rfl,_,u,rfl,by lia,z2,by lia,λi h=>O.trans (s1 (lo + i) (lo + (l + u) / 2) (by lia) (by lia) (by lia)) e,z5⟩
  .rintro c cv ⟨rfl,l,u,rfl,z1,z2,z3,z4,z5⟩
   exact⟨rfl,l,u,rfl,by lia,z4,λi h1 h2=>z5 i (by lia) h2⟩
  .rintro c cv ⟨rfl,l,u,rfl,z1,z4,z5⟩
   dsimp only
   rw [moveDown'_eq]
   refine wpS_bind (wpS_modify (wpS_pure ⟨rfl,a1.trans (At.bubble (by lia) (by lia) (by lia) (by lia)),?_⟩))
   rw [show min (k + 1) n=k + 1 by lia]
   have Ec:lo + k < (arrOf cv).size :=by lia
   intro i j h1 h2 h3
   show le r (gt (bubble (arrOf cv) (lo + k) (lo + k - (lo + l))) i) (gt (bubble (arrOf cv) (lo + k) (lo + k - (lo + l))) j)
   have a4: ∀i,lo<=i->i < lo + l->le r (gt (arrOf cv) i) (gt (arrOf cv) (lo + k)):=λi h h'=>by
    have:=z4 (i - lo) (by lia)
    rwa [show lo + (i - lo)=i by lia] at this
   have a5: ∀i,lo + l<=i->i < lo + k->le r (gt (arrOf cv) (lo + k)) (gt (arrOf cv) i):=λi h h'=>by
    have:=z5 (i - lo) (by lia) (by lia)
    rwa [show lo + (i - lo)=i by lia] at this
   rw [je Ec (by lia),je Ec (by lia),show lo + k - (lo + k - (lo + l))=lo + l by lia]
   repeat' split
   all_goals first
    |(exfalso; lia)
    |exact O.refl _
    |exact a4 _ (by lia) (by lia)
    |exact a5 _ (by lia) (by lia)
    |exact s1 _ _ (by lia) (by lia) (by lia)
 .rintro c aj ⟨hc,a1,s1⟩
  rw [show min (max (max ok 1) n) n=n by lia] at s1
  exact⟨hc,a1,s1⟩
 .by_cases e:ok=0
  .rw [show i=j by lia]; exact O.refl _
  .exact hs i j h1 h2 (by lia)
 .rintro c fj ⟨rfl,a1,s1⟩
  exact wpS_pure (q fj a1 s1)
end
end bI
namespace bI
open PySem PyProof.Rows
section
variable {r:Keyed->Keyed->Bool}
theorem So.one (O:Ord r) (xs:Array Keyed) (lo:Nat):So r xs lo (lo + 1):=λi j h1 h2 h3=>by rw [show i=j by lia]; exact O.refl _
theorem De.one (O:Ord r) (xs:Array Keyed) (lo:Nat):De r xs lo (lo + 1):=λi j h1 h2 h3=>by rw [show i=j by lia]; exact O.refl _
theorem So.more (O:Ord r) {xs:Array Keyed}{lo n:Nat} (h:So r xs lo (lo + n)) (h1:1<=n) (hl:le r (gt xs (lo + n - 1)) (gt xs (lo + n))):So r xs lo (lo + (n + 1)):=λi j g1 g2 g3=>by
 rcases Nat.lt_or_ge j (lo + n) with z|z
 .exact h i j g1 g2 z
 .have e:j=lo + n:=by lia
  subst e
  rcases Nat.lt_or_ge i (lo + n) with y|y
  .exact O.trans (h i (lo + n - 1) g1 (by lia) (by lia)) hl
  .rw [show i=lo + n by lia]; exact O.refl _
theorem De.more (O:Ord r) {xs:Array Keyed}{lo n:Nat} (h:De r xs lo (lo + n)) (h1:1<=n) (hl:le r (gt xs (lo + n)) (gt xs (lo + n - 1))):De r xs lo (lo + (n + 1)):=λi j g1 g2 g3=>by
 rcases Nat.lt_or_ge j (lo + n) with z|z
 .exact h i j g1 g2 z
 .have e:j=lo + n:=by lia
  subst e
  rcases Nat.lt_or_ge i (lo + n) with y|y
  .exact O.trans hl (h i (lo + n - 1) g1 (by lia) (by lia))
  .rw [show i=lo + n by lia]; exact O.refl _
noncomputable def Eqv (r:Keyed->Keyed->Bool) (xs ys:Array Keyed):Prop:= ∀k,le r (gt xs k) (gt ys k)/\le r (gt ys k) (gt xs k)
theorem gO (O:Ord r) {xs:Array Keyed}{i j:Nat} (hj:j<=xs.size) (h: ∀k,i<=k->k < j->le r (gt xs k) (gt xs (j - 1))/\le r (gt xs (j - 1)) (gt xs k)):Eqv r (mirror xs i j ((j - i) / 2)) xs:=λk=>by
 rw [fZ hj]
 split
 .rename_i z
  have h1:=h (i + j - 1 - k) (by lia) (by lia)
  have h2:=h k z.1 z.2
  exact⟨O.trans h1.1 h2.2,O.trans h2.1 h1.2⟩
 .exact⟨O.refl _,O.refl _⟩
theorem De.eqv (O:Ord r) {xs ys:Array Keyed}{lo hi:Nat} (h:De r xs lo hi) (e:Eqv r ys xs):De r ys lo hi:=λi j h1 h2 h3=>O.trans (e j).1 (O.trans (h i j h1 h2 h3) (e i).2)
theorem De.turn {xs:Array Keyed}{lo n:Nat} (h:De r xs lo (lo + n)) (hz:lo + n<=xs.size):So r (mirror xs lo (lo + n) ((lo + n - lo) / 2)) lo (lo + n):=λi j h1 h2 h3=>by
 rw [fZ hz,fZ hz,if_pos (by lia),if_pos (by lia)]
 exact h _ _ (by lia) (by lia) (by lia)
end
section
variable {prog:Program}{w:World}{A:Around}{E:Value->Shared->Prop}{s:Shared}{κ:SortKind}{P:Keyed->Prop}{r:Keyed->Keyed->Bool}
theorem wV {α:Type}{x:SM α}{zt:SortSt}{Q:α->SortSt->Prop}{T:SortSt->Prop} (C:SortSt->Prop) (main:(∀s',C s'->T s')->wpS (model prog w) A E s x Q zt) (h: ∀s',C s'->T s'):wpS (model prog w) A E s x Q zt:=main h
theorem rC {lo eg:Nat}{zt:SortSt}{Q:Option Nat->SortSt->Prop} (L:jS prog w A E s κ P r) (O:Ord r) (hk:kindOf zt=κ) (hp: ∀x∈arrOf zt,P x) (hz:lo + eg<=(arrOf zt).size) (h1:1<=eg) (q: ∀n aj,1<=n->n<=eg->At zt aj lo (lo + eg)->So r (arrOf aj) lo (lo + n)->Q (some n) aj):wpS (model prog w) A E s (countRun' lo eg) Q zt:=by
 rw [countRun'_eq]
 refine wpS_bind (wpS_mono (wpS_forRange (I:=λi c aj=>aj=zt/\ ∃n,c=(none,n)/\1<=n/\n=i/\n<=eg/\So r (arrOf zt) lo (lo + n))
  (Q:=λc aj=>aj=zt/\ ∃n,c=(none,n)/\1<=n/\n<=eg/\So r (arrOf zt) lo (lo + n)/\(n=eg\/r (gt (arrOf zt) (lo + n)) (gt (arrOf zt) (lo + n - 1))=true)) ?_ ?_ ⟨rfl,1,rfl,by lia,by lia,h1,.one O _ _⟩) ?_)
 .rintro i c fj i1 i2 ⟨rfl,n,rfl,n1,n2,n3,s1⟩
  dsimp only
  refine wpS_bind (jf L hk hp (by lia) (by lia) ?_)
  cases e:r (gt (arrOf fj) (lo + n)) (gt (arrOf fj) (lo + n - 1)) with
  |true=>exact wpS_pure ⟨rfl,n,rfl,n1,n3,s1,.inr e⟩
  |false=>exact wpS_pure ⟨rfl,n + 1,rfl,by lia,by lia,by lia,s1.more O n1 e⟩
 .rintro c fj ⟨rfl,n,rfl,n1,n2,n3,s1⟩
  exact⟨rfl,n,rfl,n1,n3,s1,.inl (by lia)⟩
 rintro c fj ⟨rfl,n,rfl,n1,n2,s1,MK⟩
 dsimp only
 refine fA (λe1=>?_) (λe1=>?_)
 .exact wpS_pure (q n _ n1 n2 .rfl' s1)
 have oX:n < eg:=by have:=bne e1; lia
 have bZ:=MK.resolve_left (by lia)
 apply wV (λs'=>At fj s' lo (lo + eg)/\De r (arrOf s') lo (lo + (n + 1)))
 .intro shared
  refine fA (λEd=>?_) (λEd=>?_)
  rotate_left
  .have e:n=1:=by lia
   have d:De r (arrOf fj) lo (lo + (n + 1)):=by
    subst e
    exact(De.one O _ _).more O (by lia) (O.of_lt bZ)
   apply shared fj ⟨.rfl',d⟩
  .refine wpS_bind (jf L hk hp (by lia) (by lia) ?_)
   cases e:r (gt (arrOf fj) lo) (gt (arrOf fj) (lo + n - 1)) with
   |true=>exact wpS_pure (q n _ n1 n2 .rfl' s1)
   |false=>
    dsimp only
    rw [if_neg Bool.false_ne_true]
    refine wpS_bind (sF ?_)
    have all: ∀k,lo<=k->k < lo + n->le r (gt (arrOf fj) k) (gt (arrOf fj) (lo + n - 1))/\le r (gt (arrOf fj) (lo + n - 1)) (gt (arrOf fj) k):=λk k1 k2=>⟨s1 k _ k1 (by lia) (by lia),O.trans e (s1 lo k (Nat.le_refl _) k1 k2)⟩
    have d0:De r (arrOf fj) lo (lo + n):=λi j g1 g2 g3=>O.trans (all j (by lia) g3).1 (all i g1 (by lia)).2
    exact shared _ ⟨At.mirror (by lia) (Nat.le_refl _) (by lia),(d0.more O n1 (O.of_lt bZ)).eqv O (gO O (by lia) all)⟩
 rintro s' ⟨a0,d0⟩
 have z0:=a0.a.size
 refine wpS_bind (wpS_lift (wpAny_rule ⟨rfl,?_⟩))
 refine wpS_bind (wpS_mono (wpS_forRange (I:=λi c aj=>At fj aj lo (lo + eg)/\ ∃n' z,c=(none,n',z)/\2<=n'/\n'=i/\n'<=eg/\z + 1<=n'/\De r (arrOf aj) lo (lo + n')/\ ∀k,lo + n' - (z + 1)<=k->k < lo + n'->le r (gt (arrOf aj) k) (gt (arrOf aj) (lo + n' - 1))/\le r (gt (arrOf aj) (lo + n' - 1)) (gt (arrOf aj) k))
  (Q:=λc aj=>At fj aj lo (lo + eg)/\ ∃n' z,c=(none,n',z)/\2<=n'/\n'<=eg/\z + 1<=n'/\De r (arrOf aj) lo (lo + n')/\ ∀k,lo + n' - (z + 1)<=k->k < lo + n'->le r (gt (arrOf aj) k) (gt (arrOf aj) (lo + n' - 1))/\le r (gt (arrOf aj) (lo + n' - 1)) (gt (arrOf aj) k)) ?_ ?_ ⟨a0,n + 1,0,rfl,by lia,by lia,by lia,by lia,d0,λk k1 k2=>?_⟩) ?_)
 .rintro i c cv i1 i2 ⟨a2,n',z,rfl,m1,m2,m3,m4,d2,eq2⟩
  have Mp:=a2.a.size
  dsimp only
  refine wpS_bind (jf L (a2.a.k.trans hk) (a2.a.all hp) (by lia) (by lia) ?_)
  cases e:r (gt (arrOf cv) (lo + n')) (gt (arrOf cv) (lo + n' - 1)) with
  |true=>
   dsimp only
   rw [if_pos rfl]
   have d3:=d2.more O (by lia) (O.of_lt e)
   split
   .refine wpS_bind (sF (wpS_pure ⟨a2.trans (At.mirror (by lia) (by lia) (by lia)),n' + 1,0,rfl,by lia,by lia,by lia,by lia,d3.eqv O (gO O (by lia) eq2),λk k1 k2=>?_⟩))
    rw [show k=lo + (n' + 1) - 1 by lia]
    exact⟨O.refl _,O.refl _⟩
   .refine wpS_pure ⟨a2,n' + 1,0,rfl,by lia,by lia,by lia,by lia,d3,λk k1 k2=>?_⟩
    rw [show k=lo + (n' + 1) - 1 by lia]
    exact⟨O.refl _,O.refl _⟩
  |false=>
   dsimp only
   rw [if_neg Bool.false_ne_true]
   refine wpS_bind (jf L (a2.a.k.trans hk) (a2.a.all hp) (by lia) (by lia) ?_)
   cases e':r (gt (arrOf cv) (lo + n' - 1)) (gt (arrOf cv) (lo + n')) with
   |true=>exact wpS_pure ⟨a2,n',z,rfl,m1,m3,m4,d2,eq2⟩
   |false=>
    refine wpS_pure ⟨a2,n' + 1,z + 1,rfl,by lia,by lia,by lia,by lia,d2.more O (by lia) e',λk k1 k2=>?_⟩
    rw [show lo + (n' + 1) - 1=lo + n' by lia]
    rcases Nat.lt_or_ge k (lo + n') with y|y
    .have:=eq2 k (by lia) y
     exact⟨O.trans this.1 e,O.trans e' this.2⟩
    .rw [show k=lo + n' by lia]
     exact⟨O.refl _,O.refl _⟩
 .rintro c cv ⟨a2,n',z,rfl,m1,m2,m3,m4,d2,eq2⟩
  exact⟨a2,n',z,rfl,m1,m3,m4,d2,eq2⟩
 .rw [show k=lo + (n + 1) - 1 by lia]
  exact⟨O.refl _,O.refl _⟩
 rintro c kn ⟨a3,n',z,rfl,m1,m2,m4,d3,eq3⟩
 have WS:=a3.a.size
 dsimp only
 apply wV (λs'=>At fj s' lo (lo + eg)/\De r (arrOf s') lo (lo + n'))
 .intro shared
  refine fA (λKP=>?_) (λKP=>?_)
  rotate_left
  .apply shared kn ⟨a3,d3⟩
  .refine wpS_bind (sF ?_)
   exact shared _ ⟨a3.trans (At.mirror (by lia) (by lia) (by lia)),d3.eqv O (gO O (by lia) eq3)⟩
 rintro s4 ⟨a4,d4⟩
 have WT:=a4.a.size
 refine wpS_bind (sF ?_)
 have a5:=a4.trans (At.mirror (i:=lo) (j:=lo + n') (by lia) (Nat.le_refl _) (show lo + n'<=lo + eg by lia))
 have s5:=d4.turn (by lia)
 refine wpS_bind (wpS_mono (wpS_forRange (I:=λi c aj=>At fj aj lo (lo + eg)/\ ∃m,c=(none,m)/\1<=m/\m=i/\m<=eg/\So r (arrOf aj) lo (lo + m))
  (Q:=λc aj=>At fj aj lo (lo + eg)/\ ∃m,c=(none,m)/\1<=m/\m<=eg/\So r (arrOf aj) lo (lo + m)) ?_ (λc aj ⟨y,m,y1,y2,_,y3,y4⟩=>⟨y,m,y1,y2,y3,y4⟩) ⟨a5,n',rfl,by lia,rfl,m2,s5⟩) ?_)
 .rintro i c vT i1 i2 ⟨a5,m,rfl,y1,y2,y3,y4⟩
  have WU:=a5.a.size
  dsimp only
  refine wpS_bind (jf L (a5.a.k.trans hk) (a5.a.all hp) (by lia) (by lia) ?_)
  cases e:r (gt (arrOf vT) (lo + m)) (gt (arrOf vT) (lo + m - 1)) with
  |true=>exact wpS_pure ⟨a5,m,rfl,y1,y3,y4⟩
  |false=>exact wpS_pure ⟨a5,m + 1,rfl,by lia,by lia,by lia,y4.more O y1 e⟩
 .rintro c vT ⟨a5,m,rfl,y1,y3,y4⟩
  exact wpS_pure (q m vT y1 y3 a5 y4)
end
end bI
namespace bI
open PySem PyProof.Rows
theorem og (xs:Array Keyed) (i:Nat):gt xs i=xs.toList[i]?.getD (.none,.none):=by unfold gt; rw [Array.getElem?_toList]
section
variable {r:Keyed->Keyed->Bool}
theorem p6 {xs:Array Keyed}{lo n:Nat} (h:So r xs lo (lo + n)) (hz:lo + n<=xs.size):(sg xs lo n).Pairwise (le r):=by
 rw [List.pairwise_iff_getElem]
 intro i j hi hj D2
 rw [du hz] at hi hj
 have e1:=eU (arr:=xs) hi hz
 have e2:=eU (arr:=xs) hj hz
 rw [List.getElem?_eq_getElem (by rw [du hz]; lia)] at e1 e2
 rw [Option.some.inj e1,Option.some.inj e2,<-gy,<-gy]
 exact h _ _ (by lia) (by lia) (by lia)
theorem Ee {ms:List Keyed}{o:Nat}{a:Array Keyed} (h:o + ms.length<=a.size) (i:Nat):gt (ms.zipIdx.foldl (λa (p:Keyed×Nat)=>a.setIfInBounds (o + p.2) p.1) a) i=if i < o then gt a i else if h:i - o < ms.length then ms[i - o] else gt a i:=by
 rw [og,n8 ms o 0 a (by lia),Nat.add_zero]
 have ht:(a.toList.take o).length =o:=by rw [List.length_take,Array.length_toList]; lia
 by_cases h1:i < o
 .rw [if_pos h1,List.append_assoc,List.getElem?_append_left (by lia),List.getElem?_take,if_pos h1,og]
 .rw [if_neg h1,List.append_assoc,List.getElem?_append_right (by lia),ht]
  by_cases h2:i - o < ms.length
  .rw [dif_pos h2,List.getElem?_append_left h2,List.getElem?_eq_getElem h2]
   rfl
  .rw [dif_neg h2,List.getElem?_append_right (by lia),List.getElem?_drop,og]
   congr 2
   lia
end
section
variable {prog:Program}{w:World}{A:Around}{E:Value->Shared->Prop}{s:Shared}{κ:SortKind}{P:Keyed->Prop}{r:Keyed->Keyed->Bool}
theorem uS {i sa na pw sb nb Gg:Nat}{zt:SortSt}{Q:Bool->SortSt->Prop} (L:jS prog w A E s κ P r) (O:Ord r) (hk:kindOf zt=κ) (hp: ∀x∈arrOf zt,P x) (hf:failedOf zt=none) (e1:(pendingOf zt)[i]?=some (sa,na,pw)) (e2:(pendingOf zt)[i + 1]?=some (sb,nb,Gg)) (Tt:sb=sa + na) (h1:1<=na) (h2:1<=nb) (hz:sb + nb<=(arrOf zt).size)
  (Ij:So r (arrOf zt) sa sb) (Ik:So r (arrOf zt) sb (sb + nb))
  (q: ∀aj,kindOf aj=κ->(arrOf aj).Perm (arrOf zt)->failedOf aj=none->pendingOf aj=((pendingOf zt).setIfInBounds i (sa,na + nb,pw)).eraseIdxIfInBounds (i + 1)->(∀i,i < sa\/sb + nb<=i->gt (arrOf aj) i=gt (arrOf zt) i)->So r (arrOf aj) sa (sb + nb)->Q true aj):wpS (model prog w) A E s (mergeAt' i) Q zt:=by
 have ML:So r (arrOf zt) sa (sa + na):=by rw [<-Tt]; exact Ij
 have Tu:=p6 ML (by lia)
 have Tv:=p6 Ik hz
 have Il:sb < (arrOf zt).size :=by lia
 have b0: ∀j,sb<=j->j < sb + nb->le r (arrOf zt)[sb] (gt (arrOf zt) j):=λj j1 j2=>by
  rw [<-gy Il]; exact Ik sb j (Nat.le_refl _) j1 j2
 have whole:(∀x,sa<=x->x < sb-> ∀y,sb<=y->y < sb + nb->le r (gt (arrOf zt) x) (gt (arrOf zt) y))->So r (arrOf zt) sa (sb + nb):=λh x y x1 x2 x3=>by
  rcases Nat.lt_or_ge y sb with z|z
  .exact Ij x y x1 x2 z
  .rcases Nat.lt_or_ge x sb with z'|z'
   .exact h x x1 z' y z x3
   .exact Ik x y z' x2 x3
 have Q_: ∀{c:Nat},c < na-> ∃h,(sg (arrOf zt) sa na)[c]'h=gt (arrOf zt) (sa + c):=λ{c} hc=>by
  have hl:c < (sg (arrOf zt) sa na).length :=by rw [du (by lia)]; exact hc
  refine⟨hl,?_⟩
  have e:=eU (arr:=arrOf zt) hc (show sa + na<=(arrOf zt).size by lia)
  rw [List.getElem?_eq_getElem hl] at e
  rw [Option.some.inj e,<-gy]
 have Ra: ∀{c:Nat},c < nb-> ∃h,(sg (arrOf zt) sb nb)[c]'h=gt (arrOf zt) (sb + c):=λ{c} hc=>by
  have hl:c < (sg (arrOf zt) sb nb).length :=by rw [du hz]; exact hc
  refine⟨hl,?_⟩
  have e:=eU (arr:=arrOf zt) hc hz
  rw [List.getElem?_eq_getElem hl] at e
  rw [Option.some.inj e,<-gy]
 rw [pW]
 refine wpS_bind (wpS_get ?_)
 rw [e1,e2]
 dsimp only
 refine wpS_bind (zX (wpS_bind (aY Il (wpS_bind (cH L O hk (hp _ (Array.getElem_mem _)) hp (by lia) (by lia) Tu λk D_ g1 g2=>?_)))))
 dsimp only
 have Ef: ∀j,sa<=j->j < sa + k->le r (gt (arrOf zt) j) (arrOf zt)[sb]:=λj j1 j2=>by
  obtain⟨hl,e⟩:=Q_ (show j - sa < na by lia)
  have:=g1 ((sg (arrOf zt) sa na)[j - sa]) (by rw [List.mem_take_iff_getElem]; exact⟨j - sa,by rw [du (by lia)]; lia,rfl⟩)
  rw [e,show sa + (j - sa)=j by lia] at this
  unfold rq at this
  simpa [le] using this
 have Rb: ∀j,sa + k<=j->j < sb->le r (arrOf zt)[sb] (gt (arrOf zt) j):=λj j1 j2=>by
  obtain⟨hl,e⟩:=Q_ (show j - sa < na by lia)
  have:=g2 ((sg (arrOf zt) sa na)[j - sa]) (by rw [List.mem_drop_iff_getElem]; exact⟨j - sa - k,by lia,by congr 1; lia⟩)
  rw [e,show sa + (j - sa)=j by lia] at this
  unfold rq at this
  have h':r (arrOf zt)[sb] (gt (arrOf zt) j)=true:=by simpa using this
  exact O.of_lt h'
 by_cases c1:(na - k == 0)=true
 .rw [if_pos c1]
  have yZ:k=na:=by
   have:na - k=0:=by simpa using c1
   lia
  exact wpS_pure (q _ hk (Array.Perm.refl _) hf rfl (λ_ _=>rfl) (whole λx x1 x2 y y1 y2=>O.trans (Ef x x1 (by lia)) (b0 y y1 y2)))
 rw [if_neg c1]
 have yZ:k < na:=by have:=bne c1; lia
 have Rc:sa + k + (na - k) - 1 < (arrOf zt).size :=by lia
 refine wpS_bind (aY Rc (wpS_bind (cH L O hk (hp _ (Array.getElem_mem _)) hp (by lia) (by lia) Tv λlS Tw g3 g4=>?_)))
 dsimp only
 have ze:(arrOf zt)[sa + k + (na - k) - 1]=gt (arrOf zt) (sb - 1):=by rw [<-gy Rc]; congr 1; lia
 rw [ze] at g3 g4
 have Im: ∀j,sa<=j->j < sb->le r (gt (arrOf zt) j) (gt (arrOf zt) (sb - 1)):=λj j1 j2=>Ij j (sb - 1) j1 (by lia) (by lia)
 have Io: ∀j,sb<=j->j < sb + lS->le r (gt (arrOf zt) j) (gt (arrOf zt) (sb - 1)):=λj j1 j2=>by
  obtain⟨hl,e⟩:=Ra (show j - sb < nb by lia)
  have:=g3 ((sg (arrOf zt) sb nb)[j - sb]) (by rw [List.mem_take_iff_getElem]; exact⟨j - sb,by rw [du hz]; lia,rfl⟩)
  rw [e,show sb + (j - sb)=j by lia] at this
  exact O.of_lt this
 have Rf: ∀j,sb + lS<=j->j < sb + nb->le r (gt (arrOf zt) (sb - 1)) (gt (arrOf zt) j):=λj j1 j2=>by
  obtain⟨hl,e⟩:=Ra (show j - sb < nb by lia)
  have:=g4 ((sg (arrOf zt) sb nb)[j - sb]) (by rw [List.mem_drop_iff_getElem]; exact⟨j - sb - lS,by lia,by congr 1; lia⟩)
  rw [e,show sb + (j - sb)=j by lia] at this
  exact this
 by_cases c2:(lS == 0)=true
 .rw [if_pos c2]
  have Cm:lS=0:=by simpa using c2
  exact wpS_pure (q _ hk (Array.Perm.refl _) hf rfl (λ_ _=>rfl) (whole λx x1 x2 y y1 y2=>O.trans (Im x x1 x2) (Rf y (by lia) y2)))
 rw [if_neg c2]
 have Cm:1<=lS:=by have:=bne c2; lia
 have hx: ∀x∈(arrOf zt).extract (sa + k) sb,P x:=λx hx=>hp x (sG hx)
 have hy: ∀x∈(arrOf zt).extract sb (sb + lS),P x:=λx hx=>hp x (sG hx)
 have sx:((arrOf zt).extract (sa + k) sb).size =na - k:=by rw [Array.size_extract]; lia
 have sy:((arrOf zt).extract sb (sb + lS)).size =lS:=by rw [Array.size_extract]; lia
 have lx:((arrOf zt).extract (sa + k) sb).toList =sg (arrOf zt) (sa + k) (na - k):=by
  have:=dw (arrOf zt) (sa + k) (na - k)
  rwa [show sa + k + (na - k)=sb by lia] at this
 have ly:((arrOf zt).extract sb (sb + lS)).toList =sg (arrOf zt) sb lS:=dw _ _ _
 have px:((arrOf zt).extract (sa + k) sb).toList.Pairwise (le r):=by
  rw [lx]
  exact p6 (λx y x1 x2 x3=>Ij x y (by lia) x2 (by lia)) (by lia)
 have py:((arrOf zt).extract sb (sb + lS)).toList.Pairwise (le r):=by
  rw [ly]
  exact p6 (λx y x1 x2 x3=>Ik x y x1 x2 (by lia)) (by lia)
 have mem: ∀{x:Keyed}{o m:Nat},o + m<=(arrOf zt).size ->x∈sg (arrOf zt) o m-> ∃j,o<=j/\j < o + m/\x=gt (arrOf zt) j:=λ{x o m} MM hx=>by
  obtain⟨t,ht,rfl⟩:=List.getElem_of_mem hx
  rw [du MM] at ht
  refine⟨o + t,by lia,by lia,?_⟩
  have e:=eU (arr:=arrOf zt) ht MM
  rw [List.getElem?_eq_getElem (by rw [du MM]; lia)] at e
  rw [Option.some.inj e,<-gy]
 have first: ∀y∈((arrOf zt).extract (sa + k) sb).toList,le r (((arrOf zt).extract sb (sb + lS))[0]'(by lia)) y:=λy hy=>by
  rw [lx] at hy
  obtain⟨j,j1,j2,rfl⟩:=mem (by lia) hy
  have e:((arrOf zt).extract sb (sb + lS))[0]'(by lia)=(arrOf zt)[sb]:=by rw [Array.getElem_extract]; rfl
  rw [e]
  exact Rb j j1 (by lia)
 have final: ∀y∈((arrOf zt).extract sb (sb + lS)).toList,∀x∈((arrOf zt).extract (sa + k) sb).toList.drop (((arrOf zt).extract (sa + k) sb).size - 1),le r y x:=λy hy x hx=>by
  rw [ly] at hy
  obtain⟨j,j1,j2,rfl⟩:=mem (by lia) hy
  rw [sx,lx] at hx
  obtain⟨m,hm,rfl⟩:=List.getElem_of_mem hx
  rw [List.length_drop,du (by lia)] at hm
  rw [List.getElem_drop]
  have e:=eU (arr:=arrOf zt) (show na - k - 1 + m < na - k by lia) (show sa + k + (na - k)<=(arrOf zt).size by lia)
  rw [List.getElem?_eq_getElem (by rw [du (by lia)]; lia)] at e
  rw [Option.some.inj e,<-gy,show sa + k + (na - k - 1 + m)=sb - 1 by lia]
  exact Io j j1 j2
 have Ip: ∀(out:Array Keyed) (aj:SortSt),out.toList.Perm (((arrOf zt).extract (sa + k) sb).toList ++((arrOf zt).extract sb (sb + lS)).toList)->out.toList.Pairwise (le r)->Sm (setPending zt (((pendingOf zt).setIfInBounds i (sa,na + nb,pw)).eraseIdxIfInBounds (i + 1))) aj->
   Q (failedOf (setArr aj (out.toList.zipIdx.foldl (λa (p,j)=>a.setIfInBounds (sa + k + j) p) (arrOf aj)))).isNone (setArr aj (out.toList.zipIdx.foldl (λa (p,j)=>a.setIfInBounds (sa + k + j) p) (arrOf aj))):=λout aj oh uT hS=>by
  have Rh:failedOf aj=none:=hS.f.trans hf
  have e4:(failedOf (setArr aj (out.toList.zipIdx.foldl (λa (p,j)=>a.setIfInBounds (sa + k + j) p) (arrOf aj)))).isNone =true:=by show(failedOf aj).isNone =true; rw [Rh]; rfl
  rw [e4]
  have ha:arrOf aj=arrOf zt:=hS.a
  have hl:=oh.length_eq
  rw [List.length_append,Array.length_toList (xs:=(arrOf zt).extract (sa + k) sb),Array.length_toList (xs:=(arrOf zt).extract sb (sb + lS)),sx,sy] at hl
  have Ri: ∀x∈out.toList,le r (arrOf zt)[sb] x/\le r x (gt (arrOf zt) (sb - 1)):=λx hx=>by
   rcases List.mem_append.mp (oh.mem_iff.mp hx) with z|z
   .rw [lx] at z
    obtain⟨j,j1,j2,rfl⟩:=mem (by lia) z
    exact⟨Rb j j1 (by lia),Im j (by lia) (by lia)⟩
   .rw [ly] at z
    obtain⟨j,j1,j2,rfl⟩:=mem (by lia) z
    exact⟨b0 j j1 (by lia),Io j j1 j2⟩
  have hg: ∀j,gt (arrOf (setArr aj (out.toList.zipIdx.foldl (λa (p,j)=>a.setIfInBounds (sa + k + j) p) (arrOf aj)))) j=if j < sa + k then gt (arrOf zt) j else if h:j - (sa + k) < out.toList.length then out.toList[j - (sa + k)] else gt (arrOf zt) j:=λj=>by
   show gt (out.toList.zipIdx.foldl (λa (p:Keyed×Nat)=>a.setIfInBounds (sa + k + p.2) p.1) (arrOf aj)) j=_
   rw [Ee (by rw [ha]; lia),ha]
  refine q _ (hS.k.trans hk) ?_ Rh hS.p (λj hj=>?_) (λx y x1 x2 x3=>?_)
  .show(out.toList.zipIdx.foldl (λa (p:Keyed×Nat)=>a.setIfInBounds (sa + k + p.2) p.1) (arrOf aj)).Perm (arrOf zt)
   rw [Array.perm_iff_toList_perm,ha,n8 _ (sa + k) 0 _ (by lia)]
   have e3:(arrOf zt).toList =(arrOf zt).toList.take (sa + k + 0)++(((arrOf zt).extract (sa + k) sb).toList ++((arrOf zt).extract sb (sb + lS)).toList)++(arrOf zt).toList.drop (sa + k + 0 + out.toList.length):=by
    have t1:=ef (arrOf zt) (i:=sa + k) (k:=na - k)
    have t2:=ef (arrOf zt) (i:=sb) (k:=lS)
    rw [show sa + k + (na - k)=sb by lia] at t1
    rw [Nat.add_zero,<-List.append_assoc,t1,t2,hl,show sa + k + (na - k + lS)=sb + lS by lia,List.take_append_drop]
   refine List.Perm.trans ?_ (List.Perm.of_eq e3.symm)
   exact(oh.append_left _).append_right _
  .rw [hg]
   split
   .rfl
   .rw [dif_neg (by lia)]
  .rw [hg,hg]
   by_cases a1:x < sa + k
   .rw [if_pos a1]
    by_cases a2:y < sa + k
    .rw [if_pos a2]; exact Ij x y x1 x2 (by lia)
    .rw [if_neg a2]
     by_cases a3:y - (sa + k) < out.toList.length
     .rw [dif_pos a3]; exact O.trans (Ef x x1 a1) (Ri _ (List.getElem_mem a3)).1
     .rw [dif_neg a3]; exact O.trans (Ef x x1 a1) (b0 y (by lia) x3)
   .rw [if_neg a1,if_neg (show¬y < sa + k by lia)]
    by_cases a2:x - (sa + k) < out.toList.length
    .rw [dif_pos a2]
     by_cases a3:y - (sa + k) < out.toList.length
     .rw [dif_pos a3]
      rcases Nat.lt_or_ge x y with z|z
      .exact(List.pairwise_iff_getElem.mp uT) _ _ a2 a3 (by lia)
      .have:x=y:=by lia
       subst this
       exact O.refl _
     .rw [dif_neg a3]; exact O.trans (Ri _ (List.getElem_mem a2)).2 (Rf y (by lia) x3)
    .rw [dif_neg a2,dif_neg (by lia)]
     exact Ik x y (by lia) x2 x3
 by_cases c3:na - k<=lS
 .rw [if_pos c3]
  exact wpS_bind (uQ L O hk hx hy (by lia) (by lia) px py first final λout aj oh uT hS=>wpS_bind (wpS_modify (wpS_bind (wpS_get (wpS_pure (Ip out aj oh uT hS))))))
 .rw [if_neg c3]
  exact wpS_bind (uR L O hk hx hy (by lia) (by lia) px py first final λout aj oh uT hS=>wpS_bind (wpS_modify (wpS_bind (wpS_get (wpS_pure (Ip out aj oh uT hS))))))
end
end bI
namespace bI
open PySem PyProof.Rows
noncomputable def oj (r:Keyed->Keyed->Bool) (xs:Array Keyed):Nat->List (Nat×Nat×Nat)->Nat->Prop
 |s,[],e=>s=e
 |s,(a,n,_)::l,e=>a=s/\1<=n/\So r xs s (s + n)/\oj r xs (s + n) l e
section
variable {r:Keyed->Keyed->Bool}{xs ys:Array Keyed}
theorem So.keep {lo hi:Nat} (h:So r xs lo hi) (e: ∀i,lo<=i->i < hi->gt ys i=gt xs i):So r ys lo hi:=λi j h1 h2 h3=>by
 rw [e i h1 (by lia),e j (by lia) h3]; exact h i j h1 h2 h3
theorem oj.snoc: ∀{s:Nat}{l:List (Nat×Nat×Nat)}{e n:Nat},oj r xs s l e->1<=n->So r xs e (e + n)->oj r xs s (l++[(e,n,p)]) (e + n)
 |s,[],e,n,h,hn,hs=>by
  have h':s=e:=h
  subst h'
  exact⟨rfl,hn,hs,rfl⟩
 |s,(a,m,q)::l,e,n,⟨h1,h2,h3,h4⟩,hn,hs=>⟨h1,h2,h3,h4.snoc hn hs⟩
theorem oj.le: ∀{s:Nat}{l:List (Nat×Nat×Nat)}{e:Nat},oj r xs s l e->s + l.length<=e
 |s,[],e,h=>Nat.le_of_eq h
 |s,(a,m,q)::l,e,⟨h1,h2,h3,h4⟩=>by have:=h4.le; rw [List.length_cons]; lia
theorem oj.keep: ∀{s:Nat}{l:List (Nat×Nat×Nat)}{e:Nat},oj r xs s l e->(∀i,s<=i->i < e->gt ys i=gt xs i)->oj r ys s l e
 |s,[],e,h,_=>h
 |s,(a,m,q)::l,e,⟨h1,h2,h3,h4⟩,k=>⟨h1,h2,h3.keep λi i1 i2=>k i i1 (by have:=h4.le; lia),h4.keep λi i1 i2=>k i (by lia) i2⟩
theorem oj.at: ∀{s:Nat}{l:List (Nat×Nat×Nat)}{e i:Nat},oj r xs s l e->i + 1 < l.length-> ∃sa na pw sb nb Gg,l[i]?=some (sa,na,pw)/\l[i + 1]?=some (sb,nb,Gg)/\sb=sa + na/\1<=na/\1<=nb/\sb + nb<=e/\s<=sa/\So r xs sa sb/\So r xs sb (sb + nb)/\
   ∀ys:Array Keyed,(∀i,i < sa\/sb + nb<=i->gt ys i=gt xs i)->So r ys sa (sb + nb)->oj r ys s ((l.set i (sa,na + nb,pw)).eraseIdx (i + 1)) e
 |s,[],e,i,h,hi=>by simp at hi
 |s,[x],e,i,h,hi=>by simp at hi
 |s,(a,n,p)::(b,m,q)::l,e,0,⟨h1,h2,h3,h4,h5,h6,h7⟩,_=>by
  subst h1
  subst h4
  refine⟨a,n,p,a + n,m,q,rfl,rfl,rfl,h2,h5,by have:=h7.le; lia,Nat.le_refl _,h3,h6,λys k ks=>?_⟩
  refine⟨rfl,by lia,by rw [<-Nat.add_assoc]; exact ks,?_⟩
  rw [<-Nat.add_assoc]
  exact h7.keep λi i1 i2=>k i (.inr i1)
 |s,(a,n,p)::y::l,e,i + 1,⟨h1,h2,h3,h4⟩,hi=>by
  refine Gz (oj.at (i:=i) h4 (by simpa using hi)) λsa na pw sb nb Gg g1 g2 g3 g4 g5 g6 g7 g8 g9 Iq=>⟨sa,na,pw,sb,nb,Gg,g1,g2,g3,g4,g5,g6,by lia,g8,g9,λys k ks=>?_⟩
  exact⟨h1,h2,h3.keep λi i1 i2=>k i (.inl (by lia)),Iq ys k ks⟩
theorem oj.power: ∀{s:Nat}{l:List (Nat×Nat×Nat)}{e i:Nat},oj r xs s l e->oj r xs s (l.modify i λx=>(x.1,x.2.1,f)) e
 |s,[],e,i,h=>by cases i <;> exact h
 |s,(a,n,p)::l,e,0,⟨h1,h2,h3,h4⟩=>⟨h1,h2,h3,h4⟩
 |s,(a,n,p)::l,e,i + 1,⟨h1,h2,h3,h4⟩=>⟨h1,h2,h3,h4.power⟩
end
section
variable {prog:Program}{w:World}{A:Around}{E:Value->Shared->Prop}{s:Shared}{κ:SortKind}{P:Keyed->Prop}{r:Keyed->Keyed->Bool}
structure vE (r:Keyed->Keyed->Bool) (κ:SortKind) (a₀:Array Keyed) (zt:SortSt) (lo:Nat):Prop where
 k:kindOf zt=κ
 a:(arrOf zt).Perm a₀
 f:failedOf zt=none
 c:oj r (arrOf zt) 0 (pendingOf zt).toList lo
theorem vE.merge {a₀:Array Keyed}{zt:SortSt}{lo i:Nat}{Q:Bool->SortSt->Prop} (L:jS prog w A E s κ P r) (O:Ord r) (hp: ∀x∈a₀,P x) (h:vE r κ a₀ zt lo) (DN:lo<=a₀.size) (hi:i + 1 < (pendingOf zt).size) (q: ∀aj,vE r κ a₀ aj lo->(pendingOf aj).size + 1=(pendingOf zt).size ->(∀j,lo<=j->gt (arrOf aj) j=gt (arrOf zt) j)->Q true aj):wpS (model prog w) A E s (mergeAt' i) Q zt:=by
 refine Gz (h.c.at (i:=i) (by rw [Array.length_toList]; exact hi)) λsa na pw sb nb Gg g1 g2 g3 g4 g5 g6 g7 g8 g9 Iq=>?_
 rw [Array.getElem?_toList] at g1 g2
 refine uS L O h.k (λx hx=>hp x (h.a.mem_iff.mp hx)) h.f g1 g2 g3 g4 g5 (by rw [h.a.size_eq]; lia) g8 g9 λaj k1 k2 k3 k4 k5 k6=>q aj ⟨k1,k2.trans h.a,k3,?_⟩ ?_ (λj hj=>k5 j (.inr (by lia)))
 .rw [k4,Array.toList_eraseIdxIfInBounds,Array.toList_setIfInBounds]
  exact Iq _ k5 k6
 .rw [k4,<-Array.length_toList,Array.toList_eraseIdxIfInBounds,Array.toList_setIfInBounds,List.length_eraseIdx_of_lt (by rw [List.length_set,Array.length_toList]; exact hi),List.length_set,Array.length_toList]
  lia
theorem Eg {α:Type}{x:SM α}{zt:SortSt}{Q:α->SortSt->Prop}{T:Nat->SortSt->Prop} (C:Nat->SortSt->Prop) (main:(∀n s',C n s'->T n s')->wpS (model prog w) A E s x Q zt) (h: ∀n s',C n s'->T n s'):wpS (model prog w) A E s x Q zt:=main h
theorem rD {a₀:Array Keyed}{zt:SortSt}{Q:Unit->SortSt->Prop} (L:jS prog w A E s κ P r) (O:Ord r) (hp: ∀x∈a₀,P x) (h:vE r κ a₀ zt 0) (q: ∀aj,(arrOf aj).Perm a₀->failedOf aj=none->So r (arrOf aj) 0 a₀.size->Q () aj):wpS (model prog w) A E s sortRuns' Q zt:=by
 rw [sortRuns'_eq]
 refine wpS_bind (wpS_get ?_)
 dsimp only
 have hz:(arrOf zt).size =a₀.size:=h.a.size_eq
 rw [hz]
 refine wpS_bind (wpS_mono (wpS_forRange (I:=λi c aj=> ∃lo,c=(none,lo)/\vE r κ a₀ aj lo/\lo<=a₀.size/\i<=lo) (Q:=λc aj=> ∃lo,c=(none,lo)/\vE r κ a₀ aj lo/\lo=a₀.size) ?step ?fin ⟨0,rfl,h,Nat.zero_le _,Nat.le_refl _⟩) ?post)
 case fin=>
  rintro c fj ⟨lo,rfl,g0,DN,Tx⟩
  exact⟨lo,rfl,g0,by lia⟩
 case step=>
  rintro i c fj _ _ ⟨lo,rfl,g0,DN,Tx⟩
  dsimp only
  by_cases Rj:lo ≥ a₀.size
  .rw [if_pos Rj]
   exact wpS_pure ⟨lo,rfl,g0,by lia⟩
  rw [if_neg Rj]
  have Gd:(arrOf fj).size =a₀.size:=g0.a.size_eq
  refine wpS_bind (rC L O g0.k (λx hx=>hp x (g0.a.mem_iff.mp hx)) (by lia) (by lia) λn cv Ed Ho a1 Gh=>?_)
  have g1:vE r κ a₀ cv lo:=⟨a1.a.k.trans g0.k,a1.a.a.trans g0.a,a1.a.f.trans g0.f,by rw [a1.a.p]; exact g0.c.keep λj _ hj=>a1.o j (.inl hj)⟩
  dsimp only
  apply Eg (λn s'=>vE r κ a₀ s' lo/\1<=n/\lo + n<=a₀.size/\So r (arrOf s') lo (lo + n))
  .intro shared
   by_cases Rk:n < minRun' a₀.size a₀.size 0
   rotate_left
   .rw [if_neg Rk]
    apply shared n cv ⟨g1,Ed,by lia,Gh⟩
   .rw [if_pos Rk]
    refine wpS_bind (wpS_lift (wpAny_rule ⟨rfl,?_⟩))
    have Mp:(arrOf cv).size =a₀.size:=g1.a.size_eq
    refine wpS_bind (n_ L O g1.k (λx hx=>hp x (g1.a.mem_iff.mp hx)) (by lia) (by lia) Gh λkn a3 Eh=>?_)
    rw [if_neg (by decide)]
    exact shared _ kn ⟨⟨a3.a.k.trans g1.k,a3.a.a.trans g1.a,a3.a.f.trans g1.f,by rw [a3.a.p]; exact g1.c.keep λj _ hj=>a3.o j (.inl hj)⟩,by lia,by lia,Eh⟩
  clear Ed Ho a1 Gh g1
  rintro n cv ⟨g1,Ed,Ho,Gh⟩
  refine wpS_bind (wpS_get ?_)
  cases hb:(pendingOf cv).back? with
  |none=>exact wpS_bind (wpS_modify (wpS_pure ⟨_,rfl,⟨g1.k,g1.a,g1.f,by
    show oj r (arrOf cv) 0 ((pendingOf cv).push _).toList _
    rw [Array.toList_push]
    exact g1.c.snoc Ed Gh⟩,by lia,by lia⟩))
  |some x=>
   obtain⟨s1,n1,p1⟩:=x
   dsimp only
   refine wpS_bind (wpS_mono (wpS_forRange (I:=λ_ c aj=>c=(none,())/\vE r κ a₀ aj lo/\So r (arrOf aj) lo (lo + n)) (Q:=λc aj=>c=(none,())/\vE r κ a₀ aj lo/\So r (arrOf aj) lo (lo + n)) ?_ (λ_ _ z=>z) ⟨rfl,g1,Gh⟩) ?_)
   .rintro _ c kn _ _ ⟨rfl,g3,Eh⟩
    refine wpS_bind (wpS_get ?_)
    by_cases hs:(pendingOf kn).size > 1
    .rw [if_pos hs]
     have bZ:(pendingOf kn).size - 2 < (pendingOf kn).size :=by lia
     rw [Array.getElem?_eq_getElem bZ]
     dsimp only
     split
     .exact wpS_pure ⟨rfl,g3,Eh⟩
     .refine wpS_bind (g3.merge L O hp (by lia) (by lia) λKC g4 _ k4=>?_)
      exact wpS_pure ⟨rfl,g4,Eh.keep λj j1 _=>k4 j j1⟩
    .rw [if_neg hs]
     exact wpS_pure ⟨rfl,g3,Eh⟩
   .rintro c kn ⟨rfl,g3,Eh⟩
    exact wpS_bind (wpS_modify (wpS_bind (wpS_modify (wpS_pure ⟨_,rfl,⟨g3.k,g3.a,g3.f,by
     show oj r (arrOf kn) 0 (((pendingOf kn).modify _ _).push _).toList _
     rw [Array.toList_push,Array.toList_modify]
     exact(g3.c.power).snoc Ed Eh⟩,by lia,by lia⟩))))
 case post=>
  rintro c fj ⟨lo,rfl,g0,DN⟩
  dsimp only
  refine wpS_bind (wpS_mono (wpS_forRange (I:=λi c aj=>c=(none,())/\vE r κ a₀ aj lo/\((pendingOf aj).size <=1\/(pendingOf aj).size + i<=lo)) (Q:=λc aj=>c=(none,())/\vE r κ a₀ aj lo/\(pendingOf aj).size <=1) ?_ ?_ ⟨rfl,g0,.inr ?_⟩) ?_)
  .rintro j c kn _ _ ⟨rfl,g3,MK⟩
   refine wpS_bind (wpS_get ?_)
   by_cases hs:(pendingOf kn).size <=1
   .rw [if_pos hs]
    exact wpS_pure ⟨rfl,g3,hs⟩
   .rw [if_neg hs]
    refine wpS_bind (g3.merge L O hp (by lia) (HH (by lia) (by lia)) λKC g4 k4 _=>?_)
    exact wpS_pure ⟨rfl,g4,.inr (by lia)⟩
  .rintro c kn ⟨hc,g3,MK⟩
   exact⟨hc,g3,by lia⟩
  .have:=g0.c.le
   rw [Array.length_toList] at this
   lia
  .rintro c kn ⟨rfl,g3,hs⟩
   refine wpS_pure (q kn g3.a g3.f ?_)
   have hc:=g3.c
   have hl:(pendingOf kn).toList.length <=1:=by rw [Array.length_toList]; exact hs
   cases Ga:(pendingOf kn).toList with
   |nil=>
    rw [Ga] at hc
    have:0=lo:=hc
    intro x y _ _ h3
    lia
   |cons x l=>
    rw [Ga] at hc hl
    cases l with
    |cons _ _=>simp at hl
    |nil=>
     obtain⟨a,n,p⟩:=x
     refine yR hc λc1 c2 c3 c4=>?_
     have Tz:0 + n=lo:=c4
     rw [<-DN,<-Tz]
     exact c3
end
end bI
namespace bI
open PySem PyProof.Rows PySem.W
theorem fL: ∀u v:List Int,bh u v=true->bh v u=false
 |[],[],h=>by cases h
 |[],_::_,_=>rfl
 |_::_,[],h=>by cases h
 |n::u,m::v,h=>by
  unfold bh at h ⊢
  by_cases e:n=m
  .rw [if_pos e] at h
   rw [if_pos e.symm]
   exact fL u v h
  .rw [if_neg e] at h
   rw [if_neg λz=>e z.symm]
   have:=of_decide_eq_true h
   exact decide_eq_false (by omega)
theorem iA: ∀u v w:List Int,bh v u=false->bh w v=false->bh w u=false
 |[],_,[],_,_=>rfl
 |[],_,_::_,_,_=>rfl
 |_::_,[],_,h,_=>by cases h
 |_::_,_::_,[],_,h=>by cases h
 |n::u,m::v,k::w,h1,h2=>by
  unfold bh at h1 h2 ⊢
  by_cases e1:m=n
  .rw [if_pos e1] at h1
   by_cases e2:k=m
   .rw [if_pos e2] at h2
    rw [if_pos (e2.trans e1)]
    exact iA u v w h1 h2
   .rw [if_neg e2] at h2
    rw [if_neg (λz=>e2 (z.trans e1.symm)),<-e1]
    exact h2
  .rw [if_neg e1] at h1
   have g1:=of_decide_eq_false h1
   by_cases e2:k=m
   .rw [if_neg (λz=>e1 (e2.symm.trans z))]
    exact decide_eq_false (by omega)
   .rw [if_neg e2] at h2
    have g2:=of_decide_eq_false h2
    rw [if_neg (by omega)]
    exact decide_eq_false (by omega)
theorem jg: ∀u v:List Int,bh u v=false->bh v u=false->u=v
 |[],[],_,_=>rfl
 |[],_::_,h,_=>by cases h
 |_::_,[],_,h=>by cases h
 |n::u,m::v,h1,h2=>by
  unfold bh at h1 h2
  by_cases e:n=m
  .rw [if_pos e] at h1
   rw [if_pos e.symm] at h2
   rw [e,jg u v h1 h2]
  .rw [if_neg e] at h1
   rw [if_neg λz=>e z.symm] at h2
   have:=of_decide_eq_false h1
   have:=of_decide_eq_false h2
   omega
theorem wW: ∀{l:List α},l.length<=1->l.Pairwise R
 |[],_=> .nil
 |[_],_=>List.pairwise_singleton _ _
 |_::_::_,h=>absurd h (by simp)
noncomputable def TupIs (h:Heap) (v:Value) (ns:List Int):Prop:= ∃(x:Addr) (o:Obj) (xs:List Value) (n:Nat),v= .ref x/\h.get? x=some o/\o.cls= .type "tuple"/\o.data= .seq xs.toArray n/\IntsAre xs ns
theorem wX: ∀{xs:List Value}{ns ms:List Int},IntsAre xs ns->IntsAre xs ms->ns=ms:=λ{xs ns ms} h=>by
 induction h generalizing ms with
 |nil=>intro h; cases h; rfl
 |cons n t r ih=>intro h; cases h with|cons m u r'=>rw [ih r']
theorem TupIs.one (h1:TupIs h v ns) (h2:TupIs h v ms):ns=ms:=by
 refine qK h1 λx o xs n af a1 _ a3 a4=>?_
 try clear h1
 subst af
 refine qK h2 λy o' ys n' e b1 _ b3 b4=>?_
 cases e
 rw [a1] at b1
 cases b1
 rw [a3] at b3
 injection b3 with b5 _
 have:xs=ys:=by simpa using b5
 subst this
 exact wX a4 b4
noncomputable def bH (h:Heap) (v:Value):List Int:=Classical.epsilon λns=>TupIs h v ns
theorem cy (e:TupIs h v ns):bH h v=ns:=(Classical.epsilon_spec (p:=λns=>TupIs h v ns) ⟨ns,e⟩).one e
theorem jd.is (e:jd h v): ∃ns,TupIs h v ns:=by
 exact FW e λx o xs n i r h1 h2 h3 h4 h5=>⟨i::r,x,o,xs,n,h1,h2,h3,h4,h5⟩
noncomputable def rT (h:Heap) (x y:Keyed):Bool:=bh (bH h x.1) (bH h y.1)
theorem Ei (h:Heap):Ord (rT h):=⟨λx y=>fL _ _,λx y z=>iA _ _ _⟩
section
variable {prog:Program}{w:World}{A:Around}{E:Value->Shared->Prop}{s:Shared}
theorem Ir: ∀{xs ys:List Value}{ns ms:List Int},IntsAre xs ns->IntsAre ys ms->fin=decide (xs.length < ys.length)->Q (bh ns ms) s-> ∀i:Nat,(b=true\/0 < i)->KatLex prog w A b fin Q (xs.zip ys) i s:=λ{xs ys ns ms} h=>by
 induction h generalizing ys ms with
 |nil=>
  intro h' hf q i _
  refine kat_nil ?_
  subst hf
  cases h' with
  |nil=>exact q
  |cons _ _ _=>simpa [bh] using q
 |cons n t r ih=>
  intro h' hf q i hi
  cases h' with
  |nil=>exact kat_nil (by rw [hf]; simpa [bh] using q)
  |cons m u r'=>
   refine kat_cons (wpAny_eqBool_int ?_)
   cases e:(n == m) with
   |true=>
    have e':n=m:=by simpa using e
    unfold bh at q
    rw [if_pos e'] at q
    exact kat_yes (ih r' (by rw [hf]; simp) q (i + 1) (.inr (Nat.succ_pos _)))
   |false=>
    have e': ¬n=m:=by simpa using e
    unfold bh at q
    rw [if_neg e'] at q
    refine kat_no ?_
    by_cases h0:i=0
    .subst h0
     have hb:b=true:=hi.elim id λz=>absurd z (Nat.lt_irrefl _)
     subst hb
     exact oneLt_int q
    .have e:(b && i == 0)=false:=by cases b <;> simp [h0]
     rw [e]
     exact kat_one _ _ (PyProof.Rows.lt_int q)
theorem Aj:jS prog w A E s (tuples' true) (λp=>jd s.heap p.1) (rT s.heap):=λx y zt Q hx hy hk q=>by
 obtain⟨x1,x2⟩:=x
 obtain⟨y1,y2⟩:=y
 refine FW hx λa o xs n i r af h1 h2 h3 h4=>?_
 try clear hx
 subst af
 refine FW hy λb o' ys n' j r' aO g1 g2 g3 g4=>?_
 try clear hy
 subst aO
 have q':Q (some (bh (i::r) (j::r'))) zt:=by
  have e1:bH s.heap (.ref a)=i::r:=cy ⟨a,o,xs,n,rfl,h1,h2,h3,h4⟩
  have e2:bH s.heap (.ref b)=j::r':=cy ⟨b,o',ys,n',rfl,g1,g2,g3,g4⟩
  have:=q
  unfold rT at this
  dsimp only at this
  rwa [e1,e2] at this
 rw [lt'_eq]
 refine wpS_bind (wpS_get ?_)
 rw [hk]
 refine wpS_bind (wpS_lift (wpAny_attempt (kat_lt (b:=true) h1 h3 g1 g3 ?_)))
 have e1:xs.toArray.toList=xs:=by simp
 have e2:ys.toArray.toList=ys:=by simp
 rw [e1,e2]
 exact Ir h4 g4 (by simp) ⟨rfl,wpS_pure q'⟩ 0 (.inl rfl)
theorem sN (ho:s.heap.get? a=some (seqObj "list" vs.toArray n)) (hv: ∀v∈vs,jd s.heap v) (hz:vs.length<=sizeLine)
  (h: ∀out:List Value,out.Perm vs->out.Pairwise (λx y=>bh (bH s.heap y) (bH s.heap x)=false)->R (.done (.ret .none)) {s with heap:=sortedHeap s.heap a vs out.toArray}):wpAny (model prog w) A (Builtin.«list.sort» ⟨[.ref a],[]⟩) R E s:=by
 rw [list_sort_plain]
 have bZ:a < s.heap.objs.size:=Heap.lt_size ho
 have fX: ∀v∈vs,∀x,v= .ref x->x≠a:=λv m x e z=>by
  refine ao λnO=>?_
  obtain⟨x',o,xs,k,i,r,e',g1,g2,_⟩:=hv v m
  rw [e] at e'
  cases e'
  rw [z,ho] at g1
  cases g1
  refine nO ?_
  have TB:Value.type "list"=Value.type "tuple":=g2
  injection TB with g3
  exact absurd g3 (by decide)
 refine wpAny_bind (listItems_at ho rfl (wpAny_bind (listUpdate_at ho rfl ?_ (by rw [List.size_toArray]; omega) (Nat.zero_le _))))
 obtain⟨e1,KQ⟩: ∃e1,(s.heap.update a (Obj.mapSeq λ_=>#[])).get? a=some (seqObj "list" #[] e1):=⟨_,get?_update_seq ho (λ_=>#[])⟩
 refine wpAny_bind (seqEpoch_at KQ rfl (wpAny_bind (wpAny_newTuple (wpAny_bind (wpAny_newList (wpAny_holding ?_) (Nat.zero_le _))) (by show vs.length<=_; omega))))
 have up: ∀b o,b≠a->s.heap.get? b=some o->(((s.heap.update a (Obj.mapSeq λ_=>#[])).push (seqObj "tuple" vs.toArray 0)).push (seqObj "list" #[] 0)).get? b=some o:=λb o hb e=>
  Heap.get?_push_of_some _ (Heap.get?_push_of_some _ (by rw [Heap.get?_update_other _ _ (Ne.symm hb)]; exact e))
 have MN:(((s.heap.update a (Obj.mapSeq λ_=>#[])).push (seqObj "tuple" vs.toArray 0)).push (seqObj "list" #[] 0)).get? a=some (seqObj "list" #[] e1):=Heap.get?_push_of_some _ (Heap.get?_push_of_some _ KQ)
 show wpAny (model prog w) A _ R E {s with heap:=((s.heap.update a (Obj.mapSeq λ_=>#[])).push (seqObj "tuple" vs.toArray 0)).push (seqObj "list" #[] 0)}
 generalize hh:((s.heap.update a (Obj.mapSeq λ_=>#[])).push (seqObj "tuple" vs.toArray 0)).push (seqObj "list" #[] 0)=h6 at up MN ⊢
 have Rl: ∀v∈vs,jd h6 v:=λv m=>by
  refine ao λnO=>?_
  obtain⟨x,o,xs,k,i,r,e',g1,g2,g3,g4⟩:=hv v m
  exact nO <| ⟨x,o,xs,k,i,r,e',up x o (fX v m x e') g1,g2,g3,g4⟩
 have same: ∀v∈vs,bH h6 v=bH s.heap v:=λv m=>by
  refine ao λnO=>?_
  obtain⟨ns,x,o,xs,k,e',g1,g2,g3,g4⟩:=(hv v m).is
  refine nO ?_
  rw [cy (h:=s.heap) ⟨x,o,xs,k,e',g1,g2,g3,g4⟩]
  exact cy ⟨x,o,xs,k,e',up x o (fX v m x e') g1,g2,g3,g4⟩
 dsimp only
 have ends: ∀(zt:SortSt) (out:List Value),(arrOf zt).map (·.2)=out.toArray->out.Perm vs->out.Pairwise (λx y=>bh (bH s.heap y) (bH s.heap x)=false)->failedOf zt=none->wpAny (model prog w) A (do
   let touched:=(<-seqEpoch a) !=e1
   Builtin.List.listUpdate (.ref a) λ_=>(arrOf zt).map (·.2)
   if let some e:=failedOf zt then rule "list.sort.comparison-raised"; throw e
   if touched then rule "list.sort.modified"; raiseError "ValueError" "list modified during sort"
   ret .none) R E {s with heap:=h6}:=λzt out e hp uT hf=>by
  rw [e,hf]
  refine wpAny_bind (seqEpoch_at MN rfl (wpAny_bind (listUpdate_at MN rfl ?_ (Nat.zero_le _) (by rw [List.size_toArray,hp.length_eq]; omega))))
  simp only [bne_self_eq_false,Bool.false_eq_true,if_false]
  have:=h out hp uT
  unfold sortedHeap at this
  rw [hh] at this
  exact wpAny_pure this
 by_cases h2:vs.toArray.size < 2
 .rw [if_pos h2,if_pos h2]
  refine wpAny_bind (wpAny_pure ?_)
  rw [StateT.run_pure]
  refine wpAny_bind (wpAny_pure ?_)
  exact ends (SortSt.mk' general' (vs.toArray.zip vs.toArray) #[] 7 none) vs (pX vs) (List.Perm.refl _) (wW (by rw [List.size_toArray] at h2; omega)) rfl
 .rw [if_neg h2,if_neg h2]
  refine ao λnO=>?_
  obtain⟨fs,k1,k2,k3⟩:=jH Rl
  refine nO ?_
  have TC:2<=vs.length:=by rw [List.size_toArray] at h2; omega
  refine wpAny_bind (kat_kind (s:={s with heap:=h6}) (T:= .type "int") k1 (by omega) (λv m=>?_) rfl ?_)
  .obtain⟨i,t,rfl⟩:=k2 v m
   exact Looks.now
  have zm: ∀p∈vs.toArray.zip vs.toArray,p.1=p.2/\p.2∈vs:=λp m=>by
   obtain⟨i,hi,e⟩:=Array.mem_iff_getElem.mp m
   rw [Array.getElem_zip] at e
   rw [<-e]
   exact⟨rfl,by simp⟩
  refine wpAny_bind (wpAny_mono (rD (s:={s with heap:=h6}) (κ:=tuples' true) (P:=λp=>jd h6 p.1) (r:=rT h6) (a₀:=vs.toArray.zip vs.toArray) (Q:=λ_ zt=>(arrOf zt).Perm (vs.toArray.zip vs.toArray)/\failedOf zt=none/\So (rT h6) (arrOf zt) 0 (vs.toArray.zip vs.toArray).size) Aj (Ei h6) (λp m=>by rw [(zm p m).1]; exact Rl _ (zm p m).2) ⟨rfl,Array.Perm.refl _,rfl,rfl⟩ λzt g1 g2 g3=>⟨g1,g2,g3⟩) ?_ λ_ _ e=>e)
  rintro⟨⟨⟩,zt⟩ s' ⟨rfl,g1,g2,g3⟩
  dsimp only at g1 g2 g3 ⊢
  refine ends zt ((arrOf zt).map (·.2)).toList Array.toArray_toList.symm ?_ ?_ g2
  .have:=(Array.perm_iff_toList_perm.mp g1).map (λp:Keyed=>p.2)
   rw [Array.toList_map]
   refine this.trans (List.Perm.of_eq ?_)
   have e:=congrArg Array.toList (pX vs)
   rw [Array.toList_map] at e
   exact e
  .have hsz:(arrOf zt).size =(vs.toArray.zip vs.toArray).size :=g1.size_eq
   have pw:=p6 (xs:=arrOf zt) (lo:=0) (n:=(vs.toArray.zip vs.toArray).size) (by rw [Nat.zero_add]; exact g3) (by omega)
   have e0:sg (arrOf zt) 0 (vs.toArray.zip vs.toArray).size =(arrOf zt).toList :=by
    unfold sg
    rw [List.drop_zero]
    exact List.take_of_length_le (by rw [Array.length_toList,hsz]; exact Nat.le_refl _)
   rw [e0] at pw
   rw [Array.toList_map,List.pairwise_map]
   refine pw.imp_of_mem λ{x y} mx my uU=>?_
   obtain⟨x1,x2⟩:=zm x (g1.mem_iff.mp (Array.mem_toList_iff.mp mx))
   obtain⟨y1,y2⟩:=zm y (g1.mem_iff.mp (Array.mem_toList_iff.mp my))
   have:=uU
   unfold le rT at this
   rw [x1,y1,same _ x2,same _ y2] at this
   exact this
end
end bI
namespace bI
open PySem PyProof.Rows PySem.W
noncomputable abbrev Iu (x y:List Int):Prop:=bh y x=false
theorem jh (x:List Int): ∀l,(uF x l).Perm (x::l)
 |[]=> .refl _
 |y::r=>by
  unfold uF
  split
  .exact((jh x r).cons y).trans (.swap x y r)
  .exact .refl _
theorem dz: ∀l,(aK l).Perm l
 |[]=> .refl _
 |x::r=>(jh x (aK r)).trans ((dz r).cons x)
theorem sO (x:List Int): ∀l:List (List Int),l.Pairwise Iu->(uF x l).Pairwise Iu
 |[],_=>List.pairwise_singleton _ _
 |y::r,h=>by
  unfold uF
  rw [List.pairwise_cons] at h
  split
  .rename_i Ha
   refine List.pairwise_cons.mpr ⟨λz hz=>?_,sO x r h.2⟩
   rcases List.mem_cons.mp ((jh x r).mem_iff.mp hz) with e|hz
   .rw [e]; exact fL _ _ Ha
   .exact h.1 z hz
  .rename_i Ha
   have Iv:bh y x=false:=by simpa using Ha
   refine List.pairwise_cons.mpr ⟨λz hz=>?_,List.pairwise_cons.mpr h⟩
   rcases List.mem_cons.mp hz with e|hz
   .rw [e]; exact Iv
   .exact iA x y z Iv (h.1 z hz)
theorem kJ: ∀l,(aK l).Pairwise Iu
 |[]=> .nil
 |x::r=>sO x _ (kJ r)
theorem kK (hp:l.Perm m) (hs:l.Pairwise Iu):l=aK m:=
 (hp.trans (dz m).symm).eq_of_pairwise (λa b _ _ h1 h2=>jg a b h2 h1) hs (kJ m)
theorem rE (hp:l.Perm m):aK l=aK m:=kK ((dz l).trans hp) (kJ l)
end bI
namespace L2
open PySem PySem.Spec PyProof.Rows PySem.W bI
section
variable {prog:Program}{w:World}{A:Around}{E:Value->Shared->Prop}{s:Shared}{d it:Addr}{es:Array DictEntry}{ep i:Nat}
theorem iB (hv:jd h v) (k: ∀b o,h.get? b=some o->h'.get? b=some o):bH h' v=bH h v:=by
 refine Km hv.is λns x o xs n e g1 g2 g3 g4=>?_
 rw [cy (h:=h) ⟨x,o,xs,n,e,g1,g2,g3,g4⟩]
 exact cy ⟨x,o,xs,n,e,k x o g1,g2,g3,g4⟩
theorem om (hh:A.handled=none) (lo:(d == sysModules)=false) (r:fB s.heap d es ep) (hz:es.size<=sizeLine) (hk: ∀e∈es,bI.jd s.heap e.key)
  (h: ∀(h1 h':Heap) (tk c:Nat) (vs:List Value),(∀b o,s.heap.get? b=some o->h1.get? b=some o)->(∀b o,h1.get? b=some o->h'.get? b=some o)->h'.get? h1.objs.size=some {cls:= .type "list",data:= .seq vs.toArray c}->vs.Perm (es.toList.map (·.key))->vs.Pairwise (λx y=>bh (bH s.heap y) (bH s.heap x)=false)->Q (.ref h1.objs.size) {s with heap:=h',toks:=tk}):
  wpAny (model prog w) A (call (.builtin "sorted") [.ref d]) Q E s:=by
 refine Calls.call_function_entry kind_sorted plain_sorted entry_sorted (args_sorted1 _) ?_
 unfold Builtin.«sorted»
 refine wpAny_bind (m:=checkCount "sorted" 1 1 _) (wpAny_pure (wpAny_bind (kdu_collect (A:=A.in1) (sJ lo) hh r hz λh1 tk acc k1 it=>?_)))
 have hl:acc.toList.length=es.size:=by rw [Array.length_toList]; exact it.1
 have eq:acc.toList=es.toList.map (·.key):=by
  apply List.ext_getElem?
  intro j
  rcases Nat.lt_or_ge j es.size with z|z
  .have hj:j < acc.toList.length:=by lia
   refine ae (it.2 j acc.toList[j] (by rw [<-Array.getElem?_toList]; exact List.getElem?_eq_getElem hj)) λe e1 e2=>?_
   rw [List.getElem?_eq_getElem hj,List.getElem?_map,Array.getElem?_toList,e1,e2]
   rfl
  .rw [List.getElem?_eq_none (by lia),List.getElem?_eq_none (by simpa using z)]
 have hm: ∀v∈acc.toList,∃e∈es,v=e.key:=λv m=>by
  rw [eq] at m
  exact ae (List.mem_map.mp m) λe e1 e2=>⟨e,Array.mem_toList_iff.mp e1,e2.symm⟩
 have ht: ∀v∈acc.toList,jd s.heap v:=λv m=>by
  refine ae (hm v m) λe e1 af=>?_
  subst af
  exact hk e e1
 have kp: ∀b o,s.heap.get? b=some o->(h1.push (seqObj "list" acc.toList.toArray 0)).get? b=some o:=λb o e=>Heap.get?_push_of_some _ (k1 b o e)
 refine wpAny_bind (wpAny_newList ?_ (by rw [hl]; exact hz))
 have ho:(h1.push (seqObj "list" acc.toList.toArray 0)).get? h1.objs.size=some (seqObj "list" acc.toList.toArray 0):=Heap.get?_push_size _ rfl
 refine wpAny_bind (wpAny_holding (wpAny_call_entry slot_list_sort ⟨_,ho,rfl⟩ entry_list_sort (bI.sN (s:={s with heap:=h1.push (seqObj "list" acc.toList.toArray 0),toks:=tk}) ho (λv m=>?_) (by rw [hl]; exact hz) λout hp uT=>⟨_,rfl,wpAny_pure ⟨_,rfl,?_⟩⟩) (args_list_sort _)))
 .exact FW (ht v m) λx o xs n i rr g0 g1 g2 g3 g4=>⟨x,o,xs,n,i,rr,g0,kp x o g1,g2,g3,g4⟩
 .have u1:=get?_update_seq ho (λ_=>#[])
  have u2:=Heap.get?_push_of_some (seqObj "tuple" acc.toList.toArray 0) u1
  have u3:=Heap.get?_push_of_some (seqObj "list" #[] 0) u2
  have u4:=get?_update_seq u3 (λ_=>out.toArray)
  refine h h1 _ tk _ out k1 (λb o e=>?_) u4 (by rw [<-eq]; exact hp) (uT.imp_of_mem λ{x y} mx my uU=>?_)
  .have hb:b≠h1.objs.size:=Nat.ne_of_lt (Heap.lt_size e)
   unfold sortedHeap
   rw [Heap.get?_update_other _ _ (Ne.symm hb)]
   refine Heap.get?_push_of_some _ (Heap.get?_push_of_some _ ?_)
   rw [Heap.get?_update_other _ _ (Ne.symm hb)]
   exact Heap.get?_push_of_some _ e
  .have e1:=iB (ht x (hp.mem_iff.mp mx)) kp
   have e2:=iB (ht y (hp.mem_iff.mp my)) kp
   rw [<-e1,<-e2]
   exact uU
end
theorem Ak (I:Inv X U σ H s) (e:Rd H a (.dT aw)): ∃es ep,fB s.heap a es ep/\es.size=aw.length/\(a == sysModules)=false/\aw.length<=sizeLine/\
  Paired (λ(kv:List cB×V) (v:Value)=> ∃b,v= .ref b/\H b=some (.tup (kv.1.map kV))) aw (es.toList.map (·.key)):=by
 refine ao λnO=>?_
 obtain⟨z,lo,xs,ed,o,es,ep,h1,h2,h3,h4,h5,h6⟩:=kG I.aN e
 refine nO ?_
 have hl:es.size=aw.length:=by
  have e1:=Paired.length ed
  have e2:=congrArg List.length h4
  rw [Array.length_toList,List.length_map] at e2
  lia
 refine⟨es,ep,⟨o,h1,h2,h3⟩,hl,lo,z,?_⟩
 rw [h4,List.map_map]
 have all: ∀{l:List (List cB×V)}{m:List (List cB×Addr×Value)},KT H l m->Paired (λ(kv:List cB×V) (v:Value)=> ∃b,v= .ref b/\H b=some (.tup (kv.1.map kV))) l (m.map ((λx:DictEntry=>x.key) ∘ entryOfKey (tupleKind (aU X.prog X.w)))):=by
  intro l m q
  induction q with
  |nil=>exact .nil
  |@cons p q ps qs hq t ih=>exact .cons ⟨q.2.1,rfl,hq.2.1⟩ ih
 exact all ed
end L2
namespace L2
open PySem PySem.Spec PyProof.Rows PySem.W bI
section
variable {X:Cx}
theorem cO (I:Inv X U σ H s) (h:H b=some (.tup (k.map V.int))):TupIs s.heap (.ref b) k:=by
 obtain⟨_,its,rv,o,g1,g2,⟨n,g3⟩,_⟩:=(show aP X.prog X.w H s.heap b (.tup (k.map V.int)) from I.aN b _ h)
 exact⟨b,o,its,n,rfl,g1,g2,g3,intsAre_of rv⟩
theorem sP (e:TupIs h v k) (hk:k≠[]):jd h v:=by
 refine qK e λx o xs n h1 h2 h3 h4 h5=>?_
 cases k with
 |nil=>exact absurd rfl hk
 |cons i r=>exact⟨x,o,xs,n,i,r,h1,h2,h3,h4,h5⟩
noncomputable def TupAt (H:Hp) (u:V) (k:List Int):Prop:= ∃b,u= .ref b/\H b=some (.tup (k.map V.int))
theorem oq (I:Inv X U σ H s): ∀{vs:List Value},(∀v∈vs,∃b k,v= .ref b/\H b=some (.tup (List.map V.int k)))-> ∃us:List V,aA us vs/\us.length=vs.length/\Paired (TupAt H) us (vs.map (bH s.heap))
 |[],_=>⟨[],.nil,rfl,.nil⟩
 |v::vs,h=>by
  refine bA (oq I (vs:=vs) λz hz=>h z (List.mem_cons_of_mem _ hz)) λus u1 u2 u3=>gu (h v List.mem_cons_self) λb k af hb=>?_
  subst af
  refine⟨.ref b::us,.cons rfl u1,by rw [List.length_cons,List.length_cons,u2],?_⟩
  rw [List.map_cons,cy (cO I hb)]
  exact .cons ⟨b,rfl,hb⟩ u3
theorem ot (hc:X.calm=true):cN X (.builtin "sorted") (λxs H Q=> ∃a aw ks,xs=[V.ref a]/\Rd H a (.dT aw)/\aw.map (·.1)=ks.map (λk:List Int=>k.map (Sum.inl:Int->cB))/\(∀k∈ks,k≠[])/\
  ∀(l:Addr) (us:List V),H l=none->Paired (TupAt H) us (aK ks)->Q (.ref l) (upd H l (.lst us))):=by
 intro U s σ H xs us Q I r zz
 refine qJ zz λa aw ks e hd Ec fX q=>?_
 subst e
 refine ae (vals1 r) λu af ru=>?_
 subst af
 cases ru
 refine jM (Ak I hd) λes ep r1 r2 r3 r4 r5=>?_
 have pk: ∀{aw:List (List cB×V)}{ks:List (List Int)}{vs:List Value},aw.map (·.1)=ks.map (λk:List Int=>k.map (Sum.inl:Int->cB))->Paired (λ(kv:List cB×V) (v:Value)=> ∃b,v= .ref b/\H b=some (.tup (kv.1.map kV))) aw vs->vs.map (bH s.heap)=ks/\ ∀v∈vs,∃b,∃k∈ks,v= .ref b/\H b=some (.tup (List.map V.int k)):=by
  intro aw ks vs hk p
  induction p generalizing ks with
  |nil=>
   cases ks with
   |nil=>exact⟨rfl,λ_ z=>nomatch z⟩
   |cons _ _=>cases hk
  |@cons kv v aw vs hq _ ih=>
   cases ks with
   |nil=>cases hk
   |cons k ks=>
    rw [List.map_cons,List.map_cons] at hk
    injection hk with h1 h2
    obtain⟨i1,i2⟩:=ih h2
    refine ae hq λb aO hb=>?_
    try clear hq
    subst aO
    rw [h1,List.map_map] at hb
    have i8:H b=some (.tup (List.map V.int k)):=hb
    refine⟨by rw [List.map_cons,i1,cy (cO I i8)],λw hw=>?_⟩
    rcases List.mem_cons.mp hw with e|hw
    .exact⟨b,k,List.mem_cons_self,e,i8⟩
    .exact ba (i2 w hw) λb2 k2 m2 e2 g2=>⟨b2,k2,List.mem_cons_of_mem _ m2,e2,g2⟩
 obtain⟨p1,p2⟩:=pk Ec r5
 have hI: ∀v∈es.toList.map (·.key),jd s.heap v:=λv m=>by
  refine ba (p2 v m) λb k mk eN hb=>?_
  subst eN
  exact sP (cO I hb) (fX k mk)
 refine om (I.ok.hd hc) r3 r1 (by rw [r2]; exact r4) (λen TF=>hI _ (List.mem_map.mpr ⟨en,Array.mem_toList_iff.mpr TF,rfl⟩)) λh1 h' tk c vs k1 k2 e1 e2 e3=>?_
 have wY:(vs.map (bH s.heap)).Perm ks:=by
  have:=e2.map (bH s.heap)
  rwa [p1] at this
 have Ej:vs.map (bH s.heap)=aK ks:=kK wY (List.pairwise_map.mpr e3)
 have I1:Inv X U σ H {s with heap:=h1,toks:=tk}:=I.kept (t':=tk) k1
 obtain⟨us,u1,u2,u3⟩:=oq I (vs:=vs) λv m=>by
  exact ba (p2 v (e2.mem_iff.mp m)) λb k _ e hb=>⟨b,k,e,hb⟩
 rw [Ej] at u3
 have aL:vs.length=es.size:=by rw [e2.length_eq]; simp
 have I2:Inv X U σ (upd H h1.objs.size (.lst us)) {s with heap:=h',toks:=tk}:=by
  have:=I1.laid (a:=h1.objs.size) (o:= .lst us) (t':=tk) k2 (Nat.le_refl _) (show aP X.prog X.w _ h' _ (.lst us) from⟨by rw [u2,aL,r2]; exact r4,vs,c,u1,e1⟩)
  exact this
 exact⟨.ref h1.objs.size,_,I2,rfl,q _ us (I1.aN.fresh (Nat.le_refl _)) u3⟩
end
end L2
namespace L2
open PySem PySem.Spec PyProof.Rows PySem.W bI
section
variable {prog:Program}{w:World}{A:Around}{E:Value->Shared->Prop}{s:Shared}
theorem ou (hT:T="list"\/T="tuple") (ho:s.heap.get? l=some o) (hc:o.cls= .type T) (hd:o.data= .seq vs.toArray n) (hz:vs.length<=sizeLine) (hk: ∀v∈vs,jd s.heap v)
  (h: ∀(h1 h':Heap) (c:Nat) (out:List Value),(∀b o,s.heap.get? b=some o->h1.get? b=some o)->(∀b o,h1.get? b=some o->h'.get? b=some o)->h'.get? h1.objs.size=some {cls:= .type "list",data:= .seq out.toArray c}->out.Perm vs->out.Pairwise (λx y=>bh (bH s.heap y) (bH s.heap x)=false)->Q (.ref h1.objs.size) {s with heap:=h'}):
  wpAny (model prog w) A (call (.builtin "sorted") [.ref l]) Q E s:=by
 refine Calls.call_function_entry kind_sorted plain_sorted entry_sorted (args_sorted1 _) ?_
 unfold Builtin.«sorted»
 refine wpAny_bind (m:=checkCount "sorted" 1 1 _) (wpAny_pure ?_)
 refine wpAny_bind (wpAny_collect_seq l hT ho hc hd (λh1 k1=>?_) (by rw [List.size_toArray]; exact hz))
 refine wpAny_bind (wpAny_newList ?_ (by simpa using hz))
 have e0:vs.toArray.toList=vs:=by simp
 rw [e0]
 have zh:(h1.push (seqObj "list" vs.toArray 0)).get? h1.objs.size=some (seqObj "list" vs.toArray 0):=Heap.get?_push_size _ rfl
 have kp: ∀b o,s.heap.get? b=some o->(h1.push (seqObj "list" vs.toArray 0)).get? b=some o:=λb o e=>Heap.get?_push_of_some _ (k1 b o e)
 refine wpAny_bind (wpAny_holding (wpAny_call_entry slot_list_sort ⟨_,zh,rfl⟩ entry_list_sort (bI.sN (s:={s with heap:=h1.push (seqObj "list" vs.toArray 0)}) zh (λv m=>?_) hz λout hp uT=>⟨_,rfl,wpAny_pure ⟨_,rfl,?_⟩⟩) (args_list_sort _)))
 .exact FW (hk v m) λx o xs n i rr g0 g1 g2 g3 g4=>⟨x,o,xs,n,i,rr,g0,kp x o g1,g2,g3,g4⟩
 .have u1:=get?_update_seq zh (λ_=>#[])
  have u2:=Heap.get?_push_of_some (seqObj "tuple" vs.toArray 0) u1
  have u3:=Heap.get?_push_of_some (seqObj "list" #[] 0) u2
  have u4:=get?_update_seq u3 (λ_=>out.toArray)
  refine h h1 _ _ out k1 (λb o e=>?_) u4 hp (uT.imp_of_mem λ{x y} mx my uU=>?_)
  .have hb:b≠h1.objs.size:=Nat.ne_of_lt (Heap.lt_size e)
   unfold sortedHeap
   rw [Heap.get?_update_other _ _ (Ne.symm hb)]
   refine Heap.get?_push_of_some _ (Heap.get?_push_of_some _ ?_)
   rw [Heap.get?_update_other _ _ (Ne.symm hb)]
   exact Heap.get?_push_of_some _ e
  .have e1:=iB (hk x (hp.mem_iff.mp mx)) kp
   have e2:=iB (hk y (hp.mem_iff.mp my)) kp
   rw [<-e1,<-e2]
   exact uU
end
section
variable {X:Cx}
theorem uV (I:Inv X U σ H s): ∀{ks:List (List Int)}{us:List V}{vs:List Value},Paired (TupAt H) us ks->aA us vs->vs.map (bH s.heap)=ks/\ ∀v∈vs,∃b,∃k∈ks,v= .ref b/\H b=some (.tup (List.map V.int k)):=λ{ks us vs} h=>by
 induction h generalizing vs with
 |nil=>intro r; cases r; exact⟨rfl,λ_ z=>nomatch z⟩
 |cons hq p ih=>
  intro r
  cases r with
  |cons r rs=>
   obtain⟨i1,i2⟩:=ih rs
   refine ae hq λb af hb=>?_
   try clear hq
   subst af
   cases r
   refine⟨by rw [List.map_cons,i1,cy (cO I hb)],λw hw=>?_⟩
   rcases List.mem_cons.mp hw with e|hw
   .exact⟨b,_,List.mem_cons_self,e,hb⟩
   .exact ba (i2 w hw) λb2 k2 m2 e2 g2=>⟨b2,k2,List.mem_cons_of_mem _ m2,e2,g2⟩
theorem ox:cN X (.builtin "sorted") (λxs H Q=> ∃(p:Addr) (ws:List V) (ks:List (List Int)),xs=[.ref p]/\(dg X.K H p ws\/dh X.K H p ws)/\Paired (TupAt H) ws ks/\(∀k∈ks,k≠[])/\
  ∀(l:Addr) (us:List V),H l=none->Paired (TupAt H) us (aK ks)->Q (.ref l) (upd H l (.lst us))):=by
 intro U s σ H xs us Q I r zz
 refine qJ zz λp ws ks e hq hp fX q=>?_
 refine ao λnO=>?_
 subst e
 refine ae (vals1 r) λu af rx=>?_
 subst af
 cases rx
 refine nO ?_
 have go: ∀(T:String) (o:Obj) (its:List Value) (n:Nat),T="list"\/T="tuple"->s.heap.get? p=some o->o.cls= .type T->o.data= .seq its.toArray n->aA ws its->its.length<=sizeLine->wpAny (model X.prog X.w) X.A (call (.builtin "sorted") [.ref p]) (EP X U σ Q) X.xe s:=λT o its n hT ho hc hd rv hz=>by
  obtain⟨p1,p2⟩:=uV I hp rv
  refine ou hT ho hc hd hz (λv m=>?_) λh1 h' c out k1 k2 e1 e2 e3=>?_
  .refine ao λnO=>ba (p2 v m) λb k mk aO hb=>?_
   subst aO
   exact nO <| sP (cO I hb) (fX k mk)
  .have wY:(out.map (bH s.heap)).Perm ks:=by
    have:=e2.map (bH s.heap)
    rwa [p1] at this
   have Ej:out.map (bH s.heap)=aK ks:=kK wY (List.pairwise_map.mpr e3)
   have I1:Inv X U σ H {s with heap:=h1}:=I.kept (t':=s.toks) k1
   obtain⟨us,u1,u2,u3⟩:=oq I (vs:=out) λv m=>by
    exact ao λnO=>ba (p2 v (e2.mem_iff.mp m)) λb k _ e hb=>nO <| ⟨b,k,e,hb⟩
   rw [Ej] at u3
   have I2:Inv X U σ (upd H h1.objs.size (.lst us)) {s with heap:=h'}:=by
    have:=I1.laid (a:=h1.objs.size) (o:= .lst us) (t':=s.toks) k2 (Nat.le_refl _) (show aP X.prog X.w _ h' _ (.lst us) from⟨by rw [u2,e2.length_eq]; exact hz,out,c,u1,e1⟩)
    exact this
   exact⟨.ref h1.objs.size,_,I2,rfl,q _ us (I1.aN.fresh (Nat.le_refl _)) u3⟩
 rcases hq with hq|hq
 .refine ao λnO=>?_
  obtain⟨its,rv,⟨o,n,e1,e2,_,e3⟩,hz⟩:=I.list hq
  exact nO <| go _ o its n (.inl rfl) e1 e2 e3 rv (by first|exact hz|(have:=rv.length; lia))
 .refine ao λnO=>?_
  obtain⟨its,rv,⟨o,e1,e2,n,e3⟩,hz⟩:=I.tuple hq
  exact nO <| go _ o its n (.inr rfl) e1 e2 e3 rv (by first|exact hz|(have:=rv.length; lia))
end
end L2
namespace L2
open PySem PySem.Spec PyProof.Rows PySem.W bI
section
variable {prog:Program}{w:World}{A:Around}{R:Result->Shared->Prop}{I:Addr}{fp wr:List Addr}{n:Nat}{P:Nat->Value->Prop}{St:Nat->Heap->Prop}
noncomputable def wZ (T:Addr->Prop) (g g':Heap):Prop:= ∀b o,T b->g.get? b=some o->g'.get? b=some o
noncomputable def An (prog:Program) (w:World) (A:Around) (T:Addr->Prop) (g:Heap) (P:Nat->Value->Prop) (bt:Nat->Nat->Bool):Prop:=
 ∀i j x y (s:Shared) (Q:Value->Shared->Prop) (E:Value->Shared->Prop),wZ T g s.heap->P i x->P j y->Q (.bool (bt i j)) s->wpAny (model prog w) A (richCompare .Lt x y) Q E s
theorem Ek (W:Walks prog w A.in1 I fp wr n P St) (cm:An prog w A.in1 T g P bt) (nS:S∉fp) (hT: ∀b,T b->b∉wr/\b≠S):
  ∀(m j:Nat) (s:Shared) (best:Value) (c:Nat),n - (j + 1)=m->j + 1<=n->St (j + 1) s.heap->P (argBest bt j) best->wZ T g s.heap->s.heap.get? S=some {cls:= .type "list",dict:=none,data:= .seq #[best,best] c,slots:=#[]}->
   (∀v h' tk,P (argBest bt (n - 1)) v->(∀b o,b∉wr->b≠S->s.heap.get? b=some o->h'.get? b=some o)->R (.ok (.ret v)) {s with heap:=h',toks:=tk})->codeAny (model prog w) A (.builtin "min.loop" ⟨[.ref I,.none,.ref S],[]⟩) R s:=by
 have wS:S∉wr:=λz=>nS (W.sub _ z)
 have nm:(toString "min"++toString ".loop":String)="min.loop":=by decide
 intro m
 induction m with
 |zero=>
  intro j s best c em ej El eP eT eS eR
  have Gi:j + 1=n:=by omega
  refine codeAny_builtin PySem.F.entry_min_loop ?_
  rw [PySem.Around.under_plainId PySem.F.plain_min_loop _]
  show wpAny _ A.in1 (seqItems? (.ref S) >>= _) _ _ _
  refine wpAny_bind (wpAny_seqItems eS rfl ?_)
  show wpAny _ A.in1 (tryCatch (pyNext (.ref I)) _ >>= _) _ _ _
  refine wpAny_bind (wpAny_tryCatch (W.done s _ _ (Gi▸El) λg2 t2 k2=>?_))
  have Co:=k2 S _ wS eS
  show wpAny _ A.in1 (updateSeq S (λ_=>(#[]:Array Value)) >>= _) _ _ _
  refine wpAny_bind (wpAny_updateSeq Co rfl (wpAny_bind (wpAny_letGo (wpAny_pure ?_))))
  exact eR best _ t2 (by rw [<-Gi]; exact eP) λb o b1 b2 e=>(Heap.get?_update_other _ _ (Ne.symm b2)).trans (k2 b o b1 e)
 |succ m ih=>
  intro j s best c em ej El eP eT eS eR
  have Gi:j + 1 < n:=by omega
  refine codeAny_builtin PySem.F.entry_min_loop ?_
  rw [PySem.Around.under_plainId PySem.F.plain_min_loop _]
  show wpAny _ A.in1 (seqItems? (.ref S) >>= _) _ _ _
  refine wpAny_bind (wpAny_seqItems eS rfl ?_)
  show wpAny _ A.in1 (tryCatch (pyNext (.ref I)) _ >>= _) _ _ _
  refine wpAny_bind (wpAny_tryCatch (W.item (j + 1) s _ _ Gi El λv g2 t2 p2 cv k2=>?_))
  have Co:=k2 S _ wS eS
  have Iw:wZ T g g2:=λb o tb e=>k2 b o (hT b tb).1 (eT b o tb e)
  show wpAny _ A.in1 (tryCatch (holding [v,v] (richCompare .Lt v best >>= _)) _ >>= _) _ _ _
  refine wpAny_bind (wpAny_tryCatch (wpAny_holding (wpAny_bind (cm (j + 1) (argBest bt j) v best _ _ _ Iw p2 eP ?_))))
  refine wpAny_bind (wpAny_holding (wpAny_truthy_bool (wpAny_bind (wpAny_letGo (wpAny_pure ?_)))))
  cases eb:bt (j + 1) (argBest bt j) with
  |true=>
   rw [if_pos rfl]
   refine wpAny_bind (wpAny_updateSeq Co rfl (wpAny_bind (wpAny_letGo ?_)))
   rw [nm]
   refine wpAny_pure ⟨plainId_quiet PySem.F.plain_min_loop _,ih (j + 1) _ v _ (by omega) Gi (W.frame _ _ _ cv λb bf o e=>?_) (by simp only [argBest,eb,if_true]; exact p2) (λb o tb e=>?_) (Heap.get?_update_self _ Co rfl) λv3 g3 t3 p3 k3=>?_⟩
   .exact(Heap.get?_update_other _ _ (λz:S=b=>nS (by rw [z]; exact bf))).trans e
   .exact(Heap.get?_update_other _ _ (Ne.symm (hT b tb).2)).trans (Iw b o tb e)
   .exact eR v3 g3 t3 p3 λb o b1 b2 e=>k3 b o b1 b2 ((Heap.get?_update_other _ _ (Ne.symm b2)).trans (k2 b o b1 e))
  |false=>
   rw [if_neg Bool.false_ne_true]
   refine wpAny_bind (wpAny_letGo ?_)
   rw [nm]
   refine wpAny_pure ⟨plainId_quiet PySem.F.plain_min_loop _,ih (j + 1) _ best c (by omega) Gi cv (by simp only [argBest,eb,Bool.false_eq_true,if_false]; exact eP) Iw Co λv3 g3 t3 p3 k3=>?_⟩
   exact eR v3 g3 t3 p3 λb o b1 b2 e=>k3 b o b1 b2 (k2 b o b1 e)
theorem Ao (W:Walks prog w A.in1 I fp wr n P St) (cm:An prog w A.in1 T g P bt) (nS:S∉fp) (hT: ∀b,T b->b∉wr/\b≠S) (n0:0 < n) (El:St 0 s.heap) (eT:wZ T g s.heap) (eS:s.heap.get? S=some {cls:= .type "list",dict:=none,data:= .seq #[] c,slots:=#[]})
  (eR: ∀v h' tk,P (argBest bt (n - 1)) v->(∀b o,b∉wr->b≠S->s.heap.get? b=some o->h'.get? b=some o)->R (.ok (.ret v)) {s with heap:=h',toks:=tk}):codeAny (model prog w) A (.builtin "min.loop" ⟨[.ref I,.none,.ref S],[]⟩) R s:=by
 have wS:S∉wr:=λz=>nS (W.sub _ z)
 have nm:(toString "min"++toString ".loop":String)="min.loop":=by decide
 refine codeAny_builtin PySem.F.entry_min_loop ?_
 rw [PySem.Around.under_plainId PySem.F.plain_min_loop _]
 show wpAny _ A.in1 (seqItems? (.ref S) >>= _) _ _ _
 refine wpAny_bind (wpAny_seqItems eS rfl ?_)
 show wpAny _ A.in1 (tryCatch (pyNext (.ref I)) _ >>= _) _ _ _
 refine wpAny_bind (wpAny_tryCatch (W.item 0 s _ _ n0 El λv g2 t2 p2 cv k2=>?_))
 have Co:=k2 S _ wS eS
 have Iw:wZ T g g2:=λb o tb e=>k2 b o (hT b tb).1 (eT b o tb e)
 show wpAny _ A.in1 (updateSeq S (λ_=>(#[v,v]:Array Value)) >>= _) _ _ _
 refine wpAny_bind (wpAny_updateSeq Co rfl ?_)
 rw [nm]
 refine wpAny_pure ⟨plainId_quiet PySem.F.plain_min_loop _,Ek W cm nS hT _ 0 _ v _ rfl n0 (W.frame _ _ _ cv λb bf o e=>?_) p2 (λb o tb e=>?_) (Heap.get?_update_self _ Co rfl) λv3 g3 t3 p3 k3=>?_⟩
 .exact(Heap.get?_update_other _ _ (λz:S=b=>nS (by rw [z]; exact bf))).trans e
 .exact(Heap.get?_update_other _ _ (Ne.symm (hT b tb).2)).trans (Iw b o tb e)
 .exact eR v3 g3 t3 p3 λb o b1 b2 e=>k3 b o b1 b2 ((Heap.get?_update_other _ _ (Ne.symm b2)).trans (k2 b o b1 e))
end
section
variable {prog:Program}{w:World}{A:Around}{E:Value->Shared->Prop}{s:Shared}
theorem uW
  (h:wpAny (model prog w) A.in1 (pyIter x) (λit s2=> ∃I fp wr n P St bt,it= .ref I/\Walks prog w A.in1 I fp wr n P St/\St 0 s2.heap/\(∀b∈fp,b < s2.heap.objs.size)/\0 < n/\An prog w A.in1 T s2.heap P bt/\(∀b,T b->b∉wr/\b < s2.heap.objs.size)/\
   ∀v h' tk,P (argBest bt (n - 1)) v->(∀b o,b∉wr->s2.heap.get? b=some o->h'.get? b=some o)->Q v {s2 with heap:=h',toks:=tk}) E s):wpAny (model prog w) A (call (.builtin "min") [x]) Q E s:=by
 have nm:(toString "min"++toString ".loop":String)="min.loop":=by decide
 refine call_function_tree PySem.F.kind_min PySem.F.plain_min PySem.F.entry_min (PySem.F.args_min1 _) ?_
 show wpAny _ A.in1 (Builtin.Builtins.bindParams "min" ["key","default"] 0 ⟨[],[]⟩ >>= _) _ _ _
 refine wpAny_bind (wpAny_of_eq (show Builtin.Builtins.bindParams "min" ["key","default"] 0 ⟨[],[]⟩=pure [none,none] from rfl) (wpAny_bind (wpAny_pure (wpAny_bind (wpAny_mono h (λit s2 z=>?_) λ_ _ e=>e)))))
 refine Sx z λI fp wr n P St bt af W El TH n0 cm eT q=>?_
 try clear z
 subst af
 refine wpAny_bind (wpAny_newObj_type ?_)
 have nS:s2.heap.objs.size∉fp:=λhm=>Nat.lt_irrefl _ (TH _ hm)
 rw [nm]
 refine wpAny_pure ⟨plainId_quiet PySem.F.plain_min_loop _,Ao W cm nS (λb tb=>⟨(eT b tb).1,Nat.ne_of_lt (eT b tb).2⟩) n0 (W.frame _ _ _ El λb _ o e=>Heap.get?_push_of_some _ e) (λb o _ e=>Heap.get?_push_of_some _ e) (Heap.get?_push_size _ rfl) λv h' tk p k=>?_⟩
 exact q v h' tk p λb o b1 e=>k b o b1 (Nat.ne_of_lt (Heap.lt_size e)) (Heap.get?_push_of_some _ e)
end
end L2
namespace bI
theorem mX: ∀(l:List (List Int)) (a b:List Int),gn a (l++[b])=if bh b (gn a l) then b else gn a l
 |[],a,b=>rfl
 |x::l,a,b=>mX l _ b
theorem p7: ∀(l:List (List Int)) (a:List Int),gn a l∈a::l
 |[],a=>List.mem_singleton.mpr rfl
 |b::l,a=>by
  rw [gn]
  rcases List.mem_cons.mp (p7 l (if bh b a then b else a)) with h|h
  .rw [h]
   split
   .exact List.mem_cons_of_mem _ List.mem_cons_self
   .exact List.mem_cons_self
  .exact List.mem_cons_of_mem _ (List.mem_cons_of_mem _ h)
theorem sQ: ∀(l:List (List Int)) (a:List Int),∀x∈a::l,Iu (gn a l) x
 |[],a,x,h=>by
  rw [List.mem_singleton.mp h]
  show bh a a=false
  cases e:bh a a with
  |false=>rfl
  |true=>have:=fL a a e; rw [e] at this; cases this
 |b::l,a,x,h=>by
  rw [gn]
  have ih:=sQ l (if bh b a then b else a)
  have h0:=ih _ List.mem_cons_self
  rcases List.mem_cons.mp h with h|h
  .rw [h]
   cases e:bh b a with
   |true=>
    rw [e] at h0
    exact iA _ _ _ h0 (fL _ _ e)
   |false=>rw [e] at h0; exact h0
  .rcases List.mem_cons.mp h with h|h
   .rw [h]
    cases e:bh b a with
    |true=>rw [e] at h0; exact h0
    |false=>
     rw [e] at h0
     exact iA _ _ _ h0 e
   .exact ih x (List.mem_cons_of_mem _ h)
theorem iC (val:Nat->List Int): ∀(k:Nat) (l:List (List Int)),(∀i,i < k->l[i]?=some (val (i + 1)))->val (PySem.argBest (λi j=>bh (val i) (val j)) k)=gn (val 0) (l.take k)
 |0,l,_=>rfl
 |k + 1,l,h=>by
  have hk:=h k (Nat.lt_succ_self k)
  have ih:=iC val k l λi hi=>h i (Nat.lt_succ_of_lt hi)
  have e:l.take (k + 1)=l.take k++[val (k + 1)]:=by rw [List.take_add_one,hk]; rfl
  rw [e,mX,<-ih]
  show val (if bh (val (k + 1)) (val (PySem.argBest _ k))=true then k + 1 else PySem.argBest _ k)=_
  split <;> rfl
end bI
namespace L2
open PySem PySem.Spec PyProof.Rows PySem.W bI
theorem sR: ∀u v:List Int,HT.lexLt u v=bh u v
 |[],[]=>rfl
 |[],_::_=>rfl
 |_::_,[]=>rfl
 |x::u,y::v=>by
  show(if x=y then HT.lexLt u v else decide (x < y))=if x=y then bh u v else decide (x < y)
  rw [sR u v]
section
variable {X:Cx}
theorem eV: ∀{us:List V}{ks:List (List Int)}{vs:List Value},Paired (TupAt H) us ks->aA us vs-> ∀(i:Nat) (v:Value),vs[i]?=some v-> ∃b u,v= .ref b/\us[i]?=some u/\u= .ref b/\H b=some (.tup ((ks.getD i []).map V.int)):=λ{us ks vs} h=>by
 induction h generalizing vs with
 |nil=>intro r i v h; cases r; simp at h
 |cons hq p ih=>
  intro r i v h
  cases r with
  |cons r rs=>
   cases i with
   |zero=>
    refine ae hq λb af hb=>?_
    try clear hq
    subst af
    cases r
    have h':Value.ref b=v:=by simpa using h
    exact⟨b,.ref b,h'.symm,rfl,rfl,hb⟩
   |succ i=>exact fW (ih rs i v (by simpa using h)) λb u e1 e2 e3 e4=>⟨b,u,e1,by simpa using e2,e3,by simpa using e4⟩
theorem uX (hc:X.calm=true) (hu:X.A.units + 64 < cLine):cN X (.builtin "min") (λxs H Q=> ∃(p:Addr) (ws:List V) (k:List Int) (ks:List (List Int)),xs=[.ref p]/\dg X.K H p ws/\Paired (TupAt H) ws (k::ks)/\ ∀u,TupAt H u (gn k ks)->Q u H):=by
 intro U s σ H xs us Q I r zz
 refine Gy zz λp ws k ks e hq hp q=>?_
 subst e
 refine ae (vals1 r) λu af rx=>?_
 subst af
 cases rx
 refine bA (I.list hq) λits rv pl hz=>?_
 have hl:s.heap.IsList p its.toArray:=pl.isList
 have bZ:p < s.heap.objs.size:=by obtain⟨_,e,_⟩:=hl; exact Heap.lt_size e
 have len:its.length=ks.length + 1:=by
  have h1:=rv.length
  have h2:=Paired.length hp
  rw [List.length_cons] at h2
  lia
 have best:(k::ks).getD (argBest (λi j=>bh ((k::ks).getD i []) ((k::ks).getD j [])) ks.length) []=gn k ks:=by
  have:=iC (λi=>(k::ks).getD i []) ks.length ks (λi hi=>by simp [hi])
  simpa using this
 refine uW (T:=λb=> ∃i,i < its.length/\its[i]?=some (.ref b)) (wpAny_pyIter_list hl ?_)
 have vK: ∀b,(∃i,i < its.length/\its[i]?=some (Value.ref b))->b < s.heap.objs.size:=λb zz=>by
  refine ae zz λi _ hi=>fW (eV hp rv i _ hi) λb' _ e1 _ _ e4=>?_
  cases e1
  refine CS (cO I e4) λx o xs n e g1 _=>?_
  cases e
  exact Heap.lt_size g1
 refine⟨_,[_,p],[_],_,_,_,_,rfl,Walks.list (A:=X.A.in1) (I.ok.hd hc) s.heap.objs.size p (Nat.ne_of_lt bZ) its.toArray,⟨⟨_,Heap.get?_push_size _ rfl,rfl,rfl⟩,hl.push _⟩,λb hb=>?_,by rw [List.size_toArray]; lia,(λi j x y s' Q' E' st hx hy hQ=>?_:An X.prog X.w X.A.in1 _ _ _ (λi j=>bh ((k::ks).getD i []) ((k::ks).getD j []))),λb hb=>⟨λz=>?_,?_⟩,λv h' tk hP hk=>?_⟩
 .show b < (s.heap.push _).objs.size
  rw [Heap.size_push]
  rcases List.mem_cons.mp hb with rfl|hb
  .exact Nat.lt_succ_self _
  .rw [List.mem_singleton.mp hb]; exact Nat.lt_succ_of_lt bZ
 .have w4:its[i]?=some x:=by simpa using hx
  have yW:its[j]?=some y:=by simpa using hy
  refine fW (eV hp rv i x w4) λb _ aO _ _ eb=>?_
  subst aO
  refine fW (eV hp rv j y yW) λc _ eN _ _ ec=>?_
  subst eN
  have ib:i < its.length:=(List.getElem?_eq_some_iff.mp w4).1
  have jb:j < its.length:=(List.getElem?_eq_some_iff.mp yW).1
  refine qK (cO I eb) λb' o xs n e g1 g2 g3 g4=>?_
  cases e
  refine qK (cO I ec) λc' o2 ys m e f1 f2 f3 f4=>?_
  cases e
  have s1:=st b o ⟨i,ib,w4⟩ (Heap.get?_push_of_some _ g1)
  have s2:=st c o2 ⟨j,jb,yW⟩ (Heap.get?_push_of_some _ f1)
  refine HT.qU (items:=xs.toArray) (items2:=ys.toArray) ⟨o,s1,g2,n,g3⟩ ⟨o2,s2,f2,m,f3⟩ (by simpa using g4) (by simpa using f4) ?_ (by rw [sR]; exact hQ)
  show X.A.units + 1 < cLine
  lia
 .rw [List.mem_singleton.mp z] at hb
  exact absurd (vK _ hb) (Nat.lt_irrefl _)
 .show b < (s.heap.push _).objs.size
  rw [Heap.size_push]
  exact Nat.lt_succ_of_lt (vK b hb)
 .rw [List.size_toArray,len,Nat.add_sub_cancel] at hP
  have mz:its[argBest (λi j=>bh ((k::ks).getD i []) ((k::ks).getD j [])) ks.length]?=some v:=by simpa using hP
  refine fW (eV hp rv _ v mz) λb u w6 _ _ eb=>?_
  subst w6
  rw [best] at eb
  refine⟨.ref b,H,I.kept λb2 o e=>hk b2 o (λz=>?_) (Heap.get?_push_of_some _ e),rfl,q _ ⟨b,rfl,eb⟩⟩
  rw [List.mem_singleton.mp z] at e
  exact absurd (Heap.lt_size e) (Nat.lt_irrefl _)
end
end L2
namespace PySem
namespace F
theorem w8:mroOf (.type "reversed")=pure [.type "reversed",.type "object"]:=by rw [mroOf_type]; kernel_rfl
theorem Em:typeLookup (.type "reversed") "__new__"=pure (some (.builtin "reversed.__new__")):=by rw [typeLookup_type,builtinLookup_eq_fast]; kernel_rfl
theorem Ap:Slot "reversed" "__init__" "object.__init__":= .of (owner:="object") (n:="__init__") (by rw [typeLookup_type,builtinLookup_eq_fast]; kernel_rfl) (by decide +kernel) (by decide +kernel) (by decide +kernel) (by first|exact .inl (by decide +kernel)|exact .inr (by decide +kernel)) (by rw [isSubtype_type]; kernel_rfl)
theorem uY:TypeCalled "reversed" "reversed.__new__" "object.__init__":=
 ⟨by decide +kernel,by decide +kernel,⟨_,_,w8⟩,madeBy_type w8 Em (by decide +kernel),by decide +kernel,by rw [isSubtype_type]; kernel_rfl,Ap⟩
theorem Iy (a:Value):checkTypeCall "reversed" ⟨[a],[]⟩=pure ():=by kernel_rfl
theorem Iz (a:Value):checkBuiltinCall "reversed.__new__" ⟨[.type "reversed",a],[]⟩=pure ():=by kernel_rfl
theorem w_:entryFor table "reversed.__new__"=some Builtin.«reversed.__new__»:=entryFor_of_tree (by kernel_rfl)
theorem iD:Slot "reversed" "__next__" "reversed.__next__":= .of (owner:="reversed") (n:="__next__") (by rw [typeLookup_type,builtinLookup_eq_fast]; kernel_rfl) (by decide +kernel) (by decide +kernel) (by decide +kernel) (by first|exact .inl (by decide +kernel)|exact .inr (by decide +kernel)) (by rw [isSubtype_type]; kernel_rfl)
theorem gz:entryFor table "reversed.__next__"=some Builtin.«reversed.__next__»:=entryFor_of_tree (by kernel_rfl)
theorem Aq:typeLookup (.type "tuple") "__reversed__"=pure none:=by rw [typeLookup_type,builtinLookup_eq_fast]; kernel_rfl
theorem En:isSubtype (.type "reversed") (.type "reversed")=pure true:=by rw [isSubtype_type]; kernel_rfl
theorem sS:Slot "reversed" "__iter__" "reversed.__iter__":= .of (owner:="reversed") (n:="__iter__") (by rw [typeLookup_type,builtinLookup_eq_fast]; kernel_rfl) (by decide +kernel) (by decide +kernel) (by decide +kernel) (by first|exact .inl (by decide +kernel)|exact .inr (by decide +kernel)) (by rw [isSubtype_type]; kernel_rfl)
theorem mB:entryFor table "reversed.__iter__"=some Builtin.«dict_keyiterator.__iter__»:=entryFor_alias (id':="dict_keyiterator.__iter__") (by kernel_rfl) (by first|rfl|decide +kernel|(unfold String.splitOn; simp +decide [String.splitOnAux])) (by decide +kernel) (by kernel_rfl)
end F
theorem uZ (a:Value):argsOk "reversed.__iter__" ⟨[a],[]⟩:=by unfold argsOk; kernel_rfl
theorem mY (a:Value):argsOk "reversed.__next__" ⟨[a],[]⟩:=by unfold argsOk; kernel_rfl
end PySem
namespace L2
open PySem PySem.Spec PyProof.Rows
open AutoSeq1 (wpAny_loadPart')
noncomputable abbrev As (l:Addr) (i:Int):Obj:={cls:= .type "reversed",data:= .fields #[.ref l,rawInt i]}
theorem xa (l:Addr) (items:Array Value) (n:Nat) (zN:Option Addr) (sl:Array (Option Value)):
  Meets (Builtin.«reversed.__new__» ⟨[.type "reversed",.ref l],[]⟩) (λ_ R s=>s.heap.get? l=some {cls:= .type "tuple",dict:=zN,data:= .seq items n,slots:=sl}/\items.size < 2 ^ 62/\
   ∀tk,R (.ok (.ret (.ref s.heap.objs.size))) {s with heap:=s.heap.push (As l ((items.size:Int) - 1)),toks:=tk}):=
 .of_wp λprog w A R s h=>by
  obtain⟨hp,g,d,tk,os⟩:=s
  obtain⟨hl,hz,h⟩:=h
  have sb:=F.En
  have no:=F.Aq
  have hT:Shared.TypeIs ⟨hp,g,d,tk,os⟩ (.ref l) "tuple":=⟨_,hl,rfl⟩
  have nd:isSubtype (.type "tuple") (.type "dict")=pure false:=by rw [isSubtype_type]; kernel_rfl
  have gi:=F.slot_tuple_getitem.lookup
  have hL:IsTup (Shared.heap ⟨hp,g,d,tk,os⟩) l items:=⟨_,hl,rfl,n,rfl⟩
  have MO:(items.size:Int) < 2 ^ 63:=by lia
  wp_walk using wpAny_loadPart' hl,PyProof.Rows.len_tuple hL MO
  exact⟨_,rfl,h _⟩
section
variable {prog:Program}{w:World}{A:Around}{E:Value->Shared->Prop}{s:Shared}
noncomputable def p8 (h:Heap) (it l:Addr) (i:Int):Prop:= ∃o,h.get? it=some o/\o.cls= .type "reversed"/\o.data= .fields #[.ref l,rawInt i]
theorem p8.ty (r:p8 s.heap it l i):s.TypeIs (.ref it) "reversed":=let ⟨o,e,c,_⟩:=r; ⟨o,e,c⟩
theorem Au (hL:IsTup s.heap l items) (hz:items.size < 2 ^ 62)
  (h: ∀tk,Q (.ref s.heap.objs.size) {s with heap:=s.heap.push (As l ((items.size:Int) - 1)),toks:=tk}):
  wpAny (model prog w) A (call (.type "reversed") [.ref l]) Q E s:=by
 refine ao λnO=>?_
 obtain⟨⟨c,zN,dt,sl⟩,hl,hc,n,hd⟩:=hL
 have jW:c= .type "tuple":=hc
 have lQ:dt= .seq items n:=hd
 subst jW lQ
 refine nO ?_
 refine callType_new F.uY (by decide) (F.Iy _) (F.Iz _) (λobj=>F.args_object_init_2 obj _) F.w_ (xa l items n zN sl) ⟨hl,hz,λtk=>?_⟩
 exact⟨⟨_,Heap.get?_push_size _ rfl,rfl⟩,h tk⟩
theorem sT (st:p8 s.heap it l i) (h:Q (.ref it) s):wpAny (model prog w) A (pyIter (.ref it)) Q E s:=by
 refine wpAny_pyIter_slot st.ty F.sS (wpAny_call_entry F.sS st.ty F.mB ?_ (uZ _))
 show wpAny _ _ (ret (.ref it)) _ _ s
 exact wpAny_pure ⟨_,rfl,"reversed",_,st.ty,F.iD.lookup,h⟩
theorem Av {it l:Addr}{i:Nat}{items:Array Value}{x:Value}{Q:Option Value->Shared->Prop} (st:p8 s.heap it l i) (hl:IsTup s.heap l items) (hx:items[i]?=some x) (hz:items.size < 2 ^ 62)
  (hQ: ∀h' tk,p8 h' it l ((i:Int) - 1)->Heap.SameBut it s.heap h'->Q (some x) {s with heap:=h',toks:=tk}):wpAny (model prog w) A (pyNext (.ref it)) Q E s:=by
 have T:=st.ty
 refine bA (id st) λo ho hc hd=>?_
 have TL:s.TypeIs (.ref l) "tuple":=let ⟨ol,a,b,_⟩:=hl; ⟨ol,a,b⟩
 have hi:i < items.size:=(Array.getElem?_eq_some_iff.mp hx).1
 unfold pyNext
 refine wpAny_bind (wpAny_attempt (wpAny_callSpecial?_slot (name:=Str.ofString "__next__") T F.iD (wpAny_call_entry F.iD T F.gz ?_ (mY _))))
 show wpAny _ _ (field (.ref it) 0 >>= _) _ _ s
 refine wpAny_bind (wpAny_field ho hd (x:= .ref l) rfl ?_)
 show wpAny _ _ (field (.ref it) 1 >>= _) _ _ s
 refine wpAny_bind (wpAny_field ho hd (x:= .int i 0) rfl ?_)
 show wpAny _ _ (if((i:Nat):Int) < 0 then _ else _) _ _ s
 rw [if_neg (by lia)]
 have gi:=F.slot_tuple_getitem.lookup
 refine wpAny_bind (wpAny_specialOf TL gi ?_)
 show wpAny _ _ (mkInt ((i:Nat):Int) >>= _) _ _ s
 refine wpAny_bind (wpAny_mkInt ?_)
 refine wpAny_bind (wpAny_attempt (PyProof.Rows.getItem_tuple (j:=i) (x:=x) (s:={s with toks:=s.toks + 1}) hl (by lia) (by lia) (by unfold seqIndex?; simp; lia) hx ?_))
 show wpAny _ _ (field (.ref it) 1 >>= _) _ _ {s with toks:=s.toks + 1}
 refine wpAny_bind (wpAny_field ho hd (x:= .int i 0) rfl ?_)
 show wpAny _ _ (setField (.ref it) 1 (rawInt ((i:Int) - 1)) >>= _) _ _ {s with toks:=s.toks + 1}
 refine wpAny_bind (wpAny_setField ho hd (by simp) (wpAny_pure ⟨x,rfl,wpAny_pure (hQ _ _ ⟨_,Heap.get?_update_self _ ho (Obj.isFreed_of_fields (Obj.data_mapFields hd _)),(Obj.cls_mapFields ..).trans hc,?_⟩ (Heap.SameBut.update ..))⟩))
 rw [Obj.data_mapFields hd]
 simp [rawInt]
theorem Eo (hh:A.handled=none) (st:p8 s.heap it l (-1)) (hQ: ∀h',Heap.ExtBut it s.heap h'->Q none {s with heap:=h'}):wpAny (model prog w) A (pyNext (.ref it)) Q E s:=by
 have T:=st.ty
 refine bA (id st) λo ho hc hd=>?_
 unfold pyNext
 refine wpAny_bind (wpAny_attempt (wpAny_callSpecial?_slot (name:=Str.ofString "__next__") T F.iD (wpAny_call_entry F.iD T F.gz ?_ (mY _))))
 show wpAny _ _ (field (.ref it) 0 >>= _) _ _ s
 refine wpAny_bind (wpAny_field ho hd (x:= .ref l) rfl ?_)
 show wpAny _ _ (field (.ref it) 1 >>= _) _ _ s
 refine wpAny_bind (wpAny_field ho hd (x:= .int (-1) 0) rfl ?_)
 refine wpAny_bind (wpAny_rule (wpAny_bind ?_))
 refine wpAny_bind (m:=setField (.ref it) 1 (rawInt (-1))) (wpAny_setField ho hd (by simp) ?_)
 have KQ:(s.heap.update it (Obj.mapFields (·.setIfInBounds 1 (rawInt (-1))))).get? it=some (Obj.mapFields (·.setIfInBounds 1 (rawInt (-1))) o):=Heap.get?_update_self _ ho (Obj.isFreed_of_fields (Obj.data_mapFields hd _))
 refine wpAny_setField KQ (Obj.data_mapFields hd _) (by simp) <| wpAny_bind ?_
 unfold Builtin.SmallTypes.stopIteration
 refine wpAny_bind ?_
 simp only [newExc,newTuple]
 refine wpAny_bind (wpAny_newObj_type ?_ (by size_fits))
 refine wpAny_bind (m:=firstArgMember _ _) (wpAny_of_eq (a:=Value.none) (by first|rfl|(simp only [firstArgMember]; rfl)) ?_)
 refine wpAny_newObj_type ?_ (by size_fits)
 simp only [raiseNew]
 refine wpAny_bind (wpAny_handled ?_)
 first|rw [show A.in1.handled=none from hh]|rw [hh]
 refine wpAny_bind (wpAny_pure (wpAny_throw ?_))
 refine wpAny_bind (wpAny_isInstance (T:="StopIteration") (b:=true) ⟨_,Heap.get?_push_size _ rfl,rfl⟩ isSubtype_stop ?_)
 exact wpAny_pure (hQ _ ((((Heap.SameBut.update ..).trans (Heap.SameBut.update ..)).extBut.push _).push _))
end
noncomputable def IA (K:PySem.W.Frag) (a:Addr) (n:Nat):It:=
 ⟨λi H=> ∃xs,dh K H a xs/\xs.length=n/\i < n,λi H x H'=>H'=H/\ ∀xs,dh K H a xs->xs[n - 1 - i]?=some x,λi H=>i=n⟩
theorem Aw {P:Program}{w:World}{K:PySem.W.Frag}{tg:Expr} (a it:Addr) (n:Nat):nM P w K tg (IA K a n) [it] it (λi h=>p8 h it a ((n:Int) - 1 - i)) where
 mem:=by simp
 obj:=λi h st b hb=>by
  have e:b=it:=by simpa using hb
  subst e
  exact bA st λo e c d=>⟨o,e,λv z=>by rw [d] at z; cases z⟩
 keep:=λi h h' st k=>let ⟨o,e,r⟩:=st; ⟨o,k it (by simp) o e,r⟩
 item:=by
  intro X hP hw hK hc i U s σ H E I hf st hg
  subst hP hw hK
  refine bA hg λxs hq hl hi=>bA (I.tuple hq) λits rv p hz=>rX (hf it (by simp)) λf0 f1 f2 f3 f4 f5=>?_
  have hj:n - 1 - i < xs.length:=by lia
  refine ae (rv.get (List.getElem?_eq_getElem hj)) λu hu ru=>?_
  have len:=rv.length
  have ei:(n:Int) - 1 - i=((n - 1 - i:Nat):Int):=by lia
  rw [ei] at st
  refine Av st p (x:=u) (by simpa using hu) (by rw [List.size_toArray]; rw [sizeLine_eq] at hz; lia) λh' tk aj sb=>?_
  have I1:Inv X U σ H {s with heap:=h',toks:=tk}:=I.turned (t':=tk) (λb o hb e=>(sb.2 b hb).trans e) f0 f1 f3 f4 f5
  refine bA (id aj) λo e c d=>⟨u,rfl,mH (s:={s with heap:=h',toks:=tk}) e c d (by decide) ⟨xs[n - 1 - i],H,I1,ru,⟨rfl,λys hy=>by rw [I.i6 hy hq]; exact List.getElem?_eq_getElem hj⟩,?_,λb hb=>(hf b hb).1⟩⟩
  have e2:(n:Int) - 1 - ((i + 1:Nat):Int)=((n - 1 - i:Nat):Int) - 1:=by lia
  rw [e2]
  exact aj
 done:=by
  intro X hP hw hK hc i U s σ H E I hf st hg
  subst hP hw hK
  have hg:i=n:=hg
  subst hg
  refine rX (hf it (by simp)) λf0 f1 f2 f3 f4 f5=>?_
  have ei:(i:Int) - 1 - i= -1:=by lia
  rw [ei] at st
  exact Eo (I.ok.hd hc) st λh' eb=>⟨rfl,I.turned (t':=s.toks) (λb o hb e=>eb b o hb e) f0 f1 f3 f4 f5⟩
 self:=λ_ _ _ _ _ st h=>sT st h
section
variable {X:Cx}{tg:Expr}
noncomputable def TJ (K:PySem.W.Frag) (ta:TA):TI:=λσ H R=>ta σ H λvs H1=> ∃a xs,vs=[.ref a]/\dh K H1 a xs/\R (IA K a xs.length) H1
theorem IB {a:Expr}{ta:TA}{p pos:Pos} (hg:Gl X "reversed") (hm:X.mg "reversed"=none) (ha:PA X [a] ta) (hs:starEach [a] X.env=[(false,eval a X.env)]):PI X tg (.Call (.Name "reversed" p) [a] [] pos) (TJ X.K ta):=by
 intro U s σ H R I h
 refine Call_ (gJ I hg hm boot_reversed (PyProof.Rows.callWith_type1 (bz (ha pos U s σ H _ I h) λus s1 ⟨vs,H1,I1,r1,q1⟩=>?_) hs rfl))
 refine ao λnO=>ba q1 λl xs e hq q=>?_
 subst e
 refine ae (vals1 r1) λu af rx=>?_
 subst af
 cases rx
 refine bA (I1.tuple hq) λits rv pl hz=>nO ?_
 have len:=rv.length
 refine Au pl (by rw [List.size_toArray]; rw [sizeLine_eq] at hz; lia) λtk=>?_
 have es:((its.toArray.size:Nat):Int) - 1=(xs.length:Int) - 1 - ((0:Nat):Int):=by rw [List.size_toArray,len]; lia
 have st:p8 (s1.heap.push (As l ((its.toArray.size:Int) - 1))) s1.heap.objs.size l ((xs.length:Int) - 1 - ((0:Nat):Int)):=⟨_,Heap.get?_push_size _ rfl,rfl,by rw [es]⟩
 refine sT (s:={s1 with heap:=s1.heap.push (As l ((its.toArray.size:Int) - 1)),toks:=tk}) st ?_
 refine⟨s1.heap.objs.size,[s1.heap.objs.size],_,_,H1,rfl,I1.kept (t':=tk) λb o e=>Heap.get?_push_of_some _ e,Aw l _ xs.length,st,λb hb=>?_,q⟩
 have e:b=s1.heap.objs.size:=by simpa using hb
 subst e
 exact I1.qM (Nat.le_refl _) (I1.aN.fresh (Nat.le_refl _))
end
end L2
namespace L2
open PySem PySem.Spec PyProof.Rows PySem.W
noncomputable def MP (a:Addr) (o:Obj) (aw:List (cB×V)):It:=
 ⟨λi H=>H a=some (.cZ o (.dK aw))/\i < aw.length,λi H x H'=>H'=H/\(aw[i]?).map (λkv=>kv.2)=some x,λi H=>H a=some (.cZ o (.dK aw))/\i=aw.length⟩
theorem oy {X:Cx}{U:List (Addr×Obj)}{σ:St}{H:Hp}{s:Shared}{a:Addr}{o:Obj}{aw:List (cB×V)}{es:Array DictEntry}{ep:Nat} (I:Inv X U σ H s) (e:H a=some (.cZ o (.dK aw))) (hd:o.data= .dict es ep):
  (a == sysModules)=false/\ ∃vs,KV aw vs/\s.heap.DictAt (aU X.prog X.w) a vs ep:=by
 refine ao λnO=>?_
 obtain⟨z,lo,vs,ed,o',zg,C3,h1,h2,h3,h4,h5,h6⟩:=iw I.aN (.inr ⟨o,e⟩)
 have ho:s.heap.get? a=some o:=(show aP X.prog X.w H s.heap a (.cZ o (.dK aw)) from I.aN a _ e).1
 rw [ho] at h1
 cases h1
 rw [hd] at h3
 cases h3
 exact nO <| ⟨lo,vs,ed,o,es,ho,h2,hd,h4,h5,h6⟩
theorem IC {κ:Type} [DecidableEq κ] {aw:List (κ×V)}{vs:List (κ×Value)} (r:KV aw vs) {i:Nat} (hi:i < aw.length): ∃k v,vs[i]?=some (k,v)/\RelV aw[i].2 v:=by
 unfold KV at r
 induction r generalizing i with
 |nil=>exact absurd hi (Nat.not_lt_zero _)
 |@cons p q ps qs hq t ih=>
  cases i with
  |zero=>exact⟨q.1,q.2,rfl,hq.2⟩
  |succ i=>
   exact gu (ih (i:=i) (by simpa using hi)) λk v h1 h2=>⟨k,v,by simpa using h1,by simpa using h2⟩
theorem Ax {P:Program}{w:World}{K:PySem.W.Frag}{tg:Expr} (a it:Addr) (fX:a≠it) (o:Obj) (aw:List (cB×V)) (es:Array DictEntry) (ep:Nat) (hd:o.data= .dict es ep):nM P w K tg (MP a o aw) [it] it (λi h=>h.IsValIter it a i aw.length ep) where
 mem:=by simp
 obj:=λi h st b hb=>by
  have e:b=it:=by simpa using hb
  refine ao λnO=>?_
  subst e
  exact bA st λo e c d=>nO <| ⟨o,e,λv z=>by rw [d] at z; cases z⟩
 keep:=λi h h' st k=>let ⟨o,e,r⟩:=st; ⟨o,k it (by simp) o e,r⟩
 item:=by
  intro X hP hw hK hc i U s σ H E I hf st hg
  refine ao λnO=>?_
  subst hP hw hK
  obtain⟨e1,e2⟩:=hg
  obtain⟨_,vs,ed,hm⟩:=oy I e1 hd
  refine rX (hf it (by simp)) λf0 f1 f2 f3 f4 f5=>gu (IC ed e2) λk v n1 n2=>nO ?_
  rw [ed.length] at st
  refine wpAny_pyNext_values_item st hm n1 λh' k' hs=>?_
  have I1:Inv X U σ H {s with heap:=h'}:=I.turned (t':=s.toks) (λb o hb e=>(hs.2 b hb).trans e) f0 f1 f3 f4 f5
  exact ao λnO=>bA (id k') λoi g1 g2 g3=>nO <| ⟨_,rfl,mH (s:={s with heap:=h'}) g1 g2 g3 (by decide) ⟨_,H,I1,n2,⟨rfl,by rw [List.getElem?_eq_getElem e2]; rfl⟩,by rw [ed.length]; exact k',λb hb=>(hf b hb).1⟩⟩
 done:=by
  intro X hP hw hK hc i U s σ H E I hf st hg
  refine ao λnO=>?_
  subst hP hw hK
  obtain⟨e1,e2⟩:=hg
  obtain⟨_,vs,ed,hm⟩:=oy I e1 hd
  refine rX (hf it (by simp)) λf0 f1 f2 f3 f4 f5=>nO ?_
  rw [ed.length] at st
  exact wpAny_pyNext_values_end (I.ok.hd hc) st hm (by rw [List.getElem?_eq_none]; rw [<-ed.length,e2]; exact Nat.le_refl _) λh' eb=>⟨rfl,I.turned (t':=s.toks) (λb o hb e=>eb b o hb e) f0 f1 f3 f4 f5⟩
 self:=λ_ _ _ _ _ st h=>wpAny_pyIter_valiter st h
section
variable {X:Cx}{tg:Expr}
noncomputable def TK (tl:TE):TI:=λσ H R=>tl σ H λx H1=> ∃a o aw,x= .ref a/\H1 a=some (.cZ o (.dK aw))/\R (MP a o aw) H1
theorem ID {l:Expr}{tl:TE}{ap cp:Pos} (hl:PE X l tl) (hZ:attributeBase l "values" X.env (eval l X.env)=eval l X.env) (h_:(ap.endLine == cp.line)=true):PI X tg (.Call (.Attribute l "values" ap) [] [] cp) (TK tl):=by
 intro U s σ H R I h
 refine wpAny_Call_method0_late hZ h_ (bz (hl U s σ H _ I h) λv s1 zz=>?_)
 refine ao λnO=>ba zz λx H1 I1 r1 q1=>cG q1 λa o aw e hq q=>?_
 subst e
 cases r1
 refine cK (D9 I1 (.inl ⟨aw,.inr ⟨o,hq⟩⟩)) λt1 t2 t3=>nO ?_
 have ho:s1.heap.get? a=some o:=(show aP X.prog X.w H1 s1.heap a (.cZ o (.dK aw)) from I1.aN a _ hq).1
 obtain⟨es,ep,hd⟩: ∃es ep,o.data= .dict es ep:=by
  refine ao λnO=>?_
  obtain⟨_,_,_,_,o',zg,C3,h1,h2,h3,_⟩:=iw I1.aN (.inr ⟨o,hq⟩)
  rw [ho] at h1
  cases h1
  exact nO <| ⟨zg,C3,h3⟩
 refine ao λnO=>?_
 obtain⟨_,vs,ed,hm⟩:=oy I1 hq hd
 refine nO ?_
 refine⟨"dict",_,PySem.F.plainAttrs_dict,PySem.F.slot_dict_values,PySem.F.type_dict_values,t1,t2,Calls.callWith_builtin rfl (PySem.evalArgs_none ?_)⟩
 refine call_meetsIn PySem.F.slot_dict_values t1 PySem.F.entry_dict_values (PySem.F.args_dict_values_1 _) (meets_dict_values (aU X.prog X.w) a t3) ⟨⟨vs,?_⟩,?_⟩
 .exact ao λnO=>fW (id hm) λo' zg h1 h2 h3 r=>nO <| ⟨o',zg,ep,h1,h2,h3,r⟩
 .show wpAny _ _ (pyIter (.ref s1.heap.objs.size)) _ _ _
  have I2:Inv X U σ H1 {s1 with heap:=s1.heap.push {cls:= .type "dict_values",data:= .fields #[.ref a]}}:=I1.kept (t':=s1.toks) λb o e=>Heap.get?_push_of_some _ e
  refine ao λnO=>?_
  obtain⟨_,WV,MQ,TM⟩:=oy I2 hq hd
  refine nO <| wpAny_pyIter_values (s:={s1 with heap:=s1.heap.push {cls:= .type "dict_values",data:= .fields #[.ref a]}}) ⟨_,Heap.get?_push_size _ rfl,rfl,rfl⟩ TM ?_
  have alt:a < (s1.heap.push {cls:= .type "dict_values",data:= .fields #[.ref a]}).objs.size :=Heap.lt_size (Heap.get?_push_of_some _ ho)
  refine⟨_,[(s1.heap.push {cls:= .type "dict_values",data:= .fields #[.ref a]}).objs.size],_,_,H1,rfl,I2.kept (t':=s1.toks) λb o e=>Heap.get?_push_of_some _ e,Ax a _ (Nat.ne_of_lt alt) o aw es ep hd,⟨_,Heap.get?_push_size _ rfl,rfl,by rw [MQ.length]; rfl⟩,λb hb=>?_,q⟩
  have e:b=(s1.heap.push {cls:= .type "dict_values",data:= .fields #[.ref a]}).objs.size :=by simpa using hb
  subst e
  exact I2.qM (Nat.le_refl _) (I2.aN.fresh (Nat.le_refl _))
end
end L2
namespace L2
open PySem PySem.Spec PyProof.Rows PySem.W
section
variable {X:Cx}{U:List (Addr×Obj)}{σ:St}{H H1 H2:Hp}{s:Shared}
noncomputable def kL (H:Hp) (b:Addr):Prop:= ∃u,H b=some u/\vH (some u)
noncomputable def NF (X:Cx) (b:Addr):Prop:= ∀o u,X.H₀ b≠some (.cZ o u)
theorem Inv.MR (I:Inv X U σ H1 s) (ea:H1 a=some u) (mu:vH (some u)): ∃o,Inv X U σ (upd H1 a (.cZ o u)) s:=by
 obtain⟨o,ho⟩: ∃o,s.heap.get? a=some o:=by
  have ok:=I.aN a u ea
  cases u with
  |lst xs=>obtain⟨_,_,_,_,e⟩:=ok; exact⟨_,e⟩
  |dK aw=>obtain⟨_,_,_,_,o,_,_,e,_⟩:=ok; exact⟨_,e⟩
  |dT aw=>obtain⟨_,_,_,_,o,_,_,e,_⟩:=ok; exact⟨_,e⟩
  |set S n=>obtain⟨o,_,_,_,e,_⟩:=ok; exact⟨_,e⟩
  |ins C dx fs=>obtain⟨_,_,_,e,_⟩:=ok; exact⟨_,e⟩
  |ext φ=>obtain⟨_,⟨o,e⟩,_⟩:=ok; exact⟨_,e⟩
  |_=>exact mu.elim
 have nt: ∀b w,H1 b=some w-> ¬vH (some w)->upd H1 a (.cZ o u) b=some w:=λb w e nm=>by
  rw [ak (λz=>?_)]
  .exact e
  .rw [z,ea] at e; cases e; exact nm mu
 have aN:gH X.prog X.w (upd H1 a (.cZ o u)) s.heap:=λb w' e=>by
  by_cases hb:b=a
  .subst hb
   rw [ah] at e
   cases e
   exact⟨ho,(I.aN b u ea).lV (λ_ _ _ z=>z) (λc z=>nt c _ z id) λc ys z=>nt c _ z id⟩
  .rw [ak hb] at e
   exact(I.aN b w' e).lV (λ_ _ _ z=>z) (λc z=>nt c _ z id) λc ys z=>nt c _ z id
 have un:Un X.fs [] H1 (upd H1 a (.cZ o u)) s.heap s.heap:=Un.write (x:=a) (e:=a) (by rw [ea]; exact mu) (.inl rfl) (λ_ _ _ z=>z) ⟨o,ho⟩
 have:=I.un (t':=s.toks) un aN
 exact⟨o,this⟩
structure Ay (as:List Addr) (H1 H2:Hp):Prop where
 out: ∀b,b∉as->H2 b=H1 b
 at_: ∀b,b∈as-> ∃o u,H1 b=some u/\vH (some u)/\H2 b=some (.cZ o u)
theorem Inv.gI: ∀(as:List Addr) {H1:Hp},Inv X U σ H1 s->as.Nodup->(∀b∈as,kL H1 b)-> ∃H2,Inv X U σ H2 s/\Ay as H1 H2
 |[],H1,I,_,_=>⟨H1,I,λ_ _=>rfl,λ_ z=>nomatch z⟩
 |a::as,H1,I,nd,hm=>by
  rw [List.nodup_cons] at nd
  refine ae (hm a List.mem_cons_self) λu ea mu=>ae (Inv.gI as I nd.2 λb hb=>hm b (List.mem_cons_of_mem _ hb)) λH2 I2 f2=>?_
  have TN:H2 a=some u:=by rw [f2.out a nd.1]; exact ea
  obtain⟨o,I3⟩:=I2.MR TN mu
  refine⟨_,I3,λb hb=>?_,λb hb=>?_⟩
  .rw [List.mem_cons,not_or] at hb
   rw [ak hb.1]
   exact f2.out b hb.2
  .by_cases mZ:b=a
   .subst mZ
    exact⟨o,u,ea,mu,ah⟩
   .rw [ak mZ]
    exact f2.at_ b ((List.mem_cons.mp hb).resolve_left mZ)
theorem Inv.nf (I:Inv X U σ H s) (h:kL H b):NF X b:=λo u e=>by
 refine ae h λw e1 mu=>?_
 have:=I.base.gI b o u e
 rw [e1] at this
 cases this
 exact mu
open Classical in
noncomputable def fE (as:List Addr) (H1 H2:Hp):Hp:=λb=>if b∈as then H1 b else H2 b
theorem iE (h:b∈as):fE as H1 H2 b=H1 b:=if_pos h
theorem bN (h:b∉as):fE as H1 H2 b=H2 b:=if_neg h
noncomputable def p9 (as:List Addr) (H1 H2:Hp):Prop:= ∀b,b∈as-> ∃o u,H1 b=some u/\vH (some u)/\H2 b=some (.cZ o u)
theorem Inv.fE (I:Inv X U σ H2 s) (nf: ∀b∈as,NF X b) (h:p9 as H1 H2):Inv X U σ (fE as H1 H2) s:=by
 have same: ∀b w,H2 b=some w->(∀o u,w≠ .cZ o u)->L2.fE as H1 H2 b=some w:=λb w e n=>by
  rw [bN λhb=>?_]
  .exact e
  .refine ba (h b hb) λo u _ _ e2=>?_
   rw [e] at e2
   cases e2
   exact n o u rfl
 have sU: ∀b,H2 b=none->L2.fE as H1 H2 b=none:=λb e=>by
  rw [bN λhb=>?_]
  .exact e
  .refine ba (h b hb) λo u _ _ e2=>?_
   rw [e] at e2
   cases e2
 have aN:gH X.prog X.w (L2.fE as H1 H2) s.heap:=λb w' e=>by
  by_cases hb:b∈as
  .refine ba (h b hb) λo u e1 mu e2=>?_
   rw [iE hb,e1] at e
   have ew:u=w':=Option.some.inj e
   subst ew
   obtain⟨_,q⟩:=(show aP X.prog X.w H2 s.heap b (.cZ o u) from I.aN b _ e2)
   exact q.lV (λ_ _ _ z=>z) (λc z=>same c _ z λ_ _ y=>(nomatch y)) λc ys z=>same c _ z λ_ _ y=>(nomatch y)
  .rw [bN hb] at e
   exact(I.aN b w' e).lV (λ_ _ _ z=>z) (λc z=>same c _ z λ_ _ y=>(nomatch y)) λc ys z=>same c _ z λ_ _ y=>(nomatch y)
 refine⟨I.ok,I.os,I.bare,⟨I.base.keep,I.base.slot,λb o e n hx=>sU b (I.base.free b o e n hx),I.base.there,λb xs e=>same b _ (I.base.nF b xs e) λ_ _ y=>(nomatch y),λb o u e=>?_,λb ps e=>?_⟩,I.loc,I.cell,sU _ I.free,λx c e=>sU _ (I.fg x c e),λp hp=>?_,aN,I.len⟩
 .have e2:=I.base.gI b o u e
  rw [bN λhb=>nf b hb o u e]
  exact e2
 .obtain⟨more,e2⟩:=I.base.nG b ps e
  exact⟨more,same b _ e2 λ_ _ y=>(nomatch y)⟩
 .exact cK (I.pin p hp) λe n r=>⟨e,sU _ n,r⟩
end
section
variable {X:Cx}{k:Nat}{f:Addr}{fd:FuncData}{ps:List Str}{sp:Sp}{x:Str}{p pos:Pos}{e:Expr}{es:List Expr}{t:TA}
theorem xb (F:g_ X.prog X.w X.K X.mg X.base uA k f fd ps sp) (hr:dR k X.A) (hg:Gl X x) (hm:X.mg x=some (.ref f)) (hk:PySem.W.keepIn X.K (.ref f)=true) (hb:Binds X.K fd ps [])
  (ha:PA X (e::es) t) (yU:(x == ("__debug__":Str))=false) (he:starEach (e::es) X.env=(false,eval e X.env)::starEach es X.env) (i7:(backTo pos (starEach es X.env)).any (·.1)=false):
  PE X (.Call (.Name x p) (e::es) [] pos) (λσ H Q=>t σ H λvs H1=> ∃as:List Addr,as.Nodup/\(∀b∈as,kL H1 b)/\ ∀H2,Ay as H1 H2->sp (vs++[]) H2 (λv H3=>p9 as H1 H3/\Q v (fE as H1 H3)) E0):=by
 intro U s σ H Q I h
 refine wpAny_Call_Name_kw (nJ I hg hm ?_ yU)
 refine PySem.W.callWith_K (h₀:=X.base) I.ok.mod.Ko hk (bz (ha pos U s σ H _ I h) λus s1 ⟨vs,H1,I1,r,as,nd,KR,q⟩=>⟨I1.BW,?_⟩) he i7
 exact ae (Inv.gI as I1 nd KR) λH2 I2 fz=>bz (vW F hr hb .nil wk I2 r (q H2 fz)) λv s2 zz=>fW zz λy H3 I3 ry hc q3=>⟨y,_,I3.fE (λb i8=>I1.nf (KR b i8)) hc,ry,q3⟩
theorem Az {e:Expr}{t:TE} (h:PE X e t):PE X e (λσ H Q=>t σ H λv H1=> ∃as:List Addr,as.Nodup/\(∀b∈as,kL H1 b)/\ ∀H2,Ay as H1 H2->Q v H2):=by
 intro U s σ H Q I q
 refine bz (h U s σ H _ I q) λv s1 zz=>ao λnO=>?_
 obtain⟨y,H1,I1,r1,as,nd,KR,q1⟩:=zz
 exact ae (Inv.gI as I1 nd KR) λH2 I2 fz=>nO <| ⟨y,H2,I2,r1,q1 H2 fz⟩
end
section
variable {X:Cx}
noncomputable def xc (K:PySem.W.Frag):V->List V->Hp->VK->Prop:=λx vs H Q=> ∃l b xs zs,x= .ref l/\vs=[.ref b]/\H l=some (.lst xs)/\dg K H b zs/\xs.length + zs.length<=sizeLine/\Q .eK (upd H l (.lst (xs++zs)))
theorem xf:L5 X "list.extend" (xc X.K):=by
 intro U s σ H x vs v us Q I rx rv h
 refine ao λnO=>BU h λl b xs zs af aO hH hB hz q=>?_
 try clear h
 subst af
 subst aO
 cases rx
 refine ae rv.one λu eN ru=>?_
 subst eN
 cases ru
 obtain⟨z,its,n,r,hl,e⟩:=I.DK hH
 refine nO ?_
 have key: ∃(jT:List Value) (n2:Nat),aA zs jT/\s.heap.get? b=some {cls:= .type "list",data:= .seq jT.toArray n2}:=by
  rcases hB with hB|⟨o,its,m,h1,h2,h3,h4,h5,h6,h7⟩
  .refine ao λnO=>?_
   obtain⟨_,jT,n2,r2,e2⟩:=hB.ok I.aN
   exact nO <| ⟨jT,n2,r2,e2⟩
  .have hg:=I.BW b o h1
   refine ao λnO=>?_
   obtain⟨c,zN,dt,sl⟩:=o
   have h2:c= .type "list":=h2
   have h3:zN=none:=h3
   have h4:dt= .seq its m:=h4
   have h7:sl=#[]:=h7
   subst h2 h3 h4 h7
   exact nO <| ⟨its.toList,m,h6,by simpa using hg⟩
 refine ao λnO=>gu key λjT n2 r2 e2=>nO ?_
 have TC:=r2.length
 have hsz:its.toArray.size + jT.toArray.size<=sizeLine:=by rw [List.size_toArray,List.size_toArray]; lia
 have IE: ¬(!its.toArray.isEmpty && Builtin.List.listTooLong (its.toArray.size + jT.toArray.size))=true:=by
  rw [wd hsz,Bool.and_false]
  exact Bool.false_ne_true
 refine call_meets F.slot_list_extend ⟨_,e,rfl⟩ F.entry_list_extend (F.args_list_extend_2 _ _) (AutoSeq1.list_extend_list_list_0 l its.toArray n b jT.toArray n2 IE (by rw [List.size_toArray]; lia) (by lia)) ⟨e,e2,?_⟩
 refine⟨.eK,_,I.DJ (its':=its++jT) hH e (by simp) (r.append r2) ?_,rfl,q⟩
 rw [List.length_append]
 lia
noncomputable def p_ (tk tv:TE):TE:=λσ H Q=> ∀p,H p=none->tk σ (upd H p (.dK [])) λx H1=>tv σ H1 λy H2=> ∃i:Int,x= .int i/\H2 p=some (.dK [])/\Q (.ref p) (upd H2 p (.dK [(Sum.inl i,y)]))
theorem AA (hu:X.A.units + 1 < cLine) (hk:PE X k tk) (hv:PE X v tv):PE X (.Dict [some k] [v] pos) (p_ tk tv):=by
 intro U s σ H Q I h
 have hn:H s.heap.objs.size=none:=I.aN.fresh (Nat.le_refl _)
 refine wpAny_Dict_any rfl rfl (by simp) (show 1<=15 by decide) ?_
 have I0:Inv X U σ (upd H s.heap.objs.size (.dK [])) {s with heap:=s.heap.push {cls:= .type "dict",data:= .dict #[]}}:=I.laid (a:=s.heap.objs.size) (o:= .dK []) (t':=s.toks) (λ_ _ q=>Heap.get?_push_of_some _ q) (Nat.le_refl _) (wG s.heap I.big)
 refine pairTrees_cons_walk (bz (hk U _ σ _ _ I0 (h _ hn)) λkv s1 zz=>ba zz λx H1 I1 r1 q1=>bz (hv U s1 σ H1 _ I1 q1) λvv s2 zz=>ba zz λy H2 I2 r2 q2=>pairTrees_nil_walk ?_)
 refine ao λnO=>bA q2 λi ex ep q3=>?_
 subst ex
 obtain⟨t,rfl⟩:=r1
 refine nO ?_
 unfold storeAll
 rw [List.forIn_cons]
 refine ao λnO=>?_
 obtain⟨z,hd,xs,ed,dd⟩:=Cg I2.aN ep
 refine nO ?_
 have ry:RelV (kV (Sum.inl i)) (Value.int i t):=⟨t,rfl⟩
 have hz:xs.length<=sizeLine:=by rw [<-ed.length]; exact z
 refine wpAny_bind (wpAny_bind (wpAny_dictSet_pairs (hsz:=hz) (knd:=aU X.prog X.w) (mT ry) dd λh' zS hs=>wpAny_pure ?_))
 dsimp only
 rw [List.forIn_nil]
 refine wpAny_pure ⟨.ref s.heap.objs.size,_,?_,rfl,q3⟩
 have he: ∃q,h'.get? s.heap.objs.size=some q:=let ⟨q,_,_,hq,_⟩:=zS; ⟨q,hq⟩
 exact j4 (t':=s2.toks + 1) I2 (by rw [ep]; exact True.intro) hs he (wF (by rw [sizeLine_eq]; exact(by decide:(1:Nat)<=16777216)) hd (ed.put (Sum.inl i) r2) zS)
end
section
variable {prog:Program}{w:World}{A:Around}{E:Value->Shared->Prop}{s:Shared}{d:Addr}{es:Array DictEntry}{ep:Nat}
theorem qa (hh:A.handled=none) (lo:(d == sysModules)=false) (r:fB s.heap d es ep) (KS:es.size < 64) (hI:IntsAre (es.toList.map (·.key)) ns)
  (h: ∀(h1 h':Heap) (tk:Nat) (out:Array Value) (c:Nat) (lR:List Int),(∀b o',s.heap.get? b=some o'->h1.get? b=some o')->(∀b o',h1.get? b=some o'->h'.get? b=some o')->h'.get? h1.objs.size=some {cls:= .type "list",data:= .seq out c}->IntsAre out.toList lR->lR.Perm ns->lR.Pairwise (· <= ·)->Q (.ref h1.objs.size) {s with heap:=h',toks:=tk}):
  wpAny (model prog w) A (call (.builtin "sorted") [.ref d]) Q E s:=by
 refine Calls.call_function_entry kind_sorted plain_sorted entry_sorted (args_sorted1 _) ?_
 unfold Builtin.«sorted»
 refine wpAny_bind (m:=checkCount "sorted" 1 1 _) (wpAny_pure (wpAny_bind (kdu_collect (A:=A.in1) (sJ lo) hh r (by rw [sizeLine_eq]; lia) λh1 tk acc k1 it=>?_)))
 have hl:acc.toList.length=es.size:=by rw [Array.length_toList]; exact it.1
 have eq:acc.toList=es.toList.map (·.key):=by
  apply List.ext_getElem?
  intro j
  rcases Nat.lt_or_ge j es.size with z|z
  .have hj:j < acc.toList.length:=by lia
   refine ae (it.2 j acc.toList[j] (by rw [<-Array.getElem?_toList]; exact List.getElem?_eq_getElem hj)) λe e1 e2=>?_
   rw [List.getElem?_eq_getElem hj,List.getElem?_map,Array.getElem?_toList,e1,e2]
   rfl
  .rw [List.getElem?_eq_none (by lia),List.getElem?_eq_none (by simpa using z)]
 rw [eq]
 refine wpAny_bind (wpAny_newList ?_ (by rw [<-eq,hl,sizeLine_eq]; lia))
 have zh:(h1.push (seqObj "list" (es.toList.map (·.key)).toArray 0)).get? h1.objs.size=some (seqObj "list" (es.toList.map (·.key)).toArray 0):=Heap.get?_push_size _ rfl
 refine wpAny_bind (wpAny_holding (wpAny_call_entry slot_list_sort ⟨_,zh,rfl⟩ entry_list_sort (list_sort_tree (s:={s with heap:=h1.push (seqObj "list" (es.toList.map (·.key)).toArray 0),toks:=tk}) zh hI (by rw [<-eq,hl]; exact KS) λout lR a1 a2 a3=>⟨_,rfl,?_⟩) (args_list_sort _)))
 refine wpAny_pure ⟨_,rfl,?_⟩
 have u1:=get?_update_seq zh (λ_=>#[])
 have u2:=Heap.get?_push_of_some (seqObj "tuple" (es.toList.map (·.key)).toArray 0) u1
 have u3:=Heap.get?_push_of_some (seqObj "list" #[] 0) u2
 have u4:=get?_update_seq u3 (λ_=>out)
 refine h h1 _ tk out _ lR k1 (λb o' e=>?_) u4 a1 a2 a3
 have hb:b≠h1.objs.size:=Nat.ne_of_lt (Heap.lt_size e)
 unfold sortedHeap
 rw [Heap.get?_update_other _ _ (Ne.symm hb)]
 refine Heap.get?_push_of_some _ (Heap.get?_push_of_some _ ?_)
 rw [Heap.get?_update_other _ _ (Ne.symm hb)]
 exact Heap.get?_push_of_some _ e
end
section
variable {X:Cx}
theorem sV: ∀{ns:List Int}{vs:List Value},vs.length=ns.length->(∀(i:Nat) (n:Int),ns[i]?=some n-> ∃t,vs[i]?=some (.int n t))->IntsAre vs ns
 |[],[],_,_=> .nil
 |[],_::_,h,_=>nomatch h
 |_::_,[],h,_=>nomatch h
 |n::ns,v::vs,h,k=>by
  obtain⟨t,e⟩:=k 0 n rfl
  have e:v= .int n t:=by simpa using e
  subst e
  exact .cons n t (sV (by simpa using h) λi m hi=>by
   obtain⟨t',e'⟩:=k (i + 1) m (by simpa using hi)
   exact⟨t',by simpa using e'⟩)
theorem oz (hc:X.calm=true):cN X (.builtin "sorted") (λxs H Q=> ∃(p:Addr) (aw:List (cB×V)) (ns:List Int),xs=[.ref p]/\Rd H p (.dK aw)/\aw.map (·.1)=ns.map Sum.inl/\ns.length < 64/\
  ∀lR:List Int,lR.Perm ns->lR.Pairwise (· <= ·)-> ∀l,H l=none->Q (.ref l) (upd H l (.lst (lR.map V.int)))):=by
 intro U s σ H xs us Q I r zz
 refine qJ zz λp aw ns e hq hk KS q=>?_
 subst e
 refine ae (vals1 r) λu af rx=>?_
 subst af
 cases rx
 refine jM (rn I hq) λes ep g1 g2 g3 g4 g5=>?_
 have aL:aw.length=ns.length:=by
  have:=congrArg List.length hk
  rwa [List.length_map,List.length_map] at this
 have hI:IntsAre (es.toList.map (·.key)) ns:=by
  refine sV (by rw [List.length_map,Array.length_toList,g2,aL]) λi n hi=>?_
  have gw:i < aw.length:=by rw [aL]; exact(List.getElem?_eq_some_iff.mp hi).1
  refine ae (g5 i aw[i] (List.getElem?_eq_getElem gw)) λen e1 e2=>?_
  have Gj:aw[i].1 =Sum.inl n:=by
   have:=congrArg (λl:List cB=>l[i]?) hk
   simp only [List.getElem?_map,hi,List.getElem?_eq_getElem gw,Option.map_some] at this
   exact Option.some.inj this
  rw [Gj] at e2
  obtain⟨t,e3⟩:=e2
  exact⟨t,by rw [List.getElem?_map,Array.getElem?_toList,e1,<-e3]; rfl⟩
 refine qa (I.ok.hd hc) g3 g1 (by lia) hI λh1 h' tk out c lR k1 k2 e a1 a2 a3=>?_
 have I1:Inv X U σ H {s with heap:=h1,toks:=tk}:=I.kept (t':=tk) k1
 have I2:Inv X U σ (upd H h1.objs.size (.lst (lR.map V.int))) {s with heap:=h',toks:=tk}:=
  I1.laid (t':=tk) k2 (Nat.le_refl _) (show aP X.prog X.w _ h' _ (.lst (lR.map V.int)) from⟨by rw [List.length_map,a2.length_eq,sizeLine_eq]; lia,out.toList,c,iq a1,by simpa using e⟩)
 exact⟨.ref h1.objs.size,_,I2,rfl,q lR a2 a3 _ (I1.aN.fresh (Nat.le_refl _))⟩
end
end L2
namespace Py
open PySem PySem.Spec PyProof.Rows L2
noncomputable abbrev St:=L2.St
noncomputable def MS (K:PySem.W.Frag) (a:Addr) (xs:List V):Prop:=
 ∃(o:Obj) (its:Array Value) (n:Nat),K.lookup a=some o/\o.cls= .type "list"/\o.dict=none/\o.data= .seq its n/\its.size<=sizeLine/\aA xs its.toList/\o.slots=#[]
noncomputable def fF (t:Nat) (ks:List (List Int)) (vs:List V):HO:=if t=0 then .dK ((ks.map λk=>Sum.inl (k.headD 0)).zip vs) else .dT ((ks.map λk=>k.map Sum.inl).zip vs)
noncomputable def qb:HO->Prop
 | .lst _=>True
 | .dK _=>True
 | .dT _=>True
 |_=>False
theorem jI:qb (fF t ks vs):=by unfold fF; split <;> exact trivial
noncomputable def kM (t:Nat) (ks:List (List Int)):Prop:=ks.Nodup/\(t=0-> ∀k∈ks,∃i,k=[i])
mutual
inductive bg (K:PySem.W.Frag) (O:Addr->Prop) (H:Hp):V->D->Prop
 |eK:bg K O H .eK .eK
 |bl (b:Bool):bg K O H (.bl b) (.bl b)
 |int (i:Int):bg K O H (.int i) (.int i)
 |tup {a vs ds}:dh K H a vs->av K O H vs ds->bg K O H (.ref a) (.tup ds)
 |lst {a vs ds}:Rd H a (.lst vs)-> ¬O a->av K O H vs ds->bg K O H (.ref a) (.lst ds)
 |mod {a vs ds}:MS K a vs->av K O H vs ds->bg K O H (.ref a) (.lst ds)
 |bF {a o t ks vs ds}:H a=some (.cZ o (fF t ks vs))->ks.length=vs.length->kM t ks->av K O H vs ds->bg K O H (.ref a) (.bF t ks ds)
inductive av (K:PySem.W.Frag) (O:Addr->Prop) (H:Hp):List V->List D->Prop
 |nil:av K O H [] []
 |cons {v d vs ds}:bg K O H v d->av K O H vs ds->av K O H (v::vs) (d::ds)
end
section
variable {K:PySem.W.Frag}{O O':Addr->Prop}{H H':Hp}
theorem f_ (ht: ∀a vs,dh K H a vs->dh K H' a vs) (hl: ∀a vs,Rd H a (.lst vs)-> ¬O a->Rd H' a (.lst vs)/\ ¬O' a) (hz: ∀a o u,H a=some (.cZ o u)->H' a=some (.cZ o u)): ∀{v d},bg K O H v d->bg K O' H' v d:=λ{v d} h=>
 bg.rec (motive_1:=λv d _=>bg K O' H' v d) (motive_2:=λvs ds _=>av K O' H' vs ds) .eK .bl .int (λh _ ih=> .tup (ht _ _ h) ih) (λh n _ ih=> .lst (hl _ _ h n).1 (hl _ _ h n).2 ih) (λh _ ih=> .mod h ih) (λh l z _ ih=> .bF (hz _ _ _ h) l z ih) .nil (λ_ _ i1 i2=> .cons i1 i2) h
theorem eh (ht: ∀a vs,dh K H a vs->dh K H' a vs) (hl: ∀a vs,Rd H a (.lst vs)-> ¬O a->Rd H' a (.lst vs)/\ ¬O' a) (hz: ∀a o u,H a=some (.cZ o u)->H' a=some (.cZ o u)): ∀{vs ds},av K O H vs ds->av K O' H' vs ds:=λ{vs ds} h=>
 av.rec (motive_1:=λv d _=>bg K O' H' v d) (motive_2:=λvs ds _=>av K O' H' vs ds) .eK .bl .int (λh _ ih=> .tup (ht _ _ h) ih) (λh n _ ih=> .lst (hl _ _ h n).1 (hl _ _ h n).2 ih) (λh _ ih=> .mod h ih) (λh l z _ ih=> .bF (hz _ _ _ h) l z ih) .nil (λ_ _ i1 i2=> .cons i1 i2) h
theorem iF (s:ag H H') (h:dh K H a vs):dh K H' a vs:=by
 exact s _ _ h
theorem oA (s:ag H H') (h:Rd H a u):Rd H' a u:=h.elim (λh=> .inl (s _ _ h)) λ⟨o,h⟩=> .inr ⟨o,s _ _ h⟩
theorem bg.mono (h:bg K O H v d) (s:ag H H'):bg K O H' v d:=f_ (λ_ _=>iF s) (λ_ _ h n=>⟨oA s h,n⟩) (λ_ _ _ h=>s _ _ h) h
theorem av.mono (h:av K O H vs ds) (s:ag H H'):av K O H' vs ds:=eh (λ_ _=>iF s) (λ_ _ h n=>⟨oA s h,n⟩) (λ_ _ _ h=>s _ _ h) h
theorem bg.weak (h:bg K O H v d) (s: ∀a,O' a->O a):bg K O' H v d:=f_ (λ_ _ h=>h) (λ_ _ h n=>⟨h,λz=>n (s _ z)⟩) (λ_ _ _ h=>h) h
theorem av.weak (h:av K O H vs ds) (s: ∀a,O' a->O a):av K O' H vs ds:=eh (λ_ _ h=>h) (λ_ _ h n=>⟨h,λz=>n (s _ z)⟩) (λ_ _ _ h=>h) h
theorem sW (ha:H a=some u) (hu:qb u) (h:dh K H b vs):dh K (L2.upd H a o) b vs:=by
 have h':H b=some (.tup vs):=h
 show L2.upd H a o b=some (.tup vs)
 rw [ak (fc h' ha (by intro z; rw [<-z] at hu; exact hu))]
 exact h'
theorem sX (ha:H a=some u) (hu:qb u) (h:H b=some (.cZ q w)):L2.upd H a o b=some (.cZ q w):=by
 rw [ak (fc h ha (by intro z; rw [<-z] at hu; exact hu))]
 exact h
theorem sY (rB:b≠a) (h:Rd H b (.lst vs)):Rd (L2.upd H a o) b (.lst vs):=by
 rcases h with h|⟨u,h⟩
 .exact .inl (by rw [ak rB]; exact h)
 .exact .inr ⟨u,by rw [ak rB]; exact h⟩
theorem bg.upd (h:bg K O H v d) (ho:O a) (ha:H a=some u) (hu:qb u):bg K O (L2.upd H a o) v d:=
 f_ (λ_ _ h=>sW ha hu h) (λb _ h n=>⟨sY (λz=>n (z▸ho)) h,n⟩) (λ_ _ _ h=>sX ha hu h) h
theorem av.upd (h:av K O H vs ds) (ho:O a) (ha:H a=some u) (hu:qb u):av K O (L2.upd H a o) vs ds:=
 eh (λ_ _ h=>sW ha hu h) (λb _ h n=>⟨sY (λz=>n (z▸ho)) h,n⟩) (λ_ _ _ h=>sX ha hu h) h
theorem j6 (hp:H p=none): ¬Rd H p u:=λh=>by
 rcases h with h|⟨o,h⟩
 .rw [hp] at h; cases h
 .rw [hp] at h; cases h
theorem av.own (h:av K O H vs ds) (hp:H p=none):av K (λa=>O a\/a=p) H vs ds:=
 eh (λ_ _ h=>h) (λb us h n=>⟨h,λz=>z.elim n λe=>j6 hp (e▸h)⟩) (λ_ _ _ h=>h) h
theorem bg.own (h:bg K O H v d) (hp:H p=none):bg K (λa=>O a\/a=p) H v d:=
 f_ (λ_ _ h=>h) (λb us h n=>⟨h,λz=>z.elim n λe=>j6 hp (e▸h)⟩) (λ_ _ _ h=>h) h
theorem u0 (h:bg K O H v d):aB d=true->bg K O' H v d:=
 bg.rec (motive_1:=λv d _=>aB d=true->bg K O' H v d) (motive_2:=λvs ds _=>aR ds=true->av K O' H vs ds) (λ_=> .eK) (λb _=> .bl b) (λi _=> .int i)
  (λh _ ih n=> .tup h (ih (by simpa [aB] using n))) (λ_ _ _ _ n=>absurd n (by simp [aB])) (λ_ _ _ n=>absurd n (by simp [aB])) (λ_ _ _ _ _ n=>absurd n (by simp [aB])) (λ_=> .nil)
  (λ_ _ i1 i2 n=>by
   simp only [aR,Bool.and_eq_true] at n
   exact .cons (i1 n.1) (i2 n.2)) h
theorem av.length: ∀{vs:List V}{ds:List D},av K O H vs ds->vs.length=ds.length
 |_,_,.nil =>rfl
 |_,_,.cons _ t=>by rw [List.length_cons,List.length_cons,av.length t]
theorem av.get: ∀{vs:List V}{ds:List D}{i:Nat}{d:D},av K O H vs ds->ds[i]?=some d-> ∃v,vs[i]?=some v/\bg K O H v d
 |_,_,_,_,.nil,e=>by simp at e
 |_,_,0,_,.cons r _,e=>by simp at e; subst e; exact⟨_,rfl,r⟩
 |_,_,i + 1,d,.cons _ t,e=>by
  exact ae (av.get (i:=i) (d:=d) t (by simpa using e)) λv h1 h2=>⟨v,by simpa using h1,h2⟩
theorem av.append: ∀{xs ys:List V}{us ws:List D},av K O H xs us->av K O H ys ws->av K O H (xs++ys) (us++ws)
 |_,_,_,_,.nil,s=>s
 |_,_,_,_,.cons r t,s=> .cons r (av.append t s)
theorem av.take: ∀{xs:List V}{us:List D} (n:Nat),av K O H xs us->av K O H (xs.take n) (us.take n)
 |_,_,0,_=> .nil
 |_,_,_ + 1,.nil => .nil
 |_,_,n + 1,.cons r t=> .cons r (av.take n t)
theorem av.drop: ∀{xs:List V}{us:List D} (n:Nat),av K O H xs us->av K O H (xs.drop n) (us.drop n)
 |_,_,0,r=>r
 |_,_,_ + 1,.nil => .nil
 |_,_,n + 1,.cons _ t=>av.drop n t
theorem av.set (r:bg K O H x u): ∀{xs:List V}{us:List D} (i:Nat),av K O H xs us->av K O H (xs.set i x) (us.set i u)
 |_,_,_,.nil => .nil
 |_,_,0,.cons _ t=> .cons r t
 |_,_,i + 1,.cons q t=> .cons q (av.set r i t)
theorem bg.int_inv (h:bg K O H v (.int i)):v= .int i:=by cases h; rfl
theorem bg.xg (h:bg K O H v (.bl i)):v= .bl i:=by cases h; rfl
theorem bg.iG (h:bg K O H v (.tup ds)): ∃a vs,v= .ref a/\dh K H a vs/\av K O H vs ds:=by
 cases h with
 |tup h1 h2=>exact⟨_,_,rfl,h1,h2⟩
theorem bg.lst_inv (h:bg K O H v (.lst ds)): ∃a vs,v= .ref a/\dg K H a vs/\av K O H vs ds:=by
 cases h with
 |lst h1 _ h2=>exact⟨_,_,rfl,.inl h1,h2⟩
 |mod h1 h2=>exact⟨_,_,rfl,.inr h1,h2⟩
theorem et: ∀(ns:List Int),av K O H (ns.map V.int) (ns.map D.int)
 |[]=> .nil
 |n::ns=> .cons (.int n) (et ns)
noncomputable def bP (K:PySem.W.Frag) (O:Addr->Prop) (b:Bool) (H:Hp) (v:V) (d:D):Prop:=
 bg K O H v d\/(b=true/\ ∃a vs ds,v= .ref a/\d= .lst ds/\H a=some (.lst vs)/\av K O H vs ds)
variable {b:Bool}{v:V}{d:D}
theorem bP.mono (h:bP K O b H v d) (s:ag H H'):bP K O b H' v d:=by
 rcases h with h|⟨e,a,vs,ds,h1,h2,h3,h4⟩
 .exact .inl (h.mono s)
 .exact .inr ⟨e,a,vs,ds,h1,h2,s _ _ h3,h4.mono s⟩
theorem bP.own (h:bP K O false H v d):bg K O H v d:=h.elim id λz=>absurd z.1 Bool.false_ne_true
theorem bP.int (h:bP K O b H v (.int i)):v= .int i:=by
 rcases h with h|⟨_,_,_,_,_,h,_⟩
 .exact h.int_inv
 .cases h
theorem bP.bl (h:bP K O b H v (.bl i)):v= .bl i:=by
 rcases h with h|⟨_,_,_,_,_,h,_⟩
 .exact h.xg
 .cases h
theorem bP.tup {ds:List D} (h:bP K O b H v (.tup ds)): ∃a vs,v= .ref a/\dh K H a vs/\av K O H vs ds:=by
 rcases h with h|⟨_,_,_,_,_,h,_⟩
 .exact h.iG
 .cases h
theorem bP.lst {ds:List D} (h:bP K O b H v (.lst ds)): ∃a vs,v= .ref a/\dg K H a vs/\av K O H vs ds:=by
 rcases h with h|⟨_,a,vs,IF,h1,h2,h3,h4⟩
 .exact h.lst_inv
 .cases h2
  exact⟨a,vs,h1,dg.of h3,h4⟩
theorem bP.seq (h:bP K O b H v d) (e:Py.seq d=some xs): ∃a vs,v= .ref a/\(dg K H a vs\/dh K H a vs)/\av K O H vs xs:=by
 refine ao λnO=>?_
 cases d with
 |lst ds=>
  refine nO ?_
  cases e; obtain⟨a,vs,h1,h2,h3⟩:=h.lst; exact⟨a,vs,h1,.inl h2,h3⟩
 |tup ds=>
  refine nO ?_
  cases e; obtain⟨a,vs,h1,h2,h3⟩:=h.tup; exact⟨a,vs,h1,.inr h2,h3⟩
 |_=>cases e
theorem bP.any (h:bP K O b H v d):bg K (λ_=>False) H v d:=by
 rcases h with h|⟨_,a,vs,IF,h1,h2,h3,h4⟩
 .exact h.weak λ_ z=>z.elim
 .subst h1 h2
  exact .lst (.inl h3) id (h4.weak λ_ z=>z.elim)
end
noncomputable def dJ (K:PySem.W.Frag) (O:Addr->Prop) (H:Hp) (a:Addr) (d:D):Prop:=
 (∃vs ds,d= .lst ds/\H a=some (.lst vs)/\av K O H vs ds)\/
 (∃t ks vs ds,d= .bF t ks ds/\H a=some (fF t ks vs)/\ks.length=vs.length/\kM t ks/\av K O H vs ds)\/
 d=rh/\ ∃u,H a=some u/\qb u
section
variable {K:PySem.W.Frag}{O O':Addr->Prop}{H H':Hp}{a:Addr}{d:D}
theorem dJ.mono (h:dJ K O H a d) (s:ag H H'):dJ K O H' a d:=by
 rcases h with ⟨vs,ds,e1,e2,e3⟩|⟨t,ks,vs,ds,e1,e2,e3,e4,e5⟩|⟨e1,u',e2,e3⟩
 .exact .inl ⟨vs,ds,e1,s _ _ e2,e3.mono s⟩
 .exact .inr (.inl ⟨t,ks,vs,ds,e1,s _ _ e2,e3,e4,e5.mono s⟩)
 .exact .inr (.inr ⟨e1,u',s _ _ e2,e3⟩)
theorem dJ.weak (h:dJ K O H a d) (s: ∀a,O' a->O a):dJ K O' H a d:=by
 rcases h with ⟨vs,ds,e1,e2,e3⟩|⟨t,ks,vs,ds,e1,e2,e3,e4,e5⟩|⟨e1,u',e2,e3⟩
 .exact .inl ⟨vs,ds,e1,e2,e3.weak s⟩
 .exact .inr (.inl ⟨t,ks,vs,ds,e1,e2,e3,e4,e5.weak s⟩)
 .exact .inr (.inr ⟨e1,u',e2,e3⟩)
theorem dJ.own (h:dJ K O H a d) (hp:H p=none):dJ K (λa=>O a\/a=p) H a d:=by
 rcases h with ⟨vs,ds,e1,e2,e3⟩|⟨t,ks,vs,ds,e1,e2,e3,e4,e5⟩|⟨e1,u',e2,e3⟩
 .exact .inl ⟨vs,ds,e1,e2,e3.own hp⟩
 .exact .inr (.inl ⟨t,ks,vs,ds,e1,e2,e3,e4,e5.own hp⟩)
 .exact .inr (.inr ⟨e1,u',e2,e3⟩)
theorem dJ.upd (h:dJ K O H a d) (hb:a≠b) (ho:O b) (Rm:H b=some u) (hu:qb u):dJ K O (L2.upd H b o) a d:=by
 rcases h with ⟨vs,ds,e1,e2,e3⟩|⟨t,ks,vs,ds,e1,e2,e3,e4,e5⟩|⟨e1,u',e2,e3⟩
 .exact .inl ⟨vs,ds,e1,by rw [ak hb]; exact e2,e3.upd ho Rm hu⟩
 .exact .inr (.inl ⟨t,ks,vs,ds,e1,by rw [ak hb]; exact e2,e3,e4,e5.upd ho Rm hu⟩)
 .exact .inr (.inr ⟨e1,u',by rw [ak hb]; exact e2,e3⟩)
theorem dJ.lst {ds:List D} (h:dJ K O H a (.lst ds)): ∃vs,H a=some (.lst vs)/\av K O H vs ds:=by
 rcases h with ⟨vs,ds,e1,e2,e3⟩|⟨t,ks,vs,ds,e1,_⟩|⟨e1,_⟩
 .cases e1; exact⟨vs,e2,e3⟩
 .cases e1
 .cases e1
theorem dJ.bF (h:dJ K O H a (.bF t ks ds)) (h2:t≠2): ∃vs,H a=some (fF t ks vs)/\ks.length=vs.length/\kM t ks/\av K O H vs ds:=by
 rcases h with ⟨vs,ds,e1,e2,e3⟩|⟨t,ks,vs,ds,e1,e2,e3,e4,e5⟩|⟨e1,u',e2,e3⟩
 .cases e1
 .cases e1; exact⟨vs,e2,e3,e4,e5⟩
 .cases e1; exact absurd rfl h2
end
structure EX (K:PySem.W.Frag) (O:Addr->Prop) (σ:St) (H:Hp) (ρ:Env):Prop where
 live: ∀a,O a-> ∃u,H a=some u/\qb u
 jP: ∀(i:Nat) (o:Bool) (d:D),ρ[i]?=some (some (o,d))-> ∃v,σ[i]?=some (some v)/\
  if o=true then∃a,v= .ref a/\O a/\dJ K O H a d else bg K O H v d
theorem EX.mono {K:PySem.W.Frag}{O:Addr->Prop}{σ:St}{H H':Hp}{ρ:Env} (h:EX K O σ H ρ) (s:ag H H'):EX K O σ H' ρ:=by
 refine⟨λa ha=>let ⟨u,e,q⟩:=h.live a ha; ⟨u,s _ _ e,q⟩,λi o d e=>?_⟩
 refine ae (h.jP i o d e) λv h1 h2=>⟨v,h1,?_⟩
 cases o with
 |true=>
  exact bA h2 λa e1 e2 c=>⟨a,e1,e2,c.mono s⟩
 |false=>exact bg.mono h2 s
theorem EX.free {K:PySem.W.Frag}{O:Addr->Prop}{σ:St}{H H1:Hp}{ρ:Env} (h:EX K O σ H ρ) (s:ag H H1) {p:Addr} (hp:H1 p=none): ¬O p:=λz=>by
 refine ae (h.live p z) λvs e _=>?_
 rw [s _ _ e] at hp; cases hp
theorem bind_some {α β:Type}{o:Option α}{f:α->Option β}{y:β} (h:o.bind f=some y): ∃x,o=some x/\f x=some y:=by
 cases o with
 |none=>cases h
 |some x=>exact⟨x,rfl,h⟩
theorem map_some {α β:Type}{o:Option α}{f:α->β}{y:β} (h:o.map f=some y): ∃x,o=some x/\f x=y:=by
 cases o with
 |none=>cases h
 |some x=>exact⟨x,rfl,Option.some.inj h⟩
noncomputable def tV (K:PySem.W.Frag) (b:Bool) (f:Env->Option D):TE:=λσ H Q=> ∃O ρ d,EX K O σ H ρ/\f ρ=some d/\ ∀v H',ag H H'->bP K O b H' v d->Q v H'
noncomputable def tF (K:PySem.W.Frag) (f:Env->Option (List D)):TE:=λσ H Q=> ∃O ρ ds,EX K O σ H ρ/\f ρ=some ds/\ ∀p vs H1,ag H H1->H1 p=none->av K O H1 vs ds->Q (.ref p) (L2.upd H1 p (.lst vs))
noncomputable def tB (K:PySem.W.Frag) (f:Env->Option Bool):TT:=λσ H Q=> ∃O ρ k,EX K O σ H ρ/\f ρ=some k/\ ∀H',ag H H'->Q k H'
noncomputable def rF (K:PySem.W.Frag) (b:Bool) (f:Env->Option (List D)):TA:=λσ H Q=> ∃O ρ ds,EX K O σ H ρ/\f ρ=some ds/\ ∀vs H',ag H H'->Paired (bP K O b H') vs ds->Q vs H'
theorem ag.upd (h:H p=none):ag H (L2.upd H p o):=λb u e=>by rw [ak (bT e h)]; exact e
section
variable {X:Cx}{a b c e:Expr}{pos:Pos}{m:Bool}
theorem _root_.L2.PE.weak (h:PE X e t) (w: ∀σ H Q,t' σ H Q->t σ H Q):PE X e t':=λU s σ H Q I q=>h U s σ H Q I (w σ H Q q)
theorem _root_.L2.PT.weak (h:PT X e t) (w: ∀σ H Q,t' σ H Q->t σ H Q):PT X e t':=λU s σ H Q I q=>h U s σ H Q I (w σ H Q q)
theorem AB {f:Env->Option D}{f':Env->Option (List D)} (h:PE X e (tF X.K f')) (hf: ∀ρ d,f ρ=some d-> ∃ds,f' ρ=some ds/\d= .lst ds):PE X e (tV X.K m f):=h.weak λσ H Q zz=>by
 refine cG zz λO ρ d hx hd k=>ae (hf ρ d hd) λds e1 af=>?_
 subst af
 refine⟨O,ρ,ds,hx,e1,λp vs H1 s1 hp r=>k _ _ (s1.trans (ag.upd hp)) (.inl (.lst (.inl ah) (hx.free s1 hp) (r.mono (ag.upd hp))))⟩
theorem v_var (hN:X.N[i]?=some x) (hv:um X.env.scope x) (hd:(x == ("__debug__":Str))=false) (vN:(x == ("__classdict__":Str))=false):PE X (.Name x pos) (tV X.K m λρ=>rd m ρ i):=
 (bC hN hv hd vN).weak λσ H Q zz=>by
  refine cG zz λO ρ d hx hd k=>?_
  have hd:rd m ρ i=some d:=hd
  unfold rd at hd
  split at hd
  .rename_i o d' e
   refine ae (hx.jP i o d' e) λv h1 h2=>⟨v,h1,k v H (ag.refl _) ?_⟩
   cases o with
   |true=>
    cases m with
    |true=>
     refine bA h2 λa e1 e2 c=>?_
     rcases c with ⟨vs,ds,f1,f2,f3⟩|⟨t,ks,vs,ds,f1,_⟩|⟨f1,_⟩
     .subst f1
      cases hd
      exact .inr ⟨rfl,a,vs,ds,e1,rfl,f2,f3⟩
     .subst f1
      cases hd
     .subst f1
      cases hd
    |false=>cases hd
   |false=>
    cases hd
    exact .inl h2
  .cases hd
theorem KU {d:D}{v:V}{t:TE} (h:PE X e (tC v)) (r: ∀K O H,bg K O H v d):PE X e (tV X.K m λ_=>some d):=h.weak λσ H Q zz=>by
 refine cG zz λO ρ d' hx hd k=>?_
 cases hd
 exact k v H (ag.refl _) (.inl (r _ _ _))
theorem sZ {f:Value->Value->Sem Value}{fa fb:Env->Option D}{g:D->D->Option D}{r:R2} (ha:PE X a (tV X.K true fa)) (hb:PE X b (tV X.K true fb)) (mk: ∀ta tb,PE X a ta->PE X b tb->PE X e (B0 r ta tb))
  (hr: ∀O σ (ρ:Env) H x y d v w Q,EX X.K O σ H ρ->bP X.K O true H v x->bP X.K O true H w y->g x y=some d->(∀u H',ag H H'->bP X.K O m H' u d->Q u H')->r v w H Q):
  PE X e (tV X.K m λρ=>(fa ρ).bind λx=>(fb ρ).bind λy=>g x y):=(mk _ _ ha hb).weak λσ H Q zz=>by
 exact cG zz λO ρ d hx hd k=>ae (bind_some hd) λx e1 hd=>ae (bind_some hd) λy e2 hd=>⟨O,ρ,x,hx,e1,λv H1 s1 r1=>⟨O,ρ,y,hx.mono s1,e2,λw H2 s2 r2=>hr O σ ρ H2 x y d v w Q (hx.mono (s1.trans s2)) (r1.mono s2) r2 hd λu H' s' r'=>k u H' ((s1.trans s2).trans s') r'⟩⟩
end
end Py
namespace Py
open PySem PySem.Spec PyProof.Rows L2
section
variable {X:Cx}{a b c e:Expr}{pos:Pos}{m:Bool}
theorem _root_.L2.PE.TQ (h: ∀ρ,f ρ=none):PE X e (tV X.K m f):=λU s σ H Q I ⟨O,ρ,d,hx,hd,k⟩=>by rw [h] at hd; cases hd
noncomputable def Cp (K:PySem.W.Frag):R2:=λx y H Q=> ∃l b xs zs,x= .ref l/\y= .ref b/\dg K H l xs/\dg K H b zs/\xs.length + zs.length<=sizeLine/\ ∀p,H p=none->Q (.ref p) (L2.upd H p (.lst (xs++zs)))
theorem AD:mI X (binaryOp .Add) (Cp X.K):=by
 intro U s σ H x y v u Q I rx ry h
 refine BU h λl b xs zs af aO hl hb hz q=>?_
 try clear h
 subst af
 subst aO
 cases rx
 cases ry
 refine fW (I.B7 hl) λits n r e1 e z=>fW (I.B7 hb) λjT n2 r2 ae e2 z2=>PySem.P.add_list e e2 ?_ (by rw [List.size_toArray,List.size_toArray]; lia)
 have ea:its.toArray++jT.toArray=(its++jT).toArray :=by simp
 rw [ea]
 exact⟨.ref _,_,I.Hj (t':=s.toks) (r.append r2) (by rw [List.length_append]; lia),rfl,q _ I.fresh⟩
noncomputable def Dx (K:PySem.W.Frag):R2:=λx y H Q=>GX (λi j=> .int (i + j)) x y H Q\/Cp K x y H Q
theorem m5:mI X (binaryOp .Add) (Dx X.K):=Dr.or AD
theorem cI:(sizeLine:Nat)=bJ:=by rw [sizeLine_eq]; rfl
theorem v_add (ha:PE X a (tV X.K true fa)) (hb:PE X b (tV X.K true fb)):PE X (.BinOp a .Add b pos) (tV X.K m λρ=>(fa ρ).bind λx=>(fb ρ).bind λy=>bin .Add x y):=
 sZ (f:=binaryOp .Add) (r:=Dx X.K) ha hb (λ_ _ h1 h2=>pC m5 h1 h2) λO σ ρ H x y d v w Q hx r1 r2 hd k=>by
  cases x with
  |int i=>
   cases y with
   |int j=>cases hd; exact .inl ⟨i,j,r1.int,r2.int,k _ _ (ag.refl _) (.inl (.int _))⟩
   |_=>cases hd
  |lst us=>
   cases y with
   |lst ws=>
    simp only [bin] at hd
    split at hd
    .rename_i hz
     cases hd
     refine ba r1.lst λa1 vs eN q1 p1=>?_
     subst eN
     refine ba r2.lst λa2 zs w6 q2 p2=>?_
     subst w6
     have l1:=p1.length
     have l2:=p2.length
     refine .inr ⟨a1,a2,vs,zs,rfl,rfl,q1,q2,by rw [cI,l1,l2]; exact hz,λp hp=>?_⟩
     exact k _ _ (ag.upd hp) (.inl (.lst (.inl ah) (hx.free (ag.refl _) hp) ((p1.append p2).mono (ag.upd hp))))
    .cases hd
   |_=>cases hd
  |_=>cases hd
theorem IG (ha:PE X a (tV X.K true fa)) (hb:PE X b (tV X.K true fb)):PE X (.BinOp a .Add b pos) (tF X.K λρ=>((fa ρ).bind λx=>(fb ρ).bind λy=>bin .Add x y).bind λd=>match d with| .lst ds=>some ds|_=>none):=
 (pC m5 ha hb).weak λσ H Q zz=>by
  refine cG zz λO ρ ds hx hd k=>ae (bind_some hd) λz hd KP=>ae (bind_some hd) λx e1 hd=>ae (bind_some hd) λy e2 hd=>⟨O,ρ,x,hx,e1,λv H1 s1 r1=>⟨O,ρ,y,hx.mono s1,e2,λw H2 s2 r2=>?_⟩⟩
  have mC:=r1.mono s2
  cases x with
  |lst us=>
   cases y with
   |lst ws=>
    simp only [bin] at hd
    split at hd
    .rename_i hz
     cases hd
     cases KP
     refine ba mC.lst λa1 vs af q1 p1=>?_
     subst af
     refine ba r2.lst λa2 zs aO q2 p2=>?_
     subst aO
     have l1:=p1.length
     have l2:=p2.length
     exact .inr ⟨a1,a2,vs,zs,rfl,rfl,q1,q2,by rw [cI,l1,l2]; exact hz,λp hp=>k p _ H2 (s1.trans s2) hp (p1.append p2)⟩
    .cases hd
   |_=>cases hd
  |int i=>
   cases y with
   |int j=>cases hd; cases KP
   |_=>cases hd
  |_=>cases hd
theorem AF (h:cF i j=true):zp i j:=by
 unfold cF at h
 simp only [Bool.or_eq_true,Bool.and_eq_true,decide_eq_true_eq] at h
 exact h
theorem Cq (ha:PE X a (tV X.K true fa)) (hb:PE X b (tV X.K true fb)):PE X (.BinOp a o b pos) (tV X.K m λρ=>(fa ρ).bind λx=>(fb ρ).bind λy=>bin o x y):=by
 have no: ∀(f:Env->Option D) (g:Env->Option D),(∀ρ,((f ρ).bind λ_=>(g ρ).bind λ_=>(none:Option D))=none):=λf g ρ=>by
  cases f ρ <;> simp
 cases o with
 |Add=>exact v_add ha hb
 |Mult=>
  exact sZ (f:=binaryOp .Mult) ha hb (λ_ _ h1 h2=>pC Ds h1 h2) λO σ ρ H x y d v w Q hx r1 r2 hd k=>by
   cases x with
   |int i=>
    cases y with
    |int j=>
     simp only [bin] at hd
     split at hd
     .rename_i hz
      cases hd
      exact⟨i,j,r1.int,r2.int,AF hz,k _ _ (ag.refl _) (.inl (.int _))⟩
     .cases hd
    |_=>cases hd
   |_=>cases hd
 |FloorDiv=>
  exact sZ (f:=binaryOp .FloorDiv) ha hb (λ_ _ h1 h2=>pC zq h1 h2) λO σ ρ H x y d v w Q hx r1 r2 hd k=>by
   cases x with
   |int i=>
    cases y with
    |int j=>
     simp only [bin] at hd
     split at hd
     .rename_i hz
      cases hd
      exact⟨i,j,r1.int,r2.int,hz,k _ _ (ag.refl _) (.inl (.int _))⟩
     .cases hd
    |_=>cases hd
   |_=>cases hd
 |Mod=>
  exact sZ (f:=binaryOp .Mod) ha hb (λ_ _ h1 h2=>pC Dt h1 h2) λO σ ρ H x y d v w Q hx r1 r2 hd k=>by
   cases x with
   |int i=>
    cases y with
    |int j=>
     simp only [bin] at hd
     split at hd
     .rename_i hz
      cases hd
      exact⟨i,j,r1.int,r2.int,hz,k _ _ (ag.refl _) (.inl (.int _))⟩
     .cases hd
    |_=>cases hd
   |_=>cases hd
 |_=>exact PE.TQ λρ=>no fa fb ρ
theorem xh (h:zM d=some i):d= .int i:=by cases d <;> first|(cases h; rfl)|cases h
theorem eA (h:eO d=some i):d= .bl i:=by cases d <;> first|(cases h; rfl)|cases h
mutual
noncomputable def cP:D->PyData
 | .eK => .none
 | .bl b=> .bool b
 | .int i=> .int i
 | .tup xs=> .tuple (dA xs)
 | .lst xs=> .list (dA xs)
 | .bF _ _ _=> .none
noncomputable def dA:List D->List PyData
 |[]=>[]
 |x::xs=>cP x::dA xs
end
mutual
theorem kN: ∀x y:D,PyData.eqv (cP x) (cP y)=jD x y
 | .eK,y=>by cases y <;> simp [cP,PyData.eqv,jD]
 | .bl b,y=>by cases y <;> simp [cP,PyData.eqv,jD]
 | .int b,y=>by cases y <;> simp [cP,PyData.eqv,jD]
 | .tup xs,y=>by
  cases y with
  |tup ys=>simp only [cP,PyData.eqv,jD]; exact ji xs ys
  |_=>simp [cP,PyData.eqv,jD]
 | .lst xs,y=>by
  cases y with
  |lst ys=>simp only [cP,PyData.eqv,jD]; exact ji xs ys
  |_=>simp [cP,PyData.eqv,jD]
 | .bF _ _ _,y=>by cases y <;> simp [cP,PyData.eqv,jD]
theorem ji: ∀xs ys:List D,PyData.eqvAll (dA xs) (dA ys)=wt xs ys
 |[],ys=>by cases ys <;> simp [dA,PyData.eqvAll,wt]
 |x::xs,ys=>by
  cases ys with
  |nil=>simp [dA,PyData.eqvAll,wt]
  |cons y ys=>simp only [dA,PyData.eqvAll,wt]; rw [kN x y,ji xs ys]
end
mutual
theorem kO: ∀(x:D) (n:Nat),dG x n=true->(cP x).canLay0 =true/\(cP x).depth <=n
 | .eK,n,h=>by simp [cP,PyData.canLay0,PyData.depth]
 | .bl b,n,h=>by simp [cP,PyData.canLay0,PyData.depth]
 | .int i,n,h=>by simp [cP,PyData.canLay0,PyData.depth]
 | .tup xs,0,h=>by simp [dG] at h
 | .lst xs,0,h=>by simp [dG] at h
 | .bF _ _ _,n,h=>by simp [dG] at h
 | .tup xs,n + 1,h=>by
  simp only [dG] at h
  obtain⟨h1,h2⟩:=oB xs n h
  simp only [cP,PyData.canLay0,PyData.depth]
  exact⟨h1,Nat.succ_le_succ h2⟩
 | .lst xs,n + 1,h=>by
  simp only [dG] at h
  obtain⟨h1,h2⟩:=oB xs n h
  simp only [cP,PyData.canLay0,PyData.depth]
  exact⟨h1,Nat.succ_le_succ h2⟩
theorem oB: ∀(xs:List D) (n:Nat),fJ xs n=true->PyData.canLayAll0 (dA xs)=true/\PyData.depthAll (dA xs)<=n
 |[],n,h=>by simp [dA,PyData.canLayAll0,PyData.depthAll]
 |x::xs,n,h=>by
  simp only [fJ,Bool.and_eq_true] at h
  obtain⟨h1,h2⟩:=kO x n h.1
  obtain⟨h3,h4⟩:=oB xs n h.2
  simp only [dA,PyData.canLayAll0,PyData.depthAll,h1,h3,Bool.and_self,true_and]
  exact Nat.max_le.mpr ⟨h2,h4⟩
end
theorem iH (I:Inv X U σ H s) (h:bg X.K O H v d): ∀n,dG d n=true-> ∀u,RelV v u-> ∃as,Reads s.heap u (cP d) as:=
 bg.rec (motive_1:=λv d _=> ∀n,dG d n=true-> ∀u,RelV v u-> ∃as,Reads s.heap u (cP d) as) (motive_2:=λvs ds _=> ∀n,fJ ds n=true-> ∀us,aA vs us-> ∃as,ReadsAll s.heap us (dA ds) as)
  (λ_ _ u r=>by cases r; exact⟨_,by rw [cP]; exact .none⟩) (λb _ _ u r=>by cases r; exact⟨_,by rw [cP]; exact .bool b⟩) (λi _ _ u r=>by obtain⟨t,rfl⟩:=r; exact⟨_,by rw [cP]; exact .int i t⟩)
  (λ{a vs ds} h _ ih n hl u r=>by
   cases r
   cases n with
   |zero=>simp [dG] at hl
   |succ n=>
    simp only [dG] at hl
    refine ao λnO=>?_
    obtain⟨its,rv,⟨o,ho,hc,n',hd⟩,hz⟩:=I.tuple h
    obtain⟨as,ra⟩:=ih n hl its rv
    exact nO <| ⟨as,by rw [cP]; exact .tuple ho hc hd (by simpa using ra)⟩)
  (λ{a vs ds} h _ _ ih n hl u r=>by
   cases r
   cases n with
   |zero=>simp [dG] at hl
   |succ n=>
    simp only [dG] at hl
    refine ao λnO=>?_
    obtain⟨its,rv,⟨o,n',ho,hc,_,hd⟩,hz⟩:=I.list (.inl h)
    obtain⟨as,ra⟩:=ih n hl its rv
    exact nO <| ⟨_,by rw [cP]; exact .list ho hc hd (by simpa using ra)⟩)
  (λ{a vs ds} h _ ih n hl u r=>by
   cases r
   cases n with
   |zero=>simp [dG] at hl
   |succ n=>
    simp only [dG] at hl
    refine ao λnO=>?_
    obtain⟨its,rv,⟨o,n',ho,hc,_,hd⟩,hz⟩:=I.list (.inr h)
    obtain⟨as,ra⟩:=ih n hl its rv
    exact nO <| ⟨_,by rw [cP]; exact .list ho hc hd (by simpa using ra)⟩)
  (λ_ _ _ _ _ n hl _ _=>absurd hl (by simp [dG]))
  (λ_ _ us r=>by cases r; exact⟨[],by rw [dA]; exact .nil⟩)
  (λ{v d vs ds} _ _ i1 i2 n hl us r=>by
   simp only [fJ,Bool.and_eq_true] at hl
   cases r with
   |cons r1 r2=>
    obtain⟨a1,q1⟩:=i1 n hl.1 _ r1
    obtain⟨a2,q2⟩:=i2 n hl.2 _ r2
    exact⟨a1++a2,by rw [dA]; exact .cons q1 q2⟩) h
noncomputable def IH (K:PySem.W.Frag) (neg:Bool):R2:=λx y H Q=> ∃dx dy,bg K (λ_=>False) H x dx/\bg K (λ_=>False) H y dy/\dG dx 60=true/\dG dy 60=true/\Q (.bl (if neg then !jD dx dy else jD dx dy)) H
theorem Ep (hu:X.A.units + 64 < cLine):mI X (compareOp .Eq) (IH X.K false):=by
 intro U s σ H x y v u Q I rx ry ⟨dx,dy,r1,r2,l1,l2,q⟩
 obtain⟨a1,q1⟩:=iH I r1 60 l1 v rx
 obtain⟨a2,q2⟩:=iH I r2 60 l2 u ry
 have b1:=kO dx 60 l1
 have b2:=kO dy 60 l2
 exact SeqAt.compareEq_reads q1 q2 b1.1 b2.1 (by lia) ⟨.bl _,H,I,rfl,by rw [kN]; exact q⟩
theorem Er (hu:X.A.units + 64 < cLine):mI X (compareOp .NotEq) (IH X.K true):=by
 intro U s σ H x y v u Q I rx ry ⟨dx,dy,r1,r2,l1,l2,q⟩
 obtain⟨a1,q1⟩:=iH I r1 60 l1 v rx
 obtain⟨a2,q2⟩:=iH I r2 60 l2 u ry
 have b1:=kO dx 60 l1
 have b2:=kO dy 60 l2
 exact SeqAt.compareNe_reads q1 q2 b1.1 b2.1 (by lia) ⟨.bl _,H,I,rfl,by rw [kN]; exact q⟩
theorem xi {op:CmpOp} (hu:X.A.units + 64 < cLine): ∃r,mI X (compareOp op) r/\ ∀O σ (ρ:Env) H x y k v w Q,EX X.K O σ H ρ->bP X.K O true H v x->bP X.K O true H w y->cmp op x y=some k->(∀H',ag H H'->Q (.bl k) H')->r v w H Q:=by
 cases op with
 |Eq=>
  refine⟨_,Ep hu,λO σ ρ H x y k v w Q hx r1 r2 hd q=>?_⟩
  simp only [cmp] at hd
  split at hd
  .rename_i hl
   rw [Bool.and_eq_true] at hl
   cases hd
   exact⟨x,y,r1.any,r2.any,hl.1,hl.2,q _ (ag.refl _)⟩
  .cases hd
 |NotEq=>
  refine⟨_,Er hu,λO σ ρ H x y k v w Q hx r1 r2 hd q=>?_⟩
  simp only [cmp] at hd
  split at hd
  .rename_i hl
   rw [Bool.and_eq_true] at hl
   cases hd
   exact⟨x,y,r1.any,r2.any,hl.1,hl.2,q _ (ag.refl _)⟩
  .cases hd
 |Lt=>
  refine⟨_,GY,λO σ ρ H x y k v w Q hx r1 r2 hd q=>?_⟩
  cases x with
  |int i=>
   cases y with
   |int j=>cases hd; exact⟨i,j,r1.int,r2.int,q _ (ag.refl _)⟩
   |_=>cases hd
  |_=>cases hd
 |_=>exact⟨λ_ _ _ _=>False,λ_ _ _ _ _ _ _ _ _ _ _ _ h=>h.elim,λ_ _ _ _ _ _ _ _ _ _ _ _ _ hd _=>by cases hd⟩
end
end Py
namespace Py
open PySem PySem.Spec PyProof.Rows L2
section
variable {X:Cx}{a b c e:Expr}{es:List Expr}{pos:Pos}{m:Bool}
theorem II (hu:X.A.units + 64 < cLine) (ha:PE X a (tV X.K true fa)) (hb:PE X b (tV X.K true fb)) (hm:behindInMarks op b=false):
  PE X (.Compare a [op] [b] pos) (tV X.K m λρ=>(fa ρ).bind λx=>(fb ρ).bind λy=>(cmp op x y).map .bl):=by
 refine ae (xi (op:=op) hu) λr ho hr=>(zr ho ha hb hm).weak λσ H Q zz=>ao λnO=>cG zz λO ρ d hx hd k=>ae (bind_some hd) λx e1 hd=>ae (bind_some hd) λy e2 hd=>ae (map_some hd) λq e3 af=>?_
 subst af
 exact nO <| ⟨O,ρ,x,hx,e1,λv H1 s1 r1=>⟨O,ρ,y,hx.mono s1,e2,λw H2 s2 r2=>hr O σ ρ H2 x y q v w Q (hx.mono (s1.trans s2)) (r1.mono s2) r2 e3 λH' s'=>k _ H' ((s1.trans s2).trans s') (.inl (.bl _))⟩⟩
theorem IJ (hu:X.A.units + 64 < cLine) (ha:PE X a (tV X.K true fa)) (hb:PE X b (tV X.K true fb)) (hm:behindInMarks op b=false):
  PT X (.Compare a [op] [b] pos) (tB X.K λρ=>((fa ρ).bind λx=>(fb ρ).bind λy=>(cmp op x y).map .bl).bind eO):=by
 refine ae (xi (op:=op) hu) λr ho hr=>(zu ho ha hb hm).weak λσ H Q zz=>ao λnO=>cG zz λO ρ d hx hd k=>ae (bind_some hd) λz hd hz=>ae (bind_some hd) λx e1 hd=>ae (bind_some hd) λy e2 hd=>ae (map_some hd) λq e3 af=>?_
 subst af
 have MO:q=d:=Option.some.inj hz
 subst MO
 exact nO <| ⟨O,ρ,x,hx,e1,λv H1 s1 r1=>⟨O,ρ,y,hx.mono s1,e2,λw H2 s2 r2=>hr O σ ρ H2 x y q v w _ (hx.mono (s1.trans s2)) (r1.mono s2) r2 e3 λH' s'=>⟨q,rfl,k H' ((s1.trans s2).trans s')⟩⟩⟩
theorem cW (h:PE X e (tV X.K false f)) (he: ∀whole,isTrue e X.env whole=(do let v<-whole; standAt e.pos; holding [v] (truthy v))):PT X e (tB X.K λρ=>(f ρ).bind eO):=
 (C8 h he).weak λσ H Q zz=>by
  refine cG zz λO ρ k hx hd q=>ae (bind_some hd) λx e1 hd=>?_
  cases eA hd
  exact⟨O,ρ,_,hx,e1,λv H1 s1 r1=>⟨k,r1.bl,q H1 s1⟩⟩
theorem v_not (ha:PE X a (tV X.K false fa)):PE X (.UnaryOp .Not a pos) (tV X.K m λρ=>((fa ρ).bind eO).map λk=> .bl !k):=
 (Df ha).weak λσ H Q zz=>by
  refine cG zz λO ρ d hx hd k=>ae (map_some hd) λx lQ af=>?_
  subst af
  refine ae (bind_some lQ) λy e1 kP=>?_
  cases eA kP
  exact⟨O,ρ,_,hx,e1,λv H1 s1 r1=>⟨x,r1.bl,k _ H1 s1 (.inl (.bl _))⟩⟩
theorem IK {fa:Env->Option D} (ha:PT X a (tB X.K λρ=>(fa ρ).bind eO)):PT X (.UnaryOp .Not a pos) (tB X.K λρ=>(((fa ρ).bind eO).map λk=>D.bl !k).bind eO):=
 (C' ha).weak λσ H Q zz=>by
  refine ao λnO=>cG zz λO ρ d hx hd k=>ae (bind_some hd) λx lQ h2=>ae (map_some lQ) λy kP af=>?_
  subst af
  cases h2
  exact nO <| ⟨O,ρ,y,hx,kP,λH1 s1=>k H1 s1⟩
noncomputable def bo (k:Bool):BoolOp:=if k then .And else .Or
theorem Es (ha:PE X a (tV X.K false fa)):PE X (.BoolOp (bo k) [a] pos) (tV X.K m λρ=>(((fa ρ).bind eO).bind λx=>if x=k then some k else some x).map .bl):=
 (Dc (op:=bo k) ha).weak λσ H Q zz=>by
  refine cG zz λO ρ d hx hd q=>ae (map_some hd) λy lQ af=>?_
  subst af
  refine ae (bind_some lQ) λx kP hy=>ae (bind_some kP) λz e1 IL=>?_
  cases eA IL
  have:x=y:=by
   split at hy
   .rename_i e; cases hy; exact e
   .cases hy; rfl
  subst this
  exact⟨O,ρ,_,hx,e1,λv H1 s1 r1=>q v H1 s1 (.inl r1.own)⟩
theorem IM {k:Bool}{fa:Env->Option D}{fr:Env->Option Bool} (ha:PE X a (tV X.K false fa)) (hr:PE X (.BoolOp (bo k) (b::es) pos) (tV X.K false λρ=>(fr ρ).map .bl)):
  PE X (.BoolOp (bo k) (a::b::es) pos) (tV X.K m λρ=>(((fa ρ).bind eO).bind λx=>if x=k then fr ρ else some x).map .bl):=by
 cases k with
 |true=>
  refine PE.weak (Dd ha hr) λσ H Q zz=>ao λnO=>cG zz λO ρ d hx hd q=>ae (map_some hd) λy lQ af=>?_
  subst af
  refine ae (bind_some lQ) λx kP hy=>ae (bind_some kP) λz e1 IL=>nO ?_
  cases eA IL
  refine⟨O,ρ,_,hx,e1,λv H1 s1 r1=>⟨x,r1.bl,?_⟩⟩
  cases x with
  |true=>exact kA ⟨O,ρ,.bl y,hx.mono s1,by rw [if_pos rfl] at hy; show(fr ρ).map D.bl=_; rw [hy]; rfl,λv H2 s2 r2=>q v H2 (s1.trans s2) (.inl r2.own)⟩
  |false=>rw [if_neg Bool.false_ne_true] at hy; cases hy; exact mf (q _ H1 s1 (.inl (.bl _)))
 |false=>
  refine PE.weak (GQ ha hr) λσ H Q zz=>ao λnO=>cG zz λO ρ d hx hd q=>ae (map_some hd) λy lQ aO=>?_
  subst aO
  refine ae (bind_some lQ) λx kP hy=>ae (bind_some kP) λz e1 IL=>nO ?_
  cases eA IL
  refine⟨O,ρ,_,hx,e1,λv H1 s1 r1=>⟨x,r1.bl,?_⟩⟩
  cases x with
  |false=>exact mf ⟨O,ρ,.bl y,hx.mono s1,by rw [if_pos rfl] at hy; show(fr ρ).map D.bl=_; rw [hy]; rfl,λv H2 s2 r2=>q v H2 (s1.trans s2) (.inl r2.own)⟩
  |true=>rw [if_neg (by decide)] at hy; cases hy; exact kA (q _ H1 s1 (.inl (.bl _)))
theorem Et {k:Bool}{fa:Env->Option D} (ha:PT X a (tB X.K λρ=>(fa ρ).bind eO)):PW X (.BoolOp (bo k) [a] pos) (tB X.K λρ=>((fa ρ).bind eO).bind λx=>if x=k then some k else some x):=by
 have w: ∀σ H Q,tB X.K (λρ=>((fa ρ).bind eO).bind λx=>if x=k then some k else some x) σ H Q->tB X.K (λρ=>(fa ρ).bind eO) σ H Q:=λσ H Q zz=>by
  refine cG zz λO ρ y hx hd q=>ae (bind_some hd) λx lQ hy=>?_
  have:x=y:=by
   split at hy
   .rename_i e; cases hy; exact e
   .cases hy; rfl
  subst this
  exact⟨O,ρ,x,hx,lQ,q⟩
 cases k with
 |true=>exact λwh U s σ H Q I h=>zk ha wh U s σ H Q I (w σ H Q h)
 |false=>exact λwh U s σ H Q I h=>C9 ha wh U s σ H Q I (w σ H Q h)
theorem IP {k:Bool}{fa:Env->Option D}{fr:Env->Option Bool} (ha:PT X a (tB X.K λρ=>(fa ρ).bind eO)) (hr:PW X (.BoolOp (bo k) (b::es) pos) (tB X.K fr)):
  PW X (.BoolOp (bo k) (a::b::es) pos) (tB X.K λρ=>((fa ρ).bind eO).bind λx=>if x=k then fr ρ else some x):=by
 cases k with
 |true=>
  refine λwh U s σ H Q I h=>C_ ha hr wh U s σ H Q I ?_
  refine cG h λO ρ y hx hd q=>ae (bind_some hd) λx hd hy=>⟨O,ρ,x,hx,hd,λH1 s1=>?_⟩
  cases x with
  |true=>exact kA ⟨O,ρ,y,hx.mono s1,by rw [if_pos rfl] at hy; exact hy,λH2 s2=>q H2 (s1.trans s2)⟩
  |false=>rw [if_neg Bool.false_ne_true] at hy; cases hy; exact mf (q H1 s1)
 |false=>
  refine λwh U s σ H Q I h=>GN ha hr wh U s σ H Q I ?_
  refine cG h λO ρ y hx hd q=>ae (bind_some hd) λx hd hy=>⟨O,ρ,x,hx,hd,λH1 s1=>?_⟩
  cases x with
  |false=>exact mf ⟨O,ρ,y,hx.mono s1,by rw [if_pos rfl] at hy; exact hy,λH2 s2=>q H2 (s1.trans s2)⟩
  |true=>rw [if_neg (by decide)] at hy; cases hy; exact kA (q H1 s1)
theorem IQ:PA X [] (rF X.K m λ_=>some []):=λp U s σ H Q I zz=>by
 refine ao λnO=>cG zz λO ρ ds hx hd k=>?_
 cases hd
 exact nO <| dj p U s σ H Q I (k [] H (ag.refl _) .nil)
theorem eW {K:PySem.W.Frag}{O:Addr->Prop}{H:Hp}: ∀{vs:List V}{ds:List D},Paired (bP K O false H) vs ds->av K O H vs ds
 |_,_,.nil => .nil
 |_,_,.cons r t=> .cons r.own (eW t)
theorem kQ {K:PySem.W.Frag}{O:Addr->Prop}{H:Hp}{b:Bool}: ∀{vs:List V}{ds:List D},Paired (bP K O b H) vs ds->av K (λ_=>False) H vs ds
 |_,_,.nil => .nil
 |_,_,.cons r t=> .cons r.any (kQ t)
theorem Eu (h:PE X e (tV X.K m f)) (hr:PA X es (rF X.K m g)) (hs:starEach (e::es) X.env=(false,eval e X.env)::starEach es X.env):
  PA X (e::es) (rF X.K m λρ=>(f ρ).bind λx=>(g ρ).bind λxs=>some (x::xs)):=λp U s σ H Q I zz=>by
 refine ao λnO=>cG zz λO ρ ds hx hd k=>ae (bind_some hd) λx e1 hd=>ae (bind_some hd) λxs e2 hd=>?_
 cases hd
 exact nO <| bV h hr hs p U s σ H Q I ⟨O,ρ,x,hx,e1,λv H1 s1 r1=>⟨O,ρ,xs,hx.mono s1,e2,λvs H2 s2 r2=>k (v::vs) H2 (s1.trans s2) (.cons (r1.mono s2) r2)⟩⟩
theorem Cr {k:Nat}{g:Env->Option (List D)} (h:PA X es (rF X.K false g)):PE X (.Tuple es k pos) (tV X.K m λρ=>(g ρ).bind λxs=>if xs.length<=bJ then some (.tup xs) else none):=
 PE.weak (Dy h) λσ H Q zz=>by
  refine cG zz λO ρ d hx hd q=>ae (bind_some hd) λxs e1 hd=>?_
  split at hd
  .rename_i hz
   cases hd
   refine⟨O,ρ,xs,hx,e1,λvs H1 s1 r1=>?_⟩
   have mC:=eW r1
   exact⟨by rw [mC.length,cI]; exact hz,λp hp=>q _ _ (s1.trans (ag.upd hp)) (.inl (.tup (dh.of ah) (mC.mono (ag.upd hp))))⟩
  .cases hd
theorem IS {g:Env->Option (List D)} (h:PA X es (rF X.K false g)):PE X (.List es pos) (tF X.K λρ=>(g ρ).bind λxs=>if xs.length<=bJ then some xs else none):=
 PE.weak (Dz h) λσ H Q zz=>by
  refine cG zz λO ρ d hx hd q=>ae (bind_some hd) λxs e1 hd=>?_
  split at hd
  .rename_i hz
   cases hd
   refine⟨O,ρ,_,hx,e1,λvs H1 s1 r1=>?_⟩
   have mC:=eW r1
   exact⟨by rw [mC.length,cI]; exact hz,λp hp=>q p vs H1 s1 hp mC⟩
  .cases hd
theorem kS (n:Nat) (i:Int):cu n i=F_ n i:=rfl
theorem item_at {K:PySem.W.Frag}{O:Addr->Prop}{H:Hp}{vs:List V}{ds:List D}{k:Int}{d:D} (h:av K O H vs ds) (e:((cu ds.length k).bind λj=>ds[j]?)=some d): ∃v,B4 vs k=some v/\bg K O H v d:=by
 exact ae (bind_some e) λj e1 e2=>ae (h.get e2) λv h1 h2=>⟨v,by unfold B4; rw [h.length,<-kS,e1]; exact h1,h2⟩
theorem IT {fa fb:Env->Option D} (ha:PE X a (tV X.K true fa)) (hb:PE X b (tV X.K false fb)) (hs:nP b):PE X (.Subscript a b pos) (tV X.K m λρ=>(fa ρ).bind λx=>(fb ρ).bind λk=>item x k):=
 PE.weak (B5 (so.or DF) ha hb hs) λσ H Q zz=>by
  refine ao λnO=>cG zz λO ρ d hx hd q=>ae (bind_some hd) λx e1 hd=>ae (bind_some hd) λy e2 hd=>nO ?_
  refine⟨O,ρ,x,hx,e1,λv H1 s1 r1=>⟨O,ρ,y,hx.mono s1,e2,λw H2 s2 r2=>?_⟩⟩
  have mC:=r1.mono s2
  cases y with
  |int k=>
   cases x with
   |lst xs=>
    refine ao λnO=>ba mC.lst λp vs af h1 h2=>?_
    subst af
    exact ae (item_at h2 hd) λu h3 h4=>nO <| .inl ⟨p,vs,k,u,rfl,r2.int,h1,h3,q u H2 (s1.trans s2) (.inl h4)⟩
   |tup xs=>
    refine ao λnO=>ba mC.tup λp vs aO h1 h2=>?_
    subst aO
    exact ae (item_at h2 hd) λu h3 h4=>nO <| .inr ⟨p,vs,k,u,rfl,r2.int,h1,h3,q u H2 (s1.trans s2) (.inl h4)⟩
   |_=>cases hd
  |_=>cases x <;> cases hd
noncomputable def tO (K:PySem.W.Frag) (f:Env->Option (Option Int)):TO:=λσ H Q=> ∃O ρ o,EX K O σ H ρ/\f ρ=some o/\ ∀H',ag H H'->Q o H'
theorem Ew:PO X none (tO X.K λ_=>some none):=λU s σ H Q I zz=>by
 refine ao λnO=>cG zz λO ρ o hx hd k=>?_
 cases hd
 exact nO <| zB U s σ H Q I (k H (ag.refl _))
theorem Ex (h:PE X e (tV X.K false f)):PO X (some e) (tO X.K λρ=>((f ρ).bind zM).map some):=λU s σ H Q I zz=>by
 refine ao λnO=>cG zz λO ρ o hx hd k=>ae (map_some hd) λi lQ af=>?_
 subst af
 refine ae (bind_some lQ) λd e1 kP=>nO ?_
 cases xh kP
 exact zC h U s σ H Q I ⟨O,ρ,_,hx,e1,λv H1 s1 r1=>⟨i,r1.int,k H1 s1⟩⟩
theorem dc (n d:Nat) (o:Option Int):bound n d o=HT.cq n d o:=by
 cases o with
 |none=>rfl
 |some v=>
  have:=HT.nN v n d
  show(if v < 0 then max (v + (n:Int)) 0 else min v (n:Int)).toNat =_
  rw [this]
  exact Int.toNat_natCast _
theorem kT {K:PySem.W.Frag}{O:Addr->Prop}{H:Hp}{vs:List V}{ds:List D} (h:av K O H vs ds) (lo hi:Option Int):av K O H (pG vs lo hi) (vD ds lo hi):=by
 unfold pG vD
 rw [dc,dc,h.length]
 exact(h.drop _).take _
theorem IU {lo hi:Option Expr}{p2:Pos}{fa:Env->Option D}{fl fh:Env->Option (Option Int)} (ha:PE X a (tV X.K true fa)) (hl:PO X lo (tO X.K fl)) (hh:PO X hi (tO X.K fh)):
  PE X (.Subscript a (.Slice lo hi none p2) pos) (tV X.K m λρ=>(fa ρ).bind λx=>(fl ρ).bind λl=>(fh ρ).bind λh=>cutD x l h):=
 PE.weak (pF (yV.or sq zQ) ha hl hh) λσ H Q zz=>by
  refine ao λnO=>cG zz λO ρ d hx hd q=>ae (bind_some hd) λx e1 hd=>ae (bind_some hd) λl e2 hd=>ae (bind_some hd) λh e3 hd=>nO ?_
  refine⟨O,ρ,x,hx,e1,λv H1 s1 r1=>⟨O,ρ,l,hx.mono s1,e2,λH2 s2=>⟨O,ρ,h,hx.mono (s1.trans s2),e3,λH3 s3=>?_⟩⟩⟩
  have mC:=r1.mono (s2.trans s3)
  have oC:=(s1.trans s2).trans s3
  cases x with
  |lst xs=>
   refine ao λnO=>?_
   cases hd
   refine ba mC.lst λp vs af h1 h2=>?_
   subst af
   exact nO <| .inl ⟨p,vs,rfl,h1,λp' hp=>q _ _ (oC.trans (ag.upd hp)) (.inl (.lst (.inl ah) ((hx.mono oC).free (ag.refl _) hp) ((kT h2 l h).mono (ag.upd hp))))⟩
  |tup xs=>
   refine ao λnO=>ba mC.tup λp vs aO h1 h2=>?_
   subst aO
   cases hd
   refine nO ?_
   by_cases hw:bound xs.length 0 l=0/\bound xs.length xs.length h=xs.length
   .refine .inr (.inr ⟨p,vs,rfl,h1,by rw [<-dc,<-dc,h2.length]; exact hw,q _ _ oC (.inl (.tup h1 ?_))⟩)
    have e:vD xs l h=xs:=by
     unfold vD
     rw [hw.1,hw.2,List.drop_zero,Nat.sub_zero,List.take_length]
    rw [e]
    exact h2
   .refine .inr (.inl ⟨p,vs,rfl,h1,?_,λp' hp=>q _ _ (oC.trans (ag.upd hp)) (.inl (.tup (dh.of ah) ((kT h2 l h).mono (ag.upd hp))))⟩)
    rw [<-dc,<-dc,h2.length]
    exact hw
  |_=>cases hd
theorem MT {lo hi:Option Expr}{p2:Pos}{fa:Env->Option D}{fl fh:Env->Option (Option Int)} (ha:PE X a (tV X.K true fa)) (hl:PO X lo (tO X.K fl)) (hh:PO X hi (tO X.K fh)):
  PE X (.Subscript a (.Slice lo hi none p2) pos) (tF X.K λρ=>((fa ρ).bind λx=>(fl ρ).bind λl=>(fh ρ).bind λh=>cutD x l h).bind λd=>match d with| .lst ds=>some ds|_=>none):=
 PE.weak (pF sq ha hl hh) λσ H Q zz=>by
  refine ao λnO=>cG zz λO ρ ds hx hd q=>ae (bind_some hd) λd hd hz=>ae (bind_some hd) λx e1 hd=>ae (bind_some hd) λl e2 hd=>ae (bind_some hd) λh e3 hd=>nO ?_
  refine⟨O,ρ,x,hx,e1,λv H1 s1 r1=>⟨O,ρ,l,hx.mono s1,e2,λH2 s2=>⟨O,ρ,h,hx.mono (s1.trans s2),e3,λH3 s3=>?_⟩⟩⟩
  have mC:=r1.mono (s2.trans s3)
  have oC:=(s1.trans s2).trans s3
  cases x with
  |lst xs=>
   refine ao λnO=>?_
   cases hd
   cases hz
   refine ba mC.lst λp vs af h1 h2=>?_
   subst af
   exact nO <| ⟨p,vs,rfl,h1,λp' hp=>q p' _ H3 oC hp (kT h2 l h)⟩
  |tup xs=>cases hd; cases hz
  |_=>cases hd
end
end Py
namespace Py
open PySem PySem.Spec PyProof.Rows L2
section
variable {X:Cx}{a b c e e0:Expr}{es:List Expr}{pos p:Pos}{m:Bool}
noncomputable def s_ (K:PySem.W.Frag) (n:Nat) (f:List D->Option D):Sp:=λvs H Q _=> ∃O ds d,(∀a,O a-> ∃u,H a=some u/\qb u)/\av K O H vs ds/\f ds=some d/\vs.length=n/\ ∀v H',ag H H'->bg K O H' v d->Q v H'
theorem Ey {k:Nat}{fa:Addr}{fd:FuncData}{ps:List Str}{x:Str}{g:Bool->Env->Option (List D)}{f:List D->Option D}{ln:Env->Bool} (F:g_ X.prog X.w X.K X.mg X.base uA k fa fd ps (s_ X.K ps.length f)) (hr:dR k X.A) (hg:Gl X x) (hm:X.mg x=some (.ref fa))
  (hk:PySem.W.keepIn X.K (.ref fa)=true) (hb:Binds X.K fd ps []) (hf: ∀ds d,f ds=some d->ds.length=ps.length) (ha: ∀b,PA X (e::es) (rF X.K b (g b))) (hl: ∀ρ,ln ρ=false->g true ρ=g false ρ)
  (yU:(x == ("__debug__":Str))=false) (he:starEach (e::es) X.env=(false,eval e X.env)::starEach es X.env) (i7:(backTo pos (starEach es X.env)).any (·.1)=false):
  PE X (.Call (.Name x p) (e::es) [] pos) (tV X.K m λρ=>(g true ρ).bind λxs=>(f xs).bind λd=>if ln ρ && !aB d then none else some d):=by
 intro U s σ H Q I ⟨O,ρ,d,hx,hd,q⟩
 refine ae (bind_some hd) λxs e1 hd=>ae (bind_some hd) λd' e2 hd=>?_
 cases MU:ln ρ with
 |false=>
  rw [MU] at hd
  simp only [Bool.false_and,Bool.false_eq_true,if_false] at hd
  cases hd
  rw [hl ρ MU] at e1
  refine sf F hr hg hm hk hb .nil wk (ha false) yU he i7 U s σ H Q I ⟨O,ρ,xs,hx,e1,λvs H1 s1 r1=>?_⟩
  have mC:=eW r1
  show s_ X.K ps.length f (vs++[]) H1 Q E0
  rw [List.append_nil]
  exact⟨O,xs,d,(hx.mono s1).live,mC,e2,by rw [mC.length]; exact hf _ _ e2,λv H2 s2 r2=>q v H2 (s1.trans s2) (.inl r2)⟩
 |true=>
  rw [MU] at hd
  cases hn:aB d' with
  |false=>rw [hn] at hd; cases hd
  |true=>
   rw [hn] at hd
   simp only [Bool.not_true,Bool.and_false,Bool.false_eq_true,if_false] at hd
   cases hd
   refine sf F hr hg hm hk hb .nil wk (ha true) yU he i7 U s σ H Q I ⟨O,ρ,xs,hx,e1,λvs H1 s1 r1=>?_⟩
   have mC:=kQ r1
   show s_ X.K ps.length f (vs++[]) H1 Q E0
   rw [List.append_nil]
   exact⟨λ_=>False,xs,d,λ_ z=>z.elim,mC,e2,by rw [mC.length]; exact hf _ _ e2,λv H2 s2 r2=>q v H2 (s1.trans s2) (.inl (u0 r2 hn))⟩
theorem kU (mk: ∀t,PA X (e::es) t->PE X e0 (LQ r t)) (ha:PA X (e::es) (rF X.K true g))
  (hr: ∀O σ (ρ:Env) H ds vs d Q,EX X.K O σ H ρ->Paired (bP X.K O true H) vs ds->pf ds=some d->(∀v H',ag H H'->bP X.K O m H' v d->Q v H')->r vs H Q):PE X e0 (tV X.K m λρ=>(g ρ).bind pf):=
 (mk _ ha).weak λσ H Q zz=>by
  exact cG zz λO ρ d hx hd q=>ae (bind_some hd) λxs e1 hd=>⟨O,ρ,xs,hx,e1,λvs H1 s1 r1=>hr O σ ρ H1 xs vs d Q (hx.mono s1) r1 hd λv H' s' r'=>q v H' (s1.trans s') r'⟩
theorem cL {K:PySem.W.Frag}{O:Addr->Prop}{H:Hp}{b:Bool}{vs:List V}{d:D} (h:Paired (bP K O b H) vs [d]): ∃v,vs=[v]/\bP K O b H v d:=by
 cases h with
 |cons r t=>cases t; exact⟨_,rfl,r⟩
theorem cM {K:PySem.W.Frag}{O:Addr->Prop}{H:Hp}: ∀{vs:List V}{ds:List D}{ns:List Int},av K O H vs ds->aX ds=some ns->vs=ns.map V.int
 |_,_,_,.nil,h=>by cases h; rfl
 |_,_,ns,.cons (d:=d) r t,h=>by
  cases d with
  |int i=>
   simp only [aX] at h
   refine ae (map_some h) λlR h1 af=>?_
   subst af
   rw [List.map_cons,<-cM t h1,r.int_inv]
  |_=>cases h
noncomputable def MV (K:PySem.W.Frag):List V->Hp->VK->Prop:=λxs H Q=> ∃p n ns,xs=[.ref p]/\(dg K H p ((n::ns).map V.int)\/dh K H p ((n::ns).map V.int))/\Q (.int (gp n ns)) H
theorem u5 (hc:X.calm=true):cN X (.builtin "min") (MV X.K):=by
 intro U s σ H xs us Q I r ⟨p,n,ns,e,hq,q⟩
 subst e
 refine ae (vals1 r) λu af rx=>?_
 subst af
 cases rx
 have fin: ∀(h':Heap) (tk:Nat) (t:Tok),(∀b o,s.heap.get? b=some o->h'.get? b=some o)->EP X U σ Q (.int (gp n ns) t) {s with heap:=h',toks:=tk}:=λh' tk t k=>⟨.int _,H,I.kept k,⟨_,rfl⟩,q⟩
 rcases hq with hq|hq
 .exact bA (I.list hq) λits rv pl hz=>jF (I.ok.hd hc) (.inl pl.isList) (intsAre_of rv) fin
 .exact bA (I.tuple hq) λits rv pl hz=>jF (I.ok.hd hc) (.inr pl) (intsAre_of rv) fin
noncomputable def fm:rg->Str
 | .len =>"len"| .tuple =>"tuple"| .list =>"list"| .min =>"min"| .sorted =>"sorted"
theorem oD {K:PySem.W.Frag}{O:Addr->Prop}{H:Hp}: ∀{vs:List V}{ds:List D}{ks:List (List Int)},av K O H vs ds->dS ds=some ks->Paired (TupAt H) vs ks/\ ∀k∈ks,k≠[]
 |_,_,_,.nil,h=>by cases h; exact⟨.nil,λ_ z=>nomatch z⟩
 |_,_,ks,.cons (d:=d) r t,h=>by
  cases d with
  |tup xs=>
   unfold dS at h
   refine ae (bind_some h) λk h1 h=>?_
   split at h
   .cases h
   .rename_i hk
    refine ae (map_some h) λTR h2 af=>?_
    subst af
    refine ba r.iG λa us aO q1 q2=>?_
    subst aO
    have e:=cM q2 h1
    subst e
    obtain⟨p1,p2⟩:=oD t h2
    exact⟨.cons ⟨a,rfl,q1⟩ p1,λz hz=>(List.mem_cons.mp hz).elim (λe=>by rw [e]; exact hk) (p2 z)⟩
  |_=>cases h
theorem tf {K:PySem.W.Frag}{O:Addr->Prop}{H:Hp}{u:V}{k:List Int} (h:TupAt H u k):bg K O H u (mh k):=by
 refine ae h λb af hb=>?_
 try clear h
 subst af
 exact .tup hb (et k)
theorem kW {K:PySem.W.Frag}{O:Addr->Prop}{H:Hp}: ∀{us:List V}{ks:List (List Int)},Paired (TupAt H) us ks->av K O H us (ks.map mh)
 |_,_,.nil => .nil
 |_,_,.cons h t=> .cons (tf h) (kW t)
theorem m6 {q:rg}{g:Env->Option (List D)} (hu:X.A.units + 64 < cLine) (hc:X.calm=true) (hg:Gl X (fm q)) (hm:X.mg (fm q)=none) (ha:PA X (e::es) (rF X.K true g))
  (he:starEach (e::es) X.env=(false,eval e X.env)::starEach es X.env) (i7:(backTo pos (starEach es X.env)).any (·.1)=false):
  PE X (.Call (.Name (fm q) p) (e::es) [] pos) (tV X.K m λρ=>(g ρ).bind (prim q)):=by
 have no: ∀(f:Env->Option (List D)),∀ρ,((f ρ).bind λ_=>(none:Option D))=none:=λf ρ=>by cases f ρ <;> rfl
 cases q with
 |len=>
  refine kU (λt ht=>fH nR hg hm PySem.boot_len ht (by decide) (by decide) he i7) ha λO σ ρ H ds vs d Q hx r hd q=>?_
  cases ds with
  |nil=>cases hd
  |cons x t=>
   cases t with
   |cons _ _=>cases x <;> cases hd
   |nil=>
    refine ae (cL r) λv af rv=>?_
    subst af
    refine ao λnO=>ae (map_some (show(seq x).map (λys=>D.int ys.length)=some d from hd)) λys h1 aO=>?_
    subst aO
    refine ba (rv.seq h1) λp us eN h2 h3=>?_
    subst eN
    exact nO <| ⟨p,us,rfl,h2,by rw [h3.length]; exact q _ _ (ag.refl _) (.inl (.int _))⟩
 |tuple=>
  refine kU (λt ht=>dX me hg hm boot_tuple ht (by decide) (by decide) he i7) ha λO σ ρ H ds vs d Q hx r hd q=>?_
  cases ds with
  |nil=>cases hd
  |cons x t=>
   cases t with
   |cons _ _=>cases hd
   |nil=>
    refine ao λnO=>ae (cL r) λv w6 rv=>?_
    subst w6
    refine ae (map_some hd) λys h1 MW=>?_
    subst MW
    refine ba (rv.seq h1) λp us MX h2 h3=>?_
    subst MX
    refine nO ?_
    refine⟨p,us,rfl,?_⟩
    rcases h2 with h2|h2
    .exact .inl ⟨h2,λl hl=>q _ _ (ag.upd hl) (.inl (.tup (dh.of ah) (h3.mono (ag.upd hl))))⟩
    .exact .inr ⟨h2,q _ _ (ag.refl _) (.inl (.tup h2 h3))⟩
 |list=>
  refine kU (λt ht=>dX hU hg hm boot_list ht (by decide) (by decide) he i7) ha λO σ ρ H ds vs d Q hx r hd q=>?_
  cases ds with
  |nil=>cases hd
  |cons x t=>
   cases t with
   |cons _ _=>cases hd
   |nil=>
    refine ao λnO=>ae (cL r) λv MY rv=>?_
    subst MY
    refine ae (map_some hd) λys h1 MZ=>?_
    subst MZ
    refine ba (rv.seq h1) λp us M0 h2 h3=>?_
    subst M0
    exact nO <| ⟨p,us,rfl,h2,λl hl=>q _ _ (ag.upd hl) (.inl (.lst (.inl ah) (hx.free (ag.refl _) hl) (h3.mono (ag.upd hl))))⟩
 |min=>
  refine kU (λt ht=>fH ((u5 hc).or (uX hc hu)) hg hm boot_min ht (by decide) (by decide) he i7) ha λO σ ρ H ds vs d Q hx r hd q=>?_
  cases ds with
  |nil=>cases hd
  |cons x t=>
   cases t with
   |nil=>
    refine ao λnO=>ae (cL r) λv Ez rv=>?_
    subst Ez
    simp only [prim] at hd
    refine ae (bind_some hd) λys h1 hd=>ba (rv.seq h1) λp us EA h3 h4=>?_
    subst EA
    refine nO ?_
    cases h2:aX ys with
    |some ns=>
     rw [h2] at hd
     cases ns with
     |nil=>cases hd
     |cons n ns=>
      cases hd
      have:=cM h4 h2
      subst this
      exact .inl ⟨p,n,ns,rfl,h3,q _ _ (ag.refl _) (.inl (.int _))⟩
    |none=>
     rw [h2] at hd
     cases x with
     |lst zs=>
      refine ao λnO=>?_
      cases h1
      refine ba rv.lst λp' TU e' M1 KW=>?_
      cases e'
      refine ae (bind_some hd) λks h5 hd=>nO ?_
      cases ks with
      |nil=>cases hd
      |cons k ks=>
       cases hd
       exact .inr ⟨p,TU,k,ks,rfl,M1,(oD KW h5).1,λu hu=>q _ _ (ag.refl _) (.inl (tf hu))⟩
     |_=>cases hd
   |cons y t=>cases hd
 |sorted=>
  refine kU (λt ht=>fH ox hg hm boot_sorted ht (by decide) (by decide) he i7) ha λO σ ρ H ds vs d Q hx r hd q=>?_
  cases ds with
  |nil=>cases hd
  |cons x t=>
   cases t with
   |nil=>
    refine ao λnO=>ae (cL r) λv EB rv=>?_
    subst EB
    refine ae (bind_some (show(seq x).bind (λys=>(dS ys).map λks=>D.lst ((bI.aK ks).map mh))=some d from hd)) λys h1 hd=>ae (map_some hd) λks h5 M3=>?_
    subst M3
    refine ba (rv.seq h1) λp us M4 h3 h4=>?_
    subst M4
    obtain⟨p1,p2⟩:=oD h4 h5
    exact nO <| ⟨p,us,ks,rfl,h3,p1,p2,λl ws hl pw=>q _ _ (ag.upd hl) (.inl (.lst (.inl ah) (hx.free (ag.refl _) hl) ((kW pw).mono (ag.upd hl))))⟩
   |cons y t=>cases hd
theorem f_list {g:Env->Option (List D)} (hg:Gl X "list") (hm:X.mg "list"=none) (ha:PA X (e::es) (rF X.K true g))
  (he:starEach (e::es) X.env=(false,eval e X.env)::starEach es X.env) (i7:(backTo pos (starEach es X.env)).any (·.1)=false):
  PE X (.Call (.Name "list" p) (e::es) [] pos) (tF X.K λρ=>(g ρ).bind λxs=>match xs with|[x]=>seq x|_=>none):=
 PE.weak (dX hU hg hm boot_list ha (by decide) (by decide) he i7) λσ H Q zz=>by
  refine cG zz λO ρ ds hx hd q=>ae (bind_some hd) λxs e1 hd=>⟨O,ρ,xs,hx,e1,λvs H1 s1 r=>?_⟩
  cases xs with
  |nil=>cases hd
  |cons x t=>
   cases t with
   |cons _ _=>cases hd
   |nil=>
    refine ae (cL r) λv af rv=>?_
    subst af
    refine ba (rv.seq hd) λp us aO h2 h3=>?_
    subst aO
    exact⟨p,us,rfl,h2,λl hl=>q l us H1 s1 hl h3⟩
noncomputable def tj:Bool->String
 |true=>"bool"|false=>"int"
noncomputable def M5 (b:Bool):List V->Hp->VK->Prop:=λxs H Q=> ∃i:Int,xs=[.int i,.ty (tj b)]/\Q (.bl !b) H
theorem xj {b:Bool}:cN X (.builtin "isinstance") (M5 b):=by
 intro U s σ H xs us Q I r ⟨i,e,q⟩
 subst e
 obtain⟨u,u',rfl,⟨tk,rfl⟩,rt⟩:=vals2 r
 cases rt
 cases b with
 |false=>exact IsiPair.int_int ⟨.bl _,H,I,rfl,q⟩
 |true=>exact IsiPair.int_bool ⟨.bl _,H,I.tok _,rfl,q⟩
theorem AG (b:Bool):bootBuiltins (Str.ofString (tj b))=some (.type (tj b)):=by
 cases b
 .exact boot_int
 .exact boot_bool
theorem IV {b:Bool}{f:Env->Option D}{p':Pos} (ha:PE X a (tV X.K false f)) (hg:Gl X "isinstance") (hm:X.mg "isinstance"=none) (TV:Gl X (Str.ofString (tj b))) (TX:X.mg (Str.ofString (tj b))=none)
  (hs:starEach [a,.Name (Str.ofString (tj b)) p'] X.env=(false,eval a X.env)::starEach [.Name (Str.ofString (tj b)) p'] X.env):
  PE X (.Call (.Name "isinstance" p) [a,.Name (Str.ofString (tj b)) p'] [] pos) (tV X.K m λρ=>((f ρ).bind zM).map λ_=> .bl !b):=by
 have pt:PE X (.Name (Str.ofString (tj b)) p') (tC (.ty (tj b))):=zj TV TX (AG b) rfl (by cases b <;> decide) (by cases b <;> decide)
 refine PE.weak (fH (xj (b:=b)) hg hm boot_isinstance (bV ha (bV pt dj rfl) hs) (by decide) (by decide) hs (by rfl)) λσ H Q zz=>ao λnO=>cG zz λO ρ d hx hd q=>ae (map_some hd) λi e1 af=>?_
 subst af
 refine ae (bind_some e1) λx e1 e2=>nO ?_
 have e3:x= .int i:=by cases x <;> first|(cases e2; rfl)|cases e2
 subst e3
 exact⟨O,ρ,_,hx,e1,λv H1 s1 r1=>⟨i,by rw [r1.int],q _ H1 s1 (.inl (.bl _))⟩⟩
noncomputable def mD (lo:Int):Nat->List V
 |0=>[]
 |n + 1=> .int lo::mD (lo + 1) n
theorem jj {K:PySem.W.Frag}{O:Addr->Prop}{H:Hp}: ∀(n:Nat) (lo:Int),av K O H (mD lo n) (br lo n)
 |0,_=> .nil
 |n + 1,lo=> .cons (.int lo) (jj n (lo + 1))
theorem fM: ∀(n:Nat) (lo:Int),(mD lo n).length =n
 |0,_=>rfl
 |n + 1,lo=>by rw [mD,List.length_cons,fM n]
theorem jk: ∀(n:Nat) (lo:Int) (us:List Value),us.length=n->(∀(j:Nat) (v:Value),us[j]?=some v-> ∃t,v=Value.int (lo + j) t)->aA (mD lo n) us
 |0,lo,us,hl,_=>by
  cases us with
  |nil=>exact .nil
  |cons _ _=>cases hl
 |n + 1,lo,us,hl,h=>by
  cases us with
  |nil=>cases hl
  |cons u us=>
   obtain⟨t,e⟩:=h 0 u rfl
   refine .cons ⟨t,by simpa using e⟩ (jk n (lo + 1) us (by simpa using hl) λj v hj=>?_)
   obtain⟨t',e'⟩:=h (j + 1) v (by simpa using hj)
   refine⟨t',?_⟩
   rw [e']
   congr 1
   push_cast
   lia
theorem tm (hg:Gl X "range") (hm:X.mg "range"=none) (ha:PA X [a] t) (hs:starEach [a] X.env=[(false,eval a X.env)]):PE X (.Call (.Name "range" p) [a] [] pos) (λσ H Q=>t σ H λvs H1=> ∃hi:Int,vs=[.int hi]/\ ∀p,H1 p=none->Q (.ref p) (L2.upd H1 p (.dQ 0 hi))):=by
 intro U s σ H Q I h
 refine Call_ (gJ I hg hm boot_range (PyProof.Rows.callWith_type1 (bz (ha pos U s σ H _ I h) λus s1 ⟨vs,H1,I1,r1,q1⟩=>?_) hs rfl))
 refine ae q1 λhi e q=>?_
 subst e
 obtain⟨u,rfl,t',rfl⟩:=vals1 r1
 refine call_range_1 ⟨.ref s1.heap.objs.size,_,I1.laid (o:= .dQ 0 hi) (λb o e=>Heap.get?_push_of_some _ e) (Nat.le_refl _) ⟨_,_,_,Heap.get?_push_size _ rfl⟩,rfl,q _ I1.fresh⟩
theorem rG (hc:X.calm=true):cN X (.type "list") (λxs H Q=> ∃(p:Addr) (hi:Int),xs=[.ref p]/\H p=some (.dQ 0 hi)/\(-(2 ^ 62)<=hi/\hi<=bJ)/\ ∀l,H l=none->Q (.ref l) (L2.upd H l (.lst (mD 0 hi.toNat)))):=by
 intro U s σ H xs us Q I r ⟨p,hi,e,hp,⟨EC,hl⟩,q⟩
 subst e
 refine ae (vals1 r) λu af rx=>?_
 subst af
 cases rx
 refine Gw ((show aP X.prog X.w H s.heap p (.dQ 0 hi) from I.aN p _ hp)) λt u v ho=>?_
 have iI:bJ=16777216:=rfl
 have xk:Builtin.Range.rangeSize 0 hi 1=((hi.toNat:Nat):Int):=by rw [rangeSize_one]; split <;> lia
 refine call_list_range (n:=hi.toNat) (I.ok.hd hc) ho (small_one (by lia) (by lia) EC (by lia)) xk (by lia) λh' tk D5 c' kp hg gw=>⟨.ref s.heap.objs.size,_,I.laid (o:= .lst (mD 0 hi.toNat)) kp (Nat.le_refl _) ⟨by rw [fM,cI]; lia,D5.toList,c',jk _ _ _ (by simpa using gw.1) (λj v hj=>?_),by simpa using hg⟩,rfl,q _ I.fresh⟩
 obtain⟨t',e'⟩:=gw.2 j v (by simpa using hj)
 exact⟨t',by rw [e']; simp⟩
theorem qc (hc:X.calm=true):cN X (.type "tuple") (λxs H Q=> ∃(p:Addr) (hi:Int),xs=[.ref p]/\H p=some (.dQ 0 hi)/\(-(2 ^ 62)<=hi/\hi<=bJ)/\ ∀l,H l=none->Q (.ref l) (L2.upd H l (.tup (mD 0 hi.toNat)))):=by
 intro U s σ H xs us Q I r ⟨p,hi,e,hp,⟨EC,hl⟩,q⟩
 subst e
 refine ae (vals1 r) λu af rx=>?_
 subst af
 cases rx
 refine Gw ((show aP X.prog X.w H s.heap p (.dQ 0 hi) from I.aN p _ hp)) λt u v ho=>?_
 have iI:bJ=16777216:=rfl
 have xk:Builtin.Range.rangeSize 0 hi 1=((hi.toNat:Nat):Int):=by rw [rangeSize_one]; split <;> lia
 refine uK (n:=hi.toNat) (I.ok.hd hc) ho (small_one (by lia) (by lia) EC (by lia)) xk (by lia) λh' tk acc kp gw=>?_
 have I1:Inv X U σ H {s with heap:=h'}:=I.kept (t':=s.toks) kp
 have I2:Inv X U σ (L2.upd H h'.objs.size (.tup (mD 0 hi.toNat))) {s with heap:=h'.push {cls:= .type "tuple",data:= .seq acc},toks:=tk}:=
  I1.laid (t':=tk) (λb o e=>Heap.get?_push_of_some _ e) (Nat.le_refl _) (show aP X.prog X.w _ _ _ (.tup (mD 0 hi.toNat)) from⟨by rw [fM,cI]; lia,acc.toList,jk _ _ _ (by simpa using gw.1) (λj v hj=>by
   obtain⟨t',e'⟩:=gw.2 j v (by simpa using hj)
   exact⟨t',by rw [e']; simp⟩),by simpa using i5.new h' acc⟩)
 exact⟨.ref h'.objs.size,_,I2,rfl,q _ (I1.aN.fresh (Nat.le_refl _))⟩
theorem xl {q1 pA:Pos}{g:Env->Option (List D)} (hc:X.calm=true) (hg:Gl X "range") (hm:X.mg "range"=none) (IW:Gl X "tuple") (Hw:X.mg "tuple"=none) (ha:PA X [a] (rF X.K false g)) (hl: ∀ρ ds,g ρ=some ds->ds.length=1) (hs:starEach [a] X.env=[(false,eval a X.env)]):
  PE X (.Call (.Name "tuple" q1) [.Call (.Name "range" p) [a] [] pos] [] pA) (tV X.K m λρ=>((g ρ).bind dn).map .tup):=by
 have h1:=tm (p:=p) (pos:=pos) hg hm ha hs
 refine PE.weak (dX (qc hc) IW Hw PyProof.Rows.boot_tuple (bV h1 dj rfl) (by decide) (by decide) rfl rfl) λσ H Q zz=>ao λnO=>cG zz λO ρ d hx hd q=>ae (map_some hd) λds qV af=>?_
 subst af
 refine nO ?_
 clear hd
 refine ae (bind_some qV) λxs e1 hd=>?_
 clear qV
 have nI:=hl ρ xs e1
 refine⟨O,ρ,xs,hx,e1,λvs H1 s1 r=>?_⟩
 refine ao λnO=>?_
 cases xs with
 |nil=>cases nI
 |cons x t=>
  refine nO <| ao λnO=>?_
  cases t with
  |cons _ _=>cases nI
  |nil=>
   refine nO <| ae (cL r) λv aO rv=>?_
   subst aO
   refine ao λnO=>?_
   cases x with
   |int n=>
    refine nO ?_
    simp only [dn] at hd
    split at hd
    .rename_i hz
     cases hd
     cases rv.int
     exact⟨n,rfl,λp hp=>⟨p,n,rfl,ah,hz,λl hl=>q _ _ ((s1.trans (ag.upd hp)).trans (ag.upd hl)) (.inl (.tup (dh.of ah) (jj _ _)))⟩⟩
    .cases hd
   |_=>cases hd
theorem m7: ∀{ns:List Int}{j:Nat},dI k ns=some j->ns[j]?=some k/\ ∀m,m < j->ns[m]?≠some k
 |[],_,h=>by cases h
 |n::r,j,h=>by
  unfold dI at h
  split at h
  .rename_i e; cases h; subst e; exact⟨rfl,λm hm=>absurd hm (Nat.not_lt_zero _)⟩
  .rename_i ne
   refine ae (map_some h) λi h1 af=>?_
   subst af
   obtain⟨h2,h3⟩:=m7 h1
   refine⟨h2,λm hm=>?_⟩
   cases m with
   |zero=>exact λz=>ne (by simpa using z)
   |succ m=>exact h3 m (by lia)
theorem AH {oe a0:Expr}{ap cp:Pos}{fo:Env->Option D}{g:Env->Option (List D)} (ho:PE X oe (tV X.K true fo)) (ha:PA X [a0] (rF X.K true g)) (hb:attributeBase oe "index" X.env (eval oe X.env)=eval oe X.env) (hl:(ap.endLine == cp.line)=true) (hs:starEach [a0] X.env=[(false,eval a0 X.env)]):
  PE X (.Call (.Attribute oe "index" ap) [a0] [] cp) (tV X.K m λρ=>(fo ρ).bind λx=>(g ρ).bind λxs=>dZ .index x xs):=
 (HD PySem.F.plainAttrs_tuple PySem.F.slot_tuple_index PySem.F.type_tuple_index wC ho ha hb (by rw [hs]; rfl) hl hs rfl).weak λσ H Q zz=>by
  refine ao λnO=>cG zz λO ρ d hx hd k=>ae (bind_some hd) λx e1 hd=>ae (bind_some hd) λxs e2 hd=>nO ?_
  have key: ∃ys kk,x= .tup ys/\xs=[.int kk]/\ ∃ns,aX ys=some ns/\ ∃j:Nat,dI kk ns=some j/\d= .int (j:Int):=by
   cases x with
   |tup ys=>
    cases xs with
    |nil=>cases hd
    |cons y t=>
     cases t with
     |cons _ _=>cases y <;> cases hd
     |nil=>
      cases y with
      |int kk=>
       exact ao λnO=>ae (bind_some (show(aX ys).bind (λns=>(dI kk ns).map λ(i:Nat)=>D.int (i:Int))=some d from hd)) λns e3 h4=>ae (map_some h4) λj e4 e5=>nO <| ⟨ys,kk,rfl,rfl,ns,e3,j,e4,e5.symm⟩
      |_=>cases hd
   |_=>cases hd
  refine ao λnO=>?_
  obtain⟨ys,kk,rfl,rfl,ns,e3,j,e4,rfl⟩:=key
  refine nO ?_
  refine⟨O,ρ,.tup ys,hx,e1,λv H1 s1 r1=>?_⟩
  refine ao λnO=>ba r1.tup λa vs af q1 p1=>?_
  subst af
  refine nO ?_
  refine⟨⟨a,vs,rfl,q1⟩,O,ρ,[.int kk],hx.mono s1,e2,λus H2 s2 r2=>?_⟩
  refine ao λnO=>ae (cL r2) λu aO ru=>?_
  subst aO
  have hv:vs=ns.map V.int:=cM p1 e3
  subst hv
  obtain⟨h1,h2⟩:=m7 e4
  exact nO <| ⟨a,ns,kk,j,rfl,by rw [ru.int],iF s2 q1,h1,h2,k _ _ (s1.trans s2) (.inl (.int _))⟩
inductive Sk where
 |tup|lst|bF (o:Obj) (ks:List (List Int)) (vs:List V)
noncomputable abbrev Gk:=Option (Sk×V×List D)
noncomputable def eC (K:PySem.W.Frag) (O:Addr->Prop) (H:Hp):Gk->Prop
 |none=>True
 |some (.lst,v,ds)=> ∃a vs,v= .ref a/\dg K H a vs/\av K O H vs ds
 |some (.tup,v,ds)=> ∃a vs,v= .ref a/\dh K H a vs/\av K O H vs ds
 |some (.bF o ks vs,v,ds)=> ∃a,v= .ref a/\H a=some (.cZ o (fF 0 ks vs))/\ks.length=vs.length/\kM 0 ks/\av K O H vs ds
theorem eC.mono {K:PySem.W.Frag}{O:Addr->Prop}{H H':Hp}{fD:Gk} (h:eC K O H fD) (s:ag H H'):eC K O H' fD:=by
 rcases fD with _|⟨_|_|⟨o,ks,vs⟩,v,ds⟩
 .trivial
 .obtain⟨a,vs,e,h1,h2⟩:=h; exact⟨a,vs,e,iF (K:=K) s h1,h2.mono s⟩
 .obtain⟨a,vs,e,h1,h2⟩:=h; exact⟨a,vs,e,s.seq h1,h2.mono s⟩
 .obtain⟨a,e,h1,h2,h3,h4⟩:=h; exact⟨a,e,s _ _ h1,h2,h3,h4.mono s⟩
theorem eC.own {K:PySem.W.Frag}{O:Addr->Prop}{H:Hp}{fD:Gk}{p:Addr} (h:eC K O H fD) (hp:H p=none):eC K (λa=>O a\/a=p) H fD:=by
 rcases fD with _|⟨_|_|⟨o,ks,vs⟩,v,ds⟩
 .trivial
 .obtain⟨a,vs,e,h1,h2⟩:=h; exact⟨a,vs,e,h1,h2.own hp⟩
 .obtain⟨a,vs,e,h1,h2⟩:=h; exact⟨a,vs,e,h1,h2.own hp⟩
 .obtain⟨a,e,h1,h2,h3,h4⟩:=h; exact⟨a,e,h1,h2,h3,h4.own hp⟩
noncomputable def ED (K:PySem.W.Frag) (O:Addr->Prop) (b:Bool) (H:Hp):Gk->Prop
 |none=>True
 |some (.lst,v,ds)=>bP K O b H v (.lst ds)
 |some (.tup,v,ds)=>bP K O b H v (.tup ds)
 |some (.bF o ks vs,v,ds)=>eC K O H (some (.bF o ks vs,v,ds))
theorem ED.ok {K:PySem.W.Frag}{O:Addr->Prop}{H:Hp}{b:Bool}{fD:Gk} (h:ED K O b H fD):eC K O H fD:=by
 rcases fD with _|⟨_|_|⟨o,ks,vs⟩,v,ds⟩
 .trivial
 .exact bP.tup h
 .exact bP.lst h
 .exact h
noncomputable def rH (K:PySem.W.Frag) (J:It) (fD:Gk) (ds:List D):Prop:=
 ∀O H,eC K O H fD->(∀i,i < ds.length->J.go i H)/\(∀i x H' d,J.vQ i H x H'->ds[i]?=some d->ag H H'/\bg K O H' x d)/\J.stop ds.length H
noncomputable def tI (K:PySem.W.Frag) (b:Bool) (f:Env->Option (List D)):TI:=λσ H R=> ∃O ρ ds,EX K O σ H ρ/\f ρ=some ds/\
 ∀J fD H',ag H H'->rH K J fD ds->ED K O b H' fD->R J H'
theorem EE {K:PySem.W.Frag}{a:Addr}{ds:List D}:rH K (LD K a) (some (.lst,.ref a,ds)) ds:=λO H zz=>by
 refine ba zz λb vs e h1 h2=>?_
 cases e
 have l:=h2.length
 refine⟨λi hi=>?_,λi x H' d ⟨e,y⟩ hd=>?_,vs,h1,Nat.le_of_eq l⟩
 .have gw:i < vs.length:=by lia
  exact⟨vs,vs[i],h1,by simp [gw]⟩
 .subst e
  refine ae (h2.get hd) λv e1 e2=>?_
  have:=y vs h1
  rw [e1] at this
  cases this
  exact⟨ag.refl _,e2⟩
theorem EF {K:PySem.W.Frag}{a:Addr}{ds:List D}:rH K (LF K a) (some (.tup,.ref a,ds)) ds:=λO H zz=>by
 refine ba zz λb vs e h1 h2=>?_
 cases e
 have l:=h2.length
 refine⟨λi hi=>?_,λi x H' d ⟨e,y⟩ hd=>?_,vs,h1,Nat.le_of_eq l⟩
 .have gw:i < vs.length:=by lia
  exact⟨vs,vs[i],h1,by simp [gw]⟩
 .subst e
  refine ae (h2.get hd) λv e1 e2=>?_
  have:=y vs h1
  rw [e1] at this
  cases this
  exact⟨ag.refl _,e2⟩
theorem fN: ∀(n:Nat) (lo:Int),(br lo n).length =n
 |0,_=>rfl
 |n + 1,lo=>by rw [br,List.length_cons,fN n]
theorem qd: ∀(n:Nat) (lo:Int) (i:Nat) (d:D),(br lo n)[i]?=some d->d= .int (lo + i)
 |0,lo,i,d,h=>by simp [br] at h
 |n + 1,lo,0,d,h=>by simp [br] at h; subst h; simp
 |n + 1,lo,i + 1,d,h=>by
  simp [br] at h
  rw [qd n (lo + 1) i d h]
  congr 1
  push_cast
  lia
theorem EG {K:PySem.W.Frag}{lo:Int}{n:Nat}:rH K (Kt lo n) none (br lo n):=λO H _=>by
 refine⟨λi hi=>?_,λi x H' d ⟨e,y⟩ hd=>?_,?_⟩
 .rw [fN] at hi; exact hi
 .subst e y
  rw [qd n lo i d hd]
  exact⟨ag.refl _,.int _⟩
 .show n<=(br lo n).length
  rw [fN]; exact Nat.le_refl _
theorem M6 (h:PE X a (tV X.K m f)):PI X tg a (tI X.K m λρ=>(f ρ).bind seq):=by
 intro U s σ H R I ⟨O,ρ,ds,hx,hd,q⟩
 refine ae (bind_some hd) λd e1 hd=>bz (h U s σ H (λv H1=>ag H H1/\bP X.K O m H1 v d) I ⟨O,ρ,d,hx,e1,λv H' s' r'=>⟨s',r'⟩⟩) λv s1 zz=>ao λnO=>fW zz λx H1 I1 r1 s' rb=>nO <| Classical.byContradiction λnO=>?_
 cases d with
 |lst xs=>
  refine nO <| ao λnO=>?_
  cases hd
  refine ba rb.lst λp vs af h1 h2=>?_
  subst af
  cases r1
  refine bA (I1.list h1) λits rv pl hz=>nO <| wpAny_pyIter_list pl.isList ?_
  refine⟨s1.heap.objs.size,[s1.heap.objs.size],_,LD X.K p,H1,rfl,I1.kept (t':=s1.toks) λb o e=>Heap.get?_push_of_some _ e,uq p _,⟨_,Heap.get?_push_size _ rfl,rfl,rfl⟩,λb hb=>?_,q _ (some (.lst,.ref p,ds)) H1 s' EE rb⟩
  have e:b=s1.heap.objs.size:=by simpa using hb
  subst e
  exact I1.qM (Nat.le_refl _) (I1.aN.fresh (Nat.le_refl _))
 |tup xs=>
  refine nO <| ao λnO=>?_
  cases hd
  refine ba rb.tup λp vs aO h1 h2=>?_
  subst aO
  cases r1
  refine bA (I1.tuple h1) λits rv pl hz=>nO <| wpAny_pyIter_tuple (show s1.heap.IsTuple p its.toArray from pl) ?_
  refine⟨s1.heap.objs.size,[s1.heap.objs.size],_,LF X.K p,H1,rfl,I1.kept (t':=s1.toks) λb o e=>Heap.get?_push_of_some _ e,qN p _,⟨_,Heap.get?_push_size _ rfl,rfl,rfl⟩,λb hb=>?_,q _ (some (.tup,.ref p,ds)) H1 s' EF rb⟩
  have e:b=s1.heap.objs.size:=by simpa using hb
  subst e
  exact I1.qM (Nat.le_refl _) (I1.aN.fresh (Nat.le_refl _))
 |_=>cases hd
theorem cS: ∀(xs:List D) (k:Int),(bM k xs).length =xs.length
 |[],_=>rfl
 |_::r,k=>by rw [bM,List.length_cons,List.length_cons,cS r]
theorem iJ: ∀(xs:List D) (k:Int) (i:Nat) (d:D),(bM k xs)[i]?=some d-> ∃y,xs[i]?=some y/\d= .tup [.int (k + i),y]
 |[],_,_,_,h=>by simp [bM] at h
 |x::r,k,0,d,h=>by
  simp [bM] at h
  exact⟨x,rfl,by rw [<-h]; simp⟩
 |x::r,k,i + 1,d,h=>by
  refine ae (iJ r (k + 1) i d (by simpa [bM] using h)) λy h1 h2=>⟨y,by simpa using h1,?_⟩
  rw [h2,show k + 1 + (i:Int)=k + ((i + 1:Nat):Int) by push_cast; lia]
theorem xm {K:PySem.W.Frag}{k:Sk}{a:Addr}{ds:List D}{Sq:Hp->List V->Prop} (hS: ∀O H,eC K O H (some (k,.ref a,ds))-> ∃vs,Sq H vs/\av K O H vs ds):rH K (KG Sq) (some (k,.ref a,ds)) (bM 0 ds):=λO H h=>by
 obtain⟨vs,hq,hr⟩:=hS O H h
 have hl:=hr.length
 refine⟨λi hi=>?_,λi x H' d hy hd=>?_,?_⟩
 .rw [cS,<-hl] at hi
  exact⟨vs,vs[i],hq,by simp [hi]⟩
 .obtain⟨t,y,ht,rfl,rfl,hy⟩:=hy
  obtain⟨z,h1,rfl⟩:=iJ ds 0 i d hd
  obtain⟨v,e1,e2⟩:=hr.get h1
  have:y=v:=by
   have q:=hy vs hq
   rw [e1] at q
   exact(Option.some.inj q).symm
  subst this
  refine⟨ag.upd ht,.tup (dh.of ah) (.cons ?_ (.cons (e2.mono (ag.upd ht)) .nil))⟩
  have e0:(0:Int) + (i:Int)=i:=by lia
  rw [e0]
  exact .int _
 .exact⟨vs,hq,by rw [cS]; exact hl⟩
theorem IX {elts:List Expr}{k0:Nat}{tpos:Pos}{f:Env->Option D} (hg:Gl X "enumerate") (hm:X.mg "enumerate"=none) (ha:PE X a (tV X.K m f)) (hs:starEach [a] X.env=[(false,eval a X.env)]):
  PI X (.Tuple elts k0 tpos) (.Call (.Name "enumerate" p) [a] [] pos) (tI X.K m λρ=>(f ρ).bind λx=>(seq x).map (bM 0)):=by
 have h1:=zP (X:=X) (a:=a) (p:=p) (pos:=pos) (elts:=elts) (k0:=k0) (tpos:=tpos) hg hm (bV ha dj hs) hs
 intro U s σ H R I ⟨O,ρ,ds,hx,hd,q⟩
 refine ao λnO=>ae (bind_some hd) λx e1 hd=>ae (map_some hd) λxs e2 af=>?_
 subst af
 refine nO ?_
 refine h1 U s σ H R I ⟨O,ρ,x,hx,e1,λv H1 s1 r1=>?_⟩
 refine ao λnO=>?_
 cases x with
 |tup ys=>
  refine nO <| ao λnO=>?_
  cases e2
  refine ba r1.tup λb vs aO q1 p1=>?_
  subst aO
  refine nO ?_
  refine⟨b,vs,rfl,.inl ⟨q1,q _ (some (.tup,.ref b,xs)) H1 s1 (xm λO' H' h=>?_) r1⟩⟩
  refine ao λnO=>ba h λc us e h2 h3=>?_
  cases e
  exact nO <| ⟨us,h2,h3⟩
 |lst ys=>
  refine nO <| ao λnO=>?_
  cases e2
  refine ba r1.lst λb vs eN q1 p1=>?_
  subst eN
  refine nO ?_
  refine⟨b,vs,rfl,.inr ⟨q1,q _ (some (.lst,.ref b,xs)) H1 s1 (xm λO' H' h=>?_) r1⟩⟩
  refine ao λnO=>ba h λc us e h2 h3=>?_
  cases e
  exact nO <| ⟨us,h2,h3⟩
 |_=>cases e2
theorem xo {κ:Type}{f:List Int->κ}{ks:List (List Int)}{vs:List V} (hl:ks.length=vs.length) {i:Nat} (hi:i < ks.length):((ks.map f).zip vs)[i]?=some (f ks[i],vs[i]'(hl▸hi)):=
 List.getElem?_zip_eq_some.mpr ⟨by rw [List.getElem?_map,List.getElem?_eq_getElem hi]; rfl,List.getElem?_eq_getElem (hl▸hi)⟩
theorem iK:fF 0 ks vs= .dK ((ks.map λk=>(Sum.inl (k.headD 0):cB)).zip vs):=by unfold fF; rw [if_pos rfl]
theorem AI {K:PySem.W.Frag}{a:Addr}{o:Obj}{ks:List (List Int)}{vs:List V}{ds:List D} (hl:ks.length=vs.length):rH K (Mu a o ((ks.map λk=>(Sum.inl (k.headD 0):cB)).zip vs)) (some (.bF o ks vs,.ref a,ds)) (ks.map λk=> .int (k.headD 0)):=λO H zz=>by
 refine FV zz λb e h1 h2 h3 h4=>?_
 cases e
 rw [iK] at h1
 have len:((ks.map λk=>(Sum.inl (k.headD 0):cB)).zip vs).length =ks.length:=by rw [List.length_zip,List.length_map,hl,Nat.min_self]
 refine⟨λi hi=>⟨h1,by rw [len]; simpa using hi⟩,λi x H' d ⟨e,y⟩ hd=>?_,h1,by rw [len,List.length_map]⟩
 subst e
 have hi:i < ks.length:=by
  have:=(List.getElem?_eq_some_iff.mp hd).1
  simpa using this
 rw [xo hl hi] at y
 rw [List.getElem?_map,List.getElem?_eq_getElem hi] at hd
 cases hd
 cases y
 exact⟨ag.refl _,.int _⟩
theorem AJ {K:PySem.W.Frag}{a:Addr}{o:Obj}{ks:List (List Int)}{vs:List V}{ds:List D} (hl:ks.length=vs.length) (lQ:vs.length=ds.length):rH K (MP a o ((ks.map λk=>(Sum.inl (k.headD 0):cB)).zip vs)) (some (.bF o ks vs,.ref a,ds)) ds:=λO H zz=>by
 refine FV zz λb e h1 h2 h3 h4=>?_
 cases e
 rw [iK] at h1
 have len:((ks.map λk=>(Sum.inl (k.headD 0):cB)).zip vs).length =ks.length:=by rw [List.length_zip,List.length_map,hl,Nat.min_self]
 refine⟨λi hi=>⟨h1,by rw [len]; lia⟩,λi x H' d ⟨e,y⟩ hd=>?_,h1,by rw [len]; lia⟩
 subst e
 refine ae (h4.get hd) λv e1 e2=>?_
 have hi:i < ks.length:=by
  have:=(List.getElem?_eq_some_iff.mp e1).1
  lia
 rw [xo hl hi] at y
 cases y
 rw [List.getElem?_eq_getElem (by lia)] at e1
 cases e1
 exact⟨ag.refl _,e2⟩
theorem EX.IY {K:PySem.W.Frag}{O:Addr->Prop}{H:Hp}{σ:St}{ρ:Env} (hx:EX K O σ H ρ) {i:Nat}{ks:List (List Int)}{ds:List D} (h:ρ[i]?=some (some (false,.bF 0 ks ds))): ∃a o vs,σ[i]?=some (some (.ref a))/\H a=some (.cZ o (fF 0 ks vs))/\ks.length=vs.length/\kM 0 ks/\av K O H vs ds:=by
 refine ae (hx.jP i false _ h) λv q1 q2=>?_
 have TY:bg K O H v (.bF 0 ks ds):=q2
 cases TY with
 |bF g1 g2 g3 g4=>exact⟨_,_,_,q1,g1,g2,g3,g4⟩
theorem M7 {tg:Expr}{j:Nat} (hj:PE X a (cR j)):PI X tg a (tI X.K m λρ=>keysAt ρ j):=by
 intro U s σ H R I ⟨O,ρ,ds,hx,hd,q⟩
 have hd:keysAt ρ j=some ds:=hd
 unfold keysAt at hd
 split at hd
 .rename_i ks xs e
  refine ao λnO=>?_
  cases hd
  refine qJ (hx.IY e) λb o vs e1 e2 e3 e4 e5=>nO ?_
  refine HK hj U s σ H R I ⟨.ref b,e1,b,o,_,rfl,by rw [e2,iK],q _ (some (.bF o ks vs,.ref b,xs)) H (ag.refl _) (AI e3) ⟨b,rfl,e2,e3,e4,e5⟩⟩
 .cases hd
theorem M8 {tg:Expr}{j:Nat}{ap cp:Pos} (hj:PE X a (cR j)) (hZ:attributeBase a "values" X.env (eval a X.env)=eval a X.env) (h_:(ap.endLine == cp.line)=true):PI X tg (.Call (.Attribute a "values" ap) [] [] cp) (tI X.K m λρ=>nU ρ j):=by
 intro U s σ H R I ⟨O,ρ,ds,hx,hd,q⟩
 have hd:nU ρ j=some ds:=hd
 unfold nU at hd
 split at hd
 .rename_i ks xs e
  refine ao λnO=>?_
  cases hd
  refine qJ (hx.IY e) λb o vs e1 e2 e3 e4 e5=>nO ?_
  refine ID hj hZ h_ U s σ H R I ⟨.ref b,e1,b,o,_,rfl,by rw [e2,iK],q _ (some (.bF o ks vs,.ref b,ds)) H (ag.refl _) (AJ e3 e5.length) ⟨b,rfl,e2,e3,e4,e5⟩⟩
 .cases hd
theorem IZ (hg:Gl X "reversed") (hm:X.mg "reversed"=none) (ha:PE X a (tV X.K false f)) (hs:starEach [a] X.env=[(false,eval a X.env)]):
  PI X tg (.Call (.Name "reversed" p) [a] [] pos) (tI X.K m λρ=>(f ρ).bind λx=>match x with| .tup xs=>some xs.reverse|_=>none):=by
 intro U s σ H R I ⟨O,ρ,ds,hx,hd,q⟩
 refine ae (bind_some hd) λx e1 hd=>IB hg hm (bV ha dj hs) hs U s σ H R I ⟨O,ρ,x,hx,e1,λv H1 s1 r=>?_⟩
 cases x with
 |tup xs=>
  cases hd
  refine ba r.tup λb vs af h1 h2=>?_
  subst af
  refine⟨b,vs,rfl,h1,q _ (some (.tup,.ref b,xs)) H1 s1 (λO' H' ⟨c,us,e,g1,g2⟩=>?_) (.inl r.own)⟩
  cases e
  have l1:=g2.length
  have l2:=h2.length
  have lr:xs.reverse.length=vs.length:=by rw [List.length_reverse]; exact l2.symm
  refine⟨λi hi=>⟨us,g1,by lia,by lia⟩,λi y Rn d ⟨e,hy⟩ hd=>?_,lr⟩
  subst e
  have hi:i < xs.length:=by
   have:=(List.getElem?_eq_some_iff.mp hd).1
   simpa using this
  have ey:=hy us g1
  rw [List.getElem?_reverse hi] at hd
  refine ae (g2.get hd) λv e1 e2=>?_
  have:vs.length - 1 - i=xs.length - 1 - i:=by lia
  rw [this,e1] at ey
  cases ey
  exact⟨ag.refl _,e2⟩
 |_=>cases hd
end
end Py
namespace Py
open PySem PySem.Spec PyProof.Rows L2
section
variable {X:Cx}{a b c e:Expr}{es:List Expr}{pos p:Pos}{m:Bool}
theorem EX.ext {K:PySem.W.Frag}{O:Addr->Prop}{σ:St}{H1 H:Hp}{ρ:Env}{p:Addr}{vs:List V} (h:EX K O σ H1 ρ) (hp:H1 p=none) (s:ag H1 H) (e:H p=some (.lst vs)):EX K (λa=>O a\/a=p) σ H ρ:=by
 refine⟨λa ha=>?_,λi o d hi=>?_⟩
 .rcases ha with ha|ha
  .exact ae (h.live a ha) λus q qo=>⟨us,s _ _ q,qo⟩
  .subst ha; exact⟨_,e,trivial⟩
 .refine ae (h.jP i o d hi) λv h1 h2=>⟨v,h1,?_⟩
  cases o with
  |true=>
   exact bA h2 λa e1 e2 c=>⟨a,e1,.inl e2,(c.own hp).mono s⟩
  |false=>exact(bg.own h2 hp).mono s
theorem u6 (h:o.join=some x):o=some (some x):=by
 cases o with
 |none=>cases h
 |some y=>cases y with
  |none=>cases h
  |some z=>cases h; rfl
theorem EX.inner {K:PySem.W.Frag}{O:Addr->Prop}{σ:St}{H:Hp}{ρ:Env} (h:EX K O σ H ρ) {v:V}{d:D} (r:bg K O H v d) (fr:List Nat):EX K O (some v::fy fr σ) H (inner [d] ρ fr):=by
 refine⟨h.live,λi o d' hi=>?_⟩
 cases i with
 |zero=>
  have gw:some (some (false,d))=some (some (o,d')):=hi
  cases gw
  exact⟨v,rfl,r⟩
 |succ j=>
  have gw:(uH ρ fr)[j]?=some (some (o,d')):=hi
  unfold uH at gw
  rw [List.getElem?_map] at gw
  refine ae (map_some gw) λi0 e0 hj=>ae (h.jP i0 o d' (u6 hj)) λw h1 h2=>⟨w,?_,h2⟩
  show(fy fr σ)[j]?=some (some w)
  unfold fy
  rw [List.getElem?_map,e0]
  show some (σ[i0]?).join =_
  rw [h1]
  rfl
noncomputable def m8 (fs:Env->Option Bool) (fe:Env->Option D) (fr:List Nat) (ρ:Env) (y:D):Option (Option D):=(fs (inner [y] ρ fr)).bind λk=>if k then(fe (inner [y] ρ fr)).map some else some none
theorem m9 {K:PySem.W.Frag}{fr:List Nat}{fi:Env->Option (List D)}{fs:Env->Option Bool}{fe:Env->Option D} (σ:St) (H:Hp) (Q:VK)
  (h:tF K (λρ=>(fi ρ).bind λxs=>if xs.length<=bJ then walk (m8 fs fe fr ρ) xs else none) σ H Q):mP 1 fr (tI K true fi) (cw 0) (tB K fs) (tV K false fe) σ H Q:=by
 refine cG h λO ρ out hx hd q=>ae (bind_some hd) λxs e1 hd=>?_
 split at hd
 .rename_i hz
  refine⟨O,ρ,xs,hx,e1,λJ fD H1 s1 xp qf p hp=>?_⟩
  have qg:=hx.mono s1
  have EH:eC K (λa=>O a\/a=p) H1 fD:=qf.ok.own hp
  refine⟨λi m H'=>m=xs.length - i/\i<=xs.length/\ag H1 H'/\ ∃vs ys bL,H' p=some (.lst vs)/\av K (λa=>O a\/a=p) H' vs ys/\ys.length<=i/\walk (m8 fs fe fr ρ) (xs.drop i)=some bL/\out=ys++bL,
   ⟨xs.length,rfl,Nat.zero_le _,ag.upd hp,[],[],out,ah,.nil,Nat.le_refl _,hd,rfl⟩,?_⟩
  rintro i mm H2 ⟨rfl,hi,s2,vs,ys,bL,ep,rp,hl,hw,ho⟩
  refine cK (xp _ H2 (EH.mono s2)) λgo vQ stop=>?_
  by_cases bZ:i < xs.length
  .refine .inr ⟨go i bZ,λx H3 hy=>?_⟩
   have M9:xs[i]?=some xs[i]:=by simp [bZ]
   obtain⟨s3,rx⟩:=vQ i x H3 _ hy M9
   have I8:H3 p=some (.lst vs):=s3 _ _ ep
   have M_:EX K (λa=>O a\/a=p) σ H3 ρ:=qg.ext hp (s2.trans s3) I8
   have dr:xs.drop i=xs[i]::xs.drop (i + 1):=(List.drop_eq_getElem_cons bZ)
   rw [dr,walk] at hw
   show tB K fs ((List.replicate 1 none++fy fr σ).set 0 (some x)) H3 _
   have M':(List.replicate 1 none++fy fr σ).set 0 (some x)=some x::fy fr σ:=rfl
   rw [M']
   have I9:=M_.inner rx fr
   have ht:m8 fs fe fr ρ xs[i]=(fs (Py.inner [xs[i]] ρ fr)).bind λk=>if k then(fe (Py.inner [xs[i]] ρ fr)).map some else some none:=rfl
   rw [ht] at hw
   cases ek:fs (Py.inner [xs[i]] ρ fr) with
   |none=>rw [ek] at hw; cases hw
   |some k=>
    rw [ek] at hw
    refine⟨_,_,k,I9,ek,λH4 s4=>?_⟩
    have Ro:H4 p=some (.lst vs):=s4 _ _ I8
    cases k with
    |false=>
     refine mf ⟨xs.length - (i + 1),by omega,rfl,bZ,(s2.trans s3).trans s4,vs,ys,bL,Ro,rp.mono (s3.trans s4),Nat.le_succ_of_le hl,?_,ho⟩
     simpa using hw
    |true=>
     cases ee:fe (Py.inner [xs[i]] ρ fr) with
     |none=>rw [Option.bind_some,if_pos rfl,ee] at hw; cases hw
     |some d=>
      rw [Option.bind_some,if_pos rfl,ee] at hw
      simp only [Option.map_some] at hw
      refine ae (map_some hw) λxt tq I_=>kA ⟨_,_,d,I9.mono s4,ee,λv H5 s5 r5=>?_⟩
      have Rp:H5 p=some (.lst vs):=s5 _ _ Ro
      have y0:ag H1 H5:=((s2.trans s3).trans s4).trans s5
      refine⟨vs,xs.length - (i + 1),Rp,by rw [rp.length,cI]; omega,by omega,rfl,bZ,λbb oo eb=>?_,vs++[v],ys++[d],xt,ah,?_,?_,tq,?_⟩
      .rw [ak (bT eb hp)]; exact y0 _ _ eb
      .exact((rp.mono ((s3.trans s4).trans s5)).append (.cons r5.own .nil)).upd (.inr rfl) Rp trivial
      .rw [List.length_append,List.length_singleton]; omega
      .rw [ho,<-I_,List.append_assoc]; rfl
  .have ei:i=xs.length:=by omega
   subst ei
   refine .inl ⟨stop,?_⟩
   rw [List.drop_length,walk] at hw
   cases hw
   rw [List.append_nil] at ho
   subst ho
   have TZ:H p=none:=by
    cases z:H p with
    |none=>rfl
    |some o=>rw [s1 _ _ z] at hp; cases hp
   let H0:Hp:=λb=>if b=p then none else H2 b
   have e0:L2.upd H0 p (.lst vs)=H2:=by
    funext b
    unfold L2.upd
    by_cases hb:b=p
    .rw [if_pos hb,hb,ep]
    .rw [if_neg hb]; exact if_neg hb
   have k0: ∀b,b≠p->H0 b=H2 b:=λb hb=>if_neg hb
   rw [<-e0]
   refine q p vs H0 (λb o eb=>?_) (if_pos rfl) ?_
   .rw [k0 b (λz=>by rw [z,TZ] at eb; cases eb)]
    exact s2 _ _ (s1 _ _ eb)
   .refine eh (λb us hb=>?_) (λb us hb nb=>⟨?_,λz=>nb (Or.inl z)⟩) (λb o u hb=>by rw [k0 b (fc hb ep (by intro z; cases z))]; exact hb) rp
    .have i8:H2 b=some (.tup us):=hb
     show H0 b=some (.tup us)
     rw [k0 b (fc i8 ep (by intro z; cases z))]; exact i8
    .rcases hb with hb|⟨u,hb⟩
     .exact .inl (by rw [k0 b (λz=>nb (.inr z))]; exact hb)
     .exact .inr ⟨u,by rw [k0 b (λz=>nb (.inr z))]; exact hb⟩
 .cases hd
theorem KY:nT 1 (cw 0):=λx σ H Q h=>⟨h,List.length_set ..,λi hi=>by rw [List.getElem?_set_ne (by omega)]⟩
theorem EI (hi:PI X (.Name x q) iter (tI X.K true fi)) (S:DR X.N X.env.scope sc N' 1 fr) (hc:X.calm=true)
  (DS: ∀cl C U s H ex,PG (gv X sc cl C N' U s H ex) (.Name x q) (cw 0)/\uC (gv X sc cl C N' U s H ex) ifs (tB X.K fs)/\PE (gv X sc cl C N' U s H ex) dF (tV X.K false fe))
  (hs: ∀x,foldedSetIterable iter X.env x=pure x):PE X (.ListComp dF [⟨.Name x q,iter,ifs,0⟩] sc pos) (tF X.K λρ=>(fi ρ).bind λxs=>if xs.length<=bJ then walk (m8 fs fe fr ρ) xs else none):=
 (sv hi S hc KY DS hs).weak λσ H Q h=>m9 σ H Q h
theorem xu:uC X [] (tB X.K λ_=>some true):=λU s σ H Q I zz=>by
 refine ao λnO=>cG zz λO ρ k hx hd q=>?_
 cases hd
 exact nO <| zJ U s σ H Q I (q H (ag.refl _))
theorem AK {f:Env->Option D}{g:Env->Option Bool} (h:PT X c (tB X.K λρ=>(f ρ).bind eO)) (hr:uC X es (tB X.K g)):uC X (c::es) (tB X.K λρ=>((f ρ).bind eO).bind λx=>if x=true then g ρ else some x):=λU s σ H Q I zz=>by
 refine cG zz λO ρ k hx hd q=>ae (bind_some hd) λx e1 hd=>wo h hr U s σ H Q I ⟨O,ρ,x,hx,e1,λH1 s1=>?_⟩
 cases x with
 |true=>exact kA ⟨O,ρ,k,hx.mono s1,by rw [if_pos rfl] at hd; exact hd,λH2 s2=>q H2 (s1.trans s2)⟩
 |false=>rw [if_neg Bool.false_ne_true] at hd; cases hd; exact mf (q H1 s1)
end
end Py
namespace Py
open PySem PySem.Spec PyProof.Rows L2
noncomputable abbrev GT:=List Str×List (Str×Int)
noncomputable def jU (sc:Scope) (x:Str):Bool:=match sc.names.lookup x with|some .local =>true|some .cell =>true|some .free =>true|_=>false
noncomputable def cT (sc:Scope) (x:Str):Bool:=match sc.names.lookup x with|some .globalImplicit =>true|_=>false
noncomputable def EJ (sc:Scope) (x:Str):Bool:=match sc.names.lookup x with|some .local =>true|_=>false
noncomputable def oY (x:Str):Bool:=!(x == ("__debug__":Str)) && !(x == ("__classdict__":Str))
noncomputable def aS:Expr->Bool| .Starred _ _=>false|_=>true
noncomputable def bX:Expr->Bool| .Slice _ _ _ _=>false|_=>true
noncomputable def dU:Expr->Bool| .Set _ _ _=>false|_=>true
noncomputable def rJ:Expr->Bool| .Name _ _=>true| .Subscript _ _ _=>true| .Constant _ _ _=>true|_=>false
noncomputable def Rq:Const->Bool| .int i=>decide (i=1)|_=>false
noncomputable def Rr:D->Const->Bool
 | .eK,.none =>true
 | .bl b,.bool c=>b == c
 | .int i,.int j=>decide (i=j)
 |_,_=>false
noncomputable def Ja (G:GT) (x:Str):D->Bool| .int i=>decide ((x,i)∈G.2)|_=>false
noncomputable def gC (sc uD:Scope):Scope:={sc with names:=sc.names.map λ(n,k)=>if(k == .free && uD.kind == .function && uD.names.lookup n == some .cell) then(n,.cell) else(n,k)}
noncomputable def j7 (N:List Str) (x:Str) (fr:List Nat):List Str:=x::fr.map λi=>N.getD i ""
noncomputable def rK (N:List Str) (uD sc:Scope) (x:Str) (fr:List Nat):Bool:=
 decide (sc.kind= .function) && sc.names.all (λy=>decide (y.2≠ .cell)) && sc.names.all (λy=>decide (y.2= .local ->sc.names.lookup y.1=some .local)) &&
 sc.names.all (λy=>decide (y.2= .free ->uD.names.lookup y.1=some .cell \/uD.names.lookup y.1=some .free)) &&
 fr.all (λi=>match N[i]? with|some y=>decide (sc.names.lookup y=some .free)|none=>false) && EJ sc x && decide (j7 N x fr).Nodup
noncomputable def AL (_:E):Bool:=true
noncomputable def fresh:E->Bool
 | .lst _=>true
 | .comp _ _ _ _ _=>true
 | .bin .Add _ _=>true
 | .prim .list _=>true
 | .iZ .list _=>true
 | .sl _ _ _=>true
 |_=>false
noncomputable def cz (N:List Str) (sc:Scope) (i:Nat) (e:Expr):Bool:=match e with| .Name x _=>decide (N[i]?=some x) && jU sc x && oY x|_=>false
mutual
noncomputable def bj (G:GT):E->List Str->Scope->Expr->Bool
 | .var i,N,sc,e=>match e with| .Name x _=>decide (N[i]?=some x) && jU sc x && oY x|_=>false
 | .c d,_,sc,e=>match e with| .Constant c _ _=>Rr d c| .Name x _=>cT sc x && oY x && Ja G x d|_=>false
 | .bin o a b,N,sc,e=>match e with| .BinOp l op r _=>decide (o=op) && bj G a N sc l && bj G b N sc r|_=>false
 | .cmp o a b,N,sc,e=>match e with
  | .Compare l ops rs _=>match ops,rs with
   |[op],[r]=>decide (o=op) && bj G a N sc l && bj G b N sc r && dU r
   |_,_=>false
  |_=>false
 | .qH k es,N,sc,e=>match e with| .BoolOp op vs _=>decide (op=bo k) && !vs.isEmpty && jV G es N sc vs|_=>false
 | .not a,N,sc,e=>match e with| .UnaryOp op x _=>decide (op= .Not) && bj G a N sc x && AL a|_=>false
 | .vC a b,N,sc,e=>match e with
  | .Call fn args cn _=>match fn,args,cn with
   | .Name x _,[a0,.Name y _],[]=>decide (x="isinstance") && decide (y=Str.ofString (tj b)) && cT sc x && cT sc y && bj G a N sc a0 && aS a0
   |_,_,_=>false
  |_=>false
 | .tup es,N,sc,e=>match e with| .Tuple xs _ _=>cA G es N sc xs|_=>false
 | .lst es,N,sc,e=>match e with| .List xs _=>cA G es N sc xs|_=>false
 | .idx a i,N,sc,e=>match e with| .Subscript v s _=>bj G a N sc v && bj G i N sc s && bX s|_=>false
 | .sl a lo hi,N,sc,e=>match e with
  | .Subscript v s _=>match s with
   | .Slice l h st _=>st.isNone && bj G a N sc v && Cu G lo N sc l && Cu G hi N sc h
   |_=>false
  |_=>false
 | .call f es,N,sc,e=>match e with
  | .Call fn args cn _=>match fn,args,cn with
   | .Name x _,a0::ar,[]=>decide (G.1[f]?=some x) && cT sc x && oY x && cA G es N sc (a0::ar)
   |_,_,_=>false
  |_=>false
 | .prim q es,N,sc,e=>match e with
  | .Call fn args cn _=>match fn,args,cn with
   | .Name x _,a0::ar,[]=>decide (x=fm q) && cT sc x && cA G es N sc (a0::ar)
   |_,_,_=>false
  |_=>false
 | .iZ q es,N,sc,e=>match e with
  | .Call fn args cn _=>match fn,args,cn with
   | .Name x _,[.Call (.Name y _) [a0] [] _],[]=>(decide (q= .list) || decide (q= .tuple)) && decide (x=fm q) && decide (y="range") && cT sc x && cT sc y && cA G es N sc [a0]
   |_,_,_=>false
  |_=>false
 | .dZ mm o es,N,sc,e=>match e with
  | .Call fn args cn cp=>match fn,args,cn with
   | .Attribute oe nm ap,[a0],[]=>decide (nm="index") && rJ oe && (ap.endLine == cp.line) && bj G o N sc oe && cA G es N sc [a0]
   |_,_,_=>false
  |_=>false
 | .comp fr tg it ifs dF,N,sc,e=>match e with
  | .ListComp el gens eL _=>match gens with
   |[⟨oZ,iter,fs,k⟩]=>match oZ with
    | .Name x _=>decide (tg=0) && decide (k=0) && dU iter && rK N sc eL x fr && y8 G it N sc iter && jV G ifs (j7 N x fr) (gC eL sc) fs && bj G dF (j7 N x fr) (gC eL sc) el
    |_=>false
   |_=>false
  |_=>false
 | .dm i k,N,sc,e=>match e with| .Subscript v s _=>cz N sc i v && bj G k N sc s && bX s|_=>false
 | .uG neg k i,N,sc,e=>match e with
  | .Compare l ops rs _=>match ops,rs with
   |[op],[r]=>decide (op=if neg then .NotIn else .In) && bj G k N sc l && cz N sc i r
   |_,_=>false
  |_=>false
 | .dM i,N,sc,e=>match e with
  | .Call fn args cn _=>match fn,args,cn with
   | .Name x _,[a0],[]=>decide (x="sorted") && cT sc x && cz N sc i a0
   |_,_,_=>false
  |_=>false
 |_,_,_,_=>false
noncomputable def cA (G:GT):E->List Str->Scope->List Expr->Bool
 | .nil,_,_,es=>es.isEmpty
 | .cons a r,N,sc,es=>match es with|e::es=>bj G a N sc e && aS e && cA G r N sc es|[]=>false
 |_,_,_,_=>false
noncomputable def jV (G:GT):E->List Str->Scope->List Expr->Bool
 | .nil,_,_,es=>es.isEmpty
 | .cons a r,N,sc,es=>match es with|e::es=>bj G a N sc e && AL a && jV G r N sc es|[]=>false
 |_,_,_,_=>false
noncomputable def Cu (G:GT):E->List Str->Scope->Option Expr->Bool
 | .nil,_,_,o=>o.isNone
 | .cons a _,N,sc,o=>match o with|some e=>bj G a N sc e|none=>false
 |_,_,_,_=>false
noncomputable def y8 (G:GT):E->List Str->Scope->Expr->Bool
 | .dQ es,N,sc,e=>match e with
  | .Call fn args cn _=>match fn,cn with
   | .Name x _,[]=>decide (x="range") && cT sc x && decide (args.length=1) && cA G es N sc args
   |_,_=>false
  |_=>false
 | .it a,N,sc,e=>bj G a N sc e
 | .dk i,N,sc,e=>cz N sc i e
 | .dv i,N,sc,e=>match e with
  | .Call fn args cn cp=>match fn,args,cn with
   | .Attribute oe nm ap,[],[]=>decide (nm="values") && cz N sc i oe && (ap.endLine == cp.line)
   |_,_,_=>false
  |_=>false
 | .Cc a,N,sc,e=>match e with
  | .Call fn args cn _=>match fn,args,cn with
   | .Name x _,[a0],[]=>decide (x="reversed") && cT sc x && bj G a N sc a0 && aS a0
   |_,_,_=>false
  |_=>false
 |_,_,_,_=>false
end
theorem bO (h:aS e=true):starEach (e::es) env=(false,eval e env)::starEach es env:=by
 cases e <;> first|rfl|exact absurd h Bool.false_ne_true
theorem fO: ∀{es:List Expr},es.all aS=true->(backTo pos (starEach es env)).any (·.1)=false
 |[],_=>rfl
 |e::es,h=>by
  rw [List.all_cons,Bool.and_eq_true] at h
  rw [bO h.1]
  show(false || (backTo pos (starEach es env)).any (·.1))=false
  rw [fO h.2]
  rfl
theorem iL: ∀{e':E}{N:List Str}{sc:Scope}{es:List Expr},cA G e' N sc es=true->es.all aS=true:=λ{e'}=>by
 induction e' with
 |nil=>
  intro N sc es h
  rw [cA] at h
  cases es with
  |nil=>rfl
  |cons _ _=>cases h
 |cons a r _ ih=>
  intro N sc es h
  cases es with
  |nil=>rfl
  |cons e es=>
   rw [cA] at h
   simp only [Bool.and_eq_true] at h
   rw [List.all_cons,Bool.and_eq_true]
   exact⟨h.1.2,ih h.2⟩
 |_=>intro N sc es h; exact absurd (show false=true from h) Bool.false_ne_true
theorem xv: ∀{e':E},kD ρ e'=false->cx F true e' ρ=cx F false e' ρ:=λ{e'}=>by
 induction e' with
 |nil=>intro _; rfl
 |cons a r _ ih=>
  intro h
  have hr:kD ρ r=false:=by
   cases a <;> first|exact h|(simp only [kD,Bool.or_eq_false_iff] at h; exact h.2)
  have ha:ev F true a ρ=ev F false a ρ:=by
   cases a with
   |var i=>
    simp only [kD,Bool.or_eq_false_iff] at h
    show rd true ρ i=rd false ρ i
    unfold rd
    have h1:=h.1
    unfold j0 at h1
    cases e:ρ[i]? with
    |none=>rfl
    |some o=>
     cases o with
     |none=>rfl
     |some t=>
      obtain⟨o,d⟩:=t
      rw [e] at h1
      have Na:o=false:=h1
      subst Na
      rfl
   |_=>rfl
  show(ev F true a ρ).bind _=(ev F false a ρ).bind _
  rw [ha,ih hr]
 |_=>intro _; rfl
end Py
namespace Py
open PySem PySem.Spec PyProof.Rows L2
noncomputable def fP:List Str:=["len","tuple","list","min","sorted","int","isinstance","bool","range","enumerate","reversed"]
structure Ct (X:Cx) (G:GT) (F:FT):Prop where
 calm:X.calm=true
 units:X.A.units + 64 < cLine
 mg: ∀x∈fP,X.mg x=none
 cst: ∀(x:Str) (i:Int),(x,i)∈G.2-> ∃t,X.mg x=some (.int i t)
 call: ∀(f:Nat) (x:Str),G.1[f]?=some x-> ∃(k:Nat) (fa:Addr) (fd:FuncData) (ps:List Str),g_ X.prog X.w X.K X.mg X.base uA k fa fd ps (s_ X.K ps.length (F f))/\dR k X.A/\X.mg x=some (.ref fa)/\PySem.W.keepIn X.K (.ref fa)=true/\Binds X.K fd ps []/\ ∀ds d,F f ds=some d->ds.length=ps.length
theorem Ct.inner {X:Cx}{G:GT}{F:FT} (h:Ct X G F) (sc:Scope) (cl:List (Str×Addr)) (C:Addr) (N:List Str) (U:List (Addr×Obj)) (s:Shared) (H:Hp) (ex:List Addr):Ct (gv X sc cl C N U s H ex) G F:=⟨h.calm,h.units,h.mg,h.cst,h.call⟩
noncomputable def iM:D->Option (List D)
 | .lst ds=>some ds
 |_=>none
structure cj (G:GT) (F:FT) (e':E):Prop where
 e: ∀X,Ct X G F-> ∀x,bj G e' X.N X.env.scope x=true-> ∀m,PE X x (tV X.K m (ev F m e'))
 t: ∀X,Ct X G F-> ∀x,bj G e' X.N X.env.scope x=true->AL e'=true->PT X x (tB X.K λρ=>(ev F false e' ρ).bind eO)
 f: ∀X,Ct X G F-> ∀x,bj G e' X.N X.env.scope x=true->fresh e'=true->PE X x (tF X.K λρ=>(ev F false e' ρ).bind iM)
 es: ∀X,Ct X G F-> ∀xs,cA G e' X.N X.env.scope xs=true-> ∀m,PA X xs (rF X.K m (cx F m e'))
 ts: ∀X,Ct X G F-> ∀xs,jV G e' X.N X.env.scope xs=true->uC X xs (tB X.K (gM F true e'))/\
  (xs≠[]-> ∀k pos,(∀m,PE X (.BoolOp (bo k) xs pos) (tV X.K m λρ=>(gM F k e' ρ).map .bl))/\PW X (.BoolOp (bo k) xs pos) (tB X.K (gM F k e')))
 o: ∀X,Ct X G F-> ∀x,Cu G e' X.N X.env.scope x=true->PO X x (tO X.K (Gb F e'))
 i: ∀X,Ct X G F-> ∀tg x,y8 G e' X.N X.env.scope x=true-> ∀m,PI X tg x (tI X.K m (kE F m e'))
theorem jl {sc:Scope}{x:Str} (h:jU sc x=true):um sc x:=by
 unfold jU at h
 split at h
 .rename_i e; exact .inl e
 .rename_i e; exact .inr (.inl e)
 .rename_i e; exact .inr (.inr e)
 .cases h
theorem dO {X:Cx}{x:Str} (h:cT X.env.scope x=true):Gl X x:=by
 unfold cT at h
 split at h
 .rename_i e; exact e
 .cases h
theorem EK {sc:Scope}{x:Str} (h:EJ sc x=true):sc.names.lookup x=some .local :=by
 unfold EJ at h
 split at h
 .rename_i e; exact e
 .cases h
theorem ck {x:Str} (h:oY x=true):(x == ("__debug__":Str))=false/\(x == ("__classdict__":Str))=false:=by
 unfold oY at h
 simpa using h
theorem de {e:Expr}{env:PySem.Env} (h:dU e=true): ∀x,foldedSetIterable e env x=pure x:=by
 intro x
 cases e <;> first|rfl|exact absurd h Bool.false_ne_true
theorem m_ {e:Expr}{op:CmpOp} (h:dU e=true):behindInMarks op e=false:=by
 cases e <;> first|rfl|exact absurd h Bool.false_ne_true
theorem kX {e:Expr} (h:bX e=true):nP e:=by
 intro o i
 cases e <;> first|rfl|exact absurd h Bool.false_ne_true
theorem oE {N:List Str}{uD sc:Scope}{x:Str}{fr:List Nat} (h:rK N uD sc x fr=true):DR N uD sc (j7 N x fr) 1 fr/\sc.names.lookup x=some .local /\(j7 N x fr).Nodup :=by
 unfold rK at h
 simp only [Bool.and_eq_true,decide_eq_true_eq,List.all_eq_true] at h
 refine ao λnO=>?_
 obtain⟨⟨⟨⟨⟨⟨h1,h2⟩,h3⟩,h4⟩,h5⟩,h6⟩,h7⟩:=h
 refine nO ?_
 refine⟨⟨h1,h2,h3,h4,?_,λj y e=>?_⟩,EK h6,h7⟩
 .unfold j7; rw [List.length_cons,List.length_map,Nat.add_comm]
 .have e':(fr.map λi=>N.getD i "")[j]?=some y:=by
   rw [Nat.add_comm] at e
   exact e
  rw [List.getElem?_map] at e'
  refine ae (map_some e') λi f1 f2=>?_
  have KZ:=h5 i (List.mem_of_getElem? f1)
  cases q:N[i]? with
  |none=>rw [q] at KZ; cases KZ
  |some z=>
   rw [q] at KZ
   have ez:N.getD i ""=z:=by rw [List.getD_eq_getElem?_getD,q]; rfl
   rw [ez] at f2
   subst f2
   exact⟨i,f1,q,by simpa using KZ⟩
theorem qh {X:Cx}{d:D}{c:Const}{j:Nat}{pos:Pos} (h:Rr d c=true) (m:Bool):PE X (.Constant c j pos) (tV X.K m λ_=>some d):=by
 cases d with
 |eK=>
  cases c with
  |none=>exact KU (t:=tC .eK) C5 λ_ _ _=> .eK
  |_=>exact absurd h Bool.false_ne_true
 |bl b=>
  cases c with
  |bool b'=>
   have e:b=b':=eq_of_beq h
   subst e
   exact KU (t:=tC .eK) GK λ_ _ _=> .bl _
  |_=>exact absurd h Bool.false_ne_true
 |int i=>
  cases c with
  |int i'=>
   have e:i=i':=of_decide_eq_true h
   subst e
   exact KU (t:=tC .eK) C4 λ_ _ _=> .int _
  |_=>exact absurd h Bool.false_ne_true
 |tup _=>exact absurd h (by cases c <;> exact Bool.false_ne_true)
 |lst _=>exact absurd h (by cases c <;> exact Bool.false_ne_true)
 |bF _ _ _=>exact absurd h (by cases c <;> exact Bool.false_ne_true)
theorem xw {K:PySem.W.Frag}{m:Bool}{f g:Env->Option D} (h: ∀ρ,f ρ=g ρ):tV K m f=tV K m g:=by rw [show f=g from funext h]
theorem kY {X:Cx}{e:Expr}{f:Env->Option D} (m:Bool) (h:PE X e (tF X.K λρ=>(f ρ).bind iM)) (hf: ∀ρ d,f ρ=some d-> ∃ds,d= .lst ds):PE X e (tV X.K m f):=
 AB h λρ d hd=>by
  obtain⟨ds,rfl⟩:=hf ρ d hd
  exact⟨ds,by rw [hd]; rfl,rfl⟩
theorem AM {F:FT}{es:E}{N:List Str}{sc:Scope}{G:GT}{a0:Expr} (h:cA G es N sc [a0]=true): ∃a,es= .cons a .nil /\bj G a N sc a0=true/\aS a0=true:=by
 cases es with
 |cons a r=>
  rw [cA] at h
  simp only [Bool.and_eq_true] at h
  cases r with
  |nil=>exact⟨a,rfl,h.1.1,h.1.2⟩
  |cons b r=>exact absurd h.2 Bool.false_ne_true
  |_=>exact absurd h.2 Bool.false_ne_true
 |nil=>exact absurd h Bool.false_ne_true
 |_=>exact absurd h Bool.false_ne_true
theorem xy {F:FT}{es:E}{N:List Str}{sc:Scope}{G:GT}{a0 b0:Expr} (h:cA G es N sc [a0,b0]=true): ∃a b,es= .cons a (.cons b .nil)/\bj G a N sc a0=true/\aS a0=true/\bj G b N sc b0=true/\aS b0=true:=by
 cases es with
 |cons a r=>
  rw [cA] at h
  simp only [Bool.and_eq_true] at h
  refine bA (AM (F:=F) h.2) λb af h1 h2=>?_
  subst af
  exact⟨a,b,rfl,h.1.1,h.1.2,h1,h2⟩
 |nil=>exact absurd h Bool.false_ne_true
 |_=>exact absurd h Bool.false_ne_true
end Py
namespace Py
open PySem PySem.Spec PyProof.Rows L2
theorem oF: ∀{es:E}{N:List Str}{sc:Scope}{xs:List Expr}{ds:List D},cA G es N sc xs=true->cx F m es ρ=some ds->ds.length=xs.length:=λ{es}=>by
 induction es with
 |nil=>
  intro N sc xs ds h hd
  cases xs with
  |nil=>cases hd; rfl
  |cons _ _=>exact absurd h Bool.false_ne_true
 |cons a r _ ih=>
  intro N sc xs ds h hd
  cases xs with
  |nil=>exact absurd h Bool.false_ne_true
  |cons x xs=>
   rw [cA] at h
   simp only [Bool.and_eq_true] at h
   refine ae (bind_some (show(ev F m a ρ).bind _=_ from hd)) λd _ hd=>ae (bind_some hd) λIF h2 hd=>?_
   cases hd
   rw [List.length_cons,List.length_cons,ih h.2 h2]
 |_=>intro N sc xs ds h hd; exact absurd (show false=true from h) Bool.false_ne_true
section
variable {X:Cx}{a b c e:Expr}{es:List Expr}{pos p:Pos}{m:Bool}
theorem xA (hc:X.calm=true) (hg:Gl X "range") (hm:X.mg "range"=none) (IW:Gl X "list") (Hw:X.mg "list"=none) (ha:PA X [a] (rF X.K false g)) (hl: ∀ρ ds,g ρ=some ds->ds.length=1) (hs:starEach [a] X.env=[(false,eval a X.env)]):
  PE X (.Call (.Name "list" q1) [.Call (.Name "range" p) [a] [] pos] [] pA) (tF X.K λρ=>(g ρ).bind dn):=by
 have h1:=tm (p:=p) (pos:=pos) hg hm ha hs
 refine PE.weak (dX (rG hc) IW Hw boot_list (bV h1 dj rfl) (by decide) (by decide) rfl rfl) λσ H Q zz=>cG zz λO ρ ds hx hd q=>ae (bind_some hd) λxs e1 hd=>?_
 have nI:=hl ρ xs e1
 refine⟨O,ρ,xs,hx,e1,λvs H1 s1 r=>?_⟩
 cases xs with
 |nil=>cases nI
 |cons x t=>
  cases t with
  |cons _ _=>cases nI
  |nil=>
   refine ae (cL r) λv af rv=>?_
   subst af
   cases x with
   |int n=>
    change (if -(2 ^ 62)<=n/\n<=bJ then some (br 0 (n).toNat) else none)=some _ at hd
    split at hd
    .rename_i hz
     cases hd
     cases rv.int
     exact⟨n,rfl,λp hp=>⟨p,n,rfl,ah,hz,λl hl=>q l _ _ (s1.trans (ag.upd hp)) hl (jj _ _)⟩⟩
    .cases hd
   |_=>cases hd
theorem Jb (hg:Gl X "range") (hm:X.mg "range"=none) (ha:PA X es (rF X.K false g)) (hl: ∀ρ ds,g ρ=some ds->ds.length=es.length) (K0:es.length=1) (hs:es.all aS=true):
  PI X tg (.Call (.Name "range" p) es [] pos) (tI X.K m λρ=>(g ρ).bind dn):=by
 intro U s σ H R I ⟨O,ρ,ds,hx,hd,q⟩
 refine ae (bind_some hd) λxs e1 hd=>?_
 have nI:=hl ρ xs e1
 have iI:bJ=16777216:=rfl
 cases es with
 |nil=>simp at K0
 |cons a t=>
  rw [List.all_cons,Bool.and_eq_true] at hs
  cases t with
  |nil=>
   refine ur hg hm ha (bO hs.1) U s σ H R I ⟨O,ρ,xs,hx,e1,λvs H1 s1 r=>?_⟩
   cases xs with
   |nil=>cases nI
   |cons x t=>
    cases t with
    |cons _ _=>cases nI
    |nil=>
     refine ae (cL r) λv af rv=>?_
     subst af
     cases x with
     |int n=>
      change (if -(2 ^ 62)<=n/\n<=bJ then some (br 0 (n).toNat) else none)=some _ at hd
      split at hd
      .rename_i hz
       cases hd
       cases rv.int
       exact⟨n,rfl,by lia,by lia,q _ none H1 s1 EG trivial⟩
      .cases hd
     |_=>cases hd
  |cons b t=>simp at K0
end
section
variable {G:GT}{F:FT}
theorem cj.gb (e: ∀X,Ct X G F-> ∀x,bj G e' X.N X.env.scope x=true-> ∀m,PE X x (tV X.K m (ev F m e')))
  (t: ∀X,Ct X G F-> ∀x,bj G e' X.N X.env.scope x=true->AL e'=true->PT X x (tB X.K λρ=>(ev F false e' ρ).bind eO))
  (f: ∀X,Ct X G F-> ∀x,bj G e' X.N X.env.scope x=true->fresh e'=true->PE X x (tF X.K λρ=>(ev F false e' ρ).bind iM))
  (n1: ∀N sc xs,cA G e' N sc xs=false:=by intro _ _ _; rfl) (n2: ∀N sc xs,jV G e' N sc xs=false:=by intro _ _ _; rfl) (n3: ∀N sc xs,Cu G e' N sc xs=false:=by intro _ _ _; rfl) (n4: ∀N sc xs,y8 G e' N sc xs=false:=by intro _ _ _; rfl):cj G F e':=
 ⟨e,t,f,λX _ xs h=>absurd h (by rw [n1]; exact Bool.false_ne_true),λX _ xs h=>absurd h (by rw [n2]; exact Bool.false_ne_true),λX _ xs h=>absurd h (by rw [n3]; exact Bool.false_ne_true),λX _ tg xs h=>absurd h (by rw [n4]; exact Bool.false_ne_true)⟩
theorem ff {P:Prop} (h:false=true):P:=absurd h Bool.false_ne_true
theorem AN:cj G F .nil where
 e:=λX hC x h=>ff h
 t:=λX hC x h=>ff h
 f:=λX hC x h=>ff h
 es:=λX hC xs h m=>by
  cases xs with
  |nil=>exact IQ
  |cons _ _=>exact ff h
 ts:=λX hC xs h=>by
  cases xs with
  |nil=>exact⟨xu,λz=>absurd rfl z⟩
  |cons _ _=>exact ff h
 o:=λX hC x h=>by
  cases x with
  |none=>exact Ew
  |some _=>exact ff h
 i:=λX hC tg x h=>ff h
theorem xB {a r:E} (ha:cj G F a) (hr:cj G F r):cj G F (.cons a r) where
 e:=λX hC x h=>ff h
 t:=λX hC x h=>ff h
 f:=λX hC x h=>ff h
 es:=λX hC xs h m=>by
  cases xs with
  |nil=>exact ff h
  |cons x xs=>
   rw [cA] at h
   simp only [Bool.and_eq_true] at h
   exact Eu (ha.e X hC x h.1.1 m) (hr.es X hC xs h.2 m) (bO h.1.2)
 ts:=λX hC xs h=>by
  cases xs with
  |nil=>exact ff h
  |cons x xs=>
   rw [jV] at h
   simp only [Bool.and_eq_true] at h
   have t1:=ha.t X hC x h.1.1 h.1.2
   have e1:=ha.e X hC x h.1.1 false
   have t2:=hr.ts X hC xs h.2
   refine⟨AK t1 t2.1,λ_ k pos=>?_⟩
   cases xs with
   |nil=>
    have er: ∀ρ,gM F k r ρ=some k:=by
     cases r with
     |nil=>intro ρ; rfl
     |cons _ _=>exact ff h.2
     |_=>exact ff h.2
    have eq: ∀ρ,gM F k (.cons a r) ρ=((ev F false a ρ).bind eO).bind λx=>if x=k then some k else some x:=λρ=>by
     show((ev F false a ρ).bind eO).bind _=_
     congr 1
     funext x
     rw [er ρ]
    refine⟨λm=>?_,?_⟩
    .rw [xw λρ=>congrArg (Option.map D.bl) (eq ρ)]
     exact Es e1
    .rw [show(gM F k (.cons a r))=λρ=>((ev F false a ρ).bind eO).bind λx=>if x=k then some k else some x from funext eq]
     exact Et t1
   |cons y ys=>
    have t3:=t2.2 (by simp) k pos
    exact⟨λm=>IM e1 (t3.1 false),IP t1 t3.2⟩
 o:=λX hC x h=>by
  cases x with
  |none=>exact ff h
  |some x=>exact Ex (ha.e X hC x h false)
 i:=λX hC tg x h=>ff h
theorem AO {i:Nat}:cj G F (.var i):=by
 have e: ∀X,Ct X G F-> ∀x,bj G (.var i) X.N X.env.scope x=true-> ∃n p,x= .Name n p/\ ∀m,PE X x (tV X.K m (ev F m (.var i))):=λX hC x h=>by
  cases x with
  |Name n p=>
   change (decide (X.N[i]?=some n) && jU X.env.scope n && oY n)=true at h
   simp only [Bool.and_eq_true,decide_eq_true_eq] at h
   exact⟨n,p,rfl,λm=>v_var h.1.1 (jl h.1.2) (ck h.2).1 (ck h.2).2⟩
  |_=>exact ff h
 refine .gb (λX hC x h m=>?_) (λX hC x h _=>?_) (λX hC x h z=>ff z)
 .refine gu (e X hC x h) λn p af k=>?_
  subst af
  exact k m
 .refine gu (e X hC x h) λn p aO k=>?_
  subst aO
  exact cW (k false) λ_=>rfl
theorem tu {X:Cx}{d:D}{x:Str}{p:Pos} (hC:Ct X G F) (h:(cT X.env.scope x && oY x && Ja G x d)=true) (m:Bool):PE X (.Name x p) (tV X.K m λ_=>some d):=by
 simp only [Bool.and_eq_true] at h
 obtain⟨⟨h1,h2⟩,h3⟩:=h
 cases d with
 |int i=>
  obtain⟨t,e⟩:=hC.cst x i (of_decide_eq_true h3)
  exact KU (t:=tC .eK) (zi (v:= .int i) (dO h1) e ⟨t,rfl⟩ (ck h2).1) λ_ _ _=> .int _
 |_=>exact ff h3
theorem Jc {d:D}:cj G F (.c d):=by
 refine .gb (λX hC x h m=>?_) (λX hC x h _=>?_) (λX hC x h z=>ff z)
 .cases x with
  |Constant c j p=>exact qh h m
  |Name n p=>exact tu hC h m
  |_=>exact ff h
 .cases x with
  |Constant c j p=>exact cW (qh h false) λ_=>rfl
  |Name n p=>exact cW (tu hC h false) λ_=>rfl
  |_=>exact ff h
theorem AQ (ha:cj G F a) (hb:cj G F b):cj G F (.bin o a b):=by
 have aJ: ∀X,Ct X G F-> ∀x,bj G (.bin o a b) X.N X.env.scope x=true-> ∃l r p,x= .BinOp l o r p/\PE X l (tV X.K true (ev F true a))/\PE X r (tV X.K true (ev F true b)):=λX hC x h=>by
  cases x with
  |BinOp l op r p=>
   change (decide (o=op) && bj G a X.N X.env.scope l && bj G b X.N X.env.scope r)=true at h
   simp only [Bool.and_eq_true,decide_eq_true_eq] at h
   obtain⟨⟨rfl,h1⟩,h2⟩:=h
   exact⟨l,r,p,rfl,ha.e X hC l h1 true,hb.e X hC r h2 true⟩
  |_=>exact ff h
 refine .gb (λX hC x h m=>?_) (λX hC x h _=>?_) (λX hC x h z=>?_)
 .refine cG (aJ X hC x h) λl r p af h1 h2=>?_
  subst af
  exact Cq h1 h2
 .refine cG (aJ X hC x h) λl r p aO h1 h2=>?_
  subst aO
  exact cW (Cq h1 h2) λ_=>rfl
 .refine cG (aJ X hC x h) λl r p eN h1 h2=>?_
  subst eN
  cases o with
  |Add=>exact(IG h1 h2).weak λσ H Q q=>q
  |_=>exact ff z
theorem AR (ha:cj G F a) (hb:cj G F b):cj G F (.cmp o a b):=by
 have aJ: ∀X,Ct X G F-> ∀x,bj G (.cmp o a b) X.N X.env.scope x=true-> ∃l r p,x= .Compare l [o] [r] p/\PE X l (tV X.K true (ev F true a))/\PE X r (tV X.K true (ev F true b))/\behindInMarks o r=false:=λX hC x h=>by
  cases x with
  |Compare l ops rs p=>
   cases ops with
   |nil=>exact ff h
   |cons op ops=>
    cases ops with
    |cons _ _=>exact ff h
    |nil=>
     cases rs with
     |nil=>exact ff h
     |cons r rs=>
      cases rs with
      |cons _ _=>exact ff h
      |nil=>
       change (decide (o=op) && bj G a X.N X.env.scope l && bj G b X.N X.env.scope r && dU r)=true at h
       simp only [Bool.and_eq_true,decide_eq_true_eq] at h
       obtain⟨⟨⟨rfl,h1⟩,h2⟩,h3⟩:=h
       exact⟨l,r,p,rfl,ha.e X hC l h1 true,hb.e X hC r h2 true,m_ h3⟩
  |_=>exact ff h
 refine .gb (λX hC x h m=>?_) (λX hC x h _=>?_) (λX hC x h z=>ff z)
 .refine Kk (aJ X hC x h) λl r p af h1 h2 h3=>?_
  subst af
  exact II hC.units h1 h2 h3
 .refine Kk (aJ X hC x h) λl r p aO h1 h2 h3=>?_
  subst aO
  exact IJ hC.units h1 h2 h3
theorem AS (ha:cj G F a):cj G F (.not a):=by
 have aJ: ∀X,Ct X G F-> ∀x,bj G (.not a) X.N X.env.scope x=true-> ∃l p,x= .UnaryOp .Not l p/\PE X l (tV X.K false (ev F false a))/\PT X l (tB X.K λρ=>(ev F false a ρ).bind eO):=λX hC x h=>by
  cases x with
  |UnaryOp op l p=>
   change (decide (op= .Not) && bj G a X.N X.env.scope l && AL a)=true at h
   simp only [Bool.and_eq_true,decide_eq_true_eq] at h
   obtain⟨⟨rfl,h1⟩,h2⟩:=h
   exact⟨l,p,rfl,ha.e X hC l h1 false,ha.t X hC l h1 h2⟩
  |_=>exact ff h
 refine .gb (λX hC x h m=>?_) (λX hC x h _=>?_) (λX hC x h z=>ff z)
 .refine ba (aJ X hC x h) λl p af h1 h2=>?_
  subst af
  exact v_not h1
 .refine ba (aJ X hC x h) λl p aO h1 h2=>?_
  subst aO
  exact IK h2
theorem AU (he:cj G F es):cj G F (.qH k es):=by
 have aJ: ∀X,Ct X G F-> ∀x,bj G (.qH k es) X.N X.env.scope x=true-> ∃vs p,x= .BoolOp (bo k) vs p/\(∀m,PE X (.BoolOp (bo k) vs p) (tV X.K m λρ=>(gM F k es ρ).map .bl))/\PW X (.BoolOp (bo k) vs p) (tB X.K (gM F k es)):=λX hC x h=>by
  cases x with
  |BoolOp op vs p=>
   change (decide (op=bo k) && !vs.isEmpty && jV G es X.N X.env.scope vs)=true at h
   simp only [Bool.and_eq_true,decide_eq_true_eq] at h
   obtain⟨⟨rfl,h1⟩,h2⟩:=h
   have hv:vs≠[]:=by rintro rfl; exact ff (by simpa using h1)
   exact⟨vs,p,rfl,(he.ts X hC vs h2).2 hv k p⟩
  |_=>exact ff h
 refine .gb (λX hC x h m=>?_) (λX hC x h _=>?_) (λX hC x h z=>ff z)
 .refine ba (aJ X hC x h) λvs p af h1 h2=>?_
  subst af
  exact h1 m
 .refine ba (aJ X hC x h) λvs p aO h1 h2=>?_
  subst aO
  refine h2.pt.weak λσ H Q ⟨O,ρ,q,hx,hd,kk⟩=>⟨O,ρ,q,hx,?_,kk⟩
  refine ae (bind_some hd) λd hd hq=>ae (map_some (show(gM F k es ρ).map D.bl=some d from hd)) λb hb eN=>?_
  subst eN
  cases hq
  exact hb
theorem AV (he:cj G F es):cj G F (.tup es):=by
 refine .gb (λX hC x h m=>?_) (λX hC x h _=>?_) (λX hC x h z=>ff z)
 .cases x with
  |Tuple xs k p=>exact Cr (he.es X hC xs h false)
  |_=>exact ff h
 .cases x with
  |Tuple xs k p=>exact cW (Cr (he.es X hC xs h false)) λ_=>rfl
  |_=>exact ff h
theorem AW (he:cj G F es):cj G F (.lst es):=by
 have aJ: ∀X,Ct X G F-> ∀x,bj G (.lst es) X.N X.env.scope x=true-> ∃xs p,x= .List xs p/\PE X x (tF X.K λρ=>(ev F false (.lst es) ρ).bind iM):=λX hC x h=>by
  cases x with
  |List xs p=>
   refine⟨xs,p,rfl,(IS (he.es X hC xs h false)).weak λσ H Q ⟨O,ρ,ds,hx,hd,q⟩=>⟨O,ρ,ds,hx,?_,q⟩⟩
   refine ae (bind_some hd) λd hd hl=>ae (bind_some (show(cx F false es ρ).bind _=_ from hd)) λys h1 hd=>?_
   show(cx F false es ρ).bind _=_
   rw [h1]
   split at hd
   .rename_i hz
    cases hd
    cases hl
    exact if_pos hz
   .cases hd
  |_=>exact ff h
 have EL: ∀ρ d,ev F false (.lst es) ρ=some d-> ∃ds,d= .lst ds:=λρ d hd=>by
  refine ae (bind_some (show(cx F false es ρ).bind _=_ from hd)) λys h1 hd=>?_
  split at hd
  .cases hd; exact⟨_,rfl⟩
  .cases hd
 refine .gb (λX hC x h m=>?_) (λX hC x h _=>?_) (λX hC x h z=>?_)
 .refine gu (aJ X hC x h) λxs p af k=>?_
  subst af
  exact kY m k EL
 .refine gu (aJ X hC x h) λxs p aO k=>?_
  subst aO
  exact cW (kY false k EL) λ_=>rfl
 .refine gu (aJ X hC x h) λxs p eN k=>?_
  subst eN
  exact k
theorem AX (ha:cj G F a) (hi:cj G F i):cj G F (.idx a i):=by
 have aJ: ∀X,Ct X G F-> ∀x,bj G (.idx a i) X.N X.env.scope x=true-> ∃v s p,x= .Subscript v s p/\ ∀m,PE X x (tV X.K m (ev F m (.idx a i))):=λX hC x h=>by
  cases x with
  |Subscript v s p=>
   change (bj G a X.N X.env.scope v && bj G i X.N X.env.scope s && bX s)=true at h
   simp only [Bool.and_eq_true] at h
   exact⟨v,s,p,rfl,λm=>IT (ha.e X hC v h.1.1 true) (hi.e X hC s h.1.2 false) (kX h.2)⟩
  |_=>exact ff h
 refine .gb (λX hC x h m=>?_) (λX hC x h _=>?_) (λX hC x h z=>ff z)
 .refine qG (aJ X hC x h) λv s p af k=>?_
  subst af
  exact k m
 .refine qG (aJ X hC x h) λv s p aO k=>?_
  subst aO
  exact cW (k false) λ_=>rfl
theorem EM {a lo hi:E} (ha:cj G F a) (hl:cj G F lo) (hh:cj G F hi):cj G F (.sl a lo hi):=by
 have aJ: ∀X,Ct X G F-> ∀x,bj G (.sl a lo hi) X.N X.env.scope x=true-> ∃v l u p2 p,x= .Subscript v (.Slice l u none p2) p/\PE X v (tV X.K true (ev F true a))/\PO X l (tO X.K (Gb F lo))/\PO X u (tO X.K (Gb F hi)):=λX hC x h=>by
  cases x with
  |Subscript v s p=>
   cases s with
   |Slice l u st p2=>
    cases st with
    |some _=>exact ff h
    |none=>
     change (true && bj G a X.N X.env.scope v && Cu G lo X.N X.env.scope l && Cu G hi X.N X.env.scope u)=true at h
     simp only [Bool.and_eq_true] at h
     exact⟨v,l,u,p2,p,rfl,ha.e X hC v h.1.1.2 true,hl.o X hC l h.1.2,hh.o X hC u h.2⟩
   |_=>exact ff h
  |_=>exact ff h
 refine .gb (λX hC x h m=>?_) (λX hC x h _=>?_) (λX hC x h z=>?_)
 .refine Ll (aJ X hC x h) λv l u p2 p af k1 k2 k3=>?_
  subst af
  exact IU k1 k2 k3
 .refine Ll (aJ X hC x h) λv l u p2 p aO k1 k2 k3=>?_
  subst aO
  exact cW (IU k1 k2 k3) λ_=>rfl
 .refine Ll (aJ X hC x h) λv l u p2 p eN k1 k2 k3=>?_
  subst eN
  exact(MT k1 k2 k3).weak λσ H Q q=>q
theorem xC (he:cj G F es):cj G F (.call f es):=by
 have aJ: ∀X,Ct X G F-> ∀x,bj G (.call f es) X.N X.env.scope x=true->(∃fn args cn p,x= .Call fn args cn p)/\ ∀m,PE X x (tV X.K m (ev F m (.call f es))):=λX hC x h=>by
  cases x with
  |Call fn args cn p=>
   refine⟨⟨_,_,_,_,rfl⟩,?_⟩
   cases fn with
   |Name n q=>
    cases args with
    |nil=>exact ff h
    |cons a0 ar=>
     cases cn with
     |cons _ _=>exact ff h
     |nil=>
      change (decide (G.1[f]?=some n) && cT X.env.scope n && oY n && cA G es X.N X.env.scope (a0::ar))=true at h
      simp only [Bool.and_eq_true,decide_eq_true_eq] at h
      refine ao λnO=>?_
      obtain⟨⟨⟨h1,h2⟩,h3⟩,h4⟩:=h
      refine BU (hC.call f n h1) λk fa fd ps h5 h6 h7 h8 h9 T1=>nO ?_
      have ns:=iL h4
      rw [List.all_cons,Bool.and_eq_true] at ns
      exact λm=>Ey (g:=λb=>cx F b es) (ln:=λρ=>kD ρ es) h5 h6 (dO h2) h7 h8 h9 T1 (λb=>he.es X hC _ h4 b) (λρ hl=>xv hl) (ck h3).1 (bO ns.1) (fO ns.2)
   |_=>exact ff h
  |_=>exact ff h
 refine .gb (λX hC x h m=>(aJ X hC x h).2 m) (λX hC x h _=>?_) (λX hC x h z=>ff z)
 refine ao λnO=>?_
 obtain⟨⟨fn,args,cn,p,rfl⟩,k⟩:=aJ X hC x h
 exact nO <| cW (k false) λ_=>rfl
theorem oG (q:rg):fm q∈fP:=by cases q <;> decide +kernel
theorem xD (he:cj G F es):cj G F (.prim q es):=by
 have aJ: ∀X,Ct X G F-> ∀x,bj G (.prim q es) X.N X.env.scope x=true-> ∃a0 ar n p,x= .Call (.Name (fm q) n) (a0::ar) [] p/\Gl X (fm q)/\(∀m,PA X (a0::ar) (rF X.K m (cx F m es)))/\aS a0=true/\ar.all aS=true:=λX hC x h=>by
  cases x with
  |Call fn args cn p=>
   cases fn with
   |Name n pn=>
    cases args with
    |nil=>exact ff h
    |cons a0 ar=>
     cases cn with
     |cons _ _=>exact ff h
     |nil=>
      change (decide (n=fm q) && cT X.env.scope n && cA G es X.N X.env.scope (a0::ar))=true at h
      simp only [Bool.and_eq_true,decide_eq_true_eq] at h
      obtain⟨⟨rfl,h2⟩,h4⟩:=h
      have ns:=iL h4
      rw [List.all_cons,Bool.and_eq_true] at ns
      exact⟨a0,ar,pn,p,rfl,dO h2,λm=>he.es X hC _ h4 m,ns.1,ns.2⟩
   |_=>exact ff h
  |_=>exact ff h
 refine .gb (λX hC x h m=>?_) (λX hC x h _=>?_) (λX hC x h z=>?_)
 .refine qK (aJ X hC x h) λa0 ar n p af h1 h2 h3 h4=>?_
  subst af
  exact m6 hC.units hC.calm h1 (hC.mg _ (oG q)) (h2 true) (bO h3) (fO h4)
 .refine qK (aJ X hC x h) λa0 ar n p aO h1 h2 h3 h4=>?_
  subst aO
  exact cW (m6 hC.units hC.calm h1 (hC.mg _ (oG q)) (h2 true) (bO h3) (fO h4)) λ_=>rfl
 .refine qK (aJ X hC x h) λa0 ar n p eN h1 h2 h3 h4=>?_
  subst eN
  cases q with
  |list=>
   refine(f_list h1 (hC.mg _ (oG .list)) (h2 true) (bO h3) (fO h4)).weak λσ H Q ⟨O,ρ,ds,hx,hd,k⟩=>⟨O,ρ,ds,hx,?_,k⟩
   refine ae (bind_some hd) λd hd hl=>ae (bind_some (show(cx F true es ρ).bind _=_ from hd)) λxs e1 hd=>?_
   show(cx F true es ρ).bind _=_
   rw [e1]
   cases xs with
   |nil=>cases hd
   |cons y t=>
    cases t with
    |cons _ _=>cases hd
    |nil=>
     refine ae (map_some hd) λys h5 w6=>?_
     subst w6
     cases hl
     exact h5
  |_=>exact ff z
theorem AY (he:cj G F es):cj G F (.iZ q es):=by
 have aJ: ∀X,Ct X G F-> ∀x,bj G (.iZ q es) X.N X.env.scope x=true->(∃fn args cn p,x= .Call fn args cn p)/\((q= .list /\PE X x (tF X.K λρ=>(ev F false (.iZ q es) ρ).bind iM))\/(q= .tuple /\ ∀m,PE X x (tV X.K m (ev F m (.iZ q es))))):=λX hC x h=>by
  cases x with
  |Call fn args cn p=>
   refine⟨⟨_,_,_,_,rfl⟩,?_⟩
   change (match (generalizing:=false) fn,args,cn with
   | .Name x _,[.Call (.Name y _) [a0] [] _],[]=>(decide (q= .list) || decide (q= .tuple)) && decide (x=fm q) && decide (y="range") && cT X.env.scope x && cT X.env.scope y && cA G es X.N X.env.scope [a0]
   |_,_,_=>false)=true at h
   split at h
   .rename_i n pn y py a0 p2
    simp only [Bool.and_eq_true,Bool.or_eq_true,decide_eq_true_eq] at h
    refine ao λnO=>?_
    obtain⟨⟨⟨⟨⟨hq,rfl⟩,rfl⟩,h3⟩,h4⟩,h5⟩:=h
    refine nO ?_
    have ns:=iL h5
    rw [List.all_cons,Bool.and_eq_true] at ns
    rcases hq with rfl|rfl
    .refine .inl ⟨rfl,?_⟩
     refine(xA hC.calm (dO h4) (hC.mg _ (by simp [fP])) (dO h3) (hC.mg _ (by simp [fP,fm])) (he.es X hC _ h5 false) (λρ ds hd=>oF h5 hd) (bO ns.1)).weak λσ H Q ⟨O,ρ,ds,hx,hd,k⟩=>⟨O,ρ,ds,hx,?_,k⟩
     refine ao λnO=>ae (bind_some hd) λd hd hl=>ae (bind_some (show((cx F false es ρ).bind dn).bind (mi .list)=_ from hd)) λxs e1 hd=>?_
     cases hd
     cases hl
     exact nO <| e1
    .refine .inr ⟨rfl,λm=>?_⟩
     refine(xl (m:=m) hC.calm (dO h4) (hC.mg _ (by simp [fP])) (dO h3) (hC.mg _ (by simp [fP,fm])) (he.es X hC _ h5 false) (λρ ds hd=>oF h5 hd) (bO ns.1)).weak λσ H Q ⟨O,ρ,d,hx,hd,k⟩=>⟨O,ρ,d,hx,?_,k⟩
     refine ao λnO=>ae (bind_some (show((cx F false es ρ).bind dn).bind (mi .tuple)=_ from hd)) λxs e1 hd=>?_
     cases hd
     refine nO ?_
     show((cx F false es ρ).bind dn).map D.tup=_
     rw [e1]
     rfl
   .cases h
  |_=>exact ff h
 have EL:q= .list -> ∀ρ d,ev F false (.iZ q es) ρ=some d-> ∃ds,d= .lst ds:=λhq ρ d hd=>by
  refine ao λnO=>?_
  subst hq
  refine ae (bind_some (show((cx F false es ρ).bind dn).bind (mi .list)=_ from hd)) λxs e1 hd=>?_
  cases hd
  exact nO <| ⟨_,rfl⟩
 have val: ∀X,Ct X G F-> ∀x,bj G (.iZ q es) X.N X.env.scope x=true-> ∀m,PE X x (tV X.K m (ev F m (.iZ q es))):=λX hC x h m=>by
  obtain⟨_,k⟩:=aJ X hC x h
  rcases k with ⟨hq,k⟩|⟨hq,k⟩
  .exact kY m k (EL hq)
  .exact k m
 refine .gb val (λX hC x h _=>?_) (λX hC x h z=>?_)
 .refine ao λnO=>?_
  obtain⟨⟨fn,args,cn,p,rfl⟩,_⟩:=aJ X hC x h
  exact nO <| cW (val X hC _ h false) λ_=>rfl
 .obtain⟨_,k⟩:=aJ X hC x h
  rcases k with ⟨hq,k⟩|⟨rfl,_⟩
  .exact k
  .exact ff z
theorem jZ (h:rJ oe=true):attributeBase oe nm env (eval oe env)=eval oe env:=by
 cases oe <;> first|rfl|exact ff h
theorem xE (ho:cj G F o) (he:cj G F es):cj G F (.dZ mm o es):=by
 have aJ: ∀X,Ct X G F-> ∀x,bj G (.dZ mm o es) X.N X.env.scope x=true->(∃fn args cn p,x= .Call fn args cn p)/\ ∀m,PE X x (tV X.K m (ev F m (.dZ mm o es))):=λX hC x h=>by
  cases x with
  |Call fn args cn p=>
   refine⟨⟨_,_,_,_,rfl⟩,?_⟩
   change (match (generalizing:=false) fn,args,cn with
   | .Attribute oe nm ap,[a0],[]=>decide (nm="index") && rJ oe && (ap.endLine == p.line) && bj G o X.N X.env.scope oe && cA G es X.N X.env.scope [a0]
   |_,_,_=>false)=true at h
   split at h
   .rename_i oe nm ap a0
    simp only [Bool.and_eq_true,decide_eq_true_eq] at h
    obtain⟨⟨⟨⟨K0,h3⟩,h4⟩,h5⟩,h6⟩:=h
    have ns:=iL h6
    rw [List.all_cons,Bool.and_eq_true] at ns
    subst K0
    cases mm
    exact λm=>AH (ho.e X hC oe h5 true) (he.es X hC _ h6 true) (jZ h3) h4 (bO ns.1)
   .cases h
  |_=>exact ff h
 refine .gb (λX hC x h m=>(aJ X hC x h).2 m) (λX hC x h _=>?_) (λX hC x h z=>ff z)
 obtain⟨⟨fn,args,cn,p,rfl⟩,k⟩:=aJ X hC x h
 exact cW (k false) λ_=>rfl
theorem AZ (ha:cj G F a):cj G F (.vC a b):=by
 have aJ: ∀X,Ct X G F-> ∀x,bj G (.vC a b) X.N X.env.scope x=true->(∃fn args cn p,x= .Call fn args cn p)/\ ∀m,PE X x (tV X.K m (ev F m (.vC a b))):=λX hC x h=>by
  cases x with
  |Call fn args cn p=>
   refine⟨⟨_,_,_,_,rfl⟩,?_⟩
   change (match (generalizing:=false) fn,args,cn with
   | .Name x _,[a0,.Name y _],[]=>decide (x="isinstance") && decide (y=Str.ofString (tj b)) && cT X.env.scope x && cT X.env.scope y && bj G a X.N X.env.scope a0 && aS a0
   |_,_,_=>false)=true at h
   split at h
   .rename_i n pn a0 y py
    simp only [Bool.and_eq_true,decide_eq_true_eq] at h
    obtain⟨⟨⟨⟨⟨rfl,rfl⟩,h3⟩,h4⟩,h5⟩,h6⟩:=h
    have hb:Str.ofString (tj b)∈fP:=by cases b <;> simp [tj,fP]
    exact λm=>IV (ha.e X hC a0 h5 false) (dO h3) (hC.mg _ (by simp [fP])) (dO h4) (hC.mg _ hb) (bO h6)
   .cases h
  |_=>exact ff h
 refine .gb (λX hC x h m=>(aJ X hC x h).2 m) (λX hC x h _=>?_) (λX hC x h z=>ff z)
 obtain⟨⟨fn,args,cn,p,rfl⟩,k⟩:=aJ X hC x h
 exact cW (k false) λ_=>rfl
end
end Py
namespace Py
open PySem PySem.Spec PyProof.Rows L2
noncomputable def eE:List (List Int)->List V->List Int->Option V
 |k::ks,v::vs,x=>if k=x then some v else eE ks vs x
 |_,_,_=>none
theorem jm [DecidableEq κ] (f:List Int->κ): ∀(ks:List (List Int)) (vs:List V) (x:List Int),(∀k∈ks,f k=f x->k=x)->i_ ((ks.map f).zip vs) (f x)=eE ks vs x
 |[],vs,x,_=>by simp [eE,i_]
 |k::ks,[],x,_=>by simp [eE,i_]
 |k::ks,v::vs,x,h=>by
  rw [List.map_cons,List.zip_cons_cons,eE]
  by_cases e:k=x
  .rw [if_pos e,ir (by rw [e])]
  .rw [if_neg e,iu (λz=>e (h k List.mem_cons_self z))]
   exact jm f ks vs x λk hk=>h k (List.mem_cons_of_mem _ hk)
theorem oH: ∀{a b:List Int},a.map (Sum.inl:Int->cB)=b.map Sum.inl->a=b
 |[],[],_=>rfl
 |[],_::_,h=>by simp at h
 |_::_,[],h=>by simp at h
 |x::a,y::b,h=>by
  rw [List.map_cons,List.map_cons] at h
  injection h with h1 h2
  rw [Sum.inl.inj h1,oH h2]
theorem nc {K:PySem.W.Frag}{O:Addr->Prop}{H:Hp}: ∀{x:List Int}{vs:List V},av K O H vs (x.map .int)->vs=x.map V.int
 |[],_,.nil =>rfl
 |i::x,_,.cons r t=>by rw [r.int_inv,nc t]; rfl
theorem jJ: ∀{xs:List D}{p:List Int},aX xs=some p->xs=p.map .int
 |[],p,h=>by cases h; rfl
 |x::xs,p,h=>by
  cases x with
  |int i=>
   refine ae (map_some (show(aX xs).map (i:: ·)=some p from h)) λq h1 af=>?_
   subst af
   rw [jJ h1]
   rfl
  |_=>cases h
section
variable {K:PySem.W.Frag}{O:Addr->Prop}{H:Hp}{a:Addr}{t:Nat}{ks:List (List Int)}{vs:List V}{ds:List D}
theorem gc {y:V}{dy:D}{x:List Int} (r:bg K O H y dy) (hx:dH t dy=some x):(t=0/\(∃i,x=[i]/\y= .int i))\/(t≠0/\ ∃b,y= .ref b/\H b=some (.tup ((x.map Sum.inl).map kV))):=by
 cases dy with
 |int i=>
  simp only [dH] at hx
  split at hx
  .rename_i h0
   cases hx
   exact .inl ⟨h0,i,rfl,r.int_inv⟩
  .cases hx
 |tup xs=>
  simp only [dH] at hx
  split at hx
  .cases hx
  .rename_i h0
   have e:=jJ hx
   subst e
   refine ba r.iG λb us af h1 h2=>?_
   subst af
   refine .inr ⟨h0,b,rfl,?_⟩
   rw [List.map_map]
   have:=nc h2
   rw [this] at h1
   exact h1
 |_=>cases hx
theorem tD (hd:Rd H a (fF t ks vs)) (hk:kM t ks) (r:bg K O H y dy) (hx:dH t dy=some x):nY H a y (eE ks vs x):=by
 rcases gc r hx with ⟨h0,i,rfl,rfl⟩|⟨h0,b,rfl,hb⟩
 .unfold fF at hd
  rw [if_pos h0] at hd
  refine .inl ⟨_,Sum.inl i,hd,rfl,?_⟩
  have:=jm (λk:List Int=>(Sum.inl (k.headD 0):cB)) ks vs [i] (λk hm e=>by
   obtain⟨j,rfl⟩:=hk.2 h0 k hm
   have:j=i:=Sum.inl.inj e
   rw [this])
  exact this.symm
 .unfold fF at hd
  rw [if_neg h0] at hd
  exact .inr ⟨_,x.map Sum.inl,b,hd,rfl,hb,(jm (λk:List Int=>k.map (Sum.inl:Int->cB)) ks vs x λk _ e=>oH e).symm⟩
theorem kZ: ∀{ks:List (List Int)}{vs:List V}{ds:List D}{x:List Int},ks.length=vs.length->av K O H vs ds->(∀d,ic ks ds x=some d-> ∃v,eE ks vs x=some v/\bg K O H v d)/\(ic ks ds x=none->eE ks vs x=none)/\((eE ks vs x).isSome =decide (x∈ks))
 |[],_,_,x,_,_=>⟨λ_ h=>by simp [ic] at h,λ_=>by simp [eE],by simp [eE]⟩
 |k::ks,[],_,x,h,_=>by simp at h
 |k::ks,v::vs,_,x,h,.cons (d:=d) (ds:=ds) r rs=>by
  have ih:=kZ (ks:=ks) (x:=x) (by simpa using h) rs
  by_cases e:k=x
  .simp only [ic,eE,if_pos e]
   exact⟨λd' hd=>(by cases hd; exact⟨v,rfl,r⟩),λz=>(by cases z),by simp [e]⟩
  .simp only [ic,eE,if_neg e]
   exact⟨ih.1,ih.2.1,by rw [ih.2.2]; simp [Ne.symm e]⟩
theorem A0:vH (some (fF t ks vs)):=by unfold fF; split <;> exact True.intro
theorem EX.bF (hx:EX K O σ H ρ) (h:ie ρ i=some d): ∃a vs,σ[i]?=some (some (.ref a))/\Rd H a (fF d.1 d.2.1 vs)/\d.2.1.length=vs.length/\kM d.1 d.2.1/\av K O H vs d.2.2:=by
 unfold ie at h
 split at h
 .rename_i o t ks ds e
  split at h
  .cases h
  rename_i ht
  cases h
  refine ae (hx.jP i o _ e) λv h1 h2=>?_
  cases o with
  |true=>
   refine bA h2 λa e1 _ c=>zb (c.bF ht) λvs c1 c2 c3 c4=>?_
   subst e1
   exact⟨a,vs,h1,.inl c1,c2,c3,c4⟩
  |false=>
   have Jd:bg K O H v (.bF t ks ds):=h2
   cases Jd with
   |bF g1 g2 g3 g4=>exact⟨_,_,h1,.inr ⟨_,g1⟩,g2,g3,g4⟩
 .cases h
end
theorem bS (h:cz N sc i e=true): ∃x p,e= .Name x p/\N[i]?=some x/\um sc x/\(x == ("__debug__":Str))=false/\(x == ("__classdict__":Str))=false:=by
 refine ao λnO=>?_
 cases e with
 |Name x p=>
  refine nO ?_
  unfold cz at h
  simp only [Bool.and_eq_true,decide_eq_true_eq] at h
  exact⟨x,p,rfl,h.1.1,jl h.1.2,(ck h.2).1,(ck h.2).2⟩
 |_=>cases h
section
variable {X:Cx}{a b c e k:Expr}{pos p px:Pos}{m:Bool}{i:Nat}{x:Str}{f:Env->Option D}
theorem EN (hu:X.A.units + 64 < cLine) (ho:PE X a (cR i)) (hk:PE X k (tV X.K false f)) (hs:zT k):PE X (.Subscript a k pos) (tV X.K m λρ=>(ie ρ i).bind λd=>((f ρ).bind (dH d.1)).bind λx=>ic d.2.1 d.2.2 x):=
 (zW (by lia) ho hk hs).weak λσ H Q zz=>by
  refine cG zz λO ρ d hx hd q=>ae (bind_some hd) λdd e1 hd=>ae (bind_some hd) λxx e2 hd=>ae (bind_some e2) λdy e3 e4=>jM (hx.bF e1) λa vs g1 g2 g3 g4 g5=>⟨.ref a,g1,O,ρ,dy,hx,e3,λv H1 s1 r1=>?_⟩
  refine ae ((kZ (x:=xx) g3 (g5.mono s1)).1 d hd) λv' h1 h2=>?_
  have hg:=tD (oA s1 g2) g4 r1.own e4
  rw [h1] at hg
  exact⟨a,v',rfl,hg,q v' H1 s1 (.inl h2)⟩
theorem Je {neg:Bool} (hu:X.A.units + 64 < cLine) (hk:PE X k (tV X.K false f)) (ho:PE X a (cR i)):PC X (if neg then .NotIn else .In) k a (tV X.K m λρ=>((f ρ).bind λy=>(ie ρ i).bind λd=>(dH d.1 y).map λx=> .bl (if neg then !decide (x∈d.2.1) else decide (x∈d.2.1)))):=by
 have key: ∀σ H (Q:VK),tV X.K m (λρ=>((f ρ).bind λy=>(ie ρ i).bind λd=>(dH d.1 y).map λx=>D.bl (if neg then !decide (x∈d.2.1) else decide (x∈d.2.1)))) σ H Q->
   tV X.K false f σ H λy H1=>cR i σ H1 λx H2=> ∃a o,x= .ref a/\nY H2 a y o/\Q (.bl (if neg then !o.isSome else o.isSome)) H2:=λσ H Q zz=>by
  refine ao λnO=>cG zz λO ρ d hx hd q=>ae (bind_some hd) λdy e1 hd=>ae (bind_some hd) λdd e2 hd=>ae (map_some hd) λxx e3 af=>?_
  subst af
  refine nO ?_
  refine⟨O,ρ,dy,hx,e1,λv H1 s1 r1=>?_⟩
  refine ao λnO=>jM ((hx.mono s1).bF e2) λa vs g1 g2 g3 g4 g5=>nO ?_
  refine⟨.ref a,g1,a,_,rfl,tD g2 g4 r1.own e3,?_⟩
  rw [(kZ (x:=xx) g3 g5).2.2]
  exact q _ H1 s1 (.inl (.bl _))
 cases neg with
 |true=>exact λU s σ H Q I q=>uO (by lia) hk ho U s σ H Q I (key σ H Q q)
 |false=>exact λU s σ H Q I q=>D8 (by lia) hk ho U s σ H Q I (key σ H Q q)
theorem insI_perm (x:Int): ∀l,(insI x l).Perm (x::l)
 |[]=> .refl _
 |y::r=>by
  unfold insI
  split
  .exact .refl _
  .exact((insI_perm x r).cons y).trans (.swap x y r)
theorem sortI_perm: ∀l,(sortI l).Perm l
 |[]=> .refl _
 |x::r=>(insI_perm x (sortI r)).trans ((sortI_perm r).cons x)
theorem tE (x:Int): ∀l:List Int,l.Pairwise (· <= ·)->(insI x l).Pairwise (· <= ·)
 |[],_=>List.pairwise_singleton _ _
 |y::r,h=>by
  unfold insI
  rw [List.pairwise_cons] at h
  split
  .rename_i uU
   refine List.pairwise_cons.mpr ⟨λz hz=>?_,List.pairwise_cons.mpr h⟩
   rcases List.mem_cons.mp hz with e|hz
   .rw [e]; exact uU
   .exact Int.le_trans uU (h.1 z hz)
  .rename_i uU
   refine List.pairwise_cons.mpr ⟨λz hz=>?_,tE x r h.2⟩
   rcases List.mem_cons.mp ((insI_perm x r).mem_iff.mp hz) with e|hz
   .rw [e]; lia
   .exact h.1 z hz
theorem k_: ∀l:List Int,(sortI l).Pairwise (· <= ·)
 |[]=> .nil
 |x::r=>tE x _ (k_ r)
theorem xF {l m:List Int} (hp:l.Perm m) (hs:l.Pairwise (· <= ·)):l=sortI m:=
 (hp.trans (sortI_perm m).symm).eq_of_pairwise (λa b _ _ h1 h2=>Int.le_antisymm h1 h2) hs (k_ m)
theorem A1 (hc:X.calm=true) (ho:PE X a (cR i)) (hg:Gl X "sorted") (hm:X.mg "sorted"=none) (hs:starEach [a] X.env=(false,eval a X.env)::starEach [] X.env):PE X (.Call (.Name "sorted" p) [a] [] pos) (tV X.K m λρ=>(ie ρ i).bind λd=>if d.1=0 then(if d.2.1.length < 64 then some (.lst ((sortI (d.2.1.map λk=>k.headD 0)).map .int)) else none)
   else if []∈d.2.1 then none else some (.lst ((bI.aK d.2.1).map mh))):=
 (fH ((oz hc).or (ot hc)) hg hm boot_sorted (bV ho dj hs) (by decide) (by decide) hs rfl).weak λσ H Q zz=>by
  refine cG zz λO ρ d hx hd q=>ae (bind_some hd) λdd e1 hd=>jM (hx.bF e1) λb vs g1 g2 g3 g4 g5=>⟨.ref b,g1,?_⟩
  unfold fF at g2
  by_cases h0:dd.1=0
  .rw [if_pos h0] at hd g2
   split at hd
   .rename_i KS
    cases hd
    refine .inl ⟨b,_,dd.2.1.map λk=>k.headD 0,rfl,g2,?_,by rw [List.length_map]; exact KS,λlR p1 p2 l hl=>?_⟩
    .rw [List.map_fst_zip (by rw [List.length_map]; lia),List.map_map]
     rfl
    .rw [xF p1 p2]
     exact q _ _ (ag.upd hl) (.inl (.lst (.inl ah) (hx.free (ag.refl _) hl) (et _)))
   .cases hd
  .rw [if_neg h0] at hd g2
   split at hd
   .cases hd
   .rename_i fX
    cases hd
    refine .inr ⟨b,_,dd.2.1,rfl,g2,?_,λk hk e=>fX (e▸hk),λl us hl pw=>q _ _ (ag.upd hl) (.inl (.lst (.inl ah) (hx.free (ag.refl _) hl) ((kW pw).mono (ag.upd hl))))⟩
    rw [List.map_fst_zip (by rw [List.length_map]; lia)]
end
section
variable {G:GT}{F:FT}
theorem A2 (h:bX e=true):zT e:=by
 intro o i
 cases e <;> first|rfl|exact absurd h Bool.false_ne_true
theorem xG (hk:cj G F k):cj G F (.dm i k):=by
 have aJ: ∀X,Ct X G F-> ∀x,bj G (.dm i k) X.N X.env.scope x=true->(∃v s p,x= .Subscript v s p)/\ ∀m,PE X x (tV X.K m (ev F m (.dm i k))):=λX hC x h=>by
  cases x with
  |Subscript v s p=>
   change (cz X.N X.env.scope i v && bj G k X.N X.env.scope s && bX s)=true at h
   simp only [Bool.and_eq_true] at h
   refine jM (bS h.1.1) λx q af n1 n2 n3 n4=>?_
   subst af
   exact⟨⟨_,_,_,rfl⟩,λm=>EN hC.units (bC n1 n2 n3 n4) (hk.e X hC s h.1.2 false) (A2 h.2)⟩
  |_=>exact ff h
 refine .gb (λX hC x h m=>(aJ X hC x h).2 m) (λX hC x h _=>?_) (λX hC x h z=>ff z)
 obtain⟨⟨v,s,p,rfl⟩,q⟩:=aJ X hC x h
 exact cW (q false) λ_=>rfl
theorem A3 (hk:cj G F k):cj G F (.uG neg k i):=by
 have aJ: ∀X,Ct X G F-> ∀x,bj G (.uG neg k i) X.N X.env.scope x=true-> ∃l r p,x= .Compare l [if neg then .NotIn else .In] [r] p/\(∀m,PC X (if neg then .NotIn else .In) l r (tV X.K m (ev F m (.uG neg k i))))/\behindInMarks (if neg then .NotIn else .In) r=false:=λX hC x h=>by
  cases x with
  |Compare l ops rs p=>
   change (match (generalizing:=false) ops,rs with
   |[op],[r]=>decide (op=if neg then .NotIn else .In) && bj G k X.N X.env.scope l && cz X.N X.env.scope i r
   |_,_=>false)=true at h
   split at h
   .rename_i op r
    simp only [Bool.and_eq_true,decide_eq_true_eq] at h
    obtain⟨⟨rfl,h1⟩,h2⟩:=h
    refine jM (bS h2) λx q af n1 n2 n3 n4=>?_
    subst af
    exact⟨l,_,p,rfl,λm=>Je hC.units (hk.e X hC l h1 false) (bC n1 n2 n3 n4),m_ rfl⟩
   .cases h
  |_=>exact ff h
 refine .gb (λX hC x h m=>?_) (λX hC x h _=>?_) (λX hC x h z=>ff z)
 .refine cG (aJ X hC x h) λl r p aO q1 q2=>?_
  subst aO
  exact C6 (q1 m) q2
 .refine cG (aJ X hC x h) λl r p eN q1 q2=>?_
  subst eN
  refine(C7 (q1 false) q2).weak λσ H Q zz=>cG zz λO ρ kk hx hd q=>ae (bind_some hd) λd e1 e2=>?_
  cases eA e2
  exact⟨O,ρ,_,hx,e1,λv H1 s1 r1=>⟨kk,r1.bl,q H1 s1⟩⟩
theorem u7:cj G F (.dM i):=by
 have aJ: ∀X,Ct X G F-> ∀x,bj G (.dM i) X.N X.env.scope x=true->(∃fn args cn p,x= .Call fn args cn p)/\ ∀m,PE X x (tV X.K m (ev F m (.dM i))):=λX hC x h=>by
  cases x with
  |Call fn args cn p=>
   refine⟨⟨_,_,_,_,rfl⟩,?_⟩
   change (match (generalizing:=false) fn,args,cn with
   | .Name x _,[a0],[]=>decide (x="sorted") && cT X.env.scope x && cz X.N X.env.scope i a0
   |_,_,_=>false)=true at h
   split at h
   .rename_i y py a0
    simp only [Bool.and_eq_true,decide_eq_true_eq] at h
    obtain⟨⟨rfl,h1⟩,h2⟩:=h
    refine jM (bS h2) λx q af n1 n2 n3 n4=>?_
    subst af
    exact λm=>A1 hC.calm (bC n1 n2 n3 n4) (dO h1) (hC.mg _ (by simp [fP])) (bO rfl)
   .cases h
  |_=>exact ff h
 refine .gb (λX hC x h m=>(aJ X hC x h).2 m) (λX hC x h _=>?_) (λX hC x h z=>ff z)
 obtain⟨⟨fn,args,cn,p,rfl⟩,q⟩:=aJ X hC x h
 exact cW (q false) λ_=>rfl
theorem cj.Nb (i: ∀X,Ct X G F-> ∀tg x,y8 G e' X.N X.env.scope x=true-> ∀m,PI X tg x (tI X.K m (kE F m e')))
  (n0: ∀N sc x,bj G e' N sc x=false:=by intro _ _ _; rfl) (n1: ∀N sc xs,cA G e' N sc xs=false:=by intro _ _ _; rfl) (n2: ∀N sc xs,jV G e' N sc xs=false:=by intro _ _ _; rfl) (n3: ∀N sc xs,Cu G e' N sc xs=false:=by intro _ _ _; rfl):cj G F e':=
 ⟨λX _ x h=>absurd h (by rw [n0]; exact Bool.false_ne_true),λX _ x h=>absurd h (by rw [n0]; exact Bool.false_ne_true),λX _ x h=>absurd h (by rw [n0]; exact Bool.false_ne_true),λX _ xs h=>absurd h (by rw [n1]; exact Bool.false_ne_true),λX _ xs h=>absurd h (by rw [n2]; exact Bool.false_ne_true),λX _ xs h=>absurd h (by rw [n3]; exact Bool.false_ne_true),i⟩
theorem EO:cj G F (.dk i):= .Nb λX hC tg x h m=>by
 refine jM (bS (show cz X.N X.env.scope i x=true from h)) λy q af n1 n2 n3 n4=>?_
 subst af
 exact M7 (bC n1 n2 n3 n4)
theorem ER:cj G F (.dv i):= .Nb λX hC tg x h m=>by
 cases x with
 |Call fn args cn p=>
  change (match (generalizing:=false) fn,args,cn with
   | .Attribute oe nm ap,[],[]=>decide (nm="values") && cz X.N X.env.scope i oe && (ap.endLine == p.line)
   |_,_,_=>false)=true at h
  split at h
  .rename_i oe nm ap
   simp only [Bool.and_eq_true,decide_eq_true_eq] at h
   obtain⟨⟨rfl,h1⟩,h2⟩:=h
   refine jM (bS h1) λy q af n1 n2 n3 n4=>?_
   subst af
   exact M8 (bC n1 n2 n3 n4) rfl h2
  .cases h
 |_=>exact ff h
theorem A4 (ha:cj G F a):cj G F (.Cc a):= .Nb λX hC tg x h m=>by
 cases x with
 |Call fn args cn p=>
  change (match (generalizing:=false) fn,args,cn with
   | .Name x _,[a0],[]=>decide (x="reversed") && cT X.env.scope x && bj G a X.N X.env.scope a0 && aS a0
   |_,_,_=>false)=true at h
  split at h
  .rename_i y py a0
   simp only [Bool.and_eq_true,decide_eq_true_eq] at h
   obtain⟨⟨⟨rfl,h1⟩,h2⟩,h3⟩:=h
   exact IZ (dO h1) (hC.mg _ (by simp [fP])) (ha.e X hC a0 h2 false) (bO h3)
  .cases h
 |_=>exact ff h
end
end Py
namespace Py
open PySem PySem.Spec PyProof.Rows L2
section
variable {G:GT}{F:FT}
theorem ES (n0: ∀N sc x,bj G e' N sc x=false:=by intro _ _ _; rfl) (n1: ∀N sc xs,cA G e' N sc xs=false:=by intro _ _ _; rfl) (n2: ∀N sc xs,jV G e' N sc xs=false:=by intro _ _ _; rfl) (n3: ∀N sc xs,Cu G e' N sc xs=false:=by intro _ _ _; rfl) (n4: ∀N sc xs,y8 G e' N sc xs=false:=by intro _ _ _; rfl):cj G F e':=
 .gb (λX hC x h=>absurd h (by rw [n0]; exact Bool.false_ne_true)) (λX hC x h=>absurd h (by rw [n0]; exact Bool.false_ne_true)) (λX hC x h=>absurd h (by rw [n0]; exact Bool.false_ne_true)) n1 n2 n3 n4
theorem A5 (he:cj G F es):cj G F (.dQ es) where
 e:=λX hC x h=>ff h
 t:=λX hC x h=>ff h
 f:=λX hC x h=>ff h
 es:=λX hC x h=>ff h
 ts:=λX hC x h=>ff h
 o:=λX hC x h=>ff h
 i:=λX hC tg x h m=>by
  cases x with
  |Call fn args cn p=>
   change (match (generalizing:=false) fn,cn with
   | .Name x _,[]=>decide (x="range") && cT X.env.scope x && decide (args.length=1) && cA G es X.N X.env.scope args
   |_,_=>false)=true at h
   split at h
   .rename_i n pn
    simp only [Bool.and_eq_true,decide_eq_true_eq] at h
    obtain⟨⟨⟨rfl,h1⟩,h2⟩,h3⟩:=h
    exact Jb (dO h1) (hC.mg _ (by simp [fP])) (he.es X hC _ h3 false) (λρ ds hd=>oF h3 hd) h2 (iL h3)
   .cases h
  |_=>exact ff h
theorem ET (ha:cj G F a):cj G F (.it a) where
 e:=λX hC x h=>ff h
 t:=λX hC x h=>ff h
 f:=λX hC x h=>ff h
 es:=λX hC x h=>ff h
 ts:=λX hC x h=>ff h
 o:=λX hC x h=>ff h
 i:=λX hC tg x h m=>M6 (ha.e X hC x h m)
theorem lg (hC:Ct X G F) (hi:cj G F it) (hf:cj G F ifs) (he:cj G F dF) (h4:rK X.N X.env.scope eL n fr=true) (h5:y8 G it X.N X.env.scope iter=true)
  (h6:jV G ifs (j7 X.N n fr) (gC eL X.env.scope) fs=true) (h7:bj G dF (j7 X.N n fr) (gC eL X.env.scope) el=true):
  ∀cl C U s H ex,PG (gv X eL cl C (j7 X.N n fr) U s H ex) (.Name n q) (cw 0)/\uC (gv X eL cl C (j7 X.N n fr) U s H ex) fs (tB X.K (gM F true ifs))/\PE (gv X eL cl C (j7 X.N n fr) U s H ex) el (tV X.K false (ev F false dF)):=λcl C U s H ex=>by
 refine cK (oE h4) λS hl nd=>?_
 have Gm:=hC.inner eL cl C (j7 X.N n fr) U s H ex
 have nI:(gv X eL cl C (j7 X.N n fr) U s H ex).env.scope.names.lookup n=some .local :=lookup_relabel_local hl
 exact⟨jY nd rfl (.inl nI) (.inr nI),(hf.ts _ Gm fs h6).1,he.e _ Gm el h7 false⟩
theorem ng (h:bj G (.comp fr tg it ifs dF) N sc x=true): ∃el n q iter fs eL p,x= .ListComp el [⟨.Name n q,iter,fs,0⟩] eL p/\tg=0/\dU iter=true/\rK N sc eL n fr=true/\y8 G it N sc iter=true/\jV G ifs (j7 N n fr) (gC eL sc) fs=true/\bj G dF (j7 N n fr) (gC eL sc) el=true:=by
 cases x with
 |ListComp el gens eL p=>
  cases gens with
  |nil=>exact ff h
  |cons g gs=>
   obtain⟨oZ,iter,fs,k⟩:=g
   cases gs with
   |cons g2 _=>exact ff h
   |nil=>
    cases oZ with
    |Name n q=>
     change (decide (tg=0) && decide (k=0) && dU iter && rK N sc eL n fr && y8 G it N sc iter && jV G ifs (j7 N n fr) (gC eL sc) fs && bj G dF (j7 N n fr) (gC eL sc) el)=true at h
     simp only [Bool.and_eq_true,decide_eq_true_eq] at h
     obtain⟨⟨⟨⟨⟨⟨rfl,rfl⟩,h3⟩,h4⟩,h5⟩,h6⟩,h7⟩:=h
     exact⟨el,n,q,iter,fs,eL,p,rfl,rfl,h3,h4,h5,h6,h7⟩
    |_=>exact ff h
 |_=>exact ff h
theorem tG (ρ:Env):ev F false (.comp fr 0 it ifs dF) ρ=((kE F true it ρ).bind λxs=>if xs.length<=bJ then walk (m8 (gM F true ifs) (ev F false dF) fr ρ) xs else none).map .lst :=by
 show(kE F true it ρ).bind _=_
 cases kE F true it ρ with
 |none=>rfl
 |some xs=>
  show(if xs.length<=bJ then _ else _)=Option.map _ (if xs.length<=bJ then _ else _)
  by_cases h:xs.length<=bJ
  .rw [if_pos h,if_pos h]
   rfl
  .rw [if_neg h,if_neg h]
   rfl
theorem tH {K:PySem.W.Frag}{fr:List Nat}{it ifs dF:E} (σ:St) (H:Hp) (Q:VK) (h:tF K (λρ=>(ev F false (.comp fr 0 it ifs dF) ρ).bind iM) σ H Q):
  tF K (λρ=>(kE F true it ρ).bind λxs=>if xs.length<=bJ then walk (m8 (gM F true ifs) (ev F false dF) fr ρ) xs else none) σ H Q:=by
 refine ao λnO=>cG h λO ρ ds hx hd k=>nO ?_
 refine⟨O,ρ,ds,hx,?_,k⟩
 refine ao λnO=>ae (bind_some hd) λd hd hl=>?_
 rw [tG] at hd
 refine ae (map_some hd) λxs h1 af=>?_
 subst af
 cases hl
 exact nO <| h1
theorem xH (hi:cj G F it) (hf:cj G F ifs) (he:cj G F dF):cj G F (.comp fr tg it ifs dF):=by
 have aJ: ∀X,Ct X G F-> ∀x,bj G (.comp fr tg it ifs dF) X.N X.env.scope x=true->(∃el gs s p,x= .ListComp el gs s p)/\tg=0/\PE X x (tF X.K λρ=>(ev F false (.comp fr tg it ifs dF) ρ).bind iM):=λX hC x h=>by
  refine QL (ng h) λel n q iter fs eL p af aO h3 h4 h5 h6 h7=>?_
  subst af
  subst aO
  exact⟨⟨_,_,_,_,rfl⟩,rfl,(EI (hi.i X hC _ iter h5 true) (oE h4).1 hC.calm (lg hC hi hf he h4 h5 h6 h7) (de h3)).weak λσ H Q z=>tH σ H Q z⟩
 have EL:tg=0-> ∀ρ d,ev F false (.comp fr tg it ifs dF) ρ=some d-> ∃ds,d= .lst ds:=λht ρ d hd=>by
  subst ht
  rw [tG] at hd
  refine ae (map_some hd) λxs h1 eN=>?_
  subst eN
  exact⟨_,rfl⟩
 refine .gb (λX hC x h m=>?_) (λX hC x h _=>?_) (λX hC x h z=>?_)
 .exact cK (aJ X hC x h) λ_ hq k=>kY m k (EL hq)
 .obtain⟨⟨el,gs,s,p,rfl⟩,hq,k⟩:=aJ X hC x h
  exact cW (kY false k (EL hq)) λ_=>rfl
 .exact(aJ X hC x h).2.2
theorem snd (e':E):cj G F e':=by
 induction e' with
 |nil=>exact AN
 |cons a r ha hr=>exact xB ha hr
 |var i=>exact AO
 |c d=>exact Jc
 |bin o a b ha hb=>exact AQ ha hb
 |cmp o a b ha hb=>exact AR ha hb
 |tup es he=>exact AV he
 |lst es he=>exact AW he
 |idx a i ha hi=>exact AX ha hi
 |sl a lo hi ha hl hh=>exact EM ha hl hh
 |call f es he=>exact xC he
 |prim q es he=>exact xD he
 |iZ q es he=>exact AY he
 |comp fr tg it ifs dF hi hf he=>exact xH hi hf he
 |dQ es he=>exact A5 he
 |it a ha=>exact ET ha
 |dZ mm o es ho he=>exact xE ho he
 |zL a _=>exact ES
 |dm i k hk=>exact xG hk
 |uG neg k i hk=>exact A3 hk
 |dM i=>exact u7
 |dk i=>exact EO
 |dv i=>exact ER
 |Cc a ha=>exact A4 ha
 |qH k es he=>exact AU he
 |not a ha=>exact AS ha
 |vC a b ha=>exact AZ ha
end
end Py
namespace Py
open PySem PySem.Spec PyProof.Rows L2
noncomputable def Os (ab:Addr->Prop) (ow:Nat->Option Addr):Addr->Prop:=λa=>ab a\/ ∃i,ow i=some a
noncomputable def nh (ow:Nat->Option Addr) (i:Nat) (o:Option Addr):Nat->Option Addr:=λj=>if j=i then o else ow j
theorem aD:nh ow i o i=o:=if_pos rfl
theorem aI (h: ¬j=i):nh ow i o j=ow j:=if_neg h
structure SX (K:PySem.W.Frag) (H₀:Hp) (ab Z:Addr->Prop) (kv:List V) (kd:List D) (ow:Nat->Option Addr) (σ:St) (H:Hp) (ρ:Env):Prop where
 ex:EX K (Os ab ow) σ H ρ
 own: ∀(i:Nat) (d:D),ρ[i]?=some (some (true,d))-> ∃a,σ[i]?=some (some (.ref a))/\((kC d=false/\ow i=some a)\/(kC d=true/\Z a/\ab a))
 inj: ∀i j a,ow i=some a->ow j=some a->i=j
 new: ∀i a,ow i=some a->H₀ a=none
 same:ag H₀ H
 kp:av K (Os ab ow) H kv kd
 o0: ∀a,ab a-> ∃o,H₀ a=some o
 len:ρ.length=σ.length
section
variable {K:PySem.W.Frag}{H₀:Hp}{ab Z:Addr->Prop}{kv:List V}{kd:List D}{ow:Nat->Option Addr}{σ:St}{H H1:Hp}{ρ:Env}
theorem SX.mono (h:SX K H₀ ab Z kv kd ow σ H ρ) (s:ag H H1):SX K H₀ ab Z kv kd ow σ H1 ρ:=⟨h.ex.mono s,h.own,h.inj,h.new,h.same.trans s,h.kp.mono s,h.o0,h.len⟩
theorem SX.put (h:SX K H₀ ab Z kv kd ow σ H ρ) (r:bg K (Os ab ow) H v d) (i:Nat):SX K H₀ ab Z kv kd (nh ow i none) (σ.set i (some v)) H (Py.put ρ i false d):=by
 have sub: ∀a,Os ab (nh ow i none) a->Os ab ow a:=λa z=>by
  rcases z with z|⟨j,z⟩
  .exact .inl z
  .by_cases hj:j=i
   .rw [hj,aD] at z; cases z
   .rw [aI hj] at z; exact .inr ⟨j,z⟩
 refine⟨⟨λa ha=>h.ex.live a (sub a ha),λj o d' hj=>?_⟩,λj d' hj=>?_,λj k a hj hk=>?_,λj a hj=>?_,h.same,h.kp.weak sub,h.o0,by unfold Py.put; rw [List.length_set,List.length_set]; exact h.len⟩
 .by_cases dP:j=i
  .subst dP
   unfold Py.put at hj
   by_cases hl:j < ρ.length
   .rw [List.getElem?_set_self hl] at hj
    cases hj
    exact⟨v,List.getElem?_set_self (by rw [<-h.len]; exact hl),r.weak sub⟩
   .rw [List.getElem?_eq_none (by rw [List.length_set]; lia)] at hj; cases hj
  .unfold Py.put at hj
   rw [List.getElem?_set_ne (Ne.symm dP)] at hj
   refine ae (h.ex.jP j o d' hj) λw h1 h2=>⟨w,by rw [List.getElem?_set_ne (Ne.symm dP)]; exact h1,?_⟩
   cases o with
   |true=>
    refine ao λnO=>bA h2 λa e1 e2 c=>ae (h.own j d' hj) λa' o2 o1=>?_
    rw [h1] at o2
    cases o2
    cases e1
    exact nO <| ⟨a,rfl,o1.elim (λo1=> .inr ⟨j,by rw [aI dP]; exact o1.2⟩) (λo1=> .inl o1.2.2),c.weak sub⟩
   |false=>exact bg.weak h2 sub
 .by_cases dP:j=i
  .subst dP
   unfold Py.put at hj
   by_cases hl:j < ρ.length
   .rw [List.getElem?_set_self hl] at hj; cases hj
   .rw [List.getElem?_eq_none (by rw [List.length_set]; lia)] at hj; cases hj
  .unfold Py.put at hj
   rw [List.getElem?_set_ne (Ne.symm dP)] at hj
   exact ae (h.own j d' hj) λa o2 o1=>⟨a,by rw [List.getElem?_set_ne (Ne.symm dP)]; exact o2,o1.imp (λo1=>⟨o1.1,by rw [aI dP]; exact o1.2⟩) id⟩
 .by_cases h1:j=i
  .rw [h1,aD] at hj; cases hj
  .by_cases h2:k=i
   .rw [h2,aD] at hk; cases hk
   .rw [aI h1] at hj; rw [aI h2] at hk; exact h.inj j k a hj hk
 .by_cases h1:j=i
  .rw [h1,aD] at hj; cases hj
  .rw [aI h1] at hj; exact h.new j a hj
theorem xI: ∀a,Os ab (nh ow i (some p)) a->Os ab ow a\/a=p:=λa z=>by
 rcases z with z|⟨j,z⟩
 .exact .inl (.inl z)
 .by_cases hj:j=i
  .rw [hj,aD] at z; cases z; exact .inr rfl
  .rw [aI hj] at z; exact .inl (.inr ⟨j,z⟩)
theorem lh (hp:H1 p=none) (r:av K (Os ab ow) H1 vs ds):av K (Os ab (nh ow i (some p))) (L2.upd H1 p u) vs ds:=((r.own hp).mono (ag.upd hp)).weak xI
theorem SX.Jf (h:SX K H₀ ab Z kv kd ow σ H ρ) (s:ag H H1) (hp:H1 p=none) (hu:qb u) (i:Nat) (hi:i < ρ.length) (K1:kC d0=false) (c:dJ K (Os ab (nh ow i (some p))) (L2.upd H1 p u) p d0):
  SX K H₀ ab Z kv kd (nh ow i (some p)) (σ.set i (some (.ref p))) (L2.upd H1 p u) (Py.put ρ i true d0):=by
 have h1:=h.mono s
 have EU:H₀ p=none:=by
  cases z:H₀ p with
  |none=>rfl
  |some o=>rw [h1.same _ _ z] at hp; cases hp
 have sub: ∀a,Os ab (nh ow i (some p)) a->(λa=>Os ab ow a\/a=p) a:=λa z=>by
  rcases z with z|⟨j,z⟩
  .exact .inl (.inl z)
  .by_cases hj:j=i
   .rw [hj,aD] at z; cases z; exact .inr rfl
   .rw [aI hj] at z; exact .inl (.inr ⟨j,z⟩)
 have up:ag H1 (L2.upd H1 p u):=ag.upd hp
 have mv: ∀{v d},bg K (Os ab ow) H1 v d->bg K (Os ab (nh ow i (some p))) (L2.upd H1 p u) v d:=λq=>((q.own hp).mono up).weak sub
 have T3: ∀{v d},av K (Os ab ow) H1 v d->av K (Os ab (nh ow i (some p))) (L2.upd H1 p u) v d:=λq=>((q.own hp).mono up).weak sub
 have Rt: ∀j,ow j≠some p:=λj z=>by
  refine ae (h1.ex.live p (.inr ⟨j,z⟩)) λus q _=>?_
  rw [q] at hp; cases hp
 refine⟨⟨λa ha=>?_,λj o d' hj=>?_⟩,λj d' hj=>?_,λj k a hj hk=>?_,λj a hj=>?_,h1.same.trans up,T3 h1.kp,h.o0,by unfold Py.put; rw [List.length_set,List.length_set]; exact h.len⟩
 .rcases sub a ha with z|z
  .exact ae (h1.ex.live a z) λus q qo=>⟨us,up _ _ q,qo⟩
  .subst z; exact⟨u,ah,hu⟩
 .by_cases dP:j=i
  .subst dP
   unfold Py.put at hj
   rw [List.getElem?_set_self hi] at hj
   cases hj
   exact⟨.ref p,List.getElem?_set_self (by rw [<-h.len]; exact hi),p,rfl,.inr ⟨j,aD⟩,c⟩
  .unfold Py.put at hj
   rw [List.getElem?_set_ne (Ne.symm dP)] at hj
   refine ae (h1.ex.jP j o d' hj) λw q1 q2=>⟨w,by rw [List.getElem?_set_ne (Ne.symm dP)]; exact q1,?_⟩
   cases o with
   |true=>
    refine ao λnO=>bA q2 λa e1 e2 c'=>ae (h.own j d' hj) λa' o2 o1=>?_
    rw [q1] at o2
    cases o2
    cases e1
    exact nO <| ⟨a,rfl,o1.elim (λo1=> .inr ⟨j,by rw [aI dP]; exact o1.2⟩) (λo1=> .inl o1.2.2),((c'.own hp).mono up).weak sub⟩
   |false=>exact mv q2
 .by_cases dP:j=i
  .subst dP
   unfold Py.put at hj
   rw [List.getElem?_set_self hi] at hj
   cases hj
   exact⟨p,List.getElem?_set_self (by rw [<-h.len]; exact hi),.inl ⟨K1,aD⟩⟩
  .unfold Py.put at hj
   rw [List.getElem?_set_ne (Ne.symm dP)] at hj
   exact ae (h.own j d' hj) λa o2 o1=>⟨a,by rw [List.getElem?_set_ne (Ne.symm dP)]; exact o2,o1.imp (λo1=>⟨o1.1,by rw [aI dP]; exact o1.2⟩) id⟩
 .by_cases q1:j=i
  .rw [q1,aD] at hj
   cases hj
   by_cases q2:k=i
   .rw [q1,q2]
   .rw [aI q2] at hk; exact absurd hk (Rt k)
  .rw [aI q1] at hj
   by_cases q2:k=i
   .rw [q2,aD] at hk
    cases hk
    exact absurd hj (Rt j)
   .rw [aI q2] at hk; exact h.inj j k a hj hk
 .by_cases q1:j=i
  .rw [q1,aD] at hj; cases hj; exact EU
  .rw [aI q1] at hj; exact h.new j a hj
theorem SX.Dw (h:SX K H₀ ab Z kv kd ow σ H ρ) (s:ag H H1) (hp:H1 p=none) (r:av K (Os ab ow) H1 vs ds) (i:Nat) (hi:i < ρ.length):
  SX K H₀ ab Z kv kd (nh ow i (some p)) (σ.set i (some (.ref p))) (L2.upd H1 p (.lst vs)) (Py.put ρ i true (.lst ds)):=h.Jf (u:= .lst vs) s hp trivial i hi rfl (.inl ⟨vs,ds,rfl,ah,lh hp r⟩)
theorem SX.Ru (h:SX K H₀ ab Z kv kd ow σ H ρ) (ha:ow i=some a) (hs:σ[i]?=some (some (.ref a))) (hH:H a=some u) (hu:qb u) (Gn:qb u') (hz:kC d0=false) (c:dJ K (Os ab ow) (L2.upd H a u') a d0):
  SX K H₀ ab Z kv kd ow σ (L2.upd H a u') (Py.put ρ i true d0):=by
 have oa:Os ab ow a:= .inr ⟨i,ha⟩
 have sm:ag H₀ (L2.upd H a u'):=λb o e=>by
  have hb:b≠a:=λz=>by rw [z,h.new i a ha] at e; cases e
  rw [ak hb]; exact h.same _ _ e
 refine⟨⟨λb hb=>?_,λj o d' hj=>?_⟩,λj d' hj=>?_,h.inj,h.new,sm,h.kp.upd oa hH hu,h.o0,by unfold Py.put; rw [List.length_set]; exact h.len⟩
 .by_cases mZ:b=a
  .subst mZ; exact⟨u',ah,Gn⟩
  .exact ae (h.ex.live b hb) λus q qo=>⟨us,by rw [ak mZ]; exact q,qo⟩
 .by_cases dP:j=i
  .subst dP
   unfold Py.put at hj
   by_cases hl:j < ρ.length
   .rw [List.getElem?_set_self hl] at hj
    cases hj
    exact⟨.ref a,hs,a,rfl,oa,c⟩
   .rw [List.getElem?_eq_none (by rw [List.length_set]; lia)] at hj; cases hj
  .unfold Py.put at hj
   rw [List.getElem?_set_ne (Ne.symm dP)] at hj
   refine ae (h.ex.jP j o d' hj) λw q1 q2=>⟨w,q1,?_⟩
   cases o with
   |true=>
    refine ao λnO=>bA q2 λb e1 e2 c'=>ae (h.own j d' hj) λb' o2 o1=>?_
    rw [q1] at o2
    cases o2
    cases e1
    refine nO ?_
    have mZ:b≠a:=λz=>by
     rcases o1 with o1|o1
     .exact dP (h.inj j i b o1.2 (by rw [z]; exact ha))
     .obtain⟨w,hw⟩:=h.o0 b o1.2.2
      rw [z,h.new i a ha] at hw
      cases hw
    exact⟨b,rfl,e2,c'.upd mZ oa hH hu⟩
   |false=>exact bg.upd q2 oa hH hu
 .by_cases dP:j=i
  .subst dP
   unfold Py.put at hj
   by_cases hl:j < ρ.length
   .rw [List.getElem?_set_self hl] at hj
    cases hj
    exact⟨a,hs,.inl ⟨hz,ha⟩⟩
   .rw [List.getElem?_eq_none (by rw [List.length_set]; lia)] at hj; cases hj
  .unfold Py.put at hj
   rw [List.getElem?_set_ne (Ne.symm dP)] at hj
   exact h.own j d' hj
theorem SX.wr (h:SX K H₀ ab Z kv kd ow σ H ρ) (ha:ow i=some a) (hs:σ[i]?=some (some (.ref a))) (hH:H a=some (.lst vs)) (r:av K (Os ab ow) H EV IF):
  SX K H₀ ab Z kv kd ow σ (L2.upd H a (.lst EV)) (Py.put ρ i true (.lst IF)):=h.Ru (u':= .lst EV) ha hs hH trivial trivial rfl (.inl ⟨EV,IF,rfl,ah,r.upd (.inr ⟨i,ha⟩) hH trivial⟩)
theorem SX.freeze (h:SX K H₀ ab Z kv kd ow σ H ρ) (hd:ρ[i]?=some (some (true,.lst ds))):SX K H₀ ab Z kv kd (nh ow i none) σ H (ρ.set i (some (false,.lst ds))):=by
 refine ao λnO=>ae (h.own i _ hd) λa o2 o1=>?_
 have o1:ow i=some a:=o1.elim (λz=>z.2) λz=>nomatch z.1
 refine ae (h.ex.jP i true _ hd) λw q1 q2=>bA q2 λa' e1 e3 c=>ae c.lst λvs e4 e5=>?_
 rw [q1] at o2
 cases o2
 cases e1
 refine nO ?_
 have e6: ¬Os ab (nh ow i none) a:=λz=>by
  rcases z with z|⟨j,z⟩
  .obtain⟨o,q⟩:=h.o0 a z
   rw [h.new i a o1] at q; cases q
  .by_cases hj:j=i
   .rw [hj,aD] at z; cases z
   .rw [aI hj] at z; exact hj (h.inj j i a z o1)
 have WW:σ=σ.set i (some (.ref a)):=by
  apply List.ext_getElem?
  intro j
  by_cases hj:i=j
  .subst hj
   have hl:i < σ.length:=(List.getElem?_eq_some_iff.mp q1).1
   rw [List.getElem?_set_self hl,q1]
  .rw [List.getElem?_set_ne hj]
 have sub: ∀b,Os ab (nh ow i none) b->Os ab ow b:=λb z=>by
  rcases z with z|⟨j,z⟩
  .exact .inl z
  .by_cases hj:j=i
   .rw [hj,aD] at z; cases z
   .rw [aI hj] at z; exact .inr ⟨j,z⟩
 have r:bg K (Os ab (nh ow i none)) H (.ref a) (.lst ds):= .lst (.inl e4) e6 (e5.weak sub)
 refine⟨⟨λb hb=>h.ex.live b (sub b hb),λj o d' hj=>?_⟩,λj d' hj=>?_,λj k b hj hk=>?_,λj b hj=>?_,h.same,h.kp.weak sub,h.o0,by rw [List.length_set]; exact h.len⟩
 .by_cases dP:j=i
  .subst dP
   have hl:j < ρ.length:=(List.getElem?_eq_some_iff.mp hd).1
   rw [List.getElem?_set_self hl] at hj
   cases hj
   exact⟨.ref a,q1,r⟩
  .rw [List.getElem?_set_ne (Ne.symm dP)] at hj
   refine ae (h.ex.jP j o d' hj) λw p1 p2=>⟨w,p1,?_⟩
   cases o with
   |true=>
    refine ao λnO=>bA p2 λb f1 f2 c'=>ae (h.own j d' hj) λb' g2 g1=>?_
    rw [p1] at g2
    cases g2
    cases f1
    exact nO <| ⟨b,rfl,g1.elim (λg1=> .inr ⟨j,by rw [aI dP]; exact g1.2⟩) (λg1=> .inl g1.2.2),c'.weak sub⟩
   |false=>exact bg.weak p2 sub
 .by_cases dP:j=i
  .subst dP
   have hl:j < ρ.length:=(List.getElem?_eq_some_iff.mp hd).1
   rw [List.getElem?_set_self hl] at hj
   cases hj
  .rw [List.getElem?_set_ne (Ne.symm dP)] at hj
   exact ae (h.own j d' hj) λb g2 g1=>⟨b,g2,g1.imp (λg1=>⟨g1.1,by rw [aI dP]; exact g1.2⟩) id⟩
 .by_cases h1:j=i
  .rw [h1,aD] at hj; cases hj
  .by_cases h2:k=i
   .rw [h2,aD] at hk; cases hk
   .rw [aI h1] at hj; rw [aI h2] at hk; exact h.inj j k b hj hk
 .by_cases h1:j=i
  .rw [h1,aD] at hj; cases hj
  .rw [aI h1] at hj; exact h.new j b hj
theorem SX.keep (h:SX K H₀ ab Z kv kd ow σ H ρ) (r:bg K (Os ab ow) H v d):SX K H₀ ab Z (v::kv) (d::kd) ow σ H ρ:=⟨h.ex,h.own,h.inj,h.new,h.same,.cons r h.kp,h.o0,h.len⟩
theorem SX.drop (h:SX K H₀ ab Z (v::kv) (d::kd) ow σ H ρ):SX K H₀ ab Z kv kd ow σ H ρ:=⟨h.ex,h.own,h.inj,h.new,h.same,by cases h.kp with|cons _ t=>exact t,h.o0,h.len⟩
theorem SX.kept (h:SX K H₀ ab Z (v::kv) (d::kd) ow σ H ρ):bg K (Os ab ow) H v d:=by cases h.kp with|cons r _=>exact r
end
noncomputable def post (K:PySem.W.Frag) (H₀:Hp) (ab Z:Addr->Prop) (kv:List V) (kd:List D) (D':vM):i9->Prop
 | .next ρ=> ∀ow σ H,SX K H₀ ab Z kv kd ow σ H ρ->D'.nx σ H
 | .brk ρ=> ∀ow σ H,SX K H₀ ab Z kv kd ow σ H ρ->D'.bk σ H
 | .cont ρ=> ∀ow σ H,SX K H₀ ab Z kv kd ow σ H ρ->D'.ct σ H
 | .ret d=> ∀v H,ag H₀ H->bg K ab H v d->D'.rt v H
noncomputable def tC (K:PySem.W.Frag) (f:Env->Option i9):TS:=λD' σ H=> ∃H₀ ab Z kv kd ow ρ out,SX K H₀ ab Z kv kd ow σ H ρ/\f ρ=some out/\post K H₀ ab Z kv kd D' out
theorem _root_.L2.PS.weak {X:Cx}{st:Stmt}{t t':TS} (h:PS X st t) (w: ∀D' σ H,t' D' σ H->t D' σ H):PS X st t':=λU s σ H D' I q=>h U s σ H D' I (w D' σ H q)
theorem _root_.L2.jX.weak {X:Cx}{st:List Stmt}{t t':TS} (h:jX X st t) (w: ∀D' σ H,t' D' σ H->t D' σ H):jX X st t':=λU s σ H D' I q=>h U s σ H D' I (w D' σ H q)
end Py
namespace Py
open PySem PySem.Spec PyProof.Rows L2
noncomputable def eX:Expr->Bool
 | .ListComp _ _ _ _=>true
 | .SetComp _ _ _ _=>true
 | .DictComp _ _ _ _ _=>true
 |_=>false
noncomputable def T4:E->Bool
 | .comp _ _ _ _ _=>true
 |_=>false
noncomputable def lj (sc:Scope) (x:Str):Bool:=match sc.names.lookup x with|some .local =>true|some .cell =>true|_=>false
noncomputable def Rv:Expr->Bool
 | .Tuple _ _ _=>false
 |_=>true
noncomputable def eY (N:List Str) (sc:Scope):List Nat->List Expr->Bool
 |[],es=>es.isEmpty
 |i::is,es=>match es with
  |e::es=>(match e with| .Name x _=>decide (N[i]?=some x) && lj sc x|_=>false) && eY N sc is es
  |[]=>false
noncomputable def EW (N:List Str) (sc:Scope) (is:List Nat) (tg:Nat) (e:Expr):Bool:=
 match e with
 | .Name _ _=>decide (tg=0) && eY N sc is [e] && decide (is.length=1)
 | .Tuple es _ _=>decide (tg=is.length) && !es.isEmpty && eY N sc is es
 |_=>false
noncomputable def A6 (G:GT) (it:E) (N:List Str) (sc:Scope) (oZ iter:Expr):Bool:=
 match it with
 | .zL a=>match oZ,iter with
  | .Tuple _ _ _,.Call fn args cn _=>match fn,args,cn with
   | .Name x _,[a0],[]=>decide (x="enumerate") && cT sc x && bj G a N sc a0 && aS a0
   |_,_,_=>false
  |_,_=>false
 |it=>y8 G it N sc iter
noncomputable def xJ (N:List Str) (sc:Scope) (y:Nat) (e:Expr):Bool:=
 match e with
 | .Call fn args cn cp=>match fn,args,cn with
  | .Attribute e2 nm ap,[],[]=>decide (nm="pop") && cz N sc y e2 && (ap.endLine == cp.line)
  |_,_,_=>false
 |_=>false
noncomputable def EY (G:GT) (x f:Nat) (N:List Str) (sc:Scope) (e:Expr) (ok:Expr->Bool):Bool:=
 match e with
 | .Call fn args cn _=>match fn,args,cn with
  | .Name n _,[e1,w],[]=>decide (G.1[f]?=some n) && cT sc n && oY n && cz N sc x e1 && ok w && aS w
  |_,_,_=>false
 |_=>false
noncomputable def EZ (G:GT) (x:Nat) (fr:List Nat) (it k v:E) (N:List Str) (sc:Scope) (st:Stmt):Bool:=
 match st with
 | .Assign gD e _=>match gD with
  |[.Name a _]=>decide (N[x]?=some a) && lj sc a && (match e with
   | .ListComp el gens eL _=>match el with
    | .Dict ks vs _=>match ks,vs,gens with
     |[some ke],[ve],[⟨.Name n _,iter,[],kk⟩]=>decide (kk=0) && dU iter && rK N sc eL n fr && y8 G it N sc iter && bj G k (j7 N n fr) (gC eL sc) ke && bj G v (j7 N n fr) (gC eL sc) ve
     |_,_,_=>false
    |_=>false
   |_=>false)
  |_=>false
 |_=>false
noncomputable def Nc (G:GT) (x y r f:Nat) (N:List Str) (sc:Scope) (st:Stmt):Bool:=
 match st with
 | .Assign gD e _=>match gD with
  |[.Name a _]=>decide (N[r]?=some a) && lj sc a && EY G x f N sc e (xJ N sc y)
  |_=>false
 |_=>false
noncomputable def Cv (G:GT) (x:Nat) (p q u:E) (N:List Str) (sc:Scope) (st:Stmt):Bool:=
 match st with
 | .Assign gD e _=>match gD with
  |[.Subscript (.Subscript e1 pe _) qe _]=>cz N sc x e1 && bj G p N sc pe && bX pe && bj G q N sc qe && bX qe && bj G u N sc e && !eX e
  |_=>false
 |_=>false
noncomputable def Jg (G:GT) (x y g:Nat) (w:E) (N:List Str) (sc:Scope) (st:Stmt):Bool:=
 match st with
 | .Expr e _=>match e with
  | .Call (.Attribute e2 m ap) [v] [] cp=>cz N sc y e2 && decide (m="extend") && (ap.endLine == cp.line) && aS v && EY G x g N sc v (bj G w N sc)
  |_=>false
 |_=>false
noncomputable def K2 (f g h k:Stmt->Bool) (l:List Stmt):Bool:=
 match l with
 |[]=>false
 |s1::l=>match l with
  |[]=>false
  |s2::l=>match l with
   |[]=>false
   |s3::l=>match l with
    |[]=>false
    |s4::l=>match l with
     |[]=>f s1 && g s2 && h s3 && k s4
     |_::_=>false
theorem E1 (e:K2 f g h k l=true): ∃s1 s2 s3 s4,l=[s1,s2,s3,s4]/\f s1=true/\g s2=true/\h s3=true/\k s4=true:=by
 cases l with
 |nil=>cases e
 |cons s1 l=>cases l with
  |nil=>cases e
  |cons s2 l=>cases l with
   |nil=>cases e
   |cons s3 l=>cases l with
    |nil=>cases e
    |cons s4 l=>cases l with
     |cons _ _=>cases e
     |nil=>
      change (f s1 && g s2 && h s3 && k s4)=true at e
      simp only [Bool.and_eq_true] at e
      exact⟨s1,s2,s3,s4,rfl,e.1.1.1,e.1.1.2,e.1.2,e.2⟩
noncomputable def E2 (f g h:Stmt->Bool) (l:List Stmt):Bool:=
 match l with
 |[]=>false
 |s1::l=>match l with
  |[]=>false
  |s2::l=>match l with
   |[]=>false
   |s3::l=>match l with
    |[]=>f s1 && g s2 && h s3
    |_::_=>false
theorem xK (e:E2 f g h l=true): ∃s1 s2 s3,l=[s1,s2,s3]/\f s1=true/\g s2=true/\h s3=true:=by
 cases l with
 |nil=>cases e
 |cons s1 l=>cases l with
  |nil=>cases e
  |cons s2 l=>cases l with
   |nil=>cases e
   |cons s3 l=>cases l with
    |cons _ _=>cases e
    |nil=>
     change (f s1 && g s2 && h s3)=true at e
     simp only [Bool.and_eq_true] at e
     exact⟨s1,s2,s3,rfl,e.1.1,e.1.2,e.2⟩
noncomputable def Jh (N:List Str) (sc:Scope) (m:Nat) (f g h:Stmt->Bool) (st:Stmt):Bool:=
 match st with
 | .If em a b _=>cz N sc m em && b.isEmpty && E2 f g h a
 |_=>false
noncomputable def Ji (N:List Str) (sc:Scope) (y:Nat) (f g h:Stmt->Bool) (st:Stmt):Bool:=
 match st with
 | .While e2 a b _=>cz N sc y e2 && b.isEmpty && E2 f g h a
 |_=>false
noncomputable def Jj (N:List Str) (sc:Scope) (x:Nat) (st:Stmt):Bool:=
 match st with
 | .Return o _=>match o with
  |some e=>cz N sc x e
  |none=>false
 |_=>false
theorem A7 {N:List Str}{sc:Scope}{m:Nat}{f g h:Stmt->Bool}{st:Stmt} (e:Jh N sc m f g h st=true): ∃em s1 s2 s3 p,st= .If em [s1,s2,s3] [] p/\cz N sc m em=true/\f s1=true/\g s2=true/\h s3=true:=by
 refine ao λnO=>?_
 cases st with
 |If em a b p=>
  refine nO ?_
  change (cz N sc m em && b.isEmpty && E2 f g h a)=true at e
  simp only [Bool.and_eq_true] at e
  refine qG (xK e.2) λs1 s2 s3 af q=>?_
  subst af
  cases b with
  |nil=>exact⟨em,s1,s2,s3,p,rfl,e.1.1,q⟩
  |cons _ _=>cases e.1.2
 |_=>cases e
theorem A8 {N:List Str}{sc:Scope}{m:Nat}{f g h:Stmt->Bool}{st:Stmt} (e:Ji N sc m f g h st=true): ∃em s1 s2 s3 p,st= .While em [s1,s2,s3] [] p/\cz N sc m em=true/\f s1=true/\g s2=true/\h s3=true:=by
 refine ao λnO=>?_
 cases st with
 |While em a b p=>
  refine nO ?_
  change (cz N sc m em && b.isEmpty && E2 f g h a)=true at e
  simp only [Bool.and_eq_true] at e
  refine qG (xK e.2) λs1 s2 s3 af q=>?_
  subst af
  cases b with
  |nil=>exact⟨em,s1,s2,s3,p,rfl,e.1.1,q⟩
  |cons _ _=>cases e.1.2
 |_=>cases e
theorem A9 {N:List Str}{sc:Scope}{x:Nat}{st:Stmt} (e:Jj N sc x st=true): ∃e1 p,st= .Return (some e1) p/\cz N sc x e1=true:=by
 refine ao λnO=>?_
 cases st with
 |Return o p=>
  refine nO <| ao λnO=>?_
  cases o with
  |none=>cases e
  |some e1=>
   exact nO <| ⟨e1,p,rfl,e⟩
 |_=>cases e
mutual
noncomputable def E3 (G:GT):C->List Str->Scope->Stmt->Bool
 | .asg i e,N,sc,st=>match st with
  | .Assign gD v _=>match gD with
   |[.Name x _]=>decide (N[i]?=some x) && lj sc x && bj G e N sc v && !eX v
   |_=>false
  |_=>false
 | .cC i e,N,sc,st=>match st with
  | .Assign gD v _=>match gD with
   |[.Name x _]=>decide (N[i]?=some x) && lj sc x && bj G e N sc v && fresh e && (!eX v || T4 e)
   |_=>false
  |_=>false
 | .mj i ix e,N,sc,st=>match st with
  | .Assign gD v _=>match gD with
   |[.Subscript (.Name x _) k _]=>decide (N[i]?=some x) && jU sc x && oY x && bj G ix N sc k && bX k && bj G e N sc v
   |_=>false
  |_=>false
 | .app i e,N,sc,st=>match st with
  | .Expr ex _=>match ex with
   | .Call (.Attribute (.Name x _) m ap) [v] [] cp=>decide (N[i]?=some x) && jU sc x && oY x && decide (m="append") && (ap.endLine == cp.line) && bj G e N sc v && aS v
   |_=>false
  |_=>false
 | .ret e,N,sc,st=>match st with
  | .Return o _=>match o with
   |some v=>bj G e N sc v
   |none=>false
  |_=>false
 | .ifs c t u,N,sc,st=>match st with
  | .If x a b _=>bj G c N sc x && AL c && bY G t N sc a && bY G u N sc b
  |_=>false
 | .while c b,N,sc,st=>match st with
  | .While x a o _=>o.isEmpty && bj G c N sc x && AL c && bY G b N sc a
  |_=>false
 | .for is tg it b,N,sc,st=>match st with
  | .For oZ iter a o _=>o.isEmpty && dU iter && bY G b N sc a && EW N sc is tg oZ && A6 G it N sc oZ iter
  |_=>false
 | .nV i t es,N,sc,st=>match st with
  | .Assign gD v _=>match gD,v with
   |[.Name x _],.Dict ks vs _=>decide (N[i]?=some x) && lj sc x && (match ks,vs with
    |[some k],[w]=>decide (t≠0) && cA G es N sc [k,w]
    |_,_=>false)
   |_,_=>false
  |_=>false
 | .pJ i k e,N,sc,st=>match st with
  | .Assign gD v _=>match gD with
   |[.Subscript o ix _]=>cz N sc i o && bj G k N sc ix && bX ix && bj G e N sc v && !eX v
   |_=>false
  |_=>false
 | .Cd i j,N,sc,st=>match st with
  | .Assign gD v _=>match gD with
   |[.Name x _]=>decide (N[i]?=some x) && lj sc x && cz N sc j v
   |_=>false
  |_=>false
 | .pop i j,N,sc,st=>match st with
  | .Assign gD v _=>match gD with
   |[.Name x _]=>decide (N[i]?=some x) && lj sc x && xJ N sc j v
   |_=>false
  |_=>false
 | .ext i e,N,sc,st=>match st with
  | .Expr ex _=>match ex with
   | .Call (.Attribute (.Name x _) m ap) [v] [] cp=>decide (N[i]?=some x) && jU sc x && oY x && decide (m="extend") && (ap.endLine == cp.line) && bj G e N sc v && aS v
   |_=>false
  |_=>false
 |_,_,_,_=>false
noncomputable def bY (G:GT):C->List Str->Scope->List Stmt->Bool
 | .skip,_,_,qI=>qI.isEmpty
 | .seq a b,N,sc,qI=>match qI with
  |s::r=>E3 G a N sc s && bY G b N sc r
  |[]=>false
 | .fst x fr it k v c1 y r f c2 m c3 p q u g w,N,sc,qI=>K2 (EZ G x fr it k v N sc) (E3 G c1 N sc) (Ji N sc y (Nc G x y r f N sc) (E3 G c2 N sc) (Jh N sc m (E3 G c3 N sc) (Cv G x p q u N sc) (Jg G x y g w N sc))) (Jj N sc x) qI
 |_,_,_,_=>false
end
theorem xM {f:List Expr->Expr->Bool}{st:Stmt} (h:(match st with| .Assign t v _=>f t v|_=>false)=true): ∃t v p,st= .Assign t v p/\f t v=true:=by
 refine ao λnO=>?_
 cases st with
 |Assign t v p=>
  exact nO <| ⟨t,v,p,rfl,h⟩
 |_=>cases h
theorem Jk {f:Str->Bool}{l:List Expr} (h:(match l with|[.Name x _]=>f x|_=>false)=true): ∃x p,l=[.Name x p]/\f x=true:=by
 cases l with
 |nil=>cases h
 |cons e l=>
  cases l with
  |cons _ _=>cases e <;> cases h
  |nil=>
   cases e with
   |Name x p=>exact⟨x,p,rfl,h⟩
   |_=>cases h
theorem eZ (h:lj sc x=true):Loc sc x:=by
 unfold lj at h
 split at h
 .rename_i e; exact .inl e
 .rename_i e; exact .inr e
 .cases h
theorem lu (h:eX v=false):swapsWith v (some t) l env=pure false:=by
 cases v <;> first|rfl|exact absurd h Bool.noConfusion
section
variable {K:PySem.W.Frag}{H₀:Hp}{ab Z:Addr->Prop}{kv:List V}{kd:List D}{ow:Nat->Option Addr}{σ:St}{H H1:Hp}{ρ:Env}{a:Addr}{o:Obj}{u:HO}
theorem SX.base (h:SX K H₀ ab Z kv kd ow σ H ρ) (e:H a=some (.cZ o u)):SX K (L2.upd H₀ a (.cZ o u)) ab Z kv kd ow σ H ρ:=by
 refine⟨h.ex,h.own,h.inj,λi b hb=>?_,λb w hb=>?_,h.kp,λb hb=>?_,h.len⟩
 .have fX:b≠a:=λz=>by
   refine ae (h.ex.live b (.inr ⟨i,hb⟩)) λw q1 q2=>?_
   rw [z,e] at q1
   cases q1
   exact q2
  rw [ak fX]
  exact h.new i b hb
 .by_cases mZ:b=a
  .subst mZ
   rw [ah] at hb
   cases hb
   exact e
  .rw [ak mZ] at hb
   exact h.same _ _ hb
 .by_cases mZ:b=a
  .subst mZ; exact⟨_,ah⟩
  .obtain⟨w,q⟩:=h.o0 b hb
   exact⟨w,by rw [ak mZ]; exact q⟩
theorem ni (s0:H₀ a=none\/H₀ a=some (.cZ o u)):ag H₀ (L2.upd H₀ a (.cZ o u)):=λb w hb=>by
 by_cases mZ:b=a
 .subst mZ
  rcases s0 with z|z
  .rw [z] at hb; cases hb
  .rw [z] at hb; cases hb; exact ah
 .rw [ak mZ]; exact hb
theorem SX.E4 (h:SX K (L2.upd H₀ a (.cZ o u)) ab Z kv kd ow σ H ρ) (s0:H₀ a=none\/H₀ a=some (.cZ o u)) (o0: ∀b,ab b-> ∃w,H₀ b=some w):SX K H₀ ab Z kv kd ow σ H ρ:=by
 refine⟨h.ex,h.own,h.inj,λi b hb=>?_,(ni s0).trans h.same,h.kp,o0,h.len⟩
 have:=h.new i b hb
 by_cases mZ:b=a
 .subst mZ; rw [ah] at this; cases this
 .rw [ak mZ] at this; exact this
end
theorem A_ (h1:ks.length=vs.length) (h2:ks.length=us.length) (e:fF 0 ks vs=fF 0 ks us):vs=us:=by
 rw [iK,iK] at e
 have e:=HO.dK.inj e
 have:=congrArg (List.map Prod.snd) e
 rwa [List.map_snd_zip (by rw [List.length_map]; lia),List.map_snd_zip (by rw [List.length_map]; lia)] at this
section
variable {X:Cx}{c e:Expr}{st:Stmt}{bL:List Stmt}{pos px:Pos}{x:Str}{i:Nat}
theorem E5:jX X [] (tC X.K λρ=>some (.next ρ)):=gY.weak λD' σ H zz=>by
 refine nE zz λH₀ ab Z kv kd ow ρ out hx hd k=>?_
 cases hd
 exact k ow σ H hx
theorem Jl (h1:PS X st (tC X.K f)) (h2:jX X bL (tC X.K g)):jX X (st::bL) (tC X.K λρ=>(f ρ).bind λo=>match o with
  | .next ρ'=>g ρ'
  |o=>some o):=
 (bU h1 h2).weak λD' σ H zz=>by
  refine nE zz λH₀ ab Z kv kd ow ρ out hx hd k=>ae (bind_some hd) λo e1 hd=>⟨H₀,ab,Z,kv,kd,ow,ρ,o,hx,e1,?_⟩
  cases o with
  |next ρ'=>exact λow σ H h=>⟨H₀,ab,Z,kv,kd,ow,ρ',out,h,hd,k⟩
  |brk ρ'=>cases hd; exact k
  |cont ρ'=>cases hd; exact k
  |ret d=>cases hd; exact k
theorem Jm (hN:X.N.Nodup) (hi:X.N[i]?=some x) (hx:Loc X.env.scope x) (hf:X.fn x=true) (he:PE X e (tV X.K false f)) (hs:swapsWith e (some (.Name x px)) pos.line X.env=pure false):
  PS X (.Assign [.Name x px] e pos) (tC X.K λρ=>(f ρ).map λd=> .next (put ρ i false d)):=
 (gK hN hi hx he hs (.inl hf)).weak λD' σ H zz=>by
  refine nE zz λH₀ ab Z kv kd ow ρ out hx hd k=>ae (map_some hd) λd e1 af=>?_
  subst af
  refine⟨Os ab ow,ρ,d,hx.ex,e1,λv H1 s1 r1=>?_⟩
  exact k (nh ow i none) _ _ ((hx.mono s1).put r1.own i)
theorem xN {K:PySem.W.Frag}{H₀ H H1:Hp}{ab Z:Addr->Prop}{kv:List V}{kd:List D}{ow:Nat->Option Addr}{σ:St}{ρ:Env} (h:SX K H₀ ab Z kv kd ow σ H ρ) {p:Addr}{vs:List V}{ds:List D} (s:ag H H1) (hp:H1 p=none) (r:av K (Os ab ow) H1 vs ds) (i:Nat):
  ∃mE,SX K H₀ ab Z kv kd mE (σ.set i (some (.ref p))) (L2.upd H1 p (.lst vs)) (Py.put ρ i true (.lst ds)):=by
 by_cases hi:i < ρ.length
 .exact⟨_,h.Dw s hp r i hi⟩
 .have e1:σ.set i (some (.ref p))=σ:=List.set_eq_of_length_le (by rw [<-h.len]; lia)
  have e2:Py.put ρ i true (.lst ds)=ρ:=List.set_eq_of_length_le (by lia)
  rw [e1,e2]
  exact⟨ow,h.mono (s.trans (ag.upd hp))⟩
theorem nj {f:Env->Option D}{te:TE} (hP:PS X st (lY te (cw i))) (ht: ∀σ H Q,tF X.K (λρ=>(f ρ).bind iM) σ H Q->te σ H Q):
  PS X st (tC X.K λρ=>(f ρ).bind λd=>match d with
   | .lst xs=>some (.next (put ρ i true (.lst xs)))
   |_=>none):=
 hP.weak λD' σ H zz=>by
  refine nE zz λH₀ ab Z kv kd ow ρ out hx hd k=>ae (bind_some hd) λd e1 hd=>?_
  cases d with
  |lst ds=>
   cases hd
   refine ht σ H _ ⟨Os ab ow,ρ,ds,hx.ex,by show(f ρ).bind iM=_; rw [e1]; rfl,λp vs H1 s1 hp r=>?_⟩
   obtain⟨mE,h'⟩:=xN hx s1 hp r i
   exact k mE _ _ h'
  |_=>cases hd
theorem E6 (hi:X.N[i]?=some x) (hv:um X.env.scope x) (A':(x == ("__debug__":Str))=false) (qV:(x == ("__classdict__":Str))=false) (hk:PE X ke (tV X.K false fi)) (i7:bX ke=true) (he:PE X e (tV X.K false f)):
  PS X (.Assign [.Subscript (.Name x px) ke o] e pos) (tC X.K λρ=>(f ρ).bind λd=>((fi ρ).bind zM).bind λk=>match ρ[i]? with
   |some (some (true,.lst xs))=>(cu xs.length k).map λj=> .next (put ρ i true (.lst (xs.set j d)))
   |_=>none):=
 (Dl he (Dk (bC hi hv A' qV) hk v_ (by intro v; cases ke <;> first|rfl|exact absurd i7 Bool.false_ne_true)) (by cases e <;> rfl) (by cases e <;> rfl) rfl).weak λD' σ H zz=>by
  refine ao λnO=>nE zz λH₀ ab Z kv kd ow ρ out hx hd k=>ae (bind_some hd) λd e1 hd=>ae (bind_some hd) λkk e2 hd=>ae (bind_some e2) λdk e3 e4=>nO ?_
  have T8:dk= .int kk:=by cases dk <;> first|(cases e4; rfl)|cases e4
  subst T8
  split at hd
  .rename_i xs Cw
   refine ae (map_some hd) λj e5 af=>?_
   subst af
   refine⟨Os ab ow,ρ,d,hx.ex,e1,λv H1 s1 r1=>?_⟩
   refine ae (hx.own i _ Cw) λa o2 o1=>?_
   have o1:ow i=some a:=o1.elim (λz=>z.2) λz=>nomatch z.1
   refine⟨.ref a,o2,Os ab ow,ρ,.int kk,(hx.mono s1).ex,e3,λw H2 s2 r2=>?_⟩
   have Gp:=(hx.mono s1).mono s2
   refine ao λnO=>ae (Gp.ex.jP i true _ Cw) λw' q1 q2=>bA q2 λa' e6 e8 c0=>ae c0.lst λvs e9 tJ=>?_
   rw [o2] at q1
   cases q1
   cases e6
   refine nO ?_
   refine⟨a,vs,kk,j,rfl,r2.int,e9,?_,?_⟩
   .rw [<-kS,tJ.length]; exact e5
   .exact k ow _ _ (Gp.wr o1 o2 e9 (tJ.set (r1.own.mono s2) j))
  .cases hd
theorem Jn (he:PE X e (tV X.K false f)):PS X (.Return (some e) pos) (tC X.K λρ=>(f ρ).map .ret):=
 (qL he).weak λD' σ H zz=>by
  refine nE zz λH₀ ab Z kv kd ow ρ out hx hd k=>ae (map_some hd) λd e1 af=>?_
  subst af
  refine⟨Os ab ow,ρ,d,hx.ex,e1,λv H1 s1 r1=>?_⟩
  exact k v H1 (hx.same.trans s1) (r1.own.weak λa z=> .inl z)
theorem E7 (hi:X.N[i]?=some x) (hv:um X.env.scope x) (A':(x == ("__debug__":Str))=false) (qV:(x == ("__classdict__":Str))=false):PS X (.Return (some (.Name x px)) pos) (tC X.K λρ=>(rd true ρ i).map .ret):=
 (qL (bC hi hv A' qV)).weak λD' σ H zz=>by
  refine nE zz λH₀ ab Z kv kd ow ρ out hx hd k=>ae (map_some hd) λd e1 af=>?_
  subst af
  have e1:rd true ρ i=some d:=e1
  unfold rd at e1
  split at e1
  .rename_i o d' Cw
   refine ae (hx.ex.jP i o d' Cw) λw q1 q2=>?_
   cases o with
   |true=>
    refine bA q2 λa e6 e8 c0=>ae (hx.own i _ Cw) λa' o2 o1=>?_
    rw [o2] at q1
    cases q1
    cases e6
    rcases c0 with ⟨vs,ds,rfl,e9,tJ⟩|⟨t,ks,vs,ds,rfl,_⟩|⟨rfl,_⟩
    .cases e1
     have o1:ow i=some a:=o1.elim (λz=>z.2) λz=>nomatch z.1
     refine⟨_,o2,k _ H hx.same (.lst (.inl e9) (λz=>?_) (tJ.weak λa z=> .inl z))⟩
     obtain⟨u,hu⟩:=hx.o0 a z
     rw [hx.new i a o1] at hu
     cases hu
    .cases e1
    .cases e1
   |false=>
    cases e1
    exact⟨w,q1,k _ H hx.same (bg.weak q2 λa z=> .inl z)⟩
  .cases e1
theorem Nd {a b:List Stmt}{f:Env->Option D}{g h:Env->Option i9} (hc:PT X c (tB X.K λρ=>(f ρ).bind eO)) (ha:jX X a (tC X.K g)) (hb:jX X b (tC X.K h)):
  PS X (.If c a b pos) (tC X.K λρ=>((f ρ).bind eO).bind λk=>if k then g ρ else h ρ):=
 (BY hc ha hb).weak λD' σ H zz=>by
  refine nE zz λH₀ ab Z kv kd ow ρ out hx hd k=>ae (bind_some hd) λkk e1 hd=>⟨Os ab ow,ρ,kk,hx.ex,e1,λH1 s1=>?_⟩
  cases kk with
  |true=>exact kA ⟨H₀,ab,Z,kv,kd,ow,ρ,out,hx.mono s1,hd,k⟩
  |false=>exact mf ⟨H₀,ab,Z,kv,kd,ow,ρ,out,hx.mono s1,hd,k⟩
theorem Ba {body:List Stmt}{f:Env->Option D}{b:Env->Option i9} (hp:PassesOwn (model X.prog X.w) X.A X.env X.xe) (hc:PT X c (tB X.K λρ=>(f ρ).bind eO)) (hb:jX X body (tC X.K b)) (n:Nat):
  PS X (.While c body [] pos) (tC X.K λρ=>ig (λρ=>(f ρ).bind eO) b n ρ):=
 (pB hp hc hb).weak λD' σ H zz=>by
  refine nE zz λH₀ ab Z kv kd ow ρ out hx hd k=>⟨λm σ H=> ∃ow ρ,SX X.K H₀ ab Z kv kd ow σ H ρ/\ig (λρ=>(f ρ).bind eO) b m ρ=some out,⟨n,ow,ρ,hx,hd⟩,?_⟩
  rintro m σ H ⟨ow,ρ,hx,hd⟩
  cases m with
  |zero=>cases hd
  |succ m=>
   rw [ig] at hd
   refine ae (bind_some hd) λkk e1 hd=>⟨Os ab ow,ρ,kk,hx.ex,e1,λH1 s1=>?_⟩
   cases kk with
   |false=>
    rw [if_neg Bool.false_ne_true] at hd
    cases hd
    exact mf (k ow σ H1 (hx.mono s1))
   |true=>
    rw [if_pos rfl] at hd
    refine ae (bind_some hd) λo e2 hd=>kA ⟨λbR H'=> ∃ow ρ,SX X.K H₀ ab Z kv kd ow bR H' ρ/\ig (λρ=>(f ρ).bind eO) b m ρ=some out,λbR H' h=>⟨m,Nat.lt_succ_self m,h⟩,H₀,ab,Z,kv,kd,ow,ρ,o,hx.mono s1,e2,?_⟩
    cases o with
    |next ρ'=>exact λow σ H h=>⟨ow,ρ',h,hd⟩
    |cont ρ'=>exact λow σ H h=>⟨ow,ρ',h,hd⟩
    |brk ρ'=>cases hd; exact λow σ H h=>k ow σ H h
    |ret d=>cases hd; exact λv H s r=>k v H s r
noncomputable def E8 (K:PySem.W.Frag) (g:TG) (setT:Env->D->Option Env):Prop:=
 ∀(H₀:Hp) (ab Z:Addr->Prop) (kv:List V) (kd:List D) (ow:Nat->Option Addr) (σ:St) (H:Hp) (ρ ρ':Env) (v:V) (d:D) (Q:St->Hp->Prop),SX K H₀ ab Z kv kd ow σ H ρ->bg K (Os ab ow) H v d->setT ρ d=some ρ'->
  (∀mE bR,SX K H₀ ab Z kv kd mE bR H ρ'->Q bR H)->g v σ H Q
theorem Bb {K:PySem.W.Frag}{j:Nat}:E8 K (cw j) (λρ d=>some (put ρ j false d)):=λH₀ ab Z kv kd ow σ H ρ ρ' v d Q hx r e q=>by
 cases e
 exact q _ _ (hx.put r j)
noncomputable def oJ:List Nat->Dh
 |[]=>GV
 |i::is=>BZ (cw i) (oJ is)
theorem nk (hN:X.N.Nodup) (hf: ∀x,X.fn x=true): ∀{is:List Nat}{es:List Expr},eY X.N X.env.scope is es=true->FY X es (oJ is)/\(assignEach es X.env).length =is.length/\(assignEach es X.env).findIdx? (·.1)=none
 |[],es,h=>by
  cases es with
  |nil=>exact⟨zo,rfl,rfl⟩
  |cons _ _=>cases h
 |i::is,es,h=>by
  cases es with
  |nil=>cases h
  |cons e es=>
   unfold eY at h
   rw [Bool.and_eq_true] at h
   obtain⟨h1,h2⟩:=h
   refine cK (nk hN hf h2) λq1 q2 q3=>?_
   cases e with
   |Name x p=>
    simp only [Bool.and_eq_true,decide_eq_true_eq] at h1
    refine⟨vP (jY hN h1.1 (eZ h1.2) (.inl (hf _))) q1 rfl,?_,?_⟩
    .show(assignEach es X.env).length + 1=_
     rw [q2]; rfl
    .show List.findIdx? _ ((false,_)::assignEach es X.env)=none
     rw [List.findIdx?_cons]
     simp [q3]
   |_=>cases h1
theorem qi {K:PySem.W.Frag}{H₀:Hp}{ab Z:Addr->Prop}{kv:List V}{kd:List D}: ∀{is:List Nat}{xs:List V}{ys:List D}{ow:Nat->Option Addr}{σ:St}{H:Hp}{ρ ρ':Env}{Q:St->Hp->Prop},av K (Os ab ow) H xs ys->SX K H₀ ab Z kv kd ow σ H ρ->cX ρ is ys=some ρ'->
  (∀mE bR,SX K H₀ ab Z kv kd mE bR H ρ'->Q bR H)->oJ is xs σ H Q
 |[],xs,ys,ow,σ,H,ρ,ρ',Q,r,hx,e,q=>by
  cases ys with
  |nil=>cases e; cases r; exact⟨rfl,q _ _ hx⟩
  |cons _ _=>cases e
 |i::is,xs,ys,ow,σ,H,ρ,ρ',Q,r,hx,e,q=>by
  cases ys with
  |nil=>cases e
  |cons d ds=>
   cases r with
   |cons r1 r2=>
    have sub: ∀a,Os ab (nh ow i none) a->Os ab ow a:=λa z=>by
     rcases z with z|⟨j,z⟩
     .exact .inl z
     .by_cases hj:j=i
      .rw [hj,aD] at z; cases z
      .rw [aI hj] at z; exact .inr ⟨j,z⟩
    exact⟨_,_,rfl,qi (r2.weak sub) (hx.put r1 i) e q⟩
theorem E9 {K:PySem.W.Frag}{is:List Nat} (h:0 < is.length):E8 K (HC K is.length (oJ is)) (λρ d=>(aM is.length d).bind (cX ρ is)):=λH₀ ab Z kv kd ow σ H ρ ρ' v d Q hx r e q=>by
 refine ae (bind_some e) λys e1 e2=>?_
 obtain⟨n,hn⟩: ∃n,is.length=n + 1:=⟨is.length - 1,by lia⟩
 rw [hn] at e1 ⊢
 cases d with
 |tup zs=>
  simp only [aM] at e1
  split at e1
  .rename_i hz
   cases e1
   refine ba r.iG λa xs af q1 p1=>?_
   subst af
   exact⟨a,xs,rfl,.inr q1,by rw [p1.length]; exact hz,qi p1 hx e2 q⟩
  .cases e1
 |_=>cases e1
theorem Cy (hp:PassesOwn (model X.prog X.w) X.A X.env X.xe) (hc:X.calm=true) (hg:PG X oZ g) (hS:E8 X.K g setT)
  (hI:PI X oZ iter (tI X.K false fi)) (hb:jX X body (tC X.K b)) (hs: ∀x,foldedSetIterable iter X.env x=pure x):
  PS X (.For oZ iter body [] pos) (tC X.K λρ=>(fi ρ).bind λxs=>aH (λy ρ=>(setT ρ y).bind b) xs ρ):=
 (Dp hp hc hI hg hb hs).weak λD' σ H zz=>by
  refine nE zz λH₀ ab Z kv kd ow ρ out hx hd k=>ae (bind_some hd) λxs e1 hd=>⟨Os ab ow,ρ,xs,hx.ex,e1,λJ fD H1 s1 xp qf=>?_⟩
  have qg:=hx.mono s1
  obtain⟨bu,Cz,CA,sm,w4,hk,Cb⟩: ∃bu Cz CA,ag H₀ bu/\SX X.K bu ab Z Cz CA ow σ H1 ρ/\(∀ow σ H ρ,SX X.K bu ab Z Cz CA ow σ H ρ->SX X.K H₀ ab Z kv kd ow σ H ρ)/\(∀ow σ H ρ,SX X.K bu ab Z Cz CA ow σ H ρ->eC X.K (Os ab ow) H fD):=by
   rcases fD with _|⟨_|_|⟨o,ks,vs⟩,v,ds⟩
   .exact⟨H₀,kv,kd,ag.refl _,qg,λ_ _ _ _ h=>h,λ_ _ _ _ _=>trivial⟩
   .exact⟨H₀,v::kv,.tup ds::kd,ag.refl _,qg.keep (bP.own qf),λ_ _ _ _ h=>h.drop,λ_ _ _ _ h=>h.kept.iG⟩
   .exact⟨H₀,v::kv,.lst ds::kd,ag.refl _,qg.keep (bP.own qf),λ_ _ _ _ h=>h.drop,λ_ _ _ _ h=>h.kept.lst_inv⟩
   .refine FV qf λa af g1 g2 g3 g4=>?_
    try clear qf
    subst af
    have s0:H₀ a=none\/H₀ a=some (.cZ o (fF 0 ks vs)):=by
     cases z:H₀ a with
     |none=>exact .inl rfl
     |some w=>have:=qg.same _ _ z; rw [g1] at this; cases this; exact .inr rfl
    have o0:=hx.o0
    refine⟨_,.ref a::kv,.bF 0 ks ds::kd,ni s0,(qg.base g1).keep (.bF g1 g2 g3 g4),λ_ _ _ _ h=>h.drop.E4 s0 o0,λ_ _ H' _ h=>?_⟩
    have e:=h.same _ _ (ah (H:=H₀) (a:=a))
    have r:=h.kept
    cases r with
    |bF f1 f2 f3 f4=>
     rw [e] at f1
     have T9:=HO.cZ.inj (Option.some.inj f1)
     rw [<-A_ g2 f2 T9.2] at f4
     exact⟨a,rfl,e,g2,g3,f4⟩
  refine⟨λi m σ H=>m=xs.length - i/\i<=xs.length/\ ∃ow ρ,SX X.K bu ab Z Cz CA ow σ H ρ/\aH (λy ρ=>(setT ρ y).bind b) (xs.drop i) ρ=some out,⟨xs.length,rfl,Nat.zero_le _,ow,ρ,w4,hd⟩,?_⟩
  rintro t m σ H ⟨rfl,hi,ow,ρ,hx,hd⟩
  refine cK (xp _ H (Cb _ _ _ _ hx)) λgo vQ stop=>?_
  by_cases bZ:t < xs.length
  .refine .inr ⟨go t bZ,λσ H=> ∃ow ρ,SX X.K bu ab Z Cz CA ow σ H ρ/\aH (λy ρ=>(setT ρ y).bind b) (xs.drop (t + 1)) ρ=some out,λbR H' h=>⟨xs.length - (t + 1),by lia,rfl,bZ,h⟩,λx H3 hy=>?_⟩
   obtain⟨s3,rx⟩:=vQ t x H3 xs[t] hy (by simp [bZ])
   rw [List.drop_eq_getElem_cons bZ,aH] at hd
   refine ae (bind_some hd) λo e2 hd=>ae (bind_some e2) λvF e2 e3=>hS bu ab Z Cz CA ow σ H3 ρ vF x xs[t] _ (hx.mono s3) rx e2 λmE bR w4=>⟨bu,ab,Z,Cz,CA,mE,vF,o,w4,e3,?_⟩
   cases o with
   |next ρ'=>exact λow σ H h=>⟨ow,ρ',h,hd⟩
   |cont ρ'=>exact λow σ H h=>⟨ow,ρ',h,hd⟩
   |brk ρ'=>cases hd; exact λow σ H h=>k ow σ H (hk _ _ _ _ h)
   |ret d=>cases hd; exact λv H s r=>k v H (sm.trans s) r
  .have e:t=xs.length:=by lia
   subst e
   rw [List.drop_length,aH] at hd
   cases hd
   exact .inl ⟨stop,k ow σ H (hk _ _ _ _ hx)⟩
theorem xO (h:PS X st (tC X.K g)):PS X st (tC X.K λρ=>g (eQ it ρ)):=
 h.weak λD' σ H zz=>by
  refine nE zz λH₀ ab Z kv kd ow ρ out hx hd k=>?_
  have key: ∃mE,SX X.K H₀ ab Z kv kd mE σ H (eQ it ρ):=by
   have one: ∀i:Nat,∃mE,SX X.K H₀ ab Z kv kd mE σ H (match ρ[i]? with
     |some (some (true,D.lst xs))=>ρ.set i (some (false,D.lst xs))
     |_=>ρ):=λi=>by
    split
    .rename_i d hd; exact⟨_,hx.freeze hd⟩
    .exact⟨ow,hx⟩
   unfold eQ
   split
   .exact one _
   .exact one _
   .exact⟨ow,hx⟩
  obtain⟨mE,h'⟩:=key
  exact⟨H₀,ab,Z,kv,kd,mE,_,out,h',hd,k⟩
end
end Py
namespace Py
open PySem PySem.Spec PyProof.Rows L2
theorem Bc (h:wx ρ i=some d):ρ[i]?=some (some (true,.bF d.1 d.2.1 d.2.2))/\d.1≠2:=by
 unfold wx at h
 split at h
 .rename_i t ks vs e
  split at h
  .cases h
  .rename_i ht; cases h; exact⟨e,ht⟩
 .cases h
theorem j8 (h:gN ρ i=some xs):ρ[i]?=some (some (true,.lst xs)):=by
 unfold gN at h
 split at h
 .rename_i xs e; cases h; exact e
 .cases h
section
variable {K:PySem.W.Frag}{H₀:Hp}{ab Z:Addr->Prop}{kv:List V}{kd:List D}{ow:Nat->Option Addr}{σ:St}{H H1:Hp}{ρ:Env}
theorem SX.Nf (hx:SX K H₀ ab Z kv kd ow σ H ρ) (h:wx ρ i=some d): ∃a vs,ow i=some a/\σ[i]?=some (some (.ref a))/\d.1≠2/\H a=some (fF d.1 d.2.1 vs)/\d.2.1.length=vs.length/\kM d.1 d.2.1/\av K (Os ab ow) H vs d.2.2:=by
 refine ao λnO=>?_
 obtain⟨e,h2⟩:=Bc h
 have hp:kC (.bF d.1 d.2.1 d.2.2)=false:=by show(d.1 == 2)=false; simp [h2]
 refine ae (hx.own i _ e) λa o2 o1=>?_
 have o1:ow i=some a:=o1.elim (λz=>z.2) λz=>by rw [hp] at z; exact nomatch z.1
 refine ae (hx.ex.jP i true _ e) λw q1 q2=>bA q2 λa' e6 e8 c=>?_
 rw [o2] at q1
 cases q1
 cases e6
 exact zb (c.bF h2) λvs c1 c2 c3 c4=>nO <| ⟨a,vs,o1,o2,h2,c1,c2,c3,c4⟩
theorem SX.E_ (hx:SX K H₀ ab Z kv kd ow σ H ρ) (h:gN ρ i=some xs): ∃a vs,ow i=some a/\σ[i]?=some (some (.ref a))/\H a=some (.lst vs)/\av K (Os ab ow) H vs xs:=by
 have e:=j8 h
 refine ao λnO=>ae (hx.own i _ e) λa o2 o1=>?_
 have o1:ow i=some a:=o1.elim (λz=>z.2) λz=>nomatch z.1
 refine ae (hx.ex.jP i true _ e) λw q1 q2=>bA q2 λa' e6 e8 c=>?_
 rw [o2] at q1
 cases q1
 cases e6
 exact ae c.lst λvs c1 c2=>nO <| ⟨a,vs,o1,o2,c1,c2⟩
end
theorem oK [DecidableEq κ] (f:List Int->κ) (hl:ks.length=vs.length) (hf: ∀k∈ks,f k=f x->k=x) (hx:x∉ks):ja ((ks.map f).zip vs) (f x) v=((ks++[x]).map f).zip (vs++[v]):=by
 have e:((((ks.map f).zip vs).any λkv=>decide (kv.1=f x))=true)=False:=by
  rw [eq_iff_iff,iff_false,List.any_eq_true]
  rintro⟨p,hp,hq⟩
  have h1:=(List.of_mem_zip (show(p.1,p.2)∈_ from hp)).1
  refine ae (List.mem_map.mp h1) λk k1 k2=>?_
  have:=hf k k1 (by rw [k2]; exact of_decide_eq_true hq)
  exact hx (this▸k1)
 unfold ja
 rw [if_neg (by rw [e]; exact id),List.map_append,List.zip_append (by rw [List.length_map]; exact hl)]
 rfl
section
variable {X:Cx}{c e ke:Expr}{st:Stmt}{bL:List Stmt}{pos px o:Pos}{x:Str}{i j:Nat}{f fk:Env->Option D}
theorem Fb (hu:X.A.units + 64 < cLine) (hi:X.N[i]?=some x) (hv:um X.env.scope x) (A':(x == ("__debug__":Str))=false) (qV:(x == ("__classdict__":Str))=false) (hk:PE X ke (tV X.K false fk)) (he:PE X e (tV X.K false f)) (hs: ∀t,swapsWith e (some t) pos.line X.env=pure false):
  PS X (.Assign [.Subscript (.Name x px) ke o] e pos) (tC X.K λρ=>(f ρ).bind λy=>(wx ρ i).bind λd=>((fk ρ).bind (dH d.1)).bind λx=>
   if d.2.1.length < bJ/\x∉d.2.1 then some (.next (put ρ i true (.bF d.1 (d.2.1++[x]) (d.2.2++[y])))) else none):=
 (sD (by lia) (bC hi hv A' qV) hk he (hs _)).weak λD' σ H zz=>by
  refine ao λnO=>nE zz λH₀ ab Z kv kd ow ρ out hx hd k=>ae (bind_some hd) λy e1 hd=>ae (bind_some hd) λd e2 hd=>ae (bind_some hd) λxx e3 hd=>ae (bind_some e3) λdk e4 e5=>nO ?_
  split at hd
  .rename_i hz
   cases hd
   refine⟨Os ab ow,ρ,y,hx.ex,e1,λv H1 s1 r1=>?_⟩
   refine ao λnO=>QI ((hx.mono s1).Nf e2) λa vs o1 o2 o3 c1 c2 c3 c4=>nO ?_
   refine⟨.ref a,o2,Os ab ow,ρ,dk,(hx.mono s1).ex,e4,λw H2 s2 r2=>?_⟩
   have Gp:=(hx.mono s1).mono s2
   have yZ:=s2 _ _ c1
   have aL:vs.length < sizeLine:=by rw [cI,<-c2]; exact hz.1
   have Ng:av X.K (Os ab ow) (L2.upd H2 a (fF d.1 (d.2.1++[xx]) (vs++[v]))) (vs++[v]) (d.2.2++[y]):=((c4.mono s2).append (.cons (r1.own.mono s2) .nil)).upd (.inr ⟨i,o1⟩) yZ jI
   have Nh:kM d.1 (d.2.1++[xx]):=by
    refine⟨?_,λh0 q hq=>?_⟩
    .rw [List.nodup_append]
     exact⟨c3.1,by simp,λa ha b hb e=>hz.2 (by rw [List.mem_singleton.mp hb] at e; exact e▸ha)⟩
    .rcases List.mem_append.mp hq with hq|hq
     .exact c3.2 h0 q hq
     .rw [List.mem_singleton.mp hq]
      rcases gc r2.own e5 with ⟨_,n,rfl,_⟩|⟨h1,_⟩
      .exact⟨n,rfl⟩
      .exact absurd h0 h1
   refine⟨a,_,rfl,?_,k ow _ _ (Gp.Ru (d0:= .bF d.1 (d.2.1++[xx]) (d.2.2++[y])) o1 o2 yZ jI jI (by show(d.1 == 2)=false; simp [o3]) (.inr (.inl ⟨_,_,vs++[v],_,rfl,ah,by simp [c2],Nh,Ng⟩)))⟩
   rcases gc r2.own e5 with ⟨h0,n,rfl,rfl⟩|⟨h0,b,rfl,hb⟩
   .refine .inl ⟨_,Sum.inl n,by rw [yZ]; unfold fF; rw [if_pos h0],rfl,by rw [List.length_zip,List.length_map,c2,Nat.min_self]; exact aL,?_⟩
    unfold fF
    rw [if_pos h0,<-oK (λk:List Int=>(Sum.inl (k.headD 0):cB)) c2 (λq hm e=>?_) hz.2]
    .rfl
    .obtain⟨j,rfl⟩:=c3.2 h0 q hm
     have:j=n:=Sum.inl.inj e
     rw [this]
   .refine .inr ⟨_,xx.map Sum.inl,b,by rw [yZ]; unfold fF; rw [if_neg h0],rfl,hb,by rw [List.length_zip,List.length_map,c2,Nat.min_self]; exact aL,?_⟩
    unfold fF
    rw [if_neg h0,<-oK (λk:List Int=>k.map (Sum.inl:Int->cB)) c2 (λq _ e=>oH e) hz.2]
  .cases hd
theorem xP {K:PySem.W.Frag}{H₀ H H1:Hp}{ab Z:Addr->Prop}{kv:List V}{kd:List D}{ow:Nat->Option Addr}{σ:St}{ρ:Env} (h:SX K H₀ ab Z kv kd ow σ H ρ) {p:Addr}{t:Nat}{ks:List (List Int)}{vs:List V}{ds:List D} (s:ag H H1) (hp:H1 p=none) (r:av K (Os ab ow) H1 vs ds) (h2:t≠2) (hl:ks.length=vs.length) (hk:kM t ks) (i:Nat):
  ∃mE,SX K H₀ ab Z kv kd mE (σ.set i (some (.ref p))) (L2.upd H1 p (fF t ks vs)) (Py.put ρ i true (.bF t ks ds)):=by
 by_cases hi:i < ρ.length
 .exact⟨_,h.Jf (u:=fF t ks vs) s hp jI i hi (by show(t == 2)=false; simp [h2]) (.inr (.inl ⟨t,ks,vs,ds,rfl,ah,hl,hk,lh hp r⟩))⟩
 .have e1:σ.set i (some (.ref p))=σ:=List.set_eq_of_length_le (by rw [<-h.len]; lia)
  have e2:Py.put ρ i true (.bF t ks ds)=ρ:=List.set_eq_of_length_le (by lia)
  rw [e1,e2]
  exact⟨ow,h.mono (s.trans (ag.upd hp))⟩
theorem Bd {t:Nat}{dp:Pos} (hu:X.A.units + 64 < cLine) (hN:X.N.Nodup) (hi:X.N[i]?=some x) (hx:Loc X.env.scope x) (hf:X.fn x=true) (h0:t≠0) (hk:PE X ke (tV X.K false fk)) (he:PE X e (tV X.K false f)):
  PS X (.Assign [.Name x px] (.Dict [some ke] [e] dp) pos) (tC X.K λρ=>if t=2 then none else((fk ρ).bind λa=>(f ρ).bind λb=>(dH t a).map λx=>D.bF t [x] [b]).map λd=> .next (put ρ i true d)):=by
 refine(gK hN hi hx (zZ (by lia) hk he) rfl (.inl hf)).weak λD' σ H zz=>ao λnO=>nE zz λH₀ ab Z kv kd ow ρ out hx hd k=>nO ?_
 split at hd
 .cases hd
 .rename_i h2
  refine ao λnO=>ae (map_some hd) λd y9 oh=>ae (bind_some y9) λda e1 y9=>ae (bind_some y9) λdb e2 y9=>ae (map_some y9) λxx e3 y9=>?_
  subst y9
  subst oh
  refine nO ?_
  intro p hp
  have Rw:=hx.ex.mono (ag.upd (o:= .dT []) hp)
  refine⟨Os ab ow,ρ,da,Rw,e1,λv H1 s1 r1=>⟨Os ab ow,ρ,db,Rw.mono s1,e2,λw H2 s2 r2=>?_⟩⟩
  have uM:H2 p=some (.dT []):=s2 _ _ (s1 _ _ ah)
  rcases gc (r1.own.mono s2) e3 with ⟨z,_⟩|⟨_,b,rfl,hb⟩
  .exact absurd z h0
  .refine⟨b,xx.map Sum.inl,rfl,hb,uM,?_⟩
   let H3:Hp:=λq=>if q=p then none else H2 q
   have k3: ∀q,q≠p->H3 q=H2 q:=λq hq=>if_neg hq
   have e4:L2.upd H2 p (.dT [(xx.map Sum.inl,w)])=L2.upd H3 p (fF t [xx] [w]):=by
    funext q
    unfold L2.upd
    by_cases hq:q=p
    .rw [if_pos hq,if_pos hq]
     unfold fF
     rw [if_neg h0]
     rfl
    .rw [if_neg hq,if_neg hq,k3 q hq]
   have s3:ag H H3:=λq u hq=>by
    have Rx:q≠p:=λz=>by rw [z,hp] at hq; cases hq
    rw [k3 q Rx]
    exact s2 _ _ (s1 _ _ (by rw [ak Rx]; exact hq))
   have rep3:bg X.K (Os ab ow) H3 w db:=f_ (λq us hq=>by
     have Ry:H2 q=some (.tup us):=hq
     show H3 q=some (.tup us)
     rw [k3 q (fc Ry uM (by intro z; cases z))]; exact Ry) (λq us hq nq=>⟨by
     rcases hq with hq|⟨ob,hq⟩
     .exact .inl (by rw [k3 q (fc hq uM (by intro z; cases z))]; exact hq)
     .exact .inr ⟨ob,by rw [k3 q (fc hq uM (by intro z; cases z))]; exact hq⟩,nq⟩) (λq ob u hq=>by rw [k3 q (fc hq uM (by intro z; cases z))]; exact hq) r2.own
   obtain⟨mE,h'⟩:=xP (t:=t) (ks:=[xx]) (ds:=[db]) hx s3 (if_pos rfl) (.cons rep3 .nil) h2 rfl ⟨by simp,λz=>absurd z h0⟩ i
   rw [e4]
   exact k mE _ _ h'
theorem xQ (h:jE ρ j=some xs): ∃o,ρ[j]?=some (some (o,.lst xs)):=by
 unfold jE at h
 split at h
 .rename_i o ks e; cases h; exact⟨_,e⟩
 .cases h
theorem Jo (hN:X.N.Nodup) (hi:X.N[i]?=some x) (hx:Loc X.env.scope x) (hf:X.fn x=true) (hv:PE X (.Name y py) (cR j)):PS X (.Assign [.Name x px] (.Name y py) pos) (tC X.K λρ=>(gN ρ j).map λxs=> .next (put (ρ.set j (some (false,.lst xs))) i false (.lst xs))):=
 (gK hN hi hx hv rfl (.inl hf)).weak λD' σ H zz=>by
  refine nE zz λH₀ ab Z kv kd ow ρ out hx hd k=>ae (map_some hd) λxs e1 af=>?_
  subst af
  have h':=hx.freeze (j8 e1)
  obtain⟨v,q1,q2⟩:=h'.ex.jP j false (.lst xs) (by
   have hl:j < ρ.length:=(List.getElem?_eq_some_iff.mp (j8 e1)).1
   exact List.getElem?_set_self hl)
  exact⟨v,q1,k _ _ _ (h'.put (show bg X.K _ H v (.lst xs) from q2) i)⟩
theorem Fc {K:PySem.W.Frag}{H₀:Hp}{ab Z:Addr->Prop}{kv:List V}{kd:List D}{ow:Nat->Option Addr}{σ:St}{H:Hp}{ρ:Env} (hx:SX K H₀ ab Z kv kd ow σ H ρ) {l:List D}{z:D} (e1:gN ρ j=some l) (e2:l.getLast?=some z):
  ∃a vs v,σ[j]?=some (some (.ref a))/\H a=some (.lst vs)/\vs[vs.length - 1]?=some v/\SX K H₀ ab Z kv kd ow σ (L2.upd H a (.lst vs.dropLast)) (put ρ j true (.lst l.dropLast))/\bg K (Os ab ow) (L2.upd H a (.lst vs.dropLast)) v z:=by
 refine ao λnO=>fW (hx.E_ e1) λa vs o1 o2 o3 o4=>?_
 have ll:=o4.length
 have zK:l[vs.length - 1]?=some z:=by rw [ll,<-List.getLast?_eq_getElem?]; exact e2
 refine ae (o4.get zK) λv g1 g2=>nO ?_
 have rd:av K (Os ab ow) H vs.dropLast l.dropLast:=by
  rw [List.dropLast_eq_take,List.dropLast_eq_take,ll]
  exact o4.take _
 exact⟨a,vs,v,o2,o3,g1,hx.wr o1 o2 o3 rd,g2.upd (.inr ⟨j,o1⟩) o3 trivial⟩
theorem xR (hv:PE X y (cR j)) (hb:attributeBase y "pop" X.env (eval y X.env)=eval y X.env) (hl:(ap.endLine == cp.line)=true):
  PE X (.Call (.Attribute y "pop" ap) [] [] cp) (λσ H Q=> ∃a vs v,σ[j]?=some (some (.ref a))/\H a=some (.lst vs)/\vs[vs.length - 1]?=some v/\Q v (L2.upd H a (.lst vs.dropLast))):=
 (DH PySem.F.plainAttrs_list PySem.F.slot_list_pop PySem.F.type_list_pop DL hv hb hl).weak λσ H Q ⟨a,vs,v,h1,h2,h3,q⟩=>⟨.ref a,h1,.inl ⟨rfl,vs,dg.of h2⟩,a,vs,v,rfl,rfl,h2,h3,q⟩
theorem Jp (hN:X.N.Nodup) (hi:X.N[i]?=some x) (hx:Loc X.env.scope x) (hf:X.fn x=true) {y:Expr}{ap cp:Pos} (hv:PE X y (cR j)) (hb:attributeBase y "pop" X.env (eval y X.env)=eval y X.env) (hl:(ap.endLine == cp.line)=true):
  PS X (.Assign [.Name x px] (.Call (.Attribute y "pop" ap) [] [] cp) pos) (tC X.K λρ=>(gN ρ j).bind λl=>(l.getLast?).map λz=> .next (put (put ρ j true (.lst l.dropLast)) i false z)):=
 (gK hN hi hx (xR hv hb hl) rfl (.inl hf)).weak λD' σ H zz=>by
  refine ao λnO=>nE zz λH₀ ab Z kv kd ow ρ out hx hd k=>ae (bind_some hd) λl e1 hd=>ae (map_some hd) λz e2 af=>?_
  subst af
  exact qJ (Fc hx e1 e2) λa vs v h1 h2 h3 h4 h5=>nO <| ⟨a,vs,v,h1,h2,h3,k _ _ _ (h4.put h5 i)⟩
theorem Jq (hi:X.N[i]?=some x) (hv:um X.env.scope x) (A':(x == ("__debug__":Str))=false) (qV:(x == ("__classdict__":Str))=false) (hl:(ap.endLine == cp.line)=true) (he:PE X e (tV X.K false f)) (hn:aS e=true):
  PS X (.Expr (.Call (.Attribute (.Name x px) "extend" ap) [e] [] cp) pos) (tC X.K λρ=>(f ρ).bind λd=>match d with
   | .lst zs=>(gN ρ i).bind λws=>if ws.length + zs.length<=bJ then some (.next (put ρ i true (.lst (ws++zs)))) else none
   |_=>none):=
 (nL (wc PySem.F.plainAttrs_list PySem.F.slot_list_extend PySem.F.type_list_extend xf (bC hi hv A' qV) (bV he dj (bO hn)) rfl (by rw [bO hn]; rfl) hl (bO hn) rfl) rfl).weak λD' σ H zz=>by
  refine nE zz λH₀ ab Z kv kd ow ρ out hx hd k=>ae (bind_some hd) λd e1 hd=>?_
  cases d with
  |lst zs=>
   refine ae (bind_some hd) λws e2 hd=>?_
   split at hd
   .rename_i hz
    cases hd
    refine fW (hx.E_ e2) λa vs o1 o2 o3 o4=>⟨.ref a,o2,.inl ⟨rfl,vs,dg.of o3⟩,Os ab ow,ρ,.lst zs,hx.ex,e1,λv H1 s1 r1=>?_⟩
    have qg:=hx.mono s1
    have Jr:=s1 _ _ o3
    refine ba r1.lst λb us af h1 h2=>?_
    subst af
    refine⟨a,b,vs,us,rfl,rfl,Jr,h1,?_,?_⟩
    .rw [cI,o4.length,h2.length]; exact hz
    .exact k ow _ _ (qg.wr o1 o2 Jr ((o4.mono s1).append h2))
   .cases hd
  |_=>cases hd
end
end Py
namespace Py
open PySem PySem.Spec PyProof.Rows L2
section
variable {K:PySem.W.Frag}{O O':Addr->Prop}{H H' H1 H2 H3:Hp}{a b:Addr}{as:List Addr}{T:List D}
noncomputable def gP (H H':Hp):Prop:= ∀b us,H b=some (.tup us)->H' b=some (.tup us)
theorem gP.trans (h1:gP H H1) (h2:gP H1 H2):gP H H2:=λb us e=>h2 b us (h1 b us e)
theorem nr (s:ag H H'):gP H H':=λb us e=>s _ _ e
theorem fQ (e:H a=some u) (hu:qb u):gP H (L2.upd H a o):=λb us h=>by
 rw [ak (fc h e (by intro z; rw [<-z] at hu; exact hu))]; exact h
theorem dB (ht:gP H H') (h:bg K O H v d):aB d=true->bg K O' H' v d:=
 bg.rec (motive_1:=λv d _=>aB d=true->bg K O' H' v d) (motive_2:=λvs ds _=>aR ds=true->av K O' H' vs ds) (λ_=> .eK) (λb _=> .bl b) (λi _=> .int i)
  (λh _ ih n=> .tup (ht _ _ h) (ih (by simpa [aB] using n))) (λ_ _ _ _ n=>absurd n (by simp [aB])) (λ_ _ _ n=>absurd n (by simp [aB])) (λ_ _ _ _ _ n=>absurd n (by simp [aB])) (λ_=> .nil)
  (λ_ _ i1 i2 n=>by
   simp only [aR,Bool.and_eq_true] at n
   exact .cons (i1 n.1) (i2 n.2)) h
theorem eF (ht:gP H H'): ∀{vs:List V}{ds:List D},av K O H vs ds->aR ds=true->av K O' H' vs ds
 |_,_,.nil,_=> .nil
 |_,_,.cons r t,n=>by
  simp only [aR,Bool.and_eq_true] at n
  exact .cons (dB ht r n.1) (eF ht t n.2)
theorem gE: ∀{xs ys:List D},aR (xs++ys)=(aR xs && aR ys)
 |[],ys=>by simp [aR]
 |x::xs,ys=>by simp [aR,gE (xs:=xs),Bool.and_assoc]
noncomputable def lz (K:PySem.W.Frag) (H:Hp) (b:Addr) (d:D):Prop:= ∃ks vs xs,d= .bF 0 ks xs/\H b=some (fF 0 ks vs)/\ks.length=vs.length/\kM 0 ks/\aR xs=true/\av K (λ_=>False) H vs xs
theorem lz.keep (h:lz K H b d) (ht:gP H H') (e:H' b=H b):lz K H' b d:=by
 exact Gx h λks vs xs h1 h2 h3 h4 h5 h6=>⟨ks,vs,xs,h1,by rw [e]; exact h2,h3,h4,h5,eF ht h6 h5⟩
theorem jn: ∀{l:List α}{m:List β},Paired R l m->(∀x y,x∈l->R x y->R' x y)->Paired R' l m:=λ{l m} h=>by
 induction h with
 |nil=>exact λ_=> .nil
 |cons r t ih=>exact λk=> .cons (k _ _ List.mem_cons_self r) (ih λx y hx=>k x y (List.mem_cons_of_mem _ hx))
theorem Be: ∀{l:List α}{m:List β}{i:Nat}{y:β},Paired R l m->m[i]?=some y-> ∃x,l[i]?=some x/\R x y:=λ{l m i y} h=>by
 induction h generalizing i with
 |nil=>intro e; simp at e
 |cons r t ih=>
  intro e
  cases i with
  |zero=>simp at e; subst e; exact⟨_,rfl,r⟩
  |succ i=>exact ae (ih (i:=i) (by simpa using e)) λx h1 h2=>⟨x,by simpa using h1,h2⟩
theorem u9 {α β:Type}{R:α->β->Prop}{x:α}{y:β} (h:R x y): ∀{l:List α}{m:List β},Paired R l m->Paired R (l++[x]) (m++[y]):=λ{l m} p=>by
 induction p with
 |nil=>exact .cons h .nil
 |cons r t ih=>exact .cons r ih
theorem iN: ∀{l:List α}{m:List β},Paired R l m->x∈l-> ∃y,R x y:=λ{l m} p=>by
 induction p with
 |nil=>exact λh=>nomatch h
 |cons r t ih=>exact λh=>(List.mem_cons.mp h).elim (λe=>by subst e; exact⟨_,r⟩) ih
structure o_ (K:PySem.W.Frag) (H:Hp) (a:Addr) (as:List Addr) (T:List D):Prop where
 lst:H a=some (.lst (as.map V.ref))
 bF:Paired (lz K H) as T
 nd:(a::as).Nodup
theorem o_.keep (h:o_ K H a as T) (ht:gP H H') (e: ∀b,b∈a::as->H' b=H b):o_ K H' a as T:=
 ⟨by rw [e a List.mem_cons_self]; exact h.lst,jn h.bF λb d hb hd=>hd.keep ht (e b (List.mem_cons_of_mem _ hb)),h.nd⟩
theorem o_.there (h:o_ K H a as T): ∀b,b∈a::as-> ∃u,H b=some u/\qb u:=λb hb=>by
 rcases List.mem_cons.mp hb with e|hb
 .subst e; exact⟨_,h.lst,trivial⟩
 .exact CS (iN h.bF hb) λd ks vs xs _ h2 _=>⟨_,h2,jI⟩
theorem o_.mut (h:o_ K H a as T): ∀b,b∈as->kL H b:=λb hb=>by
 exact CS (iN h.bF hb) λd ks vs xs _ h2 _=>⟨_,h2,A0⟩
theorem o_.tK (h:o_ K H a as T) (s:ag H H'):o_ K H' a as T:=
 h.keep (nr s) λb hb=>by
  refine ae (h.there b hb) λu e _=>?_
  rw [e]; exact s _ _ e
theorem qj (f:Ay as H1 H2):gP H1 H2:=λb us e=>by
 rw [f.out b λhb=>?_]
 .exact e
 .refine ba (f.at_ b hb) λo u e1 mu _=>?_
  rw [e] at e1; cases e1; exact mu
theorem o_.rep (h:o_ K H1 a as T) (f:Ay as H1 H2):bg K O H2 (.ref a) (.lst T)\/O a:=by
 by_cases ho:O a
 .exact .inr ho
 .refine .inl (.lst (.inl (by rw [f.out a (List.nodup_cons.mp h.nd).1]; exact h.lst)) ho ?_)
  have all: ∀{bs:List Addr}{S:List D},(∀b∈bs,b∈as)->Paired (lz K H1) bs S->av K O H2 (bs.map V.ref) S:=by
   intro bs S hs p
   induction p with
   |nil=>exact .nil
   |@cons b d bs S hd _ ih=>
    refine Gx hd λks vs xs af h2 h3 h4 h5 h6=>?_
    try clear hd
    subst af
    refine ba (f.at_ b (hs b List.mem_cons_self)) λo u e1 mu e2=>?_
    rw [h2] at e1
    cases e1
    exact .cons (.bF e2 h3 h4 (eF (qj f) h6 h5)) (ih λc hc=>hs c (List.mem_cons_of_mem _ hc))
  exact all (λb hb=>hb) h.bF
theorem u_ (f:Ay as H1 H2) (s:ag H2 H3):p9 as H1 H3/\ag H1 (fE as H1 H3)/\gP H3 (fE as H1 H3):=by
 have c:p9 as H1 H3:=λb hb=>by
  exact ba (f.at_ b hb) λo u e1 mu e2=>⟨o,u,e1,mu,s _ _ e2⟩
 refine⟨c,λb u e=>?_,λb us e=>?_⟩
 .by_cases hb:b∈as
  .rw [iE hb]; exact e
  .rw [bN hb]; exact s _ _ (by rw [f.out b hb]; exact e)
 .rw [bN λhb=>?_]
  .exact e
  .refine ba (c b hb) λo u _ _ e2=>?_
   rw [e] at e2; cases e2
theorem xS (c:p9 as H1 H3) (hd: ∀b∈as,∀zs,H1 b≠some (.lst zs)) (h:dg K H3 p us):dg K (fE as H1 H3) p us:=by
 rcases h with h|h
 .refine .inl ?_
  have hp:p∉as:=λhb=>by
   refine ba (c p hb) λo u e1 mu e2=>?_
   rcases h with h|⟨o',h⟩
   .rw [h] at e2; cases e2
   .rw [h] at e2; cases e2; exact hd p hb us e1
  rcases h with h|⟨o',h⟩
  .exact .inl (by rw [bN hp]; exact h)
  .exact .inr ⟨o',by rw [bN hp]; exact h⟩
 .exact .inr h
theorem Fe: ∀us,fF t ks vs≠ .lst us:=by
 intro us h
 unfold fF at h
 split at h <;> cases h
theorem o_.Js (h:o_ K H a as T): ∀b∈as,∀zs,H b≠some (.lst zs):=λb hb zs e=>by
 refine CS (iN h.bF hb) λd ks vs xs _ h2 _=>?_
 rw [h2] at e
 exact Fe _ (Option.some.inj e)
end
end Py
namespace Py
open PySem PySem.Spec PyProof.Rows L2
section
variable {K:PySem.W.Frag}{H₀ bu:Hp}{ab Z:Addr->Prop}{kv:List V}{kd:List D}{ow:Nat->Option Addr}{σ:St}{H H1 H':Hp}{ρ:Env}{a b:Addr}{as:List Addr}{T:List D}{x y:Nat}
noncomputable def OT (ab:Addr->Prop) (a:Addr) (as:List Addr):Addr->Prop:=λb=>ab b\/b∈a::as
theorem bg.va {l:List Addr}{v:V}{d:D} (h:bg K (Os ab ow) H v d) (hp: ∀p∈l,H p=none):bg K (λb=>Os ab ow b\/b∈l) H v d:=
 f_ (λ_ _ h=>h) (λb us h n=>⟨h,λz=>z.elim n λe=>j6 (hp b e) h⟩) (λ_ _ _ h=>h) h
theorem av.va {l:List Addr}{v:List V}{d:List D} (h:av K (Os ab ow) H v d) (hp: ∀p∈l,H p=none):av K (λb=>Os ab ow b\/b∈l) H v d:=
 eh (λ_ _ h=>h) (λb us h n=>⟨h,λz=>z.elim n λe=>j6 (hp b e) h⟩) (λ_ _ _ h=>h) h
theorem dJ.va {l:List Addr}{d:D} (h:dJ K (Os ab ow) H b d) (hp: ∀p∈l,H p=none):dJ K (λb=>Os ab ow b\/b∈l) H b d:=by
 rcases h with ⟨vs,ds,e1,e2,e3⟩|⟨t,ks,vs,ds,e1,e2,e3,e4,e5⟩|⟨e1,u',e2,e3⟩
 .exact .inl ⟨vs,ds,e1,e2,e3.va hp⟩
 .exact .inr (.inl ⟨t,ks,vs,ds,e1,e2,e3,e4,e5.va hp⟩)
 .exact .inr (.inr ⟨e1,u',e2,e3⟩)
noncomputable def lA (a:Addr) (as:List Addr) (H₀ H:Hp):Hp:=fE (a::as) H H₀
theorem Ni: ∀b,Os (OT ab a as) (nh ow x none) b->Os ab ow b\/b∈a::as:=λb z=>by
 rcases z with (z|z)|⟨j,z⟩
 .exact .inl (.inl z)
 .exact .inr z
 .by_cases hj:j=x
  .rw [hj,aD] at z; cases z
  .rw [aI hj] at z; exact .inl (.inr ⟨j,z⟩)
theorem SX.tab (h:SX K H₀ ab Z kv kd ow σ H ρ) (s:ag H H') (t:o_ K H' a as T) (hn: ∀b∈a::as,H b=none) (nt:pK ρ=true) (hx:x < ρ.length):
  ag H₀ (lA a as H₀ H')/\SX K (lA a as H₀ H') (OT ab a as) (λb=>b=a) [] [] (nh ow x none) (σ.set x (some (.ref a))) H' (Py.put ρ x true rh):=by
 have T_: ∀b∈a::as,H₀ b=none:=λb hb=>by
  cases z:H₀ b with
  |none=>rfl
  |some w=>have:=h.same _ _ z; rw [hn b hb] at this; cases this
 have sb:ag H₀ (lA a as H₀ H'):=λb u e=>by
  unfold lA
  rw [bN λhb=>by rw [T_ b hb] at e; cases e]
  exact e
 have CB: ∀(j:Nat) (o:Bool) (d:D),ρ[j]?=some (some (o,d))->kC d=false:=λj o d e=>by
  unfold pK at nt
  have:=List.all_eq_true.mp nt _ (List.mem_of_getElem? e)
  simpa using this
 refine⟨sb,⟨⟨λb hb=>?_,λj o d' hj=>?_⟩,λj d' hj=>?_,λj k b hj hk=>?_,λj b hj=>?_,λb u e=>?_,.nil,λb hb=>?_,by unfold Py.put; rw [List.length_set,List.length_set]; exact h.len⟩⟩
 .rcases Ni b hb with z|z
  .exact ae (h.ex.live b z) λu e q=>⟨u,s _ _ e,q⟩
  .exact t.there b z
 .by_cases dP:j=x
  .subst dP
   unfold Py.put at hj
   rw [List.getElem?_set_self hx] at hj
   cases hj
   exact ae (t.there a List.mem_cons_self) λu e q=>⟨.ref a,List.getElem?_set_self (by rw [<-h.len]; exact hx),a,rfl,.inl (.inr List.mem_cons_self),.inr (.inr ⟨rfl,u,e,q⟩)⟩
  .unfold Py.put at hj
   rw [List.getElem?_set_ne (Ne.symm dP)] at hj
   refine ae (h.ex.jP j o d' hj) λw h1 h2=>⟨w,by rw [List.getElem?_set_ne (Ne.symm dP)]; exact h1,?_⟩
   cases o with
   |true=>
    refine bA h2 λb e1 e2 c=>ae (h.own j d' hj) λb' o2 o1=>?_
    rw [h1] at o2
    cases o2
    cases e1
    refine⟨b,rfl,o1.elim (λo1=> .inr ⟨j,by rw [aI dP]; exact o1.2⟩) (λo1=> .inl (.inl o1.2.2)),((c.va hn).mono s).weak Ni⟩
   |false=>exact((bg.va h2 hn).mono s).weak Ni
 .by_cases dP:j=x
  .subst dP
   unfold Py.put at hj
   rw [List.getElem?_set_self hx] at hj
   cases hj
   exact⟨a,List.getElem?_set_self (by rw [<-h.len]; exact hx),.inr ⟨rfl,rfl,.inr List.mem_cons_self⟩⟩
  .unfold Py.put at hj
   rw [List.getElem?_set_ne (Ne.symm dP)] at hj
   refine ae (h.own j d' hj) λb o2 o1=>⟨b,by rw [List.getElem?_set_ne (Ne.symm dP)]; exact o2,.inl ⟨CB j true d' hj,?_⟩⟩
   rw [aI dP]
   exact o1.elim (λo1=>o1.2) λo1=>by rw [CB j true d' hj] at o1; exact nomatch o1.1
 .by_cases h1:j=x
  .rw [h1,aD] at hj; cases hj
  .by_cases h2:k=x
   .rw [h2,aD] at hk; cases hk
   .rw [aI h1] at hj; rw [aI h2] at hk; exact h.inj j k b hj hk
 .by_cases h1:j=x
  .rw [h1,aD] at hj; cases hj
  .rw [aI h1] at hj
   refine ae (h.ex.live b (.inr ⟨j,hj⟩)) λu e _=>?_
   unfold lA
   rw [bN λhb=>by rw [hn b hb] at e; cases e]
   exact h.new j b hj
 .unfold lA at e
  by_cases hb:b∈a::as
  .rw [iE hb] at e; exact e
  .rw [bN hb] at e; exact s _ _ (h.same _ _ e)
 .unfold lA
  by_cases i8:b∈a::as
  .exact ae (t.there b i8) λu e _=>⟨u,by rw [iE i8]; exact e⟩
  .rw [bN i8]
   exact h.o0 b (hb.resolve_right i8)
noncomputable def gF (bu H:Hp):Hp:=λb=>match H b with
 |some (.tup us)=>some (.tup us)
 |_=>bu b
theorem gf (e:H b=some (.tup us)):gF bu H b=some (.tup us):=by unfold gF; rw [e]
theorem eG (e: ∀us,H b≠some (.tup us)):gF bu H b=bu b:=by
 unfold gF
 split
 .rename_i us z; exact absurd z (e us)
 .rfl
theorem SX.gF (h:SX K bu ab Z kv kd ow σ H ρ):SX K (gF bu H) ab Z kv kd ow σ H ρ:=by
 refine⟨h.ex,h.own,h.inj,λi b hb=>?_,λb u e=>?_,h.kp,λb hb=>?_,h.len⟩
 .refine ae (h.ex.live b (.inr ⟨i,hb⟩)) λu e q=>?_
  rw [eG λus z=>by rw [e] at z; cases z; exact q]
  exact h.new i b hb
 .by_cases hb: ∃us,H b=some (.tup us)
  .obtain⟨us,z⟩:=hb
   rw [gf z] at e
   cases e
   exact z
  .rw [eG λus z=>hb ⟨us,z⟩] at e
   exact h.same _ _ e
 .by_cases i8: ∃us,H b=some (.tup us)
  .obtain⟨us,z⟩:=i8
   exact⟨_,gf z⟩
  .rw [eG λus z=>i8 ⟨us,z⟩]
   exact h.o0 b hb
noncomputable def LS (K:PySem.W.Frag) (H₀:Hp) (ab:Addr->Prop) (a:Addr) (as:List Addr) (T:List D) (σ:St) (H:Hp) (ρ:Env):Prop:=
 ∃bu ow,ag H₀ bu/\SX K bu (OT ab a as) (λb=>b=a) [] [] ow σ H ρ/\(∀b,b∈a::as->bu b=H b)/\o_ K H a as T
theorem SX.qk (hx:SX K bu (OT ab a as) (λb=>b=a) [] [] ow σ H ρ) (t:o_ K H a as T) (s:ag H H') (e: ∀b,b∈a::as->bu b=H b): ∀b,b∈a::as->bu b=H' b:=λb hb=>by
 refine ae (t.there b hb) λu eu _=>?_
 rw [e b hb,eu]
 exact(s _ _ eu).symm
theorem LS.mono (h:LS K H₀ ab a as T σ H ρ) (s:ag H H'):LS K H₀ ab a as T σ H' ρ:=by
 exact fW h λbu ow h1 h2 h3 h4=>⟨bu,ow,h1,h2.mono s,h2.qk h4 s h3,h4.tK s⟩
theorem LS.run (h:LS K H₀ ab a as T σ H ρ) (e:f ρ=some (.next ρ')) (k: ∀bR H',LS K H₀ ab a as T bR H' ρ'->D'.nx bR H'):tC K f D' σ H:=by
 refine fW h λbu ow h1 h2 h3 h4=>⟨gF bu H,_,_,[],[],ow,ρ,.next ρ',h2.gF,e,λmE bR H' hx=>k bR H' ⟨_,mE,λb u eb=>?_,hx,λb hb=>?_,?_⟩⟩
 .have:=h1 _ _ eb
  by_cases hb: ∃us,H b=some (.tup us)
  .obtain⟨us,z⟩:=hb
   rw [gf z,<-z]
   exact h2.same _ _ this
  .rw [eG λus z=>hb ⟨us,z⟩]; exact this
 .refine ae (h4.there b hb) λu eu q=>?_
  have e1:gF bu H b=some u:=by
   rw [eG λus z=>by rw [eu] at z; cases z; exact q,h3 b hb]; exact eu
  rw [e1]
  exact(hx.same _ _ e1).symm
 .refine h4.keep (λb us z=>hx.same _ _ (gf z)) λb hb=>ae (h4.there b hb) λu eu q=>?_
  have e1:gF bu H b=some u:=by
   rw [eG λus z=>by rw [eu] at z; cases z; exact q,h3 b hb]; exact eu
  rw [eu]
  exact hx.same _ _ e1
theorem Bf (h:ij ρ x=true):ρ[x]?=some (some (true,rh)):=by
 unfold ij at h
 split at h
 .rename_i t e
  have:t=2:=by simpa using h
  subst this
  exact e
 .cases h
theorem LS.at (h:LS K H₀ ab a as T σ H ρ) (ht:ij ρ x=true):σ[x]?=some (some (.ref a)):=by
 refine fW h λbu ow _ h2 _ _=>ae (h2.own x _ (Bf ht)) λb o2 o1=>?_
 rcases o1 with o1|o1
 .exact nomatch o1.1
 .rw [o2,o1.2.1]
theorem LS.lst (h:LS K H₀ ab a as T σ H ρ) {l:List D} (e:jE ρ y=some l): ∃b vs,σ[y]?=some (some (.ref b))/\dg K H b vs/\vs.length=l.length:=by
 refine ao λnO=>fW h λbu ow _ h2 _ _=>?_
 obtain⟨o,e2⟩:=xQ e
 refine ae (h2.ex.jP y o _ e2) λu q1 q2=>nO ?_
 cases o with
 |true=>
  refine ao λnO=>bA q2 λb f1 f2 c=>ae c.lst λvs c1 c2=>?_
  subst f1
  exact nO <| ⟨b,vs,q1,dg.of c1,c2.length⟩
 |false=>
  refine ao λnO=>ba (bg.lst_inv q2) λb vs f1 f2 f3=>?_
  subst f1
  exact nO <| ⟨b,vs,q1,f2,f3.length⟩
theorem vb (e:gN ρ y=some l):jE ρ y=some l:=by
 have:=j8 e
 unfold jE
 rw [this]
end
end Py
namespace Py
open PySem PySem.Spec PyProof.Rows L2
theorem Jt (h:dH 0 d=some k): ∃i,d= .int i/\k=[i]:=by
 cases d with
 |int i=>cases h; exact⟨i,rfl,rfl⟩
 |tup xs=>cases h
 |_=>cases h
theorem vc {K:PySem.W.Frag}{fr:List Nat}{fi:Env->Option (List D)}{fk fv:Env->Option D}{O:Addr->Prop}{σ:St}{H:Hp}{ρ:Env}{Q:VK}{xs T:List D} (hx:EX K O σ H ρ) (e1:fi ρ=some xs) (hz:xs.length<=bJ) (hd:walk (pL fk fv fr ρ) xs=some T)
  (q: ∀p as H',ag H H'->o_ K H' p as T->(∀b∈p::as,H b=none)->Q (.ref p) H'):mP 1 fr (tI K true fi) (cw 0) (tB K λ_=>some true) (p_ (tV K false fk) (tV K false fv)) σ H Q:=by
 refine⟨O,ρ,xs,hx,e1,λJ fD H1 s1 xp qf p hp=>?_⟩
 have qg:=hx.mono s1
 have EH:eC K (λa=>O a\/a=p) H1 fD:=qf.ok.own hp
 refine⟨λi m H'=>m=xs.length - i/\i<=xs.length/\ag H1 H'/\ ∃as S bL,H' p=some (.lst (as.map V.ref))/\Paired (lz K H') as S/\(p::as).Nodup /\(∀b∈as,H1 b=none)/\as.length=i/\walk (pL fk fv fr ρ) (xs.drop i)=some bL/\T=S++bL,
  ⟨xs.length,rfl,Nat.zero_le _,ag.upd hp,[],[],T,ah,.nil,by simp,λ_ z=>(nomatch z),rfl,hd,rfl⟩,?_⟩
 rintro i mm H2 ⟨rfl,hi,s2,as,S,bL,ep,pd,nd,hn,hl,hw,ho⟩
 refine cK (xp _ H2 (EH.mono s2)) λgo vQ stop=>?_
 by_cases bZ:i < xs.length
 .refine .inr ⟨go i bZ,λx H3 hy=>?_⟩
  have M9:xs[i]?=some xs[i]:=by simp [bZ]
  obtain⟨s3,rx⟩:=vQ i x H3 _ hy M9
  have I8:H3 p=some (.lst (as.map V.ref)):=s3 _ _ ep
  have M_:EX K (λa=>O a\/a=p) σ H3 ρ:=qg.ext hp (s2.trans s3) I8
  have dr:xs.drop i=xs[i]::xs.drop (i + 1):=(List.drop_eq_getElem_cons bZ)
  rw [dr,walk] at hw
  show tB K (λ_=>some true) ((List.replicate 1 none++fy fr σ).set 0 (some x)) H3 _
  have M':(List.replicate 1 none++fy fr σ).set 0 (some x)=some x::fy fr σ:=rfl
  rw [M']
  have I9:=M_.inner rx fr
  refine⟨_,_,true,I9,rfl,λH4 s4=>kA λCC K3=>?_⟩
  cases en:pL fk fv fr ρ xs[i] with
  |none=>rw [en] at hw; cases hw
  |some o=>
  have CD:=en
  unfold pL at CD
  refine ao λnO=>ae (bind_some CD) λkk g0 CD=>ae (bind_some g0) λdk g1 g2=>ae (bind_some CD) λd g3 CD=>nO ?_
  split at CD
  .rename_i vB
   refine ao λnO=>?_
   cases CD
   rw [en] at hw
   refine ae (map_some hw) λxt tq I_=>ae (Jt g2) λki af aO=>?_
   subst af
   subst aO
   refine nO ?_
   have Rz:=(I9.mono s4).mono (ag.upd (o:= .dK []) K3)
   refine⟨_,_,_,Rz,g1,λkv H5 s5 r5=>⟨_,_,d,Rz.mono s5,g3,λv H6 s6 r6=>?_⟩⟩
   have Ff:H6 CC=some (.dK []):=s6 _ _ (s5 _ _ ah)
   have K4:ag H4 H6:=((ag.upd (o:= .dK []) K3).trans s5).trans s6
   have Nj:H6 p=some (.lst (as.map V.ref)):=K4 _ _ (s4 _ _ I8)
   have K5:p≠CC:=fc Nj Ff (by intro z; cases z)
   have Ua:ag H2 H6:=(s3.trans s4).trans K4
   have Fg: ∀b u,H4 b=some u->b≠CC:=λb u e z=>by rw [z,K3] at e; cases e
   refine⟨ki,r5.int,Ff,as.map V.ref,xs.length - (i + 1),by rw [ak K5]; exact Nj,by rw [List.length_map,hl,cI]; lia,by lia,rfl,bZ,λbb oo eb=>?_,as++[CC],S++[.bF 0 [[ki]] [d]],xt,?_,?_,?_,?_,?_,tq,?_⟩
   .have e4:H4 bb=some oo:=s4 _ _ (s3 _ _ (s2 _ _ eb))
    rw [ak (bT eb hp),ak (Fg _ _ e4)]
    exact K4 _ _ e4
   .rw [List.map_append]; exact ah
   .have t6:gP H6 (L2.upd (L2.upd H6 CC (.dK [(Sum.inl ki,v)])) p (.lst (as.map V.ref++[.ref CC]))):=(fQ (o:= .dK [(Sum.inl ki,v)]) Ff trivial).trans (fQ (u:= .lst (as.map V.ref)) (by rw [ak K5]; exact Nj) trivial)
    have old:Paired (lz K (L2.upd (L2.upd H6 CC (.dK [(Sum.inl ki,v)])) p (.lst (as.map V.ref++[.ref CC])))) as S:=jn pd λb dd hb y9=>y9.keep ((nr Ua).trans t6) (by
     refine ao λnO=>cG y9 λks vs ys _ h2 _=>nO ?_
     have e4:H4 b=some (fF 0 ks vs):=s4 _ _ (s3 _ _ h2)
     have Ub:b≠p:=λz=>by rw [List.nodup_cons] at nd; exact nd.1 (z▸hb)
     rw [ak Ub,ak (Fg _ _ e4),h2]
     exact K4 _ _ e4)
    refine u9 ⟨[[ki]],[v],[d],rfl,?_,rfl,⟨by simp,λ_ k hk=>⟨ki,by simpa using hk⟩⟩,by simp [aR,vB],.cons (dB t6 r6.own vB) .nil⟩ old
    rw [ak (Ne.symm K5),ah,iK]; rfl
   .rw [<-List.cons_append,List.nodup_append]
    refine⟨nd,by simp,λb hb c hc e=>?_⟩
    rw [List.mem_singleton] at hc
    rw [e,hc] at hb
    rcases List.mem_cons.mp hb with z|z
    .exact K5 z.symm
    .exact ao λnO=>CS (iN pd z) λdd ks vs ys _ h2 _=>nO <| Fg _ _ (s4 _ _ (s3 _ _ h2)) rfl
   .intro b hb
    rcases List.mem_append.mp hb with hb|hb
    .exact hn b hb
    .rw [List.mem_singleton] at hb
     subst hb
     cases z:H1 b with
     |none=>rfl
     |some w=>have:=s4 _ _ (s3 _ _ (s2 _ _ z)); rw [K3] at this; cases this
   .rw [List.length_append,List.length_singleton,hl]
   .rw [ho,<-I_,List.append_assoc]; rfl
  .cases CD
 .have ei:i=xs.length:=by lia
  subst ei
  refine .inl ⟨stop,?_⟩
  rw [List.drop_length,walk] at hw
  cases hw
  rw [List.append_nil] at ho
  subst ho
  refine q p as H2 (s1.trans s2) ⟨ep,pd,nd⟩ λb hb=>?_
  have h1:H1 b=none:=(List.mem_cons.mp hb).elim (λz=>z▸hp) (hn b)
  cases z:H b with
  |none=>rfl
  |some w=>have:=s1 _ _ z; rw [h1] at this; cases this
end Py
namespace Py
open PySem PySem.Spec PyProof.Rows L2
section
variable {K:PySem.W.Frag}{H₀ bu:Hp}{ab Bg Z:Addr->Prop}{kv:List V}{kd:List D}{ow:Nat->Option Addr}{σ:St}{H H1 H':Hp}{ρ:Env}{a b:Addr}{as:List Addr}{T:List D}{x y r:Nat}{u u':HO}
theorem xT {α β:Type}{R R':α->β->Prop}{x:α}{y':β} (hy:R' x y'): ∀{l:List α}{m:List β}{q:Nat},Paired R l m->l.Nodup->l[q]?=some x->(∀z y,z∈l->z≠x->R z y->R' z y)->Paired R' l (m.set q y'):=λ{l m q} p=>by
 induction p generalizing q with
 |nil=>intro _ e; simp at e
 |cons r t ih=>
  intro nd e k
  rw [List.nodup_cons] at nd
  cases q with
  |zero=>
   simp at e
   subst e
   exact .cons hy (jn t λz y hz=>k z y (List.mem_cons_of_mem _ hz) λe=>nd.1 (e▸hz))
  |succ q=>
   have e':=by simpa using e
   exact .cons (k _ _ List.mem_cons_self (λe2=>nd.1 (e2▸List.mem_of_getElem? e')) r) (ih nd.2 e' λz y hz=>k z y (List.mem_cons_of_mem _ hz))
theorem SX.Uc (h:SX K bu Bg Z kv kd ow σ H ρ) (ob:Bg b) (e:H b=some u) (hu:qb u) (Gn:qb u') (hz: ∀c,Z c->c≠b):SX K (L2.upd bu b u') Bg Z kv kd ow σ (L2.upd H b u') ρ:=by
 have oa:Os Bg ow b:= .inl ob
 obtain⟨w,hw⟩:=h.o0 b ob
 have fX: ∀i c,ow i=some c->c≠b:=λi c hc z=>by
  have:=h.new i c hc
  rw [z,hw] at this
  cases this
 refine⟨⟨λc hc=>?_,λj o d' hj=>?_⟩,h.own,h.inj,λi c hc=>by rw [ak (fX i c hc)]; exact h.new i c hc,λc v hc=>?_,h.kp.upd oa e hu,λc hc=>?_,h.len⟩
 .by_cases tL:c=b
  .subst tL; exact⟨u',ah,Gn⟩
  .exact ae (h.ex.live c hc) λus q qo=>⟨us,by rw [ak tL]; exact q,qo⟩
 .refine ae (h.ex.jP j o d' hj) λw q1 q2=>⟨w,q1,?_⟩
  cases o with
  |true=>
   refine ao λnO=>bA q2 λc e1 e2 c'=>ae (h.own j d' hj) λb' o2 o1=>?_
   rw [q1] at o2
   cases o2
   cases e1
   exact nO <| ⟨c,rfl,e2,c'.upd (o1.elim (λo1=>fX j c o1.2) λo1=>hz c o1.2.1) oa e hu⟩
  |false=>exact bg.upd q2 oa e hu
 .by_cases tL:c=b
  .subst tL; rw [ah] at hc ⊢; exact hc
  .rw [ak tL] at hc ⊢; exact h.same _ _ hc
 .by_cases tL:c=b
  .subst tL; exact⟨u',ah⟩
  .obtain⟨v,hv⟩:=h.o0 c hc
   exact⟨v,by rw [ak tL]; exact hv⟩
theorem LS.put (h:LS K H₀ ab a as T σ H ρ) (rp:bg K O' H v d) (n:aB d=true):LS K H₀ ab a as T (σ.set r (some v)) H (Py.put ρ r false d):=by
 exact fW h λbu ow h1 h2 h3 h4=>⟨bu,_,h1,h2.put (dB (λ_ _ e=>e) rp n) r,h3,h4⟩
theorem LS.own (h:LS K H₀ ab a as T σ H ρ) (e:gN ρ y=some l): ∃b vs O',σ[y]?=some (some (.ref b))/\H b=some (.lst vs)/\av K O' H vs l/\
  ∀EV l' H',ag H H'->av K O' H' EV l'->LS K H₀ ab a as T σ (L2.upd H' b (.lst EV)) (Py.put ρ y true (.lst l')):=by
 refine ao λnO=>fW h λbu ow h1 h2 h3 h4=>fW (h2.E_ e) λb vs o1 o2 o3 o4=>nO ?_
 refine⟨b,vs,_,o2,o3,o4,λEV l' H' s rr=>?_⟩
 have hb: ∀c,c∈a::as->c≠b:=λc hc z=>by
  have n:=h2.new y b o1
  refine ae (h4.there c hc) λu eu _=>?_
  rw [<-z,h3 c hc,eu] at n
  cases n
 have Jr:=s _ _ o3
 refine⟨bu,ow,h1,(h2.mono s).wr o1 o2 Jr rr,λc hc=>?_,(h4.tK s).keep (fQ Jr trivial) λc hc=>ak (hb c hc)⟩
 rw [ak (hb c hc)]
 exact h2.qk h4 s h3 c hc
theorem LS.dput (h:LS K H₀ ab a as T σ H ρ) {q:Nat}{ks:List (List Int)}{xs:List D}{ki:Int}{v:V}{d:D}{O':Addr->Prop} (e:T[q]?=some (.bF 0 ks xs)) (hk:[ki]∉ks) (hl:ks.length < bJ) (rp:bg K O' H v d) (n:aB d=true) (hn: ∀b∈a::as,H₀ b=none):
  ∃b H',as[q]?=some b/\D7 H b (.int ki) v H'/\LS K H₀ ab a as (T.set q (.bF 0 (ks++[[ki]]) (xs++[d]))) σ H' ρ:=by
 refine ao λnO=>fW h λbu ow h1 h2 h3 h4=>?_
 obtain⟨b,e1,TR,vs,WX,e2,g1,g2,g3,g4,g5⟩:=Be h4.bF e
 cases e2
 refine nO ?_
 have hb:b∈as:=List.mem_of_getElem? e1
 have nd:=List.nodup_cons.mp h4.nd
 have rB:a≠b:=λz=>nd.1 (z▸hb)
 have Fh:ja ((ks.map λk=>(Sum.inl (k.headD 0):cB)).zip vs) (Sum.inl ki) v=((ks++[[ki]]).map λk=>(Sum.inl (k.headD 0):cB)).zip (vs++[v]):=by
  have:=oK (λk:List Int=>(Sum.inl (k.headD 0):cB)) (x:=[ki]) (v:=v) g2 (λk hm he=>by
   obtain⟨j,rfl⟩:=g3.2 rfl k hm
   have:j=ki:=Sum.inl.inj he
   rw [this]) hk
  exact this
 refine⟨b,L2.upd H b (fF 0 (ks++[[ki]]) (vs++[v])),e1,.inl ⟨_,Sum.inl ki,by rw [g1,iK],rfl,by rw [List.length_zip,List.length_map,g2,Nat.min_self,cI,<-g2]; exact hl,by rw [Fh,iK]⟩,?_⟩
 have ts:gP H (L2.upd H b (fF 0 (ks++[[ki]]) (vs++[v]))):=fQ g1 jI
 refine⟨L2.upd bu b (fF 0 (ks++[[ki]]) (vs++[v])),ow,λc w ec=>?_,h2.Uc (.inr (List.mem_cons_of_mem _ hb)) g1 jI jI (λc hc=>by rw [hc]; exact rB),λc hc=>?_,⟨by rw [ak rB]; exact h4.lst,?_,h4.nd⟩⟩
 .have tL:c≠b:=λz=>by rw [z,hn b (List.mem_cons_of_mem _ hb)] at ec; cases ec
  rw [ak tL]; exact h1 _ _ ec
 .by_cases tL:c=b
  .subst tL; rw [ah,ah]
  .rw [ak tL,ak tL]; exact h3 c hc
 .refine xT ⟨ks++[[ki]],vs++[v],xs++[d],rfl,ah,by simp [g2],⟨?_,λ_ k hm=>?_⟩,by rw [gE,g4]; simp [aR,n],(eF ts g5 g4).append (.cons (dB ts rp n) .nil)⟩ h4.bF nd.2 e1 λz y hz Ud hd=>hd.keep ts (ak Ud)
  .rw [List.nodup_append]
   exact⟨g3.1,by simp,λa ha b hb e=>hk (by rw [List.mem_singleton.mp hb] at e; exact e▸ha)⟩
  .rcases List.mem_append.mp hm with hm|hm
   .exact g3.2 rfl k hm
   .exact⟨ki,List.mem_singleton.mp hm⟩
theorem LS.call (h:LS K H₀ ab a as T σ H1 ρ) {n:Nat}{f:List D->Option D}{v:V}{z d:D}{O':Addr->Prop}{Q:VK} (rz:bg K O' H1 v z) (nz:aB z=true) (fe:f [.lst T,z]=some d) (hn: ∀ds d,f ds=some d->ds.length=n)
  (k: ∀w H3,ag H1 (fE as H1 H3)->bg K (λ_=>False) H3 w d->gP H3 (fE as H1 H3)->p9 as H1 H3->Q w (fE as H1 H3)):
  ∃Ju:List Addr,Ju.Nodup/\(∀b∈Ju,kL H1 b)/\ ∀H2,Ay Ju H1 H2->s_ K n f ([.ref a,v]++[]) H2 (λw H3=>p9 Ju H1 H3/\Q w (fE Ju H1 H3)) E0:=by
 refine fW h λbu ow h1 h2 h3 h4=>⟨as,(List.nodup_cons.mp h4.nd).2,h4.mut,λH2 fz=>⟨λ_=>False,[.lst T,z],d,λ_ z=>z.elim,.cons ((h4.rep fz).resolve_right id) (.cons (dB (qj fz) rz nz) .nil),fe,hn _ _ fe,λw H3 s v8=>?_⟩⟩
 exact cK (u_ fz s) λc s' t=>⟨c,k w H3 s' v8 t c⟩
theorem LS.ret (h:LS K H₀ ab a as T σ H ρ) (hn: ∀b∈a::as,H₀ b=none) (o0: ∀b,ab b-> ∃w,H₀ b=some w) (fz:Ay as H H2):ag H₀ H2/\bg K ab H2 (.ref a) (.lst T):=by
 refine fW h λbu ow h1 h2 h3 h4=>⟨λb u e=>?_,(h4.rep fz).resolve_right λz=>?_⟩
 .rw [fz.out b λhb=>by rw [hn b (List.mem_cons_of_mem _ hb)] at e; cases e]
  exact h2.same _ _ (h1 _ _ e)
 .obtain⟨w,hw⟩:=o0 a z
  rw [hn a List.mem_cons_self] at hw
  cases hw
end
end Py
namespace Py
open PySem PySem.Spec PyProof.Rows L2
noncomputable abbrev Fi (K:PySem.W.Frag) (n:Nat) (f:List D->Option D) (t:TA):TE:=λσ H Q=>t σ H λvs H1=> ∃as:List Addr,as.Nodup/\(∀b∈as,kL H1 b)/\ ∀H2,Ay as H1 H2->s_ K n f (vs++[]) H2 (λv H3=>p9 as H1 H3/\Q v (fE as H1 H3)) E0
noncomputable abbrev Bh (y:Nat):TE:=λσ H Q=> ∃a vs v,σ[y]?=some (some (.ref a))/\H a=some (.lst vs)/\vs[vs.length - 1]?=some v/\Q v (L2.upd H a (.lst vs.dropLast))
noncomputable abbrev xU (K:PySem.W.Frag) (y:Nat):TT:=λσ H Q=>cR y σ H λx H'=> ∃k,Du K x H' k/\Q k H'
section
variable {K:PySem.W.Frag}{H₀:Hp}{ab:Addr->Prop}{σ:St}{H:Hp}{ρ:Env}{a:Addr}{as:List Addr}{T:List D}{x y:Nat}
theorem xV (h:ij ρ x=true) (ne:x≠y):ij (Py.put ρ y o d) x=true:=by
 unfold ij Py.put at *
 rw [List.getElem?_set_ne (Ne.symm ne)]
 exact h
theorem LS.RA (h:LS K H₀ ab a as T σ H ρ) (e:jE ρ y=some l) (q:Q (!l.isEmpty) H):xU K y σ H Q:=by
 refine ba (h.lst e) λb vs h1 h2 h3=>?_
 have he:(!vs.isEmpty)=!l.isEmpty:=by cases vs <;> cases l <;> simp at h3 ⊢
 exact⟨.ref b,h1,!vs.isEmpty,.inl ⟨vs,h2,rfl⟩,by rw [he]; exact q⟩
theorem xW (h:t {D' with nx:=u D'} σ H):nK t u D' σ H:=h
theorem LS.ifs (h:LS K H₀ ab a as T σ H ρ) (e:jE ρ y=some l) (q:if(!l.isEmpty)=true then t D' σ H else u D' σ H):zl (xU K y) t u D' σ H:=by
 unfold zl
 exact h.RA e q
theorem LS.turn (h:LS K H₀ ab a as T σ H ρ) (hn: ∀b∈a::as,H₀ b=none) (ht:ij ρ x=true) (uU:x≠y) (el:gN ρ y=some l) (Jv: ∀ds d,F f ds=some d->ds.length=n1) (Jw: ∀ds d,F g ds=some d->ds.length=n2)
  (e:ik F x y r f c2 m c3 p q u g w T ρ l=some (T',ρ')) (k: ∀bR H',LS K H₀ ab a as T' bR H' ρ'->ij ρ' x=true->D'.nx bR H'):
  nK (lY (Fi K n1 (F f) (cE (cR x) (cE (Bh y) kr))) (cw r)) (nK (tC K c2) (nK (zl (xU K m) (nK (tC K c3) (nK (sC (B0 (zD K) (cR x) (tV K false p)) (tV K false q) (tV K false u)) (nK (r_ (Kx K "list" (xc K) (cR y) (cE (Fi K n2 (F g) (cE (cR x) (cE (tV K false w) kr))) kr))) r8))) r8) r8)) D' σ H:=by
 unfold ik at e
 refine ao λnO=>?_
 obtain⟨z,e1,e⟩:=bind_some e
 obtain⟨d,e2,e⟩:=bind_some e
 refine nO ?_
 split at e
 .rename_i Jx
  rw [Bool.and_eq_true] at Jx
  obtain⟨o,e3,e⟩:=bind_some e
  refine ao λnO=>?_
  cases o with
  |next Ce=>
   refine nO ?_
   dsimp only at e
   split at e
   .rename_i Nk
    obtain⟨ms,e4,e⟩:=bind_some e
    refine ao λnO=>?_
    obtain⟨b,vs,O',y1,y2,y3,y4⟩:=h.own el
    have oX:l[vs.length - 1]?=some z:=by rw [y3.length,<-List.getLast?_eq_getElem?]; exact e1
    obtain⟨v,z1,z2⟩:=y3.get oX
    refine nO ?_
    have yd:av K O' H vs.dropLast l.dropLast:=by
     rw [List.dropLast_eq_take,List.dropLast_eq_take,y3.length]
     exact y3.take _
    have h1:=y4 vs.dropLast l.dropLast H (ag.refl _) yd
    have Ue:bg K (λ_=>False) (L2.upd H b (.lst vs.dropLast)) v z:=dB (fQ y2 trivial) z2 Jx.1
    refine⟨.ref a,h.at ht,b,vs,v,y1,y2,z1,h1.call (Q:=λw H'=>nK (tC K c2) _ D' (σ.set r (some w)) H') Ue Jx.1 e2 Jv λw H3 s3 r3 t3 Nl=>?_⟩
    have h2:=(h1.mono s3).put (r:=r) (dB (O':=λ_=>False) t3 r3 Jx.2) Jx.2
    refine h2.run e3 λuo H4 h3=>xW (h3.ifs e4 ?_)
    cases hm:ms.isEmpty with
    |true=>
     rw [hm] at e
     cases e
     exact mf (k uo H4 h3 Nk)
    |false=>
     rw [hm,if_neg Bool.false_ne_true] at e
     obtain⟨o,e5,e⟩:=bind_some e
     refine ao λnO=>?_
     cases o with
     |next nW=>
      refine nO ?_
      dsimp only at e
      split at e
      .rename_i Nm
       obtain⟨uv,e6,e⟩:=bind_some e
       split at e
       .rename_i hu
        refine ao λnO=>?_
        obtain⟨pi,Ug,e⟩:=bind_some e
        obtain⟨dp,e7,RB⟩:=bind_some Ug
        refine nO ?_
        have Uh:dp= .int pi:=by cases dp <;> first|(cases RB; rfl)|cases RB
        refine ao λnO=>?_
        subst Uh
        obtain⟨pq,e8,e⟩:=bind_some e
        obtain⟨kk,Ui,e⟩:=bind_some e
        obtain⟨dk,e9,K6⟩:=bind_some Ui
        obtain⟨ki,rfl,rfl⟩:=Jt K6
        obtain⟨T2,tJ,e⟩:=bind_some e
        obtain⟨wv,Uj,e⟩:=bind_some e
        refine nO ?_
        split at e
        .rename_i hw
         obtain⟨zd,ae,e⟩:=bind_some e
         refine ao λnO=>?_
         cases zd with
         |lst zs=>
          refine nO ?_
          dsimp only at e
          split at e
          .rename_i Uk
           obtain⟨ws,bA,e⟩:=bind_some e
           split at e
           .rename_i aL
            cases e
            refine kA (h3.run e5 λUl H5 h5=>?_)
            refine ao λnO=>?_
            obtain⟨bu,ow,b1,b2,b3,b4⟩:=id h5
            refine nO ?_
            refine⟨_,nW,uv,b2.ex,e6,λv6 H6 s6 r6=>⟨.ref a,(h5.mono s6).at Nm,_,nW,.int pi,(b2.mono s6).ex,e7,λv7 H7 s7 r7=>?_⟩⟩
            have h7:=(h5.mono s6).mono s7
            have t7:=b4.tK (s6.trans s7)
            unfold wy at tJ
            split at tJ
            .rename_i ks xs eT
             split at tJ
             .rename_i Ec
              cases tJ
              have lT:as.length=T.length:=Paired.length t7.bF
              obtain⟨b8,Um,Nn⟩: ∃c,B4 (as.map V.ref) pi=some (V.ref c)/\as[pq]?=some c:=by
               have bZ:pq < as.length:=by rw [lT]; exact(List.getElem?_eq_some_iff.mp eT).1
               refine⟨as[pq],?_,List.getElem?_eq_getElem bZ⟩
               unfold B4
               rw [List.length_map,lT,<-kS,e8]
               show(as.map V.ref)[pq]?=_
               rw [List.getElem?_map,List.getElem?_eq_getElem bZ]
               rfl
              refine⟨a,_,pi,.ref b8,rfl,r7.int,dg.of t7.lst,Um,_,nW,.int ki,((b2.mono s6).mono s7).ex,e9,λv9 H9 s9 r9=>?_⟩
              have h9:=h7.mono s9
              refine ao λnO=>?_
              obtain⟨b',Me,f1,f2,f3⟩:=h9.dput eT Ec.2 Ec.1 (r6.own.mono (s7.trans s9)) hu hn
              rw [Nn] at f1
              cases f1
              refine nO ?_
              refine⟨_,Me,rfl,by rw [r9.int]; exact f2,?_⟩
              refine ao λnO=>?_
              obtain⟨c,us,O2,c1,Cm,Nl,c4⟩:=f3.own bA
              obtain⟨Uo,WY,d1,d2,d3,d4⟩:=id f3
              refine nO ?_
              refine⟨.ref c,c1,.inl ⟨rfl,us,dg.of Cm⟩,.ref a,f3.at Nm,_,nW,wv,d2.ex,Uj,λv11 Mf uE Up=>?_⟩
              refine(f3.mono uE).call (Q:=λw2 H'=>xc K (.ref c) [w2] H' λ_ Rn=>D'.nx Ul Rn) Up.own hw ae Jw λw2 WZ y_ Uq Ur Jy=>ao λnO=>?_
              obtain⟨bb,zv,rfl,g1,g2⟩:=Uq.lst_inv
              refine nO ?_
              have oC:=uE.trans y_
              refine⟨c,bb,us,zv,rfl,rfl,oC _ _ Cm,xS Jy (d4.tK uE).Js g1,by rw [cI,Nl.length,g2.length]; exact aL,?_⟩
              exact k _ _ (c4 _ _ _ oC ((Nl.mono oC).append (eF Ur g2 Uk))) (xV Nm uU)
             .cases tJ
            .cases tJ
           .cases e
          .cases e
         |_=>cases e
        .cases e
       .cases e
      .cases e
     |_=>cases e
   .cases e
  |_=>cases e
 .cases e
end
end Py
namespace Py
open PySem PySem.Spec PyProof.Rows L2
theorem Fj (h:te σ H λv H1=>g v σ H1 D'.nx):lY te g D' σ H:=h
section
variable {X:Cx}{s1 s2 sr s5 s6 ss se:Stmt}{e1 e2 em:Expr}{wp ip rp:Pos}{x y r f m g n1 n2:Nat}{fr:List Nat}{F:FT}{fi:Env->Option (List D)}{fk fv p q u w:Env->Option D}{c1 c2 c3:Env->Option i9}
theorem Jz (hp:PassesOwn (model X.prog X.w) X.A X.env X.xe) (Jv: ∀ds d,F f ds=some d->ds.length=n1) (Jw: ∀ds d,F g ds=some d->ds.length=n2)
  (P1:PS X s1 (lY (mP 1 fr (tI X.K true fi) (cw 0) (tB X.K λ_=>some true) (p_ (tV X.K false fk) (tV X.K false fv))) (cw x)))
  (P2:PS X s2 (tC X.K c1)) (Py:PT X e2 (xU X.K y)) (Pr:PS X sr (lY (Fi X.K n1 (F f) (cE (cR x) (cE (Bh y) kr))) (cw r))) (P5:PS X s5 (tC X.K c2)) (Pm:PT X em (xU X.K m)) (P6:PS X s6 (tC X.K c3))
  (Ps:PS X ss (sC (B0 (zD X.K) (cR x) (tV X.K false p)) (tV X.K false q) (tV X.K false u))) (Pe:PS X se (r_ (Kx X.K "list" (xc X.K) (cR y) (cE (Fi X.K n2 (F g) (cE (cR x) (cE (tV X.K false w) kr))) kr)))) (Pt:PE X e1 (cR x)) (n:Nat):
  jX X [s1,s2,.While e2 [sr,s5,.If em [s6,ss,se] [] ip] [] wp,.Return (some e1) rp] (tC X.K λρ=>(fi ρ).bind λxs=>if xs.length<=bJ/\x≠y/\x < ρ.length/\pK ρ=true then(walk (pL fk fv fr ρ) xs).bind λT=>
   (c1 (put ρ x true rh)).bind λo=>match o with
   | .next il=>if ij il x then(fK (ik F x y r f c2 m c3 p q u g w) y n T il).map λT=> .ret (.lst T) else none
   |_=>none
  else none):=
 (bU P1 (bU P2 (bU (pB hp Py (bU Pr (bU P5 (bU (BY Pm (bU P6 (bU Ps (bU Pe gY))) gY) gY)))) (bU (qL (Az Pt)) gY)))).weak λD' σ H zz=>by
  refine ao λnO=>nE zz λH₀ ab Z kv kd ow ρ out hx hd k=>ae (bind_some hd) λxs oX hd=>nO ?_
  split at hd
  .rename_i hc
   refine ao λnO=>yR hc λhz uU Us Ut=>ae (bind_some hd) λT zK hd=>ae (bind_some hd) λo e3 hd=>nO <| Classical.byContradiction λnO=>?_
   cases o with
   |next il=>
    refine nO ?_
    dsimp only at hd
    split at hd
    .rename_i HA
     refine ae (map_some hd) λT' e4 af=>?_
     subst af
     refine xW (Fj (vc hx.ex oX hz zK λa as H' s t hn=>?_))
     have K1: ∀b∈a::as,H₀ b=none:=λb hb=>by
      cases z:H₀ b with
      |none=>rfl
      |some w'=>have:=hx.same _ _ z; rw [hn b hb] at this; cases this
     obtain⟨sb,qg⟩:=hx.tab s t hn Ut Us
     have L0:LS X.K H₀ ab a as T (σ.set x (some (.ref a))) H' (put ρ x true rh):=⟨_,_,sb,qg,λb hb=>iE hb,t⟩
     refine L0.run e3 λDi H1 L1=>⟨λi σ H=> ∃S ρ,LS X.K H₀ ab a as S σ H ρ/\ij ρ x=true/\fK (ik F x y r f c2 m c3 p q u g w) y i S ρ=some T',⟨n,T,il,L1,HA,e4⟩,?_⟩
     rintro i vA H2 ⟨S,vF,Gq,RC,e5⟩
     refine ao λnO=>?_
     cases i with
     |zero=>cases e5
     |succ i=>
      refine nO ?_
      rw [fK] at e5
      refine ae (bind_some e5) λl e6 e5=>Gq.RA (vb e6) ?_
      cases hl:l.isEmpty with
      |true=>
       rw [hl,if_pos rfl] at e5
       cases e5
       refine mf ?_
       refine⟨.ref a,Gq.at RC,as,?_,?_,λH3 fz=>?_⟩
       .exact ao λnO=>fW Gq λ_ _ _ _ _ t4=>nO <| (List.nodup_cons.mp t4.nd).2
       .exact ao λnO=>fW Gq λ_ _ _ _ _ t4=>nO <| t4.mut
       .obtain⟨q1,q2⟩:=Gq.ret K1 hx.o0 fz
        exact k _ _ q1 q2
      |false=>
       rw [hl,if_neg Bool.false_ne_true] at e5
       refine ao λnO=>?_
       obtain⟨⟨S',ρ'⟩,e7,e5⟩:=bind_some e5
       refine nO ?_
       refine kA ⟨λbR H'=> ∃S ρ,LS X.K H₀ ab a as S bR H' ρ/\ij ρ x=true/\fK (ik F x y r f c2 m c3 p q u g w) y i S ρ=some T',λbR H' h=>⟨i,Nat.lt_succ_self i,h⟩,?_⟩
       exact Gq.turn K1 RC uU e6 Jv Jw e7 λbR H' L3 Nk=>⟨S',ρ',L3,Nk,e5⟩
    .cases hd
   |_=>cases hd
  .cases hd
end
end Py
namespace Py
open PySem PySem.Spec PyProof.Rows L2
section
variable {X:Cx}{c e:Expr}{st:Stmt}{pos px:Pos}{x:Str}{i:Nat}
theorem JA (hi:X.N[i]?=some x) (hv:um X.env.scope x) (A':(x == ("__debug__":Str))=false) (qV:(x == ("__classdict__":Str))=false) (hl:(ap.endLine == cp.line)=true) (he:PE X e (tV X.K false f)) (hn:aS e=true):
  PS X (.Expr (.Call (.Attribute (.Name x px) "append" ap) [e] [] cp) pos) (tC X.K λρ=>(f ρ).bind λd=>match ρ[i]? with
   |some (some (true,.lst xs))=>if xs.length < bJ then some (.next (put ρ i true (.lst (xs++[d])))) else none
   |_=>none):=
 (nL (wc PySem.F.plainAttrs_list PySem.F.slot_list_append PySem.F.type_list_append mN (bC hi hv A' qV) (bV he dj (bO hn)) rfl (by rw [bO hn]; rfl) hl (bO hn) rfl) rfl).weak λD' σ H zz=>by
  refine ao λnO=>nE zz λH₀ ab Z kv kd ow ρ out hx hd k=>ae (bind_some hd) λd e1 hd=>nO ?_
  split at hd
  .rename_i xs Cw
   split at hd
   .rename_i hz
    refine ao λnO=>?_
    cases hd
    refine ae (hx.own i _ Cw) λa o2 o1=>?_
    have o1:ow i=some a:=o1.elim (λz=>z.2) λz=>nomatch z.1
    refine ae (hx.ex.jP i true _ Cw) λw' q1 q2=>bA q2 λa' e6 e8 c0=>ae c0.lst λvs e9 tJ=>?_
    rw [o2] at q1
    cases q1
    cases e6
    refine nO ?_
    refine⟨.ref a,o2,.inl ⟨rfl,vs,dg.of e9⟩,Os ab ow,ρ,d,hx.ex,e1,λv H1 s1 r1=>?_⟩
    have qg:=hx.mono s1
    have K6:=s1 _ _ e9
    refine⟨a,vs,v,rfl,rfl,K6,?_,?_⟩
    .rw [cI,tJ.length]; exact hz
    .exact k ow _ _ (qg.wr o1 o2 K6 ((tJ.mono s1).append (.cons r1.own .nil)))
   .cases hd
  .cases hd
end
structure Cs (X:Cx) (G:GT) (F:FT):Prop where
 ct:Ct X G F
 fn: ∀x,X.fn x=true
 nd:X.N.Nodup
 pass:PassesOwn (model X.prog X.w) X.A X.env X.xe
structure cD (G:GT) (F:FT) (c:C):Prop where
 s: ∀X,Cs X G F-> ∀st,E3 G c X.N X.env.scope st=true->PS X st (tC X.K (ex F c))
 ss: ∀X,Cs X G F-> ∀qI,bY G c X.N X.env.scope qI=true->jX X qI (tC X.K (ex F c))
section
variable {G:GT}{F:FT}
theorem cD.gb (s: ∀X,Cs X G F-> ∀st,E3 G c X.N X.env.scope st=true->PS X st (tC X.K (ex F c))) (n: ∀N sc qI,bY G c N sc qI=false:=by intro _ _ _; rfl):cD G F c:=⟨s,λX hC qI h=>absurd h (by rw [n]; exact Bool.false_ne_true)⟩
theorem Bi:cD G F .skip where
 s:=λX hC st h=>ff h
 ss:=λX hC qI h=>by
  cases qI with
  |nil=>exact E5
  |cons _ _=>exact ff h
theorem Fl (ha:cD G F a) (hb:cD G F b):cD G F (.seq a b) where
 s:=λX hC st h=>ff h
 ss:=λX hC qI h=>by
  cases qI with
  |nil=>exact ff h
  |cons s r=>
   change (E3 G a X.N X.env.scope s && bY G b X.N X.env.scope r)=true at h
   simp only [Bool.and_eq_true] at h
   exact Jl (ha.s X hC s h.1) (hb.ss X hC r h.2)
theorem tM {el:Expr}{gs:List Comprehension}{eL:Scope}{p px pos:Pos}{x:Str}{env:PySem.Env} (hs: ¬swapsWith (.ListComp el gs eL p) (some (.Name x px)) pos.line env=pure false):env.scope.names.lookup x=some .local /\swapsWith (.ListComp el gs eL p) (some (.Name x px)) pos.line env=pure true:=by
 have e0:swapsWith (.ListComp el gs eL p) (some (.Name x px)) pos.line env=pure (env.blockKind == .function && env.kindOf x == some .local && px.line == p.line
   && !(eL.names.any λ(n,k)=>n == x && (k == .local || k == .cell))):=rfl
 cases eb:(env.blockKind == .function && env.kindOf x == some .local && px.line == p.line && !(eL.names.any λ(n,k)=>n == x && (k == .local || k == .cell))) with
 |false=>rw [eb] at e0; exact absurd e0 hs
 |true=>
  rw [eb] at e0
  simp only [Bool.and_eq_true] at eb
  exact⟨eq_of_beq eb.1.1.2,e0⟩
theorem Fm:cD G F (.asg i e):= .gb λX hC st h=>by
 refine qG (xM h) λgD v pos af ha=>?_
 subst af
 refine gu (Jk ha) λx px aO hb=>?_
 subst aO
 replace h:=hb
 simp only [Bool.and_eq_true,decide_eq_true_eq,Bool.not_eq_true'] at h
 obtain⟨⟨⟨h1,h2⟩,h3⟩,h4⟩:=h
 exact Jm hC.nd h1 (eZ h2) (hC.fn _) ((snd e).e X hC.ct v h3 false) (lu h4)
theorem Bj:cD G F (.cC i e):= .gb λX hC st h=>by
 refine qG (xM h) λgD v pos af ha=>?_
 subst af
 refine gu (Jk ha) λx px aO hb=>?_
 subst aO
 replace h:=hb
 simp only [Bool.and_eq_true,decide_eq_true_eq] at h
 obtain⟨⟨⟨⟨h1,h2⟩,h3⟩,h4⟩,h0⟩:=h
 by_cases hs:swapsWith v (some (.Name x px)) pos.line X.env=pure false
 .exact nj (gK hC.nd h1 (eZ h2) ((snd e).f X hC.ct v h3 h4) hs (.inl (hC.fn _))) (λσ H Q z=>z)
 .have hv:eX v=true:=by
   cases z:eX v with
   |true=>rfl
   |false=>exact absurd (lu z) hs
  rw [hv] at h0
  cases e with
  |comp fr tg it ifs dF=>
   refine QL (ng h3) λel n q iter fs eL p eN w6 M1 KW h5 h6 h7=>?_
   subst eN
   subst w6
   have e0:=tM hs
   refine nj (kB ((snd it).i X hC.ct _ iter h5 true) (oE KW).1 hC.ct.calm KY (lg hC.ct (snd it) (snd ifs) (snd dF) KW h5 h6 h7) (de M1) hC.nd h1 e0.1 e0.2) (λσ H Q z=>?_)
   exact m9 σ H Q (tH σ H Q z)
  |_=>exact ff h0
theorem Bk:cD G F (.mj i ix e):= .gb λX hC st h=>by
 cases st with
 |Assign gD v pos=>
  change (match (generalizing:=false) gD with
   |[.Subscript (.Name x _) k _]=>decide (X.N[i]?=some x) && jU X.env.scope x && oY x && bj G ix X.N X.env.scope k && bX k && bj G e X.N X.env.scope v
   |_=>false)=true at h
  split at h
  .simp only [Bool.and_eq_true,decide_eq_true_eq] at h
   refine ao λnO=>?_
   obtain⟨⟨⟨⟨⟨h1,h2⟩,h3⟩,h4⟩,h5⟩,h6⟩:=h
   exact nO <| E6 h1 (jl h2) (ck h3).1 (ck h3).2 ((snd ix).e X hC.ct _ h4 false) h5 ((snd e).e X hC.ct v h6 false)
  .cases h
 |_=>exact ff h
theorem Fn:cD G F (.app i e):= .gb λX hC st h=>by
 cases st with
 |Expr ex pos=>
  change (match (generalizing:=false) ex with
   | .Call (.Attribute (.Name x _) m ap) [v] [] cp=>decide (X.N[i]?=some x) && jU X.env.scope x && oY x && decide (m="append") && (ap.endLine == cp.line) && bj G e X.N X.env.scope v && aS v
   |_=>false)=true at h
  split at h
  .simp only [Bool.and_eq_true,decide_eq_true_eq] at h
   refine ao λnO=>?_
   obtain⟨⟨⟨⟨⟨⟨h1,h2⟩,h3⟩,rfl⟩,h4⟩,h5⟩,h6⟩:=h
   exact nO <| JA h1 (jl h2) (ck h3).1 (ck h3).2 h4 ((snd e).e X hC.ct _ h5 false) h6
  .cases h
 |_=>exact ff h
theorem Fo:cD G F (.ret e):= .gb λX hC st h=>by
 cases st with
 |Return o pos=>
  cases o with
  |none=>exact ff h
  |some v=>
   have h:bj G e X.N X.env.scope v=true:=h
   cases e with
   |var i=>
    cases v with
    |Name x px=>
     change (decide (X.N[i]?=some x) && jU X.env.scope x && oY x)=true at h
     simp only [Bool.and_eq_true,decide_eq_true_eq] at h
     obtain⟨⟨h1,h2⟩,h3⟩:=h
     exact E7 h1 (jl h2) (ck h3).1 (ck h3).2
    |_=>exact ff h
   |_=>exact Jn ((snd _).e X hC.ct v h false)
 |_=>exact ff h
theorem Fp (ht:cD G F t) (hu:cD G F u):cD G F (.ifs c t u):= .gb λX hC st h=>by
 cases st with
 |If x a b pos=>
  change (bj G c X.N X.env.scope x && AL c && bY G t X.N X.env.scope a && bY G u X.N X.env.scope b)=true at h
  simp only [Bool.and_eq_true] at h
  obtain⟨⟨⟨h1,h2⟩,h3⟩,h4⟩:=h
  exact Nd ((snd c).t X hC.ct x h1 h2) (ht.ss X hC a h3) (hu.ss X hC b h4)
 |_=>exact ff h
theorem xX (hb:cD G F b):cD G F (.while c b):= .gb λX hC st h=>by
 cases st with
 |While x a o pos=>
  change (o.isEmpty && bj G c X.N X.env.scope x && AL c && bY G b X.N X.env.scope a)=true at h
  simp only [Bool.and_eq_true] at h
  obtain⟨⟨⟨h0,h1⟩,h2⟩,h3⟩:=h
  cases o with
  |cons _ _=>exact ff h0
  |nil=>exact Ba hC.pass ((snd c).t X hC.ct x h1 h2) (hb.ss X hC a h3) gx
 |_=>exact ff h
theorem RD (hC:Ct X G F) (h:A6 G it X.N X.env.scope oZ iter=true):PI X oZ iter (tI X.K false (kE F false it)):=by
 cases it with
 |zL a=>
  cases oZ with
  |Tuple es k p=>
   cases iter with
   |Call fn args cn cp=>
    unfold A6 at h
    dsimp only at h
    split at h
    .simp only [Bool.and_eq_true,decide_eq_true_eq] at h
     obtain⟨⟨⟨rfl,h1⟩,h2⟩,h3⟩:=h
     exact IX (dO h1) (hC.mg _ (by simp [fP])) ((snd a).e X hC _ h2 false) (bO h3)
    .cases h
   |_=>exact ff h
  |_=>exact ff h
 |_=>exact(snd _).i X hC _ iter h false
theorem Fq:ex F (.for is tg it b)=λρ=>(λρ=>(kE F false it ρ).bind λxs=>aH (λy ρ=>((aM tg y).bind (cX ρ is)).bind (ex F b)) xs ρ) (eQ it ρ):=by
 funext ρ
 have e:(λ(x:D) (ρ:Env)=>(aM tg x).bind λys=>(cX ρ is ys).bind λρ'=>ex F b ρ')=λy ρ=>((aM tg y).bind (cX ρ is)).bind (ex F b):=by
  funext y ρ
  cases aM tg y <;> rfl
 show(kE F false it (eQ it ρ)).bind (λxs=>aH (λx ρ=>(aM tg x).bind λys=>(cX ρ is ys).bind λρ'=>ex F b ρ') xs (eQ it ρ))=_
 rw [e]
theorem Fs (hb:cD G F b):cD G F (.for is tg it b):= .gb λX hC st h=>by
 cases st with
 |For oZ iter a o pos=>
  change (o.isEmpty && dU iter && bY G b X.N X.env.scope a && EW X.N X.env.scope is tg oZ && A6 G it X.N X.env.scope oZ iter)=true at h
  simp only [Bool.and_eq_true] at h
  obtain⟨⟨⟨⟨h0,h1⟩,h2⟩,h3⟩,h4⟩:=h
  cases o with
  |cons _ _=>exact ff h0
  |nil=>
   rw [Fq]
   refine xO (it:=it) (g:=λρ=>(kE F false it ρ).bind λxs=>aH (λy ρ=>((aM tg y).bind (cX ρ is)).bind (ex F b)) xs ρ) ?_
   unfold EW at h3
   cases oZ with
   |Name x p=>
    simp only [Bool.and_eq_true,decide_eq_true_eq] at h3
    obtain⟨⟨rfl,h5⟩,h6⟩:=h3
    obtain⟨i,rfl⟩: ∃i,is=[i]:=by
     cases is with
     |nil=>cases h6
     |cons i t=>cases t with|nil=>exact⟨i,rfl⟩|cons _ _=>cases h6
    unfold eY at h5
    simp only [Bool.and_eq_true,decide_eq_true_eq] at h5
    exact Cy (setT:=λρ d=>some (put ρ i false d)) hC.pass hC.ct.calm (jY hC.nd h5.1.1 (eZ h5.1.2) (.inl (hC.fn _))) Bb (RD hC.ct h4) (hb.ss X hC a h2) (de h1)
   |Tuple es k p=>
    simp only [Bool.and_eq_true,decide_eq_true_eq] at h3
    obtain⟨⟨rfl,h5⟩,h6⟩:=h3
    refine cK (nk hC.nd hC.fn h6) λq1 q2 q3=>?_
    have Ft:0 < is.length:=by
     cases is with
     |nil=>
      unfold eY at h6
      rw [h6] at h5
      cases h5
     |cons _ _=>exact Nat.succ_pos _
    exact Cy hC.pass hC.ct.calm (D1 hC.ct.calm q1 q2 q3) (E9 Ft) (RD hC.ct h4) (hb.ss X hC a h2) (de h1)
   |_=>exact ff h3
 |_=>exact ff h
theorem Bl:cD G F (.nV i t es):= .gb λX hC st h=>by
 cases st with
 |Assign gD v pos=>
  change (match (generalizing:=false) gD,v with
   |[.Name x _],.Dict ks vs _=>decide (X.N[i]?=some x) && lj X.env.scope x && (match ks,vs with
    |[some k],[w]=>decide (t≠0) && cA G es X.N X.env.scope [k,w]
    |_,_=>false)
   |_,_=>false)=true at h
  split at h
  .rename_i x px ks vs dp
   simp only [Bool.and_eq_true,decide_eq_true_eq] at h
   obtain⟨⟨h1,h2⟩,h3⟩:=h
   split at h3
   .rename_i ke we
    simp only [Bool.and_eq_true,decide_eq_true_eq] at h3
    refine jM (xy (F:=F) h3.2) λa b af k1 _ k2 _=>?_
    subst af
    have e0:ex F (.nV i t (.cons a (.cons b .nil)))=λρ=>if t=2 then none else((ev F false a ρ).bind λx=>(ev F false b ρ).bind λy=>(dH t x).map λz=>D.bF t [z] [y]).map λd=> .next (put ρ i true d):=by
     funext ρ
     show(if t=2 then none else((cx F false (.cons a (.cons b .nil)) ρ).bind (wu t)).map λd=>i9.next (put ρ i true d))=_
     rw [cx]
     cases ev F false a ρ with
     |none=>rfl
     |some x=>
      show(if t=2 then none else(((cx F false (.cons b .nil) ρ).bind λxs=>some (x::xs)).bind (wu t)).map λd=>i9.next (put ρ i true d))=_
      rw [cx]
      cases ev F false b ρ with
      |none=>rfl
      |some y=>rfl
    rw [e0]
    exact Bd hC.ct.units hC.nd h1 (eZ h2) (hC.fn _) h3.1 ((snd a).e X hC.ct ke k1 false) ((snd b).e X hC.ct we k2 false)
   .cases h3
  .cases h
 |_=>exact ff h
theorem Bm:cD G F (.pJ i k e):= .gb λX hC st h=>by
 cases st with
 |Assign gD v pos=>
  change (match (generalizing:=false) gD with
   |[.Subscript o ix _]=>cz X.N X.env.scope i o && bj G k X.N X.env.scope ix && bX ix && bj G e X.N X.env.scope v && !eX v
   |_=>false)=true at h
  split at h
  .simp only [Bool.and_eq_true,Bool.not_eq_true'] at h
   obtain⟨⟨⟨⟨h1,h2⟩,h3⟩,h4⟩,h5⟩:=h
   refine jM (bS h1) λx q af n1 n2 n3 n4=>?_
   subst af
   exact Fb hC.ct.units n1 n2 n3 n4 ((snd k).e X hC.ct _ h2 false) ((snd e).e X hC.ct v h4 false) (λt=>lu h5)
  .cases h
 |_=>exact ff h
theorem Fu:cD G F (.Cd i j):= .gb λX hC st h=>by
 refine qG (xM h) λgD v pos af ha=>?_
 subst af
 refine gu (Jk ha) λx px aO hb=>?_
 subst aO
 replace h:=hb
 simp only [Bool.and_eq_true,decide_eq_true_eq] at h
 refine jM (bS h.2) λy q eN n1 n2 n3 n4=>?_
 subst eN
 exact Jo hC.nd h.1.1 (eZ h.1.2) (hC.fn _) (bC n1 n2 n3 n4)
theorem xY (h:xJ N sc y e=true): ∃x px ap cp,e= .Call (.Attribute (.Name x px) "pop" ap) [] [] cp/\N[y]?=some x/\um sc x/\(x == ("__debug__":Str))=false/\(x == ("__classdict__":Str))=false/\(ap.endLine == cp.line)=true:=by
 refine ao λnO=>?_
 cases e with
 |Call fn args cn cp=>
  refine nO ?_
  change (match (generalizing:=false) fn,args,cn with
   | .Attribute e2 nm ap,[],[]=>decide (nm="pop") && cz N sc y e2 && (ap.endLine == cp.line)
   |_,_,_=>false)=true at h
  split at h
  .simp only [Bool.and_eq_true,decide_eq_true_eq] at h
   refine ao λnO=>?_
   obtain⟨⟨rfl,h1⟩,h2⟩:=h
   refine jM (bS h1) λx q af n1 n2 n3 n4=>?_
   subst af
   exact nO <| ⟨x,q,_,cp,rfl,n1,n2,n3,n4,h2⟩
  .cases h
 |_=>cases h
theorem Fv:cD G F (.pop i j):= .gb λX hC st h=>by
 refine qG (xM h) λgD v pos af ha=>?_
 subst af
 refine gu (Jk ha) λx px aO hb=>?_
 subst aO
 replace h:=hb
 simp only [Bool.and_eq_true,decide_eq_true_eq] at h
 refine BU (xY h.2) λy q ap cp eN n1 n2 n3 n4 n5=>?_
 subst eN
 exact Jp hC.nd h.1.1 (eZ h.1.2) (hC.fn _) (bC n1 n2 n3 n4) rfl n5
theorem Fw:cD G F (.ext i e):= .gb λX hC st h=>by
 cases st with
 |Expr ex pos=>
  change (match (generalizing:=false) ex with
   | .Call (.Attribute (.Name x _) m ap) [v] [] cp=>decide (X.N[i]?=some x) && jU X.env.scope x && oY x && decide (m="extend") && (ap.endLine == cp.line) && bj G e X.N X.env.scope v && aS v
   |_=>false)=true at h
  split at h
  .simp only [Bool.and_eq_true,decide_eq_true_eq] at h
   refine ao λnO=>?_
   obtain⟨⟨⟨⟨⟨⟨h1,h2⟩,h3⟩,rfl⟩,h4⟩,h5⟩,h6⟩:=h
   exact nO <| Jq h1 (jl h2) (ck h3).1 (ck h3).2 h4 ((snd e).e X hC.ct _ h5 false) h6
  .cases h
 |_=>exact ff h
theorem CF (hC:Ct X G F) (h:EY G x f X.N X.env.scope e ok=true) (hw: ∀w,ok w=true->PE X w tw): ∃n:Nat,(∀ds d,F f ds=some d->ds.length=n)/\PE X e (Fi X.K n (F f) (cE (cR x) (cE tw kr)))/\eX e=false/\aS e=true:=by
 refine ao λnO=>?_
 cases e with
 |Call fn args cn cp=>
  refine nO ?_
  change (match (generalizing:=false) fn,args,cn with
   | .Name n _,[e1,w],[]=>decide (G.1[f]?=some n) && cT X.env.scope n && oY n && cz X.N X.env.scope x e1 && ok w && aS w
   |_,_,_=>false)=true at h
  split at h
  .rename_i n pn e1 w
   simp only [Bool.and_eq_true,decide_eq_true_eq] at h
   refine ao λnO=>?_
   obtain⟨⟨⟨⟨⟨h1,h2⟩,h3⟩,h4⟩,h5⟩,h6⟩:=h
   refine jM (bS h4) λy q af n1 n2 n3 n4=>?_
   subst af
   exact BU (hC.call f n h1) λk fa fd ps g5 g6 g7 g8 g9 Iq=>nO <| ⟨ps.length,Iq,xb g5 g6 (dO h2) g7 g8 g9 (bV (bC n1 n2 n3 n4) (bV (hw w h5) dj (bO h6)) rfl) (ck h3).1 rfl (by rw [bO h6]; rfl),rfl,rfl⟩
  .cases h
 |_=>cases h
theorem JB {X:Cx} (hC:Cs X G F) {x:Nat}{fr:List Nat}{it k v:E}{st:Stmt} (h:EZ G x fr it k v X.N X.env.scope st=true):PS X st (lY (mP 1 fr (tI X.K true (kE F true it)) (cw 0) (tB X.K λ_=>some true) (p_ (tV X.K false (ev F false k)) (tV X.K false (ev F false v)))) (cw x)):=by
 cases st with
 |Assign gD e pos=>
  unfold EZ at h
  dsimp only at h
  split at h
  .rename_i a pa
   simp only [Bool.and_eq_true,decide_eq_true_eq] at h
   obtain⟨⟨h1,h2⟩,h⟩:=h
   split at h
   .rename_i el gens eL lp
    split at h
    .rename_i W2 zx dp
     split at h
     .rename_i ke ve n q iter kk
      simp only [Bool.and_eq_true,decide_eq_true_eq] at h
      obtain⟨⟨⟨⟨⟨rfl,h3⟩,h4⟩,h5⟩,h6⟩,h7⟩:=h
      refine cK (oE h4) λS hl nd=>?_
      have parts: ∀cl C U s H ex,PG (gv X eL cl C (j7 X.N n fr) U s H ex) (.Name n q) (cw 0)/\uC (gv X eL cl C (j7 X.N n fr) U s H ex) [] (tB X.K λ_=>some true)/\PE (gv X eL cl C (j7 X.N n fr) U s H ex) (.Dict [some ke] [ve] dp) (p_ (tV X.K false (ev F false k)) (tV X.K false (ev F false v))):=λcl C U s H ex=>by
       have Gm:=hC.ct.inner eL cl C (j7 X.N n fr) U s H ex
       have nI:(gv X eL cl C (j7 X.N n fr) U s H ex).env.scope.names.lookup n=some .local :=lookup_relabel_local hl
       refine⟨jY nd rfl (.inl nI) (.inr nI),xu,AA ?_ ((snd k).e _ Gm ke h6 false) ((snd v).e _ Gm ve h7 false)⟩
       have:=Gm.units
       lia
      by_cases hs:swapsWith (.ListComp (.Dict [some ke] [ve] dp) [⟨.Name n q,iter,[],0⟩] eL lp) (some (.Name a pa)) pos.line X.env=pure false
      .exact gK hC.nd h1 (eZ h2) (sv ((snd it).i X hC.ct _ iter h5 true) S hC.ct.calm KY parts (de h3)) hs (.inl (hC.fn _))
      .have e0:=tM hs
       exact kB ((snd it).i X hC.ct _ iter h5 true) S hC.ct.calm KY parts (de h3) hC.nd h1 e0.1 e0.2
     .cases h
    .cases h
   .cases h
  .cases h
 |_=>cases h
theorem Fx (h1:cD G F c1) (h2:cD G F c2) (h3:cD G F c3):cD G F (.fst x fr it k v c1 y r f c2 m c3 p q u g w) where
 s:=λX hC st h=>ff h
 ss:=λX hC qI h=>by
  refine qK (E1 h) λs1 s2 s3 s4 af o1 o2 oW oR=>?_
  subst af
  refine Km (A8 oW) λe2 sr s5 sI wp aO o3 o4 o5 oI=>?_
  subst aO
  refine Km (A7 oI) λem s6 ss se ip eN o6 o7 o8 o9=>?_
  subst eN
  refine gu (A9 oR) λe1 rp w6 Uu=>?_
  subst w6
  refine jM (bS o3) λyn yq MW y1 y2 y3 y4=>?_
  subst MW
  refine jM (bS o6) λmn mq MX m1 m2 m3 m4=>?_
  subst MX
  refine jM (bS Uu) λxn xq MY x1 x2 x3 x4=>?_
  subst MY
  have Pr: ∃n1,(∀ds d,F f ds=some d->ds.length=n1)/\PS X sr (lY (Fi X.K n1 (F f) (cE (cR x) (cE (Bh y) kr))) (cw r)):=by
   refine qG (xM o4) λgD e pos MZ ha=>?_
   subst MZ
   refine gu (Jk ha) λxr pr M0 hb=>?_
   subst M0
   replace o4:=hb
   simp only [Bool.and_eq_true,decide_eq_true_eq] at o4
   obtain⟨n,g1,g2,g3,_⟩:=CF hC.ct o4.2 (tw:=Bh y) λw hw=>by
    refine BU (xY hw) λyy q ap cp Ez n1 n2 n3 n4 n5=>?_
    subst Ez
    exact xR (bC n1 n2 n3 n4) rfl n5
   exact⟨n,g1,gK hC.nd o4.1.1 (eZ o4.1.2) g2 (lu g3) (.inl (hC.fn _))⟩
  refine ae Pr λn1 Jv Pr=>?_
  have Ps:PS X ss (sC (B0 (zD X.K) (cR x) (tV X.K false (ev F false p))) (tV X.K false (ev F false q)) (tV X.K false (ev F false u))):=by
   cases ss with
   |Assign gD e pos=>
    unfold Cv at o8
    dsimp only at o8
    split at o8
    .simp only [Bool.and_eq_true,Bool.not_eq_true'] at o8
     obtain⟨⟨⟨⟨⟨⟨t1,t2⟩,t3⟩,t4⟩,t5⟩,t6⟩,t7⟩:=o8
     refine jM (bS t1) λxx q' EA n1 n2 n3 n4=>?_
     subst EA
     exact sD (by have:=hC.ct.units; lia) (B5 so (bC n1 n2 n3 n4) ((snd p).e X hC.ct _ t2 false) (kX t3)) ((snd q).e X hC.ct _ t4 false) ((snd u).e X hC.ct _ t6 false) (lu t7)
    .cases o8
   |_=>cases o8
  have Pe: ∃n2,(∀ds d,F g ds=some d->ds.length=n2)/\PS X se (r_ (Kx X.K "list" (xc X.K) (cR y) (cE (Fi X.K n2 (F g) (cE (cR x) (cE (tV X.K false (ev F false w)) kr))) kr))):=by
   cases se with
   |Expr e pos=>
    unfold Jg at o9
    dsimp only at o9
    split at o9
    .simp only [Bool.and_eq_true,decide_eq_true_eq] at o9
     obtain⟨⟨⟨⟨t1,rfl⟩,t3⟩,t4⟩,t5⟩:=o9
     refine jM (bS t1) λyy q' EB n1 n2 n3 n4=>?_
     subst EB
     exact zb (CF hC.ct t5 (tw:=tV X.K false (ev F false w)) λwe hw=>(snd w).e X hC.ct we hw false) λn g1 g2 _ _=>⟨n,g1,nL (wc PySem.F.plainAttrs_list PySem.F.slot_list_extend PySem.F.type_list_extend xf (bC n1 n2 n3 n4) (bV g2 dj (bO t4)) rfl (by rw [bO t4]; rfl) t3 (bO t4) rfl) rfl⟩
    .cases o9
   |_=>cases o9
  exact ae Pe λn2 Jw Pe=>Jz hC.pass Jv Jw (JB hC o1) (h1.s X hC s2 o2) (pD (bC y1 y2 y3 y4) λ_=>rfl) Pr (h2.s X hC s5 o5) (pD (bC m1 m2 m3 m4) λ_=>rfl) (h3.s X hC s6 o7) Ps Pe (bC x1 x2 x3 x4) gx
theorem Np (c:C):cD G F c:=by
 induction c with
 |skip=>exact Bi
 |seq a b ha hb=>exact Fl ha hb
 |asg i e=>exact Fm
 |cC i e=>exact Bj
 |mj i ix e=>exact Bk
 |app i e=>exact Fn
 |ret e=>exact Fo
 |ifs c t u ht hu=>exact Fp ht hu
 |«while» c b hb=>exact xX hb
 |«for» is tg it b hb=>exact Fs hb
 |nV i t es=>exact Bl
 |pJ i k e=>exact Bm
 |Cd i j=>exact Fu
 |pop i j=>exact Fv
 |ext i e=>exact Fw
 |fst x fr it k v c1 y r f c2 m c3 p q u g w h1 h2 h3=>exact Fx h1 h2 h3
end
structure b_ (K:PySem.W.Frag) (mg:Str->Option Value) (G:GT) (x:Str) (d:Fd):Prop where
 ex: ∃(st:Stmt) (fa:Addr) (fd:FuncData) (N ps:List Str),DQ K x x st fa fd/\aF N ps (aa st)/\Binds K fd ps []/\mg x=some (.ref fa)/\bY G d.body N (aa st) (ai st)=true/\ps.length=d.par/\N.length=d.jP
theorem xZ {K:PySem.W.Frag}{H:Hp}{O:Addr->Prop}{vs:List V}{ds:List D}{N:List Str}{d:Fd} (hO: ∀a,O a-> ∃u,H a=some u/\qb u) (r:av K O H vs ds) (h1:ds.length=d.par) (h2:N.length=d.jP):SX K H O (λ_=>False) [] [] (λ_=>none) (start N vs) H (aq d ds):=by
 have hl:=r.length
 have sub: ∀a,Os O (λ_=>none) a->O a:=λa z=>z.elim id λ⟨_,z⟩=>nomatch z
 have nm: ∀(i:Nat) (o:Bool) (dd:D),(aq d ds)[i]?=some (some (o,dd))->o=false/\ds[i]?=some dd:=λi o dd hi=>by
  unfold aq at hi
  by_cases bZ:i < ds.length
  .rw [List.getElem?_append_left (by simpa using bZ),List.getElem?_map] at hi
   refine ae (map_some hi) λy e1 e2=>?_
   cases e2
   exact⟨rfl,e1⟩
  .rw [List.getElem?_append_right (by simpa using bZ),List.getElem?_replicate] at hi
   split at hi <;> cases hi
 refine⟨⟨λa ha=>hO a (sub a ha),λi o dd hi=>?_⟩,λi dd hi=>?_,λi j a h _=>(nomatch h),λi a h=>(nomatch h),ag.refl _,.nil,λa ha=>let ⟨us,e,_⟩:=hO a ha; ⟨_,e⟩,?_⟩
 .obtain⟨rfl,e⟩:=nm i o dd hi
  refine ae (r.get e) λv e1 e2=>⟨v,?_,bg.weak e2 sub⟩
  unfold L2.start
  have bZ:i < vs.length:=(List.getElem?_eq_some_iff.mp e1).1
  rw [List.getElem?_append_left (by simpa using bZ),List.getElem?_map,e1]
  rfl
 .exact absurd (nm i true dd hi).1 (by decide)
 .unfold aq L2.start
  simp only [List.length_append,List.length_map,List.length_replicate]
  lia
noncomputable def tN (P:Program) (w:World) (K:PySem.W.Frag) (mg:Str->Option Value) (base:Heap) (G:GT) (T:List Fd) (n:Nat):Prop:=
 ∀(f:Nat) (x:Str),G.1[f]?=some x-> ∃(fa:Addr) (fd:FuncData) (ps:List Str),g_ P w K mg base uA n fa fd ps (s_ K ps.length (run T n f))/\mg x=some (.ref fa)/\PySem.W.keepIn K (.ref fa)=true/\Binds K fd ps []/\ ∀ds d,run T n f ds=some d->ds.length=ps.length
section
variable {P:Program}{w:World}{K:PySem.W.Frag}{mg:Str->Option Value}{base:Heap}{G:GT}{T:List Fd}
theorem ql (hT:T[f]?=some d) (z:run T (n + 1) f ds=some r):ds.length=d.par/\out (ex (run T n) d.body (aq d ds))=some r:=by
 unfold run at z
 rw [hT] at z
 dsimp only at z
 split at z
 .rename_i q; exact⟨q,z⟩
 .cases z
theorem x8 {n f:Nat}{x:Str}{st:Stmt}{fa:Addr}{fd:FuncData}{N ps:List Str}{d:Fd} (hb: ∀x∈fP,mg x=none) (gX: ∀(x:Str) (i:Int),(x,i)∈G.2-> ∃t,mg x=some (.int i t)) (ih:tN P w K mg base G T n) (F:DQ K x x st fa fd) (S:aF N ps (aa st)) (hT:T[f]?=some d)
  (ok:bY G d.body N (aa st) (ai st)=true) (l1:ps.length=d.par) (l2:N.length=d.jP):g_ P w K mg base uA (n + 1) fa fd ps (s_ K ps.length (run T (n + 1) f)):=by
 refine F.ok S (λvs H Q E z=>?_) (λjB A outer s H vs Q E hr z=>?_)
 .exact qJ z λ_ _ _ _ _ _ q _=>q
 .refine qJ z λO ds r hO hR I_ hl k=>?_
  obtain⟨q1,q2⟩:=ql hT I_
  have Uv:Cs (qS uA P w K mg base N x (aa st) fa jB A outer s H E).GR G (run T n):=by
   refine⟨⟨rfl,hr.units,hb,gX,λg y hy=>?_⟩,λ_=>rfl,S.nd,PassesOwn.never⟩
   exact qJ (ih g y hy) λga gd Uw G1 G2 G3 G4 G5=>⟨n,ga,gd,Uw,G1,hr,G2,G3,G4,G5⟩
  cases eo:ex (run T n) d.body (aq d ds) with
  |none=>rw [eo] at q2; cases q2
  |some o=>
   rw [eo] at q2
   refine⟨tC K (ex (run T n) d.body),(Np d.body).ss _ Uv _ ok,H,O,λ_=>False,[],[],λ_=>none,aq d ds,o,xZ hO hR q1 l2,eo,?_⟩
   cases o with
   |ret dd=>cases q2; exact k
   |next ρ'=>cases q2; exact λow σ H' w4=>k .eK H' w4.same .eK
   |brk _=>cases q2
   |cont _=>cases q2
noncomputable def rL (P:Program) (w:World) (K:PySem.W.Frag) (mg:Str->Option Value) (base:Heap) (G:GT) (T:List Fd) (f:Nat) (x:Str):Prop:=
 ∃(fa:Addr) (fd:FuncData) (ps:List Str),mg x=some (.ref fa)/\PySem.W.keepIn K (.ref fa)=true/\Binds K fd ps []/\(∀n ds d,run T n f ds=some d->ds.length=ps.length)/\
  ∀n,(∀m,m<=n->tN P w K mg base G T m)->g_ P w K mg base uA (n + 1) fa fd ps (s_ K ps.length (run T (n + 1) f))
theorem b_.step (hb: ∀x∈fP,mg x=none) (gX: ∀(x:Str) (i:Int),(x,i)∈G.2-> ∃t,mg x=some (.int i t)) (hT:T[f]?=some d) (h:b_ K mg G x d):rL P w K mg base G T f x:=by
 refine ao λnO=>?_
 obtain⟨st,fa,fd,N,ps,F,S,B,m,ok,l1,l2⟩:=h
 refine nO ?_
 refine⟨fa,fd,ps,m,F.kp,B,λn ds r z=>?_,λn ih=>?_⟩
 .cases n with
  |zero=>exact nomatch z
  |succ n=>exact(ql hT z).1.trans l1.symm
 .exact x8 hb gX (ih n (Nat.le_refl _)) F S hT ok l1 l2
theorem Bn (h: ∀(f:Nat) (x:Str),G.1[f]?=some x->rL P w K mg base G T f x) (n:Nat):tN P w K mg base G T n:=by
 have all: ∀n m:Nat,m<=n->tN P w K mg base G T m:=by
  intro n
  induction n with
  |zero=>
   intro m hm f x hx
   obtain rfl:m=0:=by lia
   refine qJ (h f x hx) λfa fd ps mm kp B l _=>?_
   have no: ∀vs H Q E,¬s_ K ps.length (run T 0 f) vs H Q E:=λvs H Q E z=>by
    refine Kk z λ_ _ _ _ _ z _=>?_
    cases z
   exact⟨fa,fd,ps,⟨λvs H Q E z=>absurd z (no vs H Q E),λA outer s H args us vs Q E _ _ _ _ z=>absurd z (no vs H Q E)⟩,mm,kp,B,λds d z=>nomatch z⟩
  |succ n ih=>
   intro m hm
   by_cases he:m=n + 1
   .subst he
    intro f x hx
    exact qJ (h f x hx) λfa fd ps mm kp B l st=>⟨fa,fd,ps,st n ih,mm,kp,B,l (n + 1)⟩
   .exact ih m (by lia)
 exact all n n (Nat.le_refl _)
end
theorem Fy {K:PySem.W.Frag}{T:List Fd}{n f m:Nat} (h: ∀ns:List Int,ns.length<=m->run T n f [.lst (ns.map .int)]=some (.bl true)) (H:Hp) (a:Addr) (ns:List Int) (hl:ns.length<=m) (hS:dg K H a (ns.map V.int)):
  s_ K 1 (run T n f) [.ref a] H (λv _=>v= .bl true) λ_ _ _=>False:=by
 refine⟨λ_=>False,[.lst (ns.map .int)],.bl true,λ_ z=>z.elim,.cons ?_ .nil,h ns hl,rfl,λv H' _ r=>r.xg⟩
 rcases hS with hS|hS
 .exact .lst hS id (et ns)
 .exact .mod hS (et ns)
theorem JC {l:PySem.W.OpenLaw}{q:Program}{loose:List Str}{XP:(Str->Option Value)->Heap->Prop}{YP:World->Heap->Prop}{d:DefRec}{K:Params->PySem.W.Frag}{x:Str}{T:List Fd}{n f:Nat} (hn:l.most=some 63) (Hk:d.params.defaults=[]) (Ux:n<=65)
  (hY: ∀(w:World) (h:Heap),YP w h->(K w.params).In h)
  (F: ∀(w:World) (mg:Str->Option Value) (fa:Addr) (h:Heap),(K w.params).In h->h.Ns mainGlobals mg->mg d.name=some (.ref fa)->
   ∃fd:FuncData,(∀(s:Shared) (u:Value),BindsTo s fd ⟨[u],[]⟩ [(x,u)])/\ ∀base:Heap,(K w.params).In base->base.Ns mainGlobals mg->g_ l.prog w (K w.params) mg base uA n fa fd [x] (s_ (K w.params) 1 (run T n f)))
  (hT: ∀ns:List Int,ns.length<=63->run T n f [.lst (ns.map .int)]=some (.bl true)):
  PySem.W.WalkO q loose XP YP l.row.toRowW d [] (λf vs=>PySem.call f vs):=
 L2.zG (n:=63) (k:=n) (x:=x) (CX:=λ_=>uA) (sp:=λw=>s_ (K w.params) 1 (run T n f)) hn (by decide) Hk (dR.mono (k:=65) ⟨rfl,by decide,by decide⟩ Ux) hY F (λw H a ns hl _ hS=>Fy hT H a ns hl hS) λ_ _ _ _ _ z=>z
theorem vd (h:l.length=1): ∃a,l=[a]:=by
 cases l with
 |nil=>cases h
 |cons a l=>cases l with
  |nil=>exact⟨a,rfl⟩
  |cons _ _=>cases h
theorem gQ (h:l.length=2): ∃a b,l=[a,b]:=by
 cases l with
 |nil=>cases h
 |cons a l=>
  obtain⟨b,rfl⟩:=vd (Nat.succ.inj h)
  exact⟨a,b,rfl⟩
theorem Nq (h:l.length=3): ∃a b c,l=[a,b,c]:=by
 cases l with
 |nil=>cases h
 |cons a l=>
  refine lP (gQ (Nat.succ.inj h)) λb c af=>?_
  subst af
  exact⟨a,b,c,rfl⟩
end Py
namespace Py
noncomputable def lB:Fd:=⟨2,2,(.seq (.ifs (.cmp .Lt (.var 1) (.prim .len (.cons (.var 0) .nil))) (.seq (.ret (.idx (.var 0) (.var 1))) .skip) .skip) (.seq (.ret (.c (.int 0))) .skip))⟩
noncomputable def tP (g:Nat):Fd:=⟨2,3,(.seq (.asg 2 (.bin .Mod (.bin .Mult (.bin .Add (.bin .Add (.call g (.cons (.var 0) (.cons (.var 1) .nil))) (.bin .Mult (.c (.int 7919)) (.var 1))) (.c (.int 1))) (.c (.int 48271))) (.c (.int 2147483647)))) (.seq (.ret (.bin .Mod (.bin .Add (.bin .Add (.bin .Mult (.var 2) (.var 2)) (.bin .Mult (.c (.int 7)) (.var 2))) (.var 1)) (.c (.int 2147483629)))) .skip))⟩
noncomputable def j9:Fd:=⟨2,3,(.seq (.asg 2 (.bin .Mod (.bin .Mult (.bin .Add (.bin .Add (.var 0) (.bin .Mult (.c (.int 104729)) (.var 1))) (.c (.int 17))) (.c (.int 69621))) (.c (.int 2147483647)))) (.seq (.ret (.bin .Mod (.bin .Add (.bin .Add (.bin .Mult (.var 2) (.var 2)) (.bin .Mult (.c (.int 3)) (.var 2))) (.var 1)) (.c (.int 2147483629)))) .skip))⟩
noncomputable def jo (ns:List Int):D:= .lst (ns.map .int)
noncomputable def cell (ns:List Int) (k:Nat):Int:=ns[k]?.getD 0
noncomputable def qm (c k:Int):Int:=(c + 7919 * k + 1) * 48271 % 2147483647
noncomputable def tQ (ns:List Int) (k:Nat):Int:=(qm (cell ns k) k * qm (cell ns k) k + 7 * qm (cell ns k) k + k) % 2147483629
noncomputable def fR (a k:Int):Int:=(a + 104729 * k + 17) * 69621 % 2147483647
noncomputable def drawn (a k:Int):Int:=(fR a k * fR a k + 3 * fR a k + k) % 2147483629
theorem Fz (ns:List Int) (k:Nat):0<=tQ ns k:=Int.emod_nonneg _ (by decide)
theorem x_ (a k:Int):0<=drawn a k:=Int.emod_nonneg _ (by decide)
theorem bE (h:T[f]?=some d) (hl:xs.length=d.par):run T (n + 1) f xs=out (ex (run T n) d.body (aq d xs)):=by
 rw [run,h]
 exact if_pos hl
theorem Bo (ns:List Int) (k:Nat):out (ex F lB.body (aq lB [jo ns,.int k]))=some (.int (cell ns k)):=by
 by_cases h:k < ns.length
 .have h':(k:Int) < (ns.length:Int):=by lia
  simp [lB,ex,ev,cx,aq,out,rd,prim,seq,jo,cmp,eO,h,h',item,cu,cell]
 .have h': ¬(k:Int) < (ns.length:Int):=by lia
  simp [lB,ex,ev,cx,aq,out,rd,prim,seq,jo,cmp,eO,h,h',item,cu,cell]
theorem iO (i:Int) (h1: -(2 ^ 64) < j) (h2:j < 2 ^ 64):cF i j=true:=by
 simp [cF,h1,h2]
 right
 constructor <;> lia
theorem FA (ns:List Int) (k:Nat) (hk:k < 1000) (hF:F g [jo ns,.int k]=some (.int (cell ns k))):out (ex F (tP g).body (aq (tP g) [jo ns,.int k]))=some (.int (tQ ns k)):=by
 have h1:0<=qm (cell ns k) k:=Int.emod_nonneg _ (by decide)
 have h2:qm (cell ns k) k < 2147483647:=Int.emod_lt_of_pos _ (by decide)
 have m1:cF 7919 (k:Int)=true:=by simp [cF]
 have m2: ∀i:Int,cF i 48271=true:=λi=>iO i (by decide) (by decide)
 have m3:cF (qm (cell ns k) k) (qm (cell ns k) k)=true:=iO _ (by lia) (by lia)
 have m4: ∀i:Int,cF 7 i=true:=λi=>by simp [cF]
 have Uy:F g [jo ns,.int k]=some (.int (cell ns k)):=hF
 simp only [tP,ex,ev,cx,aq,rd,List.map,List.cons_append,List.nil_append]
 simp [Uy,kD,j0,bin,m1,m2,m4,put]
 rw [show(cell ns k + 7919 * (k:Int) + 1) * 48271 % 2147483647=qm (cell ns k) k from rfl]
 simp [m3,out,aB,tQ]
theorem ya (a k:Int):out (ex F j9.body (aq j9 [.int a,.int k]))=some (.int (drawn a k)):=by
 have h1:0<=fR a k:=Int.emod_nonneg _ (by decide)
 have h2:fR a k < 2147483647:=Int.emod_lt_of_pos _ (by decide)
 have m1:cF 104729 k=true:=by simp [cF]
 have m2: ∀i:Int,cF i 69621=true:=λi=>iO i (by decide) (by decide)
 have m3:cF (fR a k) (fR a k)=true:=iO _ (by lia) (by lia)
 have m4: ∀i:Int,cF 3 i=true:=λi=>by simp [cF]
 simp only [j9,ex,ev,cx,aq,rd,List.map,List.cons_append,List.nil_append]
 simp [bin,m1,m2,m4,put]
 rw [show(a + 104729 * k + 17) * 69621 % 2147483647=fR a k from rfl]
 simp [m3,out,drawn]
end Py
namespace Py
noncomputable def perms:Nat->List (List Int)
 |0=>[[]]
 |n + 1=>(perms n).flatMap λp=>(List.range (n + 1)).map λk=>p.take k++(n:Int)::p.drop k
theorem nu {n:Nat}{p:List Int} (h:p∈perms n) {k:Nat} (hk:k<=n):p.take k++(n:Int)::p.drop k∈perms (n + 1):=
 List.mem_flatMap.mpr ⟨p,h,List.mem_map.mpr ⟨k,List.mem_range.mpr (Nat.lt_succ_of_le hk),rfl⟩⟩
theorem ax: ∀{n:Nat}{p:List Int},p∈perms n->p.length=n
 |0,p,h=>by
  simp [perms] at h
  subst h
  rfl
 |n + 1,p,h=>by
  refine ae (List.mem_flatMap.mp h) λq hq h=>ae (List.mem_map.mp h) λk hk af=>?_
  subst af
  have:=ax hq
  have Gj:=List.mem_range.mp hk
  simp
  lia
noncomputable def tp (p:List Int):D:= .tup (p.map .int)
theorem lC: ∀{xs:List D}{p:List Int},aX xs=some p->xs=p.map .int
 |[],p,h=>by cases h; rfl
 | .int i::r,p,h=>by
  unfold aX at h
  cases e:aX r with
  |none=>rw [e] at h; cases h
  |some q=>
   rw [e] at h
   cases h
   rw [lC e]
   rfl
 | .eK ::r,p,h=>by cases h
 | .bl _::r,p,h=>by cases h
 | .tup _::r,p,h=>by cases h
 | .lst _::r,p,h=>by cases h
noncomputable def Bp (n:Nat):Option D->Bool
 |some (.tup xs)=>match aX xs with
  |some p=>(perms n).contains p
  |none=>false
 |_=>false
theorem tR {n:Nat}{o:Option D} (h:Bp n o=true): ∃p∈perms n,o=some (tp p):=by
 unfold Bp at h
 split at h
 .split at h
  .rename_i xs _ p e
   exact⟨p,by simpa using h,by rw [lC e]; rfl⟩
  .cases h
 .cases h
noncomputable def tS:C:=(.seq (.mj 2 (.var 3) (.var 4)) (.seq (.mj 2 (.var 4) (.var 3)) (.seq (.ret (.prim .tuple (.cons (.var 2) .nil))) .skip)))
noncomputable def Bq:C:=(.seq (.for [7] 0 (.dQ (.cons (.var 5) .nil)) (.seq (.mj 2 (.bin .Mod (.bin .Add (.var 6) (.var 7)) (.var 1)) (.bin .Mod (.bin .Add (.var 6) (.bin .Mod (.bin .Add (.var 7) (.c (.int 1))) (.var 5))) (.var 1))) .skip)) (.seq (.ret (.prim .tuple (.cons (.var 2) .nil))) .skip))
noncomputable def vf (g:Nat):C:=(.seq (.asg 9 (.bin .Mod (.call g (.cons (.var 0) (.cons (.var 7) .nil))) (.bin .Add (.prim .len (.cons (.var 8) .nil)) (.c (.int 1))))) (.seq (.cC 8 (.bin .Add (.bin .Add (.sl (.var 8) .nil (.cons (.var 9) .nil)) (.lst (.cons (.var 7) .nil))) (.sl (.var 8) (.cons (.var 9) .nil) .nil))) .skip))
noncomputable def jq (g:Nat):Fd:=⟨2,10,(.seq (.cC 2 (.iZ .list (.cons (.var 1) .nil))) (.seq (.ifs (.cmp .Eq (.bin .Mod (.var 0) (.c (.int 3))) (.c (.int 0))) (.seq (.asg 3 (.bin .Mod (.bin .FloorDiv (.var 0) (.c (.int 3))) (.var 1))) (.seq (.asg 4 (.bin .Mod (.bin .FloorDiv (.var 0) (.c (.int 18))) (.var 1))) tS)) .skip)
 (.seq (.ifs (.cmp .Eq (.bin .Mod (.var 0) (.c (.int 3))) (.c (.int 1))) (.seq (.asg 5 (.bin .Add (.c (.int 1)) (.bin .Mod (.bin .FloorDiv (.var 0) (.c (.int 3))) (.var 1)))) (.seq (.asg 6 (.bin .Mod (.bin .FloorDiv (.var 0) (.c (.int 18))) (.var 1))) Bq)) .skip)
 (.seq (.cC 8 (.lst .nil)) (.seq (.for [7] 0 (.dQ (.cons (.var 1) .nil)) (vf g)) (.seq (.ret (.prim .tuple (.cons (.var 8) .nil))) .skip))))))⟩
noncomputable abbrev vi (i:Int):Option (Bool×D):=some (false,.int i)
noncomputable abbrev vo (xs:List D):Option (Bool×D):=some (true,.lst xs)
noncomputable def tT (a:Int) (s o1 o2:Nat):Env:=[vi a,vi s,vo (br 0 s),vi o1,vi o2,none,none,none,none,none]
noncomputable def yb (a:Int) (s m o:Nat):Env:=[vi a,vi s,vo (br 0 s),none,none,vi m,vi o,none,none,none]
set_option maxHeartbeats 0 in
theorem yc (F:FT) (a:Int):(List.range 6).all (λs=>(List.range (s + 1)).all λo1=>(List.range (s + 1)).all λo2=>Bp (s + 1) (out (ex F tS (tT a (s + 1) o1 o2))))=true:=by kernel_rfl
set_option maxHeartbeats 0 in
theorem Br (F:FT) (a:Int):(List.range 6).all (λs=>(List.range (s + 1)).all λm=>(List.range (s + 1)).all λo=>Bp (s + 1) (out (ex F Bq (yb a (s + 1) (m + 1) o))))=true:=by kernel_rfl
theorem all_range {n:Nat}{f:Nat->Bool} (h:(List.range n).all f=true) {k:Nat} (hk:k < n):f k=true:=List.all_eq_true.mp h k (List.mem_range.mpr hk)
theorem Bs (F:FT) (a:Int) {s o1 o2:Nat} (h0:1<=s) (h6:s<=6) (h1:o1 < s) (h2:o2 < s): ∃p∈perms s,out (ex F tS (tT a s o1 o2))=some (tp p):=by
 obtain⟨t,rfl⟩: ∃t,s=t + 1:=⟨s - 1,by lia⟩
 exact tR (all_range (all_range (all_range (yc F a) (k:=t) (by lia)) h1) h2)
theorem FC (F:FT) (a:Int) {s m o:Nat} (h0:1<=s) (h6:s<=6) (h1:m < s) (h2:o < s): ∃p∈perms s,out (ex F Bq (yb a s (m + 1) o))=some (tp p):=by
 obtain⟨t,rfl⟩: ∃t,s=t + 1:=⟨s - 1,by lia⟩
 exact tR (all_range (all_range (all_range (Br F a) (k:=t) (by lia)) h1) h2)
theorem ye {o:Option i9}{p:List Int} (h:out o=some (tp p)):o=some (.ret (tp p)):=by
 cases o with
 |none=>cases h
 |some o=>cases o <;> cases h; rfl
end Py
namespace Py
noncomputable def fS (a s:Int) (x2:Option (Bool×D)) (made:List Int) (x7 x9:Option (Bool×D)):Env:=[vi a,vi s,x2,none,none,none,none,x7,vo (made.map .int),x9]
theorem qp (xs:List D) (k:Nat) (h:k<=xs.length):vD xs none (some (k:Int))=xs.take k:=by
 unfold vD bound
 simp only [List.drop_zero,Nat.sub_zero]
 congr 1
 rw [if_neg (by lia)]
 lia
theorem qq (xs:List D) (k:Nat) (h:k<=xs.length):vD xs (some (k:Int)) none=xs.drop k:=by
 unfold vD bound
 simp only
 have e:(if(k:Int) < 0 then max ((k:Int) + (xs.length:Int)) 0 else min (k:Int) (xs.length:Int)).toNat =k:=by
  rw [if_neg (by lia)]
  lia
 rw [e,List.take_of_length_le (by simp)]
theorem yf (hF:F g [.int a,.int k]=some (.int y)) (hm:made∈perms k) (hk:k<=1000):
  ∃at'≤k,ex F (vf g) (put (fS a s x2 made x7 x9) 7 false (.int k))=some (.next (fS a s x2 (made.take at'++(k:Int)::made.drop at') (vi k) (vi at'))):=by
 have hl:=ax hm
 have W4:0<=y % ((k:Int) + 1):=Int.emod_nonneg _ (by lia)
 have W5:y % ((k:Int) + 1) < (k:Int) + 1:=Int.emod_lt_of_pos _ (by lia)
 obtain⟨t,ht⟩: ∃t:Nat,y % ((k:Int) + 1)=t:=⟨(y % ((k:Int) + 1)).toNat,by lia⟩
 have Uz:t<=k:=by lia
 refine⟨t,Uz,?_⟩
 have c1:=qp (made.map .int) t (by rw [List.length_map]; lia)
 have c2:=qq (made.map .int) t (by rw [List.length_map]; lia)
 have Ft:(0:Int) < (k:Int) + 1:=by lia
 have W6:(List.take t (made.map D.int)).length + 1<=bJ:=by
  rw [List.length_take,List.length_map,hl]; unfold bJ; lia
 simp only [vf,ex,ev,cx,Gb,fS,put,rd,List.set_cons_succ,List.set_cons_zero,List.getElem?_cons_succ,List.getElem?_cons_zero]
 simp [hF,kD,j0,aB,bin,prim,seq,hl,Ft,ht,put,rd,zM,cutD,c1,c2]
 have UA:min t k + 1<=bJ:=by unfold bJ; lia
 have UB:min t k + 1 + (k - t)<=bJ:=by unfold bJ; lia
 have UC:1<=bJ:=by unfold bJ; lia
 simp [hl,UA,UB,UC]
theorem qr (hF: ∀k:Nat,∃y,F g [.int a,.int k]=some (.int y)):
  ∀(m k:Nat) (made:List Int) (x7 x9:Option (Bool×D)),made∈perms k->k + m<=1000-> ∃p∈perms (k + m),∃Nr Nt,aH (λx ρ=>(aM 0 x).bind λys=>(cX ρ [7] ys).bind λρ'=>ex F (vf g) ρ') (br k m) (fS a s x2 made x7 x9)=some (.next (fS a s x2 p Nr Nt))
 |0,k,made,x7,x9,hm,_=>⟨made,hm,x7,x9,rfl⟩
 |m + 1,k,made,x7,x9,hm,hk=>by
  refine ao λnO=>?_
  obtain⟨y,hy⟩:=hF k
  refine ae (yf (s:=s) (x2:=x2) (x7:=x7) (x9:=x9) hy hm (by lia)) λt ht e=>?_
  obtain⟨p,hp,Nr,Nt,e2⟩:=qr (s:=s) (x2:=x2) hF m (k + 1) _ (vi k) (vi t) (nu hm ht) (by lia)
  refine nO ?_
  refine⟨p,by rw [show k + (m + 1)=k + 1 + m by lia]; exact hp,Nr,Nt,?_⟩
  rw [br,aH]
  show(ex F (vf g) (put (fS a s x2 made x7 x9) 7 false (.int k))).bind _=_
  rw [e]
  exact e2
theorem Bt (ha:0<=a) (h1:1<=s) (h6:s<=6) (hF: ∀k:Nat,∃y,F g [.int a,.int k]=some (.int y)): ∃p∈perms s,out (ex F (jq g).body (aq (jq g) [.int a,.int s]))=some (tp p):=by
 have hr:dn [.int s]=some (br 0 s):=by
  show(if -(2 ^ 62)<=(s:Int)/\(s:Int)<=bJ then some (br 0 (s:Int).toNat) else none)=_
  rw [if_pos ⟨by lia,by unfold bJ; lia⟩]
  rfl
 have K7:(0:Int) < s:=by lia
 have JD:0 < s:=by lia
 have q1:0<=a / 3 % (s:Int):=Int.emod_nonneg _ (by lia)
 have q2:a / 3 % (s:Int) < s:=Int.emod_lt_of_pos _ K7
 have q3:0<=a / 18 % (s:Int):=Int.emod_nonneg _ (by lia)
 have q4:a / 18 % (s:Int) < s:=Int.emod_lt_of_pos _ K7
 obtain⟨o1,e1⟩: ∃t:Nat,a / 3 % (s:Int)=t:=⟨(a / 3 % (s:Int)).toNat,by lia⟩
 obtain⟨o2,e2⟩: ∃t:Nat,a / 18 % (s:Int)=t:=⟨(a / 18 % (s:Int)).toNat,by lia⟩
 by_cases c0:a % 3=0
 .refine ae (Bs F a h1 h6 (o1:=o1) (o2:=o2) (by lia) (by lia)) λp hp e=>⟨p,hp,?_⟩
  have e':ex F tS [vi a,vi s,vo (br 0 s),vi o1,vi o2,none,none,none,none,none]=some (.ret (tp p)):=ye e
  simp [jq,ex,ev,cx,aq,rd,hr,mi,bin,cmp,dG,jD,eO,c0,put,K7,JD,e1,e2,e',out]
 .by_cases c1:a % 3=1
  .refine ae (FC F a h1 h6 (m:=o1) (o:=o2) (by lia) (by lia)) λp hp e=>⟨p,hp,?_⟩
   have e3:((o1 + 1:Nat):Int)=1 + (o1:Int):=by lia
   have e':ex F Bq [vi a,vi s,vo (br 0 s),none,none,vi (1 + (o1:Int)),vi o2,none,none,none]=some (.ret (tp p)):=by rw [<-e3]; exact ye e
   simp [jq,ex,ev,cx,aq,rd,hr,mi,bin,cmp,dG,jD,eO,c0,c1,put,K7,JD,e1,e2,e',out]
  .obtain⟨p,hp,x7,x9,e⟩:=qr (a:=a) (s:=s) (x2:=vo (br 0 s)) hF s 0 [] none none (by simp [perms]) (by lia)
   rw [Nat.zero_add] at hp
   refine⟨p,hp,?_⟩
   have e':aH (λx ρ=>(aM 0 x).bind λys=>(cX ρ [7] ys).bind λρ'=>ex F (vf g) ρ') (br 0 s) [vi a,vi s,vo (br 0 s),none,none,none,none,none,vo [],none]=some (.next (fS a s (vo (br 0 s)) p x7 x9)):=e
   simp [jq,ex,ev,cx,kE,aq,rd,hr,mi,bin,cmp,dG,jD,eO,c0,c1,put,bJ,eQ,e',fS,prim,seq,out,tp]
end Py
namespace Py
theorem oM: ∀(n:Nat) (p:List Int),p.Nodup->(∀x∈p,0<=x/\x < n)->p.length<=n
 |0,p,_,h=>by
  cases p with
  |nil=>exact Nat.le_refl _
  |cons x r=>have:=h x List.mem_cons_self; lia
 |n + 1,p,nd,h=>by
  have h1:(p.erase (n:Int)).length <=n:=oM n _ (nd.sublist List.erase_sublist) λx hx=>by
   have h2:=h x (List.mem_of_mem_erase hx)
   have h3:x≠n:=λe=>by
    subst e
    exact(List.Nodup.mem_erase_iff nd).mp hx |>.1 rfl
   lia
  by_cases hm:(n:Int)∈p
  .rw [List.length_erase_of_mem hm] at h1; lia
  .rw [List.erase_of_not_mem hm] at h1; lia
theorem ay: ∀{n:Nat}{p:List Int},p∈perms n↔p.length=n/\p.Nodup/\ ∀x∈p,0<=x/\x < n
 |0,p=>by
  simp only [perms,List.mem_singleton]
  constructor
  .rintro rfl; exact⟨rfl,List.nodup_nil,λx h=>nomatch h⟩
  .rintro⟨h,_⟩; exact List.length_eq_zero_iff.mp h
 |n + 1,p=>by
  constructor
  .intro h
   refine ae (List.mem_flatMap.mp h) λq hq h=>ae (List.mem_map.mp h) λk hk af=>?_
   subst af
   refine cK (ay.mp hq) λl nd bd=>?_
   have Gj:=List.mem_range.mp hk
   have K8:(q.take k++q.drop k).Nodup :=by rw [List.take_append_drop]; exact nd
   have hn:(n:Int)∉q:=λz=>by have:=bd _ z; lia
   have nt:(n:Int)∉q.take k:=λz=>hn (List.mem_of_mem_take z)
   have UD:(n:Int)∉q.drop k:=λz=>hn (List.mem_of_mem_drop z)
   refine⟨by simp; lia,?_,λx hx=>?_⟩
   .rw [List.nodup_append] at K8 ⊢
    refine⟨K8.1,List.nodup_cons.mpr ⟨UD,K8.2.1⟩,λa ha b hb=>?_⟩
    rcases List.mem_cons.mp hb with rfl|hb
    .exact λe=>nt (e▸ha)
    .exact K8.2.2 a ha b hb
   .rcases List.mem_append.mp hx with z|z
    .have:=bd x (List.mem_of_mem_take z); lia
    .rcases List.mem_cons.mp z with rfl|z
     .lia
     .have:=bd x (List.mem_of_mem_drop z); lia
  .rintro⟨l,nd,bd⟩
   have hm:(n:Int)∈p:=by
    by_cases hm:(n:Int)∈p
    .exact hm
    .have:=oM n p nd λx hx=>by
      have h2:=bd x hx
      have h3:x≠n:=λe=>hm (e▸hx)
      lia
     lia
   refine lP (List.append_of_mem hm) λu v aO=>?_
   subst aO
   rw [List.nodup_append,List.nodup_cons] at nd
   have hq:u++v∈perms n:=by
    refine ay.mpr ⟨by simp at l ⊢; lia,?_,λx hx=>?_⟩
    .rw [List.nodup_append]
     exact⟨nd.1,nd.2.1.2,λa ha b hb=>nd.2.2 a ha b (List.mem_cons_of_mem _ hb)⟩
    .have w4:x∈u++(n:Int)::v:=by
      rcases List.mem_append.mp hx with z|z
      .exact List.mem_append_left _ z
      .exact List.mem_append_right _ (List.mem_cons_of_mem _ z)
     have h2:=bd x w4
     have h3:x≠n:=λe=>by
      subst e
      rcases List.mem_append.mp hx with z|z
      .exact nd.2.2 _ z _ List.mem_cons_self rfl
      .exact nd.2.1.1 z
     lia
   have:=nu hq (k:=u.length) (by simp at l; lia)
   rw [List.take_left,List.drop_left] at this
   exact this
noncomputable def comp (p q:List Int):List Int:=p.map λi=>q.getD i.toNat 0
theorem getD_mem {q:List Int}{k:Nat} (h:k < q.length):q.getD k 0∈q:=by
 rw [List.getD_eq_getElem?_getD,List.getElem?_eq_getElem h]
 exact List.getElem_mem h
theorem gg {n:Nat}{p q:List Int} (hp:p∈perms n) (hq:q∈perms n):comp p q∈perms n:=by
 refine cK (ay.mp hp) λlp np bp=>cK (ay.mp hq) λlq nq bq=>ay.mpr ⟨by simp [comp,lp],?_,λx hx=>?_⟩
 .unfold comp
  rw [List.nodup_iff_pairwise_ne] at np ⊢
  rw [List.pairwise_map]
  refine np.imp_of_mem λ{a b} ha hb rB e=>rB ?_
  have h1:=bp a ha
  have h2:=bp b hb
  have l1:a.toNat < q.length:=by lia
  have l2:b.toNat < q.length:=by lia
  rw [List.getD_eq_getElem?_getD,List.getD_eq_getElem?_getD,List.getElem?_eq_getElem l1,List.getElem?_eq_getElem l2] at e
  have e':q[a.toNat]=q[b.toNat]:=e
  have:=(List.getElem?_inj (j:=b.toNat) l1 nq).mp (by rw [List.getElem?_eq_getElem l1,List.getElem?_eq_getElem l2,e'])
  lia
 .refine ae (List.mem_map.mp hx) λi hi af=>?_
  subst af
  have h1:=bp i hi
  exact bq _ (getD_mem (by lia))
theorem gR (hp:p∈perms n) (hq:q∈perms n):comp (comp p q) r=comp p (comp q r):=by
 refine cK (ay.mp hp) λlp np bp=>cK (ay.mp hq) λlq nq bq=>?_
 unfold comp
 rw [List.map_map]
 refine List.map_congr_left λi hi=>?_
 have h1:=bp i hi
 have l1:i.toNat < q.length:=by lia
 show r.getD (q.getD i.toNat 0).toNat 0=_
 rw [List.getD_eq_getElem?_getD (l:=List.map _ q),List.getElem?_map,List.getD_eq_getElem?_getD (l:=q),List.getElem?_eq_getElem l1]
 rfl
noncomputable def inv:List Int->Nat
 |[]=>0
 |x::r=>(r.filter λy=>decide (y < x)).length + inv r
noncomputable def bG (n:Nat):List Int:=(List.range n).map λ(k:Nat)=>Int.ofNat k
theorem iP (hp:p∈perms n):comp p (bG n)=p:=by
 refine cK (ay.mp hp) λlp np bp=>?_
 unfold comp
 rw [List.map_congr_left (g:=id),List.map_id]
 intro i hi
 have h1:=bp i hi
 have l1:i.toNat < n:=by lia
 simp [bG,List.getElem?_map,List.getElem?_range l1]
 lia
end Py
namespace Py
theorem cQ (h:α->D) (g:α->D) (f:D->Option (Option D)): ∀xs:List α,(∀x∈xs,f (h x)=some (some (g x)))->walk f (xs.map h)=some (xs.map g)
 |[],_=>rfl
 |x::r,e=>by
  rw [List.map_cons,walk,e x List.mem_cons_self]
  show(walk f (r.map h)).map _=_
  rw [cQ h g f r λy hy=>e y (List.mem_cons_of_mem _ hy)]
  rfl
noncomputable def j_:Fd:=⟨2,2,(.seq (.ret (.prim .tuple (.cons (.comp [1] 0 (.it (.var 0)) .nil (.idx (.var 1) (.var 0))) .nil))) .skip)⟩
theorem tU (h0:0<=i) (h1:i < q.length):item (tp q) (.int i)=some (.int (q.getD i.toNat 0)):=by
 show(cu (q.map D.int).length i).bind _=_
 unfold cu
 rw [if_pos h0,if_pos (by rw [List.length_map]; exact h1)]
 show(q.map D.int)[i.toNat]?=_
 rw [List.getElem?_map,List.getD_eq_getElem?_getD,List.getElem?_eq_getElem (by lia)]
 rfl
theorem qt (hn:n<=1000) (hp:p∈perms n) (hq:q∈perms n):out (ex F j_.body (aq j_ [tp p,tp q]))=some (tp (comp p q)):=by
 refine cK (ay.mp hp) λlp np bp=>cK (ay.mp hq) λlq nq bq=>?_
 have w:=cQ (α:=Int) D.int (λi=> .int (q.getD i.toNat 0)) (λx=>(aM 0 x).bind λys=>(gM F true .nil (inner ys [some (false,tp p),some (false,tp q)] [1])).bind λk=>if k then(ev F false (.idx (.var 1) (.var 0)) (inner ys [some (false,tp p),some (false,tp q)] [1])).map some else some none) p (λx hx=>by
  have h1:=bp x hx
  show(item (tp q) (.int x)).map some=_
  rw [tU h1.1 (by lia)]
  rfl)
 have hl:(p.map D.int).length <=bJ:=by rw [List.length_map,lp]; unfold bJ; lia
 have e:ev F true (.comp [1] 0 (.it (.var 0)) .nil (.idx (.var 1) (.var 0))) [some (false,tp p),some (false,tp q)]=some (.lst ((comp p q).map .int)):=by
  show(if(p.map D.int).length <=bJ then _ else _)=_
  rw [if_pos hl]
  show(walk _ (p.map D.int)).map D.lst=_
  rw [w]
  simp [comp] <;> rfl
 show out ((((ev F true (.comp [1] 0 (.it (.var 0)) .nil (.idx (.var 1) (.var 0))) [some (false,tp p),some (false,tp q)]).bind _).bind _ |>.map _).bind _)=_
 rw [e]
 rfl
end Py
namespace Py
theorem qu: ∀a b:List Int,wt (a.map .int) (b.map .int)=decide (a=b)
 |[],[]=>rfl
 |[],_::_=>rfl
 |_::_,[]=>rfl
 |x::a,y::b=>by
  show(jD (.int x) (.int y) && wt (a.map .int) (b.map .int))=_
  rw [qu a b]
  show((x == y) && decide (a=b))=_
  by_cases h1:x=y
  .subst h1; simp
  .simp [h1]
theorem FD (a b:List Int):jD (tp a) (tp b)=decide (a=b):=qu a b
theorem rM (a:List Int) (n:Nat):dG (tp a) (n + 1)=true:=mR n a
theorem qv (a:List Int):dG (tp a) 60=true:=rM a 59
theorem JE (a b:List Int):cmp .Eq (tp a) (tp b)=some (decide (a=b)):=by
 show(if dG (tp a) 60 && dG (tp b) 60 then some (jD (tp a) (tp b)) else none)=_
 rw [qv,qv,FD]
 rfl
theorem qw: ∀(n k:Nat),br (k:Int) n=(List.range' k n).map λ(j:Nat)=>D.int (j:Int)
 |0,k=>rfl
 |n + 1,k=>by
  rw [br,List.range'_succ,List.map_cons]
  have e:(k:Int) + 1=((k + 1:Nat):Int):=by push_cast; rfl
  rw [e,qw n (k + 1)]
theorem dC (n:Nat):br 0 n=(bG n).map .int :=by
 have:=qw n 0
 rw [show((0:Nat):Int)=0 from rfl] at this
 rw [this,bG,List.map_map,List.range_eq_range']
 rfl
theorem cf {n:Nat} (h:n<=1000):dn [.int n]=some (br 0 n):=by
 show(if -(2 ^ 62)<=(n:Int)/\(n:Int)<=bJ then some (br 0 (n:Int).toNat) else none)=_
 rw [if_pos ⟨by lia,by unfold bJ; lia⟩]
 rfl
noncomputable def j':Fd:=⟨1,1,(.seq (.ret (.iZ .tuple (.cons (.var 0) .nil))) .skip)⟩
theorem yg {F:FT}{n:Nat} (h:n<=1000):out (ex F j'.body (aq j' [.int n]))=some (tp (bG n)):=by
 simp [j',ex,ev,cx,aq,rd,cf h,mi,out,dC,tp]
theorem dD (n:Nat):bG n∈perms n:=by
 refine ay.mpr ⟨by simp [bG],?_,λx hx=>?_⟩
 .unfold bG
  rw [List.nodup_iff_pairwise_ne,List.pairwise_map]
  exact(List.nodup_iff_pairwise_ne.mp List.nodup_range).imp λ{a b} h e=>h (Int.ofNat.inj e)
 .refine ae (List.mem_map.mp hx) λk hk af=>?_
  subst af
  have:=List.mem_range.mp hk
  exact⟨Int.natCast_nonneg k,by show(k:Int) < n; lia⟩
theorem lD (hp:p∈perms n):comp (bG n) p=p:=by
 refine cK (ay.mp hp) λlp np bp=>?_
 apply List.ext_getElem?
 intro i
 unfold comp bG
 rw [List.map_map,List.getElem?_map]
 by_cases hi:i < n
 .rw [List.getElem?_range hi]
  show some (p.getD i 0)=_
  rw [List.getD_eq_getElem?_getD,List.getElem?_eq_getElem (by lia)]
  rfl
 .rw [List.getElem?_eq_none (by simp; lia),List.getElem?_eq_none (by lia)]
  rfl
theorem vg {n:Nat}{p:List Int} (hp:p∈perms n) {k:Int} (h0:0<=k) (h1:k < n):k∈p:=by
 refine cK (ay.mp hp) λlp np bp=>?_
 by_cases hm:k∈p
 .exact hm
 .have:=oM n (k::p) (List.nodup_cons.mpr ⟨hm,np⟩) λx hx=>by
   rcases List.mem_cons.mp hx with rfl|hx
   .exact⟨h0,h1⟩
   .exact bp x hx
  rw [List.length_cons] at this
  lia
theorem qx: ∀{p:List Int},k∈p-> ∃j,dI k p=some j
 |[],h=>nomatch h
 |n::r,h=>by
  unfold dI
  by_cases e:n=k
  .exact⟨0,if_pos e⟩
  .rw [if_neg e]
   obtain⟨j,hj⟩:=qx (List.mem_of_ne_of_mem (Ne.symm e) h)
   exact⟨j + 1,by rw [hj]; rfl⟩
theorem qy: ∀{p:List Int}{j:Nat},dI k p=some j->p[j]?=some k
 |[],_,h=>by cases h
 |n::r,j,h=>by
  unfold dI at h
  split at h
  .rename_i e; cases h; subst e; rfl
  .cases e:dI k r with
   |none=>rw [e] at h; cases h
   |some i=>rw [e] at h; cases h; simpa using qy e
theorem oN: ∀{p:List Int}{j:Nat}{k:Int},p.Nodup->p[j]?=some k->dI k p=some j
 |[],_,_,_,h=>by simp at h
 |n::r,0,k,_,h=>by
  simp at h
  unfold dI
  rw [if_pos h]
 |n::r,j + 1,k,nd,h=>by
  have h':r[j]?=some k:=by simpa using h
  have hn:n≠k:=λe=>(List.nodup_cons.mp nd).1 (e▸List.mem_of_getElem? h')
  unfold dI
  rw [if_neg hn,oN (List.nodup_cons.mp nd).2 h']
  rfl
noncomputable def ip (p:List Int):List Int:=(List.range p.length).map λ(k:Nat)=>(((dI (k:Int) p).getD 0:Nat):Int)
theorem jr {n:Nat}{p:List Int} (hp:p∈perms n) {k:Nat} (hk:k < n): ∃j:Nat,dI (k:Int) p=some j/\(ip p)[k]?=some (j:Int)/\j < n/\p[j]?=some (k:Int):=by
 refine cK (ay.mp hp) λlp np bp=>?_
 obtain⟨j,hj⟩:=qx (vg hp (k:=(k:Int)) (by lia) (by lia))
 have hg:=qy hj
 refine⟨j,hj,?_,by have:=(List.getElem?_eq_some_iff.mp hg).1; lia,hg⟩
 unfold ip
 rw [List.getElem?_map,List.getElem?_range (by lia)]
 simp [hj]
theorem oO:(ip p).length =p.length:=by simp [ip]
theorem Bu (hp:p∈perms n):comp p (ip p)=bG n:=by
 refine cK (ay.mp hp) λlp np bp=>?_
 apply List.ext_getElem?
 intro i
 unfold comp bG
 rw [List.getElem?_map,List.getElem?_map]
 by_cases hi:i < n
 .have hb:=bp p[i] (List.getElem_mem (by lia))
  rw [List.getElem?_range hi,List.getElem?_eq_getElem (by lia)]
  obtain⟨k,hk⟩: ∃k:Nat,p[i]=(k:Int):=⟨p[i].toNat,by lia⟩
  have D_:k < n:=by lia
  refine zb (jr hp D_) λj h1 h2 h3 h4=>?_
  have D2:dI (k:Int) p=some i:=oN np (by rw [List.getElem?_eq_getElem (by lia),hk])
  rw [h1] at D2
  have e:=Option.some.inj D2
  subst e
  show some ((ip p).getD (p[j].toNat) 0)=some (Int.ofNat j)
  rw [hk,Int.toNat_natCast,List.getD_eq_getElem?_getD,h2]
  rfl
 .have l1:(List.range n)[i]?=none:=List.getElem?_eq_none (by simp; lia)
  have l2:p[i]?=none:=List.getElem?_eq_none (by lia)
  rw [l1,l2]
  rfl
theorem tW (hp:p∈perms n):comp (ip p) p=bG n:=by
 refine cK (ay.mp hp) λlp np bp=>?_
 apply List.ext_getElem?
 intro i
 unfold comp bG
 rw [List.getElem?_map,List.getElem?_map]
 by_cases hi:i < n
 .refine zb (jr hp hi) λj h1 h2 h3 h4=>?_
  rw [h2,List.getElem?_range hi]
  show some (p.getD ((j:Int).toNat) 0)=some (Int.ofNat i)
  rw [Int.toNat_natCast,List.getD_eq_getElem?_getD,h4]
  rfl
 .have l1:(List.range n)[i]?=none:=List.getElem?_eq_none (by simp; lia)
  have l2:(ip p)[i]?=none:=List.getElem?_eq_none (by rw [oO]; lia)
  rw [l1,l2]
  rfl
theorem iQ (hp:p∈perms n):ip p∈perms n:=by
 refine cK (ay.mp hp) λlp np bp=>ay.mpr ⟨by rw [oO,lp],?_,λx hx=>?_⟩
 .rw [List.nodup_iff_pairwise_ne,List.pairwise_iff_getElem]
  intro i j hi hj D2 e
  rw [oO,lp] at hi hj
  refine zb (jr hp hi) λa a1 a2 a3 a4=>zb (jr hp hj) λb b1 b2 b3 b4=>?_
  rw [List.getElem?_eq_getElem (by rw [oO]; lia)] at a2 b2
  have ea:=Option.some.inj a2
  have eb:=Option.some.inj b2
  rw [ea,eb] at e
  have:a=b:=by lia
  subst this
  rw [a4] at b4
  have:=Option.some.inj b4
  lia
 .refine ae (List.mem_map.mp hx) λk hk af=>?_
  subst af
  have Gj:=List.mem_range.mp hk
  refine zb (jr hp (k:=k) (by lia)) λj h1 _ h3 _=>?_
  rw [h1]
  exact⟨Int.natCast_nonneg _,by show(j:Int) < n; lia⟩
theorem vh (hp:p∈perms n) (hq:q∈perms n) (h:comp p q=bG n):q=ip p:=by
 have e:comp (comp (ip p) p) q=comp (ip p) (comp p q):=gR (iQ hp) hp
 rw [tW hp,lD hq,h,iP (iQ hp)] at e
 exact e
noncomputable def rN:Fd:=⟨1,1,(.seq (.ret (.prim .tuple (.cons (.comp [0] 0 (.dQ (.cons (.prim .len (.cons (.var 0) .nil)) .nil)) .nil (.dZ .index (.var 1) (.cons (.var 0) .nil))) .nil))) .skip)⟩
theorem df: ∀p:List Int,aX (p.map .int)=some p
 |[]=>rfl
 |x::p=>by
  show(aX (p.map .int)).map (x:: ·)=_
  rw [df p]
  rfl
theorem Bv {F:FT}{n:Nat}{p:List Int} (hn:n<=1000) (hp:p∈perms n):out (ex F rN.body (aq rN [tp p]))=some (tp (ip p)):=by
 refine cK (ay.mp hp) λlp np bp=>?_
 have w:=cQ (α:=Nat) (λk=>D.int (k:Int)) (λ(k:Nat)=> .int (((dI (k:Int) p).getD 0:Nat):Int)) (λx=>(aM 0 x).bind λys=>(gM F true .nil (inner ys [some (false,tp p)] [0])).bind λk=>if k then(ev F false (.dZ .index (.var 1) (.cons (.var 0) .nil)) (inner ys [some (false,tp p)] [0])).map some else some none) (List.range n) (λk hk=>by
  have Gj:=List.mem_range.mp hk
  refine ae (jr hp Gj) λj h1 _=>?_
  show(dZ .index (tp p) [.int (k:Int)]).map some=_
  show(((aX (p.map .int)).bind λns=>(dI (k:Int) ns).map λ(i:Nat)=>D.int (i:Int))).map some=_
  rw [df]
  show((dI (k:Int) p).map λ(i:Nat)=>D.int (i:Int)).map some=_
  rw [h1]
  rfl)
 have hr:dn [.int ((p.map D.int).length :Nat)]=some ((List.range n).map λ(k:Nat)=>D.int (k:Int)):=by
  rw [List.length_map,lp,cf hn,dC,bG,List.map_map]
  rfl
 have hl:((List.range n).map λ(k:Nat)=>D.int (k:Int)).length <=bJ:=by rw [List.length_map,List.length_range]; unfold bJ; lia
 have e:ev F true (.comp [0] 0 (.dQ (.cons (.prim .len (.cons (.var 0) .nil)) .nil)) .nil (.dZ .index (.var 1) (.cons (.var 0) .nil))) [some (false,tp p)]=some (.lst ((ip p).map .int)):=by
  show(dn [.int ((p.map D.int).length :Nat)]).bind _=_
  rw [hr]
  show(if((List.range n).map λ(k:Nat)=>D.int (k:Int)).length <=bJ then _ else _)=_
  rw [if_pos hl]
  show(walk _ ((List.range n).map λ(k:Nat)=>D.int (k:Int))).map D.lst=_
  rw [w]
  simp [ip,lp] <;> rfl
 show out ((((ev F true (.comp [0] 0 (.dQ (.cons (.prim .len (.cons (.var 0) .nil)) .nil)) .nil (.dZ .index (.var 1) (.cons (.var 0) .nil))) [some (false,tp p)]).bind _).bind _ |>.map _).bind _)=_
 rw [e]
 rfl
noncomputable def sb:List Int->Nat->List Int->List Int
 |[],_,f=>f
 |g::r,i,f=>sb r (i + 1) (f.set g.toNat (i:Int))
end Py
namespace Py
theorem lE: ∀p:List Int,aR (p.map .int)=true
 |[]=>rfl
 |x::p=>by show(aB (.int x) && aR (p.map .int))=true; rw [lE p]; rfl
theorem aE (p:List Int):aB (tp p)=true:=lE p
end Py
namespace Py
noncomputable def pw (p:List Int):Nat->List Int
 |0=>bG p.length
 |m + 1=>comp (pw p m) p
theorem iR (hp:p∈perms n): ∀m,pw p m∈perms n
 |0=>by rw [pw,ax hp]; exact dD n
 |m + 1=>gg (iR hp m) hp
theorem yh (hp:p∈perms n) (a:Nat): ∀b,pw p (a + b)=comp (pw p a) (pw p b)
 |0=>by rw [Nat.add_zero,pw,ax hp,iP (iR hp a)]
 |b + 1=>by
  show comp (pw p (a + b)) p=comp (pw p a) (comp (pw p b) p)
  rw [yh hp a b,gR (iR hp a) (iR hp b)]
theorem FF (hp:p∈perms n):pw p 1=p:=by
 show comp (bG p.length) p=p
 rw [ax hp,lD hp]
noncomputable def vj (p:List Int):Nat:=(((List.range 6).find? λm=>pw p (m + 1) == bG p.length).getD 0) + 1
noncomputable def CG (n:Nat) (p:List Int):Bool:=decide (pw p (vj p)=bG n) && decide (vj p<=6) && (List.range (vj p)).all λk=>k == 0 || decide (pw p k≠bG n)
set_option maxHeartbeats 0 in
theorem Bw:(List.range 7).all (λn=>(perms n).all (CG n))=true:=by decide +kernel
theorem yi (hn:n<=6) (hp:p∈perms n):pw p (vj p)=bG n/\1<=vj p/\vj p<=6/\ ∀k,1<=k->k < vj p->pw p k≠bG n:=by
 have h:=List.all_eq_true.mp (all_range Bw (k:=n) (by lia)) p hp
 unfold CG at h
 simp only [Bool.and_eq_true,decide_eq_true_eq,List.all_eq_true,List.mem_range,Bool.or_eq_true,beq_iff_eq] at h
 refine⟨h.1.1,by unfold vj; lia,h.1.2,λk h1 h2=>?_⟩
 rcases h.2 k h2 with z|z
 .lia
 .exact z
end Py
namespace Py
theorem gh (h:ev F true e ρ=some d):out (ex F (.seq (.ret e) b) ρ)=some d:=by
 rw [ex,ex,h]
 rfl
theorem bx (h:ev F false e ρ=some d):ex F (.asg i e) ρ=some (.next (put ρ i false d)):=by
 rw [ex,h]
 rfl
theorem bB (h1:cx F true es ρ=some xs) (h2:F f xs=some d) (h3:aB d=true):ev F b (.call f es) ρ=some d:=by
 rw [ev,h1]
 show(F f xs).bind _=_
 rw [h2]
 simp [h3]
theorem e_ (h1:ev F b a ρ=some x) (h2:ev F b c ρ=some y):cx F b (.cons a (.cons c .nil)) ρ=some [x,y]:=by
 rw [cx,h1,cx,h2,cx]
 rfl
theorem js (h1:ev F b a ρ=some x):cx F b (.cons a .nil) ρ=some [x]:=by
 rw [cx,h1,cx]
 rfl
end Py
namespace Py
noncomputable def fq (F:FT) (fr:List Nat) (ifs dF:E) (ρ:Env) (x:D):Option (Option D):=(gM F true ifs (inner [x] ρ fr)).bind λk=>if k then(ev F false dF (inner [x] ρ fr)).map some else some none
theorem oP (h1:ev F true a ρ=some d) (h2:seq d=some xs) (h3:xs.length<=bJ):ev F b (.comp fr 0 (.it a) ifs dF) ρ=(walk (fq F fr ifs dF ρ) xs).map .lst :=by
 rw [ev,kE,h1,Option.bind_some,h2,Option.bind_some,if_pos h3]
 rfl
theorem lF (h1:(cx F false es ρ).bind dn=some xs) (h3:xs.length<=bJ):ev F b (.comp fr 0 (.dQ es) ifs dF) ρ=(walk (fq F fr ifs dF ρ) xs).map .lst :=by
 rw [ev,kE,h1,Option.bind_some,if_pos h3]
 rfl
theorem jK {f:D->Option (Option D)}{p:D->Bool}: ∀xs:List D,(∀x∈xs,f x=some (if p x then some x else none))->walk f xs=some (xs.filter p)
 |[],_=>rfl
 |x::r,h=>by
  rw [walk,h x List.mem_cons_self,List.filter_cons]
  have ih:=jK r λy hy=>h y (List.mem_cons_of_mem _ hy)
  cases p x with
  |true=>show(walk f r).map _=_; rw [ih]; rfl
  |false=>exact ih
theorem tX {f:D->Option (Option D)}{P:D->Prop}: ∀xs:List D,(∀x∈xs,∃y,P y/\f x=some (some y))-> ∃ys,walk f xs=some ys/\ys.length=xs.length/\ ∀y∈ys,P y
 |[],_=>⟨[],rfl,rfl,λ_ h=>nomatch h⟩
 |x::r,h=>by
  refine ae (h x List.mem_cons_self) λy hy e=>bA (tX r λz hz=>h z (List.mem_cons_of_mem _ hz)) λys e2 hl hP=>⟨y::ys,?_,by rw [List.length_cons,List.length_cons,hl],λz hz=>?_⟩
  .rw [walk,e]
   show(walk f r).map _=_
   rw [e2]
   rfl
  .rcases List.mem_cons.mp hz with rfl|hz
   .exact hy
   .exact hP z hz
theorem qz (hx:x∈br 0 n): ∃k:Nat,k < n/\x= .int k:=by
 rw [dC] at hx
 refine ae (List.mem_map.mp hx) λi hi af=>?_
 subst af
 refine ae (List.mem_map.mp hi) λj hj aO=>?_
 subst aO
 exact⟨j,List.mem_range.mp hj,rfl⟩
theorem fT (n:Nat):(br 0 n).length =n:=by
 rw [dC,List.length_map,bG,List.length_map,List.length_range]
noncomputable def fu (ft fd:Nat):Fd:=⟨2,2,(.seq (.ret (.prim .tuple (.cons (.comp [0,1] 0 (.dQ (.cons (.idx (.tup (.cons (.c (.int 1)) (.cons (.c (.int 1)) (.cons (.c (.int 2)) (.cons (.c (.int 2)) (.cons (.c (.int 3)) (.cons (.c (.int 0)) (.cons (.c (.int 6)) .nil)))))))) (.bin .Mod (.var 0) (.c (.int 7)))) .nil)) .nil (.call ft (.cons (.call fd (.cons (.var 1) (.cons (.var 0) .nil))) (.cons (.var 2) .nil)))) .nil))) .skip)⟩
noncomputable def FG (s:Nat) (y:D):Prop:= ∃p∈perms s,y=tp p
theorem yj {xs:List D}{k:Nat}{x:D} (h:xs[k]?=some x):item (.tup xs) (.int k)=some x:=by
 show(cu xs.length k).bind _=_
 have hk:k < xs.length:=(List.getElem?_eq_some_iff.mp h).1
 unfold cu
 rw [if_pos (by lia),if_pos (by lia)]
 show xs[((k:Int)).toNat]?=_
 rw [Int.toNat_natCast]
 exact h
theorem FH {F:FT}{ft fd s:Nat}{a:Int} (hd: ∀k:Nat,F fd [.int a,.int k]=some (.int (drawn a k))) (ht: ∀b:Int,0<=b-> ∃p∈perms s,F ft [.int b,.int s]=some (tp p)):
  ∃ys,out (ex F (fu ft fd).body (aq (fu ft fd) [.int a,.int s]))=some (.tup ys)/\ys.length<=6/\ ∀y∈ys,FG s y:=by
 have g0:0<=a % 7:=Int.emod_nonneg _ (by decide)
 have g1:a % 7 < 7:=Int.emod_lt_of_pos _ (by decide)
 obtain⟨j,hj⟩: ∃j:Nat,a % 7=j:=⟨(a % 7).toNat,by lia⟩
 have UE:j < 7:=by lia
 have key: ∀j,j < 7-> ∃n:Nat,n<=6/\[D.int 1,.int 1,.int 2,.int 2,.int 3,.int 0,.int 6][j]?=some (.int n):=λj hj=>
  ⟨[1,1,2,2,3,0,6][j],(show∀x∈[1,1,2,2,3,0,6],x<=6 by decide) _ (List.getElem_mem _),by rw [show [D.int 1,.int 1,.int 2,.int 2,.int 3,.int 0,.int 6]=[1,1,2,2,3,0,6].map λn:Nat=>D.int n from rfl,List.getElem?_map,List.getElem?_eq_getElem hj]; rfl⟩
 refine ae (key j UE) λn hn hg=>?_
 have e1:ev F false (.idx (.tup (.cons (.c (.int 1)) (.cons (.c (.int 1)) (.cons (.c (.int 2)) (.cons (.c (.int 2)) (.cons (.c (.int 3)) (.cons (.c (.int 0)) (.cons (.c (.int 6)) .nil)))))))) (.bin .Mod (.var 0) (.c (.int 7)))) (aq (fu ft fd) [.int a,.int s])=some (.int n):=by
  have q1:ev F true (.tup (.cons (.c (.int 1)) (.cons (.c (.int 1)) (.cons (.c (.int 2)) (.cons (.c (.int 2)) (.cons (.c (.int 3)) (.cons (.c (.int 0)) (.cons (.c (.int 6)) .nil)))))))) (aq (fu ft fd) [.int a,.int s])=some (.tup [D.int 1,.int 1,.int 2,.int 2,.int 3,.int 0,.int 6]):=by simp [ev,cx,bJ]
  have q2:ev F false (.bin .Mod (.var 0) (.c (.int 7))) (aq (fu ft fd) [.int a,.int s])=some (.int j):=by simp [fu,aq,ev,rd,bin,hj]
  rw [ev,q1,Option.bind_some,q2,Option.bind_some]
  exact yj hg
 obtain⟨ys,w,hl,hP⟩:=tX (f:=fq F [0,1] .nil (.call ft (.cons (.call fd (.cons (.var 1) (.cons (.var 0) .nil))) (.cons (.var 2) .nil))) (aq (fu ft fd) [.int a,.int s])) (P:=FG s) (br 0 n) λx hx=>by
  refine ae (qz hx) λk hk af=>?_
  subst af
  refine ae (ht (drawn a k) (x_ _ _)) λp hp e=>⟨tp p,⟨p,hp,rfl⟩,?_⟩
  show(ev F false _ (inner [.int (k:Int)] _ [0,1])).map some=_
  have i1:ev F true (.call fd (.cons (.var 1) (.cons (.var 0) .nil))) (inner [.int (k:Int)] (aq (fu ft fd) [.int a,.int s]) [0,1])=some (.int (drawn a k)):=
   bB (xs:=[.int a,.int k]) (e_ (by simp [fu,aq,ev,rd,inner,uH]) (by simp [fu,aq,ev,rd,inner,uH])) (hd k) rfl
  rw [bB (xs:=[.int (drawn a k),.int s]) (d:=tp p) (e_ i1 (by simp [fu,aq,ev,rd,inner,uH])) e (aE _)]
  rfl
 refine⟨ys,gh ?_,by rw [hl,fT]; exact hn,hP⟩
 rw [ev,js (x:= .lst ys)]
 .rfl
 .rw [lF (xs:=br 0 n) (by rw [js e1,Option.bind_some,cf (by lia)]) (by rw [fT]; unfold bJ; lia),w]
  rfl
section
variable {s:Nat}{ps:List (List Int)} (lG: ∀p∈ps,p∈perms s)
include lG
end
theorem cJ (h1:cx F true es ρ=some xs) (h2:F f xs=some d) (h3:kD ρ es=false):ev F b (.call f es) ρ=some d:=by
 rw [ev,h1]
 show(F f xs).bind _=_
 rw [h2]
 simp [h3]
theorem Nu (h1:ev F b a ρ=some x) (h2:ev F b c ρ=some y) (h3:ev F b e ρ=some z):cx F b (.cons a (.cons c (.cons e .nil))) ρ=some [x,y,z]:=by
 rw [cx,h1,cx,h2,cx,h3,cx]
 rfl
theorem yk: ∀{s:Nat} (ys:List D),(∀y∈ys,FG s y)-> ∃ps:List (List Int),ys=ps.map tp/\ ∀p∈ps,p∈perms s
 |_,[],_=>⟨[],rfl,λ_ h=>nomatch h⟩
 |s,y::r,h=>by
  refine ae (h y List.mem_cons_self) λp hp af=>?_
  subst af
  refine ae (yk r λz hz=>h z (List.mem_cons_of_mem _ hz)) λps aO lG=>?_
  subst aO
  exact⟨p::ps,rfl,λq hq=>(List.mem_cons.mp hq).elim (λe=>e▸hp) (lG q)⟩
theorem tY (h:(cx F false es ρ).bind dn=some xs):ex F (.for is tg (.dQ es) b) ρ=aH (λx ρ=>(aM tg x).bind λys=>(cX ρ is ys).bind λρ'=>ex F b ρ') xs ρ:=by
 rw [ex]
 show((cx F false es ρ).bind dn).bind _=_
 rw [h]
 rfl
end Py
namespace jL
structure Pg (α:Type) where
 n:Nat
 S:α->Prop
 mul:α->α->α
 inv:α->α
 one:α
 im:α->Nat->Nat
structure fU {α:Type} (Y:Pg α):Prop where
 s1:Y.S Y.one
 sm: ∀{a b},Y.S a->Y.S b->Y.S (Y.mul a b)
 si: ∀{a},Y.S a->Y.S (Y.inv a)
 assoc: ∀{a b c},Y.S a->Y.S b->Y.S c->Y.mul (Y.mul a b) c=Y.mul a (Y.mul b c)
 mul_one: ∀{a},Y.S a->Y.mul a Y.one=a
 one_mul: ∀{a},Y.S a->Y.mul Y.one a=a
 gj: ∀{a},Y.S a->Y.mul a (Y.inv a)=Y.one
 inv_mul: ∀{a},Y.S a->Y.mul (Y.inv a) a=Y.one
 bK: ∀{k},k < Y.n->Y.im Y.one k=k
 aZ: ∀{a b k},Y.S a->Y.S b->k < Y.n->Y.im (Y.mul a b) k=Y.im b (Y.im a k)
 iS: ∀{a k},Y.S a->k < Y.n->Y.im a k < Y.n
 ext: ∀{a b},Y.S a->Y.S b->(∀k,k < Y.n->Y.im a k=Y.im b k)->a=b
section
variable {α:Type}{Y:Pg α}
theorem fU.inj (L:fU Y) (ha:Y.S a) (hk:k < Y.n) (hl:l < Y.n) (h:Y.im a k=Y.im a l):k=l:=by
 have e: ∀j,j < Y.n->Y.im (Y.inv a) (Y.im a j)=j:=λj hj=>by
  rw [<-L.aZ ha (L.si ha) hj,L.gj ha,L.bK hj]
 rw [<-e k hk,<-e l hl,h]
noncomputable def gS (Y:Pg α) (t:α) (i:Nat):Prop:= ∀k,k < i->Y.im t k=k
noncomputable abbrev Rg (α:Type):=List (Nat×α)
structure V (Y:Pg α) (i:Nat) (R:Rg α):Prop where
 st: ∀p u,(p,u)∈R->Y.S u/\gS Y u i/\Y.im u i=p
 one:(i,Y.one)∈R
 nd:(R.map (·.1)).Nodup
noncomputable def VL (Y:Pg α):List (Rg α)->Nat->Prop
 |[],i=>i=Y.n
 |R::l,i=>V Y i R/\i < Y.n/\VL Y l (i + 1)
noncomputable def H (Y:Pg α):List (Rg α)->α->Prop
 |[],t=>t=Y.one
 |R::l,t=> ∃p u w,(p,u)∈R/\H Y l w/\t=Y.mul w u
theorem ka {R:Rg α} (h:(R.map (·.1)).Nodup) {p:Nat}{u v:α} (h1:(p,u)∈R) (h2:(p,v)∈R):u=v:=by
 induction R with
 |nil=>cases h1
 |cons e R ih=>
  rw [List.map_cons,List.nodup_cons] at h
  rcases List.mem_cons.mp h1 with a|a
  .rcases List.mem_cons.mp h2 with b|b
   .exact(Prod.mk.inj (a.trans b.symm)).2
   .exact absurd (List.mem_map.mpr ⟨_,b,by rw [<-a]⟩) h.1
  .rcases List.mem_cons.mp h2 with b|b
   .exact absurd (List.mem_map.mpr ⟨_,a,by rw [<-b]⟩) h.1
   .exact ih h.2 a b
theorem H.good (L:fU Y): ∀{l:List (Rg α)}{i:Nat}{t:α},VL Y l i->H Y l t->Y.S t/\gS Y t i
 |[],i,t,hv,h=>by
  have h':t=Y.one:=h
  have Gr:i=Y.n:=hv
  subst h'
  exact⟨L.s1,λk hk=>L.bK (by lia)⟩
 |R::l,i,t,⟨hv,hi,hl⟩,⟨p,u,w,hu,hw,e⟩=>by
  obtain⟨s1,f1⟩:=H.good L hl hw
  refine cK (hv.st p u hu) λs2 f2 _=>?_
  subst e
  refine⟨L.sm s1 s2,λk hk=>?_⟩
  rw [L.aZ s1 s2 (by lia),f1 k (by lia),f2 k hk]
theorem H.one (L:fU Y): ∀{l:List (Rg α)}{i:Nat},VL Y l i->H Y l Y.one
 |[],_,_=>rfl
 |R::l,i,⟨hv,hi,hl⟩=>⟨i,Y.one,Y.one,hv.one,H.one L hl,(L.one_mul L.s1).symm⟩
noncomputable def St (l:List (Rg α)) (u:α):Prop:= ∃R∈l,∃p,(p,u)∈R
theorem St.good (L:fU Y): ∀{l:List (Rg α)}{i:Nat}{u:α},VL Y l i->St l u->Y.S u/\gS Y u i
 |[],_,_,_,⟨_,h,_⟩=>by cases h
 |R::l,i,u,⟨hv,hi,hl⟩,⟨R',hR,p,hp⟩=>by
  rcases List.mem_cons.mp hR with e|e
  .rw [e] at hp
   exact⟨(hv.st p u hp).1,(hv.st p u hp).2.1⟩
  .obtain⟨a,b⟩:=St.good L hl ⟨R',e,p,hp⟩
   exact⟨a,λk hk=>b k (by lia)⟩
theorem H.drop (L:fU Y) {R:Rg α}{l:List (Rg α)}{i:Nat}{t:α} (hv:VL Y (R::l) i) (h:H Y (R::l) t) (hf:Y.im t i=i):H Y l t:=by
 refine cK hv λhV hi hl=>cG h λp u w hu hw e=>?_
 obtain⟨s1,f1⟩:=H.good L hl hw
 refine cK (hV.st p u hu) λs2 f2 f3=>?_
 have:p=i:=by
  rw [e,L.aZ s1 s2 hi,f1 i (by lia),f3] at hf
  exact hf
 subst this
 have:u=Y.one:=ka hV.nd hu hV.one
 rw [this,L.mul_one s1] at e
 rw [e]
 exact hw
theorem H.Bx (L:fU Y) (hv:VL Y (R::l) i) (h:H Y l t):H Y (R::l) t:=⟨i,Y.one,t,hv.1.one,h,(L.mul_one (H.good L hv.2.2 h).1).symm⟩
inductive Gen (Y:Pg α) (G:α->Prop):α->Prop
 |one:Gen Y G Y.one
 |mul {t u:α}:Gen Y G t->G u->Gen Y G (Y.mul t u)
theorem Gen.S (L:fU Y) (hG: ∀u,G u->Y.S u): ∀{t:α},Gen Y G t->Y.S t
 |_,.one =>L.s1
 |_,.mul h hu=>L.sm (Gen.S L hG h) (hG _ hu)
theorem Gen.mono (h: ∀u,G u->G' u): ∀{t:α},Gen Y G t->Gen Y G' t
 |_,.one => .one
 |_,.mul a hu=> .mul (Gen.mono h a) (h _ hu)
theorem Gen.app (L:fU Y) (hG: ∀u,G u->Y.S u) (ha:Gen Y G a): ∀{b:α},Gen Y G b->Gen Y G (Y.mul a b)
 |_,.one =>by rw [L.mul_one (Gen.S L hG ha)]; exact ha
 |_,.mul (t:=t) (u:=u) h hu=>by
  rw [<-L.assoc (Gen.S L hG ha) (Gen.S L hG h) (hG _ hu)]
  exact .mul (Gen.app L hG ha h) hu
theorem Gen.of (L:fU Y) (hs:Y.S u) (h:G u):Gen Y G u:=by
 have:=Gen.mul (Gen.one (Y:=Y) (G:=G)) h
 rwa [L.one_mul hs] at this
theorem H.gen (L:fU Y): ∀{l:List (Rg α)}{i:Nat}{t:α},VL Y l i->H Y l t->Gen Y (St l) t
 |[],_,t,_,h=>by
  have h':t=Y.one:=h
  rw [h']; exact .one
 |R::l,i,t,⟨hV,hi,hl⟩,⟨p,u,w,hu,hw,e⟩=>by
  rw [e]
  exact .mul (Gen.mono (λx ⟨R',h,q⟩=>⟨R',List.mem_cons_of_mem _ h,q⟩) (H.gen L hl hw)) ⟨R,List.mem_cons_self,p,hu⟩
theorem H.closed (L:fU Y): ∀{l:List (Rg α)}{i:Nat},VL Y l i->(∀u v,St l u->St l v->H Y l (Y.mul u v))-> ∀t v,H Y l t->St l v->H Y l (Y.mul t v)
 |[],_,_,_,_,_,_,⟨_,h,_⟩=>by cases h
 |R::l,i,hv,hp,t,v,⟨p,u,w,hu,hw,e⟩,lX=>by
  have hl:=hv.2.2
  have sub: ∀x,St l x->St (R::l) x:=λx ⟨R',h,q⟩=>⟨R',List.mem_cons_of_mem _ h,q⟩
  have ih:=H.closed L hl λx y hx hy=>by
   obtain⟨s1,f1⟩:=St.good L hl hx
   obtain⟨s2,f2⟩:=St.good L hl hy
   refine(hp x y (sub x hx) (sub y hy)).drop L hv ?_
   rw [L.aZ s1 s2 hv.2.1,f1 i (by lia),f2 i (by lia)]
  have all: ∀{x:α},Gen Y (St l) x->H Y l (Y.mul w x):=λ{x} hx=>by
   induction hx with
   |one=>rw [L.mul_one (H.good L hl hw).1]; exact hw
   |mul h hu DV=>
    rw [<-L.assoc (H.good L hl hw).1 (Gen.S L (λu hu=>(St.good L hl hu).1) h) (St.good L hl hu).1]
    exact ih _ _ DV hu
  have su:St (R::l) u:=⟨R,List.mem_cons_self,p,hu⟩
  refine cG (hp u v su lX) λp' u' w' Gn tq e'=>?_
  obtain⟨sw,_⟩:=H.good L hl hw
  obtain⟨FI,_⟩:=H.good L hl tq
  have UG:=(St.good L hv su).1
  have UH:=(St.good L hv lX).1
  have UI:=(hv.1.st p' u' Gn).1
  refine⟨p',u',Y.mul w w',Gn,all (H.gen L hl tq),?_⟩
  rw [e,L.assoc sw UG UH,e',<-L.assoc sw FI UI]
theorem H.all (L:fU Y) (hv:VL Y l i) (hp: ∀u v,St l u->St l v->H Y l (Y.mul u v)) (ht:H Y l t) (hx:Gen Y (St l) x):H Y l (Y.mul t x):=by
 induction hx with
 |one=>rw [L.mul_one (H.good L hv ht).1]; exact ht
 |mul h hu ih=>
  rw [<-L.assoc (H.good L hv ht).1 (Gen.S L (λu hu=>(St.good L hv hu).1) h) (St.good L hv hu).1]
  exact H.closed L hv hp _ _ ih hu
theorem H.row (L:fU Y) (hv:VL Y l 0) (hG: ∀u,G u->Y.S u) (hp: ∀u v,St l u->St l v->H Y l (Y.mul u v)) (hr: ∀g,G g->H Y l g) (hs: ∀u,St l u->Gen Y G u) (t:α):H Y l t↔Gen Y G t:=by
 constructor
 .intro h
  have: ∀{x:α},Gen Y (St l) x->Gen Y G x:=λ{x} hx=>by
   induction hx with
   |one=>exact .one
   |mul h hu ih=>exact Gen.app L hG ih (hs _ hu)
  exact this (H.gen L hv h)
 .intro h
  induction h with
  |one=>exact H.one L hv
  |mul h hu ih=>exact H.all L hv hp ih (H.gen L hv (hr _ hu))
end
end jL
namespace jL
section
variable {α:Type}{Y:Pg α}
noncomputable def gr (R:Rg α) (p:Nat):Option α:=(R.find? λe=>e.1 == p).map (·.2)
theorem eI (h:gr R p=some u):(p,u)∈R:=by
 unfold gr at h
 cases e:R.find? (λe=>e.1 == p) with
 |none=>rw [e] at h; cases h
 |some x=>
  rw [e] at h
  cases h
  have h1:=List.find?_some e
  have h2:=List.mem_of_find?_eq_some e
  have:x.1=p:=by simpa using h1
  rw [<-this]; exact h2
theorem jt {R:Rg α}{p:Nat} (h:gr R p=none):p∉R.map (·.1):=λhm=>by
 unfold gr at h
 rw [Option.map_eq_none_iff,List.find?_eq_none] at h
 exact ae (List.mem_map.mp hm) λe he hp=>h e he (by simp [hp])
theorem tZ {R:Rg α} (nd:(R.map (·.1)).Nodup) {p:Nat}{u:α} (h:(p,u)∈R):gr R p=some u:=by
 cases e:gr R p with
 |none=>exact absurd (List.mem_map.mpr ⟨_,h,rfl⟩) (jt e)
 |some v=>rw [ka nd h (eI e)]
noncomputable def cU (Y:Pg α):List (Rg α)->Nat->α->α
 |[],_,t=>t
 |R::l,i,t=>match gr R (Y.im t i) with
  |some u=>cU Y l (i + 1) (Y.mul t (Y.inv u))
  |none=>t
noncomputable def add:List (Rg α)->Nat->Nat×α->List (Rg α)
 |[],_,_=>[]
 |R::l,0,x=>(R++[x])::l
 |R::l,k + 1,x=>R::add l k x
theorem H.add: ∀{l:List (Rg α)}{k:Nat}{t:α},H Y l t->H Y (jL.add l k x) t
 |[],_,_,h=>h
 |R::l,0,t,⟨p,u,w,hu,hw,e⟩=>⟨p,u,w,List.mem_append_left _ hu,hw,e⟩
 |R::l,k + 1,t,⟨p,u,w,hu,hw,e⟩=>⟨p,u,w,hu,H.add hw,e⟩
theorem St.add: ∀{l:List (Rg α)}{k:Nat},St (jL.add l k x) v->St l v\/v=x.2
 |[],_,⟨_,h,_⟩=>by cases h
 |R::l,0,⟨R',hR,p,hp⟩=>by
  rcases List.mem_cons.mp hR with e|e
  .rw [e] at hp
   rcases List.mem_append.mp hp with z|z
   .exact .inl ⟨R,List.mem_cons_self,p,z⟩
   .rw [List.mem_singleton] at z
    exact .inr (by rw [<-z])
  .exact .inl ⟨R',List.mem_cons_of_mem _ e,p,hp⟩
 |R::l,k + 1,⟨R',hR,p,hp⟩=>by
  rcases List.mem_cons.mp hR with e|e
  .exact .inl ⟨R,List.mem_cons_self,p,by rw [<-e]; exact hp⟩
  .rcases St.add (l:=l) (k:=k) ⟨R',e,p,hp⟩ with ⟨R2,h2,q⟩|z
   .exact .inl ⟨R2,List.mem_cons_of_mem _ h2,q⟩
   .exact .inr z
theorem nv (L:fU Y): ∀{l:List (Rg α)}{i:Nat}{t:α},VL Y l i->Y.S t->gS Y t i->
  (cU Y l i t=Y.one/\H Y l t)\/ ∃k R,l[k]?=some R/\i + k < Y.n/\Y.S (cU Y l i t)/\gS Y (cU Y l i t) (i + k)/\Y.im (cU Y l i t) (i + k)∉R.map (·.1)/\Y.im (cU Y l i t) (i + k)≠i + k/\
   H Y (add l k (Y.im (cU Y l i t) (i + k),cU Y l i t)) t/\VL Y (add l k (Y.im (cU Y l i t) (i + k),cU Y l i t)) i
 |[],i,t,hv,hs,hf=>by
  have Gr:i=Y.n:=hv
  have:t=Y.one:=L.ext hs L.s1 λk hk=>by rw [hf k (by lia),L.bK hk]
  exact .inl ⟨this,this⟩
 |R::l,i,t,hv,hs,hf=>by
  refine cK hv λhV hi hl=>?_
  unfold cU
  cases e:gr R (Y.im t i) with
  |none=>
   have hn:=jt e
   have fX:Y.im t i≠i:=λz=>hn (List.mem_map.mpr ⟨_,hV.one,z.symm⟩)
   refine .inr ⟨0,R,rfl,hi,hs,hf,hn,fX,?_,?_⟩
   .exact⟨Y.im t i,t,Y.one,List.mem_append_right _ (List.mem_singleton.mpr rfl),H.one L hl,(L.one_mul hs).symm⟩
   .refine⟨⟨λp u hu=>?_,List.mem_append_left _ hV.one,?_⟩,hi,hl⟩
    .rcases List.mem_append.mp hu with z|z
     .exact hV.st p u z
     .rw [List.mem_singleton] at z
      cases z
      exact⟨hs,hf,rfl⟩
    .rw [List.map_append,List.nodup_append]
     refine⟨hV.nd,by simp,λa ha b hb z=>?_⟩
     have:b=Y.im t i:=by simpa using hb
     exact hn (by rw [<-this,<-z]; exact ha)
  |some u=>
   have hu:=eI e
   refine cK (hV.st _ u hu) λs2 f2 f3=>?_
   have sI:=L.si s2
   have s3:Y.S (Y.mul t (Y.inv u)):=L.sm hs sI
   have back:Y.mul (Y.mul t (Y.inv u)) u=t:=by rw [L.assoc hs sI s2,L.inv_mul s2,L.mul_one hs]
   have yl: ∀k,k < Y.n->Y.im (Y.inv u) (Y.im u k)=k:=λk hk=>by rw [<-L.aZ s2 sI hk,L.gj s2,L.bK hk]
   have f4:gS Y (Y.mul t (Y.inv u)) (i + 1):=λk hk=>by
    rw [L.aZ hs sI (by lia)]
    rcases Nat.lt_or_ge k i with z|z
    .rw [hf k z]
     have:=yl k (by lia)
     rwa [f2 k z] at this
    .have e2:k=i:=by lia
     rw [e2]
     have:=yl i hi
     rwa [f3] at this
   dsimp only
   rcases nv L hl s3 f4 with ⟨a,b⟩|⟨k,R',a1,a2,a3,a4,a5,a6,a7,a8⟩
   .exact .inl ⟨a,_,u,_,hu,b,back.symm⟩
   .have ek:i + 1 + k=i + (k + 1):=by lia
    rw [ek] at a2 a4 a5 a6 a7 a8
    exact .inr ⟨k + 1,R',a1,a2,a3,a4,a5,a6,⟨_,u,_,hu,a7,back.symm⟩,hV,hi,a8⟩
structure Fd (Y:Pg α) (G:α->Prop) (l:List (Rg α)) (W:List α):Prop where
 v:VL Y l 0
 g: ∀u,St l u->Gen Y G u
 wg: ∀t∈W,Gen Y G t
 row: ∀t,G t->t∈W\/H Y l t
 JF: ∀u v,St l u->St l v->Y.mul u v∈W\/H Y l (Y.mul u v)
theorem Fd.done (L:fU Y) (hG: ∀u,G u->Y.S u) (h:Fd Y G l []) (t:α):H Y l t↔Gen Y G t:=
 H.row L h.v hG (λu v hu hv=>(h.JF u v hu hv).resolve_left (by simp)) (λg hg=>(h.row g hg).resolve_left (by simp)) h.g t
theorem Fd.none (h:Fd Y G l (W++[t])) (ht:H Y l t):Fd Y G l W where
 v:=h.v
 g:=h.g
 wg:=λx hx=>h.wg x (List.mem_append_left _ hx)
 row:=λx hx=>by
  rcases h.row x hx with z|z
  .rcases List.mem_append.mp z with z|z
   .exact .inl z
   .rw [List.mem_singleton.mp z]; exact .inr ht
  .exact .inr z
 JF:=λu v hu hv=>by
  rcases h.JF u v hu hv with z|z
  .rcases List.mem_append.mp z with z|z
   .exact .inl z
   .rw [List.mem_singleton.mp z]; exact .inr ht
  .exact .inr z
theorem Fd.more (L:fU Y) (h:Fd Y G l (W++[t])) (hv:VL Y (add l k (p,r)) 0) (ht:H Y (add l k (p,r)) t) (hr:Gen Y G r) (lG: ∀x∈Ps,Gen Y G x)
  (hP: ∀u,St (add l k (p,r)) u->Y.mul u r∈Ps/\Y.mul r u∈Ps):Fd Y G (add l k (p,r)) (W++Ps) where
 v:=hv
 g:=λu hu=>by
  rcases hu.add with z|z
  .exact h.g u z
  .rw [z]; exact hr
 wg:=λx hx=>(List.mem_append.mp hx).elim (λz=>h.wg x (List.mem_append_left _ z)) (lG x)
 row:=λx hx=>by
  rcases h.row x hx with z|z
  .rcases List.mem_append.mp z with z|z
   .exact .inl (List.mem_append_left _ z)
   .rw [List.mem_singleton.mp z]; exact .inr ht
  .exact .inr z.add
 JF:=λu v hu Gr=>by
  rcases hu.add with z1|z1
  .rcases Gr.add with z2|z2
   .rcases h.JF u v z1 z2 with z|z
    .rcases List.mem_append.mp z with z|z
     .exact .inl (List.mem_append_left _ z)
     .rw [List.mem_singleton.mp z]; exact .inr ht
    .exact .inr z.add
   .rw [z2]
    exact .inl (List.mem_append_right _ (hP u hu).1)
  .rw [z1]
   exact .inl (List.mem_append_right _ (hP v Gr).2)
end
end jL
namespace jL
section
variable {α:Type}{Y:Pg α}
theorem gS.mul (L:fU Y) (ha:Y.S a) (hb:Y.S b) (hi:i<=Y.n) (h1:gS Y a i) (h2:gS Y b i):gS Y (Y.mul a b) i:=λk hk=>by rw [L.aZ ha hb (by lia),h1 k hk,h2 k hk]
theorem gS.inv (L:fU Y) (ha:Y.S a) (hi:i<=Y.n) (h1:gS Y a i):gS Y (Y.inv a) i:=λk hk=>by
 have:=L.aZ ha (L.si ha) (k:=k) (by lia)
 rw [L.gj ha,L.bK (by lia),h1 k hk] at this
 exact this.symm
structure gT (Y:Pg α) (M:α->Prop):Prop where
 s: ∀t,M t->Y.S t
 one:M Y.one
 mul: ∀a b,M a->M b->M (Y.mul a b)
 inv: ∀a,M a->M (Y.inv a)
noncomputable def Hm (Y:Pg α) (M:α->Prop) (l:List (Rg α)) (i:Nat):Prop:=VL Y l i/\ ∀t,H Y l t↔M t/\gS Y t i
theorem Hm.tail (L:fU Y) (h:Hm Y M (R::l) i):Hm Y M l (i + 1):=by
 refine⟨h.1.2.2,λt=>⟨λht=>?_,λ⟨h1,h2⟩=>?_⟩⟩
 .exact⟨((h.2 t).mp (ht.Bx L h.1)).1,(H.good L h.1.2.2 ht).2⟩
 .exact((h.2 t).mpr ⟨h1,λk hk=>h2 k (by lia)⟩).drop L h.1 (h2 i (by lia))
theorem Hm.step (L:fU Y) (h:Hm Y M (R::l) i) (hu:(p,u)∈R):M u/\gS Y u i/\Y.im u i=p:=by
 refine cK (h.1.1.st p u hu) λs1 f1 f2=>?_
 have:H Y (R::l) u:=⟨p,u,Y.one,hu,H.one L h.1.2.2,(L.one_mul s1).symm⟩
 exact⟨((h.2 u).mp this).1,f1,f2⟩
theorem Hm.split (L:fU Y) (h:Hm Y M (R::l) i) (hM:M t) (hf:gS Y t i): ∃u w,(Y.im t i,u)∈R/\H Y l w/\t=Y.mul w u:=by
 refine ao λnO=>cG ((h.2 t).mpr ⟨hM,hf⟩) λp u w hu hw e=>?_
 obtain⟨s1,f1⟩:=H.good L h.1.2.2 hw
 refine cK (h.1.1.st p u hu) λs2 f2 f3=>nO ?_
 have:Y.im t i=p:=by rw [e,L.aZ s1 s2 h.1.2.1,f1 i (by lia),f3]
 exact⟨u,w,by rw [this]; exact hu,hw,e⟩
noncomputable def Lt (Y:Pg α) (a b:α):Prop:= ∃i,i < Y.n/\(∀k,k < i->Y.im a k=Y.im b k)/\Y.im a i < Y.im b i
theorem Lt.KI (h:Lt Y a b) (h':Lt Y b a):False:=by
 refine bA h λi i1 i2 i3=>bA h' λj j1 j2 j3=>?_
 rcases Nat.lt_trichotomy i j with z|z|z
 .have:=j2 i z; lia
 .subst z; lia
 .have:=i2 j z; lia
inductive LM (Y:Pg α):List (Rg α)->α->α->Prop
 |nil {u:α}:LM Y [] u u
 |cons {R:Rg α}{l:List (Rg α)}{u x:α}{p:Nat}{v:α}:(p,v)∈R->(∀q,q∈R.map (·.1)->Y.im u p<=Y.im u q)->LM Y l (Y.mul v u) x->LM Y (R::l) u x
theorem LM.least (L:fU Y): ∀{l:List (Rg α)}{i:Nat}{u x:α},VL Y l i->Y.S u->LM Y l u x->(∃w,H Y l w/\x=Y.mul w u)/\ ∀w,H Y l w->x=Y.mul w u\/Lt Y x (Y.mul w u)
 |[],i,u,x,hv,hs,h=>by
  cases h
  refine⟨⟨Y.one,rfl,(L.one_mul hs).symm⟩,λw hw=>?_⟩
  have tq:w=Y.one:=hw
  rw [tq,L.one_mul hs]; exact .inl rfl
 |R::l,i,u,x,hv,hs,h=>by
  cases h
  rename_i p v hp ym hl
  refine ao λnO=>cK hv λhV hi Nv=>cK (hV.st p v hp) λs2 f2 f3=>?_
  obtain⟨⟨w',tq,ex⟩,ih⟩:=LM.least L Nv (L.sm s2 hs) hl
  obtain⟨FI,RE⟩:=H.good L Nv tq
  refine nO ?_
  have hx:x=Y.mul (Y.mul w' v) u:=by rw [ex,L.assoc FI s2 hs]
  refine⟨⟨Y.mul w' v,⟨p,v,w',hp,tq,rfl⟩,hx⟩,?_⟩
  rintro w ⟨p2,v2,w2,uM,RF,ew⟩
  refine ao λnO=>cK (hV.st p2 v2 uM) λs3 g2 g3=>?_
  obtain⟨JG,RG⟩:=H.good L Nv RF
  refine nO ?_
  by_cases e:p2=p
  .subst e
   have:v2=v:=ka hV.nd uM hp
   subst this
   rw [ew,L.assoc JG s3 hs]
   exact ih w2 RF
  .refine .inr ⟨i,hi,λk hk=>?_,?_⟩
   .rw [hx,ew,L.aZ (L.sm FI s2) hs (by lia),L.aZ (L.sm JG s3) hs (by lia),L.aZ FI s2 (by lia),L.aZ JG s3 (by lia),RE k (by lia),RG k (by lia),f2 k hk,g2 k hk]
   .rw [hx,ew,L.aZ (L.sm FI s2) hs hi,L.aZ (L.sm JG s3) hs hi,L.aZ FI s2 hi,L.aZ JG s3 hi,RE i (by lia),RG i (by lia),f3,g3]
    have h1:=ym p2 (List.mem_map.mpr ⟨_,uM,rfl⟩)
    have Ga:p < Y.n:=by rw [<-f3]; exact L.iS s2 hi
    have Nw:p2 < Y.n:=by rw [<-g3]; exact L.iS s3 hi
    have h2:Y.im u p≠Y.im u p2:=λz=>e (L.inj hs Ga Nw z).symm
    lia
noncomputable def dW (Y:Pg α) (M:α->Prop) (i p:Nat) (x:α):Prop:=M x/\gS Y x i/\Y.im x i=p/\ ∀t,M t->gS Y t i->Y.im t i=p->x=t\/Lt Y x t
theorem dW.JH (h:dW Y M i p x) (h':dW Y M i p y):x=y:=by
 rcases h.2.2.2 y h'.1 h'.2.1 h'.2.2.1 with z|z
 .exact z
 .rcases h'.2.2.2 x h.1 h.2.1 h.2.2.1 with z'|z'
  .exact z'.symm
  .exact(z.KI z').elim
theorem Hm.best (L:fU Y) (hM:gT Y M) (h:Hm Y M (R::l) i) (hu:(p,u)∈R) (hx:LM Y l u x):dW Y M i p x:=by
 refine cK (h.step L hu) λm1 f1 f2=>?_
 have hs:=hM.s u m1
 obtain⟨⟨w,hw,ex⟩,least⟩:=LM.least L h.1.2.2 hs hx
 obtain⟨mw,fw⟩:=((h.tail L).2 w).mp hw
 have sw:=hM.s w mw
 have hi:=h.1.2.1
 refine⟨by rw [ex]; exact hM.mul _ _ mw m1,?_,?_,λt ht hf hp=>?_⟩
 .rw [ex]; exact gS.mul L sw hs (by lia) (λk hk=>fw k (by lia)) f1
 .rw [ex,L.aZ sw hs hi,fw i (by lia),f2]
 .refine ba (h.split L ht hf) λu' w' h1 h2 e=>?_
  rw [hp] at h1
  have:u'=u:=ka h.1.1.nd h1 hu
  rw [e,this]
  exact least w' h2
theorem yo (L:fU Y) (hM:gT Y M) (hi:i < Y.n):dW Y M i i Y.one:=by
 refine⟨hM.one,λk hk=>L.bK (by lia),L.bK hi,λt ht hf hp=>?_⟩
 have hs:=hM.s t ht
 by_cases all: ∀k,k < Y.n->Y.im t k=k
 .exact .inl (L.ext L.s1 hs λk hk=>by rw [L.bK hk,all k hk])
 .
  have ex: ∃j,j < Y.n/\Y.im t j≠j/\ ∀k,k < j->Y.im t k=k:=by
   have key: ∀m,m<=Y.n->(∀k,k < m->Y.im t k=k)\/ ∃j,j < m/\Y.im t j≠j/\ ∀k,k < j->Y.im t k=k:=λm=>by
    induction m with
    |zero=>intro _; exact .inl λk hk=>by lia
    |succ m ih=>
     intro hm
     rcases ih (by lia) with z|⟨j,z1,z2,z3⟩
     .by_cases e:Y.im t m=m
      .exact .inl λk hk=>by
        rcases Nat.lt_or_ge k m with y|y
        .exact z k y
        .rw [show k=m by lia]; exact e
      .exact .inr ⟨m,by lia,e,z⟩
     .exact .inr ⟨j,by lia,z2,z3⟩
   rcases key Y.n (Nat.le_refl _) with z|⟨j,z1,z2,z3⟩
   .exact absurd z all
   .exact⟨j,z1,z2,z3⟩
  refine bA ex λj j1 j2 j3=> .inr ⟨j,j1,λk hk=>by rw [L.bK (by lia),j3 k hk],?_⟩
  rw [L.bK j1]
  rcases Nat.lt_trichotomy (Y.im t j) j with z|z|z
  .have:=L.inj hs (L.iS hs j1) j1 (j3 _ z)
   lia
  .exact absurd z j2
  .exact z
noncomputable def FJ (Y:Pg α) (M:α->Prop):List (Rg α)->Nat->Prop
 |[],i=>i=Y.n
 |R::l,i=>i < Y.n/\(∀p x,(p,x)∈R->dW Y M i p x)/\(∀t,M t->gS Y t i-> ∃x,(Y.im t i,x)∈R)/\(R.map (·.1)).Nodup /\FJ Y M l (i + 1)
theorem FJ.hm (L:fU Y) (hM:gT Y M): ∀{l:List (Rg α)}{i:Nat},FJ Y M l i->Hm Y M l i
 |[],i,h=>by
  have h':i=Y.n:=h
  refine⟨h,λt=>⟨λht=>?_,λ⟨h1,h2⟩=>?_⟩⟩
  .have e:t=Y.one:=ht
   rw [e]
   exact⟨hM.one,λk hk=>L.bK (by lia)⟩
  .exact L.ext (hM.s t h1) L.s1 λk hk=>by rw [h2 k (by lia),L.bK hk]
 |R::l,i,⟨hi,hb,ha,nd,hl⟩=>by
  have ih:=FJ.hm L hM hl
  have FK:(i,Y.one)∈R:=by
   obtain⟨x,hx⟩:=ha Y.one hM.one λk hk=>L.bK (by lia)
   rw [L.bK hi] at hx
   have:=(hb i x hx).JH (yo L hM hi)
   rw [this] at hx
   exact hx
  have hV:VL Y (R::l) i:=⟨⟨λp u hu=>by
   exact yR (hb p u hu) λb1 b2 b3 _=>⟨hM.s u b1,b2,b3⟩,FK,nd⟩,hi,ih.1⟩
  refine⟨hV,λt=>⟨?_,λ⟨h1,h2⟩=>?_⟩⟩
  .rintro⟨p,u,w,hu,hw,e⟩
   refine yR (hb p u hu) λb1 b2 b3 _=>?_
   obtain⟨mw,fw⟩:=(ih.2 w).mp hw
   rw [e]
   exact⟨hM.mul _ _ mw b1,gS.mul L (hM.s w mw) (hM.s u b1) (by lia) (λk hk=>fw k (by lia)) b2⟩
  .obtain⟨x,hx⟩:=ha t h1 h2
   refine yR (hb _ x hx) λb1 b2 b3 _=>?_
   have st:=hM.s t h1
   have sx:=hM.s x b1
   have sI:=L.si sx
   refine⟨_,x,Y.mul t (Y.inv x),hx,(ih.2 _).mpr ⟨hM.mul _ _ h1 (hM.inv _ b1),λk hk=>?_⟩,by rw [L.assoc st sI sx,L.inv_mul sx,L.mul_one st]⟩
   rw [L.aZ st sI (by lia)]
   rcases Nat.lt_or_ge k i with z|z
   .rw [h2 k z]; exact gS.inv L sx (by lia) b2 k z
   .have e:k=i:=by lia
    rw [e,<-b3,<-L.aZ sx sI hi,L.gj sx,L.bK hi]
noncomputable def TL (Y:Pg α):List (Rg α)->List α
 |[]=>[Y.one]
 |R::l=>R.flatMap λe=>(TL Y l).map λw=>Y.mul w e.2
theorem gU: ∀{l:List (Rg α)}{t:α},t∈TL Y l↔H Y l t
 |[],t=>List.mem_singleton
 |R::l,t=>by
  unfold TL
  simp only [List.mem_flatMap,List.mem_map]
  constructor
  .rintro⟨e,he,w,hw,rfl⟩
   exact⟨e.1,e.2,w,he,gU.mp hw,rfl⟩
  .rintro⟨p,u,w,hu,hw,e⟩
   exact⟨(p,u),hu,w,gU.mpr hw,e.symm⟩
theorem lH (L:fU Y): ∀{l:List (Rg α)}{i:Nat},VL Y l i->(TL Y l).Nodup
 |[],_,_=>by simp [TL]
 |R::l,i,⟨hV,hi,hl⟩=>by
  have ih:=lH L hl
  have good: ∀w,w∈TL Y l->Y.S w/\gS Y w (i + 1):=λw hw=>H.good L hl (gU.mp hw)
  have key: ∀{R':Rg α},(∀p u,(p,u)∈R'->Y.S u/\Y.im u i=p)->(R'.map (·.1)).Nodup ->(R'.flatMap λe=>(TL Y l).map λw=>Y.mul w e.2).Nodup :=λ{R'}=>by
   induction R' with
   |nil=>intro _ _; simp
   |cons e R' DV=>
    intro hs nd
    rw [List.map_cons,List.nodup_cons] at nd
    obtain⟨se,pe⟩:=hs e.1 e.2 List.mem_cons_self
    rw [List.flatMap_cons,List.nodup_append]
    refine⟨?_,DV (λp u h=>hs p u (List.mem_cons_of_mem _ h)) nd.2,λa ha b hb z=>?_⟩
    .refine List.pairwise_map.mpr (ih.imp_of_mem λ{a b} ha hb fX rB=>fX ?_)
     have sa:=(good a ha).1
     have sb:=(good b hb).1
     have sI:=L.si se
     have:Y.mul (Y.mul a e.2) (Y.inv e.2)=Y.mul (Y.mul b e.2) (Y.inv e.2):=congrArg (λx=>Y.mul x (Y.inv e.2)) rB
     rwa [L.assoc sa se sI,L.assoc sb se sI,L.gj se,L.mul_one sa,L.mul_one sb] at this
    .refine ae (List.mem_map.mp ha) λw hw af=>?_
     subst af
     refine ae (List.mem_flatMap.mp hb) λe' vk i8=>ae (List.mem_map.mp i8) λw' tq aO=>?_
     subst aO
     obtain⟨UJ,UK⟩:=hs e'.1 e'.2 (List.mem_cons_of_mem _ vk)
     have h1:Y.im (Y.mul w e.2) i=e.1:=by rw [L.aZ (good w hw).1 se hi,(good w hw).2 i (by lia),pe]
     have h2:Y.im (Y.mul w' e'.2) i=e'.1:=by rw [L.aZ (good w' tq).1 UJ hi,(good w' tq).2 i (by lia),UK]
     rw [z,h2] at h1
     exact nd.1 (List.mem_map.mpr ⟨e',vk,h1⟩)
  exact key (λp u h=>⟨(hV.st p u h).1,(hV.st p u h).2.2⟩) hV.nd
end
end jL
namespace jL
open Py
noncomputable def pg (s:Nat):Pg (List Int) where
 n:=s
 S:=λp=>p∈perms s
 mul:=comp
 inv:=ip
 one:=bG s
 im:=λp k=>(p.getD k 0).toNat
section
variable {s:Nat}
theorem FL (hp:p∈perms s) (hk:k < s):p.getD k 0∈p:=getD_mem (by rw [ax hp]; exact hk)
theorem yp (hp:p∈perms s) (hk:k < s):0<=p.getD k 0/\p.getD k 0 < s:=(ay.mp hp).2.2 _ (FL hp hk)
theorem gG (hp:p∈perms s) (hk:k < s):p.getD k 0=(((pg s).im p k:Nat):Int):=by
 have:=yp hp hk
 show _=(((p.getD k 0).toNat :Nat):Int)
 lia
theorem By (hp:p∈perms s) (hk:k < s):(comp p q).getD k 0=q.getD (p.getD k 0).toNat 0:=by
 have hl:k < p.length:=by rw [ax hp]; exact hk
 unfold comp
 rw [List.getD_eq_getElem?_getD,List.getElem?_map,List.getElem?_eq_getElem hl,List.getD_eq_getElem?_getD (l:=p),List.getElem?_eq_getElem hl]
 rfl
theorem rO (hk:k < s):(bG s).getD k 0=(k:Int):=by
 unfold bG
 rw [List.getD_eq_getElem?_getD,List.getElem?_map,List.getElem?_range hk]
 rfl
theorem az:fU (pg s) where
 s1:=dD s
 sm:=λha hb=>gg ha hb
 si:=λha=>iQ ha
 assoc:=λha hb _=>gR ha hb
 mul_one:=λha=>iP ha
 one_mul:=λha=>lD ha
 gj:=λha=>Bu ha
 inv_mul:=λha=>tW ha
 bK:=λ{k} hk=>by
  show((bG s).getD k 0).toNat =k
  rw [rO (s:=s) hk]; lia
 aZ:=λ{a b k} ha hb hk=>by
  show((comp a b).getD k 0).toNat =(b.getD (a.getD k 0).toNat 0).toNat
  rw [By ha hk]
 iS:=λ{a k} ha hk=>by
  have:=yp ha hk
  show(a.getD k 0).toNat < s
  lia
 ext:=λ{a b} ha hb h=>by
  apply List.ext_getElem?
  intro k
  rcases Nat.lt_or_ge k s with z|z
  .have h1:=gG ha z
   have h2:=gG hb z
   have h3:=h k z
   rw [h3] at h1
   have e:a.getD k 0=b.getD k 0:=h1.trans h2.symm
   rw [List.getD_eq_getElem?_getD,List.getD_eq_getElem?_getD] at e
   have la:k < a.length:=by rw [ax ha]; exact z
   have lb:k < b.length:=by rw [ax hb]; exact z
   rw [List.getElem?_eq_getElem la,List.getElem?_eq_getElem lb] at e ⊢
   simpa using e
  .rw [List.getElem?_eq_none (by rw [ax ha]; exact z),List.getElem?_eq_none (by rw [ax hb]; exact z)]
theorem t8: ∀{a b:List Int},a.length=b.length->(bI.bh a b=true↔ ∃i,i < a.length/\(∀k,k < i->a.getD k 0=b.getD k 0)/\a.getD i 0 < b.getD i 0)
 |[],[],_=>by simp [bI.bh]
 |[],_::_,h=>by simp at h
 |_::_,[],h=>by simp at h
 |x::a,y::b,h=>by
  have hl:a.length=b.length:=by simpa using h
  unfold bI.bh
  by_cases e:x=y
  .rw [if_pos e,t8 hl]
   constructor
   .rintro⟨i,h1,h2,h3⟩
    refine⟨i + 1,by simpa using h1,λk hk=>?_,by simpa using h3⟩
    cases k with
    |zero=>simpa using e
    |succ k=>simpa using h2 k (by lia)
   .rintro⟨i,h1,h2,h3⟩
    cases i with
    |zero=>
     have:x < y:=by simpa using h3
     lia
    |succ i=>exact⟨i,by simpa using h1,λk hk=>by simpa using h2 (k + 1) (by lia),by simpa using h3⟩
  .rw [if_neg e]
   constructor
   .intro h
    have:=of_decide_eq_true h
    exact⟨0,by simp,λk hk=>by lia,by simpa using this⟩
   .rintro⟨i,h1,h2,h3⟩
    cases i with
    |zero=>exact decide_eq_true (by simpa using h3)
    |succ i=>exact absurd (by simpa using h2 0 (by lia)) e
theorem Bz (ha:a∈perms s) (hb:b∈perms s):Lt (pg s) a b↔bI.bh a b=true:=by
 have la:=ax ha
 have lb:=ax hb
 rw [t8 (la.trans lb.symm),la]
 constructor
 .rintro⟨i,h1,h2,h3⟩
  refine⟨i,h1,λk hk=>?_,?_⟩
  .rw [gG ha (Nat.lt_trans hk h1),gG hb (Nat.lt_trans hk h1),h2 k hk]
  .rw [gG ha h1,gG hb h1]; lia
 .rintro⟨i,h1,h2,h3⟩
  refine⟨i,h1,λk hk=>?_,?_⟩
  .show(a.getD k 0).toNat =(b.getD k 0).toNat
   rw [h2 k hk]
  .have:=yp ha h1
   show(a.getD i 0).toNat < (b.getD i 0).toNat
   lia
theorem yr (L:fU (pg s)) (hG: ∀u,G u->u∈perms s) (hu:Gen (pg s) G u): ∀m,Gen (pg s) G (pw u m)
 |0=>by
  have hp:u∈perms s:=Gen.S L hG hu
  have:pw u 0=bG s:=by show bG u.length=bG s; rw [ax hp]
  rw [this]; exact .one
 |m + 1=>by
  have:=Gen.app L hG (yr L hG hu m) hu
  exact this
theorem iT (h6:s<=6) (hG: ∀u,G u->u∈perms s):gT (pg s) (Gen (pg s) G) where
 s:=λt ht=>Gen.S az hG ht
 one:= .one
 mul:=λa b ha hb=>Gen.app az hG ha hb
 inv:=λa ha=>by
  have hp:a∈perms s:=Gen.S az hG ha
  refine yR (yi h6 hp) λo1 o2 o3 _=>?_
  have e:comp a (pw a (vj a - 1))=bG s:=by
   have:=yh hp 1 (vj a - 1)
   rw [FF hp,show 1 + (vj a - 1)=vj a by lia,o1] at this
   exact this.symm
  have:ip a=pw a (vj a - 1):=(vh hp (iR hp _) e).symm
  show Gen (pg s) G (ip a)
  rw [this]
  exact yr az hG ha _
end
end jL
namespace jL
section
variable {α:Type}{Y:Pg α}
open Classical in
noncomputable def cc (Y:Pg α) (M:α->Prop) (i p:Nat):α:=@Classical.epsilon α ⟨Y.one⟩ (dW Y M i p)
theorem eJ (h:dW Y M i p x):cc Y M i p=x:=(@Classical.epsilon_spec α (dW Y M i p) ⟨x,h⟩).JH h
open Classical in
noncomputable def aQ (Y:Pg α) (M:α->Prop) (i:Nat):Rg α:=((List.range Y.n).filter λp=>decide (∃x,dW Y M i p x)).map λp=>(p,cc Y M i p)
theorem lI {l:List Nat} (h:l.Pairwise (· < ·)):l.Nodup:=h.imp λz e=>by lia
theorem JI {l m:List Nat} (h1:l.Pairwise (· < ·)) (h2:m.Pairwise (· < ·)) (h: ∀a,a∈l↔a∈m):l=m:=
 ((List.perm_ext_iff_of_nodup (lI h1) (lI h2)).mpr h).eq_of_pairwise (λa b _ _ x y=>by lia) h1 h2
theorem yt (L:fU Y) {M:α->Prop}{i:Nat} (hi:i < Y.n) (hM: ∀t,M t->Y.S t) {R:Rg α} (hb: ∀p x,(p,x)∈R->dW Y M i p x) (ha: ∀t,M t->gS Y t i-> ∃x,(Y.im t i,x)∈R) (hs:(R.map (·.1)).Pairwise (· < ·)):R=aQ Y M i:=by
 have keys:R.map (·.1)=(List.range Y.n).filter λp=>@decide (∃x,dW Y M i p x) (Classical.propDecidable _):=by
  refine JI hs (List.pairwise_lt_range.sublist (List.filter_sublist)) λp=>?_
  rw [List.mem_filter,List.mem_range,List.mem_map]
  constructor
  .rintro⟨⟨q,x⟩,h1,h2⟩
   have Jd:q=p:=h2
   subst Jd
   have b:=hb q x h1
   exact⟨by rw [<-b.2.2.1]; exact L.iS (hM x b.1) hi,@decide_eq_true _ (Classical.propDecidable _) ⟨x,b⟩⟩
  .rintro⟨h1,h2⟩
   obtain⟨x,b⟩:=@of_decide_eq_true _ (Classical.propDecidable _) h2
   obtain⟨y,hy⟩:=ha x b.1 b.2.1
   rw [b.2.2.1] at hy
   exact⟨(p,y),hy,rfl⟩
 unfold aQ
 rw [<-keys,List.map_map]
 have:R=R.map id:=(List.map_id R).symm
 conv=>lhs; rw [this]
 refine List.map_congr_left λe he=>?_
 show e=(e.1,cc Y M i e.1)
 rw [eJ (hb e.1 e.2 he)]
theorem yu:((aQ Y M i).map (·.1)).Pairwise (· < ·):=by
 unfold aQ
 rw [List.map_map]
 have:((λx:Nat×α=>x.1) ∘ λp=>(p,cc Y M i p))=id:=rfl
 rw [this,List.map_id]
 exact List.pairwise_lt_range.sublist List.filter_sublist
theorem rP: ∀p x,(p,x)∈aQ Y M i->dW Y M i p x:=λp x h=>by
 refine ae (List.mem_map.mp h) λq hq e=>?_
 cases e
 obtain⟨y,hy⟩:=@of_decide_eq_true _ (Classical.propDecidable _) (List.mem_filter.mp hq).2
 rw [eJ hy]
 exact hy
noncomputable def ju (Y:Pg α) (M:α->Prop) (i:Nat):List (Rg α):=(List.range' i (Y.n - i)).map (aQ Y M)
theorem qA (L:fU Y) {M:α->Prop} (hM:gT Y M) (qB: ∀i t,i < Y.n->M t->gS Y t i-> ∃x,dW Y M i (Y.im t i) x): ∀(m i:Nat),i + m=Y.n->FJ Y M ((List.range' i m).map (aQ Y M)) i
 |0,i,h=>by
  show i=Y.n
  lia
 |m + 1,i,h=>by
  rw [List.range'_succ,List.map_cons]
  have hi:i < Y.n:=by lia
  refine⟨hi,rP,λt ht hf=>?_,lI yu,qA L hM qB m (i + 1) (by lia)⟩
  obtain⟨x,hx⟩:=qB i t hi ht hf
  have hp:Y.im t i < Y.n:=L.iS (hM.s t ht) hi
  exact⟨cc Y M i (Y.im t i),List.mem_map.mpr ⟨Y.im t i,List.mem_filter.mpr ⟨List.mem_range.mpr hp,@decide_eq_true _ (Classical.propDecidable _) ⟨x,hx⟩⟩,rfl⟩⟩
theorem yv (f:β->Nat): ∀{l:List β},l≠[]-> ∃e∈l,∀e'∈l,f e<=f e'
 |[],h=>absurd rfl h
 |[x],_=>⟨x,List.mem_singleton.mpr rfl,λy hy=>by rw [List.mem_singleton.mp hy]; exact Nat.le_refl _⟩
 |x::y::l,_=>by
  refine ae (yv f (l:=y::l) (by simp)) λe h1 h2=>?_
  by_cases c:f x<=f e
  .refine⟨x,List.mem_cons_self,λz hz=>?_⟩
   rcases List.mem_cons.mp hz with rfl|hz
   .exact Nat.le_refl _
   .exact Nat.le_trans c (h2 z hz)
  .refine⟨e,List.mem_cons_of_mem _ h1,λz hz=>?_⟩
   rcases List.mem_cons.mp hz with rfl|hz
   .lia
   .exact h2 z hz
theorem LM.ex: ∀{l:List (Rg α)}{i:Nat},VL Y l i-> ∀u,∃x,LM Y l u x
 |[],_,_,u=>⟨u,.nil⟩
 |R::l,i,⟨hV,_,hl⟩,u=>by
  refine ae (yv (λe:Nat×α=>Y.im u e.1) (l:=R) (λz=>by have:=hV.one; rw [z] at this; cases this)) λe h1 h2=>?_
  obtain⟨x,hx⟩:=LM.ex hl (Y.mul e.2 u)
  refine⟨x,.cons (p:=e.1) (v:=e.2) h1 (λq hq=>?_) hx⟩
  refine ae (List.mem_map.mp hq) λe' vk af=>?_
  subst af
  exact h2 e' vk
theorem Hm.t9 (L:fU Y) (hM:gT Y M): ∀{l:List (Rg α)}{i:Nat},Hm Y M l i-> ∀j t,i<=j->j < Y.n->M t->gS Y t j-> ∃x,dW Y M j (Y.im t j) x
 |[],i,h,j,t,h1,h2,_,_=>by
  have:i=Y.n:=h.1
  lia
 |R::l,i,h,j,t,h1,h2,ht,hf=>by
  rcases Nat.lt_or_ge i j with z|z
  .exact Hm.t9 L hM (h.tail L) j t (by lia) h2 ht hf
  .have e:j=i:=by lia
   subst e
   refine ba (h.split L ht hf) λu w hu _ _=>?_
   obtain⟨x,hx⟩:=LM.ex h.1.2.2 u
   exact⟨x,h.best L hM hu hx⟩
theorem qC (L:fU Y) (hM:gT Y M) (h:Hm Y M l 0):FJ Y M (ju Y M 0) 0/\(∀t,t∈TL Y (ju Y M 0)↔M t)/\(TL Y (ju Y M 0)).Nodup :=by
 have hl:FJ Y M (ju Y M 0) 0:=qA L hM (λi t hi ht hf=>h.t9 L hM i t (Nat.zero_le _) hi ht hf) _ 0 (by lia)
 have hm:=hl.hm L hM
 refine⟨hl,λt=>?_,lH L hm.1⟩
 rw [gU,hm.2 t]
 exact⟨λz=>z.1,λz=>⟨z,λk hk=>by lia⟩⟩
theorem Fd.hm (L:fU Y) (hG: ∀u,G u->Y.S u) (h:Fd Y G l []):Hm Y (Gen Y G) l 0:=
 ⟨h.v,λt=>⟨λz=>⟨(h.done L hG t).mp z,λk hk=>by lia⟩,λz=>(h.done L hG t).mpr z.1⟩⟩
end
end jL
namespace jL
section
variable {α:Type}{Y:Pg α}
structure Al (Y:Pg α) (G:List α) (B W:List α):Prop where
 one:Y.one∈B
 nd:B.Nodup
 wb: ∀x∈W,x∈B
 gen: ∀x∈B,Gen Y (· ∈G) x
 out: ∀x∈B,x∉W-> ∀g∈G,Y.mul x g∈B
theorem UL (G:List α):Al Y G [Y.one] [Y.one] where
 one:=List.mem_singleton.mpr rfl
 nd:=by simp
 wb:=λ_ h=>h
 gen:=λx hx=>by rw [List.mem_singleton.mp hx]; exact .one
 out:=λx hx h=>absurd hx h
structure Am (Y:Pg α) (G:List α) (t:α) (D B W:List α):Prop where
 one:Y.one∈B
 nd:B.Nodup
 wb: ∀x∈W,x∈B
 gen: ∀x∈B,Gen Y (· ∈G) x
 tb:t∈B
 out: ∀x∈B,x∉W->x≠t-> ∀g∈G,Y.mul x g∈B
 now: ∀g∈D,Y.mul t g∈B
theorem Al.start (h:Al Y G B (W++[t])):Am Y G t [] B W where
 one:=h.one
 nd:=h.nd
 wb:=λx hx=>h.wb x (List.mem_append_left _ hx)
 gen:=h.gen
 tb:=h.wb t (List.mem_append_right _ (List.mem_singleton.mpr rfl))
 out:=λx hx h1 h2=>h.out x hx λz=>(List.mem_append.mp z).elim h1 λz=>h2 (List.mem_singleton.mp z)
 now:=λ_ h=>nomatch h
theorem Am.old (h:Am Y G t D B W) (hg:Y.mul t g∈B):Am Y G t (D++[g]) B W:=
 ⟨h.one,h.nd,h.wb,h.gen,h.tb,h.out,λx hx=>(List.mem_append.mp hx).elim (h.now x) λz=>by rw [List.mem_singleton.mp z]; exact hg⟩
theorem Am.new (h:Am Y G t D B W) (hG:g∈G) (hg:Y.mul t g∉B):Am Y G t (D++[g]) (B++[Y.mul t g]) (W++[Y.mul t g]) where
 one:=List.mem_append_left _ h.one
 nd:=by
  rw [List.nodup_append]
  exact⟨h.nd,by simp,λa ha b hb e=>hg (by rw [<-List.mem_singleton.mp hb,<-e]; exact ha)⟩
 wb:=λx hx=>(List.mem_append.mp hx).elim (λz=>List.mem_append_left _ (h.wb x z)) λz=>List.mem_append_right _ z
 gen:=λx hx=>(List.mem_append.mp hx).elim (h.gen x) λz=>by
  rw [List.mem_singleton.mp z]
  exact .mul (h.gen t h.tb) hG
 tb:=List.mem_append_left _ h.tb
 out:=λx hx h1 h2 g' IW=>by
  rcases List.mem_append.mp hx with z|z
  .exact List.mem_append_left _ (h.out x z (λy=>h1 (List.mem_append_left _ y)) h2 g' IW)
  .exact absurd (List.mem_append_right _ z) h1
 now:=λx hx=>(List.mem_append.mp hx).elim (λz=>List.mem_append_left _ (h.now x z)) λz=>by
  rw [List.mem_singleton.mp z]
  exact List.mem_append_right _ (List.mem_singleton.mpr rfl)
theorem Am.fin (h:Am Y G t D B W) (hD: ∀g∈G,g∈D):Al Y G B W where
 one:=h.one
 nd:=h.nd
 wb:=h.wb
 gen:=h.gen
 out:=λx hx hw g hg=>by
  by_cases e:x=t
  .rw [e]; exact h.now g (hD g hg)
  .exact h.out x hx hw e g hg
theorem Al.done (h:Al Y G B []) (t:α):t∈B↔Gen Y (· ∈G) t:=by
 refine⟨h.gen t,λz=>?_⟩
 induction z with
 |one=>exact h.one
 |mul _ hu ih=>exact h.out _ ih (by simp) _ hu
end
theorem vm (h6:s<=6) (hG: ∀u∈G,u∈Py.perms s) (hB:Al (pg s) G B []) (hl:Fd (pg s) (· ∈G) l []):
  bI.aK B=bI.aK (TL (pg s) (ju (pg s) (Gen (pg s) (· ∈G)) 0))/\B.length=(TL (pg s) (ju (pg s) (Gen (pg s) (· ∈G)) 0)).length :=by
 refine cK (qC az (iT h6 hG) (hl.hm az hG)) λ_ h2 h3=>?_
 have p:B.Perm (TL (pg s) (ju (pg s) (Gen (pg s) (· ∈G)) 0)):=(List.perm_ext_iff_of_nodup hB.nd h3).mpr λt=>(hB.done t).trans (h2 t).symm
 exact⟨bI.rE p,p.length_eq⟩
end jL
namespace iU
open Py
noncomputable def d0:Fd:=⟨1,1,(.seq (.ret (.iZ .tuple (.cons (.var 0) .nil))) .skip)⟩
noncomputable def d1:Fd:=⟨2,2,(.seq (.ret (.prim .tuple (.cons (.comp [1] 0 (.it (.var 0)) .nil (.idx (.var 1) (.var 0))) .nil))) .skip)⟩
noncomputable def d2:Fd:=⟨1,1,(.seq (.ret (.prim .tuple (.cons (.comp [0] 0 (.dQ (.cons (.prim .len (.cons (.var 0) .nil)) .nil)) .nil (.dZ .index (.var 1) (.cons (.var 0) .nil))) .nil))) .skip)⟩
noncomputable def d3:Fd:=⟨2,5,(.seq (.asg 2 (.var 1)) (.seq (.for [3,4] 2 (.zL (.var 0)) (.seq (.ifs (.uG true (.idx (.var 2) (.var 3)) 4) (.seq (.ret (.var 2)) .skip) .skip) (.seq (.asg 2 (.call 1 (.cons (.var 2) (.cons (.call 2 (.cons (.dm 4 (.idx (.var 2) (.var 3))) .nil)) .nil)))) .skip))) (.seq (.ret (.var 2)) .skip)))⟩
noncomputable def d4:Fd:=⟨2,5,(.seq (.cC 2 (.lst .nil)) (.seq (.for [3] 0 (.it (.var 0)) (.seq (.for [4] 0 (.dv 3) (.seq (.app 2 (.call 1 (.cons (.var 1) (.cons (.var 4) .nil)))) (.seq (.app 2 (.call 1 (.cons (.var 4) (.cons (.var 1) .nil)))) .skip))) .skip)) (.seq (.ret (.var 2)) .skip)))⟩
noncomputable def d5:Fd:=⟨2,7,(.fst 2 [1] (.dQ (.cons (.var 1) .nil)) (.var 0) (.call 0 (.cons (.var 1) .nil)) (.cC 3 (.prim .list (.cons (.var 0) .nil))) 3 4 3 (.cC 5 (.comp [4] 0 (.dQ (.cons (.var 1) .nil)) (.cons (.cmp .NotEq (.idx (.var 1) (.var 0)) (.var 0)) .nil) (.var 0))) 5 (.asg 6 (.idx (.var 5) (.c (.int 0)))) (.var 6) (.idx (.var 4) (.var 6)) (.var 4) 4 (.var 4))⟩
noncomputable def d6:Fd:=⟨3,6,(.seq (.asg 3 (.var 2)) (.seq (.for [4] 0 (.it (.sl (.var 0) (.cons (.bin .Add (.var 1) (.c (.int 1))) .nil) .nil)) (.seq (.asg 5 (.prim .min (.cons (.comp [3] 0 (.dk 4) .nil (.idx (.var 1) (.var 0))) .nil))) (.seq (.asg 3 (.call 1 (.cons (.dm 4 (.dZ .index (.var 3) (.cons (.var 5) .nil))) (.cons (.var 3) .nil)))) .skip))) (.seq (.ret (.var 3)) .skip)))⟩
noncomputable def d7:Fd:=⟨2,3,(.seq (.asg 2 (.idx (.var 0) (.var 1))) (.seq (.ret (.prim .tuple (.cons (.comp [0,1,2] 0 (.it (.dM 2)) .nil (.tup (.cons (.var 0) (.cons (.call 6 (.cons (.var 1) (.cons (.var 2) (.cons (.dm 3 (.var 0)) .nil)))) .nil)))) .nil))) .skip))⟩
noncomputable def d8:Fd:=⟨2,3,(.seq (.asg 2 (.call 5 (.cons (.var 0) (.cons (.var 1) .nil)))) (.seq (.ret (.prim .tuple (.cons (.comp [2] 0 (.dQ (.cons (.var 1) .nil)) .nil (.call 7 (.cons (.var 1) (.cons (.var 0) .nil)))) .nil))) .skip))⟩
noncomputable def d9:Fd:=⟨1,3,(.seq (.asg 1 (.c (.int 1))) (.seq (.for [2] 0 (.it (.var 0)) (.seq (.asg 1 (.bin .Mult (.var 1) (.prim .len (.cons (.var 2) .nil)))) .skip)) (.seq (.ret (.var 1)) .skip)))⟩
noncomputable def vn:Fd:=⟨1,5,(.seq (.cC 1 (.lst (.cons (.call 0 (.cons (.prim .len (.cons (.var 0) .nil)) .nil)) .nil))) (.seq (.for [2] 0 (.Cc (.var 0)) (.seq (.cC 3 (.lst .nil)) (.seq (.for [4] 0 (.it (.var 2)) (.seq (.ext 3 (.comp [4] 0 (.it (.var 1)) .nil (.call 1 (.cons (.var 0) (.cons (.idx (.var 1) (.c (.int 1))) .nil))))) .skip)) (.seq (.Cd 1 3) .skip)))) (.seq (.ret (.prim .tuple (.cons (.prim .sorted (.cons (.var 1) .nil)) .nil))) .skip)))⟩
noncomputable def Nx:Fd:=⟨2,2,(.seq (.ifs (.cmp .Lt (.var 1) (.prim .len (.cons (.var 0) .nil))) (.seq (.ret (.idx (.var 0) (.var 1))) .skip) .skip) (.seq (.ret (.c (.int 0))) .skip))⟩
noncomputable def Ny:Fd:=⟨2,3,(.seq (.asg 2 (.bin .Mod (.bin .Mult (.bin .Add (.bin .Add (.call 11 (.cons (.var 0) (.cons (.var 1) .nil))) (.bin .Mult (.c (.int 7919)) (.var 1))) (.c (.int 1))) (.c (.int 48271))) (.c (.int 2147483647)))) (.seq (.ret (.bin .Mod (.bin .Add (.bin .Add (.bin .Mult (.var 2) (.var 2)) (.bin .Mult (.c (.int 7)) (.var 2))) (.var 1)) (.c (.int 2147483629)))) .skip))⟩
noncomputable def Nz:Fd:=⟨2,3,(.seq (.asg 2 (.bin .Mod (.bin .Mult (.bin .Add (.bin .Add (.var 0) (.bin .Mult (.c (.int 104729)) (.var 1))) (.c (.int 17))) (.c (.int 69621))) (.c (.int 2147483647)))) (.seq (.ret (.bin .Mod (.bin .Add (.bin .Add (.bin .Mult (.var 2) (.var 2)) (.bin .Mult (.c (.int 3)) (.var 2))) (.var 1)) (.c (.int 2147483629)))) .skip))⟩
noncomputable def NA:Fd:=⟨2,10,(.seq (.cC 2 (.iZ .list (.cons (.var 1) .nil))) (.seq (.ifs (.cmp .Eq (.bin .Mod (.var 0) (.c (.int 3))) (.c (.int 0))) (.seq (.asg 3 (.bin .Mod (.bin .FloorDiv (.var 0) (.c (.int 3))) (.var 1))) (.seq (.asg 4 (.bin .Mod (.bin .FloorDiv (.var 0) (.c (.int 18))) (.var 1))) (.seq (.mj 2 (.var 3) (.var 4)) (.seq (.mj 2 (.var 4) (.var 3)) (.seq (.ret (.prim .tuple (.cons (.var 2) .nil))) .skip))))) .skip) (.seq (.ifs (.cmp .Eq (.bin .Mod (.var 0) (.c (.int 3))) (.c (.int 1))) (.seq (.asg 5 (.bin .Add (.c (.int 1)) (.bin .Mod (.bin .FloorDiv (.var 0) (.c (.int 3))) (.var 1)))) (.seq (.asg 6 (.bin .Mod (.bin .FloorDiv (.var 0) (.c (.int 18))) (.var 1))) (.seq (.for [7] 0 (.dQ (.cons (.var 5) .nil)) (.seq (.mj 2 (.bin .Mod (.bin .Add (.var 6) (.var 7)) (.var 1)) (.bin .Mod (.bin .Add (.var 6) (.bin .Mod (.bin .Add (.var 7) (.c (.int 1))) (.var 5))) (.var 1))) .skip)) (.seq (.ret (.prim .tuple (.cons (.var 2) .nil))) .skip)))) .skip) (.seq (.cC 8 (.lst .nil)) (.seq (.for [7] 0 (.dQ (.cons (.var 1) .nil)) (.seq (.asg 9 (.bin .Mod (.call 13 (.cons (.var 0) (.cons (.var 7) .nil))) (.bin .Add (.prim .len (.cons (.var 8) .nil)) (.c (.int 1))))) (.seq (.cC 8 (.bin .Add (.bin .Add (.sl (.var 8) .nil (.cons (.var 9) .nil)) (.lst (.cons (.var 7) .nil))) (.sl (.var 8) (.cons (.var 9) .nil) .nil))) .skip))) (.seq (.ret (.prim .tuple (.cons (.var 8) .nil))) .skip))))))⟩
noncomputable def NB:Fd:=⟨2,2,(.seq (.ret (.prim .tuple (.cons (.comp [0,1] 0 (.dQ (.cons (.idx (.tup (.cons (.c (.int 1)) (.cons (.c (.int 1)) (.cons (.c (.int 2)) (.cons (.c (.int 2)) (.cons (.c (.int 3)) (.cons (.c (.int 0)) (.cons (.c (.int 6)) .nil)))))))) (.bin .Mod (.var 0) (.c (.int 7)))) .nil)) .nil (.call 14 (.cons (.call 13 (.cons (.var 1) (.cons (.var 0) .nil))) (.cons (.var 2) .nil)))) .nil))) .skip)⟩
noncomputable def NC:Fd:=⟨2,2,(.seq (.ret (.prim .tuple (.cons (.comp [1] 0 (.it (.var 0)) .nil (.idx (.var 1) (.var 0))) .nil))) .skip)⟩
noncomputable def za:Fd:=⟨2,8,(.seq (.asg 2 (.iZ .tuple (.cons (.var 1) .nil))) (.seq (.nV 3 1 (.cons (.var 2) (.cons (.c (.bl true)) .nil))) (.seq (.cC 4 (.lst (.cons (.var 2) .nil))) (.seq (.while (.cmp .NotEq (.var 4) (.lst .nil)) (.seq (.pop 5 4) (.seq (.for [6] 0 (.it (.var 0)) (.seq (.asg 7 (.call 16 (.cons (.var 5) (.cons (.var 6) .nil)))) (.seq (.ifs (.uG true (.var 7) 3) (.seq (.pJ 3 (.var 7) (.c (.bl true))) (.seq (.app 4 (.var 7)) .skip)) .skip) .skip))) .skip))) (.seq (.ret (.dM 3)) .skip)))))⟩
noncomputable def CH:Fd:=⟨2,7,(.seq (.cC 2 (.lst .nil)) (.seq (.for [3] 0 (.dQ (.cons (.var 1) .nil)) (.seq (.cC 4 (.lst .nil)) (.seq (.for [5] 0 (.dQ (.cons (.var 1) .nil)) (.seq (.cC 6 (.comp [3,5] 0 (.it (.var 0)) (.cons (.qH true (.cons (.cmp .Eq (.sl (.var 0) .nil (.cons (.var 1) .nil)) (.iZ .tuple (.cons (.var 1) .nil))) (.cons (.cmp .Eq (.idx (.var 0) (.var 1)) (.var 2)) .nil))) .nil) (.var 0))) (.seq (.ifs (.cmp .NotEq (.var 6) (.lst .nil)) (.seq (.app 4 (.tup (.cons (.var 5) (.cons (.prim .min (.cons (.var 6) .nil)) .nil)))) .skip) .skip) .skip))) (.seq (.app 2 (.prim .tuple (.cons (.var 4) .nil))) .skip)))) (.seq (.ret (.prim .tuple (.cons (.var 2) .nil))) .skip)))⟩
noncomputable def BA:Fd:=⟨1,6,(.seq (.asg 1 (.bin .Add (.c (.int 1)) (.bin .Mod (.call 12 (.cons (.var 0) (.cons (.c (.int 0)) .nil))) (.c (.int 6))))) (.seq (.asg 2 (.call 15 (.cons (.call 12 (.cons (.var 0) (.cons (.c (.int 1)) .nil))) (.cons (.var 1) .nil)))) (.seq (.asg 3 (.call 17 (.cons (.var 2) (.cons (.var 1) .nil)))) (.seq (.asg 4 (.call 8 (.cons (.var 2) (.cons (.var 1) .nil)))) (.seq (.ifs (.qH false (.cons (.cmp .NotEq (.var 4) (.call 18 (.cons (.var 3) (.cons (.var 1) .nil)))) (.cons (.cmp .NotEq (.call 10 (.cons (.var 4) .nil)) (.prim .tuple (.cons (.var 3) .nil))) .nil))) (.seq (.ret (.c (.bl false))) .skip) .skip) (.seq (.asg 5 (.call 9 (.cons (.var 4) .nil))) (.seq (.ret (.qH true (.cons (.vC (.var 5) false) (.cons (.not (.vC (.var 5) true)) (.cons (.cmp .Eq (.var 5) (.prim .len (.cons (.var 3) .nil))) (.cons (.cmp .Eq (.call 8 (.cons (.var 2) (.cons (.var 1) .nil))) (.var 4)) .nil)))))) .skip)))))))⟩
noncomputable def T:List Fd:=[d0,d1,d2,d3,d4,d5,d6,d7,d8,d9,vn,Nx,Ny,Nz,NA,NB,NC,za,CH,BA]
end iU
namespace iU
open Py jL
noncomputable abbrev kR (R:Rg (List Int)):List (List Int):=R.map λe=>[(e.1:Int)]
noncomputable abbrev vR (R:Rg (List Int)):List D:=R.map λe=>tp e.2
noncomputable def au (R:Rg (List Int)):D:= .bF 0 (kR R) (vR R)
theorem gm: ∀(R:Rg (List Int)) (k:Nat),ic (kR R) (vR R) [(k:Int)]=(gr R k).map tp
 |[],k=>rfl
 |e::R,k=>by
  show ic ([(e.1:Int)]::kR R) (tp e.2::vR R) [(k:Int)]=_
  rw [ic]
  unfold gr
  rw [List.find?_cons]
  by_cases h:e.1=k
  .subst h
   rw [if_pos rfl]
   simp
  .have h': ¬([(e.1:Int)]=[(k:Int)]):=λz=>h (by injection z with z _; lia)
   rw [if_neg h',gm R k]
   have:(e.1 == k)=false:=by simp [h]
   rw [this]
   rfl
theorem yw {R:Rg (List Int)}{k:Nat}:[(k:Int)]∈kR R↔gr R k≠none:=by
 constructor
 .intro h z
  refine ae (List.mem_map.mp h) λe he hk=>?_
  have:e.1=k:=by injection hk with hk _; lia
  exact jt z (List.mem_map.mpr ⟨e,he,this⟩)
 .intro h
  cases z:gr R k with
  |none=>exact absurd z h
  |some u=>exact List.mem_map.mpr ⟨_,eI z,rfl⟩
section
variable {s:Nat}{F:FT}
theorem lJ {t:List Int} (ht:t∈perms s) {k:Nat} (hk:k < s):item (tp t) (.int k)=some (.int ((pg s).im t k:Nat)):=by
 rw [tU (by lia) (by rw [ax ht]; lia)]
 show some (D.int (t.getD (k:Int).toNat 0))=_
 rw [Int.toNat_natCast,gG ht hk]
theorem t_ (a b:Nat):((a:Int) == (b:Int))=decide (a=b):=by
 by_cases h:a=b
 .rw [h,decide_eq_true rfl]; exact beq_self_eq_true _
 .rw [decide_eq_false h]; exact beq_eq_false_iff_ne.mpr λz=>h (by lia)
theorem VL.len {Y:Pg (List Int)}: ∀{l:List (Rg (List Int))}{i:Nat},VL Y l i->i + l.length=Y.n
 |[],i,h=>h
 |R::l,i,h=>by
  have:=VL.len h.2.2
  rw [List.length_cons]
  lia
noncomputable abbrev lo1:C:=(.seq (.ifs (.uG true (.idx (.var 2) (.var 3)) 4) (.seq (.ret (.var 2)) .skip) .skip) (.seq (.asg 2 (.call 1 (.cons (.var 2) (.cons (.call 2 (.cons (.dm 4 (.idx (.var 2) (.var 3))) .nil)) .nil)))) .skip))
noncomputable abbrev LE (x0 x1:Option (Bool×D)) (t:List Int) (x3 x4:Option (Bool×D)):Env:=[x0,x1,some (false,tp t),x3,x4]
theorem BB (ht: ∀p∈perms s,∀q∈perms s,F 1 [tp p,tp q]=some (tp (comp p q))) (hb: ∀p∈perms s,F 2 [tp p]=some (tp (ip p))) {x0 x1 x3 x4:Option (Bool×D)}{t:List Int}{i:Nat}{R:Rg (List Int)} (hi:i < s) (hv:V (pg s) i R) (hp:t∈perms s):
  ex F lo1 (LE x0 x1 t (some (false,.int i)) (some (false,au R)))=match gr R ((pg s).im t i) with
   |some u=>some (.next (LE x0 x1 (comp t (ip u)) (some (false,.int i)) (some (false,au R))))
   |none=>some (.ret (tp t)):=by
 have BC: ∀b,ev F b (.idx (.var 2) (.var 3)) (LE x0 x1 t (some (false,.int i)) (some (false,au R)))=some (.int ((pg s).im t i:Nat)):=λb=>lJ hp hi
 have BD:ev F false (.uG true (.idx (.var 2) (.var 3)) 4) (LE x0 x1 t (some (false,.int i)) (some (false,au R)))=some (.bl (!decide ([((pg s).im t i:Int)]∈kR R))):=by
  rw [ev,BC]
  rfl
 cases e:gr R ((pg s).im t i) with
 |none=>
  have hn: ¬[((pg s).im t i:Int)]∈kR R:=λz=>yw.mp z e
  rw [decide_eq_false hn] at BD
  rw [ex,ex,BD]
  rfl
 |some u=>
  have hn:[((pg s).im t i:Int)]∈kR R:=yw.mpr (by rw [e]; simp)
  rw [decide_eq_true hn] at BD
  have hu:u∈perms s:=(hv.st _ _ (eI e)).1
  have yx:ev F true (.dm 4 (.idx (.var 2) (.var 3))) (LE x0 x1 t (some (false,.int i)) (some (false,au R)))=some (tp u):=by
   rw [ev,BC]
   show ic (kR R) (vR R) [((pg s).im t i:Int)]=_
   rw [gm,e]
   rfl
  have UM:ev F true (.call 2 (.cons (.dm 4 (.idx (.var 2) (.var 3))) .nil)) (LE x0 x1 t (some (false,.int i)) (some (false,au R)))=some (tp (ip u)):=bB (js yx) (hb u hu) (aE _)
  have ND:ev F false (.call 1 (.cons (.var 2) (.cons (.call 2 (.cons (.dm 4 (.idx (.var 2) (.var 3))) .nil)) .nil))) (LE x0 x1 t (some (false,.int i)) (some (false,au R)))=some (tp (comp t (ip u))):=bB (e_ rfl UM) (ht t hp _ (iQ hu)) (aE _)
  rw [ex,ex,BD]
  show(ex F (.seq (.asg 2 _) .skip) _)=_
  rw [ex,bx ND]
  rfl
theorem ua (ht: ∀p∈perms s,∀q∈perms s,F 1 [tp p,tp q]=some (tp (comp p q))) (hb: ∀p∈perms s,F 2 [tp p]=some (tp (ip p))) {x0 x1:Option (Bool×D)}: ∀{l:List (Rg (List Int))}{i:Nat}{t:List Int}{x3 x4:Option (Bool×D)},VL (pg s) l i->t∈perms s->
  ∃o,aH (λx ρ=>(aM 2 x).bind λys=>(cX ρ [3,4] ys).bind λρ'=>ex F lo1 ρ') (bM i (l.map au)) (LE x0 x1 t x3 x4)=some o/\(o= .ret (tp (cU (pg s) l i t))\/ ∃y3 y4,o= .next (LE x0 x1 (cU (pg s) l i t) y3 y4))
 |[],i,t,x3,x4,_,_=>⟨_,rfl,.inr ⟨x3,x4,rfl⟩⟩
 |R::l,i,t,x3,x4,hv,hp=>by
  have hi:i < s:=hv.2.1
  have h1:=BB (x0:=x0) (x1:=x1) (x3:=x3) (x4:=x4) ht hb hi hv.1 hp
  show∃o,aH _ (.tup [.int i,au R]::bM ((i:Int) + 1) (l.map au)) _=some o/\_
  rw [aH]
  show∃o,(ex F lo1 (LE x0 x1 t (some (false,.int i)) (some (false,au R)))).bind _=some o/\_
  rw [h1]
  unfold cU
  cases e:gr R ((pg s).im t i) with
  |none=>exact⟨_,rfl,.inl rfl⟩
  |some u=>
   have hu:u∈perms s:=(hv.1.st _ _ (eI e)).1
   have:=ua ht hb (x0:=x0) (x1:=x1) (l:=l) (i:=i + 1) (t:=comp t (ip u)) (x3:=some (false,.int i)) (x4:=some (false,au R)) hv.2.2 (gg hp (iQ hu))
   rw [show(((i + 1:Nat):Int))=(i:Int) + 1 by lia] at this
   exact this
theorem BE (ht: ∀p∈perms s,∀q∈perms s,F 1 [tp p,tp q]=some (tp (comp p q))) (hb: ∀p∈perms s,F 2 [tp p]=some (tp (ip p))) {l:List (Rg (List Int))}{t:List Int} (hv:VL (pg s) l 0) (hp:t∈perms s):
  out (ex F d3.body (aq d3 [.lst (l.map au),tp t]))=some (tp (cU (pg s) l 0 t)):=by
 refine ae (ua ht hb (x0:=some (false,.lst (l.map au))) (x1:=some (false,tp t)) (x3:=none) (x4:=none) hv hp) λo h1 h2=>?_
 have hf:ex F (.for [3,4] 2 (.zL (.var 0)) lo1) (LE (some (false,.lst (l.map au))) (some (false,tp t)) t none none)=some o:=h1
 have hx:ex F d3.body (aq d3 [.lst (l.map au),tp t])=(ex F (.for [3,4] 2 (.zL (.var 0)) lo1) (LE (some (false,.lst (l.map au))) (some (false,tp t)) t none none)).bind λo=>match o with
   | .next ρ'=>ex F (.seq (.ret (.var 2)) .skip) ρ'
   |o=>some o:=rfl
 rw [hx,hf]
 rcases h2 with rfl|⟨y3,y4,rfl⟩
 .rfl
 .rfl
end
end iU
namespace iU
open Py jL
section
variable {s:Nat}{F:FT}
noncomputable def mF (r:List Int) (R:Rg (List Int)):List (List Int):=R.flatMap λe=>[comp r e.2,comp e.2 r]
noncomputable def a_ (r:List Int) (l:List (Rg (List Int))):List (List Int):=l.flatMap (mF r)
theorem iV (r:List Int): ∀R:Rg (List Int),(mF r R).length =2 * R.length
 |[]=>rfl
 |e::R=>by
  show([comp r e.2,comp e.2 r]++mF r R).length =_
  rw [List.length_append,iV r R,List.length_cons]
  simp
  lia
noncomputable abbrev PE (x0:Option (Bool×D)) (r:List Int) (acc:List (List Int)) (x3 x4:Option (Bool×D)):Env:=[x0,some (false,tp r),some (true,.lst (acc.map tp)),x3,x4]
noncomputable abbrev JJ:C:=(.seq (.app 2 (.call 1 (.cons (.var 1) (.cons (.var 4) .nil)))) (.seq (.app 2 (.call 1 (.cons (.var 4) (.cons (.var 1) .nil)))) .skip))
noncomputable abbrev JK:C:=(.seq (.for [4] 0 (.dv 3) JJ) .skip)
theorem fV (h:ev F false e ρ=some d) (hi:ρ[i]?=some (some (true,.lst xs))) (hl:xs.length < bJ):ex F (.app i e) ρ=some (.next (put ρ i true (.lst (xs++[d])))):=by
 rw [ex,h]
 show(match ρ[i]? with
  |some (some (true,.lst xs))=>if xs.length < bJ then some (i9.next (put ρ i true (.lst (xs++[d])))) else none
  |_=>none)=_
 rw [hi]
 exact if_pos hl
theorem BF (ht: ∀p∈perms s,∀q∈perms s,F 1 [tp p,tp q]=some (tp (comp p q))) (hr:r∈perms s) (hu:u∈perms s) (hl:acc.length + 2<=10000):
  ex F JJ (PE x0 r acc x3 (some (false,tp u)))=some (.next (PE x0 r (acc++[comp r u,comp u r]) x3 (some (false,tp u)))):=by
 have h1:ev F false (.call 1 (.cons (.var 1) (.cons (.var 4) .nil))) (PE x0 r acc x3 (some (false,tp u)))=some (tp (comp r u)):=bB (e_ rfl rfl) (ht r hr u hu) (aE _)
 have h2:ev F false (.call 1 (.cons (.var 4) (.cons (.var 1) .nil))) (PE x0 r (acc++[comp r u]) x3 (some (false,tp u)))=some (tp (comp u r)):=bB (e_ rfl rfl) (ht u hu r hr) (aE _)
 have e1:acc.map tp++[tp (comp r u)]=(acc++[comp r u]).map tp:=by rw [List.map_append]; rfl
 have e2:(acc++[comp r u]).map tp++[tp (comp u r)]=(acc++[comp r u,comp u r]).map tp:=by rw [List.map_append,List.map_append]; simp
 have iI:bJ=16777216:=rfl
 have s1:ex F (.app 2 (.call 1 (.cons (.var 1) (.cons (.var 4) .nil)))) (PE x0 r acc x3 (some (false,tp u)))=some (.next (PE x0 r (acc++[comp r u]) x3 (some (false,tp u)))):=by
  rw [fV h1 (xs:=acc.map tp) rfl (by rw [List.length_map]; lia),e1]
  rfl
 have s2:ex F (.app 2 (.call 1 (.cons (.var 4) (.cons (.var 1) .nil)))) (PE x0 r (acc++[comp r u]) x3 (some (false,tp u)))=some (.next (PE x0 r (acc++[comp r u,comp u r]) x3 (some (false,tp u)))):=by
  rw [fV h2 (xs:=(acc++[comp r u]).map tp) rfl (by rw [List.length_map,List.length_append,List.length_singleton]; lia),e2]
  rfl
 rw [ex,s1]
 show ex F (.seq (.app 2 _) .skip) _=_
 rw [ex,s2]
 rfl
theorem CI (ht: ∀p∈perms s,∀q∈perms s,F 1 [tp p,tp q]=some (tp (comp p q))) (hr:r∈perms s): ∀{R:Rg (List Int)}{acc:List (List Int)}{x4:Option (Bool×D)},(∀e∈R,e.2∈perms s)->acc.length + 2 * R.length<=10000->
  ∃y4,aH (λx ρ=>(aM 0 x).bind λys=>(cX ρ [4] ys).bind λρ'=>ex F JJ ρ') (vR R) (PE x0 r acc x3 x4)=some (.next (PE x0 r (acc++mF r R) x3 y4))
 |[],acc,x4,_,_=>⟨x4,by show some (i9.next _)=_; rw [show mF r []=[] from rfl,List.append_nil]⟩
 |e::R,acc,x4,h,hl=>by
  rw [List.length_cons] at hl
  have hu:=h e List.mem_cons_self
  obtain⟨y4,ih⟩:=CI ht (x0:=x0) (x3:=x3) hr (R:=R) (acc:=acc++[comp r e.2,comp e.2 r]) (x4:=some (false,tp e.2)) (λe' vk=>h e' (List.mem_cons_of_mem _ vk)) (by rw [List.length_append]; simp; lia)
  refine⟨y4,?_⟩
  show aH _ (tp e.2::vR R) _=_
  rw [aH]
  show(ex F JJ (PE x0 r acc x3 (some (false,tp e.2)))).bind _=_
  rw [BF ht hr hu (by lia)]
  show aH _ (vR R) _=_
  rw [ih,List.append_assoc]
  rfl
theorem yz (ht: ∀p∈perms s,∀q∈perms s,F 1 [tp p,tp q]=some (tp (comp p q))) (hr:r∈perms s): ∀{l:List (Rg (List Int))}{acc:List (List Int)}{x3 x4:Option (Bool×D)},(∀R∈l,∀e∈R,e.2∈perms s)->acc.length + (a_ r l).length <=10000->
  ∃y3 y4,aH (λx ρ=>(aM 0 x).bind λys=>(cX ρ [3] ys).bind λρ'=>ex F JK ρ') (l.map au) (PE x0 r acc x3 x4)=some (.next (PE x0 r (acc++a_ r l) y3 y4))
 |[],acc,x3,x4,_,_=>⟨x3,x4,by show some (i9.next _)=_; rw [show a_ r []=[] from rfl,List.append_nil]⟩
 |R::l,acc,x3,x4,h,hl=>by
  have e0:a_ r (R::l)=mF r R++a_ r l:=rfl
  rw [e0,List.length_append,iV] at hl
  obtain⟨z4,i1⟩:=CI ht (x0:=x0) (x3:=some (false,au R)) hr (R:=R) (acc:=acc) (x4:=x4) (h R List.mem_cons_self) (by lia)
  refine lP (yz ht (x0:=x0) hr (l:=l) (acc:=acc++mF r R) (x3:=some (false,au R)) (x4:=z4) (λR' NG=>h R' (List.mem_cons_of_mem _ NG)) (by rw [List.length_append,iV]; lia)) λy3 y4 ih=>⟨y3,y4,?_⟩
  have hb:ex F JK (PE x0 r acc (some (false,au R)) x4)=some (.next (PE x0 r (acc++mF r R) (some (false,au R)) z4)):=by
   have:ex F (.for [4] 0 (.dv 3) JJ) (PE x0 r acc (some (false,au R)) x4)=some (.next (PE x0 r (acc++mF r R) (some (false,au R)) z4)):=i1
   rw [ex,this]
   rfl
  rw [List.map_cons,aH]
  show(ex F JK (PE x0 r acc (some (false,au R)) x4)).bind _=_
  rw [hb]
  show aH _ (l.map au) _=_
  rw [ih,e0,List.append_assoc]
theorem BG (ht: ∀p∈perms s,∀q∈perms s,F 1 [tp p,tp q]=some (tp (comp p q))) (hr:r∈perms s) (h: ∀R∈l,∀e∈R,e.2∈perms s) (hl:(a_ r l).length <=10000):
  out (ex F d4.body (aq d4 [.lst (l.map au),tp r]))=some (.lst ((a_ r l).map tp)):=by
 refine lP (yz ht (x0:=some (false,.lst (l.map au))) hr (l:=l) (acc:=[]) (x3:=none) (x4:=none) h (by simpa using hl)) λy3 y4 h1=>?_
 have hf:ex F (.for [3] 0 (.it (.var 0)) JK) (PE (some (false,.lst (l.map au))) r [] none none)=some (.next (PE (some (false,.lst (l.map au))) r (a_ r l) y3 y4)):=h1
 have hx:ex F d4.body (aq d4 [.lst (l.map au),tp r])=(ex F (.for [3] 0 (.it (.var 0)) JK) (PE (some (false,.lst (l.map au))) r [] none none)).bind λo=>match o with
   | .next ρ'=>ex F (.seq (.ret (.var 2)) .skip) ρ'
   |o=>some o:=rfl
 rw [hx,hf]
 rfl
end
end iU
namespace jL
section
variable {α:Type}{Y:Pg α}
theorem kc (hM:gT Y M): ∀{l:List (Rg α)}{i:Nat}{t:α},(∀u,St l u->M u)->M t->M (cU Y l i t)
 |[],_,_,_,h=>h
 |R::l,i,t,hs,h=>by
  unfold cU
  cases e:gr R (Y.im t i) with
  |none=>exact h
  |some u=>exact kc hM (λv ⟨R',hR,q⟩=>hs v ⟨R',List.mem_cons_of_mem _ hR,q⟩) (hM.mul _ _ h (hM.inv _ (hs u ⟨R,List.mem_cons_self,_,eI e⟩)))
theorem ub: ∀{l:List (Rg α)}{k:Nat}{R:Rg α},l[k]?=some R->add l k x=l.set k (R++[x])
 |[],_,_,h=>by simp at h
 |R::l,0,_,h=>by simp at h; subst h; rfl
 |R::l,k + 1,R',h=>by
  show R::add l k x=R::l.set k (R'++[x])
  rw [ub (by simpa using h)]
noncomputable def cnt:List (Rg α)->Nat
 |[]=>0
 |R::l=>R.length + cnt l
theorem uc: ∀{l:List (Rg α)}{k:Nat}{R:Rg α},l[k]?=some R->cnt (add l k x)=cnt l + 1
 |[],_,_,h=>by simp at h
 |R::l,0,_,h=>by
  show(R++[x]).length + cnt l=R.length + cnt l + 1
  rw [List.length_append,List.length_singleton]; lia
 |R::l,k + 1,R',h=>by
  show R.length + cnt (add l k x)=R.length + cnt l + 1
  rw [uc (by simpa using h)]; lia
theorem yA {l:List Nat}{n:Nat} (nd:l.Nodup) (h: ∀k∈l,k < n):l.length<=n:=by
 have:(l.map λk:Nat=>(k:Int)).length <=n:=Py.oM n _ (by
  rw [List.nodup_iff_pairwise_ne,List.pairwise_map]
  exact nd.imp λh e=>h (by lia)) λx hx=>by
   refine ae (List.mem_map.mp hx) λk hk af=>?_
   subst af
   have:=h k hk
   lia
 rwa [List.length_map] at this
theorem rQ (L:fU Y): ∀{l:List (Rg α)}{i:Nat},VL Y l i->cnt l<=l.length * Y.n
 |[],_,_=>by simp [cnt]
 |R::l,i,⟨hv,hi,hl⟩=>by
  have h1:R.length<=Y.n:=by
   have:=yA hv.nd (n:=Y.n) λp hp=>by
    refine ae (List.mem_map.mp hp) λe he af=>?_
    subst af
    refine cK (hv.st e.1 e.2 he) λs1 _ s3=>?_
    rw [<-s3]
    exact L.iS s1 hi
   rwa [List.length_map] at this
  have:=rQ L hl
  show R.length + cnt l<=(l.length + 1) * Y.n
  rw [Nat.add_mul]
  lia
end
end jL
namespace iU
open Py jL
section
variable {s:Nat}{F:FT}
theorem jv (r:List Int): ∀l:List (Rg (List Int)),(a_ r l).length =2 * cnt l
 |[]=>rfl
 |R::l=>by
  show(mF r R++a_ r l).length =2 * (R.length + cnt l)
  rw [List.length_append,iV,jv r l]; lia
theorem vp (h:St l u):comp u r∈a_ r l/\comp r u∈a_ r l:=by
 obtain⟨R,hR,p,hp⟩:=h
 have h1: ∀x,x∈[comp r u,comp u r]->x∈a_ r l:=λx hx=>List.mem_flatMap.mpr ⟨R,hR,List.mem_flatMap.mpr ⟨(p,u),hp,hx⟩⟩
 exact⟨h1 _ (by simp),h1 _ (by simp)⟩
theorem yB (hM:gT (pg s) M) (hr:M r) (hs: ∀u,St l u->M u): ∀x∈a_ r l,M x:=λx hx=>by
 refine ae (List.mem_flatMap.mp hx) λR hR hx=>ae (List.mem_flatMap.mp hx) λe he hx=>?_
 have hu:=hs e.2 ⟨R,hR,e.1,he⟩
 rcases List.mem_cons.mp hx with z|z
 .rw [z]; exact hM.mul _ _ hr hu
 .rw [List.mem_singleton.mp z]; exact hM.mul _ _ hu hr
noncomputable def jw (s:Nat) (r:List Int):List Nat:=(List.range s).filter λk=>decide ((pg s).im r k≠k)
noncomputable abbrev FE (x0:Option (Bool×D)) (s:Nat) (W:List (List Int)) (x4 x5 x6:Option (Bool×D)):Env:=[x0,some (false,.int s),some (true,rh),some (true,.lst (W.map tp)),x4,x5,x6]
noncomputable abbrev K9:C:=(.cC 5 (.comp [4] 0 (.dQ (.cons (.var 1) .nil)) (.cons (.cmp .NotEq (.idx (.var 1) (.var 0)) (.var 0)) .nil) (.var 0)))
theorem dE (n:Nat):br 0 n=(List.range n).map λ(k:Nat)=>D.int (k:Int):=by
 rw [dC]
 unfold bG
 rw [List.map_map]
 rfl
theorem CJ (h6:s<=6) (hr:r∈perms s):ex F K9 (FE x0 s W (some (false,tp r)) x5 x6)=some (.next (FE x0 s W (some (false,tp r)) (some (true,.lst ((jw s r).map λ(k:Nat)=>D.int (k:Int)))) x6)):=by
 have hc:ev F false (.comp [4] 0 (.dQ (.cons (.var 1) .nil)) (.cons (.cmp .NotEq (.idx (.var 1) (.var 0)) (.var 0)) .nil) (.var 0)) (FE x0 s W (some (false,tp r)) x5 x6)=some (.lst ((jw s r).map λ(k:Nat)=>D.int (k:Int))):=by
  have iI:bJ=16777216:=rfl
  have NH:(cx F false (.cons (.var 1) .nil) (FE x0 s W (some (false,tp r)) x5 x6)).bind dn=some (br 0 s):=cf (by lia)
  rw [lF NH (by rw [fT]; lia)]
  have hw:walk (fq F [4] (.cons (.cmp .NotEq (.idx (.var 1) (.var 0)) (.var 0)) .nil) (.var 0) (FE x0 s W (some (false,tp r)) x5 x6)) (br 0 s)=some ((br 0 s).filter λd=>match d with
    | .int k=>decide ((pg s).im r k.toNat≠k.toNat)
    |_=>false):=by
   refine jK _ λx hx=>ae (qz hx) λk hk af=>?_
   subst af
   have hi:ev F true (.idx (.var 1) (.var 0)) [some (false,.int k),some (false,tp r)]=some (.int ((pg s).im r k:Nat)):=lJ hr hk
   have UN:ev F false (.cmp .NotEq (.idx (.var 1) (.var 0)) (.var 0)) [some (false,.int k),some (false,tp r)]=some (.bl (decide ((pg s).im r k≠k))):=by
    rw [ev,hi]
    show some (D.bl (!(((pg s).im r k:Nat):Int) == (k:Int)))=_
    rw [t_,<-decide_not]
   show((gM F true (.cons (.cmp .NotEq (.idx (.var 1) (.var 0)) (.var 0)) .nil) [some (false,.int k),some (false,tp r)]).bind λk'=>if k' then some (some (D.int k)) else some none)=_
   rw [gM,UN]
   show((if decide ((pg s).im r k≠k)=true then gM F true .nil _ else some (decide ((pg s).im r k≠k))).bind _)=some (if decide ((pg s).im r (k:Int).toNat ≠(k:Int).toNat)=true then some (D.int k) else none)
   rw [Int.toNat_natCast]
   cases decide ((pg s).im r k≠k) <;> rfl
  rw [hw,dE,List.filter_map]
  rfl
 rw [ex,hc]
 rfl
theorem qD (hk:k < s) (hf:gS (pg s) r k) (hm:(pg s).im r k≠k): ∃bL,jw s r=k::bL:=by
 unfold jw
 obtain⟨m,hs⟩: ∃m,s=k + (m + 1):=⟨s - k - 1,by lia⟩
 have e:List.range s=List.range k++k::(List.range m).map λj=>k + (j + 1):=by
  rw [hs,List.range_add,List.range_succ_eq_map,List.map_cons,List.map_map]
  rfl
 have e1:(List.range k).filter (λj=>decide ((pg s).im r j≠j))=[]:=by
  rw [List.filter_eq_nil_iff]
  intro j hj
  have:=hf j (List.mem_range.mp hj)
  simp [this]
 rw [e,List.filter_append,e1,List.nil_append,List.filter_cons,if_pos (by simp [hm])]
 exact⟨_,rfl⟩
theorem rR (hs:0<=s):jw s (bG s)=[]:=by
 unfold jw
 rw [List.filter_eq_nil_iff]
 intro j hj
 have:(pg s).im (bG s) j=j:=az.bK (Y:=pg s) (List.mem_range.mp hj)
 simp [this]
end
end iU
namespace iU
open Py jL
noncomputable abbrev NI:C:=(.asg 6 (.idx (.var 5) (.c (.int 0))))
section
variable {s:Nat}{F:FT}
noncomputable abbrev BH (F:FT):List D->Env->List D->Option (List D×Env):=ik F 2 3 4 3 (ex F K9) 5 (ex F NI) (ev F false (.var 6)) (ev F false (.idx (.var 4) (.var 6))) (ev F false (.var 4)) 4 (ev F false (.var 4))
theorem BI (h:l[k]?=some R):(l.map au).set k (.bF 0 (kR R++[[(x.1:Int)]]) (vR R++[tp x.2]))=(add l k x).map au:=by
 rw [ub h,List.map_set]
 congr 1
 unfold au kR vR
 rw [List.map_append,List.map_append]
 rfl
theorem vq (h6:s<=6) {l:List (Rg (List Int))} (hl:F 3 [.lst (l.map au),tp t]=some (tp (bG s))) {x0 x4 x5 x6:Option (Bool×D)}{W:List (List Int)}:
  BH F (l.map au) (FE x0 s (W++[t]) x4 x5 x6) ((W++[t]).map tp)=some (l.map au,FE x0 s W (some (false,tp (bG s))) (some (true,.lst [])) x6):=by
 have e1:((W++[t]).map tp).getLast? =some (tp t):=by rw [List.map_append]; simp
 have e2:((W++[t]).map tp).dropLast =W.map tp:=by rw [List.map_append]; simp
 have hc:=CJ (F:=F) h6 (x0:=x0) (x5:=x5) (x6:=x6) (W:=W) (dD s)
 rw [rR (Nat.zero_le _)] at hc
 unfold BH ik
 rw [e1,e2]
 show((F 3 [.lst (l.map au),tp t]).bind _)=_
 rw [hl]
 show(if(aB (tp t) && aB (tp (bG s)))=true then(ex F K9 (FE x0 s W (some (false,tp (bG s))) x5 x6)).bind _ else none)=_
 rw [aE,aE,Bool.and_self,if_pos rfl,hc]
 rfl
theorem vt (h6:s<=6) (hl:F 3 [.lst (l.map au),tp t]=some (tp r)) (hr:r∈perms s) (hk:k < s) (hR:l[k]?=some R) (hf:gS (pg s) r k) (hm:(pg s).im r k≠k) (hn:(pg s).im r k∉R.map (·.1)) (W7:R.length<=6)
  (hg:F 4 [.lst ((add l k ((pg s).im r k,r)).map au),tp r]=some (.lst ((a_ r (add l k ((pg s).im r k,r))).map tp))) (hW:W.length + (a_ r (add l k ((pg s).im r k,r))).length <=10000):
  ∃y4 y5 y6,BH F (l.map au) (FE x0 s (W++[t]) x4 x5 x6) ((W++[t]).map tp)=some ((add l k ((pg s).im r k,r)).map au,FE x0 s (W++a_ r (add l k ((pg s).im r k,r))) y4 y5 y6):=by
 have e1:((W++[t]).map tp).getLast? =some (tp t):=by rw [List.map_append]; simp
 have e2:((W++[t]).map tp).dropLast =W.map tp:=by rw [List.map_append]; simp
 have hc:=CJ (F:=F) h6 (x0:=x0) (x5:=x5) (x6:=x6) (W:=W) hr
 obtain⟨bL,UO⟩:=qD hk hf hm
 rw [UO] at hc
 have iI:bJ=16777216:=rfl
 have K_:k < l.length:=(List.getElem?_eq_some_iff.mp hR).1
 have Fh:wy (l.map au) k [((pg s).im r k:Int)] (tp r)=some ((add l k ((pg s).im r k,r)).map au):=by
  unfold wy
  rw [List.getElem?_map,hR]
  show(if(kR R).length < bJ/\[((pg s).im r k:Int)]∉kR R then some ((l.map au).set k (.bF 0 (kR R++[[((pg s).im r k:Int)]]) (vR R++[tp r]))) else none)=_
  have UP:[((pg s).im r k:Int)]∉kR R:=λz=>by
   refine ae (List.mem_map.mp z) λe he hq=>?_
   have:e.1=(pg s).im r k:=by injection hq with hq _; lia
   exact hn (List.mem_map.mpr ⟨e,he,this⟩)
  rw [if_pos ⟨by rw [List.length_map]; lia,UP⟩]
  exact congrArg some (BI (x:=((pg s).im r k,r)) hR)
 have i7:cu (l.map au).length (k:Int)=some k:=by
  unfold cu
  rw [List.length_map,if_pos (by lia),if_pos (by lia)]
  rfl
 have NJ: ∀RH,ev F false (.idx (.var 4) (.var 6)) (FE x0 s W (some (false,tp r)) RH (some (false,.int k)))=some (.int ((pg s).im r k:Nat)):=λRH=>lJ hr hk
 have UQ:ex F NI (FE x0 s W (some (false,tp r)) (some (true,.lst ((k::bL).map λ(k:Nat)=>D.int (k:Int)))) x6)=some (.next (FE x0 s W (some (false,tp r)) (some (true,.lst ((k::bL).map λ(k:Nat)=>D.int (k:Int)))) (some (false,.int k)))):=by
  have hi:ev F false (.idx (.var 5) (.c (.int 0))) (FE x0 s W (some (false,tp r)) (some (true,.lst ((k::bL).map λ(k:Nat)=>D.int (k:Int)))) x6)=some (.int k):=by
   show((cu ((k::bL).map λ(k:Nat)=>D.int (k:Int)).length 0).bind λj=>((k::bL).map λ(k:Nat)=>D.int (k:Int))[j]?)=_
   unfold cu
   rw [if_pos (by lia),if_pos (by rw [List.length_map,List.length_cons]; lia)]
   rfl
  rw [bx hi]
  rfl
 refine⟨some (false,tp r),some (true,.lst ((k::bL).map λ(k:Nat)=>D.int (k:Int))),some (false,.int k),?_⟩
 unfold BH ik
 rw [e1,e2]
 show((F 3 [.lst (l.map au),tp t]).bind _)=_
 rw [hl]
 show(if(aB (tp t) && aB (tp r))=true then(ex F K9 (FE x0 s W (some (false,tp r)) x5 x6)).bind _ else none)=_
 rw [aE,aE,Bool.and_self,if_pos rfl,hc]
 show((ex F NI (FE x0 s W (some (false,tp r)) (some (true,.lst ((k::bL).map λ(k:Nat)=>D.int (k:Int)))) x6)).bind _)=_
 rw [UQ]
 show(if aB (tp r)=true then _ else none)=_
 rw [aE,if_pos rfl]
 show((cu (l.map au).length (k:Int)).bind _)=_
 rw [i7]
 show(((ev F false (.idx (.var 4) (.var 6)) (FE x0 s W (some (false,tp r)) (some (true,.lst ((k::bL).map λ(k:Nat)=>D.int (k:Int)))) (some (false,.int k)))).bind (dH 0)).bind _)=_
 rw [NJ]
 show((wy (l.map au) k [((pg s).im r k:Int)] (tp r)).bind _)=_
 rw [Fh]
 show(if aB (tp r)=true then(F 4 [.lst ((add l k ((pg s).im r k,r)).map au),tp r]).bind _ else none)=_
 rw [aE,if_pos rfl,hg]
 have nl:aR ((a_ r (add l k ((pg s).im r k,r))).map tp)=true:=by
  have: ∀ps:List (List Int),aR (ps.map tp)=true:=λps=>by
   induction ps with
   |nil=>rfl
   |cons p ps ih=>show(aB (tp p) && aR (ps.map tp))=true; rw [aE,ih]; rfl
  exact this _
 show(if aR ((a_ r (add l k ((pg s).im r k,r))).map tp)=true then(if(W.map tp).length + ((a_ r (add l k ((pg s).im r k,r))).map tp).length <=bJ then _ else none) else none)=_
 rw [nl,if_pos rfl,if_pos (by rw [List.length_map,List.length_map]; lia),<-List.map_append]
 rfl
end
end iU
namespace iU
open Py jL
section
variable {s:Nat}{F:FT}
theorem VL.at: ∀{l:List (Rg (List Int))}{i k:Nat}{R:Rg (List Int)},VL Y l i->l[k]?=some R->V Y (i + k) R
 |[],_,_,_,_,h=>by simp at h
 |R::l,i,0,_,hv,h=>by simp at h; subst h; exact hv.1
 |R::l,i,k + 1,R',hv,h=>by
  have:=VL.at hv.2.2 (k:=k) (R:=R') (by simpa using h)
  rwa [show i + 1 + k=i + (k + 1) by lia] at this
theorem rS (hi:i < s) (hv:V (pg s) i R):R.length<=s:=by
 have:=yA hv.nd (n:=s) λp hp=>by
  refine ae (List.mem_map.mp hp) λe he af=>?_
  subst af
  refine cK (hv.st e.1 e.2 he) λs1 _ s3=>?_
  rw [<-s3]
  exact az.iS (Y:=pg s) s1 hi
 rwa [List.length_map] at this
theorem BJ (hv:VL (pg s) l i): ∀R∈l,∀e∈R,e.2∈perms s:=λR hR e he=>(St.good az hv ⟨R,hR,e.1,he⟩).1
theorem gW (h6:s<=6) (hG: ∀u,G u->u∈perms s) (lK: ∀l t,VL (pg s) l 0->t∈perms s->F 3 [.lst (l.map au),tp t]=some (tp (cU (pg s) l 0 t)))
  (lL: ∀l r,VL (pg s) l 0->r∈perms s->F 4 [.lst (l.map au),tp r]=some (.lst ((a_ r l).map tp))): ∀(n:Nat) (l:List (Rg (List Int))) (W:List (List Int)) (x4 x5 x6:Option (Bool×D)),Fd (pg s) G l W->(36 - cnt l) * 100 + W.length < n->(36 - cnt l) * 100 + W.length<=5000->
  ∃l',fK (BH F) 3 n (l.map au) (FE x0 s W x4 x5 x6)=some (l'.map au)/\Fd (pg s) G l' []
 |0,_,_,_,_,_,_,h,_=>absurd h (Nat.not_lt_zero _)
 |n + 1,l,W,x4,x5,x6,hd,hn,hm=>by
  have hY:=iT h6 hG
  have ss:s * s<=36:=Nat.mul_le_mul h6 h6
  have cl: ∀{l':List (Rg (List Int))},VL (pg s) l' 0->cnt l'<=36:=λ{l'} hv=>by
   have h1:=rQ az hv
   have h2:=VL.len hv
   have h3:l'.length=s:=by rw [Nat.zero_add] at h2; exact h2
   rw [h3] at h1
   exact Nat.le_trans h1 ss
  rw [fK]
  show∃l':List (Rg (List Int)),(if(W.map tp).isEmpty =true then some (l.map au) else(BH F (l.map au) (FE x0 s W x4 x5 x6) (W.map tp)).bind λz=>fK (BH F) 3 n z.1 z.2)=some (l'.map au)/\_
  rcases List.eq_nil_or_concat W with rfl|⟨W0,t,rfl⟩
  .exact⟨l,rfl,hd⟩
  .rw [List.concat_eq_append] at hd hn hm ⊢
   have fX:((W0++[t]).map tp).isEmpty =false:=by rw [List.map_append]; simp
   rw [fX,if_neg Bool.false_ne_true]
   rw [List.length_append,List.length_singleton] at hn hm
   have ht:Gen (pg s) G t:=hd.wg t (List.mem_append_right _ (List.mem_singleton.mpr rfl))
   have RK:t∈perms s:=Gen.S az hG ht
   have hl:=lK l t hd.v RK
   rcases nv az hd.v RK (λk hk=>absurd hk (Nat.not_lt_zero _)) with ⟨e1,e2⟩|⟨k,R,a1,a2,a3,a4,a5,a6,a7,a8⟩
   .rw [e1] at hl
    rw [vq h6 hl]
    exact gW h6 hG lK lL n l W0 _ _ _ (hd.none e2) (by lia) (by lia)
   .rw [Nat.zero_add] at a2 a4 a5 a6 a7 a8
    have hk:k < s:=a2
    have hV:=VL.at hd.v a1
    rw [Nat.zero_add] at hV
    have K':=rS hk hV
    have hg:=lL _ _ a8 a3
    have jW:=cl a8
    have W8:=uc (x:=((pg s).im (cU (pg s) l 0 t) k,cU (pg s) l 0 t)) a1
    have i7:=jv (cU (pg s) l 0 t) (add l k ((pg s).im (cU (pg s) l 0 t) k,cU (pg s) l 0 t))
    refine Gw (vt h6 hl a3 hk a1 a4 a6 a5 (by lia) hg (x0:=x0) (x4:=x4) (x5:=x5) (x6:=x6) (W:=W0) (by lia)) λy4 y5 y6 hT=>?_
    rw [hT]
    refine gW h6 hG lK lL n _ _ _ _ _ (hd.more az a8 a7 (kc hY hd.g ht) (yB hY (kc hY hd.g ht) λu hu=>?_) λu hu=>vp hu) ?_ ?_
    .rcases hu.add with z|z
     .exact hd.g u z
     .rw [z]; exact kc hY hd.g ht
    .rw [List.length_append]; lia
    .rw [List.length_append]; lia
noncomputable def ud (s:Nat):List (Rg (List Int)):=(List.range s).map λi=>[(i,bG s)]
theorem VL.ud: ∀(m i:Nat),i + m=s->VL (pg s) ((List.range' i m).map λi=>[(i,bG s)]) i
 |0,i,h=>by show i=s; lia
 |m + 1,i,h=>by
  rw [List.range'_succ,List.map_cons]
  have hi:i < s:=by lia
  refine⟨⟨λp u hu=>?_,List.mem_singleton.mpr rfl,by simp⟩,hi,VL.ud m (i + 1) (by lia)⟩
  rw [List.mem_singleton] at hu
  cases hu
  exact⟨dD s,λk hk=>az.bK (Y:=pg s) (show k < s by lia),az.bK (Y:=pg s) hi⟩
theorem yC (lG: ∀p∈ps,p∈perms s):Fd (pg s) (· ∈ps) (ud s) ps:=by
 have lX: ∀u,St (ud s) u->u=bG s:=λu zz=>by
  obtain⟨R,hR,p,hp⟩:=zz
  refine ae (List.mem_map.mp hR) λi _ af=>?_
  subst af
  rw [List.mem_singleton] at hp
  exact(Prod.mk.inj hp).2
 have hv:VL (pg s) (ud s) 0:=by
  have:=VL.ud (s:=s) s 0 (by lia)
  unfold iU.ud
  rw [List.range_eq_range']
  exact this
 refine⟨hv,λu hu=>by rw [lX u hu]; exact .one,λt ht=>Gen.of az (lG t ht) ht,λt ht=> .inl ht,λu v hu Gr=> .inr ?_⟩
 rw [lX u hu,lX v Gr]
 show H (pg s) (ud s) (comp (bG s) (bG s))
 rw [iP (dD s)]
 exact H.one az hv
theorem yD (h6:s<=6) {ps:List (List Int)} (lG: ∀p∈ps,p∈perms s) (aL:ps.length<=6) (lX:F 0 [.int s]=some (tp (bG s))) (lK: ∀l t,VL (pg s) l 0->t∈perms s->F 3 [.lst (l.map au),tp t]=some (tp (cU (pg s) l 0 t)))
  (lL: ∀l r,VL (pg s) l 0->r∈perms s->F 4 [.lst (l.map au),tp r]=some (.lst ((a_ r l).map tp))):
  ∃l,out (ex F d5.body (aq d5 [.tup (ps.map tp),.int s]))=some (.lst (l.map au))/\Fd (pg s) (· ∈ps) l []:=by
 have iI:bJ=16777216:=rfl
 obtain⟨l,h1,h2⟩:=gW h6 lG lK lL (x0:=some (false,.tup (ps.map tp))) gx (ud s) ps none none none (yC lG) (by
  have:gx=1000000:=rfl
  rw [this]
  have:(36 - cnt (ud s)) * 100<=3600:=by lia
  lia) (by
  have:(36 - cnt (ud s)) * 100<=3600:=by lia
  lia)
 refine⟨l,?_,h2⟩
 have hr:kE F true (.dQ (.cons (.var 1) .nil)) (aq d5 [.tup (ps.map tp),.int s])=some (br 0 s):=cf (by lia)
 have hw:walk (pL (ev F false (.var 0)) (ev F false (.call 0 (.cons (.var 1) .nil))) [1] (aq d5 [.tup (ps.map tp),.int s])) (br 0 s)=some ((ud s).map au):=by
  rw [dE]
  unfold ud
  rw [List.map_map]
  refine cQ (λk:Nat=>D.int (k:Int)) _ _ _ λk hk=>?_
  have hc:ev F false (.call 0 (.cons (.var 1) .nil)) [some (false,.int k),some (false,.int s)]=some (tp (bG s)):=bB (js rfl) lX (aE _)
  show((ev F false (.call 0 (.cons (.var 1) .nil)) [some (false,.int k),some (false,.int s)]).bind λd=>if aB d then some (some (D.bF 0 [[(k:Int)]] [d])) else none)=_
  rw [hc]
  show(if aB (tp (bG s))=true then _ else none)=_
  rw [aE,if_pos rfl]
  rfl
 have hx:ex F d5.body (aq d5 [.tup (ps.map tp),.int s])=(kE F true (.dQ (.cons (.var 1) .nil)) (aq d5 [.tup (ps.map tp),.int s])).bind λxs=>if xs.length<=bJ/\2≠3/\2 < (aq d5 [.tup (ps.map tp),.int s]).length /\pK (aq d5 [.tup (ps.map tp),.int s])=true then
   (walk (pL (ev F false (.var 0)) (ev F false (.call 0 (.cons (.var 1) .nil))) [1] (aq d5 [.tup (ps.map tp),.int s])) xs).bind λS=>(fK (BH F) 3 gx S (FE (some (false,.tup (ps.map tp))) s ps none none none)).map λS=> .ret (.lst S) else none:=rfl
 rw [hx,hr]
 show out (if _ then _ else none)=_
 rw [if_pos ⟨by rw [fT]; lia,by decide,(by decide:2 < 7),rfl⟩,hw]
 show out ((fK (BH F) 3 gx ((ud s).map au) (FE (some (false,.tup (ps.map tp))) s ps none none none)).map λS=> .ret (.lst S))=_
 rw [h1]
 rfl
end
end iU
namespace Py
theorem ny: ∀(r:List Int) (a:Int),gp a r∈a::r/\ ∀x∈a::r,gp a r<=x
 |[],a=>⟨List.mem_singleton.mpr rfl,λx hx=>by rw [List.mem_singleton.mp hx]; exact Int.le_refl _⟩
 |b::r,a=>by
  rw [gp]
  obtain⟨h1,h2⟩:=ny r (if b < a then b else a)
  have h0:=h2 _ List.mem_cons_self
  have wB:(if b < a then b else a)<=a/\(if b < a then b else a)<=b:=by split <;> lia
  refine⟨?_,λx hx=>?_⟩
  .rcases List.mem_cons.mp h1 with z|z
   .rw [z]
    split
    .exact List.mem_cons_of_mem _ List.mem_cons_self
    .exact List.mem_cons_self
   .exact List.mem_cons_of_mem _ (List.mem_cons_of_mem _ z)
  .rcases List.mem_cons.mp hx with z|hx
   .rw [z]; exact Int.le_trans h0 wB.1
   .rcases List.mem_cons.mp hx with z|hx
    .rw [z]; exact Int.le_trans h0 wB.2
    .exact h2 x (List.mem_cons_of_mem _ hx)
end Py
namespace iU
open Py jL
section
variable {s:Nat}{F:FT}
noncomputable abbrev JL:C:=(.seq (.asg 5 (.prim .min (.cons (.comp [3] 0 (.dk 4) .nil (.idx (.var 1) (.var 0))) .nil))) (.seq (.asg 3 (.call 1 (.cons (.dm 4 (.dZ .index (.var 3) (.cons (.var 5) .nil))) (.cons (.var 3) .nil)))) .skip))
noncomputable abbrev TE (x0 x1 x2:Option (Bool×D)) (u:List Int) (x4 x5:Option (Bool×D)):Env:=[x0,x1,x2,some (false,tp u),x4,x5]
theorem BK (h6:s<=6) (ht: ∀p∈perms s,∀q∈perms s,F 1 [tp p,tp q]=some (tp (comp p q))) (hi:i < s) (hv:V (pg s) i R) (hu:u∈perms s):
  ∃e∈R,(∀q,q∈R.map (·.1)->(pg s).im u e.1<=(pg s).im u q)/\ ∃y5,ex F JL (TE x0 x1 x2 u (some (false,au R)) x5)=some (.next (TE x0 x1 x2 (comp e.2 u) (some (false,au R)) y5)):=by
 have iI:bJ=16777216:=rfl
 have kb: ∀e∈R,e.1 < s:=λe he=>by
  refine cK (hv.st e.1 e.2 he) λs1 _ s3=>?_
  rw [<-s3]; exact az.iS (Y:=pg s) s1 hi
 have K':=rS hi hv
 have hc:ev F true (.comp [3] 0 (.dk 4) .nil (.idx (.var 1) (.var 0))) (TE x0 x1 x2 u (some (false,au R)) x5)=some (.lst ((R.map λe=>(((pg s).im u e.1:Nat):Int)).map .int)):=by
  have hk:kE F true (.dk 4) (TE x0 x1 x2 u (some (false,au R)) x5)=some (R.map λe=>D.int (e.1:Int)):=by
   show some ((kR R).map λk=>D.int (k.headD 0))=_
   rw [List.map_map]
   rfl
  have hw:walk (fq F [3] .nil (.idx (.var 1) (.var 0)) (TE x0 x1 x2 u (some (false,au R)) x5)) (R.map λe=>D.int (e.1:Int))=some (R.map λe=>D.int (((pg s).im u e.1:Nat):Int)):=
   cQ (λe:Nat×List Int=>D.int (e.1:Int)) _ _ _ λe he=>by
    have NJ:ev F false (.idx (.var 1) (.var 0)) [some (false,.int e.1),some (false,tp u)]=some (.int ((pg s).im u e.1:Nat)):=lJ hu (kb e he)
    show(ev F false (.idx (.var 1) (.var 0)) [some (false,.int e.1),some (false,tp u)]).map some=_
    rw [NJ]
    rfl
  have he:ev F true (.comp [3] 0 (.dk 4) .nil (.idx (.var 1) (.var 0))) (TE x0 x1 x2 u (some (false,au R)) x5)=(kE F true (.dk 4) (TE x0 x1 x2 u (some (false,au R)) x5)).bind λxs=>if xs.length<=bJ then(walk (fq F [3] .nil (.idx (.var 1) (.var 0)) (TE x0 x1 x2 u (some (false,au R)) x5)) xs).map .lst else none:=rfl
  rw [he,hk]
  show(if(R.map λe=>D.int (e.1:Int)).length <=bJ then _ else none)=_
  rw [if_pos (by rw [List.length_map]; lia),hw,List.map_map]
  rfl
 obtain⟨e0,R0,hR⟩: ∃e0 R0,R=e0::R0:=by
  cases R with
  |nil=>exact absurd hv.one (by simp)
  |cons e R=>exact⟨e,R,rfl⟩
 obtain⟨m1,m2⟩:=ny (R0.map λe=>(((pg s).im u e.1:Nat):Int)) (((pg s).im u e0.1:Nat):Int)
 have JM:R.map (λe=>(((pg s).im u e.1:Nat):Int))=(((pg s).im u e0.1:Nat):Int)::R0.map λe=>(((pg s).im u e.1:Nat):Int):=by rw [hR]; rfl
 generalize UR:gp (((pg s).im u e0.1:Nat):Int) (R0.map λe=>(((pg s).im u e.1:Nat):Int))=mn at m1 m2
 rw [<-JM] at m1 m2
 refine ae (List.mem_map.mp m1) λe he US=>⟨e,he,λq hq=>?_,some (false,.int mn),?_⟩
 .refine ae (List.mem_map.mp hq) λe' vk af=>?_
  subst af
  have:=m2 _ (List.mem_map.mpr ⟨e',vk,rfl⟩)
  lia
 .have ym:ev F false (.prim .min (.cons (.comp [3] 0 (.dk 4) .nil (.idx (.var 1) (.var 0))) .nil)) (TE x0 x1 x2 u (some (false,au R)) x5)=some (.int mn):=by
   rw [ev,js hc]
   show(match aX ((R.map λe=>(((pg s).im u e.1:Nat):Int)).map .int) with
    |some ns=>match ns with|[]=>none|a::r=>some (D.int (gp a r))
    |none=>_)=_
   rw [df,JM]
   show some (D.int (gp _ _))=_
   rw [UR]
  have BC:ev F false (.dZ .index (.var 3) (.cons (.var 5) .nil)) (TE x0 x1 x2 u (some (false,au R)) (some (false,.int mn)))=some (.int (e.1:Nat)):=by
   have UT:u[e.1]?=some mn:=by
    have bZ:e.1 < u.length:=by rw [ax hu]; exact kb e he
    rw [List.getElem?_eq_getElem bZ]
    have h1:=gG hu (kb e he)
    rw [List.getD_eq_getElem?_getD,List.getElem?_eq_getElem bZ] at h1
    have h2:u[e.1]=(((pg s).im u e.1:Nat):Int):=h1
    rw [h2,US]
   show(aX (u.map .int)).bind (λns=>(dI mn ns).map λ(i:Nat)=>D.int (i:Int))=_
   rw [df]
   show(dI mn u).map (λ(i:Nat)=>D.int (i:Int))=_
   rw [oN (ay.mp hu).2.1 UT]
   rfl
  have yx:ev F true (.dm 4 (.dZ .index (.var 3) (.cons (.var 5) .nil))) (TE x0 x1 x2 u (some (false,au R)) (some (false,.int mn)))=some (tp e.2):=by
   rw [ev,BC]
   show ic (kR R) (vR R) [(e.1:Int)]=_
   rw [gm,tZ hv.nd (show(e.1,e.2)∈R from he)]
   rfl
  have ND:ev F false (.call 1 (.cons (.dm 4 (.dZ .index (.var 3) (.cons (.var 5) .nil))) (.cons (.var 3) .nil))) (TE x0 x1 x2 u (some (false,au R)) (some (false,.int mn)))=some (tp (comp e.2 u)):=bB (e_ yx rfl) (ht _ (hv.st _ _ (show(e.1,e.2)∈R from he)).1 u hu) (aE _)
  rw [ex,bx ym]
  show ex F (.seq (.asg 3 _) .skip) (TE x0 x1 x2 u (some (false,au R)) (some (false,.int mn)))=_
  rw [ex,bx ND]
  rfl
theorem ue (h6:s<=6) (ht: ∀p∈perms s,∀q∈perms s,F 1 [tp p,tp q]=some (tp (comp p q))): ∀{l:List (Rg (List Int))}{i:Nat}{u:List Int}{x4 x5:Option (Bool×D)},VL (pg s) l i->u∈perms s->
  ∃x y4 y5,aH (λx ρ=>(aM 0 x).bind λys=>(cX ρ [4] ys).bind λρ'=>ex F JL ρ') (l.map au) (TE x0 x1 x2 u x4 x5)=some (.next (TE x0 x1 x2 x y4 y5))/\LM (pg s) l u x
 |[],_,u,x4,x5,_,_=>⟨u,x4,x5,rfl,.nil⟩
 |R::l,i,u,x4,x5,hv,hu=>by
  refine ao λnO=>?_
  obtain⟨e,he,hm,z5,h1⟩:=BK (x0:=x0) (x1:=x1) (x2:=x2) (x5:=x5) h6 ht hv.2.1 hv.1 hu
  have hs:=(hv.1.st e.1 e.2 he).1
  refine qG (ue h6 ht (x0:=x0) (x1:=x1) (x2:=x2) (l:=l) (i:=i + 1) (u:=comp e.2 u) (x4:=some (false,au R)) (x5:=z5) hv.2.2 (gg hs hu)) λx y4 y5 h2 h3=>nO ?_
  refine⟨x,y4,y5,?_,.cons (p:=e.1) (v:=e.2) he hm h3⟩
  rw [List.map_cons,aH]
  show(ex F JL (TE x0 x1 x2 u (some (false,au R)) x5)).bind _=_
  rw [h1]
  exact h2
theorem VL.drop: ∀{l:List (Rg (List Int))}{i:Nat} (k:Nat),VL Y l i->k<=l.length->VL Y (l.drop k) (i + k)
 |l,i,0,h,_=>h
 |[],i,k + 1,h,hk=>absurd hk (by simp)
 |R::l,i,k + 1,h,hk=>by
  have:=VL.drop k h.2.2 (by simpa using hk)
  rwa [show i + 1 + k=i + (k + 1) by lia] at this
theorem yE (h6:s<=6) (ht: ∀p∈perms s,∀q∈perms s,F 1 [tp p,tp q]=some (tp (comp p q))) (hv:VL (pg s) l 0) (hk:k < s) (hu:u∈perms s):
  ∃x,out (ex F d6.body (aq d6 [.lst (l.map au),.int k,tp u]))=some (tp x)/\LM (pg s) (l.drop (k + 1)) u x:=by
 have hl:l.length=s:=by have:=VL.len hv; rw [Nat.zero_add] at this; exact this
 refine qG (ue h6 ht (x0:=some (false,.lst (l.map au))) (x1:=some (false,.int k)) (x2:=some (false,tp u)) (l:=l.drop (k + 1)) (u:=u) (x4:=none) (x5:=none) (VL.drop (k + 1) hv (by lia)) hu) λx y4 y5 h1 h2=>⟨x,?_,h2⟩
 have Kz:kE F false (.it (.sl (.var 0) (.cons (.bin .Add (.var 1) (.c (.int 1))) .nil) .nil)) (TE (some (false,.lst (l.map au))) (some (false,.int k)) (some (false,tp u)) u none none)=some ((l.drop (k + 1)).map au):=by
  show seq (.lst (vD (l.map au) (some ((k:Int) + 1)) none))=_
  rw [show(k:Int) + 1=((k + 1:Nat):Int) by lia,qq _ _ (by rw [List.length_map]; lia),<-List.map_drop]
  rfl
 have hf:ex F (.for [4] 0 (.it (.sl (.var 0) (.cons (.bin .Add (.var 1) (.c (.int 1))) .nil) .nil)) JL) (TE (some (false,.lst (l.map au))) (some (false,.int k)) (some (false,tp u)) u none none)=some (.next (TE (some (false,.lst (l.map au))) (some (false,.int k)) (some (false,tp u)) x y4 y5)):=by
  show(kE F false (.it (.sl (.var 0) (.cons (.bin .Add (.var 1) (.c (.int 1))) .nil) .nil)) (TE (some (false,.lst (l.map au))) (some (false,.int k)) (some (false,tp u)) u none none)).bind _=_
  rw [Kz]
  exact h1
 have hx:ex F d6.body (aq d6 [.lst (l.map au),.int k,tp u])=(ex F (.for [4] 0 (.it (.sl (.var 0) (.cons (.bin .Add (.var 1) (.c (.int 1))) .nil) .nil)) JL) (TE (some (false,.lst (l.map au))) (some (false,.int k)) (some (false,tp u)) u none none)).bind λo=>match o with
   | .next ρ'=>ex F (.seq (.ret (.var 3)) .skip) ρ'
   |o=>some o:=rfl
 rw [hx,hf]
 rfl
end
end iU
namespace iU
open Py jL
noncomputable def pairD (e:Nat×List Int):D:= .tup [.int (e.1:Int),tp e.2]
noncomputable def aC (R:Rg (List Int)):D:= .tup (R.map pairD)
noncomputable def bQ (l:List (Rg (List Int))):D:= .tup (l.map aC)
section
variable {s:Nat}{F:FT}
noncomputable def jx (R:Rg (List Int)):List Nat:=(sortI (R.map λe=>(e.1:Int))).map Int.toNat
theorem lM (R:Rg (List Int)):sortI (R.map λe=>(e.1:Int))=(jx R).map λ(k:Nat)=>(k:Int):=by
 unfold jx
 rw [List.map_map]
 have: ∀x∈sortI (R.map λe=>(e.1:Int)),((λ(k:Nat)=>(k:Int)) ∘ Int.toNat) x=x:=λx hx=>by
  refine ae (List.mem_map.mp ((sortI_perm _).mem_iff.mp hx)) λe _ af=>?_
  subst af
  show((e.1:Int).toNat :Int)=_
  lia
 rw [List.map_congr_left this,List.map_id']
theorem oQ:k∈jx R↔k∈R.map (·.1):=by
 unfold jx
 constructor
 .intro h
  refine ae (List.mem_map.mp h) λx hx af=>?_
  subst af
  refine ae (List.mem_map.mp ((sortI_perm _).mem_iff.mp hx)) λe he aO=>?_
  subst aO
  exact List.mem_map.mpr ⟨e,he,by simp⟩
 .intro h
  refine ae (List.mem_map.mp h) λe he eN=>?_
  subst eN
  exact List.mem_map.mpr ⟨(e.1:Int),(sortI_perm _).mem_iff.mpr (List.mem_map.mpr ⟨e,he,rfl⟩),by simp⟩
theorem FN (nd:(R.map (·.1)).Nodup):(jx R).Pairwise (· < ·):=by
 have h1:=k_ (R.map λe=>(e.1:Int))
 have h2:(sortI (R.map λe=>(e.1:Int))).Nodup :=by
  rw [(sortI_perm _).nodup_iff]
  rw [List.nodup_iff_pairwise_ne,List.pairwise_map] at nd ⊢
  exact nd.imp λh e=>h (by lia)
 rw [lM,List.pairwise_map] at h1
 rw [lM,List.nodup_iff_pairwise_ne,List.pairwise_map] at h2
 exact(h1.and h2).imp λh=>by lia
theorem Hm.drop: ∀{l:List (Rg (List Int))}{i:Nat} (k:Nat),Hm (pg s) M l i->k<=l.length->Hm (pg s) M (l.drop k) (i + k)
 |l,i,0,h,_=>h
 |[],i,k + 1,h,hk=>absurd hk (by simp)
 |R::l,i,k + 1,h,hk=>by
  have:=Hm.drop k (h.tail az) (by simpa using hk)
  rwa [show i + 1 + k=i + (k + 1) by lia] at this
theorem BL (h6:s<=6) (hM:gT (pg s) M) (hl:Hm (pg s) M l 0) (hk:k < s)
  (FO: ∀u∈perms s,∃x,F 6 [.lst (l.map au),.int k,tp u]=some (tp x)/\LM (pg s) (l.drop (k + 1)) u x):
  out (ex F d7.body (aq d7 [.lst (l.map au),.int k]))=some (aC (aQ (pg s) M k)):=by
 have iI:bJ=16777216:=rfl
 have aL:l.length=s:=by have:=VL.len hl.1; rw [Nat.zero_add] at this; exact this
 have K_:k < l.length:=by lia
 obtain⟨R,hR⟩: ∃R,l[k]?=some R:=⟨l[k],List.getElem?_eq_getElem K_⟩
 have UU:l.drop k=R::l.drop (k + 1):=by
  rw [List.drop_eq_getElem_cons K_]
  rw [List.getElem?_eq_getElem K_] at hR
  cases hR
  rfl
 have hm:=Hm.drop k hl (by lia)
 rw [Nat.zero_add,UU] at hm
 have hV:=hm.1.1
 have K':=rS hk hV
 have best: ∀p u,(p,u)∈R-> ∃x,F 6 [.lst (l.map au),.int k,tp u]=some (tp x)/\dW (pg s) M k p x:=λp u hu=>by
  exact ae (FO u (hV.st p u hu).1) λx h1 h2=>⟨x,h1,hm.best az hM hu h2⟩
 have lX:item (.lst (l.map au)) (.int k)=some (au R):=by
  show((cu (l.map au).length (k:Int)).bind λj=>(l.map au)[j]?)=_
  unfold cu
  rw [List.length_map,if_pos (by lia),if_pos (by lia)]
  show(l.map au)[k]?=_
  rw [List.getElem?_map,hR]
  rfl
 let il:Env:=[some (false,.lst (l.map au)),some (false,.int k),some (false,au R)]
 have uT:ev F true (.dM 2) il=some (.lst ((jx R).map λ(k:Nat)=>D.int (k:Int))):=by
  show(if(kR R).length < 64 then some (D.lst ((sortI ((kR R).map λk=>k.headD 0)).map .int)) else none)=_
  rw [if_pos (by rw [List.length_map]; lia),List.map_map]
  show some (D.lst ((sortI (R.map λe=>(e.1:Int))).map .int))=_
  rw [lM,List.map_map]
  rfl
 have hw:walk (fq F [0,1,2] .nil (.tup (.cons (.var 0) (.cons (.call 6 (.cons (.var 1) (.cons (.var 2) (.cons (.dm 3 (.var 0)) .nil)))) .nil))) il) ((jx R).map λ(k:Nat)=>D.int (k:Int))=some ((jx R).map λp=>pairD (p,cc (pg s) M k p)):=
  cQ (λk:Nat=>D.int (k:Int)) _ _ _ λp hp=>by
   refine ae (List.mem_map.mp (oQ.mp hp)) λe he NK=>?_
   have vk:(p,e.2)∈R:=by rw [<-NK]; exact he
   refine ae (best p e.2 vk) λx qg Gp=>?_
   let vF:Env:=[some (false,.int p),some (false,.lst (l.map au)),some (false,.int k),some (false,au R)]
   have yx:ev F true (.dm 3 (.var 0)) vF=some (tp e.2):=by
    show ic (kR R) (vR R) [(p:Int)]=_
    rw [gm,tZ hV.nd vk]
    rfl
   have hc:ev F false (.call 6 (.cons (.var 1) (.cons (.var 2) (.cons (.dm 3 (.var 0)) .nil)))) vF=some (tp x):=bB (Nu rfl rfl yx) qg (aE _)
   have uM:ev F false (.tup (.cons (.var 0) (.cons (.call 6 (.cons (.var 1) (.cons (.var 2) (.cons (.dm 3 (.var 0)) .nil)))) .nil))) vF=some (.tup [.int p,tp x]):=by
    have:=e_ (b:=false) (F:=F) (ρ:=vF) (a:= .var 0) (x:= .int p) rfl hc
    rw [ev,this]
    rfl
   show(ev F false (.tup (.cons (.var 0) (.cons (.call 6 (.cons (.var 1) (.cons (.var 2) (.cons (.dm 3 (.var 0)) .nil)))) .nil))) vF).map some=_
   rw [uM,eJ Gp]
   rfl
 have qE:ev F true (.comp [0,1,2] 0 (.it (.dM 2)) .nil (.tup (.cons (.var 0) (.cons (.call 6 (.cons (.var 1) (.cons (.var 2) (.cons (.dm 3 (.var 0)) .nil)))) .nil)))) il=some (.lst ((jx R).map λp=>pairD (p,cc (pg s) M k p))):=by
  rw [oP uT rfl (by
   rw [List.length_map]
   have:(jx R).length =R.length:=by unfold jx; rw [List.length_map,(sortI_perm _).length_eq,List.length_map]
   lia),hw]
  rfl
 have FK:(jx R).map (λp=>(p,cc (pg s) M k p))=aQ (pg s) M k:=by
  refine yt az hk hM.s (λp x hx=>?_) (λt ht hf=>?_) ?_
  .refine ae (List.mem_map.mp hx) λq hq e=>?_
   rw [<-(Prod.mk.inj e).1,<-(Prod.mk.inj e).2]
   refine ae (List.mem_map.mp (oQ.mp hq)) λe he NK=>ae (best q e.2 (by rw [<-NK]; exact he)) λy _ hy=>?_
   rw [eJ hy]
   exact hy
  .exact ba (hm.split az ht hf) λu w hu _ _=>⟨_,List.mem_map.mpr ⟨_,oQ.mpr (List.mem_map.mpr ⟨_,hu,rfl⟩),rfl⟩⟩
  .rw [List.map_map]
   have:((λx:Nat×List Int=>x.1) ∘ λp=>(p,cc (pg s) M k p))=id:=rfl
   rw [this,List.map_id]
   exact FN hV.nd
 have ha:ex F (.asg 2 (.idx (.var 0) (.var 1))) (aq d7 [.lst (l.map au),.int k])=some (.next il):=bx (F:=F) lX
 have hx:ex F d7.body (aq d7 [.lst (l.map au),.int k])=(ex F (.asg 2 (.idx (.var 0) (.var 1))) (aq d7 [.lst (l.map au),.int k])).bind λo=>match o with
   | .next ρ'=>ex F (.seq (.ret (.prim .tuple (.cons (.comp [0,1,2] 0 (.it (.dM 2)) .nil (.tup (.cons (.var 0) (.cons (.call 6 (.cons (.var 1) (.cons (.var 2) (.cons (.dm 3 (.var 0)) .nil)))) .nil)))) .nil))) .skip) ρ'
   |o=>some o:=rfl
 rw [hx,ha]
 refine gh ?_
 rw [ev,js qE]
 show some (D.tup ((jx R).map λp=>pairD (p,cc (pg s) M k p)))=_
 rw [<-FK]
 unfold aC
 rw [List.map_map]
 rfl
theorem vw (h6:s<=6) {M:List Int->Prop}{row:D}{l:List (Rg (List Int))} (hf:F 5 [row,.int s]=some (.lst (l.map au))) (JN:aB row=true) (hr: ∀k,k < s->F 7 [.lst (l.map au),.int k]=some (aC (aQ (pg s) M k))):
  out (ex F d8.body (aq d8 [row,.int s]))=some (bQ (ju (pg s) M 0)):=by
 have iI:bJ=16777216:=rfl
 let il:Env:=[some (false,row),some (false,.int s),some (false,.lst (l.map au))]
 have h1:ev F false (.call 5 (.cons (.var 0) (.cons (.var 1) .nil))) (aq d8 [row,.int s])=some (.lst (l.map au)):=cJ (e_ rfl rfl) hf rfl
 have nl: ∀R:Rg (List Int),aB (aC R)=true:=λR=>by
  show aR (R.map pairD)=true
  induction R with
  |nil=>rfl
  |cons e R ih=>
   show(aB (pairD e) && aR (R.map pairD))=true
   rw [ih]
   show((aB (.int (e.1:Int)) && (aB (tp e.2) && true)) && true)=true
   rw [aE]
   rfl
 have hw:walk (fq F [2] .nil (.call 7 (.cons (.var 1) (.cons (.var 0) .nil))) il) (br 0 s)=some ((List.range s).map λk=>aC (aQ (pg s) M k)):=by
  rw [dE]
  refine cQ (λk:Nat=>D.int (k:Int)) _ _ _ λk hk=>?_
  have hc:ev F false (.call 7 (.cons (.var 1) (.cons (.var 0) .nil))) [some (false,.int k),some (false,.lst (l.map au))]=some (aC (aQ (pg s) M k)):=bB (e_ rfl rfl) (hr k (List.mem_range.mp hk)) (nl _)
  show(ev F false (.call 7 (.cons (.var 1) (.cons (.var 0) .nil))) [some (false,.int k),some (false,.lst (l.map au))]).map some=_
  rw [hc]
  rfl
 have qE:ev F true (.comp [2] 0 (.dQ (.cons (.var 1) .nil)) .nil (.call 7 (.cons (.var 1) (.cons (.var 0) .nil)))) il=some (.lst ((List.range s).map λk=>aC (aQ (pg s) M k))):=by
  have NH:(cx F false (.cons (.var 1) .nil) il).bind dn=some (br 0 s):=cf (by lia)
  rw [lF NH (by rw [fT]; lia),hw]
  rfl
 have hx:ex F d8.body (aq d8 [row,.int s])=(ex F (.asg 2 (.call 5 (.cons (.var 0) (.cons (.var 1) .nil)))) (aq d8 [row,.int s])).bind λo=>match o with
   | .next ρ'=>ex F (.seq (.ret (.prim .tuple (.cons (.comp [2] 0 (.dQ (.cons (.var 1) .nil)) .nil (.call 7 (.cons (.var 1) (.cons (.var 0) .nil)))) .nil))) .skip) ρ'
   |o=>some o:=rfl
 rw [hx,bx h1]
 refine gh ?_
 show ev F true _ il=_
 rw [ev,js qE]
 show some (D.tup ((List.range s).map λk=>aC (aQ (pg s) M k)))=_
 unfold bQ ju
 rw [List.map_map,List.range_eq_range']
 rfl
end
end iU
namespace iU
open Py jL
theorem vx:(List.range 7).all (λn=>decide ((perms n).length <=720))=true:=by decide +kernel
section
variable {s:Nat}{F:FT}
theorem iW (h6:s<=6):(perms s).length <=720:=of_decide_eq_true (all_range vx (show s < 7 by lia))
theorem iX [DecidableEq α]: ∀(l m:List α),l.Nodup->(∀x∈l,x∈m)->l.length<=m.length
 |[],_,_,_=>Nat.zero_le _
 |x::l,m,nd,h=>by
  rw [List.nodup_cons] at nd
  have hx:=h x List.mem_cons_self
  have:=iX l (m.erase x) nd.2 λy hy=>(List.mem_erase_of_ne (λe:y=x=>nd.1 (e▸hy))).mpr (h y (List.mem_cons_of_mem _ hy))
  rw [List.length_erase_of_mem hx] at this
  have:0 < m.length:=List.length_pos_of_mem hx
  rw [List.length_cons]
  lia
theorem CK (h6:s<=6) (hv:VL (pg s) l i):(TL (pg s) l).length <=720:=
 Nat.le_trans (iX _ _ (lH az hv) λx hx=>(H.good az hv (gU.mp hx)).1) (iW h6)
theorem FP:(TL (pg s) (R::l)).length =R.length * (TL (pg s) l).length :=by
 show(R.flatMap λe=>(TL (pg s) l).map λw=>(pg s).mul w e.2).length =_
 generalize TL (pg s) l=T
 induction R with
 |nil=>simp
 |cons e R ih=>rw [List.flatMap_cons,List.length_append,List.length_map,ih,List.length_cons,Nat.add_mul]; lia
theorem BM (h:cF i j=true):bin .Mult (.int i) (.int j)=some (.int (i * j)):=if_pos h
theorem nA (h:ex F b (put ρ i false x)=some (.next ρ')):aH (λx ρ=>(aM 0 x).bind λys=>(cX ρ [i] ys).bind λρ'=>ex F b ρ') (x::r) ρ=aH (λx ρ=>(aM 0 x).bind λys=>(cX ρ [i] ys).bind λρ'=>ex F b ρ') r ρ':=by
 rw [aH]
 show(ex F b (put ρ i false x)).bind _=_
 rw [h]
 rfl
theorem rU (h1:ev F true a ρ=some x) (h2:ev F true c ρ=some y):ev F b (.bin o a c) ρ=bin o x y:=by
 rw [ev,h1,h2]
 rfl
noncomputable abbrev La:C:=(.seq (.asg 1 (.bin .Mult (.var 1) (.prim .len (.cons (.var 2) .nil)))) .skip)
theorem count_loop: ∀{l:List (Rg (List Int))}{c:Nat}{x2:Option (Bool×D)},(∀R∈l,R.length<=1000)->
  ∃y2,aH (λx ρ=>(aM 0 x).bind λys=>(cX ρ [2] ys).bind λρ'=>ex F La ρ') (l.map aC) [x0,some (false,.int c),x2]=some (.next [x0,some (false,.int (c * (TL (pg s) l).length :Nat)),y2])
 |[],c,x2,_=>⟨x2,by show some (i9.next [x0,some (false,.int c),x2])=_; rw [show(TL (pg s) []).length =1 from rfl,Nat.mul_one]⟩
 |R::l,c,x2,h=>by
  obtain⟨y2,ih⟩:=count_loop (x0:=x0) (l:=l) (c:=c * R.length) (x2:=some (false,aC R)) λR' NG=>h R' (List.mem_cons_of_mem _ NG)
  refine⟨y2,?_⟩
  have hR:=h R List.mem_cons_self
  have aL:ev F true (.prim .len (.cons (.var 2) .nil)) [x0,some (false,.int c),some (false,aC R)]=some (.int (R.length:Nat)):=by
   show some (D.int ((R.map pairD).length :Nat))=_
   rw [List.length_map]
  have hm:ev F false (.bin .Mult (.var 1) (.prim .len (.cons (.var 2) .nil))) [x0,some (false,.int c),some (false,aC R)]=some (.int (c * R.length:Nat)):=by
   rw [rU (a:= .var 1) (x:= .int c) rfl aL,BM (iO _ (by lia) (by lia))]
   congr 2
  have hb:ex F La (put [x0,some (false,.int c),x2] 2 false (aC R))=some (.next [x0,some (false,.int (c * R.length:Nat)),some (false,aC R)]):=by
   have e:put [x0,some (false,.int c),x2] 2 false (aC R)=[x0,some (false,.int c),some (false,aC R)]:=rfl
   rw [e,ex,bx hm]
   rfl
  rw [List.map_cons,nA hb,ih,FP,Nat.mul_assoc]
theorem yF (h: ∀R∈l,R.length<=1000):out (ex F d9.body (aq d9 [bQ l]))=some (.int ((TL (pg s) l).length :Nat)):=by
 obtain⟨y2,h1⟩:=count_loop (s:=s) (F:=F) (x0:=some (false,bQ l)) (l:=l) (c:=1) (x2:=none) h
 rw [Nat.one_mul] at h1
 have hf:ex F (.for [2] 0 (.it (.var 0)) La) [some (false,bQ l),some (false,.int (1:Nat)),none]=some (.next [some (false,bQ l),some (false,.int ((TL (pg s) l).length :Nat)),y2]):=h1
 have hx:ex F d9.body (aq d9 [bQ l])=(ex F (.for [2] 0 (.it (.var 0)) La) [some (false,bQ l),some (false,.int (1:Nat)),none]).bind λo=>match o with
   | .next ρ'=>ex F (.seq (.ret (.var 1)) .skip) ρ'
   |o=>some o:=rfl
 rw [hx,hf]
 rfl
noncomputable abbrev FQ:E:=(.comp [4] 0 (.it (.var 1)) .nil (.call 1 (.cons (.var 0) (.cons (.idx (.var 1) (.c (.int 1))) .nil))))
noncomputable abbrev JO:C:=(.seq (.ext 3 FQ) .skip)
noncomputable abbrev JP:C:=(.seq (.cC 3 (.lst .nil)) (.seq (.for [4] 0 (.it (.var 2)) JO) (.seq (.Cd 1 3) .skip)))
noncomputable abbrev OE (x0:Option (Bool×D)) (o:Bool) (ts:List (List Int)) (x2 x3 x4:Option (Bool×D)):Env:=[x0,some (o,.lst (ts.map tp)),x2,x3,x4]
theorem CL (ht: ∀p∈perms s,∀q∈perms s,F 1 [tp p,tp q]=some (tp (comp p q))) (Lb: ∀t∈ts,t∈perms s) (hl:ts.length<=1000): ∀{R:Rg (List Int)}{acc:List (List Int)}{x4:Option (Bool×D)},(∀e∈R,e.2∈perms s)->acc.length + (R.flatMap λe=>ts.map λw=>comp w e.2).length <=10000->
  ∃y4,aH (λx ρ=>(aM 0 x).bind λys=>(cX ρ [4] ys).bind λρ'=>ex F JO ρ') (R.map pairD) (OE x0 o ts x2 (some (true,.lst (acc.map tp))) x4)=some (.next (OE x0 o ts x2 (some (true,.lst ((acc++R.flatMap λe=>ts.map λw=>comp w e.2).map tp))) y4))
 |[],acc,x4,_,_=>⟨x4,by show some (i9.next _)=_; rw [List.flatMap_nil,List.append_nil]⟩
 |e::R,acc,x4,h,hb=>by
  have iI:bJ=16777216:=rfl
  rw [List.flatMap_cons,List.length_append,List.length_map] at hb
  have he:=h e List.mem_cons_self
  obtain⟨y4,ih⟩:=CL ht (x0:=x0) (x2:=x2) (o:=o) Lb hl (R:=R) (acc:=acc++ts.map λw=>comp w e.2) (x4:=some (false,pairD e)) (λe' vk=>h e' (List.mem_cons_of_mem _ vk)) (by rw [List.length_append,List.length_map]; lia)
  refine⟨y4,?_⟩
  let il:Env:=OE x0 o ts x2 (some (true,.lst (acc.map tp))) (some (false,pairD e))
  have hv:ev F true (.var 1) il=some (.lst (ts.map tp)):=by cases o <;> rfl
  have hw:walk (fq F [4] .nil (.call 1 (.cons (.var 0) (.cons (.idx (.var 1) (.c (.int 1))) .nil))) il) (ts.map tp)=some (ts.map λw=>tp (comp w e.2)):=
   cQ tp _ _ _ λw hw=>by
    have hc:ev F false (.call 1 (.cons (.var 0) (.cons (.idx (.var 1) (.c (.int 1))) .nil))) [some (false,tp w),some (false,pairD e)]=some (tp (comp w e.2)):=bB (e_ rfl rfl) (ht w (Lb w hw) _ he) (aE _)
    show(ev F false (.call 1 (.cons (.var 0) (.cons (.idx (.var 1) (.c (.int 1))) .nil))) [some (false,tp w),some (false,pairD e)]).map some=_
    rw [hc]
    rfl
  have qE:ev F false FQ il=some (.lst ((ts.map λw=>comp w e.2).map tp)):=by
   rw [oP hv rfl (by rw [List.length_map]; lia),hw,List.map_map]
   rfl
  have NL:ex F JO il=some (.next (OE x0 o ts x2 (some (true,.lst ((acc++ts.map λw=>comp w e.2).map tp))) (some (false,pairD e)))):=by
   have h1:ex F (.ext 3 FQ) il=some (.next (OE x0 o ts x2 (some (true,.lst ((acc++ts.map λw=>comp w e.2).map tp))) (some (false,pairD e)))):=by
    rw [ex,qE]
    show(if(acc.map tp).length + ((ts.map λw=>comp w e.2).map tp).length <=bJ then some (i9.next (put il 3 true (.lst (acc.map tp++(ts.map λw=>comp w e.2).map tp)))) else none)=_
    rw [if_pos (by rw [List.length_map,List.length_map,List.length_map]; lia),<-List.map_append]
    rfl
   rw [ex,h1]
   rfl
  rw [List.map_cons,aH]
  show(ex F JO il).bind _=_
  rw [NL]
  show aH _ (R.map pairD) _=_
  rw [ih,List.flatMap_cons,List.append_assoc]
theorem yG (h6:s<=6) (ht: ∀p∈perms s,∀q∈perms s,F 1 [tp p,tp q]=some (tp (comp p q))): ∀{rs l:List (Rg (List Int))}{i:Nat}{o:Bool}{x2 x3 x4:Option (Bool×D)},VL (pg s) (rs.reverse++l) i->
  ∃o' y2 y3 y4,aH (λx ρ=>(aM 0 x).bind λys=>(cX ρ [2] ys).bind λρ'=>ex F JP ρ') (rs.map aC) (OE x0 o (TL (pg s) l) x2 x3 x4)=some (.next (OE x0 o' (TL (pg s) (rs.reverse++l)) y2 y3 y4))
 |[],l,i,o,x2,x3,x4,_=>⟨o,x2,x3,x4,rfl⟩
 |R::rs,l,i,o,x2,x3,x4,hv=>by
  have e0:(R::rs).reverse ++l=rs.reverse++(R::l):=by simp
  rw [e0] at hv ⊢
  have NM:VL (pg s) (R::l) (i + rs.reverse.length):=by
   have:=VL.drop rs.reverse.length hv (by rw [List.length_append]; lia)
   rwa [List.drop_left] at this
  have hl:=NM.2.2
  have Lb: ∀t∈TL (pg s) l,t∈perms s:=λt h=>(H.good az hl (gU.mp h)).1
  have hn:=CK h6 hl
  have Ho:(R.flatMap λe=>(TL (pg s) l).map λw=>comp w e.2).length <=720:=CK h6 NM
  obtain⟨z4,i1⟩:=CL ht (x0:=x0) (x2:=some (false,aC R)) (o:=o) Lb (by lia) (R:=R) (acc:=[]) (x4:=x4) (λe he=>(NM.1.st e.1 e.2 he).1) (by rw [List.length_nil]; lia)
  rw [List.nil_append] at i1
  have eT:TL (pg s) (R::l)=R.flatMap λe=>(TL (pg s) l).map λw=>comp w e.2:=rfl
  rw [<-eT] at i1
  refine Kl (yG h6 ht (x0:=x0) (rs:=rs) (l:=R::l) (o:=false) (x2:=some (false,aC R)) (x3:=some (false,.lst ((TL (pg s) (R::l)).map tp))) (x4:=z4) hv) λo' y2 y3 y4 ih=>⟨o',y2,y3,y4,?_⟩
  have hb:ex F JP (OE x0 o (TL (pg s) l) (some (false,aC R)) x3 x4)=some (.next (OE x0 false (TL (pg s) (R::l)) (some (false,aC R)) (some (false,.lst ((TL (pg s) (R::l)).map tp))) z4)):=by
   have a1:ex F (.cC 3 (.lst .nil)) (OE x0 o (TL (pg s) l) (some (false,aC R)) x3 x4)=some (.next (OE x0 o (TL (pg s) l) (some (false,aC R)) (some (true,.lst [])) x4)):=rfl
   have a2:ex F (.for [4] 0 (.it (.var 2)) JO) (OE x0 o (TL (pg s) l) (some (false,aC R)) (some (true,.lst [])) x4)=some (.next (OE x0 o (TL (pg s) l) (some (false,aC R)) (some (true,.lst ((TL (pg s) (R::l)).map tp))) z4)):=i1
   have a3:ex F (.Cd 1 3) (OE x0 o (TL (pg s) l) (some (false,aC R)) (some (true,.lst ((TL (pg s) (R::l)).map tp))) z4)=some (.next (OE x0 false (TL (pg s) (R::l)) (some (false,aC R)) (some (false,.lst ((TL (pg s) (R::l)).map tp))) z4)):=rfl
   rw [ex,a1]
   show ex F (.seq _ (.seq _ .skip)) _=_
   rw [ex,a2]
   show ex F (.seq (.Cd 1 3) .skip) (OE x0 o (TL (pg s) l) (some (false,aC R)) (some (true,.lst ((TL (pg s) (R::l)).map tp))) z4)=_
   rw [ex,a3]
   rfl
  rw [List.map_cons,aH]
  show(ex F JP (OE x0 o (TL (pg s) l) (some (false,aC R)) x3 x4)).bind _=_
  rw [hb]
  exact ih
theorem jy: ∀{ks:List (List Int)},(∀k∈ks,k≠[])->dS (ks.map tp)=some ks
 |[],_=>rfl
 |k::ks,h=>by
  show(aX (k.map .int)).bind _=_
  rw [df]
  show(if k=[] then none else(dS (ks.map tp)).map (k:: ·))=_
  rw [if_neg (h k List.mem_cons_self),jy λx hx=>h x (List.mem_cons_of_mem _ hx)]
  rfl
theorem rV (h1:1<=s) (h:t∈perms s):t≠[]:=λz=>by
 have:=ax h
 rw [z] at this
 simp at this
 lia
theorem yH (h1:1<=s) (h6:s<=6) (lX:F 0 [.int s]=some (tp (bG s))) (ht: ∀p∈perms s,∀q∈perms s,F 1 [tp p,tp q]=some (tp (comp p q))) (hv:VL (pg s) l 0):
  out (ex F vn.body (aq vn [bQ l]))=some (.tup ((bI.aK (TL (pg s) l)).map tp)):=by
 have aL:l.length=s:=by have:=VL.len hv; rw [Nat.zero_add] at this; exact this
 refine Kl (yG h6 ht (x0:=some (false,bQ l)) (rs:=l.reverse) (l:=[]) (i:=0) (o:=true) (x2:=none) (x3:=none) (x4:=none) (by rw [List.reverse_reverse,List.append_nil]; exact hv)) λo' y2 y3 y4 h2=>?_
 rw [List.reverse_reverse,List.append_nil] at h2
 have e1:ev F false (.call 0 (.cons (.prim .len (.cons (.var 0) .nil)) .nil)) (aq vn [bQ l])=some (tp (bG s)):=by
  have:ev F true (.prim .len (.cons (.var 0) .nil)) (aq vn [bQ l])=some (.int s):=by
   show some (D.int ((l.map aC).length :Nat))=_
   rw [List.length_map,aL]
  exact bB (js this) lX (aE _)
 have a1:ex F (.cC 1 (.lst (.cons (.call 0 (.cons (.prim .len (.cons (.var 0) .nil)) .nil)) .nil))) (aq vn [bQ l])=some (.next (OE (some (false,bQ l)) true [bG s] none none none)):=by
  have:ev F false (.lst (.cons (.call 0 (.cons (.prim .len (.cons (.var 0) .nil)) .nil)) .nil)) (aq vn [bQ l])=some (.lst [tp (bG s)]):=by
   rw [ev,js e1]
   rfl
  rw [ex,this]
  rfl
 have a2:ex F (.for [2] 0 (.Cc (.var 0)) JP) (OE (some (false,bQ l)) true [bG s] none none none)=some (.next (OE (some (false,bQ l)) o' (TL (pg s) l) y2 y3 y4)):=by
  show aH _ ((l.map aC).reverse) _=_
  rw [<-List.map_reverse]
  exact h2
 have a3:ev F true (.prim .tuple (.cons (.prim .sorted (.cons (.var 1) .nil)) .nil)) (OE (some (false,bQ l)) o' (TL (pg s) l) y2 y3 y4)=some (.tup ((bI.aK (TL (pg s) l)).map tp)):=by
  have UW:ev F true (.var 1) (OE (some (false,bQ l)) o' (TL (pg s) l) y2 y3 y4)=some (.lst ((TL (pg s) l).map tp)):=by cases o' <;> rfl
  have hs:ev F true (.prim .sorted (.cons (.var 1) .nil)) (OE (some (false,bQ l)) o' (TL (pg s) l) y2 y3 y4)=some (.lst ((bI.aK (TL (pg s) l)).map tp)):=by
   rw [ev,js UW]
   show(dS ((TL (pg s) l).map tp)).map (λks=>D.lst ((bI.aK ks).map mh))=_
   rw [jy λt h=>rV h1 (H.good az hv (gU.mp h)).1]
   rfl
  rw [ev,js hs]
  rfl
 have hx:ex F vn.body (aq vn [bQ l])=(ex F (.cC 1 (.lst (.cons (.call 0 (.cons (.prim .len (.cons (.var 0) .nil)) .nil)) .nil))) (aq vn [bQ l])).bind λo=>match o with
   | .next ρ'=>ex F (.seq (.for [2] 0 (.Cc (.var 0)) JP) (.seq (.ret (.prim .tuple (.cons (.prim .sorted (.cons (.var 1) .nil)) .nil))) .skip)) ρ'
   |o=>some o:=rfl
 rw [hx,a1]
 show out (ex F (.seq _ _) _)=_
 rw [ex,a2]
 exact gh a3
end
end iU
namespace iU
open Py jL
section
variable {s:Nat}{F:FT}
noncomputable abbrev mv (B:List (List Int)):List D:=B.map λ_=>D.bl true
noncomputable abbrev AE (x0 x1 x2:Option (Bool×D)) (B W:List (List Int)) (x5 x6 x7:Option (Bool×D)):Env:=[x0,x1,x2,some (true,.bF 1 B (mv B)),some (true,.lst (W.map tp)),x5,x6,x7]
noncomputable abbrev JQ:C:=(.seq (.asg 7 (.call 16 (.cons (.var 5) (.cons (.var 6) .nil)))) (.seq (.ifs (.uG true (.var 7) 3) (.seq (.pJ 3 (.var 7) (.c (.bl true))) (.seq (.app 4 (.var 7)) .skip)) .skip) .skip))
noncomputable abbrev Gs:C:=(.seq (.pop 5 4) (.seq (.for [6] 0 (.it (.var 0)) JQ) .skip))
theorem oS (h:t≠0) (p:List Int):dH t (tp p)=some p:=by
 show(if t=0 then none else aX (p.map .int))=some p
 rw [if_neg h]
 exact df p
theorem BN (bZ: ∀p∈perms s,∀q∈perms s,F 16 [tp p,tp q]=some (tp (comp p q))) (ht:t∈perms s) (hg:g∈perms s) (hB:B.length<=1000) (hW:W.length<=10000):
  ex F JQ (AE x0 x1 x2 B W (some (false,tp t)) (some (false,tp g)) x7)=some (.next (if comp t g∈B then AE x0 x1 x2 B W (some (false,tp t)) (some (false,tp g)) (some (false,tp (comp t g))) else AE x0 x1 x2 (B++[comp t g]) (W++[comp t g]) (some (false,tp t)) (some (false,tp g)) (some (false,tp (comp t g))))):=by
 have iI:bJ=16777216:=rfl
 have h1:ev F false (.call 16 (.cons (.var 5) (.cons (.var 6) .nil))) (AE x0 x1 x2 B W (some (false,tp t)) (some (false,tp g)) x7)=some (tp (comp t g)):=bB (e_ rfl rfl) (bZ t ht g hg) (aE _)
 have h2:ev F false (.uG true (.var 7) 3) (AE x0 x1 x2 B W (some (false,tp t)) (some (false,tp g)) (some (false,tp (comp t g))))=some (.bl (!decide (comp t g∈B))):=by
  show((dH 1 (tp (comp t g))).map λx=>D.bl (!decide (x∈B)))=_
  rw [oS (by decide)]
  rfl
 rw [ex,bx h1]
 show ex F (.seq (.ifs (.uG true (.var 7) 3) _ .skip) .skip) (AE x0 x1 x2 B W (some (false,tp t)) (some (false,tp g)) (some (false,tp (comp t g))))=_
 by_cases hm:comp t g∈B
 .rw [decide_eq_true hm] at h2
  rw [ex,ex,h2,if_pos hm]
  rfl
 .rw [decide_eq_false hm] at h2
  have s1:ex F (.pJ 3 (.var 7) (.c (.bl true))) (AE x0 x1 x2 B W (some (false,tp t)) (some (false,tp g)) (some (false,tp (comp t g))))=some (.next (AE x0 x1 x2 (B++[comp t g]) W (some (false,tp t)) (some (false,tp g)) (some (false,tp (comp t g))))):=by
   show((dH 1 (tp (comp t g))).bind λx=>if B.length < bJ/\x∉B then some (i9.next (put (AE x0 x1 x2 B W (some (false,tp t)) (some (false,tp g)) (some (false,tp (comp t g)))) 3 true (.bF 1 (B++[x]) (mv B++[.bl true])))) else none)=_
   rw [oS (by decide)]
   show(if B.length < bJ/\comp t g∉B then _ else none)=_
   rw [if_pos ⟨by lia,hm⟩]
   have:mv B++[D.bl true]=mv (B++[comp t g]):=by unfold mv; rw [List.map_append]; rfl
   rw [this]
   rfl
  have s2:ex F (.app 4 (.var 7)) (AE x0 x1 x2 (B++[comp t g]) W (some (false,tp t)) (some (false,tp g)) (some (false,tp (comp t g))))=some (.next (AE x0 x1 x2 (B++[comp t g]) (W++[comp t g]) (some (false,tp t)) (some (false,tp g)) (some (false,tp (comp t g))))):=by
   rw [fV (d:=tp (comp t g)) (xs:=W.map tp) rfl rfl (by rw [List.length_map]; lia)]
   have:W.map tp++[tp (comp t g)]=(W++[comp t g]).map tp:=by rw [List.map_append]; rfl
   rw [this]
   rfl
  rw [ex,ex,h2,if_neg hm]
  show((ex F (.seq (.pJ 3 (.var 7) (.c (.bl true))) (.seq (.app 4 (.var 7)) .skip)) (AE x0 x1 x2 B W (some (false,tp t)) (some (false,tp g)) (some (false,tp (comp t g))))).bind _)=_
  rw [ex,s1]
  show((ex F (.seq (.app 4 (.var 7)) .skip) (AE x0 x1 x2 (B++[comp t g]) W (some (false,tp t)) (some (false,tp g)) (some (false,tp (comp t g))))).bind _)=_
  rw [ex,s2]
  rfl
theorem yI (h6:s<=6) (bZ: ∀p∈perms s,∀q∈perms s,F 16 [tp p,tp q]=some (tp (comp p q))) (hG: ∀g∈G,g∈perms s) (ht:t∈perms s): ∀{gs done B W:List (List Int)}{x6 x7:Option (Bool×D)},(∀g∈gs,g∈G)->Am (pg s) G t done B W->W.length + gs.length<=5000->
  ∃B' W' y6 y7,aH (λx ρ=>(aM 0 x).bind λys=>(cX ρ [6] ys).bind λρ'=>ex F JQ ρ') (gs.map tp) (AE x0 x1 x2 B W (some (false,tp t)) x6 x7)=some (.next (AE x0 x1 x2 B' W' (some (false,tp t)) y6 y7))/\Am (pg s) G t (done++gs) B' W'/\B.length<=B'.length/\B'.length + W.length=B.length + W'.length
 |[],done,B,W,x6,x7,_,h,_=>⟨B,W,x6,x7,rfl,by rw [List.append_nil]; exact h,Nat.le_refl _,rfl⟩
 |g::gs,done,B,W,x6,x7,NN,h,hn=>by
  rw [List.length_cons] at hn
  have RL:=NN g List.mem_cons_self
  have hg:=hG g RL
  have hB:B.length<=720:=Nat.le_trans (iX _ _ h.nd λx hx=>Gen.S az hG (h.gen x hx)) (iW h6)
  have h1:=BN bZ (x0:=x0) (x1:=x1) (x2:=x2) (x7:=x7) (B:=B) (W:=W) ht hg (by lia) (by lia)
  have e0:done++g::gs=(done++[g])++gs:=by rw [List.append_assoc]; rfl
  by_cases hm:comp t g∈B
  .rw [if_pos hm] at h1
   refine Gy (yI h6 bZ hG (x0:=x0) (x1:=x1) (x2:=x2) ht (gs:=gs) (done:=done++[g]) (B:=B) (W:=W) (x6:=some (false,tp g)) (x7:=some (false,tp (comp t g))) (λq hq=>NN q (List.mem_cons_of_mem _ hq)) (h.old hm) (by lia)) λB' W' y6 y7 i1 i2 i3 i4=>⟨B',W',y6,y7,?_,by rw [e0]; exact i2,i3,i4⟩
   rw [List.map_cons,nA (ρ':=AE x0 x1 x2 B W (some (false,tp t)) (some (false,tp g)) (some (false,tp (comp t g)))) h1]
   exact i1
  .rw [if_neg hm] at h1
   refine Gy (yI h6 bZ hG (x0:=x0) (x1:=x1) (x2:=x2) ht (gs:=gs) (done:=done++[g]) (B:=B++[comp t g]) (W:=W++[comp t g]) (x6:=some (false,tp g)) (x7:=some (false,tp (comp t g))) (λq hq=>NN q (List.mem_cons_of_mem _ hq)) (h.new RL hm) (by rw [List.length_append,List.length_singleton]; lia)) λB' W' y6 y7 i1 i2 i3 i4=>?_
   rw [List.length_append,List.length_singleton] at i3
   rw [List.length_append,List.length_singleton,List.length_append,List.length_singleton] at i4
   refine⟨B',W',y6,y7,?_,by rw [e0]; exact i2,by lia,by lia⟩
   rw [List.map_cons,nA (ρ':=AE x0 x1 x2 (B++[comp t g]) (W++[comp t g]) (some (false,tp t)) (some (false,tp g)) (some (false,tp (comp t g)))) h1]
   exact i1
theorem iY (n:Nat): ∀W:List (List Int),fJ (W.map tp) (n + 1)=true
 |[]=>rfl
 |t::W=>by
  show(dG (tp t) (n + 1) && fJ (W.map tp) (n + 1))=true
  rw [rM,iY n W]
  rfl
theorem BO {x0 x1 x2 x5 x6 x7:Option (Bool×D)}{B W:List (List Int)}:ev F false (.cmp .NotEq (.var 4) (.lst .nil)) (AE x0 x1 x2 B W x5 x6 x7)=some (.bl (!W.isEmpty)):=by
 have h1:cmp .NotEq (.lst (W.map tp)) (.lst [])=some (!W.isEmpty):=by
  show(if(dG (.lst (W.map tp)) 60 && dG (.lst []) 60)=true then some (!jD (.lst (W.map tp)) (.lst [])) else none)=_
  have e1:dG (.lst (W.map tp)) 60=true:=iY 58 W
  rw [e1]
  cases W <;> rfl
 show(cmp .NotEq (.lst (W.map tp)) (.lst [])).map D.bl=_
 rw [h1]
 rfl
theorem uf (h6:s<=6) (bZ: ∀p∈perms s,∀q∈perms s,F 16 [tp p,tp q]=some (tp (comp p q))) (hG: ∀g∈G,g∈perms s) (NO:G.length<=6): ∀(n:Nat) {B W:List (List Int)}{x5 x6 x7:Option (Bool×D)},Al (pg s) G B W->2 * (720 - B.length) + W.length < n->2 * (720 - B.length) + W.length<=2000->
  ∃B' y5 y6 y7,ig (λρ=>(ev F false (.cmp .NotEq (.var 4) (.lst .nil)) ρ).bind eO) (ex F Gs) n (AE (some (false,.tup (G.map tp))) x1 x2 B W x5 x6 x7)=some (.next (AE (some (false,.tup (G.map tp))) x1 x2 B' [] y5 y6 y7))/\Al (pg s) G B' []
 |0,_,_,_,_,_,_,h,_=>absurd h (Nat.not_lt_zero _)
 |n + 1,B,W,x5,x6,x7,h,hn,hb=>by
  rw [ig,BO]
  rcases List.eq_nil_or_concat W with rfl|⟨W0,t,rfl⟩
  .exact⟨B,x5,x6,x7,rfl,h⟩
  .rw [List.concat_eq_append] at h hn hb ⊢
   rw [List.length_append,List.length_singleton] at hn hb
   have fX:(W0++[t]).isEmpty =false:=by simp
   rw [fX]
   have UX:t∈B:=h.wb t (List.mem_append_right _ (List.mem_singleton.mpr rfl))
   have ht:t∈perms s:=Gen.S az hG (h.gen t UX)
   refine ao λnO=>Gy (yI h6 bZ hG (x0:=some (false,.tup (G.map tp))) (x1:=x1) (x2:=x2) ht (gs:=G) (done:=[]) (B:=B) (W:=W0) (x6:=x6) (x7:=x7) (λ_ z=>z) h.start (by lia)) λB' W' y6 y7 i1 i2 i3 i4=>?_
   rw [List.nil_append] at i2
   have hA:=i2.fin λg hg=>hg
   have W9:B'.length<=720:=Nat.le_trans (iX _ _ hA.nd λx hx=>Gen.S az hG (hA.gen x hx)) (iW h6)
   refine QJ (uf h6 bZ hG NO (x1:=x1) (x2:=x2) n (B:=B') (W:=W') (x5:=some (false,tp t)) (x6:=y6) (x7:=y7) hA (by lia) (by lia)) λB2 z5 z6 z7 j1 j2=>nO ?_
   refine⟨B2,z5,z6,z7,?_,j2⟩
   have p1:ex F (.pop 5 4) (AE (some (false,.tup (G.map tp))) x1 x2 B (W0++[t]) x5 x6 x7)=some (.next (AE (some (false,.tup (G.map tp))) x1 x2 B W0 (some (false,tp t)) x6 x7)):=by
    have e1:((W0++[t]).map tp).getLast? =some (tp t):=by rw [List.map_append]; simp
    have e2:((W0++[t]).map tp).dropLast =W0.map tp:=by rw [List.map_append]; simp
    show(((W0++[t]).map tp).getLast?.map λz=>i9.next (put (put (AE (some (false,.tup (G.map tp))) x1 x2 B (W0++[t]) x5 x6 x7) 4 true (.lst ((W0++[t]).map tp).dropLast)) 5 false z))=_
    rw [e1,e2]
    rfl
   have p2:ex F (.for [6] 0 (.it (.var 0)) JQ) (AE (some (false,.tup (G.map tp))) x1 x2 B W0 (some (false,tp t)) x6 x7)=some (.next (AE (some (false,.tup (G.map tp))) x1 x2 B' W' (some (false,tp t)) y6 y7)):=i1
   have p3:ex F Gs (AE (some (false,.tup (G.map tp))) x1 x2 B (W0++[t]) x5 x6 x7)=some (.next (AE (some (false,.tup (G.map tp))) x1 x2 B' W' (some (false,tp t)) y6 y7)):=by
    rw [ex,p1]
    show ex F (.seq (.for [6] 0 (.it (.var 0)) JQ) .skip) _=_
    rw [ex,p2]
    rfl
   show((ex F Gs (AE (some (false,.tup (G.map tp))) x1 x2 B (W0++[t]) x5 x6 x7)).bind _)=_
   rw [p3]
   exact j1
theorem FR (h1:1<=s) (h6:s<=6) (bZ: ∀p∈perms s,∀q∈perms s,F 16 [tp p,tp q]=some (tp (comp p q))) (hG: ∀g∈G,g∈perms s) (NO:G.length<=6):
  ∃B,out (ex F za.body (aq za [.tup (G.map tp),.int s]))=some (.lst ((bI.aK B).map tp))/\Al (pg s) G B []:=by
 obtain⟨B,y5,y6,y7,i1,i2⟩:=uf h6 bZ hG NO (x1:=some (false,.int s)) (x2:=some (false,tp (bG s))) gx (B:=[bG s]) (W:=[bG s]) (x5:=none) (x6:=none) (x7:=none) (UL G) (by
  have:gx=1000000:=rfl
  rw [this,List.length_singleton]; lia) (by rw [List.length_singleton]; lia)
 refine⟨B,?_,i2⟩
 have a1:ev F false (.iZ .tuple (.cons (.var 1) .nil)) (aq za [.tup (G.map tp),.int s])=some (tp (bG s)):=by
  show(dn [.int s]).bind (mi .tuple)=_
  rw [cf (by lia),dC]
  rfl
 have a2:ex F (.nV 3 1 (.cons (.var 2) (.cons (.c (.bl true)) .nil))) [some (false,.tup (G.map tp)),some (false,.int s),some (false,tp (bG s)),none,none,none,none,none]=some (.next [some (false,.tup (G.map tp)),some (false,.int s),some (false,tp (bG s)),some (true,.bF 1 [bG s] [.bl true]),none,none,none,none]):=by
  show(((dH 1 (tp (bG s))).map λx=>D.bF 1 [x] [.bl true]).map λd=>i9.next (put [some (false,.tup (G.map tp)),some (false,.int s),some (false,tp (bG s)),none,none,none,none,none] 3 true d))=_
  rw [oS (by decide)]
  rfl
 have a3:ex F (.while (.cmp .NotEq (.var 4) (.lst .nil)) Gs) (AE (some (false,.tup (G.map tp))) (some (false,.int s)) (some (false,tp (bG s))) [bG s] [bG s] none none none)=some (.next (AE (some (false,.tup (G.map tp))) (some (false,.int s)) (some (false,tp (bG s))) B [] y5 y6 y7)):=i1
 have a4:ev F true (.dM 3) (AE (some (false,.tup (G.map tp))) (some (false,.int s)) (some (false,tp (bG s))) B [] y5 y6 y7)=some (.lst ((bI.aK B).map tp)):=by
  show(if []∈B then none else some (D.lst ((bI.aK B).map mh)))=_
  rw [if_neg λz=>rV h1 (Gen.S az hG (i2.gen _ z)) rfl]
  rfl
 have hx:ex F za.body (aq za [.tup (G.map tp),.int s])=(ex F (.asg 2 (.iZ .tuple (.cons (.var 1) .nil))) (aq za [.tup (G.map tp),.int s])).bind λo=>match o with
   | .next ρ'=>ex F (.seq (.nV 3 1 (.cons (.var 2) (.cons (.c (.bl true)) .nil))) (.seq (.cC 4 (.lst (.cons (.var 2) .nil))) (.seq (.while (.cmp .NotEq (.var 4) (.lst .nil)) Gs) (.seq (.ret (.dM 3)) .skip)))) ρ'
   |o=>some o:=rfl
 rw [hx,bx a1]
 show out (ex F (.seq (.nV 3 1 (.cons (.var 2) (.cons (.c (.bl true)) .nil))) _) [some (false,.tup (G.map tp)),some (false,.int s),some (false,tp (bG s)),none,none,none,none,none])=_
 rw [ex,a2]
 show out (ex F (.seq (.while (.cmp .NotEq (.var 4) (.lst .nil)) Gs) (.seq (.ret (.dM 3)) .skip)) (AE (some (false,.tup (G.map tp))) (some (false,.int s)) (some (false,tp (bG s))) [bG s] [bG s] none none none))=_
 rw [ex,a3]
 exact gh a4
end
end iU
namespace iU
open Py jL
section
variable {s:Nat}{F:FT}
theorem yJ (ht:t∈perms s) (hi:i<=s):t.take i=bG i↔gS (pg s) t i:=by
 have hl:=ax ht
 constructor
 .intro h k hk
  have h1:=gG ht (show k < s by lia)
  have e:(t.take i).getD k 0=(bG i).getD k 0:=by rw [h]
  rw [rO hk,List.getD_eq_getElem?_getD,List.getElem?_take,if_pos hk,<-List.getD_eq_getElem?_getD,h1] at e
  lia
 .intro h
  apply List.ext_getElem?
  intro k
  rw [List.getElem?_take]
  by_cases hk:k < i
  .rw [if_pos hk]
   have h1:=gG ht (show k < s by lia)
   have h2:=rO hk
   rw [h k hk] at h1
   have la:k < t.length:=by lia
   have lb:k < (bG i).length :=by rw [ax (dD i)]; exact hk
   rw [List.getD_eq_getElem?_getD,List.getElem?_eq_getElem la] at h1
   rw [List.getD_eq_getElem?_getD,List.getElem?_eq_getElem lb] at h2
   rw [List.getElem?_eq_getElem la,List.getElem?_eq_getElem lb]
   have Na:t[k]=(k:Int):=h1
   have Jd:(bG i)[k]=(k:Int):=h2
   rw [Na,Jd]
  .rw [if_neg hk,List.getElem?_eq_none (by rw [ax (dD i)]; lia)]
noncomputable def cb (s i p:Nat) (t:List Int):Bool:=decide (t.take i=bG i) && decide ((pg s).im t i=p)
theorem jz (ht:t∈perms s) (hi:i<=s):cb s i p t=true↔gS (pg s) t i/\(pg s).im t i=p:=by
 unfold cb
 rw [Bool.and_eq_true,decide_eq_true_eq,decide_eq_true_eq,yJ ht hi]
theorem yK {M:List Int->Prop} (hM:gT (pg s) M) {Ts:List (List Int)} (hT: ∀t,t∈Ts↔M t) {i p:Nat} (hi:i < s) {a:List Int}{r:List (List Int)} (h:Ts.filter (cb s i p)=a::r):dW (pg s) M i p (bI.gn a r):=by
 have mem: ∀x,x∈a::r↔M x/\gS (pg s) x i/\(pg s).im x i=p:=λx=>by
  rw [<-h,List.mem_filter,hT]
  constructor
  .rintro⟨h1,h2⟩
   exact⟨h1,(jz (hM.s x h1) (by lia)).mp h2⟩
  .rintro⟨h1,h2⟩
   exact⟨h1,(jz (hM.s x h1) (by lia)).mpr h2⟩
 refine cK ((mem _).mp (bI.p7 r a)) λm1 m2 m3=>⟨m1,m2,m3,λt h1 h2 h3=>?_⟩
 have wB:=bI.sQ r a t ((mem t).mpr ⟨h1,h2,h3⟩)
 cases e:bI.bh (bI.gn a r) t with
 |true=>exact .inr ((Bz (hM.s _ m1) (hM.s t h1)).mpr e)
 |false=>exact .inl (bI.jg _ _ e wB)
theorem BP {M:List Int->Prop} (hM:gT (pg s) M) {Ts:List (List Int)} (hT: ∀t,t∈Ts↔M t) {i p:Nat} (hi:i < s) (h:Ts.filter (cb s i p)=[]): ¬ ∃x,dW (pg s) M i p x:=λzz=>by
 obtain⟨x,b⟩:=zz
 have:x∈Ts.filter (cb s i p):=List.mem_filter.mpr ⟨(hT x).mpr b.1,(jz (hM.s x b.1) (by lia)).mpr ⟨b.2.1,b.2.2.1⟩⟩
 rw [h] at this
 cases this
noncomputable abbrev yL:E:=(.comp [3,5] 0 (.it (.var 0)) (.cons (.qH true (.cons (.cmp .Eq (.sl (.var 0) .nil (.cons (.var 1) .nil)) (.iZ .tuple (.cons (.var 1) .nil))) (.cons (.cmp .Eq (.idx (.var 0) (.var 1)) (.var 2)) .nil))) .nil) (.var 0))
noncomputable abbrev CM:C:=(.seq (.cC 6 yL) (.seq (.ifs (.cmp .NotEq (.var 6) (.lst .nil)) (.seq (.app 4 (.tup (.cons (.var 5) (.cons (.prim .min (.cons (.var 6) .nil)) .nil)))) .skip) .skip) .skip))
noncomputable abbrev Lc:C:=(.seq (.cC 4 (.lst .nil)) (.seq (.for [5] 0 (.dQ (.cons (.var 1) .nil)) CM) (.seq (.app 2 (.prim .tuple (.cons (.var 4) .nil))) .skip)))
noncomputable abbrev ZE (Ts:List (List Int)) (s:Nat) (x2 x3:Option (Bool×D)) (acc:List D) (x5 x6:Option (Bool×D)):Env:=[some (false,.lst (Ts.map tp)),some (false,.int s),x2,x3,some (true,.lst acc),x5,x6]
theorem BQ (h6:s<=6) {Ts:List (List Int)} (zy: ∀t∈Ts,t∈perms s) (vG:Ts.length<=1000) {i p:Nat} (hi:i < s) {x2 x6:Option (Bool×D)}{acc:List D}:
  ev F false yL (ZE Ts s x2 (some (false,.int i)) acc (some (false,.int p)) x6)=some (.lst ((Ts.filter (cb s i p)).map tp)):=by
 have iI:bJ=16777216:=rfl
 have hw:walk (fq F [3,5] (.cons (.qH true (.cons (.cmp .Eq (.sl (.var 0) .nil (.cons (.var 1) .nil)) (.iZ .tuple (.cons (.var 1) .nil))) (.cons (.cmp .Eq (.idx (.var 0) (.var 1)) (.var 2)) .nil))) .nil) (.var 0) (ZE Ts s x2 (some (false,.int i)) acc (some (false,.int p)) x6)) (Ts.map tp)=some ((Ts.filter (cb s i p)).map tp):=by
  clear vG
  induction Ts with
  |nil=>rfl
  |cons t Ts ih=>
   have ht:=zy t List.mem_cons_self
   have hl:=ax ht
   let ρ:Env:=[some (false,tp t),some (false,.int i),some (false,.int p)]
   have c1:ev F false (.cmp .Eq (.sl (.var 0) .nil (.cons (.var 1) .nil)) (.iZ .tuple (.cons (.var 1) .nil))) ρ=some (.bl (decide (t.take i=bG i))):=by
    have e1:ev F true (.sl (.var 0) .nil (.cons (.var 1) .nil)) ρ=some (tp (t.take i)):=by
     show some (D.tup (vD (t.map .int) none (some (i:Int))))=_
     rw [qp _ _ (by rw [List.length_map]; lia),<-List.map_take]
     rfl
    have e2:ev F true (.iZ .tuple (.cons (.var 1) .nil)) ρ=some (tp (bG i)):=by
     show(dn [.int i]).bind (mi .tuple)=_
     rw [cf (by lia),dC]
     rfl
    rw [ev,e1,e2]
    show(cmp .Eq (tp (t.take i)) (tp (bG i))).map D.bl=_
    rw [JE]
    rfl
   have c2:ev F false (.cmp .Eq (.idx (.var 0) (.var 1)) (.var 2)) ρ=some (.bl (decide ((pg s).im t i=p))):=by
    have e1:ev F true (.idx (.var 0) (.var 1)) ρ=some (.int ((pg s).im t i:Nat)):=lJ ht hi
    rw [ev,e1]
    show some (D.bl ((((pg s).im t i:Nat):Int) == (p:Int)))=_
    rw [t_]
   have c3:gM F true (.cons (.qH true (.cons (.cmp .Eq (.sl (.var 0) .nil (.cons (.var 1) .nil)) (.iZ .tuple (.cons (.var 1) .nil))) (.cons (.cmp .Eq (.idx (.var 0) (.var 1)) (.var 2)) .nil))) .nil) ρ=some (cb s i p t):=by
    have c4:gM F true (.cons (.cmp .Eq (.sl (.var 0) .nil (.cons (.var 1) .nil)) (.iZ .tuple (.cons (.var 1) .nil))) (.cons (.cmp .Eq (.idx (.var 0) (.var 1)) (.var 2)) .nil)) ρ=some (cb s i p t):=by
     rw [gM,c1]
     show(if decide (t.take i=bG i)=true then gM F true (.cons (.cmp .Eq (.idx (.var 0) (.var 1)) (.var 2)) .nil) ρ else some (decide (t.take i=bG i)))=_
     rw [gM,c2]
     unfold cb
     cases decide (t.take i=bG i) <;> cases decide ((pg s).im t i=p) <;> rfl
    have c5:ev F false (.qH true (.cons (.cmp .Eq (.sl (.var 0) .nil (.cons (.var 1) .nil)) (.iZ .tuple (.cons (.var 1) .nil))) (.cons (.cmp .Eq (.idx (.var 0) (.var 1)) (.var 2)) .nil))) ρ=some (.bl (cb s i p t)):=by
     rw [ev,c4]
     rfl
    rw [gM,c5]
    cases cb s i p t <;> rfl
   have DV:=ih λx hx=>zy x (List.mem_cons_of_mem _ hx)
   have HA:fq F [3,5] (.cons (.qH true (.cons (.cmp .Eq (.sl (.var 0) .nil (.cons (.var 1) .nil)) (.iZ .tuple (.cons (.var 1) .nil))) (.cons (.cmp .Eq (.idx (.var 0) (.var 1)) (.var 2)) .nil))) .nil) (.var 0) (ZE (t::Ts) s x2 (some (false,.int i)) acc (some (false,.int p)) x6) (tp t)=some (if cb s i p t then some (tp t) else none):=by
    show((gM F true _ ρ).bind λk=>if k then some (some (tp t)) else some none)=_
    rw [c3]
    cases cb s i p t <;> rfl
   have RM:walk (fq F [3,5] (.cons (.qH true (.cons (.cmp .Eq (.sl (.var 0) .nil (.cons (.var 1) .nil)) (.iZ .tuple (.cons (.var 1) .nil))) (.cons (.cmp .Eq (.idx (.var 0) (.var 1)) (.var 2)) .nil))) .nil) (.var 0) (ZE (t::Ts) s x2 (some (false,.int i)) acc (some (false,.int p)) x6)) (Ts.map tp)=some ((Ts.filter (cb s i p)).map tp):=DV
   rw [List.map_cons,walk,HA,List.filter_cons]
   cases cb s i p t with
   |true=>
    show(walk _ (Ts.map tp)).map (tp t:: ·)=_
    rw [RM]
    rfl
   |false=>exact RM
 have hv:ev F true (.var 0) (ZE Ts s x2 (some (false,.int i)) acc (some (false,.int p)) x6)=some (.lst (Ts.map tp)):=rfl
 rw [oP hv rfl (by rw [List.length_map]; lia),hw]
 rfl
open Classical in
theorem yM (h6:s<=6) (h1:1<=s) {M:List Int->Prop} (hM:gT (pg s) M) {Ts:List (List Int)} (hT: ∀t,t∈Ts↔M t) (vG:Ts.length<=1000) {i:Nat} (hi:i < s) {x2:Option (Bool×D)}: ∀{qs:List Nat}{acc:List D}{x5 x6:Option (Bool×D)},acc.length + qs.length<=10000->
  ∃y5 y6,aH (λx ρ=>(aM 0 x).bind λys=>(cX ρ [5] ys).bind λρ'=>ex F CM ρ') (qs.map λ(k:Nat)=>D.int (k:Int)) (ZE Ts s x2 (some (false,.int i)) acc x5 x6)=some (.next (ZE Ts s x2 (some (false,.int i)) (acc++((qs.filter λp=>decide (∃x,dW (pg s) M i p x)).map λp=>pairD (p,cc (pg s) M i p))) y5 y6))
 |[],acc,x5,x6,_=>⟨x5,x6,by show some (i9.next _)=_; rw [List.filter_nil,List.map_nil,List.append_nil]⟩
 |p::qs,acc,x5,x6,hn=>by
  rw [List.length_cons] at hn
  have iI:bJ=16777216:=rfl
  have zy: ∀t∈Ts,t∈perms s:=λt h=>hM.s t ((hT t).mp h)
  have hg:=BQ (F:=F) h6 zy vG (p:=p) hi (x2:=x2) (x6:=x6) (acc:=acc)
  have a1:ex F (.cC 6 yL) (ZE Ts s x2 (some (false,.int i)) acc (some (false,.int p)) x6)=some (.next (ZE Ts s x2 (some (false,.int i)) acc (some (false,.int p)) (some (true,.lst ((Ts.filter (cb s i p)).map tp))))):=by
   rw [ex,hg]
   rfl
  have a2:ev F false (.cmp .NotEq (.var 6) (.lst .nil)) (ZE Ts s x2 (some (false,.int i)) acc (some (false,.int p)) (some (true,.lst ((Ts.filter (cb s i p)).map tp))))=some (.bl (!(Ts.filter (cb s i p)).isEmpty)):=by
   have h1: ∀W:List (List Int),cmp .NotEq (.lst (W.map tp)) (.lst [])=some (!W.isEmpty):=λW=>by
    show(if(dG (.lst (W.map tp)) 60 && dG (.lst []) 60)=true then some (!jD (.lst (W.map tp)) (.lst [])) else none)=_
    have e1:dG (.lst (W.map tp)) 60=true:=iY 58 W
    rw [e1]
    cases W <;> rfl
   show(cmp .NotEq (.lst ((Ts.filter (cb s i p)).map tp)) (.lst [])).map D.bl=_
   rw [h1]
   rfl
  cases hf:Ts.filter (cb s i p) with
  |nil=>
   rw [hf] at a1 a2
   refine lP (yM h6 h1 hM hT vG hi (x2:=x2) (qs:=qs) (acc:=acc) (x5:=some (false,.int p)) (x6:=some (true,.lst [])) (by lia)) λy5 y6 ih=>⟨y5,y6,?_⟩
   have hb:ex F CM (put (ZE Ts s x2 (some (false,.int i)) acc x5 x6) 5 false (.int p))=some (.next (ZE Ts s x2 (some (false,.int i)) acc (some (false,.int p)) (some (true,.lst [])))):=by
    show ex F CM (ZE Ts s x2 (some (false,.int i)) acc (some (false,.int p)) x6)=_
    rw [ex,a1]
    show ex F (.seq (.ifs (.cmp .NotEq (.var 6) (.lst .nil)) (.seq (.app 4 (.tup (.cons (.var 5) (.cons (.prim .min (.cons (.var 6) .nil)) .nil)))) .skip) .skip) .skip) (ZE Ts s x2 (some (false,.int i)) acc (some (false,.int p)) (some (true,.lst [])))=_
    rw [ex,ex]
    have NP:ev F false (.cmp .NotEq (.var 6) (.lst .nil)) (ZE Ts s x2 (some (false,.int i)) acc (some (false,.int p)) (some (true,.lst [])))=some (.bl false):=a2
    rw [NP]
    rfl
   rw [List.map_cons,nA hb,ih,List.filter_cons,if_neg (by rw [decide_eq_true_eq]; exact BP hM hT hi hf)]
  |cons a r=>
   rw [hf] at a1 a2
   have qB:=yK hM hT hi hf
   refine lP (yM h6 h1 hM hT vG hi (x2:=x2) (qs:=qs) (acc:=acc++[pairD (p,cc (pg s) M i p)]) (x5:=some (false,.int p)) (x6:=some (true,.lst ((a::r).map tp))) (by rw [List.length_append,List.length_singleton]; lia)) λy5 y6 ih=>⟨y5,y6,?_⟩
   have ym:ev F false (.prim .min (.cons (.var 6) .nil)) (ZE Ts s x2 (some (false,.int i)) acc (some (false,.int p)) (some (true,.lst ((a::r).map tp))))=some (tp (bI.gn a r)):=by
    show((dS ((a::r).map tp)).bind λks=>match ks with|[]=>none|a::r=>some (mh (bI.gn a r)))=_
    rw [jy λt ht=>rV h1 (zy t (List.mem_filter.mp (show t∈Ts.filter (cb s i p) by rw [hf]; exact ht)).1)]
    rfl
   have NQ:ev F false (.tup (.cons (.var 5) (.cons (.prim .min (.cons (.var 6) .nil)) .nil))) (ZE Ts s x2 (some (false,.int i)) acc (some (false,.int p)) (some (true,.lst ((a::r).map tp))))=some (pairD (p,cc (pg s) M i p)):=by
    have:=e_ (b:=false) (F:=F) (ρ:=ZE Ts s x2 (some (false,.int i)) acc (some (false,.int p)) (some (true,.lst ((a::r).map tp)))) (a:= .var 5) (x:= .int p) rfl ym
    rw [ev,this,eJ qB]
    rfl
   have NR:ex F (.app 4 (.tup (.cons (.var 5) (.cons (.prim .min (.cons (.var 6) .nil)) .nil)))) (ZE Ts s x2 (some (false,.int i)) acc (some (false,.int p)) (some (true,.lst ((a::r).map tp))))=some (.next (ZE Ts s x2 (some (false,.int i)) (acc++[pairD (p,cc (pg s) M i p)]) (some (false,.int p)) (some (true,.lst ((a::r).map tp))))):=by
    rw [fV NQ (xs:=acc) rfl (by lia)]
    rfl
   have hb:ex F CM (put (ZE Ts s x2 (some (false,.int i)) acc x5 x6) 5 false (.int p))=some (.next (ZE Ts s x2 (some (false,.int i)) (acc++[pairD (p,cc (pg s) M i p)]) (some (false,.int p)) (some (true,.lst ((a::r).map tp))))):=by
    show ex F CM (ZE Ts s x2 (some (false,.int i)) acc (some (false,.int p)) x6)=_
    rw [ex,a1]
    show ex F (.seq (.ifs (.cmp .NotEq (.var 6) (.lst .nil)) (.seq (.app 4 (.tup (.cons (.var 5) (.cons (.prim .min (.cons (.var 6) .nil)) .nil)))) .skip) .skip) .skip) (ZE Ts s x2 (some (false,.int i)) acc (some (false,.int p)) (some (true,.lst ((a::r).map tp))))=_
    have NP:ev F false (.cmp .NotEq (.var 6) (.lst .nil)) (ZE Ts s x2 (some (false,.int i)) acc (some (false,.int p)) (some (true,.lst ((a::r).map tp))))=some (.bl true):=a2
    rw [ex,ex,NP]
    show((ex F (.seq (.app 4 (.tup (.cons (.var 5) (.cons (.prim .min (.cons (.var 6) .nil)) .nil)))) .skip) (ZE Ts s x2 (some (false,.int i)) acc (some (false,.int p)) (some (true,.lst ((a::r).map tp))))).bind _)=_
    rw [ex,NR]
    rfl
   rw [List.map_cons,nA hb,ih,List.filter_cons,if_pos (by rw [decide_eq_true_eq]; exact⟨_,qB⟩),List.map_cons,List.append_assoc]
   rfl
theorem yN (h6:s<=6) (h1:1<=s) {M:List Int->Prop} (hM:gT (pg s) M) {Ts:List (List Int)} (hT: ∀t,t∈Ts↔M t) (vG:Ts.length<=1000): ∀{is:List Nat}{acc:List D}{x3 x4 x5 x6:Option (Bool×D)},(∀i∈is,i < s)->acc.length + is.length<=1000->
  ∃y3 y4 y5 y6,aH (λx ρ=>(aM 0 x).bind λys=>(cX ρ [3] ys).bind λρ'=>ex F Lc ρ') (is.map λ(k:Nat)=>D.int (k:Int)) [some (false,.lst (Ts.map tp)),some (false,.int s),some (true,.lst acc),x3,x4,x5,x6]=
   some (.next [some (false,.lst (Ts.map tp)),some (false,.int s),some (true,.lst (acc++is.map λi=>aC (aQ (pg s) M i))),y3,y4,y5,y6])
 |[],acc,x3,x4,x5,x6,_,_=>⟨x3,x4,x5,x6,by show some (i9.next _)=_; rw [List.map_nil,List.append_nil]⟩
 |i::is,acc,x3,x4,x5,x6,RN,hn=>by
  rw [List.length_cons] at hn
  have iI:bJ=16777216:=rfl
  have hi:=RN i List.mem_cons_self
  refine lP (yM h6 h1 hM hT vG hi (F:=F) (x2:=some (true,.lst acc)) (qs:=List.range s) (acc:=[]) (x5:=x5) (x6:=x6) (by rw [List.length_nil,List.length_range]; lia)) λz5 z6 i1=>?_
  have er:((List.range s).filter λp=>@decide (∃x,dW (pg s) M i p x) (Classical.propDecidable _)).map (λp=>pairD (p,cc (pg s) M i p))=(aQ (pg s) M i).map pairD:=by
   unfold aQ
   rw [List.map_map]
   rfl
  rw [List.nil_append,er] at i1
  refine Kl (yN h6 h1 hM hT vG (is:=is) (acc:=acc++[aC (aQ (pg s) M i)]) (x3:=some (false,.int i)) (x4:=some (true,.lst ((aQ (pg s) M i).map pairD))) (x5:=z5) (x6:=z6) (λj hj=>RN j (List.mem_cons_of_mem _ hj)) (by rw [List.length_append,List.length_singleton]; lia)) λy3 y4 y5 y6 ih=>⟨y3,y4,y5,y6,?_⟩
  have a2:ex F (.for [5] 0 (.dQ (.cons (.var 1) .nil)) CM) (ZE Ts s (some (true,.lst acc)) (some (false,.int i)) [] x5 x6)=some (.next (ZE Ts s (some (true,.lst acc)) (some (false,.int i)) ((aQ (pg s) M i).map pairD) z5 z6)):=by
   have hr:(cx F false (.cons (.var 1) .nil) (ZE Ts s (some (true,.lst acc)) (some (false,.int i)) [] x5 x6)).bind dn=some (br 0 s):=cf (by lia)
   rw [tY hr,dE]
   exact i1
  have a3:ex F (.app 2 (.prim .tuple (.cons (.var 4) .nil))) (ZE Ts s (some (true,.lst acc)) (some (false,.int i)) ((aQ (pg s) M i).map pairD) z5 z6)=some (.next (ZE Ts s (some (true,.lst (acc++[aC (aQ (pg s) M i)]))) (some (false,.int i)) ((aQ (pg s) M i).map pairD) z5 z6)):=by
   rw [fV (d:=aC (aQ (pg s) M i)) (xs:=acc) rfl rfl (by lia)]
   rfl
  have hb:ex F Lc (put [some (false,.lst (Ts.map tp)),some (false,.int s),some (true,.lst acc),x3,x4,x5,x6] 3 false (.int i))=some (.next (ZE Ts s (some (true,.lst (acc++[aC (aQ (pg s) M i)]))) (some (false,.int i)) ((aQ (pg s) M i).map pairD) z5 z6)):=by
   show ex F (.seq (.for [5] 0 (.dQ (.cons (.var 1) .nil)) CM) (.seq (.app 2 (.prim .tuple (.cons (.var 4) .nil))) .skip)) (ZE Ts s (some (true,.lst acc)) (some (false,.int i)) [] x5 x6)=_
   rw [ex,a2]
   show ex F (.seq (.app 2 (.prim .tuple (.cons (.var 4) .nil))) .skip) (ZE Ts s (some (true,.lst acc)) (some (false,.int i)) ((aQ (pg s) M i).map pairD) z5 z6)=_
   rw [ex,a3]
   rfl
  rw [List.map_cons,nA hb,List.map_cons,show acc++aC (aQ (pg s) M i)::is.map (λi=>aC (aQ (pg s) M i))=(acc++[aC (aQ (pg s) M i)])++is.map (λi=>aC (aQ (pg s) M i)) by rw [List.append_assoc]; rfl]
  exact ih
theorem rW (h6:s<=6) (h1:1<=s) {M:List Int->Prop} (hM:gT (pg s) M) {Ts:List (List Int)} (hT: ∀t,t∈Ts↔M t) (vG:Ts.length<=1000):
  out (ex F CH.body (aq CH [.lst (Ts.map tp),.int s]))=some (bQ (ju (pg s) M 0)):=by
 refine Kl (yN h6 h1 hM hT vG (F:=F) (is:=List.range s) (acc:=[]) (x3:=none) (x4:=none) (x5:=none) (x6:=none) (λi h=>List.mem_range.mp h) (by rw [List.length_nil,List.length_range]; lia)) λy3 y4 y5 y6 i1=>?_
 rw [List.nil_append] at i1
 have a1:ex F (.for [3] 0 (.dQ (.cons (.var 1) .nil)) Lc) [some (false,.lst (Ts.map tp)),some (false,.int s),some (true,.lst []),none,none,none,none]=some (.next [some (false,.lst (Ts.map tp)),some (false,.int s),some (true,.lst ((List.range s).map λi=>aC (aQ (pg s) M i))),y3,y4,y5,y6]):=by
  have hr:(cx F false (.cons (.var 1) .nil) [some (false,.lst (Ts.map tp)),some (false,.int s),some (true,.lst []),none,none,none,none]).bind dn=some (br 0 s):=cf (by lia)
  rw [tY hr,dE]
  exact i1
 have hx:ex F CH.body (aq CH [.lst (Ts.map tp),.int s])=(ex F (.for [3] 0 (.dQ (.cons (.var 1) .nil)) Lc) [some (false,.lst (Ts.map tp)),some (false,.int s),some (true,.lst []),none,none,none,none]).bind λo=>match o with
   | .next ρ'=>ex F (.seq (.ret (.prim .tuple (.cons (.var 2) .nil))) .skip) ρ'
   |o=>some o:=rfl
 rw [hx,a1]
 show some (D.tup ((List.range s).map λi=>aC (aQ (pg s) M i)))=_
 unfold bQ ju
 rw [List.map_map,List.range_eq_range']
 rfl
end
end iU
namespace Py
mutual
theorem lN: ∀d:D,jD d d=true
 | .eK =>rfl
 | .bl b=>by show(b == b)=true; simp
 | .int i=>by show(i == i)=true; simp
 | .tup xs=>lO xs
 | .lst xs=>lO xs
 | .bF _ _ _=>rfl
theorem lO: ∀l:List D,wt l l=true
 |[]=>rfl
 |x::l=>by show(jD x x && wt l l)=true; rw [lN x,lO l]; rfl
end
end Py
namespace iU
open Py jL
section
variable {n s:Nat}
theorem yO (h:s<=6):run T (n + 1) 0 [.int s]=some (tp (bG s)):=by
 rw [bE (d:=j') rfl rfl]; exact yg (by lia)
theorem oT (h:s<=6): ∀p∈perms s,∀q∈perms s,run T (n + 1) 1 [tp p,tp q]=some (tp (comp p q)):=λp hp q hq=>by
 rw [bE (d:=j_) rfl rfl]; exact qt (by lia) hp hq
theorem BR (h:s<=6): ∀p∈perms s,∀q∈perms s,run T (n + 1) 16 [tp p,tp q]=some (tp (comp p q)):=λp hp q hq=>by
 rw [bE (d:=j_) rfl rfl]; exact qt (by lia) hp hq
theorem JR (h:s<=6): ∀p∈perms s,run T (n + 1) 2 [tp p]=some (tp (ip p)):=λp hp=>by
 rw [bE (d:=rN) rfl rfl]; exact Bv (by lia) hp
theorem NS (ns:List Int) {k:Nat} (hk:k < 1000):run T (n + 2) 12 [.lst (ns.map .int),.int k]=some (.int (tQ ns k)):=by
 rw [bE (d:=tP 11) rfl rfl]
 refine FA ns k hk ?_
 rw [bE (d:=lB) rfl rfl]
 exact Bo ns k
theorem yP (a k:Int):run T (n + 1) 13 [.int a,.int k]=some (.int (drawn a k)):=by
 rw [bE (d:=j9) rfl rfl]
 exact ya a k
theorem JS (ha:0<=a) (h1:1<=s) (h6:s<=6): ∃p∈perms s,run T (n + 2) 14 [.int a,.int s]=some (tp p):=by
 rw [bE (d:=jq 13) rfl rfl]
 exact Bt ha h1 h6 λk=>⟨drawn a k,yP a k⟩
theorem JN (a:Int) (h1:1<=s) (h6:s<=6): ∃ps:List (List Int),run T (n + 3) 15 [.int a,.int s]=some (.tup (ps.map tp))/\ps.length<=6/\ ∀p∈ps,p∈perms s:=by
 rw [bE (d:=fu 14 13) rfl rfl]
 refine bA (FH (F:=run T (n + 2)) (ft:=14) (fd:=13) (s:=s) (a:=a) (λk=>yP a k) λb hb=>JS hb h1 h6) λys e hl hP=>ae (yk ys hP) λps af lG=>?_
 subst af
 exact⟨ps,e,by rwa [List.length_map] at hl,lG⟩
theorem jA: ∀ps:List (List Int),aB (.tup (ps.map tp))=true
 |[]=>rfl
 |p::ps=>by
  show(aB (tp p) && aB (.tup (ps.map tp)))=true
  rw [aE,jA ps]
  rfl
theorem lK (h6:s<=6): ∀l t,VL (pg s) l 0->t∈perms s->run T (n + 2) 3 [.lst (l.map au),tp t]=some (tp (cU (pg s) l 0 t)):=λl t hv ht=>by
 rw [bE (d:=d3) rfl rfl]; exact BE (oT h6) (JR h6) hv ht
theorem lL (h6:s<=6): ∀l r,VL (pg s) l 0->r∈perms s->run T (n + 2) 4 [.lst (l.map au),tp r]=some (.lst ((a_ r l).map tp)):=λl r hv hr=>by
 rw [bE (d:=d4) rfl rfl]
 refine BG (oT h6) hr (BJ hv) ?_
 have h1:=rQ az hv
 have h2:=VL.len hv
 rw [Nat.zero_add] at h2
 have h3:l.length * (pg s).n <=6 * 6:=Nat.mul_le_mul (by rw [h2]; exact h6) h6
 rw [jv]
 lia
theorem BS (h6:s<=6) {ps:List (List Int)} (lG: ∀p∈ps,p∈perms s) (hl:ps.length<=6):
  ∃l,Fd (pg s) (· ∈ps) l []/\ ∀n,run T (n + 4) 8 [.tup (ps.map tp),.int s]=some (bQ (ju (pg s) (Gen (pg s) (· ∈ps)) 0)):=by
 have key: ∀n,∃l,run T (n + 3) 5 [.tup (ps.map tp),.int s]=some (.lst (l.map au))/\Fd (pg s) (· ∈ps) l []:=λn=>by
  exact ae (yD (F:=run T (n + 2)) h6 lG hl (yO h6) (lK h6) (lL h6)) λl e hd=>⟨l,by rw [bE (d:=d5) rfl rfl]; exact e,hd⟩
 refine ae (key 0) λl0 _ UY=>⟨l0,UY,λn=>?_⟩
 refine ae (key n) λl e hd=>?_
 have hM:=iT h6 lG
 have hm:=hd.hm az lG
 rw [bE (d:=d8) rfl rfl]
 refine vw h6 e (jA ps) λk hk=>?_
 rw [bE (d:=d7) rfl rfl]
 exact BL h6 hM hm hk λu hu=>ae (yE (F:=run T (n + 1)) h6 (oT h6) hm.1 hk hu) λx e1 e2=>⟨x,by rw [bE (d:=d6) rfl rfl]; exact e1,e2⟩
theorem nB (n:Nat): ∀R:Rg (List Int),fJ (R.map pairD) (n + 2)=true
 |[]=>rfl
 |e::R=>by
  show((true && (dG (tp e.2) (n + 1) && true)) && fJ (R.map pairD) (n + 2))=true
  rw [rM,nB n R]
  rfl
theorem nC (n:Nat): ∀l:List (Rg (List Int)),fJ (l.map aC) (n + 3)=true
 |[]=>rfl
 |R::l=>by
  show(fJ (R.map pairD) (n + 2) && fJ (l.map aC) (n + 3))=true
  rw [nB,nC n l]
  rfl
theorem qF (l:List (Rg (List Int))):dG (bQ l) 60=true:=nC 56 l
theorem ug (h:dG d 60=true):cmp .NotEq d d=some false:=by
 show(if(dG d 60 && dG d 60)=true then some (!jD d d) else none)=_
 rw [h,lN]
 rfl
theorem uh (h:dG d 60=true):cmp .Eq d d=some true:=by
 show(if(dG d 60 && dG d 60)=true then some (jD d d) else none)=_
 rw [h,lN]
 rfl
theorem oU (h1:ev F true a ρ=some x) (h2:ev F true c ρ=some y) (h3:cmp o x y=some k):ev F b (.cmp o a c) ρ=some (.bl k):=by
 rw [ev,h1,h2]
 show(cmp o x y).map D.bl=_
 rw [h3]
 rfl
theorem vy (h:ev F false a ρ=some (.bl k)):gM F k (.cons a r) ρ=gM F k r ρ:=by
 rw [gM,h]
 exact if_pos rfl
end
theorem holds (ns:List Int) (hl:ns.length<=63):run T (5 + 1) 19 [.lst (ns.map .int)]=some (.bl true):=by
 have W_:=Fz ns 0
 have g0:0<=tQ ns 0 % 6:=Int.emod_nonneg _ (by decide)
 have g1:tQ ns 0 % 6 < 6:=Int.emod_lt_of_pos _ (by decide)
 obtain⟨s,hs⟩: ∃s:Nat,1 + tQ ns 0 % 6=s:=⟨(1 + tQ ns 0 % 6).toNat,by lia⟩
 have h1:1<=s:=by lia
 have h6:s<=6:=by lia
 refine bA (JN (n:=2) (tQ ns 1) h1 h6) λps er i7 lG=>ae (FR (F:=run T 4) h1 h6 (BR h6) lG i7) λB eB hB=>ae (BS h6 lG i7) λl hd JT=>?_
 have hM:=iT h6 lG
 refine cK (qC az hM (hd.hm az lG)) λNT NU NV=>?_
 have JU:=(NT.hm az hM).1
 obtain⟨o1,o2⟩:=vm h6 lG hB hd
 have Xa:B.length<=720:=Nat.le_trans (iX _ _ hB.nd λx hx=>Gen.S az lG (hB.gen x hx)) (iW h6)
 have UZ: ∀t,t∈bI.aK B↔Gen (pg s) (· ∈ps) t:=λt=>((bI.dz B).mem_iff).trans (hB.done t)
 have vG:(bI.aK B).length =B.length:=(bI.dz B).length_eq
 generalize RO:ju (pg s) (Gen (pg s) (· ∈ps)) 0=Ld at JT NU NV JU o1 o2
 have K': ∀R∈Ld,R.length<=1000:=λR hR=>by
  rw [<-RO] at hR
  refine ae (List.mem_map.mp hR) λi _ af=>?_
  subst af
  unfold aQ
  rw [List.length_map]
  have:=List.length_filter_le (λp=>@decide (∃x,dW (pg s) (Gen (pg s) (· ∈ps)) i p x) (Classical.propDecidable _)) (List.range (pg s).n)
  rw [List.length_range] at this
  have hn:(pg s).n =s:=rfl
  lia
 let F:=run T 5
 have Gu: ∀k:Nat,k < 1000->F 12 [.lst (ns.map .int),.int k]=some (.int (tQ ns k)):=λk hk=>NS (n:=3) ns hk
 have JV:F 17 [.tup (ps.map tp),.int s]=some (.lst ((bI.aK B).map tp)):=by
  show run T (4 + 1) 17 _=_
  rw [bE (d:=za) rfl rfl]; exact eB
 have f8:F 8 [.tup (ps.map tp),.int s]=some (bQ Ld):=JT 1
 have JW:F 18 [.lst ((bI.aK B).map tp),.int s]=some (bQ Ld):=by
  show run T (4 + 1) 18 _=_
  rw [bE (d:=CH) rfl rfl,rW h6 h1 hM UZ (by lia),RO]
 have f9:F 9 [bQ Ld]=some (.int ((TL (pg s) Ld).length :Nat)):=by
  show run T (4 + 1) 9 _=_
  rw [bE (d:=d9) rfl rfl]; exact yF K'
 have JX:F 10 [bQ Ld]=some (.tup ((bI.aK B).map tp)):=by
  show run T (4 + 1) 10 _=_
  rw [bE (d:=vn) rfl rfl,yH h1 h6 (yO h6) (oT h6) JU,o1]
 let sc:Option (Bool×D):=some (false,.lst (ns.map .int))
 let il:Env:=[sc,some (false,.int s),none,none,none,none]
 let vF:Env:=[sc,some (false,.int s),some (false,.tup (ps.map tp)),none,none,none]
 let Ce:Env:=[sc,some (false,.int s),some (false,.tup (ps.map tp)),some (false,.lst ((bI.aK B).map tp)),none,none]
 let nW:Env:=[sc,some (false,.int s),some (false,.tup (ps.map tp)),some (false,.lst ((bI.aK B).map tp)),some (false,bQ Ld),none]
 let Gv:Env:=[sc,some (false,.int s),some (false,.tup (ps.map tp)),some (false,.lst ((bI.aK B).map tp)),some (false,bQ Ld),some (false,.int ((TL (pg s) Ld).length :Nat))]
 have s1:ev F false (.bin .Add (.c (.int 1)) (.bin .Mod (.call 12 (.cons (.var 0) (.cons (.c (.int 0)) .nil))) (.c (.int 6)))) (aq BA [.lst (ns.map .int)])=some (.int s):=by
  have c:ev F true (.call 12 (.cons (.var 0) (.cons (.c (.int 0)) .nil))) (aq BA [.lst (ns.map .int)])=some (.int (tQ ns 0)):=bB (e_ (x:= .lst (ns.map .int)) (y:= .int ((0:Nat):Int)) rfl rfl) (Gu 0 (by lia)) rfl
  have c2:ev F true (.bin .Mod (.call 12 (.cons (.var 0) (.cons (.c (.int 0)) .nil))) (.c (.int 6))) (aq BA [.lst (ns.map .int)])=some (.int (tQ ns 0 % 6)):=rU (c:= .c (.int 6)) (y:= .int 6) c rfl
  rw [rU (a:= .c (.int 1)) (x:= .int 1) rfl c2]
  show some (D.int (1 + tQ ns 0 % 6))=_
  rw [hs]
 have s2:ev F false (.call 15 (.cons (.call 12 (.cons (.var 0) (.cons (.c (.int 1)) .nil))) (.cons (.var 1) .nil))) il=some (.tup (ps.map tp)):=by
  have c:ev F true (.call 12 (.cons (.var 0) (.cons (.c (.int 1)) .nil))) il=some (.int (tQ ns 1)):=bB (e_ (x:= .lst (ns.map .int)) (y:= .int ((1:Nat):Int)) rfl rfl) (Gu 1 (by lia)) rfl
  exact bB (e_ c (y:= .int s) rfl) er (jA ps)
 have s3:ev F false (.call 17 (.cons (.var 2) (.cons (.var 1) .nil))) vF=some (.lst ((bI.aK B).map tp)):=cJ (e_ (x:= .tup (ps.map tp)) (y:= .int s) rfl rfl) JV rfl
 have s4:ev F false (.call 8 (.cons (.var 2) (.cons (.var 1) .nil))) Ce=some (bQ Ld):=cJ (e_ (x:= .tup (ps.map tp)) (y:= .int s) rfl rfl) f8 rfl
 have t1:ev F false (.cmp .NotEq (.var 4) (.call 18 (.cons (.var 3) (.cons (.var 1) .nil)))) nW=some (.bl false):=
  oU (a:= .var 4) (x:=bQ Ld) rfl (cJ (e_ (x:= .lst ((bI.aK B).map tp)) (y:= .int s) rfl rfl) JW rfl) (ug (qF Ld))
 have NW:dG (.tup ((bI.aK B).map tp)) 60=true:=iY 58 _
 have t2:ev F false (.cmp .NotEq (.call 10 (.cons (.var 4) .nil)) (.prim .tuple (.cons (.var 3) .nil))) nW=some (.bl false):=
  oU (c:= .prim .tuple (.cons (.var 3) .nil)) (y:= .tup ((bI.aK B).map tp)) (cJ (js (x:=bQ Ld) rfl) JX rfl) rfl (ug NW)
 have s5:ev F false (.qH false (.cons (.cmp .NotEq (.var 4) (.call 18 (.cons (.var 3) (.cons (.var 1) .nil)))) (.cons (.cmp .NotEq (.call 10 (.cons (.var 4) .nil)) (.prim .tuple (.cons (.var 3) .nil))) .nil))) nW=some (.bl false):=by
  rw [ev,vy t1,vy t2]
  rfl
 have s6:ev F false (.call 9 (.cons (.var 4) .nil)) nW=some (.int ((TL (pg s) Ld).length :Nat)):=cJ (js (x:=bQ Ld) rfl) f9 rfl
 have u1:ev F false (.vC (.var 5) false) Gv=some (.bl true):=rfl
 have u2:ev F false (.not (.vC (.var 5) true)) Gv=some (.bl true):=rfl
 have u3:ev F false (.cmp .Eq (.var 5) (.prim .len (.cons (.var 3) .nil))) Gv=some (.bl true):=by
  have aL:ev F true (.prim .len (.cons (.var 3) .nil)) Gv=some (.int ((TL (pg s) Ld).length :Nat)):=by
   show some (D.int (((bI.aK B).map tp).length :Nat))=_
   rw [List.length_map,vG,o2]
  exact oU (a:= .var 5) (x:= .int ((TL (pg s) Ld).length :Nat)) rfl aL (uh rfl)
 have u4:ev F false (.cmp .Eq (.call 8 (.cons (.var 2) (.cons (.var 1) .nil))) (.var 4)) Gv=some (.bl true):=
  oU (c:= .var 4) (y:=bQ Ld) (cJ (e_ (x:= .tup (ps.map tp)) (y:= .int s) rfl rfl) f8 rfl) rfl (uh (qF Ld))
 have s7:ev F true (.qH true (.cons (.vC (.var 5) false) (.cons (.not (.vC (.var 5) true)) (.cons (.cmp .Eq (.var 5) (.prim .len (.cons (.var 3) .nil))) (.cons (.cmp .Eq (.call 8 (.cons (.var 2) (.cons (.var 1) .nil))) (.var 4)) .nil))))) Gv=some (.bl true):=by
  rw [ev,vy u1,vy u2,vy u3,vy u4]
  rfl
 rw [bE (d:=BA) rfl rfl]
 show out (ex F (.seq (.asg 1 _) _) (aq BA [.lst (ns.map .int)]))=_
 rw [ex,bx s1]
 show out (ex F (.seq (.asg 2 _) _) il)=_
 rw [ex,bx s2]
 show out (ex F (.seq (.asg 3 _) _) vF)=_
 rw [ex,bx s3]
 show out (ex F (.seq (.asg 4 _) _) Ce)=_
 rw [ex,bx s4]
 show out (ex F (.seq (.ifs _ _ _) _) nW)=_
 rw [ex,ex,s5]
 show out (ex F (.seq (.asg 5 _) _) nW)=_
 rw [ex,bx s6]
 exact gh s7
end iU
namespace iU
open PySem L2 Py
noncomputable def nD (i:Nat):Stmt:=PySem.Challenge.pw_turnyard_k12_whole_ladder.main.body.getD i (.Pass ⟨0,0,0,0⟩)
noncomputable def G:GT:=(["still","times","back","left_over","products_with","found_steps","least_turn","rung_at","ladder","count_of","turns_of","_law_cell_at","_law_mixed","_law_drawn","_law_turn","_law_row","_law_times","_law_all","_law_ladder","law"],[])
noncomputable abbrev s0:Stmt:=nD 1
theorem uD:aF ["size"] ["size"] (aa s0):=⟨rfl,rfl,rfl,by decide +kernel,rfl,by decide +kernel,by decide +kernel⟩
theorem U0:bY G d0.body ["size"] (aa s0) (ai s0)=true:=by decide +kernel
noncomputable abbrev s1:Stmt:=nD 2
theorem U1:aF ["one","other"] ["one","other"] (aa s1):=⟨rfl,rfl,rfl,by decide +kernel,rfl,by decide +kernel,by decide +kernel⟩
theorem U2:bY G d1.body ["one","other"] (aa s1) (ai s1)=true:=by decide +kernel
noncomputable abbrev s2:Stmt:=nD 3
theorem U3:aF ["turn"] ["turn"] (aa s2):=⟨rfl,rfl,rfl,by decide +kernel,rfl,by decide +kernel,by decide +kernel⟩
theorem U4:bY G d2.body ["turn"] (aa s2) (ai s2)=true:=by decide +kernel
noncomputable abbrev s3:Stmt:=nD 5
theorem U8:aF ["found","turn","rest","place","steps"] ["found","turn"] (aa s3):=⟨rfl,rfl,rfl,by decide +kernel,rfl,by decide +kernel,by decide +kernel⟩
theorem E2:bY G d3.body ["found","turn","rest","place","steps"] (aa s3) (ai s3)=true:=by decide +kernel
noncomputable abbrev s4:Stmt:=nD 6
theorem U9:aF ["found","turn","made","steps","step"] ["found","turn"] (aa s4):=⟨rfl,rfl,rfl,by decide +kernel,rfl,by decide +kernel,by decide +kernel⟩
theorem K2:bY G d4.body ["found","turn","made","steps","step"] (aa s4) (ai s4)=true:=by decide +kernel
noncomputable abbrev s5:Stmt:=nD 7
theorem U_:aF ["row","size","found","waiting","rest","moved","place"] ["row","size"] (aa s5):=⟨rfl,rfl,rfl,by decide +kernel,rfl,by decide +kernel,by decide +kernel⟩
theorem U':bY G d5.body ["row","size","found","waiting","rest","moved","place"] (aa s5) (ai s5)=true:=by decide +kernel
noncomputable abbrev s6:Stmt:=nD 8
theorem Va:aF ["found","place","turn","least","steps","part"] ["found","place","turn"] (aa s6):=⟨rfl,rfl,rfl,by decide +kernel,rfl,by decide +kernel,by decide +kernel⟩
theorem Vb:bY G d6.body ["found","place","turn","least","steps","part"] (aa s6) (ai s6)=true:=by decide +kernel
noncomputable abbrev s7:Stmt:=nD 9
theorem Vc:aF ["found","place","steps"] ["found","place"] (aa s7):=⟨rfl,rfl,rfl,by decide +kernel,rfl,by decide +kernel,by decide +kernel⟩
theorem Vd:bY G d7.body ["found","place","steps"] (aa s7) (ai s7)=true:=by decide +kernel
noncomputable abbrev s8:Stmt:=nD 10
theorem Ve:aF ["row","size","found"] ["row","size"] (aa s8):=⟨rfl,rfl,rfl,by decide +kernel,rfl,by decide +kernel,by decide +kernel⟩
theorem Vf:bY G d8.body ["row","size","found"] (aa s8) (ai s8)=true:=by decide +kernel
noncomputable abbrev s9:Stmt:=nD 11
theorem Vg:aF ["yard","count","rung"] ["yard"] (aa s9):=⟨rfl,rfl,rfl,by decide +kernel,rfl,by decide +kernel,by decide +kernel⟩
theorem Vh:bY G d9.body ["yard","count","rung"] (aa s9) (ai s9)=true:=by decide +kernel
noncomputable abbrev yX:Stmt:=nD 12
theorem NX:aF ["yard","turns","rung","longer","pair"] ["yard"] (aa yX):=⟨rfl,rfl,rfl,by decide +kernel,rfl,by decide +kernel,by decide +kernel⟩
theorem NY:bY G vn.body ["yard","turns","rung","longer","pair"] (aa yX) (ai yX)=true:=by decide +kernel
noncomputable abbrev uE:Stmt:=nD 14
theorem NZ:aF ["_law_script","_law_k"] ["_law_script","_law_k"] (aa uE):=⟨rfl,rfl,rfl,by decide +kernel,rfl,by decide +kernel,by decide +kernel⟩
theorem N0:bY G Nx.body ["_law_script","_law_k"] (aa uE) (ai uE)=true:=by decide +kernel
noncomputable abbrev y_:Stmt:=nD 15
theorem N1:aF ["_law_script","_law_k","_law_drawn_here"] ["_law_script","_law_k"] (aa y_):=⟨rfl,rfl,rfl,by decide +kernel,rfl,by decide +kernel,by decide +kernel⟩
theorem N2:bY G Ny.body ["_law_script","_law_k","_law_drawn_here"] (aa y_) (ai y_)=true:=by decide +kernel
noncomputable abbrev oC:Stmt:=nD 16
theorem N3:aF ["_law_number","_law_k","_law_drawn_here"] ["_law_number","_law_k"] (aa oC):=⟨rfl,rfl,rfl,by decide +kernel,rfl,by decide +kernel,by decide +kernel⟩
theorem N4:bY G Nz.body ["_law_number","_law_k","_law_drawn_here"] (aa oC) (ai oC)=true:=by decide +kernel
noncomputable abbrev CN:Stmt:=nD 17
theorem N5:aF ["_law_number","_law_size","_law_found","_law_one","_law_other","_law_many","_law_shift","_law_k","_law_made","_law_at"] ["_law_number","_law_size"] (aa CN):=⟨rfl,rfl,rfl,by decide +kernel,rfl,by decide +kernel,by decide +kernel⟩
theorem N6:bY G NA.body ["_law_number","_law_size","_law_found","_law_one","_law_other","_law_many","_law_shift","_law_k","_law_made","_law_at"] (aa CN) (ai CN)=true:=by decide +kernel
noncomputable abbrev y0:Stmt:=nD 18
theorem N7:aF ["_law_number","_law_size"] ["_law_number","_law_size"] (aa y0):=⟨rfl,rfl,rfl,by decide +kernel,rfl,by decide +kernel,by decide +kernel⟩
theorem N8:bY G NB.body ["_law_number","_law_size"] (aa y0) (ai y0)=true:=by decide +kernel
noncomputable abbrev CO:Stmt:=nD 19
theorem N9:aF ["_law_one","_law_other"] ["_law_one","_law_other"] (aa CO):=⟨rfl,rfl,rfl,by decide +kernel,rfl,by decide +kernel,by decide +kernel⟩
theorem N_:bY G NC.body ["_law_one","_law_other"] (aa CO) (ai CO)=true:=by decide +kernel
noncomputable abbrev CP:Stmt:=nD 21
theorem Oa:aF ["_law_row_here","_law_size","_law_start","_law_met","_law_todo","_law_turn_here","_law_other","_law_goal"] ["_law_row_here","_law_size"] (aa CP):=⟨rfl,rfl,rfl,by decide +kernel,rfl,by decide +kernel,by decide +kernel⟩
theorem Ob:bY G za.body ["_law_row_here","_law_size","_law_start","_law_met","_law_todo","_law_turn_here","_law_other","_law_goal"] (aa CP) (ai CP)=true:=by decide +kernel
noncomputable abbrev CQ:Stmt:=nD 22
theorem Oc:aF ["_law_turns","_law_size","_law_rungs","_law_level","_law_rung","_law_point","_law_good"] ["_law_turns","_law_size"] (aa CQ):=⟨rfl,rfl,rfl,by decide +kernel,rfl,by decide +kernel,by decide +kernel⟩
theorem Od:bY G CH.body ["_law_turns","_law_size","_law_rungs","_law_level","_law_rung","_law_point","_law_good"] (aa CQ) (ai CQ)=true:=by decide +kernel
noncomputable abbrev yQ:Stmt:=nD 23
theorem JY:aF ["_law_script","_law_size","_law_row_here","_law_turns","_law_found","_law_many"] ["_law_script"] (aa yQ):=⟨rfl,rfl,rfl,by decide +kernel,rfl,by decide +kernel,by decide +kernel⟩
theorem JZ:bY G BA.body ["_law_script","_law_size","_law_row_here","_law_turns","_law_found","_law_many"] (aa yQ) (ai yQ)=true:=by decide +kernel
theorem all_mk {l:PySem.W.OpenLaw}{w:World}{K:PySem.W.Frag}{h:Heap}{mg:Str->Option Value}{fa f0 f1 f2 f3 f4 f5 f6 f7 f8 f9 JX Oe Gu Of Og Oh Oi JV JW Oj:Addr} (X:K.In h) (GM:h.Ns mainGlobals mg) (Vi:mg "law"=some (.ref fa))
  {Vj Vk Vl Vm Vn Vo Vp Vq Vr Vs Vt Vu Vv Vw Vx Vy Vz VA VB VC Ol Om Oo Oq Ot Ou Ov Ow Ox Oy Oz OA OB OC OD OF OG OH OI J0:Option Addr}{VD VE G_ VF VG VH VI VJ VM VN OJ OK OL OM ON OO OP OQ OR OS:Array (Option Value)}{VO VP VQ VR RP VS VT VU VV VW RQ VX VY VZ V0 V1 RS V2 V3 V4 V5 V6 RT V7 V8 V9 V_ V' RU Wa Wb Wc Wd We RV Wf Wg Wh Wi Wj RW Wk Wl Wm Wn Wo RX Wq Wr Ws Wt Wu RY Wv Ww Wx Wy Wz RZ WA OU OV OW OX J3 OY OZ O0 O1 O3 J_ O4 O5 O6 O7 O8 J' O9 O_ Pa Pb Pc Ka Pd Pf Pj Pk Pl Kb Pn Po Pp Pu Pw Kc Px Pz PB PD PF Kd PH PJ PK PL PM Ke PN PQ PR PU PV Kf PX PY Kg Kh Ki FU Kj:Value}
  (a0:PySem.W.nsIn K mainGlobals "still"=some (some (.ref f0))) (l0:K.lookup f0=some ⟨VO,Vj,.func (PySem.W.fnOf "still" "still" (aG s0) (ai s0) (aa s0) .none VP VQ VR Vk RP VS),VD⟩) (c0:PySem.W.codeIn K RP "still"=true) (k0:PySem.W.keepIn K (.ref f0)=true)
  (a1:PySem.W.nsIn K mainGlobals "times"=some (some (.ref f1))) (l1:K.lookup f1=some ⟨VT,Vl,.func (PySem.W.fnOf "times" "times" (aG s1) (ai s1) (aa s1) .none VU VV VW Vm RQ VX),VE⟩) (c1:PySem.W.codeIn K RQ "times"=true) (k1:PySem.W.keepIn K (.ref f1)=true)
  (a2:PySem.W.nsIn K mainGlobals "back"=some (some (.ref f2))) (l2:K.lookup f2=some ⟨VY,Vn,.func (PySem.W.fnOf "back" "back" (aG s2) (ai s2) (aa s2) .none VZ V0 V1 Vo RS V2),G_⟩) (c2:PySem.W.codeIn K RS "back"=true) (k2:PySem.W.keepIn K (.ref f2)=true)
  (a3:PySem.W.nsIn K mainGlobals "left_over"=some (some (.ref f3))) (l3:K.lookup f3=some ⟨V3,Vp,.func (PySem.W.fnOf "left_over" "left_over" (aG s3) (ai s3) (aa s3) .none V4 V5 V6 Vq RT V7),VF⟩) (c3:PySem.W.codeIn K RT "left_over"=true) (k3:PySem.W.keepIn K (.ref f3)=true)
  (a4:PySem.W.nsIn K mainGlobals "products_with"=some (some (.ref f4))) (l4:K.lookup f4=some ⟨V8,Vr,.func (PySem.W.fnOf "products_with" "products_with" (aG s4) (ai s4) (aa s4) .none V9 V_ V' Vs RU Wa),VG⟩) (c4:PySem.W.codeIn K RU "products_with"=true) (k4:PySem.W.keepIn K (.ref f4)=true)
  (a5:PySem.W.nsIn K mainGlobals "found_steps"=some (some (.ref f5))) (l5:K.lookup f5=some ⟨Wb,Vt,.func (PySem.W.fnOf "found_steps" "found_steps" (aG s5) (ai s5) (aa s5) .none Wc Wd We Vu RV Wf),VH⟩) (c5:PySem.W.codeIn K RV "found_steps"=true) (k5:PySem.W.keepIn K (.ref f5)=true)
  (a6:PySem.W.nsIn K mainGlobals "least_turn"=some (some (.ref f6))) (l6:K.lookup f6=some ⟨Wg,Vv,.func (PySem.W.fnOf "least_turn" "least_turn" (aG s6) (ai s6) (aa s6) .none Wh Wi Wj Vw RW Wk),VI⟩) (c6:PySem.W.codeIn K RW "least_turn"=true) (k6:PySem.W.keepIn K (.ref f6)=true)
  (a7:PySem.W.nsIn K mainGlobals "rung_at"=some (some (.ref f7))) (l7:K.lookup f7=some ⟨Wl,Vx,.func (PySem.W.fnOf "rung_at" "rung_at" (aG s7) (ai s7) (aa s7) .none Wm Wn Wo Vy RX Wq),VJ⟩) (c7:PySem.W.codeIn K RX "rung_at"=true) (k7:PySem.W.keepIn K (.ref f7)=true)
  (a8:PySem.W.nsIn K mainGlobals "ladder"=some (some (.ref f8))) (l8:K.lookup f8=some ⟨Wr,Vz,.func (PySem.W.fnOf "ladder" "ladder" (aG s8) (ai s8) (aa s8) .none Ws Wt Wu VA RY Wv),VM⟩) (c8:PySem.W.codeIn K RY "ladder"=true) (k8:PySem.W.keepIn K (.ref f8)=true)
  (a9:PySem.W.nsIn K mainGlobals "count_of"=some (some (.ref f9))) (l9:K.lookup f9=some ⟨Ww,VB,.func (PySem.W.fnOf "count_of" "count_of" (aG s9) (ai s9) (aa s9) .none Wx Wy Wz VC RZ WA),VN⟩) (c9:PySem.W.codeIn K RZ "count_of"=true) (k9:PySem.W.keepIn K (.ref f9)=true)
  (PZ:PySem.W.nsIn K mainGlobals "turns_of"=some (some (.ref JX))) (P0:K.lookup JX=some ⟨OU,Ol,.func (PySem.W.fnOf "turns_of" "turns_of" (aG yX) (ai yX) (aa yX) .none OV OW OX Om J3 OY),OJ⟩) (P4:PySem.W.codeIn K J3 "turns_of"=true) (P7:PySem.W.keepIn K (.ref JX)=true)
  (P8:PySem.W.nsIn K mainGlobals "_law_cell_at"=some (some (.ref Oe))) (P9:K.lookup Oe=some ⟨OZ,Oo,.func (PySem.W.fnOf "_law_cell_at" "_law_cell_at" (aG uE) (ai uE) (aa uE) .none O0 O1 O3 Oq J_ O4),OK⟩) (P_:PySem.W.codeIn K J_ "_law_cell_at"=true) (P':PySem.W.keepIn K (.ref Oe)=true)
  (Qa:PySem.W.nsIn K mainGlobals "_law_mixed"=some (some (.ref Gu))) (Qb:K.lookup Gu=some ⟨O5,Ot,.func (PySem.W.fnOf "_law_mixed" "_law_mixed" (aG y_) (ai y_) (aa y_) .none O6 O7 O8 Ou J' O9),OL⟩) (Jy:PySem.W.codeIn K J' "_law_mixed"=true) (Qc:PySem.W.keepIn K (.ref Gu)=true)
  (Qd:PySem.W.nsIn K mainGlobals "_law_drawn"=some (some (.ref Of))) (Qf:K.lookup Of=some ⟨O_,Ov,.func (PySem.W.fnOf "_law_drawn" "_law_drawn" (aG oC) (ai oC) (aa oC) .none Pa Pb Pc Ow Ka Pd),OM⟩) (Qg:PySem.W.codeIn K Ka "_law_drawn"=true) (Qh:PySem.W.keepIn K (.ref Of)=true)
  (Qi:PySem.W.nsIn K mainGlobals "_law_turn"=some (some (.ref Og))) (Qj:K.lookup Og=some ⟨Pf,Ox,.func (PySem.W.fnOf "_law_turn" "_law_turn" (aG CN) (ai CN) (aa CN) .none Pj Pk Pl Oy Kb Pn),ON⟩) (Qk:PySem.W.codeIn K Kb "_law_turn"=true) (Ql:PySem.W.keepIn K (.ref Og)=true)
  (Qm:PySem.W.nsIn K mainGlobals "_law_row"=some (some (.ref Oh))) (Qn:K.lookup Oh=some ⟨Po,Oz,.func (PySem.W.fnOf "_law_row" "_law_row" (aG y0) (ai y0) (aa y0) .none Pp Pu Pw OA Kc Px),OO⟩) (Qo:PySem.W.codeIn K Kc "_law_row"=true) (Qp:PySem.W.keepIn K (.ref Oh)=true)
  (Qr:PySem.W.nsIn K mainGlobals "_law_times"=some (some (.ref Oi))) (Qs:K.lookup Oi=some ⟨Pz,OB,.func (PySem.W.fnOf "_law_times" "_law_times" (aG CO) (ai CO) (aa CO) .none PB PD PF OC Kd PH),OP⟩) (Qt:PySem.W.codeIn K Kd "_law_times"=true) (Qu:PySem.W.keepIn K (.ref Oi)=true)
  (Qv:PySem.W.nsIn K mainGlobals "_law_all"=some (some (.ref JV))) (Qw:K.lookup JV=some ⟨PJ,OD,.func (PySem.W.fnOf "_law_all" "_law_all" (aG CP) (ai CP) (aa CP) .none PK PL PM OF Ke PN),OQ⟩) (Qx:PySem.W.codeIn K Ke "_law_all"=true) (Qy:PySem.W.keepIn K (.ref JV)=true)
  (Qz:PySem.W.nsIn K mainGlobals "_law_ladder"=some (some (.ref JW))) (QA:K.lookup JW=some ⟨PQ,OG,.func (PySem.W.fnOf "_law_ladder" "_law_ladder" (aG CQ) (ai CQ) (aa CQ) .none PR PU PV OH Kf PX),OR⟩) (QB:PySem.W.codeIn K Kf "_law_ladder"=true) (QC:PySem.W.keepIn K (.ref JW)=true)
  (Le:PySem.W.nsIn K mainGlobals "law"=some (some (.ref Oj))) (QD:K.lookup Oj=some ⟨PY,OI,.func (PySem.W.fnOf "law" "law" (aG yQ) (ai yQ) (aa yQ) .none Kg Kh Ki J0 FU Kj),OS⟩) (QE:PySem.W.codeIn K FU "law"=true) (QF:PySem.W.keepIn K (.ref Oj)=true)
  (z0:PySem.W.nsIn K mainGlobals "len"=some none)
  (z1:PySem.W.nsIn K mainGlobals "tuple"=some none)
  (z2:PySem.W.nsIn K mainGlobals "list"=some none)
  (z3:PySem.W.nsIn K mainGlobals "min"=some none)
  (z4:PySem.W.nsIn K mainGlobals "sorted"=some none)
  (z5:PySem.W.nsIn K mainGlobals "int"=some none)
  (z6:PySem.W.nsIn K mainGlobals "isinstance"=some none)
  (z7:PySem.W.nsIn K mainGlobals "bool"=some none)
  (z8:PySem.W.nsIn K mainGlobals "range"=some none)
  (z9:PySem.W.nsIn K mainGlobals "enumerate"=some none)
  (QG:PySem.W.nsIn K mainGlobals "reversed"=some none):
  ∃fd:FuncData,(∀(s:Shared) (v:Value),BindsTo s fd ⟨[v],[]⟩ [("_law_script",v)])/\ ∀base:Heap,K.In base->base.Ns mainGlobals mg->g_ l.prog w K mg base uA (5 + 1) fa fd ["_law_script"] (s_ K 1 (run T (5 + 1) 19)):=by
 have e:=Vi.symm.trans (PySem.W.mg_of X GM Le)
 cases e
 have F0:=bD (st:=s0) l0 c0 k0
 have b0:=F0.binds (ps:=["size"]) λ_ _ _ _ _ _ us hl=>(vd hl).elim λ_ e=>by subst e; rfl
 have F1:=bD (st:=s1) l1 c1 k1
 have b1:=F1.binds (ps:=["one","other"]) λ_ _ _ _ _ _ us hl=>lP (gQ hl) λ_ _ e=>by subst e; rfl
 have F2:=bD (st:=s2) l2 c2 k2
 have b2:=F2.binds (ps:=["turn"]) λ_ _ _ _ _ _ us hl=>(vd hl).elim λ_ e=>by subst e; rfl
 have F3:=bD (st:=s3) l3 c3 k3
 have b3:=F3.binds (ps:=["found","turn"]) λ_ _ _ _ _ _ us hl=>lP (gQ hl) λ_ _ e=>by subst e; rfl
 have F4:=bD (st:=s4) l4 c4 k4
 have b4:=F4.binds (ps:=["found","turn"]) λ_ _ _ _ _ _ us hl=>lP (gQ hl) λ_ _ e=>by subst e; rfl
 have F5:=bD (st:=s5) l5 c5 k5
 have b5:=F5.binds (ps:=["row","size"]) λ_ _ _ _ _ _ us hl=>lP (gQ hl) λ_ _ e=>by subst e; rfl
 have F6:=bD (st:=s6) l6 c6 k6
 have b6:=F6.binds (ps:=["found","place","turn"]) λ_ _ _ _ _ _ us hl=>Gw (Nq hl) λ_ _ _ e=>by subst e; rfl
 have F7:=bD (st:=s7) l7 c7 k7
 have b7:=F7.binds (ps:=["found","place"]) λ_ _ _ _ _ _ us hl=>lP (gQ hl) λ_ _ e=>by subst e; rfl
 have F8:=bD (st:=s8) l8 c8 k8
 have b8:=F8.binds (ps:=["row","size"]) λ_ _ _ _ _ _ us hl=>lP (gQ hl) λ_ _ e=>by subst e; rfl
 have F9:=bD (st:=s9) l9 c9 k9
 have b9:=F9.binds (ps:=["yard"]) λ_ _ _ _ _ _ us hl=>(vd hl).elim λ_ e=>by subst e; rfl
 have R1:=bD (st:=yX) P0 P4 P7
 have WB:=R1.binds (ps:=["yard"]) λ_ _ _ _ _ _ us hl=>(vd hl).elim λ_ e=>by subst e; rfl
 have R3:=bD (st:=uE) P9 P_ P'
 have WC:=R3.binds (ps:=["_law_script","_law_k"]) λ_ _ _ _ _ _ us hl=>lP (gQ hl) λ_ _ e=>by subst e; rfl
 have R4:=bD (st:=y_) Qb Jy Qc
 have WD:=R4.binds (ps:=["_law_script","_law_k"]) λ_ _ _ _ _ _ us hl=>lP (gQ hl) λ_ _ e=>by subst e; rfl
 have R6:=bD (st:=oC) Qf Qg Qh
 have WE:=R6.binds (ps:=["_law_number","_law_k"]) λ_ _ _ _ _ _ us hl=>lP (gQ hl) λ_ _ e=>by subst e; rfl
 have R7:=bD (st:=CN) Qj Qk Ql
 have WG:=R7.binds (ps:=["_law_number","_law_size"]) λ_ _ _ _ _ _ us hl=>lP (gQ hl) λ_ _ e=>by subst e; rfl
 have R8:=bD (st:=y0) Qn Qo Qp
 have WH:=R8.binds (ps:=["_law_number","_law_size"]) λ_ _ _ _ _ _ us hl=>lP (gQ hl) λ_ _ e=>by subst e; rfl
 have R9:=bD (st:=CO) Qs Qt Qu
 have WI:=R9.binds (ps:=["_law_one","_law_other"]) λ_ _ _ _ _ _ us hl=>lP (gQ hl) λ_ _ e=>by subst e; rfl
 have R_:=bD (st:=CP) Qw Qx Qy
 have WJ:=R_.binds (ps:=["_law_row_here","_law_size"]) λ_ _ _ _ _ _ us hl=>lP (gQ hl) λ_ _ e=>by subst e; rfl
 have Sa:=bD (st:=CQ) QA QB QC
 have WK:=Sa.binds (ps:=["_law_turns","_law_size"]) λ_ _ _ _ _ _ us hl=>lP (gQ hl) λ_ _ e=>by subst e; rfl
 have QH:=bD (st:=yQ) QD QE QF
 have WL:=QH.binds (ps:=["_law_script"]) λ_ _ _ _ _ _ us hl=>(vd hl).elim λ_ e=>by subst e; rfl
 have hb: ∀x∈fP,mg x=none:=by
  intro x hx
  simp only [fP,List.mem_cons,List.not_mem_nil,or_false] at hx
  rcases hx with rfl|rfl|rfl|rfl|rfl|rfl|rfl|rfl|rfl|rfl|rfl
  .exact PySem.W.mg_none_of X GM z0
  .exact PySem.W.mg_none_of X GM z1
  .exact PySem.W.mg_none_of X GM z2
  .exact PySem.W.mg_none_of X GM z3
  .exact PySem.W.mg_none_of X GM z4
  .exact PySem.W.mg_none_of X GM z5
  .exact PySem.W.mg_none_of X GM z6
  .exact PySem.W.mg_none_of X GM z7
  .exact PySem.W.mg_none_of X GM z8
  .exact PySem.W.mg_none_of X GM z9
  .exact PySem.W.mg_none_of X GM QG
 have gX: ∀(x:Str) (i:Int),(x,i)∈G.2-> ∃t,mg x=some (.int i t):=by
  intro x i hx
  exact absurd hx (by simp [G])
 refine⟨PySem.W.fnOf "law" "law" (aG yQ) (ai yQ) (aa yQ) .none Kg Kh Ki J0 FU Kj,λs v=> .of_eq rfl,λbase _ _=>?_⟩
 have lX: ∀(f:Nat) (x:Str),G.1[f]?=some x->rL l.prog w K mg base G T f x:=by
  intro f x hf
  match f,hf with
  |0,hf=>cases hf; exact b_.step hb gX (d:=d0) rfl ⟨s0,_,_,["size"],["size"],F0,uD,b0,PySem.W.mg_of X GM a0,U0,rfl,rfl⟩
  |1,hf=>cases hf; exact b_.step hb gX (d:=d1) rfl ⟨s1,_,_,["one","other"],["one","other"],F1,U1,b1,PySem.W.mg_of X GM a1,U2,rfl,rfl⟩
  |2,hf=>cases hf; exact b_.step hb gX (d:=d2) rfl ⟨s2,_,_,["turn"],["turn"],F2,U3,b2,PySem.W.mg_of X GM a2,U4,rfl,rfl⟩
  |3,hf=>cases hf; exact b_.step hb gX (d:=d3) rfl ⟨s3,_,_,["found","turn","rest","place","steps"],["found","turn"],F3,U8,b3,PySem.W.mg_of X GM a3,E2,rfl,rfl⟩
  |4,hf=>cases hf; exact b_.step hb gX (d:=d4) rfl ⟨s4,_,_,["found","turn","made","steps","step"],["found","turn"],F4,U9,b4,PySem.W.mg_of X GM a4,K2,rfl,rfl⟩
  |5,hf=>cases hf; exact b_.step hb gX (d:=d5) rfl ⟨s5,_,_,["row","size","found","waiting","rest","moved","place"],["row","size"],F5,U_,b5,PySem.W.mg_of X GM a5,U',rfl,rfl⟩
  |6,hf=>cases hf; exact b_.step hb gX (d:=d6) rfl ⟨s6,_,_,["found","place","turn","least","steps","part"],["found","place","turn"],F6,Va,b6,PySem.W.mg_of X GM a6,Vb,rfl,rfl⟩
  |7,hf=>cases hf; exact b_.step hb gX (d:=d7) rfl ⟨s7,_,_,["found","place","steps"],["found","place"],F7,Vc,b7,PySem.W.mg_of X GM a7,Vd,rfl,rfl⟩
  |8,hf=>cases hf; exact b_.step hb gX (d:=d8) rfl ⟨s8,_,_,["row","size","found"],["row","size"],F8,Ve,b8,PySem.W.mg_of X GM a8,Vf,rfl,rfl⟩
  |9,hf=>cases hf; exact b_.step hb gX (d:=d9) rfl ⟨s9,_,_,["yard","count","rung"],["yard"],F9,Vg,b9,PySem.W.mg_of X GM a9,Vh,rfl,rfl⟩
  |10,hf=>cases hf; exact b_.step hb gX (d:=vn) rfl ⟨yX,_,_,["yard","turns","rung","longer","pair"],["yard"],R1,NX,WB,PySem.W.mg_of X GM PZ,NY,rfl,rfl⟩
  |11,hf=>cases hf; exact b_.step hb gX (d:=Nx) rfl ⟨uE,_,_,["_law_script","_law_k"],["_law_script","_law_k"],R3,NZ,WC,PySem.W.mg_of X GM P8,N0,rfl,rfl⟩
  |12,hf=>cases hf; exact b_.step hb gX (d:=Ny) rfl ⟨y_,_,_,["_law_script","_law_k","_law_drawn_here"],["_law_script","_law_k"],R4,N1,WD,PySem.W.mg_of X GM Qa,N2,rfl,rfl⟩
  |13,hf=>cases hf; exact b_.step hb gX (d:=Nz) rfl ⟨oC,_,_,["_law_number","_law_k","_law_drawn_here"],["_law_number","_law_k"],R6,N3,WE,PySem.W.mg_of X GM Qd,N4,rfl,rfl⟩
  |14,hf=>cases hf; exact b_.step hb gX (d:=NA) rfl ⟨CN,_,_,["_law_number","_law_size","_law_found","_law_one","_law_other","_law_many","_law_shift","_law_k","_law_made","_law_at"],["_law_number","_law_size"],R7,N5,WG,PySem.W.mg_of X GM Qi,N6,rfl,rfl⟩
  |15,hf=>cases hf; exact b_.step hb gX (d:=NB) rfl ⟨y0,_,_,["_law_number","_law_size"],["_law_number","_law_size"],R8,N7,WH,PySem.W.mg_of X GM Qm,N8,rfl,rfl⟩
  |16,hf=>cases hf; exact b_.step hb gX (d:=NC) rfl ⟨CO,_,_,["_law_one","_law_other"],["_law_one","_law_other"],R9,N9,WI,PySem.W.mg_of X GM Qr,N_,rfl,rfl⟩
  |17,hf=>cases hf; exact b_.step hb gX (d:=za) rfl ⟨CP,_,_,["_law_row_here","_law_size","_law_start","_law_met","_law_todo","_law_turn_here","_law_other","_law_goal"],["_law_row_here","_law_size"],R_,Oa,WJ,PySem.W.mg_of X GM Qv,Ob,rfl,rfl⟩
  |18,hf=>cases hf; exact b_.step hb gX (d:=CH) rfl ⟨CQ,_,_,["_law_turns","_law_size","_law_rungs","_law_level","_law_rung","_law_point","_law_good"],["_law_turns","_law_size"],Sa,Oc,WK,PySem.W.mg_of X GM Qz,Od,rfl,rfl⟩
  |19,hf=>cases hf; exact b_.step hb gX (d:=BA) rfl ⟨yQ,_,_,["_law_script","_law_size","_law_row_here","_law_turns","_law_found","_law_many"],["_law_script"],QH,JY,WL,PySem.W.mg_of X GM Le,JZ,rfl,rfl⟩
  |f + 20,hf=>exact absurd hf (by simp [G])
 exact x8 (n:=5) (f:=19) (d:=BA) (ps:=["_law_script"]) hb gX (Bn lX 5) QH JY rfl JZ rfl rfl
end iU
open PySem PySem.W PyProof.Rows
set_option maxRecDepth 100000 in
set_option maxHeartbeats 0 in
theorem PySem.Challenge.cw_turnyard_k12_whole_ladder_holds : PySem.Challenge.rw_turnyard_k12_whole_ladder.Holds := by
 w_on; o_law; k_head; (case hw=>w_witness2)
 k_fill
 refine Py.JC (x:="_law_script") (l:=PySem.Challenge.rw_turnyard_k12_whole_ladder) (T:=iU.T) (n:=5 + 1) (f:=19) rfl rfl (by decide) (λw h Y=>PySem.W.kIn_of Y) ?F iU.holds
 case F=>
  intro w mg fa h KX G Hl
  refine' iU.all_mk KX G Hl ?a0 ?l0 ?c0 ?k0 ?a1 ?l1 ?c1 ?k1 ?a2 ?l2 ?c2 ?k2 ?a3 ?l3 ?c3 ?k3 ?a4 ?l4 ?c4 ?k4 ?a5 ?l5 ?c5 ?k5 ?a6 ?l6 ?c6 ?k6 ?a7 ?l7 ?c7 ?k7 ?a8 ?l8 ?c8 ?k8 ?a9 ?l9 ?c9 ?k9 ?PZ ?P0 ?P4 ?P7 ?P8 ?P9 ?P_ ?P' ?Qa ?Qb ?Jy ?Qc ?Qd ?Qf ?Qg ?Qh ?Qi ?Qj ?Qk ?Ql ?Qm ?Qn ?Qo ?Qp ?Qr ?Qs ?Qt ?Qu ?Qv ?Qw ?Qx ?Qy ?Qz ?QA ?QB ?QC ?Le ?QD ?QE ?QF ?z0 ?z1 ?z2 ?z3 ?z4 ?z5 ?z6 ?z7 ?z8 ?z9 ?QG
  (case a0=>k_is)
  (case l0=>k_is)
  (case c0=>k_is)
  (case k0=>k_is)
  (case a1=>k_is)
  (case l1=>k_is)
  (case c1=>k_is)
  (case k1=>k_is)
  (case a2=>k_is)
  (case l2=>k_is)
  (case c2=>k_is)
  (case k2=>k_is)
  (case a3=>k_is)
  (case l3=>k_is)
  (case c3=>k_is)
  (case k3=>k_is)
  (case a4=>k_is)
  (case l4=>k_is)
  (case c4=>k_is)
  (case k4=>k_is)
  (case a5=>k_is)
  (case l5=>k_is)
  (case c5=>k_is)
  (case k5=>k_is)
  (case a6=>k_is)
  (case l6=>k_is)
  (case c6=>k_is)
  (case k6=>k_is)
  (case a7=>k_is)
  (case l7=>k_is)
  (case c7=>k_is)
  (case k7=>k_is)
  (case a8=>k_is)
  (case l8=>k_is)
  (case c8=>k_is)
  (case k8=>k_is)
  (case a9=>k_is)
  (case l9=>k_is)
  (case c9=>k_is)
  (case k9=>k_is)
  (case PZ=>k_is)
  (case P0=>k_is)
  (case P4=>k_is)
  (case P7=>k_is)
  (case P8=>k_is)
  (case P9=>k_is)
  (case P_=>k_is)
  (case P'=>k_is)
  (case Qa=>k_is)
  (case Qb=>k_is)
  (case Jy=>k_is)
  (case Qc=>k_is)
  (case Qd=>k_is)
  (case Qf=>k_is)
  (case Qg=>k_is)
  (case Qh=>k_is)
  (case Qi=>k_is)
  (case Qj=>k_is)
  (case Qk=>k_is)
  (case Ql=>k_is)
  (case Qm=>k_is)
  (case Qn=>k_is)
  (case Qo=>k_is)
  (case Qp=>k_is)
  (case Qr=>k_is)
  (case Qs=>k_is)
  (case Qt=>k_is)
  (case Qu=>k_is)
  (case Qv=>k_is)
  (case Qw=>k_is)
  (case Qx=>k_is)
  (case Qy=>k_is)
  (case Qz=>k_is)
  (case QA=>k_is)
  (case QB=>k_is)
  (case QC=>k_is)
  (case Le=>k_is)
  (case QD=>k_is)
  (case QE=>k_is)
  (case QF=>k_is)
  (case z0=>k_is)
  (case z1=>k_is)
  (case z2=>k_is)
  (case z3=>k_is)
  (case z4=>k_is)
  (case z5=>k_is)
  (case z6=>k_is)
  (case z7=>k_is)
  (case z8=>k_is)
  (case z9=>k_is)
  (case QG=>k_is)
