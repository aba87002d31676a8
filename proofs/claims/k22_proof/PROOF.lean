import PyProof.Rows.All
import Wide.All
import OpenK.AllK
import Wide.FinOn
import Lean
import PyProof.EqAt
import PyProof.EqKinds
import PyProof.TupleCall
import PyProof.CompFree
import PyProof.WalkInts
import PyProof.StrBlockI
import PyProof.StrBlockL
import PyProof.MeetsSeq
import PyProof.Rows.StrJoinMade
import PyProof.ZipIter
import KE.KRevSl
import PyProof.Rows.StrSplitAre
import PyProof.StrBlockH
import PyProof.Rows.SortRuns
import KE.KSortTup
import KE.KDictSum
import PyProof.DictValues
import PyProof.AttrMissHeap
import PyProof.Rows.SetFrom
import PySem.SetOps
import PyProof.SetScanFacts
import PyProof.SetKind
import PyProof.TupleKey
import PyProof.IsRules
import PyProof.TableCode
import PyProof.ToksMono
import PyProof.StationsW
import PyProof.ExcClass2
import PyProof.Rows.Own
import KE.KTryMore
import PyProof.Rows.CatchBare
import PyProof.ExcAttrAll.ValueError
import PySem.Challenge.RW_turnyard_k22_whole_shares
set_option linter.all false
set_option hygiene false
local macro_rules
|`(aa1)=>`((by decide))
|`(aa3)=>`((by omega))
|`(aa8)=>`((by decide +kernel))
|`(ab1)=>`((by simp))
|`(ac2)=>`((x==("__debug__":Str)))
|`(ad0)=>`(((cC items.size 0 lo:Nat):Int)==0&&(1:Int)==1&&(cC items.size items.size hi-cC items.size 0 lo)==items.size)
|`(ae7)=>`((setArr au (out.toList.zipIdx.foldl (λa (p,j)=>a.setIfInBounds (sa+k+j) p) (arrOf au))))
|`(ae9)=>`((x==("__classdict__":Str)))
namespace Lean
def zn(k:Name)(a:Array Syntax):Syntax:=.node .none k a
def zt(s:String):Syntax:=.atom .none s
def za(c:Array Syntax):Syntax:=if c.size<2 then c.getD 0 .missing else zn ``Parser.Term.app #[c[0]!,zn `null (c.extract 1 c.size)]
def zo:String->Nat×Name
|"->"=>(51,``Parser.Term.arrow)
|"/\\"=>(71,`«term_∧_»)
|"×"=>(71,`«term_×_»)
|"="=>(100,`«term_=_»)
|"=="=>(100,`«term_==_»)
|"<"=>(100,`«term_<_»)
|"<="=>(100,`«term_≤_»)
|"≠"=>(100,`«term_≠_»)
|"∈"=>(100,`«term_∈_»)
|"::"=>(135,`«term_::_»)
|"++"=>(130,`«term_++_»)
|"+"=>(130,`«term_+_»)
|"-"=>(130,`«term_-_»)
|_=>(0,`null)
def zr:List (Syntax×String)->Nat->Syntax->List (Syntax×String)×Syntax
|(l,o)::t,p,x=>if p+p%2<(zo o).1+1 then zr t p (zn (zo o).2 #[l,zt o,x]) else ((l,o)::t,x)
|t,_,x=>(t,x)
def zi(s:List Char):String×List Char:=((.ofList (s.span isIdRest).1),(s.span isIdRest).2)
def zd:Nat->List Char->String×List Char
|n+1,s=>match zi s with
 |(w,'.'::c::r)=>if isIdFirst c then (zd n (c::r)).map (w++"."++·) id else (w,'.'::c::r)
 |x=>x
|_,s=>("",s)
def zp(y:Syntax):Nat->List Char->Bool->List (Array Syntax×Array Syntax×List (Syntax×String))->Syntax
|n+1,s,g,(d,c,q)::r=>let e:=(zr q 0 (za c)).2;match s with
 |[]=>e
 |' '::s=>zp y n s false ((d,c,q)::r)
 |','::s=>zp y n s false ((d++#[e,zt ","],#[],[])::r)
 |h::t=>
  if "(⟨[".contains h then zp y n t false ((#[],#[],[])::(d,c,q)::r) else
  if ")⟩]".contains h then match r with
   |(d',c',q')::r=>let x:=if c.isEmpty then d else d.push e;zp y n t true ((d',c'.push (if h==')' then if d.isEmpty then e else x.pop.foldr (fun a r=>if a.isAtom then r else za #[mkIdent ``Prod.mk,a,r]) x.back! else if h==']' then zn `«term[_]» #[zt "[",zn `null x,zt "]"] else zn ``Parser.Term.anonymousCtor #[zt "⟨",zn `null x,zt "⟩"]),q')::r)
   |_=>e else
  if h=='.' then if g then if t.head!.isDigit then zp y n (zi t).2 true ((d,c.pop.push (zn ``Parser.Term.proj #[c.back!,zt ".",zn `fieldIdx #[zt (zi t).1]]),q)::r)
    else zp y n (zd 9 t).2 true ((d,c.pop.push (zn ``Parser.Term.proj #[c.back!,zt ".",mkIdent (zd 9 t).1.toName]),q)::r)
   else zp y n (zd 9 t).2 true ((d,c.push (zn ``Parser.Term.dotIdent #[zt ".",mkIdent (zd 9 t).1.toName]),q)::r) else
  if isIdRest h then let (w,t):=zd 9 s;zp y n t true ((d,c.push (if w=="_" then zn ``Parser.Term.hole #[zt "_"] else if h.isDigit then Syntax.mkNumLit w else mkIdent w.toName),q)::r) else
  if h=='#' then zp y n t true ((d,c.push y,q)::r) else
  let o:=s.span ("->=/\\×<≠∈:+".contains ·);let w:=String.ofList o.1;let (q,x):=zr q (zo w).1 (za c);zp y n o.2 false ((d,#[],(x,w)::q)::r)
|_,_,_,_=>y
def zz(s:String)(y:Syntax):Syntax:=zp y 999 s.toList false [(#[],#[],[])]
def zb:="
aa0 List Int
aa2 model prog w
aa4 Inv X U σ H s
aa5 bind_some hd
aa6 model X.prog X.w
aa7 List (Addr×Obj)
aa9 SX K H₀ ae Z kv kd ow σ H ρ
aa_ starEach (e::es) X.env=(false,eval e X.env)::starEach es X.env
ab0 List Value
ab2 s.heap.get? b=some o
ab3 List aa0
ab4 Option (Bool×D)
ab5 Shared
ab6 .ref s.heap.objs.size
ab7 F 1 [tp p,tp q]=some (tp (comp p q))
ab8 X.env.cells.lookup x=some c
ab9 Array Keyed
ab_ .ref a
ac0 aS (pg s) M 0
ac1 List D
ac3 .tup (ps.map tp)
ac4 arrOf zt
ac5 aq K O H vs ds
ac6 .var 0
ac7 Program
ac8 .lst (l.map aC)
ac9 aas _
ac_ List Str
ad1 (false,eval a X.env)
ad2 ah.refl _
ad3 (x,NameKind.free)∈sc.names
ad4 h'.get? b=some o
ad5 List V
ad6 iQ X sc cl s3.heap.objs.size N' U s3 H3 fp
ad7 List (Rg α)
ad8 .ref it
ad9 PySem.W.fnOf r.1 r.1 (dI (i9 r.2.1)) (bD (i9 r.2.1)) (af (i9 r.2.1)) .none kV gJ pm an du ct
ad_ .var 1
ae0 .seq (.asg 2 (.ci 6)) (.seq (.asg 3 (.call 26 (.o (.bin .FloorDiv (.call 18 (.w 0 (.o (.ci 5)))) (.ci 5))))) (.seq (.asg 4 (.sl (.var 3) .nil (.o (.bin .Mod (.bin .FloorDiv (.call 18 (.w 0 (.o (.ci 5)))) (.ci 25)) (.bin .Add (.prim .len (.u 3)) (.ci 1)))))) .skip))
ae1 .lst (ns.map .int)
ae2 Array Value
ae3 iQ X sc cl C N' U s H ex
ae4 map_some hd
ae5 a.toList.Pairwise (le r)
ae6 Option Value
ae8 Os ae ow
ae_ List Addr
af0 dH (kJ P w C) P w K mg base N qual scope f cd A outer s0 H0 E
af1 X.A.units+64<cLine
af2 LS K H₀ ae a as T σ H ρ
af3 envOfC qual scope s0.heap.objs.size f cd
af4 A.handled=none
af5 .tup (.cons (.ci 1) (.cons (.ci 1) (.cons (.ci 2) (.cons (.ci 2) (.cons (.ci 3) (.cons (.ci 0) (.o (.ci 6))))))))
af6 X.calm=true
af7 aM X hC x h
af8 cf rfl rfl
af9 ap.endLine==cp.line
af_ .int k
ag0 s1.trans s2
ag1 .w 0 (.u 1)
ag2 List (Rg aa0)
ag3 .bl true
ag4 ks.length=vs.length
ag5 Option Int
ag6 aav _ rfl
ag7 a.toList++b.toList
ag8 .lst xs
ag9 .ListComp eV [⟨tg,iter,ifs,0⟩] sc pos
ag_ PE X e (tV X.K false f)
ahp Around
ahq .inl rfl
ahr b.toList.Pairwise (le r)
ahs (cellsFrom (s3.heap.objs.size+1) sc.names []++cl).lookup x=some c
aht vf (tp t)
ahu t∈perms s
ahv iQ X iD cl C (qk X.N [n] fr) U s H ex
ahw List.replicate k none++jQ fr σ
ahx I.ok.hd hc
ahy arrOf au
ahz .int s
ahA List Expr
ahB List α
ahC om prog w A E s κ P r
ahD aQ (aS (pg s) N 0)
ahE F 22 [tp p,tp q]=some (tp (comp p q))
ahF Ct X G F
ahG .ref p
ahH .int i
ahI tp (comp t g)
ahJ starEach [a] X.env=[ad1]
ahK SetTable
ahL starEach es X.env
ahM Option Nat
ahN (a==sysModules)=false
ahO ⟨I.ok.mod,I.ok.kind,I.ok.glob,I.ok.blt,I.ok.above,I.ok.inj,I.ok.has,I.ok.JG,I.ok.hd,I.ok.frames,I.ok.K6,I.ok.Pb,I.ok.bs,I.ok.xW,I.ok.ud,I.ok.wm,I.ok.i_,I.ok.Ge⟩
ahP PE X a (tV X.K true fa)
ahQ Option Addr
ahR tp (bR s)
ahS .seq (.ifs IY .skip .skip) .skip
ahT t.mask+1
ahU .dF o (.dK kvs)
ahV hx.mono s1
ahW List Nat
ahX jf prog w x
ahY cl.lookup x=some c
ahZ .cmp .NotEq (.idx ad_ ac6) ac6
ah0 ha U s σ H _ I h
ah1 af st
ah2 .lst vs
ah3 ⟨_,ag6,rfl,rfl⟩
ah4 h.get? b=some o
ah5 .bin .Mod (.call 18 (.w 0 (.o (.ci 5)))) (.ci 5)
ah6 .Name x px
ah7 ha pos U s σ H _ I h
ah8 ah.upd hp
ah9 I1.aJ.fresh ac9
ah_ .comp [0] 0 (.iO (.o (.prim .len (.u 0)))) .nil (.fj .index ad_ (.u 0))
aia s1.heap.objs.size
aib ((pg s).im r k,r)
aic .ref l
aid p∈perms n
aie wpAny aa2 A (pyNext ad8) Q E s
aif bE G e' X.N X.env.scope x=true
aih .dF o u
aii .ci 1
aij intKind prog w
aik bz n1 n2 n3 n4
ail bO (bj s.heap y) (bj s.heap x)=false
aim k.headD 0
ain h'.get? b=some u
aio p∈perms s
aip F9 K 2 rn (run T m) Bu
aiq ao (i8 ft fd) [.int a,ahz]
air Option D
ais (x,NameKind.cell)∈sc.names
ait List (Addr×List Int)
aiu .Call (.Name x p) (e::es) [] pos
aiv EP X U σ Q
aiw PySem.W.fnOf x qual (dI st) (bD st) ah1 .none kV gJ pm an du ct
aix .ref h1.objs.size
aiy .bin .Mod (.bin .Mult (.bin .Add (.bin .Add (.call g ag1) (.bin .Mult (.ci 7919) ad_)) aii) (.ci 48271)) (.ci 2147483647)
aiz some ab_
aiA arrOf gg
aiB EX K O σ H ρ
aiC ac2=false
aiD aaM _ _
aiE F 2 [tp p]=some (tp (ip p))
aiF B a b c d e
aiG Array (Int×Value)
aiH A a b c d e
aiI .bin .Mod (.bin .Mult (.bin .Add (.bin .Add ac6 (.bin .Mult (.ci 104729) ad_)) (.ci 17)) (.ci 69621)) (.ci 2147483647)
aiJ put ρ i true (.lst (xs++[d]))
aiK vZ X.env.scope x
aiL NE x0 x1 c t (vf ahH) (vf (br R)) x6 x7
aiM vf (tp r)
aiN xs.length<=sizeLine
aiO ns.map V.int
aiP Value.ref l==Value.none
aiQ Loc X.env.scope x
aiR List (List cz×V)
aiS .Compare a [op] [b] pos
aiT run T n
aiU h.own j d' hj
aiV dD (pg s) l 0 t
aiW .next (put ρ i true (.lst (ws++zs)))
aiX ah H H'
aiY aah _ e
aiZ rf ow i (some p)
ai0 AE (vf e) x1 x2 B (W0++[t]) x5 x6 x7
ai1 .ref C
ai2 o.toList.Pairwise (le r)
ai3 behindInMarks op b=false
ai4 LO X.N X.env.scope sc N' k fr
ai5 Inv X U σ H' s'
ai6 C a b c d e
ai7 .ref fa
ai8 wpS aa2 A E s x Q zt
ai9 kvs.length<=sizeLine
ai_ foldedSetIterable iter X.env x=pure x
aja dH CX P w K mg base N qual scope f du A outer s H E
ajb attributeBase o name X.env (eval o X.env)=eval o X.env
ajc .var 2
ajd .ref e
aje .comp fr tg it ifs eV
ajf aaw (abl hl)
ajg PassesOwn aa6 X.A X.env X.xe
ajh PE X b (tV X.K true fb)
aji .bin .Add (.sl (.var 8) .nil (.u 9)) (.lst (.u 7))
ajj bu K O H v d
ajk ⟨rfl,rfl,rfl⟩
ajl i9 r.2.1
ajm bj s.heap
ajn arr prog w xs
ajo HT.cC xs.length xs.length hi-HT.cC xs.length 0 lo
ajp Classical.propDecidable _
ajq .inl (.int _)
ajr u∈perms s
ajs ow i=some a
ajt o.data= .dict es ep
aju X.fn x=true
ajv Array DictEntry
ajw .cmp .NotEq (.var 4) (.lst .nil)
ajx .tup (.cons aii (.cons (.ci 2) (.cons (.ci 3) (.cons (.ci 4) (.cons (.ci 5) (.o (.ci 0)))))))
ajy .tup (.cons aii (.cons (.ci 0) (.cons (.ci 2) (.cons (.ci 3) (.cons (.ci 4) (.o (.ci 5)))))))
ajz (pg s).im r k≠k
ajA s.heap.FunFrames base (env::outer)
ajB done out na nb
ajC done out ia ib
ajD SortSt
ajE H b=some (.tup (List.map V.int k))
ajF s3.heap.objs.size+1
ajG put ρ i false d
ajH cC items.size items.size hi-cC items.size 0 lo
ajI LE x0 x1 t (vf ahH) (vf (aC R))
ajJ .tup xs
ajK b≠X.env.locals
ajL Inv X U bU H' s'
ajM some (true,.bx 1 (dE s N pre) (mv (dE s N pre)))
ajN hf it ab1
ajO aaA e
ajP VL (pg s) l 0
ajQ H b=none
ajR C a b c d e f
ajS B4 r κ a₀ au lo
ajT B a b c d e f
ajU A a b c d e f
ajV .ref b
ajW cH K H a xs
ajX Heap.SameBut it s.heap h'
ajY D a b c d e
ajZ .ref D
aj0 arrOf cP
aj1 ao ql [x,y,z]
aj2 ao d5 [ac3,ahz]
aj3 aar.mpr rfl
aj4 aaj hk (aaE hi)
aj5 L2.upd H a (.lst vs.dropLast)
aj6 .seq (.ifs (.call 30 ag1) (.seq (.ret (.c ag3)) .skip) .skip) (.seq (.raise 0) .skip)
aj7 s.heap.get? a=some o
aj8 Sm st au
aj9 List (Nat×Nat×Nat)
aj_ H p=none
aka FuncData
akb x= .ref a
akc wpAny aa6 X.A (f (.int i t) (.int j u)) Q E s
akd s.heap.IsSliceOf sl vl vu .none
ake l.map aC
akf h.get? b=some u
akg gC P w H h
akh X.N.Nodup
aki I.tok _
akj Heap.SameBut a s.heap h'
akk Heap.ExtBut it s.heap h'
akl .seq (.wL [2,3,4] (.call 24 ag1)) (.seq (.ifs (.cmp .Eq ah5 (.ci 2)) ae0 .skip) WO)
akm TE x0 x1 x2 u (vf (aC R)) x5
akn vf (tp g)
ako q _ _ (ah.upd hl) (.inl (.lst (.inl ag) (hx.free ad2 hl) ((oK pw).mono (ah.upd hl))))
akp model P w
akq .seq # .skip
akr tV X.K false #
aks bind_some #
akt ev F false #
aku some #
akv put ρ i true #
akw inner # ρ fr
akx .lst #
aky eval # X.env
akz ForInStep.yield #
akA .cons # .nil
akB .cmp .Eq (.bin .Mod ac6 (.ci 3)) #
akC .next #
akD AE x0 x1 x2 # W aht akn (vf ahI)
akE .ref #
akF .prim .len #
akG .BoolOp (bo k) # pos
akH aam # aa1
akI FE x0 s W aiM # x6
akJ .tup #
akK .bin .Mod ac6 #
akL envOfC qual scope s.heap.objs.size f #
akM .prim .tuple #
akN .inl #
akO B a b c d
akP A a b c d
akQ aal _ #
akR put ρ i true #
akS ho U s σ H _ I h
akT aao ⟨_,rfl,aao h⟩
akU Y.mul t (Y.inv u)
akV List (Str×Addr)
akW I.list hq
akX .comp [1] 0 (.it ac6) .nil (.idx ad_ ac6)
akY .builtin id
akZ aaz.mp #
ak0 List (κ×V)
ak1 kA (Bq (EH (EH (EI rfl rfl (KC aa1)) (EI rfl rfl (nA _ aa1 aa1))) rfl) rfl aa1)
ak2 k _ _ ahq e
ak3 jf prog w x.2
ak4 (p,gw (pg s) M k p)
ak5 .var #
ak6 .ret #
ak7 rf ow i none
ak8 kJ P w C
ak9 L2.upd (L2.upd H6 Kx (.dK [(Sum.inl ki,v)])) p (akx (as.map V.ref++[.ref Kx]))
ak_ At t x K
ala EH # (EI rfl rfl (nA _ aa1 aa1))
alb v= .ref a
alc some (true,.lst (acc.map tp))
ald bO ((k::ks).getD i []) ((k::ks).getD j [])
ale Option PySem.Fin×Unit
alf Ms r a b out i j
alg Mh r a b out i j
alh List Stmt
ali C a b c d
alj tV X.K m #
alk map_some #
alm L2.upd H1 p #
aln .bin .Mod # ad_
alo eG (envOfC qual scope s0.heap.objs.size f cd::outer)=s0.heap.objs.size::eG outer
alp abF eZ
alq .var 3
alr .bool true
als .Name y py
alu SX K H₀ ae Z (v::kv) (d::kd) ow σ H ρ
alv .Call # [a] [] pos
alw kJ P w C outer H0 s0 E e' mJ
alx aku hs.length
aly aeb _ (acM _)
alz abv _
alA abk _ _ _
alB aaW _
alC .comp [4] 0 (.iO (.u 1)) (.o ahZ) ac6
alD (pg s).im t i
alE upd H s.heap.objs.size #
alF put ρ # true (akx l.dropLast)
alG x= .Call fn args wz p
alH gF as H1 H3
alI ev F true a ρ=some d
alJ az.mp hp
alK List (List cz×Addr×Value)
alL KV kvs vs
alM H1 p=none
alN E a b c d e
alO B5 t.mask x
alP AllBare s'.gens
alQ wpS_bind (wpS_modify (wpS_bind (wpS_get (wpS_pure (QU out au sq w_ hS)))))
alR ⟨_,_,_,_,rfl⟩
alS s.heap.objs.size+1
alT o.toList.Perm ag7
alU gE s.heap d es ep
alV dD Y l i t
alW abi _
alX X.A.units+1<cLine
alY VL Y l i
alZ Option ac1
al1 H a=some u
al2 D a b c d e f
al3 .ci 0
al4 (x,D.bl true)
al5 t.probeStart #
al6 .int #
al7 Y.im t i
al8 A.frames=some (env::outer)
al9 runEnd t.mask x.1-x.1+1
al_ mg x=some (.int i t)
ama E a b c d e f
amb abK (aaE hk)
amc aaJ _ (aaJ _ (f_ hb e))
amd X.base.get? b=some o
ame Value.ref d==Value.none
amf A a b c
amg .dT kvs
amh .dK kvs
ami .bl false
amj ev F false #
amk Nv # n1 (F f) (cQ (dn x) (cQ (Iw y) nM))
aml bz hi hv En nT
amm he U s σ H _ I h
amn h.ex.kO j o d' hj
amo cell ns k
amq aaN (aaj ajO (I.ok.JG x c UI hc))
amr aQ ac0
ams X.s₀.heap.get? b=some o
amt PA X (e::es) t
amu D a b c d
amv At t x l∈t.place.toList
amw (snd it).i X hC.ct _ iter h5 true
amx (f ρ).bind eI
amy .Subscript # (.Slice lo hi none p2) pos
amz RelV y u
amA RelV v u
amB List Env
amC I.base.free b o e n hx
amD .seq (.asg 4 (.call 21 (.cons (.call 18 (.w 0 (.o (.ci 2)))) (.u 2)))) #
amE ⟨_,rfl⟩
amF s1.heap.objs.size+1
amG r∈perms s
amH (false,vf (br R),vf (akx ((TL (pg s) (R::pre.reverse)).map tp)),z4)
amI (dH rM P w K mg base N x ah1 JC du A outer s' H E).pZ.BL C U E'
amJ iV Y M i p x
amK X.s₀.heap.objs.size<=b
amL InstAt s.heap a o D none
amM H a=some ah2
amN .bin .Mod (.call g (.w 0 (.u 7))) (.bin .Add (akF (.u 8)) aii)
amO Py.put ρ i true #
amP tupleKind_room_in1 hu
amQ comp t g
amR akx ((bG r l).map tp)
amS akJ us
amT aaj hi (aaw (abl lp))
amU TupAt H
amV PySem.W.fnOf name qual params body scope dV kV gJ pm an du ct
amW Nat×Nat
amX List Bool
amY .Name x pos
amZ aaz.mpr #
am0 .call # (.w 1 (.u 0))
am1 .seq (.asg 3 (.call 21 (.cons (.call 18 (.w 0 (.o aii))) (.u 2)))) #
am2 xs=[ahG]
am3 xs.length<=bW
am4 l<s.heap.objs.size
am5 jy.setG
am6 jV F x y r f c2 m c3 p q u g w
am7 h.get? a=some o
am8 ev F true a ρ=some ahH
am9 es.size=kvs.length
am_ decide (kv.1=k)
ana ae9=false
anb Walks prog w A.in1 I fp wr n P St
anc So r ahy lo (lo+n)
ane PE X a ta
anf Ms r a b out ia ib
ang Mh r a b out ia ib
anh IntsAre items.toList ns
ani H s.heap.objs.size=none
anj C a b c d e f g
ank BindsTo s fd ⟨[u],[]⟩ [(x,u)]
anl B a b c d e f g
anm A a b c d e f g
ano .Call (.Attribute o name jH) # [] cM
anq Ct (dH ak8 P w K mg base N x ah1 fa du A outer s H E).pZ G aiT
anr .idx (ak5 4) (ak5 6)
ans .seq (.asg 5 (.bin .Mod (.call 18 (.w 0 (.o (.ci 3)))) (.ci 3))) #
ant .inr #
anu x∈d.2.1
anv B a b c
anw .seq (.asg 5 (.bin .Mod (.call 18 (.w 0 (.o (.ci 3)))) (.ci 3))) #
anx xs.map tp
anz qs.map tp
anA ps.map tp
anB aku v
anC X.vU a oe
anD Option Bool
anE (AL s N).map tp
anF hp.mem_iff.mp #
anG I.base.keep b o # n hb hx
anH .call # ag1
anI .bin .FloorDiv ac6 #
anJ oZ P w K mg base G T n
anK base.Ns mainGlobals mg
anL aaw (abl aG)
anM ItemsOf (Qx a c) acc n
anN .idx ad_ ac6
anO .comp [j] 0 (.it (ak5 i)) (.o (.cmp .NotIn ac6 ad_)) ac6
anP (add l k aib).map aC
anQ .seq (.asg 2 (.bin .Add aii (aln (.call 18 (.w 0 (.o al3)))))) #
anR vs++[v]
anS vals1 r
anT start N vs
anU ps.length<=6
anV p.map .int
anW jH.endLine==cM.line
anY gG t ks vs
anZ cK K H a xs
an0 cH K H a vs
an1 I.tuple hq
an2 F a b c d e
an3 Builtin.Range.rangeSize a b c=n
an4 .pure _
an5 .UnaryOp .Not a pos
an6 (snd e).e X hC.ct _ h5 false
an7 some (D.int z)
an8 le r y x
an9 le r x y
an_ as.map V.ref
aoa .seq (.asg 5 (.bin .Mod (.call 18 (.w 0 (.o (.ci 3)))) (.ci 3))) #
aob aD xs us
aoc .BoolOp # (a::b::aT) pos
aod xG h1 (xR rfl)
aoe sU X.K false g
aof s0.heap.get? b=some o
aog s'.heap.get? b=some o
aoh ev F true a ρ=some x
aoi aD xs its
aoj List Keyword
aok I.aJ.fresh ac9
aol H' b=none
aom E a b c d
aon Builtin.Range.small a b c=true
aoo .call 0 (.u 1)
aop (false,eval a0 X.env)
aoq (d==sysModules)=false
aor (bG r (add l k aib)).map tp
aos tV X.K true #
aot add l k #
aou L2.upd H a #
aov .Assign [ah6] # pos
aow σ.set i (aku ahG)
aox aaj ajO I.ok.above
aoy ao # [gq ns,af_]
aoz t.advance p
aoA akN (.bl _)
aoB abF hb
aoC F g [.int a,af_]=some (al6 y)
aoD C a b c
aoE Binds K fd ps []
aoF B8 (abl lq) (K0 h1.1 h1.2)
aoG .comp fr 0 (.it a) .nil el
aoH .bx t ks ds
aoI .comp fr 0 (.it a) # el
aoJ .call # (.u 1)
aoK vf af_
aoL pre++[t]
aoM gt ac4 j
aoN List (Str×NameKind)
aoO tY K H a as T
aoP sc.names.lookup x=some .cell
aoQ sU X.K true g
aoR qh 0 hi.toNat
aoS hi U s σ H _ I h
aoT hC.fn _
aoU h U s σ H _ I hw
aoV binaryOp .Add
aoW akJ (k.map V.int)
aoX akE c
aoY ak5 5
aoZ ah.upd hl
ao0 acn.mpr ⟨decide_eq_true h1,decide_eq_true h2⟩
ao1 ack _ _
ao2 acb _ _
ao3 abn _
ao4 aW X.prog X.w
ao5 NameKind.cell
ao6 IsRange s.heap r a b c t u v
ao7 IntsAre vs ns
ao8 H b=some (akJ (kv.1.map kV))
ao9 G a b c d e f
ao_ F a b c d e f
apa .cons a r
apb (x,i)∈G.2
apc d= .lst ds
apd H b=some u
ape At t x k
apf .ListComp eV [⟨target,iter,ifs,0⟩] scope pos
apg ys.length<=sizeLine
aph v= .ref b
api plainId_quiet acr _
apj h.Ns mainGlobals mg
apk ev F true c ρ=some (al6 j)
apl env.cells.lookup y.1=some c
apm eb b o hb e
apn drawn a k
apo bW=16777216
apq b=s1.heap.objs.size
apr String
aps Option V
apt List β
apu Kn s M
apv At gg au lo (lo+fy)
apw Array ae6
apx .call ai7 ⟨[ab_],[]⟩
apy (sb.2 b hb).trans e
apz (p,u)∈R
apA Obj.mapFields #
apB bS 0 s
apC args_list_sort _
apD akx ds
apE aW P w
apF At t ahX K
apG .call f es
apH wpAny aa2 A (Builtin.SmallTypes.nextOf ad8) Q E s
apI out.toList.Pairwise (le r)
apJ akv (.lst (xs.set j d))
apK akE t
apL akE f
apM akC (akR (.bx d.1 (d.2.1++[x]) (d.2.2++[y])))
apN absurd hk alz
apO abQ _
apP .sl (ak5 8) (.u 9) .nil
apQ .ci 5
apR ye aip [] # (sU K false (dU (run T (m+2)) false ag1))
apS hC.mg _ #
apT .tup (cH.of ag) #
apU .Constant # j pos
apV .BoolOp # (b::aT) pos
apW wpS aa2 A E s (b7 left key arr base n hint) Q st
apX put (ρ.set j (aku (false,ag8))) i false ag8
apY kindOf st=κ
apZ jU ρ x=true
ap0 cn G F a
ap1 af9=true
ap2 SortKind
ap3 O.refl _
ap4 List (cz×V)
ap5 H a=some ahU
ap6 A.handled=some ajd
ap7 r= .ok (ak6 (.bool true))
ap8 qg prog w t xs
ap9 gb it ρ
ap_ env.cells.lookup x=some c
aqa de ρ is
aqb bu K ae8 H v d
aqc bu K O' H' v d
aqd akx .nil
aqe akx (Ts.map tp)
aqf abl this
aqg aaj AA (aaw (abl len))
aqh H b=some (akJ (k.map kV))
aqi D a b c
aqj Array.replicate ahT none
aqk .uw q es
aql (s1.trans s2).trans s'
aqm some (true,.lst ((BS s N pre).map tp++[tp t]))
aqn SX K (L2.upd H₀ a aih) ae Z kv kd ow σ H ρ
aqo gt aiA #
aqp y.2= .free
aqq vf (tp p)
aqr runEnd t.mask x.1-x.1
aqs run T (n+5)
aqt mL s N
aqu i<=a.size
aqv i+1+ia+ib<=a.size+b.size
aqw ho U s1 σ H1 _ I1 q1
aqx he.es X hC xs h false
aqy h1.get? b=some o'
aqz h'.get? b=some o'
aqA gG 0 (ks++[[ki]]) anR
aqB g i j
aqC f i=false
aqD eL X.prog X.w X.K X.mg X.base CX k f fd ps sp
aqE cn G F es
aqF aq K ae8 H1 vs ds
aqG ant ⟨e1,u',e2,e3⟩
aqH akw [h x]
aqI aku i
aqJ akQ hb
aqK ak5 4
aqL acy.mp hy
aqM Y.mul a b
aqN Q aic (upd H l (akx us))
aqO PE X e te
aqP Option Expr
aqQ F a b c d
aqR CG K x x st fa fd
aqS Array Nat
aqT AE (vf e) (vf ahz) (vf ahR) B [] y5 y6 y7
aqU (aM X hC x h).2 m
aqV (K w.params).In h
aqW upd H # (akx us)
aqX xs.getD i (0,[])
aqY args_sorted1 _
aqZ akx (B.map tp)
aq0 akx (A.map tp)
aq1 .comp [] 0 (.it aoY) .nil (.idx ac6 al3)
aq2 (n::ns).getD i 0
aq3 .cons # (.cons (.ci 4) (.cons apQ (.o (.ci 3))))
aq4 vf (tp u)
aq5 vf (br R)
aq6 u0 as H1 H3
aq7 t σ H Q
aq8 sv r xs s l e
aq9 sp vs H Q E
aq_ s.heap.IsList l (bs.map Value.bool).toArray
ara keywordEach [] X.env
arb jt (pg s) M
arc h_ a s x2 made x7 x9
ard e.2∈perms s
arf dU F true es ρ=some xs
arh dG N ps ah1
ari bu K O' H v d
arj VL (pg s) l i
ark S.dr X.prog X.w X.A.in1 its.toArray ahx
arl RelV x v
arn KT H kvs xs
aro K.In s.heap
arp J.Ci i H x H'
arq Hk as H1 H2
ars HT.cC xs.length 0 lo
art H l=none
aru G a b c d e
arv F f ds=some d
arw .ListComp el gs iD p
arx (hf b hb).1
ary tV K false #
arz qk # [n] fr
arA of_decide_eq_true #
arB compareOp #
arC call # [aic]
arD av af8 # rfl
arE AE # x1 x2 B' W' aht y6 y7
arF .int # t
arG .comp fr 0 # ifs eV
arH h1.get? b=some o
arI h.get? it=some o
arJ env.frame=some L
arK decide ((n::ns).getD i 0<(n::ns).getD j 0)
arL b≠h1.objs.size
arM aq K O' H' vs ds
arN Value.ref c∈vs
arO Rg aa0
arP Paired amU us ks
arQ I.bare
arR FX.get? b=some o
arS sb+pW
arT s.heap.IsTuple l items
arU run T m
arV qk X.N [n] fr
arW oZ P w K mg base G T m
arX hx.mono ag0
arY hS.k.trans hk
arZ gG 0 ks vs
ar0 ev F false e ρ=some d
ar1 bs.getD i false
ar2 ant ⟨j,z⟩
ar3 akq (ak6 ajc)
ar4 akC ρ'
ar5 akC (akR ag8)
ar6 aeN _ _
ar7 K w.params
ar8 JL r ta tb
ar9 .ref s1.heap.objs.size
ar_ .iO (.u 1)
asa .bool (lexLt ns ms)
asb .Tuple elts k0 tpos
asd .Assign # e pos
ase xs.map h
asf wpAny aa2 A (getItem apK (akE sl)) Q E s
ash mr iD sc
asi akQ hy
asj B++[amQ]
asl FE x0 s # x4 x5 x6
asm ⟨_,ag6,rfl⟩
asn y= .ref b
aso s.heap.get? b=some o'
asp s.heap.IsList t items
asq qT 0 (k7 F true ifs) (akt eV) fr ρ
asr ps.length=d.par
ass o.data= .set ajn ep t
asu intsAre_of rv
asv ib<b.size
asw i<kvs.length
asx gE h d es ep
asy ev F true e ρ=some d
asz comp g (ip h)
asA cC items.size 0 lo
asB akx (nR.map V.int)
asC ah H H1
asD absurd z aa1
asE aF d=true
asF Paired R l m
asG PE X a (akr fa)
asH Option mh
asI IsT prog w s.heap x c
asJ IsT prog w s.heap k b
asK Hm Y M (R::l) i
asL H l=some ag8
asM G a b c d e f g
asN F a b c d e f g
asO E a b c d e f g
asP D a b c d e f g
asQ Array ahM
asR A.units+1<cLine
asS .tup [tp x,ag3]
asT .seq (.ifs (akB (.ci c)) t .skip) w
asU .pure o
asV .Subscript o i pos
asW (fa ρ).bind eI
asX σ.set i anB
asY m6 out ia ib
asZ j5 out na nb
as0 ib<=b.size
as1 ia<=a.size
as2 fW C oe vs
as3 f i=true
as4 cC items.size items.size hi=items.size
as5 c.1=some o
as6 beq_eq_false_iff_ne.mpr (abF (aaN hb))
as7 akZ ((sortI_perm _).mem_iff.mp hx)
as8 agX (adX aU)
as9 X.env.scope.names.lookup y=some .local
as_ Option air
ata Heap.ExtBut s.heap.objs.size s.heap h'
atb .idx ajc alq
atc .cmp .NotIn (.idx alq aqK) (ak5 6)
atd .Call (.Name fx fp) (e0::el) [] cp
ate (aaP _ _ (abF b2)).trans (k2 b o b1 e)
atf wpAny M A (storeName X.env x u) Q E s
atg upd H1 s2.heap.objs.size (akx [])
ath upd H a o
ati t_ hu aa1
atj small_one aa1 aa1 MT (adn hl aa1)
atk s.heap.get? b=some u
atl rv.seq h1
atm ps.zip us
atn old b o q
ato E a b c
atp o.data= .set es ep t
atq d.params.defaults=[]
atr bs.all id
ats br (ij (pg s) M k)
att aos (ev F true a)
atu ao rn [aQ l,aQ m]
atv ak6 d
atw ak5 7
atx aaj hk hi
aty TW m sc s ps qs k
atz Option (List D×Env)
atA OldK aZ.heap s'.heap
atB IsTup s.heap t items
atD IsTup s.heap l items
atE .lst (hl _ _ h n).1 (hl _ _ h n).2 ih
atF (false,eval e X.env)
atG (bN.bB ks).map n6
atH tC X.K #
atI aaj hk #
atJ PySem.W.methodObj apL #
atL .Call # [.Constant (.str msg) j p'] [] cM
atM mh.next (ao ql [ahD,amr,.int z])
atN mf ρ y=some l
atO mE s'.heap e C
atP c=(none,lo,hi)
atQ bP K O b H v d
atR aq K O H xs us
atU a.toList.take i++b.toList.take j
atV Un (eG outer) [] H H' s.heap s'.heap
atW Pt a b out i j
atX Ph a b out i j
atY PE X e (alj f)
atZ I.free
at0 .int a
at1 .call ft (.cons (am0 fd) (.u 2))
at3 argBest bt #
at4 ⟨ah3,hl.push _⟩
at5 xQ b o q hb
at6 vs.length=ps.length
at7 vs.length<=sizeLine
at8 uq xs lo hi
at9 sS d t es ep s.heap
aua s2.trans s3
aub run T 7
auc put ρ x true wO
aud j∈(insertAt t.place p ak_).toList
aue jj s.heap v
auf ie rfl
auh ia+1<a.size
aui i<vs.length
auj hv.st e.1 e.2 he
auk gC X.prog X.w H' h'
aul ds.length=ps.length
aum cK K H a vs
aun bubble aj0 (lo+k) (lo+k-(lo+l))
auo b<s2.heap.objs.size
aup assign als X.env
auq akx ys
aur akx (M.take t++[af_]++M.drop t)
aus akw ys
aut aku ah6
auu akJ (p.1.map kV)
auv akE cW
auw Y.inv a
auy TP X U σ Q
auz TE (vf ac8) aoK aq4 u none none
auA S0 b o e hx
auB R.map pairD
auC List (List Int×D)
auD H₀ b=none
auE H Y l t
auF FE (vf ac3) s ps none none none
auG .it ac6
auH .bx o ks vs
auI .Name x q
auJ xD K ps.length (run T (n+1) f)
auK uB (akt ac6) (akt aoo) [1] aj2
auL u5 (akr (amj k)) (akr (amj v))
auM layClean t.mask hs.toArray=some ow
auN ks.getD i []
auO ho U s2 σ H2 x y v u Q I2 rx ry q
auP akq (ak6 (.idx ad_ (akK apQ)))
auQ Shared.heap ⟨hp,g,d,tk,os⟩
auR AE (vf e) x1 x2 B W0 aht x6 x7
auS ((aH tg y).bind aqa).bind (ex F b)
auT starEach # X.env
auU rawInt #
auV Py.inner # ρ fr
auW .bin .Mult # ajc
auX .Call # [] [] cp
auY .BinOp a # b pos
auZ xs.length<sizeLine
au0 x= .ref l
au1 x= .int i
au2 some true
au3 pS ht
au4 oY a as H₀ H'
au5 minRun' a₀.size a₀.size 0
au6 mg d.name=some ai7
au7 l.map br
au8 kJ X.prog X.w C
au9 k _ _ ad2 ajq
au_ jA Y t i
ava j<=b.size
avb it t k0 (al5 x)
avc ev F b a ρ=some x
avd comp p q
ave b∈a::as
avf akJ (ks.map kV)
avg acv hi (aaV aU)
avh absurd hl alz
avi W.map tp
avj RelV x u
avk Q' (aku k) au
avl PE X b tb
avm List Row
avn List (Str×V)
avo H a b c d e f
avp G a b c d
avq Binds X.K fd ps []
avr At zt au lo (lo+n)
avs Am act b G t D B W
avt A5 t.mask
avu .int lo t
avv .int hi u
avw .iO 0 hi
avx .ci 3
avy .ci 2
avz .Tuple es k pos
avA (setT ρ y).bind b
avB (a.toList.drop i).Pairwise (le r)
avC upd H p #
avD h.ex.live b #
avE .int # s.toks
avF vf ahz
avG tS rfl rfl
avH r1.mono s2
avI out++(b.extract k j).reverse
avJ out++(a.extract k i).reverse
avK ji I.aJ eb
avL j.y.s g hg
avM inner ys [aqq,vf (tp q)] [1]
avN h1.trans z
avO h.ex.live b (ant ⟨i,hb⟩)
avP b.extract 0 j++a.extract 0 i
avQ aqo (lo+k)
avR aqo (lo+i)
avS a.extract 0 i++b.extract 0 j
avT SX K H₀ ae Z kv kd jz bU H ρ'
avU OT ae a as
avV I.c8 x c e
avW H y.1=some (akJ (y.2.map V.int))
avX .wM 3 1 (.w 2 (.o (.c ag3)))
avY .comp [3] 0 (.dk 4) .nil anN
avZ (ow.getD (x.1+k) (aku 0)).isNone
av0 xs.length<=t.mask
av1 wpS aa2 A E s (mergeAt' i) Q zt
av2 uB fk fv fr ρ
av3 rE X.prog X.w X.K tg J fp it tn
av4 r1.own.mono s2
av5 pyNext (akE I)
av6 kW X U H b
av7 jS ((List.range i).map val)
av8 hs.length<=t.mask
av9 comp w e.2
av_ bE G aqk X.N X.env.scope x=true
awa acf (aby hd _)
awb absurd z (no i j)
awc aah _ q
awd SX X.K bJ ae Z Ku Kv ow σ H ρ
awe PySem.W.kitOne X.K ai1 c=some b
awf Os ae ow b
awg Os ae ow a
awh H e=some (.own x)
awi H Y l (Y.mul u v)
awj F a b c
awk .Name n q
awl he.es X hC _ # false
awm eval # env
awn ev F m #
awo es.toList.map #
awp av af8 # (aw _)
awq arrOf #
awr acR X GM #
aws A.deeper #
awt .cons aii #
awu .bin .Add # aii
awv .Dict [some ke] # dp
aww wpAny aa2 A (pyIter ad8) Q E s
awx vf ahI
awy vf (akJ anz)
awz qs.length<=6
awA ns.length<=n
awB iU G d.body N ah1 (bD st)=true
awC hc U s1 σ H1 vs us Q I1 r1 q1
awD h.DictOfH (tupleKind apE) a xs
awE fq m p.1 p.2
awF eO K O H a d
awG c=(none,l,o)
awH akx ((bN.bB d.2.1).map n6)
awI aks jC
awJ akZ hx
awK akQ hz
awL akJ ys
awM akH h6
awN akC ρ
awO adi h0
awP absurd z aan
awQ a.setIfInBounds (sa+k+p.2) p.1
awR V (pg s) i R
awS TupIs h v ns
awT St l u
awU Nf G c X.N X.env.scope st=true
awV IsPart vu hi
awW IsPart vl lo
awX I'.base.keep b o q n hb hx
awY HJ G e' X.N X.env.scope x=true
awZ Gl X x
aw0 FV.names.lookup y.1=some .cell
aw1 F 6 [ac8,af_,tp u]=some (tp x)
aw2 .dT []
aw3 .cmp .NotEq alq (akJ .nil)
aw4 xs.length+zs.length<=sizeLine
aw5 wpAny aa6 X.A (aky amY) Q E s
aw6 vs.toArray.zip vs.toArray
aw7 uZ s.heap it l i
aw8 sc.names.lookup x=some .local
aw9 run T n f
aw_ mY nd rfl (sY hl).1 (sY hl).2
axa k x.1
axb hx.own i _ Ks
axc hk U _ σ _ _ I0 (h _ hn)
axd h'.get? e=some u
axe gt aj0 (lo+k)
axf failedOf zt=none
axg failedOf au=none
axh ev F true a ρ=some (akx anx)
axi c5 X.N X.env.scope is es=true
axj base+n<=arr.size
axk bZ q hn
axl bM ns.1
axm asd [.Subscript ah6 ke o]
axn aot (p,r)
axo all=pre++x::post
axp al6 (wj ns k)
axq aku (o,d)
axr ak5 i
axs acx alB
axt aaY aly
axu X.env.frame=some X.env.locals
axv TC prog w
axw PySem.W.codeIn K du qual=true
axx PS X sr (p6 (amk X.K) (cI r))
axy PA X (e::es) aoQ
axz Os ae aiZ
axA List (κ×Value)
axB L.si s2
axC IsT prog w h k c
axD EX X.K O σ H ρ
axE Cl G mg K ah1 N s fa fd ps fx
axF .sset a
axG .inl ag
axH .cmp .Lt ad_ (akF (.u 0))
axI (snd c).t X hC.ct x h1 h2
axJ (bN.bB (S2.jS ks)).map n6
axK upd H l #
axL hx.ex.kO i true _ #
axM cG af8 # rfl
axN aaO _ #
axO Option.map #
axP O.of_lt #
axQ FE x0 s W aiM # aoK
axR upd H4 p (akx (xs++[v]))
axS t.slot (it t k p).j = .empty
axT letOwnedTupleGo tg ad8 u
axU ev F false el aqH=some (g x)
axV ev F false a ρ=some (.bl k)
axW c=some o
axX aot (Y.im alV (i+k),alV)
axY aD vs us
axZ LM (pg s) (l.drop (k+1)) u x
ax0 Gr P w K mg base A outer s H
ax1 F 3 [ac8,tp t]=some (tp aiV)
ax2 .int 1 v
ax3 .fm 2 (.uw .list (.u 1))
ax4 .call 18 (.w 0 (.o apQ))
ax5 (intKind prog w).is k v=true
ax6 y8 # t.place i
ax7 .cmp .Eq aoY #
ax8 .cmp .Eq # aii
ax9 .asg 2 #
ax_ xs.length-(i+1)
aya v= .bl true
ayb upd H1 a aih
ayc turns t.mask
ayd s1.trans ah8
aye runEnd t.mask x.1+1-x.1
ayf rB aZ.heap H
ayg r.2.2.2.length=r.2.2.1.kO
ayh q∈perms n
ayi out++b.extract j b.size
ayj out++a.extract i a.size
ayk nZ i j=true
ayl ma X (arB op) r
aym h.get? d=some o
ayn g∈perms s
ayo gt ys i=gt xs i
ayp gr _ aa3 aa3
ayq fM K O H iz
ayr ds.length=d.par
ays comp r u
ayt bc e=true
ayu a₀.size-lo
ayv atH (ex F c)
ayw ao d ds
ayx akC (akR (.bx 1 [] []))
ayy abe.mp hj
ayz aaN ajO
ayA aaJ _ aj3
ayB a.setIfInBounds (o+p.2) p.1
ayC Y.im (Y.inv u) (Y.im u k)=k
ayD X.mg x=none
ayE Wk w t es
ayF PySem.call f vs
ayG PySem.W.keepIn X.K apL=true
ayH PySem.W.keepIn X.K ai7=true
ayI PySem.W.OpenLaw
ayJ PT X a tA
ayK PI X tg iter wi
ayL PE X o to
ayM Option α
ayN Inv X U σ H s'
ayO I.cell
ayP H a b c d e
ayQ .idx aoY al3
ayR .idx ac6 ad_
ayS (p1.append p2).mono ah8
ayT (hs.2 b (aaN aox)).trans e1
ayU (cj k).mp ht
ayV (cj j).mp ht
ayW (F 3 [ac8,tp t]).bind _
ayX gt xs #
ayY .seq # (akq (ak6 (akM (.u 2))))
ayZ .Subscript a # pos
ay0 truthy v
ay1 s.heap.IsList l vs.toArray
ay2 p2 v (e2.mem_iff.mp m)
ay3 out++b.extract j (j+k)
ay4 out++a.extract i (i+k)
ay5 lo+(n+1)
ay6 k.m0 t h
ay7 its.toArray.size=xs.length
ay8 hp _ apO
ay9 hb _ apO
ay_ ha _ apO
aza gt ahy k
azb gc left key arr base i
azc bits x
azd bits h
aze az.mp hq
azf avC (akx (xs.set j v))
azg args_tuple_getitem _ _
azh akx ((bN.bB B).map tp)
azi acy.mp z
azj aS Y M 0
azk PE X r (aos (ev F true b))
azl ExcBaseFacts B newId Oc bm
azm .idx a i
azn .asg i e
azo .Dict [some k] [v] pos
azp (ev F false e' ρ).bind eX
azq (ev F false e' ρ).bind eI
azr (List.range n).map val
azs xx.map Sum.inl
azt xs++ys
azu tY K H' a as T
azv starEach [a0] X.env=[aop]
azw seq d=some ase
azx sb+nb
azy s.heap.IsTupleIter it l i
azz q H1 s1
azA put (alF j) i false z
azB o.data= .seq xs.toArray n
azC ns.map .int
azD lp t.mask x
azE lo+n'
azF lo+hi
azG hv U s1 σ H1 _ I1 q1
azH hi U s1 σ H1 _ I1 q1
azI hb U s1 σ H1 _ I1 q1
azJ h.objs.size<=a
azK h pos U s σ H _ I hq
azL gD ρ y=some l
azM fU h6
azN es.all bc=true
azO ef xs
azP d.2.1++[xx]
azQ c_ d.1
azR bs.map V.bl
azS alm u
azT akx es
azU aku u
azV akZ h
azW akN hf
azX akJ [ahH,x]
azY akI x5
azZ akE d
az0 acc.toList.length=es.size
az1 abI _
az2 aaw lp
az3 aaw hl
az4 aaV hi
az5 aaN aU
az6 aaE hi
az7 aO P w H h a o
az8 X.env.kindOf x=some .free
az9 X.env.kindOf x=some .cell
az_ W++[t]
aAa W 0 m (upd H1 p (akx []))
aAb Sum.inl i
aAc PySem.W.keepIn K apL=true
aAd PySem.W.keepIn K ai7=true
aAe JR xs i=some v
aAf H1 s1.heap.objs.size=none
aAg Gen Y (St l) x
aAh At.mirror aa3 aa3 aa3
aAi Array GenState
aAj AL s M
aAk .fj mm o es
aAl .dK []
aAm .bl b
aAn .AD neg k i
aAo (p,gw Y M i p)
aAp ha U s σ H # I h
aAq h U s σ H Q # hw
aAr aah _ #
aAs aX # b_ rfl
aAt TL (pg s) #
aAu AE x0 x1 x2 asj # aht akn awx
aAv .seq # c
aAw .Call # [e] [] cp
aAx .BoolOp # [a] pos
aAy z.elim
aAz xI P w K mg base G T f x
aAA vf ahR
aAB vf (al6 m)
aAC tI X.K m (n9 F m e')
aAD s.heap.get? p.1=some p.2
aAE s.heap.Ns X.env.locals m
aAF s.heap.IsListIter it l i
aAG s'.os=s.os
aAH run T n f [ae1]=some ag3
aAI r2.int
aAJ q n _ n1 n2 .rfl' s1
aAK ow.setIfInBounds j alx
aAL jB.new _ _
aAM ho.e X hC oe h5 true
aAN he.es X hC _ h6 true
aAO gC X.prog X.w H' s'.heap
aAP fin its r' hz h' c' kp e
aAQ ex F b ρ'
aAR ev F false e ρ=some ag8
aAS ev F false e ρ=some ag3
aAT c=(none,out,ia,ib,g,n,m)
aAU c=(none,ia,ib,out,g,n,m)
aAV aaj hi (aaw (abl l))
aAW Reads s.heap u (iT d) as
aAX Rd H a amh
aAY Rd H a amg
aAZ Ow t ow hs
aA0 J.stop i H
aA1 Inv (X.vU e oe) U σ H s
aA2 IntsAre items2.toList ms
aA3 I.base
aA4 Hb prog w A.in1 T g P bt
aA5 H a=some o
aA6 DX _ H2 (MY.mono s2)
aA7 .While c body [] pos
aA8 (oJ h2 l h).mono ah8
aA9 (List.range n).map v
aA_ (List.range i).map v
aBa .bin .Mod # (.ci 2147483629)
aBb z.sameBut hs (Ca y c q)
aBc z.sameBut hs (Ca y c e)
aBd x.above y c (abN h)
aBe up x o (eJ v m x e') g1
aBf q v H2 ag0 (akN r2.own)
aBg put arc 7 false af_
aBh mg x=some ai7
aBi m=xs.length-i
aBj l.most=some n
aBk l.Nodup
aBl ky h.bx hb
aBm k.map Sum.inl
aBn k false
aBo intBits_le_64 h1 h2
aBp h'.elim
aBq grown n
aBr gL am6 y i S ρ=some T'
aBs eK k X.A
aBt eG X.stack
aBu df I hb
aBv cK X.K H p ys
aBw cK X.K H a xs
aBx cH X.K H p ys
aBy cH X.K H a xs
aBz below xs j
aBA aoy (o_ g)
aBB ao (lU g) [at0,ahz]
aBC ant rfl
aBD amZ ⟨e,he,this⟩
aBE al6 apn
aBF al6 amo
aBG akx an_
aBH akw [x]
aBI aku ahG
aBJ akN aoT
aBK akC aiJ
aBL ak6 (tp p)
aBM afz _ _
aBN adU _ _
aBO aaw aqf
aBP a<h.objs.size
aBQ X.BL C U E
aBR VL Y (R::l) i
aBS So r (awq st) lo (lo+n)
aBT PE X a (dn i)
aBU Option (Array ahM×Nat)
aBV N.length=d.kO
aBW List Fd
aBX L5 s.heap.objs.size
aBY J.go i H
aBZ IsT prog w s.heap auN c
aB0 G a b c
aB1 F g ds=some d
aB2 F 4 [ac8,tp r]=some amR
aB3 Dp T g s.heap
aB4 Az ae3 ifs tt
aB5 A.units<cLine
aB6 .type T
aB7 .nY i k
aB8 .int 0 0
aB9 .fm i e
aB_ .cmp o a b
aCa .bx (hz _ _ _ h) l z ih
aCb .bin o a b
aCc .Return (aku e) pos
aCd .BoolOp (bo k) vs p
aCe (xs.filter c).map g
aCf (sa,na+nb,pw)
aCg qT # fs fe fr ρ
aCh hr _ _ _ _ z e #
aCi T.obj _ _ # b hb
aCj PE x0 r acc x3 #
aCk .lst axG (hx.free ad2 hl) #
aCl .asg # (aln (anI (.ci 18)))
aCm .Call # [.Name y yp] [] acp
aCn x.2==NameKind.free
aCo t.place.size=xs.length
aCp sysModules<h.objs.size
aCq qA k fr wi g tt te
aCr ip x (abE.mp hx).1
aCs intKind_is _ _ _ _
aCt inner ys [aqq] [0]
aCu ev F false a ρ=some x
aCv dt= .seq its.toArray n
aCw d.2.1.length=vs.length
aCx c=(none,out,ia,ib,n,m)
aCy c=(none,ia,ib,out,n,m)
aCz ao OV [ae1,.int m]
aCA aku (true,.lst [])
aCB aku (ow,hs.length)
aCC absurd z (no vs H Q E)
aCD aam (aaE (Dg hl)) z2
aCE X.stack=X.env::X.outer
aCF R (.ok (ak6 .none)) s'
aCG PE X x (alj (awn aqk))
aCH Nat.succ_ne_self _
aCI IsT prog w s.heap ks c
aCJ Inv.fY as I1 nd Tx
aCK .AF 3 atw (.c ag3)
aCL (rB h H).get? b=some o
aCM (qs.take 1).map tp
aCN tI # true fi
aCO L2.upd H b #
aCP Gen.S L hG #
aCQ .bin .Mult (akF (.u 10)) #
aCR .AD true # 4
aCS xs.drop i
aCT vf (akJ anE)
aCU vG F fr ifs eV ρ
aCV v= .ref c
aCW uy .tuple
aCX upd H x o
aCY seq e=some (G.map tp)
aCZ s2.heap.get? b=some o
aC0 s1.heap.get? a=some o
aC1 s.heap.get? e=some oe
aC2 s.heap.get? b=some ob
aC3 rv.get hx
aC4 r1.int
aC5 r x y H Q
aC6 qE ry
aC7 mr iD X.env.scope
aC8 mh.next _
aC9 mg x=none
aC_ lZ h6
aDa kindOf zt=κ
aDb kK K D
aDc jt Y M
aDd jo h2
aDe items.toList
aDf i<its.length
aDg i<items.size
aDh i<=xs.length
aDi hl U s σ H _ I h
aDj h.a.mem_iff.mp hx
aDk h s3=true
aDl g ρ=some ds
aDm g s2=true
aDn fW C o vs
aDo fA h2
aDp f ρ=some ds
aDq f s1=true
aDr ev F true c ρ=some y
aDs ds.length=n2
aDt ds.length=n1
aDu cn G F e'
aDv cK K H a aiO
aDw cH K H1 a xs
aDx cH K H' a vs
aDy b≠s1.heap.objs.size
aDz bootBuiltins x=some u
aDA below t.place ak_
aDB bX h1
aDC bM h3
aDD b.size-ib
aDE awq s
aDF aou o
aDG al6 (i+j)
aDH akz r
aDI akx [ami,ami,ami]
aDJ akv d
aDK aku (.tup,ajV,xs)
aDL akN z
aDM ak6 e
aDN absurd z ab1
aDO aao h
aDP aam KN h6
aDQ aaB rfl
aDR aaA q
aDS aZ.heap.get? b=some o
aDT a.size-ia
aDU [.ref I,.none,.ref S]
aDV Y.inv e.2
aDW W.sub _ z
aDX RelV (kV kv.1) en.key
aDY Paired amU us (bB ks)
aDZ PE ae3 eV te
aD0 PE X o td
aD1 PE X i ty
aD2 PA X es t
aD3 Kn s N
aD4 Inv (X.mH E) U σ H s
aD5 Ht t.mask
aD6 H p=some amh
aD7 H p=some ag8
aD8 H d=some amg
aD9 H b=some ajJ
aD_ H a=some aih
aEa H a b c d
aEb .uw .tuple (.u 1)
aEc .tail _ (.head _)
aEd .ref d
aEe .ok .next
aEf .ifs Sr .skip ahS
aEg .for [6] 0 auG T3
aEh .ext 1 T4
aEi .dF o arZ
aEj .ci 4
aEk .bx d.1 d.2.1 d.2.2
aEm .bin .Add aji apP
aEn .Subscript o i pos'
aEo (x,NameKind.free)∈l
aEp (r.drop ars).take ajo
aEq (n::ns).map V.int
aEr (ks.map f).zip vs
aEs (hs.2 b amq).trans e1
aEt ((pg s).im aiV k,aiV)
aEu pm.mem_iff.mp #
aEv .call 1 #
aEw .bool #
aEx .bin # a c
aEy xs.length=its.length
aEz wpS aa2 A E s x Q st
aEA w6 r left key x=true
aEB vs++[]
aEC vs++JM
aED vf (akJ (pR.map BO))
aEE t.place.size<=t.mask
aEF some (true,.lst avi)
aEG s.heap.get? p=some o
aEH s.heap.get? e=some o
aEI s.heap.get? b≠none
aEJ s'.heap.UpToSlots h3
aEK rs.length=kvs.length
aEL relabel sc X.env
aEM rW items (arF k)
aEN q.getD i.toNat 0
aEO put ρ i false x
aEP ns.map WData.int
aEQ kvs.length=vs.length
aER hint-o
aES hint+o
aET ha.e X hC l h1 false
aEU h.mono (s.trans ah8)
aEV h.IsTupleIter it a i
aEW ev F b apG ρ=some d
aEX decide (val i<val j)
aEY comp u r
aEZ call akY (v::us)
aE0 cC items.size 0 lo=0
aE1 axN hy
aE2 aqW h1.objs.size
aE3 akz ((x.1,a)::r)
aE4 aku (auH,ab_,ds)
aE5 akJ ds
aE6 akE sl
aE7 akE h'.objs.size
aE8 akE CB
aE9 akE C4
aE_ akE C3
aFa akE C2
aFb akE C1
aFc akC (arE (vf e))
aFd af ajl
aFe abl hl
aFf abN f3
aFg aam (md xs lo hi) hz
aFh aaA ho
aFi aX he b_ (bM hn)
aFj aAv (.ifs e t u)
aFk PE X l (akr (amj a))
aFl Obj.putSet wo t'
aFm KE s M N pre aht
aFn Inv ad6 [] ahw H' s'
aFo I.base.kQ b xs e
aFp F.binds (vW Ug r hm)
aFq .own a
aFr .not a
aFs .iO es
aFt (cmp op x y).map .bl
aFu (K w.params).In base
aFv AE x0 x1 x2 B W aht # x7
aFw ⟨⟨_,he⟩,qa⟩
aFx zs.length=ps.length
aFy xs.length=n
aFz x= .Subscript v s p
aFA x<ρ.length
aFB vf ae1
aFC vf (aC R)
aFD uy .list
aFE us.length=ps.length
aFF uL s.heap I.big
aFG tn i s.heap
aFH starEach es env
aFI s.heap.objs.size<=a
aFJ s'.os=aZ.os
aFK run T n f ds=some d
aFL rY H2 a y o
aFM qV.keep (bP.own vn)
aFN q u H2 ag0 (akN h4)
aFO q o au hr Md hS
aFP out.toList.Perm ag7
aFQ out.toArray
aFR out.Perm vs
aFS ou H1 b
aFT oG t ks
aFU o.toList=out.toList
aFV o.dict=none
aFW o.ExactDict
aFX nt c _ z id
aFY n<=1000
aFZ mono i _ aa3 aa3 e2
aF0 leaving env ajd
aF1 leaving af3 ab_
aF2 kvs.length<sizeLine
aF3 kW X U H' b
aF4 k1 b o e
aF5 jv hp hi
aF6 jr H H'
aF7 j<ρ.length
aF8 j<acc.toList.length
aF9 i<ks.length
aF_ ht _ _ h
aGa hb.ss X hC a h2
aGb hb.e X hC r h2 true
aGc ha.e X hC l h1 true
aGd h1.symm.trans e
aGe h.IsListIter it a i
aGf h.1.1.st p u hu
aGg gG d.1 d.2.1 vs
aGh f ρ=some d
aGi f ds=some d
aGj dD (pg s) l i t
aGk cK K H p xs
aGl bP X.K O true H w y
aGm bP X.K O true H v x
aGn bE G a N sc a0=true
aGo ao iG [at0,af_]
aGp aku (false,ag8)
aGq aiP=true
aGr adB.mpr h
aGs abF (hT b tb).2
aGt aar.mp z
aGu a2.a.k.trans hk
aGv a.size-i
aGw W++[amQ]
aGx Sum.inl ki
aGy Sq H xs
aGz S2.jS xs
aGA PO X lo (tO X.K fl)
aGB PO X hi (tO X.K fh)
aGC PG ae3 tg g
aGD PA X es aoe
aGE PA X [a] ta
aGF Ju s.heap e
aGG IsEnum h e it i old
aGH I.base.free
aGI H₀ a=none
aGJ H' b≠none
aGK H Y l w
aGL CG K x qual st f fd
aGM C a b c d e f g h i
aGN B a b c d e f g h i
aGO At t x l
aGP At gg s' lo (lo+fy)
aGQ A a b c d e f g h i
aGR 0<is.length
aGS .int kk
aGT .int c u
aGU .for is tg it b
aGV .ext i e
aGW .cons a (akA b)
aGX .app i e
aGY .Name c r
aGZ .CK k es
aG0 (hs.2 b hb).trans e
aG1 (ed o.sz).mp hx
aG2 (W++[t]).map tp
aG3 (L.one_mul hs).symm
aG4 tB X.K #
aG5 pyIter #
aG6 gt aj0 #
aG7 gt ac4 #
aG8 decide #
aG9 cQ (dn x) #
aG_ Value.ref #
aHa EI # rfl (gr _ aa1 aa1)
aHb AE # x1 x2 B W x5 x6 x7
aHc .w # (.u 2)
aHd .cons avy #
aHe .cons avx #
aHf .cons al3 #
aHg .asg 1 #
aHh .For # iter body [] pos
aHi .Expr # pos
aHj .cons avy #
aHk .cons avx #
aHl .cons al3 #
"
def zl(n:Name)(y:Syntax):MacroM Syntax:=let w:=n.toString;if w.length==3&&w.front<'c' then match zb.splitOn ("\n"++w++" ") with
|[_,b]=>pure (zz ((b.splitOn "\n").headD "") y)
|_=>Macro.throwUnsupported else Macro.throwUnsupported
end Lean
local macro_rules
|`($x:ident)=>Lean.zl x.getId x
|`($x:ident $y)=>Lean.zl x.getId y
set_option hygiene true
def aag:=@PySem.wpAny_bind
def aah:=@PySem.Heap.get?_push_of_some
def aai:=@List.getElem?_eq_getElem
def aaj:=@Nat.lt_of_lt_of_le
def aak:=@Bool.and_eq_true
def aal:=@List.mem_cons_of_mem
def aam:=@Nat.le_trans
def aan:=@Bool.false_ne_true
def aao:=@PySem.wpAny_pure
def aap:=@List.length_map
def aaq:=@List.mem_cons_self
def aar:=@List.mem_singleton
def aas:=@Nat.le_refl
def aat:=@List.mem_cons
def aau:=@List.length_append
def aav:=@PySem.Heap.get?_push_size
def aaw:=@Nat.le_of_eq
def aax:=@List.getElem?_eq_some_iff
def aay:=@List.size_toArray
def aaz:=@List.mem_map
def aaA:=@PySem.Heap.lt_size
def aaB:=@if_pos
def aaC:=@List.getElem?_map
def aaD:=@List.getD_eq_getElem?_getD
def aaE:=@Nat.le_of_lt
def aaF:=@if_neg
def aaG:=@Array.getElem?_eq_getElem
def aaH:=@List.mem_append
def aaI:=@Array.toList_append
def aaJ:=@List.mem_append_right
def aaK:=@Array.length_toList
def aaL:=@List.length_cons
def aaM:=@Nat.le_add_right
def aaN:=@Nat.ne_of_lt
def aaO:=@List.mem_append_left
def aaP:=@PySem.Heap.get?_update_other
def aaQ:=@Option.some.inj
def aaR:=@List.getElem?_set_self
def aaS:=@List.getElem?_eq_none
def aaT:=@List.getElem?_set_ne
def aaU:=@Nat.lt_of_le_of_lt
def aaV:=@Nat.le_of_not_lt
def aaW:=@Int.natCast_nonneg
def aaX:=@List.map_cons
def aaY:=@Nat.le_of_lt_succ
def aaZ:=@List.append_assoc
def aba:=@Array.getElem?_toList
def abb:=@List.mem_of_getElem?
def abc:=@List.map_map
def abd:=@List.map_append
def abe:=@List.mem_range
def abf:=@PySem.wpAny_newObj_type
def abg:=@List.pairwise_append
def abh:=@Nat.add_sub_of_le
def abi:=@Nat.lt_irrefl
def abj:=@Nat.add_le_add_left
def abk:=@Nat.add_right_comm
def abl:=@Eq.symm
def abm:=@List.append_nil
def abn:=@Nat.zero_le
def abo:=@List.nodup_cons
def abp:=@PySem.wpAny_ite_split
def abq:=@PySem.wpAny_holding
def abr:=@List.getElem?_append_left
def abt:=@PySem.wpAny_call_entry
def abu:=@PySem.Heap.get?_update_self
def abv:=@Nat.not_lt_zero
def abw:=@List.length_singleton
def abx:=@Nat.lt_or_ge
def aby:=@PySem.Obj.data_mapFields
def abz:=@List.pairwise_map
def abA:=@PySem.Heap.SameBut.update
def abB:=@List.mem_flatMap
def abC:=@List.getElem?_append_right
def abD:=@List.nodup_iff_pairwise_ne
def abE:=@List.mem_filter
def abF:=@Ne.symm
def abG:=@PySem.wpAny_callSpecial?_slot
def abH:=@List.drop_eq_getElem_cons
def abI:=@Nat.zero_add
def abJ:=@PySem.wpAny_mono
def abK:=@Nat.lt_succ_of_le
def abL:=@List.nodup_append
def abM:=@Option.bind_some
def abN:=@PySem.mem_of_lookup
def abO:=@List.length_set
def abP:=@List.take_of_length_le
def abQ:=@Array.getElem_mem
def abR:=@PySem.wpAny_setField
def abS:=@List.mem_of_mem_take
def abT:=@PyProof.Rows.slot_tuple_getitem
def abU:=@Int.toNat_natCast
def abV:=@List.pairwise_cons
def abW:=@Array.getElem?_eq_some_iff
def abX:=@Nat.add_sub_cancel_left
def abY:=@Nat.lt_succ_self
def abZ:=@List.all_eq_true
def aca:=@Classical.byContradiction
def acb:=@List.drop_sublist
def acd:=@Array.toList_reverse
def ace:=@PySem.wpAny_field
def acf:=@PySem.Obj.isFreed_of_fields
def acg:=@PySem.codeAny_builtin
def ach:=@List.take_append_drop
def aci:=@List.length_take
def acj:=@PySem.Heap.size_push
def ack:=@List.take_sublist
def acm:=@Nat.lt_trichotomy
def acn:=@Bool.and_eq_true_iff
def aco:=@Bool.false_eq_true
def acq:=@Option.map_eq_some_iff
def acr:=@PySem.F.plain_min_loop
def acs:=@Nat.min_eq_left
def acu:=@List.pairwise_iff_getElem
def acv:=@Nat.le_antisymm
def acw:=@Nat.add_assoc
def acx:=@Int.not_lt_of_ge
def acy:=@List.mem_reverse
def acz:=@Int.toNat_of_nonneg
def acA:=@PySem.wpAny_truthy_bool
def acB:=@Nat.lt_succ_of_lt
def acC:=@List.ext_getElem?
def acD:=@List.mem_iff_getElem?
def acE:=@PySem.F.slot_dict_keyiterator_next
def acF:=@Nat.sub_add_cancel
def acG:=@PyProof.Rows.callWith_type1
def acH:=@Int.emod_nonneg
def acI:=@Int.emod_lt_of_pos
def acJ:=@PySem.Around.under_plainId
def acK:=@Array.mem_toList_iff
def acL:=@List.getElem_mem
def acM:=@Nat.succ_pos
def acN:=@List.perm_ext_iff_of_nodup
def acO:=@PySem.wpAny_pyIter_list
def acP:=@PySem.wpAny_setState_of
def acQ:=@List.getElem?_range
def acR:=@PySem.W.mg_of
def acS:=@PySem.wpAny_loadPart'
def acT:=@Nat.lt_of_le_of_ne
def acU:=@PySem.wpAny_typeNameOfWhole_keyiter
def acV:=@Array.toList_extract
def acW:=@List.mem_of_mem_drop
def acX:=@Nat.exists_eq_add_of_le
def acY:=@PySem.F.plainAttrs_list
def acZ:=@Array.toList_push
def ada:=@List.find?_cons
def adb:=@Nat.add_lt_add_left
def ade:=@List.map_congr_left
def adf:=@PySem.Calls.callWith_builtin
def adg:=@PySem.F.slot_tuple_iterator_next
def adh:=@Nat.not_lt_of_le
def adi:=@Int.lt_of_not_ge
def adj:=@Nat.ne_of_gt
def adk:=@List.Perm.append_left
def adl:=@PySem.wpAny_attempt
def adm:=@Nat.lt_or_eq_of_le
def adn:=@Int.lt_of_le_of_lt
def ado:=@PySem.wpAny_seqItems
def adp:=@PySem.Calls.call_function_entry
def adq:=@Nat.sub_le_sub_right
def ads:=@Nat.le_sub_one_of_lt
def adt:=@PySem.wpAny_passesOwn
def adu:=@Option.isSome_iff_exists
def adv:=@List.length_nil
def adw:=@List.forIn_cons
def adx:=@PySem.wpAny_rule
def ady:=@PySem.wpAny_typeNameOf_keyiter
def adz:=@List.length_zip
def adA:=@List.set_eq_of_length_le
def adB:=@Int.ofNat_lt
def adC:=@PySem.Paired.length
def adD:=@List.filterMap_cons
def adE:=@List.getElem_of_mem
def adF:=@Int.ofNat.inj
def adG:=@List.filter_sublist
def adH:=@List.length_drop
def adI:=@Nat.lt_of_not_le
def adJ:=@Nat.succ_le_succ
def adK:=@List.drop_zero
def adL:=@List.nodup_nil
def adM:=@PySem.wpAny_pyNext_list_item
def adN:=@Array.getElem?_eq_none
def adO:=@PySem.wpAny_pyIter_tuple
def adP:=@List.length_replicate
def adQ:=@PySem.wpAny_typeOf
def adR:=@Option.map_some
def adS:=@Nat.lt_trans
def adT:=@List.pairwise_reverse
def adU:=@Nat.le_add_left
def adV:=@Bool.or_eq_true
def adW:=@PySem.F.called_set
def adX:=@Nat.sub_ne_zero_of_lt
def adY:=@List.dropLast_eq_take
def adZ:=@PySem.Obj.cls_mapFields
def aea:=@List.any_cons
def aeb:=@Nat.mod_lt
def aec:=@List.all_cons
def aed:=@Bool.not_eq_true'
def aee:=@List.flatMap_cons
def aef:=@PySem.Calls.Name_function_global
def aeg:=@Array.toList_setIfInBounds
def aeh:=@PySem.Around.under_plainId
def aei:=@PySem.Calls.evalArgs_plain
def aej:=@Nat.sub_lt_left_of_lt_add
def aek:=@Nat.add_le_add
def ael:=@List.lookup_cons
def aem:=@PySem.wpAny_isInstance
def aen:=@PySem.wpAny_askSetting
def aeo:=@List.isEmpty_iff
def aep:=@Nat.add_comm
def aeq:=@Int.le_of_lt
def aer:=@PySem.F.args_tuple_add_2
def aes:=@Int.le_trans
def aet:=@Nat.add_zero
def aeu:=@PySem.F.slot_list_getattribute
def aev:=@Nat.min_self
def aew:=@PySem.wpAny_Call_Name_kw
def aex:=@List.zip_cons_cons
def aey:=@PySem.F.entry_tuple_add
def aez:=@PySem.wpAny_specialOf
def aeA:=@List.foldl_cons
def aeB:=@List.getElem?_take
def aeC:=@List.getElem?_drop
def aeD:=@List.pairwise_singleton
def aeE:=@Array.getElem?_setIfInBounds_self
def aeF:=@List.map_take
def aeG:=@PyProof.Rows.F.plain_set_update_loop
def aeH:=@Int.eq_ofNat_of_zero_le
def aeI:=@Nat.eq_of_le_of_lt_succ
def aeJ:=@PySem.F.slot_tuple_add
def aeK:=@PySem.F.entry_min_loop
def aeL:=@List.pairwise_lt_range
def aeM:=@List.filter_eq_nil_iff
def aeN:=@Nat.sub_le
def aeO:=@Nat.sub_pos_of_lt
def aeP:=@PySem.wpAny_of_eq
def aeQ:=@PySem.wpAny_pyIter_slot
def aeR:=@Array.toList_eraseIdxIfInBounds
def aeS:=@Array.getElem?_setIfInBounds_ne
def aeT:=@List.length_range
def aeU:=@PySem.wpAny_fieldsOf
def aeV:=@PySem.wpAny_tryCatch
def aeW:=@PySem.wpAny_pyNext_list_end
def aeX:=@Int.ne_of_gt
def aeY:=@PySem.codeAny_mono
def aeZ:=@List.perm_append_comm
def afa:=@PySem.F.args_dict_keyiterator_next_1
def afb:=@PySem.wpAny_isOneOf_keyiter
def afc:=@Nat.le_of_sub_eq_zero
def afd:=@PySem.wpAny_eqBool_int
def afe:=@List.getElem?_replicate_of_lt
def aff:=@List.range'_succ
def afg:=@Array.toList_map
def afh:=@PySem.F.entry_dict_keyiterator_next
def afi:=@Nat.lt_add_right
def afj:=@List.drop_length
def afk:=@List.not_mem_nil
def afl:=@List.filter_cons
def afm:=@PySem.F.args_object_init_2
def afn:=@PySem.codeAny_call_builtin
def afo:=@List.range_eq_range'
def afp:=@PySem.F.args_tuple_iterator_next_1
def afq:=@PySem.wpAny_handled
def afr:=@PySem.wpAny_newList
def afs:=@Nat.not_lt
def aft:=@PySem.wpAny_execs_nil
def afu:=@List.of_mem_zip
def afv:=@PySem.F.entry_tuple_iterator_next
def afw:=@Bool.eq_iff_iff
def afx:=@Array.Perm.refl
def afy:=@List.nil_append
def afz:=@Nat.min_le_left
def afA:=@List.length_take_le
def afB:=@Array.perm_iff_toList_perm
def afC:=@List.length_eraseIdx_of_lt
def afD:=@List.mem_filterMap
def afE:=@List.lookup_append
def afF:=@Eq.trans
def afG:=@List.drop_drop
def afH:=@List.mem_take_iff_getElem
def afI:=@List.mem_drop_iff_getElem
def afJ:=@List.getElem?_zip_eq_some
def afK:=@List.getLast?_eq_getElem?
def afL:=@PySem.wpAny_comprehension_free
def afM:=@PySem.wpAny_pyIter_enum
def afN:=@PySem.F.slot_tuple_index
def afO:=@Option.isSome_map
def afP:=@List.reverse_perm
def afQ:=@Array.size_setIfInBounds
def afR:=@PySem.wpAny_dictEntries
def afS:=@PySem.F.slot_dict_values
def afT:=@Nat.le_succ_of_le
def afU:=@List.foldl_append
def afV:=@PySem.F.slot_list_extend
def afW:=@PySem.F.type_list_extend
def afX:=@List.length_erase_of_mem
def afY:=@Sum.inl.inj
def afZ:=@PySem.wpAny_standAt
def aga:=@List.getElem?_replicate
def agb:=@PySem.wpAny_letGo
def agc:=@PySem.wpAny_throw
def agd:=@Nat.lt_add_of_pos_right
def age:=@PySem.F.plainAttrs_dict
def agf:=@List.length_eq_zero_iff
def agg:=@Int.le_refl
def agh:=@List.map_id
def agi:=@PySem.wpAny_forIn_list
def agj:=@List.any_eq_true
def agk:=@Array.toList_inj
def agl:=@List.map_snd_zip
def agm:=@Int.le_of_not_gt
def agn:=@List.nodup_range
def ago:=@Nat.not_le_of_lt
def agp:=@PySem.W.cellsFrom_some
def agq:=@List.drop_eq_nil_of_le
def agr:=@List.reverse_singleton
def ags:=@Classical.epsilon_spec
def agt:=@Nat.lt_of_succ_lt_succ
def agu:=@List.range_succ_eq_map
def agv:=@Nat.add_le_of_le_sub'
def agw:=@List.lookup_cons_self
def agx:=@Array.mem_iff_getElem
def agy:=@PySem.wpAny_dictEpoch
def agz:=@Nat.sub_self
def agA:=@Nat.le_sub_of_add_le'
def agB:=@PySem.wpAny_updateSeq
def agC:=@Nat.succ.inj
def agD:=@List.eq_nil_or_concat
def agE:=@List.concat_eq_append
def agF:=@List.length_filter_le
def agG:=@Nat.sub_lt
def agH:=@Nat.add_le_add_right
def agI:=@Int.le_of_lt_add_one
def agJ:=@Array.toArray_toList
def agK:=@List.mem_iff_getElem
def agL:=@Nat.sub_eq_of_eq_add
def agM:=@Nat.add_lt_add_right
def agN:=@Bool.or_eq_false_iff
def agO:=@List.length_take_le'
def agP:=@List.reverse_reverse
def agQ:=@PySem.wpAny_runValue
def agR:=@List.take_take
def agS:=@Nat.sub_add_eq
def agT:=@Nat.mul_le_mul
def agU:=@Nat.add_left_cancel
def agV:=@PyProof.Rows.lt_int
def agW:=@PySem.evalArgs_none
def agX:=@Nat.pred_lt
def agY:=@Bool.or_eq_true_iff
def agZ:=@Prod.mk.inj
def aha:=@List.flatMap_append
def ahb:=@List.reverse_append
def ahc:=@PySem.W.callWith_K
def ahd:=@List.zip_nil_right
def ahe:=@Option.isSome_some
def ahf:=@Nat.pos_of_ne_zero
def ahg:=@Array.size_extract
def ahh:=@List.find?_eq_none
def ahi:=@List.map_drop
def ahj:=@List.filter_append
def ahk:=@PySem.W.mg_none_of
def ahl:=@PySem.Walks.list
def ahm:=@List.map_nil
def ahn:=@Nat.sub_zero
def aho:=@Nat.le_succ
def OY(h:¬p->False):p:=aca h
section
variable {q:Prop}{α β γ δ ε ζ η θ ι κ:Sort _}
def c6(x:A/\B/\C)(k:A->B->C->q):q:=k x.1 x.2.1 x.2.2
def BU(x:A/\B/\C/\D)(k:A->B->C->D->q):q:=c6 x.2 axa
def OZ(x:A/\B/\C/\D/\E)(k:A->B->C->D->E->q):q:=BU x.2 axa
def tT(x:A/\B/\C/\D/\E/\F)(k:A->B->C->D->E->F->q):q:=OZ x.2 axa
def Xr(x:A/\B/\C/\D/\E/\F/\G)(k:A->B->C->D->E->F->G->q):q:=tT x.2 axa
def Xs(x:A/\B/\C/\D/\E/\F/\G/\H)(k:A->B->C->D->E->F->G->H->q):q:=Xr x.2 axa
def Y_(x:A/\B/\C/\D/\E/\F/\G/\H/\I)(k:A->B->C->D->E->F->G->H->I->q):q:=Xs x.2 axa
def Ui(x:A/\B/\C/\D/\E/\F/\G/\H/\I/\J)(k:A->B->C->D->E->F->G->H->I->J->q):q:=Y_ x.2 axa
variable {A B C D E F G H I J:α->Prop}
def aa(x:∃a,A a/\B a)(k:∀a,A a->B a->q):q:=x.elim λa x=>k a x.1 x.2
def bH(x:∃a,A a/\B a/\C a)(k:∀a,A a->B a->C a->q):q:=x.elim λa x=>c6 x (k a)
def F_(x:∃a,A a/\B a/\C a/\D a)(k:∀a,A a->B a->C a->D a->q):q:=x.elim λa x=>BU x (k a)
def Ou(x:∃a,A a/\B a/\C a/\D a/\E a)(k:∀a,A a->B a->C a->D a->E a->q):q:=x.elim λa x=>OZ x (k a)
def Y'(x:∃a,A a/\B a/\C a/\D a/\E a/\F a)(k:∀a,A a->B a->C a->D a->E a->F a->q):q:=x.elim λa x=>tT x (k a)
def Za(x:∃a,A a/\B a/\C a/\D a/\E a/\F a/\G a)(k:∀a,A a->B a->C a->D a->E a->F a->G a->q):q:=x.elim λa x=>Xr x (k a)
def Zb(x:∃a,A a/\B a/\C a/\D a/\E a/\F a/\G a/\H a)(k:∀a,A a->B a->C a->D a->E a->F a->G a->H a->q):q:=x.elim λa x=>Xs x (k a)
def Uj(x:∃a,A a/\B a/\C a/\D a/\E a/\F a/\G a/\H a/\I a/\J a)(k:∀a,A a->B a->C a->D a->E a->F a->G a->H a->I a->J a->q):q:=x.elim λa x=>Ui x (k a)
variable {A B C D E F G H I J:α->β->Prop}
def O0(x:∃a b,A a b)(k:∀a b,A a b->q):q:=x.elim λa x=>x.elim (k a)
def eU(x:∃a b,A a b/\B a b)(k:∀a b,A a b->B a b->q):q:=x.elim λa x=>aa x (k a)
def ba(x:∃a b,A a b/\B a b/\C a b)(k:∀a b,A a b->B a b->C a b->q):q:=x.elim λa x=>bH x (k a)
def iq(x:∃a b,A a b/\B a b/\C a b/\D a b)(k:∀a b,A a b->B a b->C a b->D a b->q):q:=x.elim λa x=>F_ x (k a)
def kM(x:∃a b,A a b/\B a b/\C a b/\D a b/\E a b)(k:∀a b,A a b->B a b->C a b->D a b->E a b->q):q:=x.elim λa x=>Ou x (k a)
def Uk(x:∃a b,A a b/\B a b/\C a b/\D a b/\E a b/\F a b)(k:∀a b,A a b->B a b->C a b->D a b->E a b->F a b->q):q:=x.elim λa x=>Y' x (k a)
def Ul(x:∃a b,A a b/\B a b/\C a b/\D a b/\E a b/\F a b/\G a b)(k:∀a b,A a b->B a b->C a b->D a b->E a b->F a b->G a b->q):q:=x.elim λa x=>Za x (k a)
def Um(x:∃a b,A a b/\B a b/\C a b/\D a b/\E a b/\F a b/\G a b/\H a b)(k:∀a b,A a b->B a b->C a b->D a b->E a b->F a b->G a b->H a b->q):q:=x.elim λa x=>Zb x (k a)
def Uo(x:∃a b,A a b/\B a b/\C a b/\D a b/\E a b/\F a b/\G a b/\H a b/\I a b/\J a b)(k:∀a b,A a b->B a b->C a b->D a b->E a b->F a b->G a b->H a b->I a b->J a b->q):q:=x.elim λa x=>Uj x (k a)
variable {A B C D E F G H I J:α->β->γ->Prop}
def SU(x:∃a b c,amf)(k:∀a b c,amf->q):q:=x.elim λa x=>O0 x (k a)
def kP(x:∃a b c,amf/\anv)(k:∀a b c,amf->anv->q):q:=x.elim λa x=>eU x (k a)
def cx(x:∃a b c,amf/\anv/\aoD)(k:∀a b c,amf->anv->aoD->q):q:=x.elim λa x=>ba x (k a)
def SV(x:∃a b c,amf/\anv/\aoD/\aqi)(k:∀a b c,amf->anv->aoD->aqi->q):q:=x.elim λa x=>iq x (k a)
def vY(x:∃a b c,amf/\anv/\aoD/\aqi/\ato)(k:∀a b c,amf->anv->aoD->aqi->ato->q):q:=x.elim λa x=>kM x (k a)
def Ov(x:∃a b c,amf/\anv/\aoD/\aqi/\ato/\awj)(k:∀a b c,amf->anv->aoD->aqi->ato->awj->q):q:=x.elim λa x=>Uk x (k a)
def Zc(x:∃a b c,amf/\anv/\aoD/\aqi/\ato/\awj/\aB0)(k:∀a b c,amf->anv->aoD->aqi->ato->awj->aB0->q):q:=x.elim λa x=>Ul x (k a)
def Zd(x:∃a b c,amf/\anv/\aoD/\aqi/\ato/\awj/\aB0/\H a b c)(k:∀a b c,amf->anv->aoD->aqi->ato->awj->aB0->H a b c->q):q:=x.elim λa x=>Um x (k a)
def Up(x:∃a b c,amf/\anv/\aoD/\aqi/\ato/\awj/\aB0/\H a b c/\I a b c/\J a b c)(k:∀a b c,amf->anv->aoD->aqi->ato->awj->aB0->H a b c->I a b c->J a b c->q):q:=x.elim λa x=>Uo x (k a)
variable {A B C D E F G H I J:α->β->γ->δ->Prop}
def mV(x:∃a b c d,akP/\akO)(k:∀a b c d,akP->akO->q):q:=x.elim λa x=>kP x (k a)
def KY(x:∃a b c d,akP/\akO/\ali)(k:∀a b c d,akP->akO->ali->q):q:=x.elim λa x=>cx x (k a)
def O1(x:∃a b c d,akP/\akO/\ali/\amu)(k:∀a b c d,akP->akO->ali->amu->q):q:=x.elim λa x=>SV x (k a)
def wk(x:∃a b c d,akP/\akO/\ali/\amu/\aom)(k:∀a b c d,akP->akO->ali->amu->aom->q):q:=x.elim λa x=>vY x (k a)
def Ga(x:∃a b c d,akP/\akO/\ali/\amu/\aom/\aqQ)(k:∀a b c d,akP->akO->ali->amu->aom->aqQ->q):q:=x.elim λa x=>Ov x (k a)
def Ze(x:∃a b c d,akP/\akO/\ali/\amu/\aom/\aqQ/\avp)(k:∀a b c d,akP->akO->ali->amu->aom->aqQ->avp->q):q:=x.elim λa x=>Zc x (k a)
def Xt(x:∃a b c d,akP/\akO/\ali/\amu/\aom/\aqQ/\avp/\aEa)(k:∀a b c d,akP->akO->ali->amu->aom->aqQ->avp->aEa->q):q:=x.elim λa x=>Zd x (k a)
def Uq(x:∃a b c d,akP/\akO/\ali/\amu/\aom/\aqQ/\avp/\aEa/\I a b c d/\J a b c d)(k:∀a b c d,akP->akO->ali->amu->aom->aqQ->avp->aEa->I a b c d->J a b c d->q):q:=x.elim λa x=>Up x (k a)
variable {A B C D E F G H I J:α->β->γ->δ->ε->Prop}
def KZ(x:∃a b c d e,aiH/\aiF)(k:∀a b c d e,aiH->aiF->q):q:=x.elim λa x=>mV x (k a)
def Zf(x:∃a b c d e,aiH/\aiF/\ai6)(k:∀a b c d e,aiH->aiF->ai6->q):q:=x.elim λa x=>KY x (k a)
def Ur(x:∃a b c d e,aiH/\aiF/\ai6/\ajY)(k:∀a b c d e,aiH->aiF->ai6->ajY->q):q:=x.elim λa x=>O1 x (k a)
def SW(x:∃a b c d e,aiH/\aiF/\ai6/\ajY/\alN)(k:∀a b c d e,aiH->aiF->ai6->ajY->alN->q):q:=x.elim λa x=>wk x (k a)
def Xu(x:∃a b c d e,aiH/\aiF/\ai6/\ajY/\alN/\an2)(k:∀a b c d e,aiH->aiF->ai6->ajY->alN->an2->q):q:=x.elim λa x=>Ga x (k a)
def Zg(x:∃a b c d e,aiH/\aiF/\ai6/\ajY/\alN/\an2/\aru)(k:∀a b c d e,aiH->aiF->ai6->ajY->alN->an2->aru->q):q:=x.elim λa x=>Ze x (k a)
def Zh(x:∃a b c d e,aiH/\aiF/\ai6/\ajY/\alN/\an2/\aru/\ayP)(k:∀a b c d e,aiH->aiF->ai6->ajY->alN->an2->aru->ayP->q):q:=x.elim λa x=>Xt x (k a)
def Us(x:∃a b c d e,aiH/\aiF/\ai6/\ajY/\alN/\an2/\aru/\ayP/\I a b c d e/\J a b c d e)(k:∀a b c d e,aiH->aiF->ai6->ajY->alN->an2->aru->ayP->I a b c d e->J a b c d e->q):q:=x.elim λa x=>Uq x (k a)
variable {A B C D E F G H I J:α->β->γ->δ->ε->ζ->Prop}
def Zi(x:∃a b c d e f,ajU/\ajT/\ajR)(k:∀a b c d e f,ajU->ajT->ajR->q):q:=x.elim λa x=>Zf x (k a)
def Ox(x:∃a b c d e f,ajU/\ajT/\ajR/\al2/\ama)(k:∀a b c d e f,ajU->ajT->ajR->al2->ama->q):q:=x.elim λa x=>SW x (k a)
def Zj(x:∃a b c d e f,ajU/\ajT/\ajR/\al2/\ama/\ao_/\ao9)(k:∀a b c d e f,ajU->ajT->ajR->al2->ama->ao_->ao9->q):q:=x.elim λa x=>Zg x (k a)
def Zk(x:∃a b c d e f,ajU/\ajT/\ajR/\al2/\ama/\ao_/\ao9/\avo)(k:∀a b c d e f,ajU->ajT->ajR->al2->ama->ao_->ao9->avo->q):q:=x.elim λa x=>Zh x (k a)
def O3(x:∃a b c d e f,ajU/\ajT/\ajR/\al2/\ama/\ao_/\ao9/\avo/\I a b c d e f/\J a b c d e f)(k:∀a b c d e f,ajU->ajT->ajR->al2->ama->ao_->ao9->avo->I a b c d e f->J a b c d e f->q):q:=x.elim λa x=>Us x (k a)
variable {A B C D E F G H I J:α->β->γ->δ->ε->ζ->η->Prop}
def Zl(x:∃a b c d e f g,anm/\anl/\anj)(k:∀a b c d e f g,anm->anl->anj->q):q:=x.elim λa x=>Zi x (k a)
def Xv(x:∃a b c d e f g,anm/\anl/\anj/\asP/\asO/\asN/\asM)(k:∀a b c d e f g,anm->anl->anj->asP->asO->asN->asM->q):q:=x.elim λa x=>Zj x (k a)
def Zm(x:∃a b c d e f g,anm/\anl/\anj/\asP/\asO/\asN/\asM/\H a b c d e f g)(k:∀a b c d e f g,anm->anl->anj->asP->asO->asN->asM->H a b c d e f g->q):q:=x.elim λa x=>Zk x (k a)
variable {A B C D E F G H I J:α->β->γ->δ->ε->ζ->η->θ->Prop}
def mW(x:∃a b c d e f g h,A a b c d e f g h/\B a b c d e f g h/\C a b c d e f g h)(k:∀a b c d e f g h,A a b c d e f g h->B a b c d e f g h->C a b c d e f g h->q):q:=x.elim λa x=>Zl x (k a)
variable {A B C D E F G H I J:α->β->γ->δ->ε->ζ->η->θ->ι->Prop}
def Xw(x:∃a b c d e f g h i,aGQ/\aGN/\aGM)(k:∀a b c d e f g h i,aGQ->aGN->aGM->q):q:=x.elim λa x=>mW x (k a)
end
def O4{a b c:Nat}(h:b<=c)(k:a<=b):a<=c:=aam k h
def Xx{a b c:Nat}(h:b<c)(k:a<=b):a<c:=aaU k h
def B8{a b c:Nat}(h:b=c)(k:a<=b):a<=c:=h▸k
def O5{a b c:Nat}(h:a=b)(k:b<=c):a<=c:=h▸k
def Ut{a b c:Nat}(h:a=b)(k:b<c):a<c:=h▸k
def Zn(h:j-1<n):j<=n:=Nat.le_of_pred_lt h
def Zo(h:i<n):n-1-i<n:=aaU ar6 (agG (Nat.zero_lt_of_lt h) Nat.one_pos)
def K0{i:Int}{n:Nat}(h:0<=i)(k:i<n):i.toNat<n:=(Int.toNat_lt h).mpr k
def Xy{a b:Int}(h:0<=a)(k:0<=b)(e:a.toNat=b.toNat):a=b:=(acz h).symm.trans ((congrArg Int.ofNat e).trans (acz k))
def Uu(h:1<=n)(k:n<=z-lo):lo+n<=z:=agv (aaE (Nat.lt_of_sub_pos (aaj h k))) k
def O6(e:l=n)(h:k<n+1):min k l+(l-k+1)=n+1:=by
 subst e;rw[acs (aaY h),<-acw,abh (aaY h)]
def O7{k n:Nat}(h:k<=n):(min (k:Int) n).toNat =k:=by
 rw[Int.min_eq_left (Int.ofNat_le.mpr h)];rfl
def Uv(h:b<=c)(e:c+v=b+w)(k:c<=n):2*(n-c)+w<=2*(n-b)+v:=by
 obtain⟨d,rfl⟩:=acX h;obtain⟨x,rfl⟩:=acX k;have e:w=d+v:=agU (e.symm.trans (acw _ _ _));rw[e,abX,acw b d x,abX,Nat.mul_add,<-acw,aep _ d];exact agH (agH (Nat.le_mul_of_pos_left d Nat.two_pos) _) _
def Uw{i n:Nat}(h:i<n):(n:Int)-1-i=((n-1-i:Nat):Int):=by
 rw[Nat.sub_sub,Int.ofNat_sub (Nat.one_add_le_iff.mpr h),Int.sub_sub];rfl
def Ux{i o m:Nat}(h:¬i<o)(k:¬i-o<m):o+m+(i-o-m)=i:=by
 rw[acw,abh (aaV k),abh (aaV h)]
def O8(h:1<n):n-2+1<n:=by
 obtain⟨m,rfl⟩:=acX h;rw[aep 2 m];exact abY _
def Uy(h:k<n):n=k+(n-k-1+1):=by
 rw[acF (aeO h),abh (aaE h)]
def t_{u c d z:Nat}(h:u+c<z)(k:d<=c):u+d<z:=aaU (abj k u) h
def K1(h:0<=x/\x<((n+1:Nat):Int))(e:x≠n):0<=x/\x<n:=⟨h.1,Int.lt_iff_le_and_ne.mpr ⟨agI h.2,e⟩⟩
def Gb{i:Int}{n:Nat}(h:i<=n):i.toNat<=n:=Int.toNat_le.mpr h
def Uz{i n:Nat}(h:i<n):((0<=if(i:Int)<0 then(i:Int)+n else i)/\(if(i:Int)<0 then(i:Int)+n else i)<n)/\(if(i:Int)<0 then(i:Int)+n else i).toNat =i:=by
 rw[aaF (Int.not_lt.mpr (aaW i))];exact⟨⟨aaW i,aGr⟩,rfl⟩
def UA:o+(j+1)+m-(o+j)=m+1:=by
 show o+j+1+m-(o+j)=m+1;rw[acw (o+j),abX,aep]
set_option bootstrap.genMatcherCode false
set_option genSizeOf false
set_option compiler.extract_closed false
set_option Elab.async false
set_option maxRecDepth 100000
abbrev ay:=PySem.W.Frag
namespace L2
open PySem PySem.Spec PyProof.Rows
abbrev cz:=Sum Int Str
noncomputable def nD:cz->Value->Bool
 | .inl k,v=>Value.isInt k v
 | .inr x,v=>Value.isStrOf x v
noncomputable def UB(w:World):cz->Int
 | .inl k=>hashInt k
 | .inr x=>hashStr w x
def bg:∀{k:cz}{v:Value},nD k v=true->(∃i t,k=Sum.inl i/\v=Value.int i t)\/(∃x t,k=Sum.inr x/\v=Value.str x t)
 | .inl i,v,h=>by
  obtain⟨t,e⟩:=Value.isInt_shape (k:=i) (v:=v) h;exact .inl ⟨i,t,rfl,e⟩
 | .inr x,v,h=>by
  obtain⟨t,e⟩:=Value.isStrOf_shape (x:=x) (v:=v) h;exact .inr ⟨x,t,rfl,e⟩
def Af(i:Int)(t:Tok):nD (akN i) (arF i)=true:=by simp[nD,Value.isInt]
def Ag(x:Str)(t:Tok):nD (ant x) (.str x t)=true:=by simp[nD,Value.isStrOf]
def K2(a b:Int):decide ((Sum.inl a:cz)=Sum.inl b)=(a==b):=by
 by_cases e:a=b
 .subst e;simp
 .have h:¬(Sum.inl a:cz)=Sum.inl b:=λq=>e (afY q);rw[decide_eq_false h];exact(beq_eq_false_iff_ne.mpr e).symm
def K3(a b:Str):decide ((Sum.inr a:cz)=Sum.inr b)=decide (a=b):=by
 by_cases e:a=b
 .subst e;simp
 .have h:¬(Sum.inr a:cz)=Sum.inr b:=λq=>e (Sum.inr.inj q);rw[decide_eq_false h,decide_eq_false e]
def K4(a:Int)(b:Str):decide ((Sum.inl a:cz)=Sum.inr b)=false:=decide_eq_false (λq=>nomatch q)
def K5(a:Str)(b:Int):decide ((Sum.inr a:cz)=Sum.inl b)=false:=decide_eq_false (λq=>nomatch q)
noncomputable def aW(prog:ac7)(w:World):PySem.KeyKind prog w cz where
 is:=nD
 hash:=UB w
 inj:=λv a b ha hb=>by
  rcases bg ha with⟨i,t,rfl,rfl⟩|⟨x,t,rfl,rfl⟩
  .rcases bg hb with⟨j,u,rfl,e⟩|⟨y,u,rfl,e⟩
   .injection e with e1 _;rw[e1]
   .exact nomatch e
  .rcases bg hb with⟨j,u,rfl,e⟩|⟨y,u,rfl,e⟩
   .exact nomatch e
   .injection e with e1 _;rw[e1]
 byValue:=λk v h=>by
  rcases bg h with⟨i,t,rfl,rfl⟩|⟨x,t,rfl,rfl⟩<;>rfl
 pyHash:=λhv h=>by
  rcases bg hv with⟨i,t,rfl,rfl⟩|⟨x,t,rfl,rfl⟩
  .exact wpAny_pyHash_int h
  .exact wpAny_pyHash_str h
 eqBool:=λhu hv h=>by
  rcases bg hu with⟨i,t,rfl,rfl⟩|⟨x,t,rfl,rfl⟩
  .rcases bg hv with⟨j,u,rfl,rfl⟩|⟨y,u,rfl,rfl⟩
   .rw[K2]at h;exact afd h
   .rw[K4]at h;exact SeqAt.EqAt.int_str i t y u _ _ _ _ h
  .rcases bg hv with⟨j,u,rfl,rfl⟩|⟨y,u,rfl,rfl⟩
   .rw[K5]at h;exact SeqAt.EqAt.str_int x t j u _ _ _ _ h
   .rw[K3]at h;exact wpAny_eqBool_str h
 «strs»:=λk x t v h=>by
  rcases bg h with⟨i,u,rfl,e⟩|⟨y,u,rfl,e⟩
  .exact nomatch e
  .injection e with e1 _;subst e1;cases v<;>rfl
def ub(prog:ac7)(w:World)(i:Int)(t:Tok):(aW prog w).is (akN i) (arF i)=true:=Af i t
def uc(prog:ac7)(w:World)(x:Str)(t:Tok):(aW prog w).is (ant x) (.str x t)=true:=Ag x t
inductive V where
 |cq|bl (b:Bool)|int (i:Int)|str (x:Str)|O9 (b:Array UInt8)|UC (b:UInt64)|ref (a:Addr)|ty (n:apr)
 deriving DecidableEq
def RelV:V->Value->Prop
 | .cq,u=>u=Value.none
 | .bl b,u=>u=Value.bool b
 | .int i,u=>∃t,u=Value.int i t
 | .str x,u=>∃t,u=Value.str x t
 | .O9 b,u=>∃t,u=Value.bytes b t
 | .UC b,u=>∃t,u=Value.float b t
 | .ref a,u=>u=Value.ref a
 | .ty n,u=>u=Value.type n
abbrev aD:ad5->ab0->Prop:=Paired RelV
theorem aD.length(r:aob):xs.length=us.length:=adC r
theorem aD.get:∀{xs:ad5}{us:ab0}{i:Nat}{x:V},aob->xs[i]?=some x->∃u,us[i]?=some u/\RelV x u
 |_,_,_,_,.nil,e=>by simp at e
 |_,_,0,_,.cons r _,e=>by simp at e;subst e;exact⟨_,rfl,r⟩
 |_,_,i+1,x,.cons _ t,e=>by
  exact aa (aD.get (i:=i) (x:=x) t (by simpa using e)) λu h1 h2=>⟨u,by simpa using h1,h2⟩
theorem aD.set(r:avj):∀{xs:ad5}{us:ab0} (i:Nat),aob->aD (xs.set i x) (us.set i u)
 |_,_,_,.nil => .nil
 |_,_,0,.cons _ t=> .cons r t
 |_,_,i+1,.cons q t=> .cons q (aD.set r i t)
def aD.append:∀{xs ys:ad5}{us ws:ab0},aob->aD ys ws->aD azt (us++ws):=λ{xs ys us ws} h s=>by
 induction h with
 |nil=>exact s
 |cons r t ih=>exact .cons r ih
theorem aD.take:∀{xs:ad5}{us:ab0} (n:Nat),aob->aD (xs.take n) (us.take n)
 |_,_,0,_=> .nil
 |_,_,_+1,.nil => .nil
 |_,_,n+1,.cons r t=> .cons r (aD.take n t)
theorem aD.drop:∀{xs:ad5}{us:ab0} (n:Nat),aob->aD (xs.drop n) (us.drop n)
 |_,_,0,r=>r
 |_,_,_+1,.nil => .nil
 |_,_,n+1,.cons _ t=>aD.drop n t
def pY:aps->ae6->Prop
 |some v,some u=>RelV v u
 |none,none=>True
 |_,_=>False
def KV{κ:Type}:ak0->axA->Prop:=Paired λ(p:κ×V) (q:κ×Value)=>p.1=q.1/\RelV p.2 q.2
noncomputable def kV:cz->V
 | .inl i=> .int i
 | .inr x=> .str x
inductive HO where
  |lst (xs:ad5)
  |tup (xs:ad5)
  |dK (kvs:ap4)|dT (kvs:aiR)
  |set (S:Int->Bool) (n:Nat)
  |ins (C dx:Addr) (fs:avn)
  |own (x:Addr)
  |xd (fs:avn)
  |met (f x:Addr)
  |iO (lo hi:Int)
  |dF (o:Obj) (u:HO)
  |JE (ps:ae2)
  |ext (φ:Heap->Prop)
abbrev Hp:=Addr->Option HO
noncomputable def upd(H:Hp)(a:Addr)(o:HO):Hp:=λb=>if b=a then some o else H b
def ag:upd H a o a=some o:=by unfold upd;rw[aaB rfl]
def ak(h:b≠a):upd H a o b=H b:=by unfold upd;rw[aaF h]
def c7{H:Hp}{a b:Addr}{o u:HO}(h:aA5)(h':apd)(d:o≠u):a≠b:=by
 intro e;subst e;rw[h]at h';exact d (aaQ h')
def bZ{H:Hp}{a b:Addr}{o:HO}(h:aA5)(h':ajQ):a≠b:=by
 intro e;subst e;rw[h]at h';cases h'
def jB(h:Heap)(a:Addr)(items:ae2):Prop:=∃o,am7/\o.cls= .type "tuple"/\(∃n,o.data= .seq items n)/\o.dict=none
def jB.tup{h:Heap}{a:Addr}{items:ae2}(x:jB h a items):IsTup h a items:=let ⟨o,e,c,d,_⟩:=x;⟨o,e,c,d⟩
def jB.lt{h:Heap}{a:Addr}{items:ae2}(x:jB h a items):aBP:=let ⟨_,ho,_⟩:=x;aaA ho
def jB.new(h:Heap)(items:ae2):jB (h.push {cls:= .type "tuple",data:= .seq items}) h.objs.size items:=⟨_,ag6,rfl,amE,rfl⟩
section
variable (P:ac7)(w:World)
def aO(H:Hp)(h:Heap)(a:Addr):HO->Prop
 | .lst xs=>xs.length<=sizeLine/\∃(its:ab0) (n:Nat),aoi/\h.get? a=some {cls:= .type "list",data:= .seq its.toArray n}
 | .tup xs=>xs.length<=sizeLine/\∃its:ab0,aoi/\jB h a its.toArray
 | .dK kvs=>kvs.length<=sizeLine/\ahN/\∃vs,alL/\h.DictOf apE a vs
 | .dT kvs=>kvs.length<=sizeLine/\ahN/\∃xs:alK,
   Paired (λ(p:List cz×V) (q:List cz×Addr×Value)=>p.1=q.1/\H q.2.1=some auu/\RelV p.2 q.2.2) kvs xs/\
   ∃o es ep,am7/\aFW/\ajt/\es.toList=xs.map (entryOfKey (tupleKind apE))/\(xs.map (·.1)).Nodup
 | .set S n=>h.SetOf (intKind P w) a S n
 | .ins C dx fs=>H dx=some aFq/\fs.length<=1000/\dx≠a/\h.get? a=some (PySem.W.instObj C dx)/\
   ∃mA,h.Ns1 dx mA/\(∀f,pY (fs.lookup f) (mA f))/\PySem.Within mA (fs.map (·.1))
 | .own _=>∃o,h.get? a=some o
 | .xd fs=>∃mA,h.Ns1 a mA/\∀f,pY (fs.lookup f) (mA f)
 | .iO lo hi=>∃t u v,h.get? a=some {cls:= .type "range",data:= .fields #[avu,avv,ax2]}
 | .dF o u=>h.get? a=some o/\aO H h a u
 | .JE ps=>h.get? a=some {cls:= .none,data:= .fields ps}
 | .met f x=>h.get? a=some (atJ (akE x))
 | .ext φ=>φ h/\(∃o,am7)/\∀h1 h2:Heap,φ h1->(∀o,h1.get? a=some o->h2.get? a=some o)->φ h2
def gC(H:Hp)(h:Heap):Prop:=∀a o,aA5->aO P w H h a o
end
section
variable {P:ac7}{w:World}{H H':Hp}{h h':Heap}{a:Addr}{o:HO}
theorem aO.lt(x:az7):aBP:=by
 cases o with
 |lst xs=>obtain⟨_,_,_,_,e⟩:=x;exact aaA e
 |tup xs=>obtain⟨_,_,_,p⟩:=x;exact p.lt
 |dK kvs=>obtain⟨_,_,_,_,o,_,_,e,_⟩:=x;exact aaA e
 |dT kvs=>obtain⟨_,_,_,_,o,_,_,e,_⟩:=x;exact aaA e
 |set S n=>obtain⟨o,_,_,_,e,_⟩:=x;exact aaA e
 |ins C dx fs=>obtain⟨_,_,_,e,_⟩:=x;exact aaA e
 |own y=>obtain⟨_,e⟩:=x;exact aaA e
 |xd fs=>obtain⟨_,⟨_,_,_,e,_⟩,_⟩:=x;exact aaA e
 |iO lo hi=>obtain⟨_,_,_,e⟩:=x;exact aaA e
 |dF ob u=>obtain⟨e,_⟩:=x;exact aaA e
 |JE ps=>exact aaA (show h.get? a=some _ from x)
 |met f y=>exact aaA (show h.get? a=some _ from x)
 |ext φ=>obtain⟨_,⟨_,e⟩,_⟩:=x;exact aaA e
def Paired.O_:∀{l₁:ahB}{l₂:apt},Paired F l₁ l₂->(∀a b,F a b->G a b)->Paired G l₁ l₂:=λ{l₁ l₂} h f=>by
 induction h with
 |nil=>exact .nil
 |cons r t ih=>exact .cons (f _ _ r) ih
def aO.mG(x:az7)(k:∀b u,(b=a\/H b=some aFq)->akf->ain)
  (ho:∀b,H b=some aFq->H' b=some aFq) (ht:∀b xs,aD9->H' b=some ajJ):aO P w H' h' a o:=by
 induction o with
 |lst xs=>obtain⟨z,its,n,r,e⟩:=x;exact⟨z,its,n,r,ak2⟩
 |tup xs=>obtain⟨z,its,r,ob,e,c⟩:=x;exact⟨z,its,r,ob,ak2,c⟩
 |dK kvs=>obtain⟨z,y,vs,r,ob,es,ep,e,c⟩:=x;exact⟨z,y,vs,r,ob,es,ep,ak2,c⟩
 |dT kvs=>
  obtain⟨z,y,xs,r,ob,es,ep,e,c⟩:=x;exact⟨z,y,xs,Paired.O_ r λp q z=>⟨z.1,ht _ _ z.2.1,z.2.2⟩,ob,es,ep,ak2,c⟩
 |set S n=>obtain⟨ob,es,ep,t,e,c⟩:=x;exact⟨ob,es,ep,t,ak2,c⟩
 |ins C dx fs=>
  obtain⟨d,z,ne,e,mA,⟨od,es,ep,e2,c⟩,r⟩:=x;exact⟨ho _ d,z,ne,ak2,mA,⟨od,es,ep,k _ _ (ant d) e2,c⟩,r⟩
 |own y=>obtain⟨ob,e⟩:=x;exact⟨ob,ak2⟩
 |xd fs=>obtain⟨mA,⟨od,es,ep,e,c⟩,r⟩:=x;exact⟨mA,⟨od,es,ep,ak2,c⟩,r⟩
 |iO lo hi=>obtain⟨t,u,v,e⟩:=x;exact⟨t,u,v,ak2⟩
 |dF ob u ih=>obtain⟨e,q⟩:=x;exact⟨ak2,ih q⟩
 |JE ps=>
  have e:h.get? a=some {cls:= .none,data:= .fields ps}:=x;show h'.get? a=some {cls:= .none,data:= .fields ps};exact k a _ ahq e
 |met f y=>
  have e:h.get? a=some (atJ (akE y)):=x;show h'.get? a=some (atJ (akE y));exact k a _ ahq e
 |ext φ=>obtain⟨p,⟨o,e⟩,st⟩:=x;exact⟨st _ _ p λo q=>k _ _ ahq q,⟨o,ak2⟩,st⟩
theorem gC.lt(x:akg)(e:aA5):aBP:=(x a o e).lt
def gC.fresh(x:akg)(e:azJ):H a=none:=by
 cases q:H a with
 |none=>rfl
 |some u=>exact absurd (aaj (x.lt q) e) alW
def gC.kept(x:akg)(k:∀b u,akf->ain):gC P w H h':=λa o e=>
 (x a o e).mG (λb u _ q=>k b u q) (λ_ q=>q) λ_ _ q=>q
def gC.laid(x:akg)(k:∀b u,akf->ain)(hp:azJ)(new:aO P w ath h' a o):gC P w ath h':=λb u e=>by
 have hn:=x.fresh hp;by_cases hb:b=a
 .subst hb;rw[ag]at e;cases e;exact new
 .rw[ak hb]at e;exact(x b u e).mG (λc v _ q=>k c v q) (λc q=>by rw[ak axk];exact q) λc xs q=>by rw[ak axk];exact q
end
def Rd(H:Hp)(a:Addr)(u:HO):Prop:=H a=some u\/∃o,H a=some aih
def Rd.ok(r:Rd H a u)(x:akg):aO P w H h a u:=by
 rcases r with r|⟨o,r⟩
 .exact x a u r
 .obtain⟨_,q⟩:=x a _ r;exact q
def B9:Option HO->Prop
 |some (.lst _)=>True
 |some (.dK _)=>True
 |some (.dT _)=>True
 |some (.set _ _)=>True
 |some (.ins _ _ _)=>True
 |some (.ext _)=>True
 |_=>False
section
variable {P:ac7}{w:World}{H:Hp}{h h':Heap}{x e:Addr}{o':HO}
def gC.write(ok:akg)(mu:B9 (H x))(he:e=x\/awh)(k:∀b u,b≠e->akf->ain)(JF:∃u,axd)
  (new:aO P w (upd H x o') h' x o'):gC P w (upd H x o') h':=λb u q=>by
 have Pa:∀c y,H c=some (.own y)->c≠x:=λc y r z=>by subst z;rw[r]at mu;exact mu
 have UD:∀c xs,H c=some ajJ->c≠x:=λc xs r z=>by subst z;rw[r]at mu;exact mu
 by_cases hb:b=x
 .subst hb;rw[ag]at q;cases q;exact new
 .rw[ak hb]at q;by_cases BV:b=e
  .have q':H b=some (.own x):=by
    rcases he with z|z
    .exact absurd (BV.trans z) hb
    .rw[BV];exact z
   rw[q]at q';cases q';obtain⟨v,hv⟩:=JF;exact⟨v,by rw[BV];exact hv⟩
  .refine(ok b u q).mG (λc v hc r=>k c v ?_ r) (λc r=>by rw[ak (Pa c b r)];exact r) λc xs r=>by rw[ak (UD c xs r)];exact r
   rcases hc with rfl|hc
   .exact BV
   .rintro rfl;rcases he with z|z
    .exact Pa c b hc z
    .rw[hc]at z;cases z;exact hb rfl
end
structure Un(fs ex:ae_)(H H':Hp)(h h':Heap):Prop where
 keep:∀b o,ah4->ajQ->b∉fs->b∉ex->h'.get? b=some o
 slot:∀b o,ah4->ajQ->b∈fs->b∉ex->∃sl,h'.get? b=some {o with slots:=sl}
 free:∀b o,ah4->ajQ->b∉ex->H' b=none
 there:∀b o,ah4->b∉ex->∃o',h'.get? b=some o'
 kQ:∀b xs,aD9->H' b=some ajJ
 fY:∀b o u,H b=some aih->H' b=some aih
 kS:∀b ps,H b=some (.JE ps)->∃more,H' b=some (.JE (ps++more))
section
variable {fs Zp ex ex':ae_}{H H1 H2:Hp}{h h1 h2 h':Heap}{a x e:Addr}{o:HO}
def Un.any(u:Un fs ex H H1 h h1)(q:h.get? b=some ob)(n:ajQ)(hx:b∉ex):∃sl,h1.get? b=some {ob with slots:=sl}:=by
 by_cases hb:b∈fs
 .exact u.slot b ob q n hb hx
 .exact⟨ob.slots,u.keep b ob q n hb hx⟩
def Un.kept(k:∀b u,akf->ain):Un fs ex H H h h':=
 ⟨λb ob q _ _ _=>k b ob q,λb ob q _ _ _=>⟨ob.slots,k b ob q⟩,λ_ _ _ n _=>n,λb ob q _=>⟨ob,k b ob q⟩,λ_ _ q=>q,λ_ _ _ q=>q,λ_ ps q=>⟨#[],by rw[q];simp⟩⟩
def Un.refl:Un fs ex H H h h:=Un.kept λ_ _ q=>q
def Un.laid(k:∀b u,akf->ain)(hp:azJ)(hn:H a=none):Un fs ex H ath h h' where
 keep:=λb u q _ _ _=>k b u q
 slot:=λb u q _ _ _=>⟨u.slots,k b u q⟩
 free:=λb u q n _=>by rw[ak (aaN (aaj aDR hp))];exact n
 there:=λb u q _=>⟨u,k b u q⟩
 kQ:=λb xs q=>by rw[ak axk];exact q
 fY:=λb u xs q=>by rw[ak axk];exact q
 kS:=λb ps q=>⟨#[],by rw[ak axk,q];simp⟩
def Un.write(mu:B9 (H x))(he:e=x\/awh)(k:∀b u,b≠e->akf->ain)(JF:∃u,axd):Un fs ex H aCX h h':=by
 have hx:∀b,ajQ->b≠x:=λb n z=>by subst z;rw[n]at mu;exact mu
 have hb:∀b,ajQ->b≠e:=λb n z=>by
  subst z;rcases he with r|r
  .exact hx b n r
  .rw[n]at r;cases r
 have hm:∀b u,apd->¬B9 azU->b≠x:=λb u q nm z=>by subst z;rw[q]at mu;exact nm mu
 refine⟨λb u q n _ _=>k b u (hb b n) q,λb u q n _ _=>⟨u.slots,k b u (hb b n) q⟩,λb u q n _=>by rw[ak (hx b n)];exact n,λb u q _=>?_,
  λb xs q=>by rw[ak (hm b _ q λz=>z)];exact q,λb u xs q=>by rw[ak (hm b _ q λz=>z)];exact q,λb ps q=>⟨#[],by rw[ak (hm b _ q λz=>z),q];simp⟩⟩
 by_cases BV:b=e
 .subst BV;exact JF
 .exact⟨u,k b u BV q⟩
end
noncomputable def Ah(h:Heap)(H:Hp):ae_:=(List.range h.objs.size).filter λa=>(H a).isSome
noncomputable def rB(h:Heap)(H:Hp):Heap:=PySem.W.hideAll h (Ah h H)
def Ai(h:Heap)(H:Hp):(rB h H).objs.size =h.objs.size:=PySem.W.hideAll_size _ _
def B_(e:ah4)(n:ajQ):aCL:=
 PySem.W.hideAll_get _ e λhm=>by
  have q:(H b).isSome =true:=(abE.mp hm).2;rw[n]at q;simp at q
def Gd(e:aCL):ah4/\ajQ:=by
 have e':ah4:=PySem.W.of_hideAll (Ah h H) e;refine⟨e',?_⟩;cases q:H b with
 |none=>rfl
 |some x=>
  have hm:b∈Ah h H:=abE.mpr ⟨abe.mpr (aaA e'),by simp[q]⟩;have z:(rB h H).get? b=none:=PySem.W.hideAll_none (Ah h H) hm;rw[z]at e;cases e
structure Mod(K:ay)(mg:Str->ae6)(base:Heap):Prop where
 SY:K.In base
 glob:base.Ns mainGlobals mg
 blt:∃mb,base.Ns builtinsNs mb/\∀x:Str,x≠"__name__"->mb x=bootBuiltins x
 nolimit:base.NoLimit
structure Cx where
 prog:Program
 w:World
 K:ay
 mg:Str->Option Value
 base:Heap
 A:Around
 N:List Str
 s₀:Shared
 H₀:Hp
 env:Env
 outer:List Env
 stack:List Env
 ex:List Addr
 fn:Str->Bool
 calm:Bool
 pn:List (Addr×Obj)
 xe:Value->ab5->Prop
noncomputable def eG(l:amB):ae_:=l.filterMap (·.frame)
noncomputable abbrev Cx.fs(X:Cx):ae_:=eG X.outer
def vZ(sc:Scope)(x:Str):Prop:=sc.names.lookup x=some .local \/aoP \/sc.names.lookup x=some .free
def Loc(sc:Scope)(x:Str):Prop:=sc.names.lookup x=some .local \/sc.names.lookup x=some .cell
def Look(env:Env)(h:Heap)(m:Str->ae6)(x:Str)(u:Value):Prop:=
 (env.kindOf x=some .local /\m x=some u)\/((env.kindOf x=some .cell \/env.kindOf x=some .free)/\∃c,ap_/\h.IsCell c azU)
structure Cx.Ok(X:Cx):Prop where
 mod:Mod X.K X.mg X.base
 kind:X.env.scope.kind= .function
 glob:X.env.globals=mainGlobals
 blt:X.env.builtins=builtinsNs
 above:X.s₀.heap.objs.size<=X.env.locals
 inj:∀x y c,ab8->X.env.cells.lookup y=some c->x=y
 has:∀x,(az9 \/az8)->∃c,X.env.cells.lookup x=some c
 JG:∀x c,aju->ab8->X.s₀.heap.objs.size<=c
 hd:af6->X.A.handled=none
 frames:X.A.frames=some X.stack
 K6:X.stack=X.outer\/(aCE/\axu)
 Pb:∀b∈X.ex,ajK/\∀x c,ab8->c≠b
 bs:∀b o,amd->ams/\X.H₀ b=none
 xW:X.base.objs.size<=X.s₀.heap.objs.size
 ud:∀b o,amd->b∉X.ex
 wm:∀b∈X.ex,b∉X.fs
 i_:X.s₀.heap.FunFrames X.base X.outer
 Ge:∀b∈X.fs,X.H₀ b=none
structure Inv(X:Cx)(U:aa7)(σ:List aps)(H:Hp)(s:ab5):Prop where
 ok:X.Ok
 os:s.os=X.s₀.os
 bare:AllBare s.gens
 base:Un X.fs X.ex X.H₀ H X.s₀.heap s.heap
 loc:∃m,aAE/\∀(i:Nat) (x:Str) (v:V),X.N[i]?=some x->σ[i]?=some anB->aiK->∃u,amA/\Look X.env s.heap m x u
 cell:∀x c,ab8->∃v,s.heap.IsCell c v
 free:H X.env.locals=none
 c8:∀x c,ab8->H c=none
 pin:∀p∈X.pn++U,aAD/\H p.1=none/\p.1≠X.env.locals/\p.1∉X.fs/\∀v,p.2.data≠ .cell v
 aJ:gC X.prog X.w H s.heap
 len:σ.length=X.N.length
section
variable {X:Cx}{U:aa7}{σ:List aps}{H H':Hp}{s:ab5}{h':Heap}
def Cx.Ok.UE(ok:X.Ok)(e:amd):b∉X.fs:=λhb=>by
 have:=(ok.i_.mem hb).1;rw[e]at this;cases this
theorem Inv.bs(I:aa4):∀b o,amd->ab2/\ajQ:=λb o e=>
 ⟨I.base.keep b o (I.ok.bs b o e).1 (I.ok.bs b o e).2 (I.ok.UE e) (I.ok.ud b o e),I.base.free b o (I.ok.bs b o e).1 (I.ok.bs b o e).2 (I.ok.ud b o e)⟩
def Inv.bk(I:aa4):∀b o,amd->ab2:=λb o e=>(I.bs b o e).1
theorem Inv.mod(I:aa4):Mod X.K X.mg X.base:=I.ok.mod
def Inv.FO(I:aa4):X.K.In s.heap:=I.ok.mod.SY.keeps I.bk
theorem Inv.lt(I:aa4):X.env.locals<s.heap.objs.size:=let ⟨_,hn,_⟩:=I.loc;hn.lt
def Inv.sz(I:aa4):X.s₀.heap.objs.size<=s.heap.objs.size:=aam I.ok.above (aaE I.lt)
def Inv.UG(I:aa4)(h:aFI):a∉X.fs:=λhb=>by
 obtain⟨_,o,ho,_⟩:=I.ok.i_.mem hb;exact absurd (aaj aFh (aam I.sz h)) alW
def Inv.Ca(I:aa4):∀x c,ab8->c≠X.env.locals:=λx c e z=>by
 refine eU (I.cell x c e) λv o ho hd=>?_;obtain⟨m,⟨o',es,ep,xX,jC,_⟩,_⟩:=I.loc;rw[z,xX]at ho;cases ho;rw[jC]at hd;cases hd
theorem Inv.i_(I:aa4):s.heap.FunFrames X.base X.outer:=by
 have all:∀(l:amB),(∀b∈eG l,b∈X.fs)->X.s₀.heap.FunFrames X.base l->s.heap.FunFrames X.base l:=by
  intro l;induction l with
  |nil=>intro _ _;trivial
  |cons env r ih=>
   intro hs hl;obtain⟨hk,⟨L,o,hf,hn,ho,hd⟩,hr⟩:=hl;have hL:L∈X.fs:=hs L (by unfold eG;rw[adD,hf];exact aaq);obtain⟨sl,e⟩:=I.base.slot L o ho (I.ok.Ge L hL) hL λz=>I.ok.wm L z hL;exact⟨hk,⟨L,_,hf,hn,e,hd⟩,ih (λb hb=>hs b (by unfold eG;rw[adD,hf];exact aal _ hb)) hr⟩
 exact all X.outer (λ_ hb=>hb) I.ok.i_
theorem Inv.stack(I:aa4):s.heap.FunFrames X.base X.stack:=by
 rcases I.ok.K6 with e|⟨e,hf⟩
 .rw[e];exact I.i_
 .rw[e];refine aa I.loc λm hn _=> .cons (by rw[I.ok.kind];decide) hf hn ?_ I.i_;exact Heap.get?_none_of_le (aam I.ok.xW I.ok.above)
def Inv.nE(I:aa4):∀b∈eG X.stack,b∈X.env.locals::X.fs:=λb hb=>by
 rcases I.ok.K6 with e|⟨e,hf⟩
 .rw[e]at hb;exact aal _ hb
 .rw[e]at hb;unfold eG at hb;rw[adD,hf]at hb;exact hb
def Inv.jD(I:aa4):∀b∈eG X.stack,ajQ:=λb hb=>by
 rcases aat.mp (I.nE b hb)with e|hb
 .rw[e];exact I.free
 .obtain⟨_,o,ho,_⟩:=I.ok.i_.mem hb;exact I.base.free b o ho (I.ok.Ge b hb) λz=>I.ok.wm b z hb
def Inv.step{g':aAi}{t':Nat}{d':Drawn}{ch:ae_}(I:aa4)
  (FP:∀b∈ch,(b∈X.ex\/amK)/\ajK/\(∀x c,ab8->c≠b)/\∀p∈X.pn++U,p.1≠b)
  (keep:∀b o,ajK->b∉X.fs->b∉ch->ab2->ajQ->ad4)
  (slot:∀b o,ajK->b∈X.fs->b∉ch->ab2->ajQ->∃sl,h'.get? b=some {o with slots:=sl}) (free:∀b o,b∉ch->ab2->ajQ->aol)
  (there:∀b o,b∉ch->ab2->∃o',aqz)
  (kQ:∀b xs,aD9->H' b=some ajJ) (fY:∀b o u,H b=some aih->H' b=some aih) (kS:∀b ps,H b=some (.JE ps)->∃more,H' b=some (.JE (ps++more)))
  (ns:∀m,aAE->h'.Ns X.env.locals m) (aJ:auk) (hg:AllBare g'):
  Inv X U σ H' {s with heap:=h',gens:=g',drawn:=d',toks:=t'}:=by
 have Xz:∀b o,ams->ajK:=λb o e=>aaN aox;have S0:∀b o,ams->b∉X.ex->b∉ch:=λb o e hx hb=>by
  rcases (FP b hb).1 with z|z
  .exact hx z
  .exact absurd (aaj ajO z) alW
 have cellK:∀x c,ab8->∀v,s.heap.IsCell c v->h'.IsCell c v:=λx c e v zz=>by
  refine aa zz λo ho hd=>?_;have Pc:c∉ch:=λz=>(FP c z).2.2.1 x c e rfl;by_cases hc:c∈X.fs
  .obtain⟨sl,q⟩:=slot c o (I.Ca x c e) hc Pc ho avV;exact⟨_,q,hd⟩
  .exact⟨o,keep c o (I.Ca x c e) hc Pc ho avV,hd⟩
 refine⟨I.ok,I.os,hg,⟨λb o e n hb hx=>?_,λb o e n hb hx=>?_,λb o e n hx=>?_,λb o e hx=>?_,λb xs e=>kQ b xs aFo,λb o xs e=>fY b o xs (I.base.fY b o xs e),λb ps e=>?_⟩,?_,λx c e=>?_,?_,λx c e=>?_,λp hp=>?_,aJ,I.len⟩
 .exact keep b o (Xz b o e) hb auA (anG e) amC
 .obtain⟨sl,e1⟩:=I.base.slot b o e n hb hx;obtain⟨Gf,e2⟩:=slot b _ (Xz b o e) hb auA e1 amC;exact⟨Gf,e2⟩
 .obtain⟨o',e1⟩:=I.base.there b o e hx;exact free b o' auA e1 amC
 .obtain⟨o',e1⟩:=I.base.there b o e hx;exact there b o' auA e1
 .obtain⟨m1,e1⟩:=I.base.kS b ps e;obtain⟨m2,e2⟩:=kS b _ e1;exact⟨m1++m2,by rw[e2,Array.append_assoc]⟩
 .refine aa I.loc λm hn hl=>⟨m,ns m hn,λi x v e1 e2 e3=>?_⟩;refine aa (hl i x v e1 e2 e3) λu r l=>⟨u,r,?_⟩;rcases l with l|⟨k,c,e,z⟩
  .exact .inl l
  .exact .inr ⟨k,c,e,cellK x c e _ z⟩
 .obtain⟨v,z⟩:=I.cell x c e;exact⟨v,cellK x c e v z⟩
 .obtain⟨m,⟨o,_,_,ho,_⟩,_⟩:=I.loc;exact free _ o (λz=>(FP _ z).2.1 rfl) ho I.free
 .exact eU (I.cell x c e) λv o ho hd=>free c o (λz=>(FP c z).2.2.1 x c e rfl) ho avV
 .refine OZ (I.pin p hp) λe n ne nf d=>?_;have Pc:p.1∉ch:=λz=>(FP p.1 z).2.2.2 p hp rfl;exact⟨keep p.1 p.2 ne nf Pc e n,free p.1 p.2 Pc e n,ne,nf,d⟩
def Inv.un{t':Nat}(I:aa4)(u:Un X.fs [] H H' s.heap h')(aJ:auk):Inv X U σ H' {s with heap:=h',toks:=t'}:=by
 obtain⟨m,⟨o,es,ep,ho,r⟩,_⟩:=id I.loc;obtain⟨sl,hL⟩:=u.any ho I.free ab1;exact I.step (g':=s.gens) (d':=s.drawn) (ch:=[]) (λ_ z=>nomatch z) (λb o _ hb _ e n=>u.keep b o e n hb ab1) (λb o _ hb _ e n=>u.slot b o e n hb ab1) (λb o _ e n=>u.free b o e n ab1) (λb o _ e=>u.there b o e ab1) u.kQ u.fY u.kS (λm' hm=>by
  refine kP hm λo' wo JH xX r'=>?_;rw[ho]at xX;cases xX;exact⟨_,wo,JH,hL,r'⟩) aJ I.bare
def Inv.call{g':aAi}{t':Nat}{d':Drawn}{ch:ae_}(I:aa4)(u:Un aBt ch H H' s.heap h')(aJ:auk)(hg:AllBare g')
  (FP:∀b∈ch,(b∈X.ex\/amK)/\ajK/\(∀x c,ab8->c≠b)/\∀p∈X.pn++U,p.1≠b):
  Inv X U σ H' {s with heap:=h',gens:=g',drawn:=d',toks:=t'}:=by
 obtain⟨m,⟨o,es,ep,ho,r⟩,_⟩:=id I.loc;obtain⟨sl,hL⟩:=u.any ho I.free λz=>(FP _ z).2.1 rfl;exact I.step (ch:=ch) FP (λb o hL hb hc e n=>u.keep b o e n (λz=>(aat.mp (I.nE b z)).elim hL hb) hc) (λb o _ _ hc e n=>u.any e n hc) (λb o hc e n=>u.free b o e n hc) (λb o hc e=>u.there b o e hc) u.kQ u.fY u.kS (λm' hm=>by
  refine kP hm λo' wo JH xX r'=>?_;rw[ho]at xX;cases xX;exact⟨_,wo,JH,hL,r'⟩) aJ hg
def Inv.turned{t':Nat}{it:Addr}(I:aa4)(k:∀b o,b≠it->ab2->ad4)(hn:H it=none)(hL:it≠X.env.locals)
  (h1:it∈X.ex\/X.s₀.heap.objs.size<=it) (h2:∀x c,ab8->c≠it) (h3:∀p∈X.pn++U,p.1≠it):Inv X U σ H {s with heap:=h',toks:=t'}:=by
 have Pd:∀b u,apd->b≠it:=λb u e z=>by rw[z,hn]at e;cases e
 refine I.step (g':=s.gens) (d':=s.drawn) (ch:=[it]) (λb hb=>?_) (λb o _ _ hc e _=>k b o (λz=>hc (by simp[z])) e) (λb o _ _ hc e _=>⟨o.slots,k b o (λz=>hc (by simp[z])) e⟩) (λ_ _ _ _ n=>n)
  (λb o hc e=>⟨o,k b o (λz=>hc (by simp[z])) e⟩) (λ_ _ e=>e) (λ_ _ _ e=>e) (λb ps e=>⟨#[],by rw[e];simp⟩) (λm hm=>?_) (λb u e=>?_) I.bare
 .have e:b=it:=by simpa using hb
  subst e;exact⟨h1,hL,h2,h3⟩
 .exact kP hm λo es ep ho r=>⟨o,es,ep,k _ o (abF hL) ho,r⟩
 .refine(I.aJ b u e).mG (λc v hc q=>k c v ?_ q) (λ_ q=>q) λ_ _ q=>q;rcases hc with z|z
  .rw[z];exact Pd b u e
  .exact Pd c _ z
def Inv.tok(I:aa4)(t:Nat):Inv X U σ H {s with toks:=t}:=I.un (h':=s.heap) (t':=t) Un.refl I.aJ
theorem Inv.kept(I:aa4)(k:∀b u,atk->ain):Inv X U σ H {s with heap:=h',toks:=t'}:=I.un (Un.kept k) (I.aJ.kept k)
theorem Inv.laid(I:aa4)(k:∀b u,atk->ain)(hp:aFI)(new:aO X.prog X.w ath h' a o):
  Inv X U σ ath {s with heap:=h',toks:=t'}:=I.un (Un.laid k hp (I.aJ.fresh hp)) (I.aJ.laid k hp new)
theorem Inv.write(I:aa4)(mu:B9 (H x))(he:e=x\/awh)(k:∀b u,b≠e->atk->ain)(JF:∃u,axd)
  (new:aO X.prog X.w aCX h' x o):Inv X U σ aCX {s with heap:=h',toks:=t'}:=I.un (Un.write mu he k JF) (I.aJ.write mu he k JF new)
def Inv.weak(I:aa4)(hl:bU.length=σ.length)(w:∀(i:Nat) v,bU[i]?=some anB->σ[i]?=some anB):Inv X U bU H s:=
 ⟨I.ok,I.os,arQ,aA3,let ⟨m,hn,qq⟩:=I.loc;⟨m,hn,λi x v e1 e2 e3=>qq i x v e1 (w i v e2) e3⟩,ayO,atZ,I.c8,I.pin,I.aJ,hl.trans I.len⟩
def Inv.x8(I:aa4)(h:∀p∈Pf,aAD/\H p.1=none/\p.1≠X.env.locals/\p.1∉X.fs/\∀v,p.2.data≠ .cell v):Inv X Pf σ H s:=
 ⟨I.ok,I.os,arQ,aA3,I.loc,ayO,atZ,I.c8,λp hp=>(aaH.mp hp).elim (λz=>I.pin p (axN z)) (h p),I.aJ,I.len⟩
def nF{N:ac_}(hN:N.Nodup){i j:Nat}{x:Str}(a:N[i]?=some x)(b:N[j]?=some x):i=j:=by
 obtain⟨h1,e1⟩:=aax.mp a;obtain⟨h2,e2⟩:=aax.mp b;exact(List.getElem_inj hN).mp (e1.trans e2.symm)
def kT{M:Model}{A:ahp}{E:Value->Shared->Prop}{i:Nat}{x:Str}{v:V}{u:Value}{Q:Unit->Shared->Prop}(I:aa4)(hN:akh)(hi:X.N[i]?=some x)(hx:aiQ)(r:amA)
  (h:∀s',Inv X U asX H s'->(∃a,Heap.SameBut a s.heap s'.heap/\(a=X.env.locals\/X.env.cells.lookup x=some a))->Q () s') (hf:aju\/X.env.scope.names.lookup x=some .local :=by first|exact .inl rfl|exact .inr rfl|assumption):atf:=by
 obtain⟨m,hn,hl⟩:=id I.loc;have UH:(X.env.scope.kind == .class||(X.env.scope.kind == .module&&X.env.locals !=X.env.globals))=false:=by rw[I.ok.kind];rfl
 have Pj:i<σ.length:=by rw[I.len];exact(aax.mp hi).1
 have Ca:=I.Ca;have tracked:∀{a:Addr}{h':Heap},(∃o,aj7/\H a=none)->akj->gC X.prog X.w H h':=λ{a h'} ha hs b ob e=>by
  obtain⟨_,_,JI⟩:=ha;refine(I.aJ b ob e).mG (λc w' hc q=>(hs.2 c ?_).trans q) (λ_ q=>q) λ_ _ q=>q;rintro rfl;rcases hc with rfl|hc
  .rw[JI]at e;cases e
  .rw[JI]at hc;cases hc
 rcases hx with hk|hk
 .refine wpAny_storeName_local hk hn (λh' Pk hs=>?_) UH;obtain⟨oL,_,_,x_,_⟩:=id hn;refine h _ ⟨I.ok,I.os,arQ,⟨λb o e n hb hx=>?_,λb o e n hb hx=>?_,aGH,λb o e hx=>?_,I.base.kQ,I.base.fY,I.base.kS⟩,⟨_,Pk,λj y v' e1 e2 e3=>?_⟩,λy c e=>?_,atZ,I.c8,λp hp=>?_,tracked ⟨oL,x_,atZ⟩ hs,by simpa using I.len⟩ ⟨_,hs,ahq⟩
  .exact(hs.2 b (aaN aox)).trans (anG e)
  .obtain⟨sl,e1⟩:=I.base.slot b o e n hb hx;exact⟨sl,ayT⟩
  .obtain⟨o',e1⟩:=I.base.there b o e hx;exact⟨o',ayT⟩
  .by_cases hj:j=i
   .subst hj;rw[hi]at e1;cases e1;rw[aaR Pj]at e2;cases e2;exact⟨u,r,.inl ⟨hk,by simp⟩⟩
   .rw[aaT (abF hj)]at e2;obtain⟨u',r',q⟩:=hl j y v' e1 e2 e3;refine⟨u',r',?_⟩;rcases q with⟨k,e⟩|⟨k,c,e,z⟩
    .refine .inl ⟨k,?_⟩;have:y≠x:=λe=>hj (nF hN e1 (e▸hi));simp[this,e]
    .exact .inr ⟨k,c,e,aBc⟩
  .obtain⟨w',z⟩:=I.cell y c e;exact⟨w',aBc⟩
  .obtain⟨e,n,ne,nf,d⟩:=I.pin p hp;exact⟨(hs.2 p.1 ne).trans e,n,ne,nf,d⟩
 .have UI:aju:=by
   rcases hf with z|z
   .exact z
   .rw[z]at hk;cases hk
  obtain⟨c,hc⟩:=I.ok.has x (akN hk);obtain⟨w',z⟩:=I.cell x c hc;refine wpAny_storeName_cell I.ok.kind hk hc z (λh' kN hs=>?_);obtain⟨oc,XA,UJ⟩:=id z;refine h {s with heap:=h'} ⟨I.ok,I.os,arQ,⟨λb o e n hb hx=>?_,λb o e n hb hx=>?_,aGH,λb o e hx=>?_,I.base.kQ,I.base.fY,I.base.kS⟩,⟨m,hn.sameBut hs (abF (Ca x c hc)),λj y v' e1 e2 e3=>?_⟩,λy c' e=>?_,atZ,I.c8,λp hp=>?_,tracked ⟨oc,XA,I.c8 x c hc⟩ hs,by simpa using I.len⟩ ⟨c,hs,.inr hc⟩
  .exact(hs.2 b amq).trans (anG e)
  .obtain⟨sl,e1⟩:=I.base.slot b o e n hb hx;exact⟨sl,aEs⟩
  .obtain⟨o',e1⟩:=I.base.there b o e hx;exact⟨o',aEs⟩
  .by_cases hj:j=i
   .subst hj;rw[hi]at e1;cases e1;rw[aaR Pj]at e2;cases e2;exact⟨u,r,.inr ⟨.inl hk,c,hc,kN⟩⟩
   .rw[aaT (abF hj)]at e2;obtain⟨u',r',q⟩:=hl j y v' e1 e2 e3;refine⟨u',r',?_⟩;rcases q with q|⟨k,c',e,z'⟩
    .exact .inl q
    .refine .inr ⟨k,c',e,z'.sameBut hs ?_⟩;rintro rfl;exact hj (nF hN e1 (I.ok.inj _ _ _ e hc▸hi))
  .by_cases XB:c'=c
   .subst XB;exact⟨_,kN⟩
   .obtain⟨w2,z2⟩:=I.cell y c' e;exact⟨w2,z2.sameBut hs XB⟩
  .obtain⟨e,n,ne,nf,d⟩:=I.pin p hp;refine⟨(hs.2 p.1 ?_).trans e,n,ne,nf,d⟩;intro q;rw[q,XA]at e;have q':oc=p.2:=aaQ e;exact d w' (by rw[<-q'];exact UJ)
def ue(I:aa4)(hN:akh)(hi:X.N[i]?=some x)(hx:aiQ)(r:amA)
  (h:∀s',Inv X U asX H s'->Q () s') (hf:aju\/X.env.scope.names.lookup x=some .local :=by first|exact .inl rfl|exact .inr rfl|assumption):atf:=
 kT I hN hi hx r (λs' I' _=>h s' I') hf
def Inv.JJ(I:aa4)(ho:aAG)(u:Un aBt ch H H' s.heap s'.heap)(aJ:aAO)(hg:alP)
  (FP:∀b∈ch,(b∈X.ex\/amK)/\ajK/\(∀x c,ab8->c≠b)/\∀p∈X.pn++U,p.1≠b):ai5:=by
 obtain⟨h',g',d',t',o'⟩:=s';have e:o'=s.os:=ho;subst e;exact I.call (g':=g') (t':=t') (d':=d') u aJ hg FP
end
abbrev XK:=Value->ahQ->Hp->Prop
abbrev St:=List aps
abbrev VK:=V->Hp->Prop
abbrev TE:=St->Hp->VK->Prop
abbrev TT:=St->Hp->(Bool->Hp->Prop)->Prop
abbrev TA:=St->Hp->(ad5->Hp->Prop)->Prop
structure Cb where
 nx:St->Hp->Prop
 rt:VK
 bk:St->Hp->Prop:=λ_ _=>False
 ct:St->Hp->Prop:=λ_ _=>False
abbrev TS:=Cb->St->Hp->Prop
def EP(X:Cx)(U:aa7)(σ:St)(Q:VK)(u:Value)(s':ab5):Prop:=∃v H',ai5/\amA/\Q v H'
def TP(X:Cx)(U:aa7)(σ:St)(Q:Bool->Hp->Prop)(b:Bool)(s':ab5):Prop:=∃H',ai5/\Q b H'
def AP(X:Cx)(U:aa7)(σ:St)(Q:ad5->Hp->Prop)(us:ab0)(s':ab5):Prop:=∃vs H',ai5/\axY/\Q vs H'
def SP(X:Cx)(U:aa7)(D:Cb)(f:Flow)(s':ab5):Prop:=
 match f with
 | .next =>∃bU H',ajL/\D.nx bU H'
 | .brk =>∃bU H',ajL/\D.bk bU H'
 | .cont =>∃bU H',ajL/\D.ct bU H'
 | .ret u=>∃v bU H',ajL/\amA/\D.rt v H'
def PE(X:Cx)(e:Expr)(t:TE):Prop:=
 ∀(U:aa7) (s:ab5) (σ:St) (H:Hp) (Q:VK),aa4->aq7->wpAny aa6 X.A (aky e) aiv X.xe s
def PT(X:Cx)(e:Expr)(t:TT):Prop:=
 ∀(U:aa7) (s:ab5) (σ:St) (H:Hp) (Q:Bool->Hp->Prop),aa4->aq7->wpAny aa6 X.A (isTrue e X.env (aky e)) auy X.xe s
def PW(X:Cx)(e:Expr)(t:TT):Prop:=
 ∀(whole:Sem Value) (U:aa7) (s:ab5) (σ:St) (H:Hp) (Q:Bool->Hp->Prop),aa4->aq7->wpAny aa6 X.A (isTrue e X.env whole) auy X.xe s
def PW.pt(h:PW X e t):PT X e t:=h _
def PA(X:Cx)(es:ahA)(t:TA):Prop:=
 ∀(pos:Pos) (U:aa7) (s:ab5) (σ:St) (H:Hp) (Q:ad5->Hp->Prop),aa4->aq7->wpAny aa6 X.A (spliced (backTo pos ahL)) (AP X U σ Q) X.xe s
def PS(X:Cx)(st:Stmt)(t:TS):Prop:=
 ∀(U:aa7) (s:ab5) (σ:St) (H:Hp) (D:Cb),aa4->t D σ H->wpAny aa6 X.A (exec st X.env) (SP X U D) X.xe s
def jE(X:Cx)(st:alh)(t:TS):Prop:=
 ∀(U:aa7) (s:ab5) (σ:St) (H:Hp) (D:Cb),aa4->t D σ H->wpAny aa6 X.A (execs st X.env) (SP X U D) X.xe s
def bF(h:wpAny M A t Q E s)(hQ:∀a s,Q a s->Q' a s):wpAny M A t Q' E s:=abJ h hQ λ_ _ x=>x
section
variable {X:Cx}
def dn(i:Nat):TE:=λσ H Q=>∃v,σ[i]?=some anB/\Q v H
def tC(v:V):TE:=λ_ H Q=>Q v H
def bz(hN:X.N[i]?=some x)(hv:aiK)(hd:aiC:=by decide)(nG:ana:=by decide):PE X amY (dn i):=by
 intro U s σ H Q I h;refine aa h λv e h=>aa I.loc λm hn hl=>aa (hl i x v hN e hv) λu r l=>?_;have fin:EP X U σ Q u s:=⟨v,H,I,r,h⟩;rcases l with⟨hk,hm⟩|⟨hk,c,hc,ya⟩
 .exact wpAny_Name (wpAny_loadName_local I.ok.kind hk hn hm fin) hd
 .rcases hk with hk|hk
  .exact wpAny_Name (wpAny_loadName_cell I.ok.kind hk hc ya fin) hd
  .exact wpAny_Name (wpAny_loadName_free I.ok.kind hk hc ya fin nG) hd
def K7:PE X (apU ahH) (tC ahH):=λ_ _ _ H _ I h=>wpAny_Constant_int ⟨ahH,H,aki,amE,h⟩
def Pn:PE X (apU (aEw b)) (tC aAm):=λ_ _ _ H _ I h=>Constant_bool ⟨.bl b,H,I,rfl,h⟩
def K8:PE X (apU .none) (tC .cq):=λ_ _ _ H _ I h=>Constant_none ⟨.cq,H,I,rfl,h⟩
def K9:PE X (apU (.str x)) (tC (.str x)):=λ_ _ _ H _ I h=>Calls.Constant_str ⟨.str x,H,aki,amE,h⟩
def Gl(X:Cx)(x:Str):Prop:=X.env.kindOf x=some .globalImplicit
def mX(I:aa4)(hg:awZ)(hm:X.mg x=some u)(h:Q u s)
  (hd:aiC:=by decide):aw5:=
 aef I.ok.kind hg (Calls.loadGlobal_global (by rw[I.ok.glob];exact I.mod.glob.keeps I.bk) hm h) hd
def jc(I:aa4)(hg:awZ)(hm:ayD)(hv:aDz)(h:Q u s)
  (hn:x≠"__name__":=by decide) (hd:aiC:=by decide):aw5:=by
 exact aa I.mod.blt λmb h1 h2=>aef I.ok.kind hg (Calls.loadGlobal_builtin (by rw[I.ok.glob];exact I.mod.glob.keeps I.bk) hm (by rw[I.ok.blt];exact h1.keeps I.bk) ((h2 x hn).trans hv) h) hd
def yb(hg:awZ)(hm:X.mg x=some u)(r:amA)(hd:aiC:=by decide):PE X amY (tC v):=
 λ_ _ _ H _ I h=>mX I hg hm ⟨v,H,I,r,h⟩ hd
def Gg(hg:awZ)(hm:ayD)(hv:aDz)(r:amA)(hn:x≠"__name__":=by decide)(hd:aiC:=by decide):PE X amY (tC v):=
 λ_ _ _ H _ I h=>jc I hg hm hv ⟨v,H,I,r,h⟩ hn hd
variable {a b:Expr}{ta tb:TE}{pos:Pos}
def PC(X:Cx)(op:CmpOp)(a b:Expr)(t:TE):Prop:=
 ∀(U:aa7) (s:ab5) (σ:St) (H:Hp) (Q:VK),aa4->aq7->
  wpAny aa6 X.A (aky a) (λv aZ=>wpAny aa6 X.A (aky b) (λu nH=>wpAny aa6 X.A (compareOp op v u) aiv X.xe nH) X.xe aZ) X.xe s
def tB(t:TE):TT:=λσ H Q=>t σ H λx H1=>∃c,x= .bl c/\Q c H1
def K_(h:PC X op a b t)(h1:ai3:=by first|exact Cc _ aa1 aa1|rfl):PE X aiS t:=λU s σ H Q I hw=>wpAny_Compare1 (aAq I) h1
def K'(h:PC X op a b t)(h1:ai3:=by first|exact Cc _ aa1 aa1|rfl):PT X aiS (tB t):=by
 intro U s σ H Q I hw;refine wpAny_isTrue_Compare1 (bF aoU λv s1 h1=>bF h1 λu s2 h2=>bF h2 λc s3 zz=>ba zz λx H1 I1 r1 q1=>?_) h1;refine aa q1 λd ai q=>?_
 try clear q1
 subst ai;cases r1;exact acA ⟨H1,I1,q⟩
def La(h:PE X e t)(he:∀whole,isTrue e X.env whole=(do let v<-whole;standAt e.pos;holding [v] ay0):=by intro _;rfl):PT X e (tB t):=by
 intro U s σ H Q I hw;refine isTrue_plain (bF aoU λv s1 ⟨x,H1,I1,r1,q1⟩=>?_) (he _);refine aa q1 λd ai q=>?_
 try clear q1
 subst ai;cases r1;exact acA ⟨H1,I1,q⟩
variable {tA S1:TT}{aT:ahA}
def Po(t u:TT):TT:=λσ H Q=>t σ H λc H1=>if c=true then u σ H1 Q else Q false H1
def Zq(t u:TT):TT:=λσ H Q=>t σ H λc H1=>if c=true then Q true H1 else u σ H1 Q
def UK(t:TT):TT:=λσ H Q=>t σ H λc H1=>Q (!c) H1
def Gh(ha:ayJ):PW X (aAx .And) tA:=by
 intro wh U s σ H Q I h;refine isTrue_and (bF (aAp Q) λc s1 e=>?_);cases c with
 |true=>exact isTrue_and_nil e
 |false=>exact e
def Lb(ha:ayJ):PW X (aAx .Or) tA:=by
 intro wh U s σ H Q I h;refine isTrue_or (bF (aAp Q) λc s1 e=>?_);cases c with
 |false=>exact isTrue_or_nil e
 |true=>exact e
def Lc(ha:ayJ)(hb:PW X (apV .And) S1):PW X (aoc .And) (Po tA S1):=by
 intro wh U s σ H Q I h;refine isTrue_and (bF ah0 λc s1 zz=>?_);refine aa zz λH1 I1 q1=>?_;cases c with
 |true=>exact hb wh U s1 σ H1 Q I1 q1
 |false=>exact⟨H1,I1,q1⟩
def Pp(ha:ayJ)(hb:PW X (apV .Or) S1):PW X (aoc .Or) (Zq tA S1):=by
 intro wh U s σ H Q I h;refine isTrue_or (bF ah0 λc s1 zz=>?_);refine aa zz λH1 I1 q1=>?_;cases c with
 |true=>exact⟨H1,I1,q1⟩
 |false=>exact hb wh U s1 σ H1 Q I1 q1
def Ld(ha:ayJ):PT X an5 (UK tA):=by
 intro U s σ H Q I h;exact isTrue_not (aAp (λc H1=>Q (!c) H1))
def Pq(ta tb:TE):TE:=λσ H Q=>ta σ H λx H1=>∃c,x= .bl c/\if c=true then tb σ H1 Q else Q ami H1
def UL(ta tb:TE):TE:=λσ H Q=>ta σ H λx H1=>∃c,x= .bl c/\if c=true then Q ag3 H1 else tb σ H1 Q
def Pu(ta:TE):TE:=λσ H Q=>ta σ H λx H1=>∃c,x= .bl c/\Q (.bl (!c)) H1
def Cd(h:PE X a t):PE X (aAx op) t:=λU s σ H Q I hw=>BoolOp_one (aAq I)
def wq(ha:ane)(hb:PE X (apV .And) tb):PE X (aoc .And) (Pq ta tb):=by
 intro U s σ H Q I h;refine BoolOp_and (bF ah0 λv s1 zz=>?_);obtain⟨x,H1,I1,r1,q1⟩:=zz;obtain⟨c,rfl,q1⟩:=q1;cases r1;refine acA ?_;cases c with
 |true=>exact hb U s1 σ H1 Q I1 q1
 |false=>exact⟨ami,H1,I1,rfl,q1⟩
def Pw(ha:ane)(hb:PE X (apV .Or) tb):PE X (aoc .Or) (UL ta tb):=by
 intro U s σ H Q I h;refine BoolOp_or (bF ah0 λv s1 zz=>?_);obtain⟨x,H1,I1,r1,q1⟩:=zz;obtain⟨c,rfl,q1⟩:=q1;cases r1;refine acA ?_;cases c with
 |false=>exact hb U s1 σ H1 Q I1 q1
 |true=>exact⟨ag3,H1,I1,rfl,q1⟩
def Ce(ha:ane):PE X an5 (Pu ta):=by
 intro U s σ H Q I h;refine UnaryOp_ (bF ah0 λv s1 zz=>?_);obtain⟨x,H1,I1,r1,q1⟩:=zz;obtain⟨c,rfl,q1⟩:=q1;cases r1;exact not_of (acA ⟨.bl (!c),H1,I1,rfl,q1⟩)
end
def cK(K:ay)(H:Hp)(a:Addr)(xs:ad5):Prop:=
 Rd H a ag8\/
  ∃(o:Obj) (its:ae2) (n:Nat),K.lookup a=some o/\o.cls= .type "list"/\aFV/\o.data= .seq its n/\its.size<=sizeLine/\aD xs its.toList/\o.slots=#[]
def cH(K:ay)(H:Hp)(a:Addr)(xs:ad5):Prop:=H a=some ajJ
noncomputable def UM:Value->Option V
 | .none =>some .cq
 | .bool b=>some aAm
 | .int i _=>some ahH
 | .str x _=>some (.str x)
 | .bytes b _=>some (.O9 b)
 | .float b _=>some (.UC b)
 | .ref a=>some ab_
 | .type n=>some (.ty n)
 |_=>none
def RelV.abs(r:avj):UM u=some x:=by
 cases x with
 |cq=>cases r;rfl
 |bl _=>cases r;rfl
 |int _=>obtain⟨t,rfl⟩:=r;rfl
 |str _=>obtain⟨t,rfl⟩:=r;rfl
 |O9 _=>obtain⟨t,rfl⟩:=r;rfl
 |UC _=>obtain⟨t,rfl⟩:=r;rfl
 |ref _=>cases r;rfl
 |ty _=>cases r;rfl
theorem RelV.inj(r:avj)(q:amz):x=y:=aaQ (r.abs.symm.trans q.abs)
theorem aD.inj:∀{xs ys:ad5}{us:ab0},aob->aD ys us->xs=ys:=λ{xs ys us} h=>by
 induction h generalizing ys with
 |nil=>intro h;cases h;rfl
 |cons r t ih=>intro h;cases h with|cons r' t'=>rw[r.inj r',ih t']
section
variable {X:Cx}{U:aa7}{σ:St}{H:Hp}{s:ab5}{a:Addr}{xs ys:ad5}
def cK.of{K:ay}(h:H a=some ag8):anZ:= .inl (akN h)
def cH.of{K:ay}(h:H a=some ajJ):ajW:=h
def Inv.list(I:aa4)(h:aBw):∃its:ab0,aoi/\PlainL s.heap a its.toArray/\aiN:=by
 rcases h with h|⟨o,its,n,hk,hc,hd,hs,hz,r,_⟩
 .obtain⟨z,its,n,r,e⟩:=h.ok I.aJ;exact⟨its,r,⟨_,n,e,rfl,rfl,rfl⟩,z⟩
 .refine⟨its.toList,r,⟨o,n,I.FO a o hk,hc,hd,by simpa using hs⟩,?_⟩;have e:=r.length;simp only[aaK]at e;exact aam (aaw e) hz
def Inv.tuple(I:aa4)(h:aBy):∃its:ab0,aoi/\IsTup s.heap a its.toArray/\aiN:=by
 obtain⟨z,its,r,p⟩:=I.aJ a _ h;exact⟨its,r,p.tup,z⟩
def Inv.Le(I:aa4)(h:aBy):∃its:ab0,aoi/\jB s.heap a its.toArray/\aiN:=by
 obtain⟨z,its,r,p⟩:=I.aJ a _ h;exact⟨its,r,p,z⟩
def Inv.uf(I:aa4)(h:aBw)(h':cK X.K H a ys):xs=ys:=by
 obtain⟨its,r,⟨o,n,e,_,_,d⟩,_⟩:=I.list h;obtain⟨its',r',⟨o',n',e',_,_,d'⟩,_⟩:=I.list h';rw[e]at e';cases e';rw[d]at d';injection d' with d1 _;have:its=its':=by simpa using congrArg Array.toList d1
 subst this;exact r.inj r'
def Inv.kU(I:aa4)(h:aBy)(h':cH X.K H a ys):xs=ys:=by
 obtain⟨its,r,⟨o,e,_,n,d⟩,_⟩:=I.tuple h;obtain⟨its',r',⟨o',e',_,n',d'⟩,_⟩:=I.tuple h';rw[e]at e';cases e';rw[d]at d';injection d' with d1 _;have:its=its':=by simpa using congrArg Array.toList d1
 subst this;exact r.inj r'
end
noncomputable abbrev Cx.mH(X:Cx)(E:Value->ab5->Prop):Cx:={X with xe:=E}
noncomputable abbrev Cx.pZ(X:Cx):Cx:=X.mH λ_ _=>False
theorem Cx.Ok.mH{X:Cx}(ok:X.Ok)(E:Value->ab5->Prop):(X.mH E).Ok :=
 ⟨ok.mod,ok.kind,ok.glob,ok.blt,ok.above,ok.inj,ok.has,ok.JG,ok.hd,ok.frames,ok.K6,ok.Pb,ok.bs,ok.xW,ok.ud,ok.wm,ok.i_,ok.Ge⟩
def Cx.Ok.fg{X:Cx}{E:Value->Shared->Prop}(ok:(X.mH E).Ok):X.Ok:=
 ⟨ok.mod,ok.kind,ok.glob,ok.blt,ok.above,ok.inj,ok.has,ok.JG,ok.hd,ok.frames,ok.K6,ok.Pb,ok.bs,ok.xW,ok.ud,ok.wm,ok.i_,ok.Ge⟩
section
variable {X:Cx}{U:aa7}{σ:St}{H:Hp}{s:ab5}{E:Value->Shared->Prop}
theorem Inv.mH(I:aa4)(E:Value->ab5->Prop):aD4:=⟨I.ok.mH E,I.os,arQ,aA3,I.loc,ayO,atZ,I.c8,I.pin,I.aJ,I.len⟩
theorem Inv.fg(I:aD4):aa4:=⟨I.ok.fg,I.os,arQ,aA3,I.loc,ayO,atZ,I.c8,I.pin,I.aJ,I.len⟩
theorem SP.fg(h:SP (X.mH E) U D f s'):SP X U D f s':=by
 cases f with
 |next=>obtain⟨bU,H',I,q⟩:=h;exact⟨bU,H',I.fg,q⟩
 |brk=>obtain⟨bU,H',I,q⟩:=h;exact⟨bU,H',I.fg,q⟩
 |cont=>obtain⟨bU,H',I,q⟩:=h;exact⟨bU,H',I.fg,q⟩
 |ret u=>obtain⟨v,bU,H',I,r,q⟩:=h;exact⟨v,bU,H',I.fg,r,q⟩
theorem PT.pZ(h:PT X.pZ e t):PT X e t:=λU s σ H Q I hw=>
 abJ (aAq (I.mH _)) (λ_ _ zz=>aa zz λH' I' q=>⟨H',I'.fg,q⟩) λ_ _ z=>False.elim z
theorem jE.pZ{st:alh}{t:TS}(h:jE X.pZ st t):jE X st t:=λU s σ H D I hw=>
 abJ (h U s σ H D (I.mH _) hw) (λ_ _ q=>q.fg) λ_ _ z=>False.elim z
end
section
variable {X:Cx}{st:Stmt}{aT:alh}{t u:TS}{e:Expr}{te:TE}{pos:Pos}
def yc:TS:=λD σ H=>D.nx σ H
def rC(t u:TS):TS:=λD σ H=>t {D with nx:=u D} σ H
def ir:jE X [] yc:=λ_ _ σ H _ I h=>aft ⟨σ,H,I,h⟩
def bA(h1:PS X st t)(h2:jE X aT u):jE X (st::aT) (rC t u):=by
 intro U s σ H D I h;refine wpAny_execs_cons (bF (h1 U s σ H {D with nx:=u D} I h) λf s1 q=>?_);cases f with
 |next=>
  exact eU q λbU H' I' q=>h2 U s1 bU H' D I' q
 |ret v=>exact q
 |brk=>exact q
 |cont=>exact q
def jF(h1:PS X st t):jE X [st] t:=by
 intro U s σ H D I h;refine wpAny_execs_cons (bF (h1 U s σ H D I h) λf s1 q=>?_);cases f with
 |next=>exact aft q
 |ret v=>exact q
 |brk=>exact q
 |cont=>exact q
def Inv.quiet(I:aa4):interactive X.env=false:=by simp[interactive,I.ok.kind]
def nI(te:TE):TS:=λD σ H=>te σ H λ_ H1=>D.nx σ H1
def iu(he:aqO)(hs:swapsWith e none pos.line X.env=pure false:=by rfl):PS X (aHi e) (nI te):=by
 intro U s σ H D I h;exact wpAny_Expr_any (bF amm λv s1 zz=>ba zz λx H1 I1 r1 q1=>⟨σ,H1,I1,q1⟩) I.quiet hs
def UN(te:TE):TS:=λD σ H=>te σ H D.rt
def rD(he:aqO):PS X aCc (UN te):=by
 intro U s σ H D I h;exact wpAny_Return_some (bF amm λv s1 zz=>ba zz λx H1 I1 r1 q1=>⟨x,σ,H1,I1,r1,q1⟩)
def Gi(c:TT)(t u:TS):TS:=λD σ H=>c σ H λb H1=>if b=true then t D σ H1 else u D σ H1
def ug(hc:PT X c tc)(ha:jE X a t)(hb:jE X b u):PS X (.If c a b pos) (Gi tc t u):=by
 intro U s σ H D I h;refine wpAny_If (bF (hc U s σ H _ I h) λd s1 zz=>?_);refine aa zz λH1 I1 q1=>?_;cases d with
 |true=>exact ha U s1 σ H1 D I1 q1
 |false=>exact hb U s1 σ H1 D I1 q1
end
abbrev TG:=V->St->Hp->(St->Hp->Prop)->Prop
abbrev Lf:=List V->St->Hp->(St->Hp->Prop)->Prop
def PG(X:Cx)(target:Expr)(t:TG):Prop:=
 ∀(U:aa7) (s:ab5) (σ:St) (H:Hp) (v:V) (u:Value) (Q:St->Hp->Prop),aa4->amA->t v σ H Q->
  wpAny aa6 X.A (assign target X.env u) (λ_ s'=>∃bU H',ajL/\Q bU H') X.xe s
def Oy(X:Cx)(ts:ahA)(t:Lf):Prop:=
 ∀(U:aa7) (s:ab5) (σ:St) (H:Hp) (vs:ad5) (us:ab0) (Q:St->Hp->Prop),aa4->axY->t vs σ H Q->
  wpAny aa6 X.A (assignInOrder ((assignEach ts X.env).map (·.2)) us) (λ_ s'=>∃bU H',ajL/\Q bU H') X.xe s
abbrev Px:=V->V->V->Hp->(Hp->Prop)->Prop
def Pz(X:Cx)(t:Px):Prop:=
 ∀(U:aa7) (s:ab5) (σ:St) (H:Hp) (o i v:V) (ov iv u:Value) (Q:Hp->Prop),aa4->RelV o ov->RelV i iv->amA->t o i v H Q->
  wpAny aa6 X.A (setItem ov iv u) (λ_ s'=>∃H',ai5/\Q H') X.xe s
section
variable {X:Cx}{pos:Pos}
def cI(i:Nat):TG:=λv σ H Q=>Q asX H
def mY(hN:akh)(hi:X.N[i]?=some x)(hx:aiQ)(hf:aju\/X.env.scope.names.lookup x=some .local :=by first|exact .inl rfl|exact .inr rfl|assumption):PG X amY (cI i):=by
 intro U s σ H v u Q I r h;exact wpAny_assign_Name (ue I hN hi hx r (λs' I'=>⟨_,H,I',h⟩) hf)
def PB:Lf:=λvs σ H Q=>vs=[]/\Q σ H
def JK(t:TG)(u:Lf):Lf:=λvs σ H Q=>∃v r,vs=v::r/\t v σ H λbU H'=>u r bU H' Q
def Gj:Oy X [] PB:=by
 intro U s σ H vs us Q I r h;obtain⟨e,h⟩:=h;subst e;cases r;exact assignInOrder_nil ⟨σ,H,I,h⟩
def Cf(h1:PG X e t)(h2:Oy X es u)
  (hs:(assignEach (e::es) X.env).map (·.2)=assign e X.env::(assignEach es X.env).map (·.2):=by rfl):Oy X (e::es) (JK t u):=by
 intro U s σ H vs us Q I r h;obtain⟨v,vr,e1,h⟩:=h;subst e1;cases r with
 |cons r rr=>
  rw[hs];refine assignInOrder_cons (bF (h1 U s σ H _ _ _ I r h) λ_ s1 zz=>?_);obtain⟨Lg,H1,I1,q1⟩:=zz;exact h2 U s1 Lg H1 _ _ Q I1 rr q1
def UO(K:ay)(n:Nat)(t:Lf):TG:=λv σ H Q=>∃a xs,alb/\ajW/\aFy/\t xs σ H Q
def Lh(hc:af6)(h:Oy X es t)
  (hn:(assignEach es X.env).length =n:=by rfl) (mI:(assignEach es X.env).findIdx? (·.1)=none:=by rfl):PG X avz (UO X.K n t):=by
 intro U s σ H v u Q I r hw;obtain⟨a,xs,e1,hq,hl,hw⟩:=hw;subst e1;cases r;obtain⟨its,rv,ht,hz⟩:=I.tuple hq;refine assign_Tuple_tuple ahx ht (by simp[hn,<-hl,rv.length]) mI λh' hx=>?_;have I1:Inv X U σ H {s with heap:=h'}:=I.kept (t':=s.toks) λb o e=>hx b o ayz e;exact h U _ σ H xs _ Q I1 (by simpa using rv) hw
def UP(to ti:TE)(t:Px):TG:=λv σ H Q=>to σ H λo H1=>ti σ H1 λi H2=>t o i v H2 λH3=>Q σ H3
def Li(ho:ayL)(hi:PE X i ti)(hs:Pz X t)
  (ha:∀v,assign asV X.env v=(do
   let ov<-holding [v] (aky o)
   let iv<-holding [v,ov] (aky i)
   standAt pos
   holding [v,ov,iv] (setItem ov iv v)
   release [v,ov,iv] []):=by intro _;rfl):PG X asV (UP to ti t):=by
 intro U s σ H v u Q I r h;rw[ha];refine aag (abq (bF akS λov s1 zz=>?_));refine ba zz λx H1 I1 r1 q1=>aag (abq (bF azH λiv s2 zz=>?_));refine ba zz λy H2 I2 r2 q2=>aag (afZ (aag (abq (bF (hs U s2 σ H2 x y v ov iv u _ I2 r1 r2 r q2) λ_ s3 zz=>?_))));exact aa zz λH3 I3 q3=>wpAny_release ⟨σ,H3,I3,q3⟩
def p6(te:TE)(g:TG):TS:=λD σ H=>te σ H λx H1=>g x σ H1 D.nx
def Cg(he:aqO)(hg:PG X tg g)(hs:swapsWithSole [tg] e pos.line X.env=pure false:=by rfl)(hw:swappedStores [tg] e X.env=pure none:=by rfl)
  (h1:(assignEach [tg] X.env).map (·.2)=[assign tg X.env]:=by rfl):PS X (asd [tg]) (p6 te g):=by
 intro U s σ H D I h;refine wpAny_Assign_stores (bF amm λv s1 zz=>ba zz λx H1 I1 r1 q1=>?_) hs hw;rw[h1];exact bF (hg U s1 σ H1 x v _ I1 r1 q1) λ_ s2 q=>q
def fZ(hN:akh)(hi:X.N[i]?=some x)(hx:aiQ)(he:aqO)(hs:swapsWith e (aku (.Name x pos')) pos.line X.env=pure false:=by rfl)(hf:aju\/X.env.scope.names.lookup x=some .local :=by first|exact .inl rfl|exact .inr rfl|assumption):
  PS X (asd [.Name x pos']) (p6 te (cI i)):=by
 intro U s σ H D I h;refine wpAny_Assign_Name (bF amm λv s1 zz=>ba zz λy H1 I1 r1 q1=>?_) hs;exact ue I1 hN hi hx r1 (λs2 I2=>⟨_,H1,I2,q1⟩) hf
def Lj(c:TT)(tb:TS):TS:=λD σ H=>∃W:Nat->St->Hp->Prop,(∃m,W m σ H)/\∀m σ H,W m σ H->
 c σ H λb H1=>if b=true then∃N:St->Hp->Prop,(∀bU H',N bU H'->∃m',m'<m/\W m' bU H')/\tb {D with nx:=N,ct:=N,bk:=D.nx} σ H1 else D.nx σ H1
def uh(hp:ajg)(hc:PT X c tc)(hb:jE X body tb):PS X aA7 (Lj tc tb):=by
 intro U s σ H D I h;obtain⟨W,⟨m0,w0⟩,turn⟩:=h;refine wpAny_While (codeAny_whileLoop (λn s'=>∃bU H',ajL/\W n bU H') ?_ m0 ⟨σ,H,I,w0⟩);rintro n s1 ⟨Lg,H1,I1,w1⟩;refine adt hp (bF (hc U s1 Lg H1 _ I1 (turn n Lg H1 w1)) λb s2 zz=>?_);refine aa zz λH2 I2 q2=>?_;cases b with
 |true=>
  refine aa q2 λN hN q2=>?_;rw[aaB rfl];refine adt hp (bF (hb U s2 Lg H2 _ I2 q2) λf s3 q3=>?_);cases f with
  |next=>
   exact eU q3 λAj H3 I3 n3=>aa (hN Aj H3 n3) λm' hm w3=>⟨m',hm,Aj,H3,I3,w3⟩
  |cont=>
   exact eU q3 λAj H3 I3 n3=>aa (hN Aj H3 n3) λm' hm w3=>⟨m',hm,Aj,H3,I3,w3⟩
  |brk=>exact q3
  |ret v=>exact q3
 |false=>
  rw[aaF aan];exact aft ⟨Lg,H2,I2,q2⟩
end
structure It where
 go:Nat->Hp->Prop
 Ci:Nat->Hp->V->Hp->Prop
 stop:Nat->Hp->Prop
def kW(X:Cx)(U:aa7)(H:Hp)(b:Addr):Prop:=
 H b=none/\ajK/\b∉X.fs/\(b∈X.ex\/amK)/\(∀x c,ab8->c≠b)/\∀p∈X.pn++U,p.1≠b
def Inv.ui(I:aa4)(hb:s.heap.objs.size<=b)(hn:aol):aF3:=by
 refine⟨hn,adj (aaj I.lt hb),I.UG hb,.inr (aam I.sz hb),λx c e z=>?_,λp hp z=>?_⟩
 .obtain⟨v,q⟩:=I.cell x c e;exact absurd (aaj q.lt (by rw[z];exact hb)) alW
 .exact absurd (aaj (aaA (I.pin p hp).1) (by rw[z];exact hb)) alW
structure rE(P:ac7)(w:World)(K:ay)(tg:Expr)(J:It)(fp:ae_)(it:Addr)(tn:Nat->Heap->Prop):Prop where
 mem:it∈fp
 obj:∀i h,tn i h->∀b∈fp,∃o,ah4/\∀v,o.data≠ .cell v
 keep:∀i h h',tn i h->(∀b∈fp,∀o,ah4->ad4)->tn i h'
 item:∀(X:Cx),X.prog=P->X.w=w->X.K=K->af6->∀(i:Nat) (U:aa7) (s:ab5) (σ:St) (H:Hp) (E:Value->ab5->Prop),aa4->(∀b∈fp,av6)->aFG->aBY->
  wpAny akp X.A (pyNext ad8) (λr s1=>∃u,r=some u/\
   wpAny akp X.A axT (λ_ s2=>∃x H',Inv X U σ H' s2/\avj/\arp/\tn (i+1) s2.heap/\∀b∈fp,aol) E s1) E s
 done:∀(X:Cx),X.prog=P->X.w=w->X.K=K->af6->∀(i:Nat) (U:aa7) (s:ab5) (σ:St) (H:Hp) (E:Value->ab5->Prop),aa4->(∀b∈fp,av6)->aFG->aA0->
  wpAny akp X.A (pyNext ad8) (λr s1=>r=none/\Inv X U σ H s1) E s
 self:∀(A:ahp) (i:Nat) (s:ab5) (Q:Value->ab5->Prop) (E:Value->ab5->Prop),aFG->Q ad8 s->wpAny akp A (aG5 ad8) Q E s
abbrev TI:=St->Hp->(It->Hp->Prop)->Prop
def XC(X:Cx)(U:aa7)(σ:St)(tg:Expr)(R:It->Hp->Prop)(S3:Value)(s2:ab5):Prop:=
 ∃(it:Addr) (fp:ae_) (tn:Nat->Heap->Prop) (J:It) (H':Hp),S3= .ref it/\Inv X U σ H' s2/\av3/\tn 0 s2.heap/\(∀b∈fp,aF3)/\R J H'
def PI(X:Cx)(tg iter:Expr)(wi:TI):Prop:=
 ∀(U:aa7) (s:ab5) (σ:St) (H:Hp) (R:It->Hp->Prop),aa4->wi σ H R->
  wpAny aa6 X.A (aky iter) (λv s1=>wpAny aa6 X.A (aG5 v) (XC X U σ tg R) X.xe s1) X.xe s
def qr(ho:s.heap.get? it=some o)(hc:o.cls= .type n)(hd:o.data= .fields vs)
  (hn:["enumerate","zip","dict_itemiterator","dict_reverseitemiterator","odict_iterator","itertools.zip_longest","itertools.pairwise"].contains n=false) (hQ:Q () s):wpAny M A axT Q E s:=by
 unfold letOwnedTupleGo;cases tg<;>first
  |exact aao hQ
  |(cases u<;>first
    |exact aao hQ
    |(refine aag (wpAny_load ho ?_);rw[hc,hd];show wpAny M A (if(["enumerate","zip","dict_itemiterator","dict_reverseitemiterator","odict_iterator","itertools.zip_longest","itertools.pairwise"].contains n&&vs[0]? == some (rawInt _))=true then _ else _) Q E s;rw[aaF (by intro h;rw[hn,Bool.false_and]at h;cases h)];exact aao hQ))
noncomputable def UQ(K:ay)(a:Addr):It:=
 ⟨λi H=>∃xs x,anZ/\xs[i]?=some x,λi H x H'=>H'=H/\∀xs,anZ->xs[i]?=some x,λi H=>∃xs,anZ/\xs.length<=i⟩
noncomputable def UR(K:ay)(a:Addr):It:=
 ⟨λi H=>∃xs x,ajW/\xs[i]?=some x,λi H x H'=>H'=H/\∀xs,ajW->xs[i]?=some x,λi H=>∃xs,ajW/\xs.length<=i⟩
noncomputable def S4(lo:Int)(n:Nat):It:=⟨λi _=>i<n,λi H x H'=>H'=H/\x= .int (lo+i),λi _=>n<=i⟩
def Ak{P:ac7}{w:World}{K:ay}{tg:Expr}(a it:Addr):rE P w K tg (UQ K a) [it] it (λi h=>aGe) where
 mem:=by simp
 obj:=λi h st b hb=>by
  have e:b=it:=by simpa using hb
  subst e;exact bH st λo e c d=>⟨o,e,λv z=>by rw[d]at z;cases z⟩
 keep:=λi h h' st k=>st.at λo e=>k it ab1 o e
 item:=by
  intro X hP hw hK hc i U s σ H E I hf st hg;subst hP hw hK;refine eU hg λxs x hq hx=>bH akW λits rv p hz=>aa aC3 λu hu ru=>tT ajN λf0 f1 f2 f3 f4 f5=>adM st p.isList (x:=u) (by simpa using hu) λh' au sb=>?_;have I1:Inv X U σ H {s with heap:=h'}:=I.turned (t':=s.toks) (λb o hb e=>apy) f0 f1 f3 f4 f5;exact bH (id au) λo e c d=>⟨u,rfl,qr (s:={s with heap:=h'}) e c d aa1 ⟨x,H,I1,ru,⟨rfl,λys hy=>by rw[I.uf hy hq];exact hx⟩,au,λb hb=>arx⟩⟩
 done:=by
  intro X hP hw hK hc i U s σ H E I hf st hg;subst hP hw hK;refine aa hg λxs hq hx=>bH akW λits rv p hz=>tT ajN λf0 f1 f2 f3 f4 f5=>?_;have hl:=rv.length;exact aeW ahx st p.isList (by simp;exact aam ajf hx) λh' eb=>⟨rfl,I.turned (t':=s.toks) (λb o hb e=>apm) f0 f1 f3 f4 f5⟩
 self:=λ_ _ _ _ _ st h=>wpAny_pyIter_listiter st h
def wt{P:ac7}{w:World}{K:ay}{tg:Expr}(a it:Addr):rE P w K tg (UR K a) [it] it (λi h=>aEV) where
 mem:=by simp
 obj:=λi h st b hb=>by
  have e:b=it:=by simpa using hb
  subst e;exact bH st λo e c d=>⟨o,e,λv z=>by rw[d]at z;cases z⟩
 keep:=λi h h' st k=>st.at λo e=>k it ab1 o e
 item:=by
  intro X hP hw hK hc i U s σ H E I hf st hg;subst hP hw hK;refine eU hg λxs x hq hx=>bH an1 λits rv p hz=>aa aC3 λu hu ru=>tT ajN λf0 f1 f2 f3 f4 f5=>wpAny_pyNext_tuple_item st (show s.heap.IsTuple a its.toArray from p) (x:=u) (by simpa using hu) λh' au sb=>?_;have I1:Inv X U σ H {s with heap:=h'}:=I.turned (t':=s.toks) (λb o hb e=>apy) f0 f1 f3 f4 f5;exact bH (id au) λo e c d=>⟨u,rfl,qr (s:={s with heap:=h'}) e c d aa1 ⟨x,H,I1,ru,⟨rfl,λys hy=>by rw[I.kU hy hq];exact hx⟩,au,λb hb=>arx⟩⟩
 done:=by
  intro X hP hw hK hc i U s σ H E I hf st hg;subst hP hw hK;refine aa hg λxs hq hx=>bH an1 λits rv p hz=>tT ajN λf0 f1 f2 f3 f4 f5=>?_;have hl:=rv.length;exact wpAny_pyNext_tuple_end ahx st (show s.heap.IsTuple a its.toArray from p) (by simp;exact aam ajf hx) λh' eb=>⟨rfl,I.turned (t':=s.toks) (λb o hb e=>apm) f0 f1 f3 f4 f5⟩
 self:=λ_ _ _ _ _ st h=>wpAny_pyIter_tupleiter st h
def wu{P:ac7}{w:World}{K:ay}{tg:Expr}(it:Addr)(lo:Int)(n:Nat):rE P w K tg (S4 lo n) [it] it (λi h=>IsRangeIter h it (lo+(i:Nat)*1) ((n:Int)-(i:Nat)) 1) where
 mem:=by simp
 obj:=λi h st b hb=>by
  have e:b=it:=by simpa using hb
  subst e;exact⟨_,st,λv z=>by
   have z':Data.fields _=Data.cell v:=z;cases z'⟩
 keep:=λi h h' st k=>k it ab1 _ st
 item:=by
  intro X hP hw hK hc i U s σ H E I hf st hg;subst hP hw hK;refine tT ajN λf0 f1 f2 f3 f4 f5=>?_;have W:=Walks.range (prog:=X.prog) (w:=X.w) ahx it lo 1 n;refine W.item i s _ _ hg st λv h' tk hv au kk=>?_;obtain⟨t,rfl⟩:=hv;have I1:Inv X U σ H {s with heap:=h',toks:=tk}:=I.turned (λb o hb e=>kk b o (by simpa using hb) e) f0 f1 f3 f4 f5;refine⟨_,rfl,qr (s:={s with heap:=h',toks:=tk}) (n:="range_iterator") au rfl rfl aa1 ⟨.int (lo+i),H,I1,⟨t,?_⟩,⟨rfl,rfl⟩,au,λb hb=>arx⟩⟩;rw[Int.mul_one]
 done:=by
  intro X hP hw hK hc i U s σ H E I hf st hg;subst hP hw hK;exact tT ajN λf0 f1 f2 f3 f4 f5=>wpAny_pyNext_range_end ahx st (by have:n<=i:=hg;lia) λh' eb=>⟨rfl,I.turned (t':=s.toks) (λb o hb e=>apm) f0 f1 f3 f4 f5⟩
 self:=λ_ _ _ _ _ st h=>wpAny_pyIter_rangeiter st h
section
variable {X:Cx}{tg:Expr}
def Cj{U:aa7}{σ:St}{H:Hp}{s:ab5}{R:It->Hp->Prop}{E:Value->Shared->Prop}{lo hi:Int}{t u v:Tok}{tk:Nat}(I:aa4)(h1: -(2 ^ 62)<=lo)(h2:lo<2 ^ 62)(h3: -(2 ^ 62)<=hi)(h4:hi<2 ^ 62)
  (q:R (S4 lo (hi-lo).toNat) H):wpAny aa6 X.A (aG5 ab6) (XC X U σ tg R) E {s with heap:=s.heap.push {cls:= .type "range",data:= .fields #[avu,avv,ax2]},toks:=tk}:=by
 refine wpAny_pyIter_range (IsRange.new ..) (small_one h1 h2 h3 h4) ?_;have I1:Inv X U σ H {s with heap:=s.heap.push {cls:= .type "range",data:= .fields #[avu,avv,ax2]},toks:=tk}:=I.kept λb o e=>aah _ e;refine⟨(s.heap.push {cls:= .type "range",data:= .fields #[avu,avv,ax2]}).objs.size,[(s.heap.push {cls:= .type "range",data:= .fields #[avu,avv,ax2]}).objs.size],_,_,H,rfl,
  I1.kept (t':=tk) λb o e=>aiY,wu _ lo (hi-lo).toNat,?_,λb hb=>?_,q⟩
 .have e1:lo+((0:Nat):Int)*1=lo:=by simp
  have e2:(((hi-lo).toNat :Nat):Int)-((0:Nat):Int)=Builtin.Range.rangeSize lo hi 1:=by rw[rangeSize_one];split<;>lia
  show IsRangeIter _ _ (lo+((0:Nat):Int)*1) ((((hi-lo).toNat :Nat):Int)-((0:Nat):Int)) 1;rw[e1,e2];exact aav _ rfl
 .have e:b=(s.heap.push {cls:= .type "range",data:= .fields #[avu,avv,ax2]}).objs.size :=by simpa using hb
  subst e;exact I1.ui ac9 ah9
def PD(ta:TA):TI:=λσ H R=>ta σ H λvs H1=>∃j:Int,vs=[.int j]/\ -(2 ^ 62)<=j/\j<2 ^ 62/\R (S4 0 j.toNat) H1
def An{a:Expr}{ta:TA}{p pos:Pos}(hg:Gl X "range")(hm:X.mg "range"=none)(ha:aGE)(hs:ahJ:=by rfl):PI X tg (alv (.Name "range" p)) (PD ta):=by
 intro U s σ H R I h;refine Call_ (jc I hg hm boot_range (acG (bF ah7 λus s1 zz=>ba zz λvs H1 I1 r1 q1=>?_) hs rfl));obtain⟨j,e,q1,q2,q⟩:=q1;subst e;cases r1 with
 |cons r rr=>
  cases rr;obtain⟨t,rfl⟩:=r;exact call_range_1 (Cj I1 aa1 aa1 q1 q2 (by simpa using q))
def US(wi:TI)(g:TG)(tb:TS):TS:=λD σ H=>wi σ H λJ H1=>∃W:Nat->Nat->St->Hp->Prop,(∃m,W 0 m σ H1)/\∀i m σ H,W i m σ H->
 (aA0/\D.nx σ H)\/(aBY/\∃N:St->Hp->Prop,(∀bU H',N bU H'->∃m',m'<m/\W (i+1) m' bU H')/\∀x H',arp->g x σ H' λBW H2=>tb {D with nx:=N,ct:=N,bk:=D.nx} BW H2)
noncomputable def nJ(fp:ae_)(h:Heap):aa7:=fp.filterMap λb=>(h.get? b).map λo=>(b,o)
def f_(hb:b∈fp)(e:ah4):(b,o)∈nJ fp h:=afD.mpr ⟨b,hb,by rw[e];rfl⟩
def Ao(hp:p∈nJ fp h):p.1∈fp/\h.get? p.1=some p.2:=by
 refine aa (afD.mp hp) λb hb e=>?_;cases q:h.get? b with
 |none=>rw[q]at e;cases e
 |some o=>
  rw[q]at e;have e':(b,o)=p:=aaQ e;subst e';exact⟨hb,q⟩
def Inv.pinned(I:aa4)(hf:∀b∈fp,av6)(ho:∀b∈fp,∃o,ab2/\∀v,o.data≠ .cell v):Inv X (U++nJ fp s.heap) σ H s:=
 I.x8 λp hp=>(aaH.mp hp).elim (λz=>I.pin p (aaJ _ z)) λz=>by
  obtain⟨hb,e⟩:=Ao z;refine BU (hf p.1 hb) λf0 f1 f2 _=>aa (ho p.1 hb) λo e' d=>?_;rw[e]at e';cases e';exact⟨e,f0,f1,f2,d⟩
def Inv.jG(I:Inv X (U++pl) σ H s):aa4:=I.x8 λp hp=>I.pin p (aaJ _ (axN hp))
def Lk(hp:ajg)(hc:af6)(hi:ayK)(hg:PG X tg g)(hb:jE X body tb)
  (hs:∀x,foldedSetIterable iter X.env x=pure x:=by intro _;rfl):PS X (aHh tg) (US wi g tb):=by
 intro U s σ H D I h;refine wpAny_For (bF aoS λv s1 h1=>bF h1 λS3 s2 h2=>?_) hs;obtain⟨it,fp,tn,J,H2,e,I2,T,cP,f2,W,⟨m0,w0⟩,turn⟩:=h2;subst e;have wx:∀{H':Hp},(∀b∈fp,aol)->∀b∈fp,aF3:=λhn b hb=>⟨hn b hb,(f2 b hb).2⟩;refine codeAny_forLoop_any (λn s'=>∃i bU H',ajL/\tn i s'.heap/\(∀b∈fp,aol)/\W i n bU H') ?_ m0 ⟨0,σ,H2,I2,cP,λb hb=>(f2 b hb).1,w0⟩;rintro n s3 ⟨i,Aj,H3,I3,kX,XD,w3⟩;rcases turn i n Aj H3 w3 with⟨stop,qn⟩|⟨go,N,hN,step⟩
 .refine adt hp (bF (T.done X rfl rfl rfl hc i U s3 Aj H3 X.xe I3 (wx XD) kX stop) λr s4 zz=>?_);obtain⟨hr,I4⟩:=zz;subst hr;exact aft ⟨Aj,H3,I4,qn⟩
 .refine adt hp (bF (T.item X rfl rfl rfl hc i U s3 Aj H3 X.xe I3 (wx XD) kX go) λr s4 zz=>?_);refine aa zz λu hr h4=>?_;subst hr;refine adt hp (bF h4 λ_ s5 zz=>?_);refine kM zz λx H5 I5 r5 y5 Ck S5=>?_;have Zr:=I5.pinned (wx S5) (T.obj _ _ Ck);refine adt hp (bF (hg _ s5 Aj H5 x u _ Zr r5 (step x H5 y5)) λ_ s6 zz=>?_);refine eU zz λZt H6 I6 q6=>?_;refine adt hp (bF (hb _ s6 Zt H6 _ I6 q6) λf s7 q7=>?_);have again:∀{Cm:St}{H7:Hp},Inv X (U++nJ fp s5.heap) Cm H7 s7->N Cm H7->∃m,m<n/\∃i bU H',Inv X U bU H' s7/\tn i s7.heap/\(∀b∈fp,aol)/\W i m bU H':=λ{Cm H7} I7 n7=>by
   refine aa (hN Cm H7 n7) λm' hm w7=>⟨m',hm,i+1,Cm,H7,I7.jG,T.keep _ _ _ Ck λb hb o e=>(I7.pin (b,o) amc).1,λb hb=>?_,w7⟩;exact aa (aCi Ck) λo e d=>(I7.pin (b,o) amc).2.1
  cases f with
  |next=>obtain⟨Cm,H7,I7,n7⟩:=q7;exact again I7 n7
  |cont=>obtain⟨Cm,H7,I7,n7⟩:=q7;exact again I7 n7
  |brk=>obtain⟨Cm,H7,I7,q7⟩:=q7;exact⟨Cm,H7,I7.jG,q7⟩
  |ret v=>obtain⟨x7,Cm,H7,I7,r7,q7⟩:=q7;exact⟨x7,Cm,H7,I7.jG,r7,q7⟩
end
abbrev R2:=V->V->Hp->VK->Prop
def ma(X:Cx)(f:Value->Value->Sem Value)(r:R2):Prop:=
 ∀(U:aa7) (s:ab5) (σ:St) (H:Hp) (x y:V) (v u:Value) (Q:VK),aa4->arl->amz->aC5->
  wpAny aa6 X.A (f v u) aiv X.xe s
def UT(X:Cx)(f:Value->Sem Value)(r:V->Hp->VK->Prop):Prop:=
 ∀(U:aa7) (s:ab5) (σ:St) (H:Hp) (x:V) (v:Value) (Q:VK),aa4->arl->r x H Q->
  wpAny aa6 X.A (f v) aiv X.xe s
def cu(X:Cx)(f:Value)(r:ad5->Hp->VK->Prop):Prop:=
 ∀(U:aa7) (s:ab5) (σ:St) (H:Hp) (xs:ad5) (us:ab0) (Q:VK),aa4->aob->r xs H Q->
  wpAny aa6 X.A (call f us) aiv X.xe s
def UU(X:Cx)(r:V->Hp->(Bool->Hp->Prop)->Prop):Prop:=
 ∀(U:aa7) (s:ab5) (σ:St) (H:Hp) (x:V) (v:Value) (Q:Bool->Hp->Prop),aa4->arl->r x H Q->
  wpAny aa6 X.A ay0 auy X.xe s
def JL(r:R2)(ta tb:TE):TE:=λσ H Q=>ta σ H λx H1=>tb σ H1 λy H2=>r x y H2 Q
def Zu(r:V->Hp->VK->Prop)(ta:TE):TE:=λσ H Q=>ta σ H λx H1=>r x H1 Q
def rI(C:Int->Int->Prop)(g:Int->Int->V):R2:=λx y H Q=>∃i j,au1/\y= .int j/\C i j/\Q aqB H
def PF(g:Int->Int->V):R2:=λx y H Q=>∃i j,au1/\y= .int j/\Q aqB H
def rU(g:Int->V):V->Hp->VK->Prop:=λx H Q=>∃i,au1/\Q (g i) H
section
variable {X:Cx}{a b c:Expr}{ta tb tc:TE}{pos:Pos}
def Ll(ha:ane)(hb:avl){U:aa7}{s:ab5}{σ:St}{H:Hp}{R:V->V->Hp->Prop}(I:aa4)
  (h:ta σ H λx H1=>tb σ H1 λy H2=>R x y H2) {Q:Value->Shared->Prop}{f:Value->Value->Sem Value}
  (hf:∀v u s2 x y H2,Inv X U σ H2 s2->arl->amz->R x y H2->wpAny aa6 X.A (f v u) Q X.xe s2):
  wpAny aa6 X.A (aky a) (λv aZ=>wpAny aa6 X.A (aky b) (λu nH=>wpAny aa6 X.A (f v u) Q X.xe nH) X.xe aZ) X.xe s:=by
 exact bF ah0 λv s1 zz=>ba zz λx H1 I1 r1 q1=>bF azI λu s2 zz=>ba zz λy H2 I2 r2 q2=>hf v u s2 x y H2 I2 r1 r2 q2
def uj{op:Operator}{r:R2}(ho:ma X (binaryOp op) r)(ha:ane)(hb:avl):PE X (auY op) ar8:=by
 intro U s σ H Q I h;exact wpAny_BinOp (Ll ha hb I h λv u s2 x y H2 I2 rx ry q=>auO)
def PH(ho:UT X (unaryOp op) r)(ha:ane):PE X (.UnaryOp op a pos) (Zu r ta):=by
 intro U s σ H Q I h;exact UnaryOp_ (bF ah0 λv s1 zz=>ba zz λx H1 I1 r1 q1=>ho U s1 σ H1 x v Q I1 r1 q1)
def UW{f:Value->Value->Sem Value}{C:Int->Int->Prop}{g:Int->Int->Int}
  (rule:∀(i j:Int) (t u:Tok) (s:ab5) (Q:Value->ab5->Prop) (E:Value->ab5->Prop),C i j->Q (avE aqB) {s with toks:=s.toks+1}->akc):
  ma X f (rI C λi j=> .int aqB):=by
 intro U s σ H x y v u Q I rx ry h;refine iq h λi j ai aK hc q=>?_
 try clear h
 subst ai;subst aK;obtain⟨t,rfl⟩:=rx;obtain⟨t',rfl⟩:=ry;exact rule i j t t' s _ _ hc ⟨.int aqB,H,aki,amE,q⟩
def UX{f:Value->Value->Sem Value}{g:Int->Int->Int}
  (rule:∀(i j:Int) (t u:Tok) (s:ab5) (Q:Value->ab5->Prop) (E:Value->ab5->Prop),Q (avE aqB) {s with toks:=s.toks+1}->akc):
  ma X f (PF λi j=> .int aqB):=by
 intro U s σ H x y v u Q I rx ry h;refine ba h λi j ai aK q=>?_
 try clear h
 subst ai;subst aK;obtain⟨t,rfl⟩:=rx;obtain⟨t',rfl⟩:=ry;exact rule i j t t' s _ _ ⟨.int aqB,H,aki,amE,q⟩
def UY{f:Value->Value->Sem Value}{g:Int->Int->Bool}
  (rule:∀(i j:Int) (t u:Tok) (s:ab5) (Q:Value->ab5->Prop) (E:Value->ab5->Prop),Q (aEw aqB) s->akc):
  ma X f (PF λi j=> .bl aqB):=by
 intro U s σ H x y v u Q I rx ry h;refine ba h λi j ai aK q=>?_
 try clear h
 subst ai;subst aK;obtain⟨t,rfl⟩:=rx;obtain⟨t',rfl⟩:=ry;exact rule i j t t' s _ _ ⟨.bl aqB,H,I,rfl,q⟩
def UZ(i j:Int):Prop:=0<j/\j<1073741824
def Gk(i j:Int):Prop:=(-(2 ^ 64)<i/\i<2 ^ 64)\/(-(2 ^ 64)<j/\j<2 ^ 64)
def Gk.ok(h:Gk i j):IntMulOk i j:=by
 rcases h with⟨h1,h2⟩|⟨h1,h2⟩
 .exact .of_left aBo
 .exact .of_right aBo
def Lm:ma X aoV (PF λi j=> .int (i+j)):=UX λ_ _ _ _ _ _ _ q=>add_int q
def Ln:ma X (binaryOp .Mult) (rI Gk λi j=> .int (i*j)):=UW λ_ _ _ _ _ _ _ hc q=>mul_int q hc.ok
def Gm:ma X (binaryOp .FloorDiv) (rI UZ λi j=> .int (i/j)):=UW λi j _ _ _ _ _ hc q=>by
 have h1:(0:Int)<j:=hc.1;have h2:j<1073741824:=hc.2;exact floordiv_int (aeX h1) (by rw[Int.fdiv_eq_ediv_of_nonneg i (aeq h1)];exact q) (akN (PyProof.noPylong_small (by lia)))
def Lo:ma X (binaryOp .Mod) (rI (λ_ j=>0<j) λi j=> .int (i%j)):=UW λi j _ _ _ _ _ hc q=>by
 have h1:(0:Int)<j:=hc;exact mod_int' (aeX hc) (by rw[Int.fmod_eq_emod_of_nonneg i (aeq hc)];exact q)
def Zv{f:Value->Sem Value}{g:Int->Int}
  (rule:∀(i:Int) (t:Tok) (s:ab5) (Q:Value->ab5->Prop) (E:Value->ab5->Prop),Q (avE (g i)) {s with toks:=s.toks+1}->wpAny aa6 X.A (f (arF i)) Q E s):
  UT X f (rU λi=> .int (g i)):=by
 intro U s σ H x v Q I rx h;refine aa h λi ai q=>?_
 try clear h
 subst ai;obtain⟨t,rfl⟩:=rx;exact rule i t s _ _ ⟨.int (g i),H,aki,amE,q⟩
def Lp:UT X (unaryOp .USub) (rU λi=> .int (-i)):=Zv λ_ _ _ _ _ q=>neg_int q
def Lq(I:aa4)(q:Q (.bl k) H)(e:k=k'):EP X U σ Q (aEw k') s:=by
 subst e;exact⟨.bl k,H,I,rfl,q⟩
def PJ:ma X (arB .Lt) (PF λi j=> .bl (aG8 (i<j))):=UY λ_ _ _ _ _ _ _ q=>lt_int q
def Gn:ma X (arB .IsNot) (λx y H Q=>y= .cq /\Q (.bl (!decide (x= .cq))) H):=by
 intro U s σ H x y v u Q I rx ry h;obtain⟨rfl,q⟩:=h;cases ry;refine isnot_none_gen (Lq I q ?_);cases x<;>first
  |(cases rx;rfl)
  |(obtain⟨t,rfl⟩:=rx;rfl)
def ma.or(h:ma X f r)(h':ma X f r'):ma X f (λx y H Q=>aC5\/r' x y H Q):=by
 intro U s σ H x y v u Q I rx ry q;rcases q with q|q
 .exact h U s σ H x y v u Q I rx ry q
 .exact h' U s σ H x y v u Q I rx ry q
def Gp{op:CmpOp}{r:R2}(ho:ayl)(ha:ane)(hb:avl)(hm:ai3):PE X aiS ar8:=by
 intro U s σ H Q I h;exact wpAny_Compare1 (Ll ha hb I h λv u s2 x y H2 I2 rx ry q=>auO) hm
def PK(t:TE):TT:=λσ H Q=>t σ H λx H'=>∃k,x= .bl k/\Q k H'
def Gq(ho:ayl)(ha:ane)(hb:avl)(hm:ai3):PT X aiS (PK ar8):=by
 intro U s σ H Q I h;refine wpAny_isTrue_Compare1 (bF ah0 λv s1 ⟨x,H1,I1,r1,q1⟩=>bF azI λu s2 ⟨y,H2,I2,r2,q2⟩=>
  bF (ho U s2 σ H2 x y v u _ I2 r1 r2 q2) λc s3 ⟨z,H3,I3,r3,k,e,q3⟩=>?_) hm
 subst e;cases r3;exact acA ⟨H3,I3,q3⟩
def Lr(K:ay)(x:V)(H:Hp)(k:Bool):Prop:=
 match x with
 | .cq =>k=false
 | .bl b=>k=b
 | .int i=>k=(i !=0)
 | .str y=>y.length<=sizeLine/\k=((y.length:Int) !=0)
 | .O9 y=>y.size<=sizeLine/\k=((y.size:Int) !=0)
 | .ref p=>(∃xs,aGk/\k=!xs.isEmpty)\/(∃xs,cH K H p xs/\k=!xs.isEmpty)\/∃kvs,aD6/\k=!kvs.isEmpty
 |_=>False
def wy(r:alL):(!vs.isEmpty)=!kvs.isEmpty:=by
 cases r<;>rfl
def nK(r:aoi):(!its.toArray.isEmpty)=!xs.isEmpty:=by
 cases r<;>simp
def nL:(sizeLine:Nat)<2 ^ 63:=by rw[sizeLine_eq];decide
def Ls:UU X (λx H Q=>∃k,Lr X.K x H k/\Q k H):=by
 intro U s σ H x v Q I rx h;obtain⟨k,e,q⟩:=h;have hl:=nL;have hs:sizeLine=16777216:=sizeLine_eq;cases x with
 |cq=>
  cases rx;have e':k=false:=e;subst e';exact truthy_none ⟨H,I,q⟩
 |bl b=>
  cases rx;have e':k=b:=e;subst e';exact acA ⟨H,I,q⟩
 |int i=>
  obtain⟨t,rfl⟩:=rx;have e':k=(i !=0):=e;subst e';exact PySem.P.truthy_int ⟨H,I,q⟩
 |str y=>
  obtain⟨t,rfl⟩:=rx;obtain⟨hy,e'⟩:y.length<=sizeLine/\k=((y.length:Int) !=0):=e;subst e';exact PySem.P.truthy_str (by lia) ⟨H,aki,q⟩
 |O9 y=>
  obtain⟨t,rfl⟩:=rx;obtain⟨hy,e'⟩:y.size<=sizeLine/\k=((y.size:Int) !=0):=e;subst e';exact PySem.W.truthy_bytes (akH hy) ⟨H,aki,q⟩
 |ref p=>
  cases rx;have e':(∃xs,cK X.K H p xs/\k=!xs.isEmpty)\/(∃xs,cH X.K H p xs/\k=!xs.isEmpty)\/∃kvs,aD6/\k=!kvs.isEmpty:=e;rcases e' with⟨xs,hx,e'⟩|⟨xs,hx,e'⟩|⟨kvs,hx,e'⟩
  .subst e';obtain⟨its,r,pl,hz⟩:=I.list hx;have aG:=r.length;exact wpAny_truthy_list pl.isList (by simp only[aay];lia) ⟨H,aki,by rw[nK r];exact q⟩
  .subst e';obtain⟨its,r,pl,hz⟩:=I.tuple hx;have aG:=r.length;exact truthy_tuple pl (by simp only[aay];lia) ⟨H,aki,by rw[nK r];exact q⟩
  .subst e';obtain⟨hz,hS,vs,r,m⟩:kvs.length<=sizeLine/\(p==sysModules)=false/\∃vs,KV kvs vs/\s.heap.DictOf (aW X.prog X.w) p vs:=I.aJ p _ hx;have aG:aEQ:=adC r;exact wpAny_truthy_dict hS m (by lia) ⟨H,aki,by rw[wy r];exact q⟩
 |_=>exact(show False from e).elim
def uk(ha:ane)(he:∀whole,isTrue a X.env whole=(do let v<-whole;standAt a.pos;holding [v] ay0)):
  PT X a (λσ H Q=>ta σ H λx H'=>∃k,Lr X.K x H' k/\Q k H'):=by
 intro U s σ H Q I h;exact isTrue_plain (bF ah0 λv s1 zz=>ba zz λx H1 I1 r1 q1=>Ls U s1 σ H1 x v Q I1 r1 q1) (he _)
def vals1(r:aD [x] us):∃u,us=[u]/\avj:=by
 cases r with
 |cons r1 r2=>cases r2;exact⟨_,rfl,r1⟩
def vals2(r:aD [x,y] us):∃u w',us=[u,w']/\avj/\RelV y w':=by
 cases r with
 |cons r1 r2=>
  cases r2 with
  |cons r3 r4=>cases r4;exact⟨_,_,rfl,r1,r3⟩
end
section
variable {prog:ac7}{w:World}{A:ahp}{E:Value->Shared->Prop}{s:ab5}{K:ay}{x dx C f:Addr}{mA:Str->Option Value}{name:Str}{v:Value}
end
noncomputable def Lu(f:Str)(v:V):avn->List (Str×V)
 |[]=>[(f,v)]
 |(g,x)::r=>if g=f then(g,v)::r else(g,x)::Lu f v r
def pY.some_of(r:pY anB o):∃u,o=some u/\amA:=by
 cases o with
 |none=>exact(show False from r).elim
 |some u=>exact⟨u,rfl,r⟩
section
variable {P:ac7}{w:World}{H H':Hp}{h h':Heap}{a C dx:Addr}{fs Zp:avn}{X:Cx}{U:aa7}{σ:St}{s:ab5}{f:Str}{v:V}{A:ahp}{E:Value->Shared->Prop}
end
section
variable {X:Cx}{o e value:Expr}{f:Str}{pos pos' tpos:Pos}{ta tv:TE}
def Lv:V->V->Hp->VK->Prop:=λx y H Q=>∃i j,au1/\y= .int j/\Q aDG H
end
section
variable {X:Cx}{U:aa7}{σ:St}{H:Hp}{s:ab5}{A:ahp}{E:Value->Shared->Prop}{Q:Value->Shared->Prop}{c:Value}{b:Bool}
end
structure eK(k:Nat)(A:ahp):Prop where
 hd:A.handled=none
 dp:A.depth+3*k+5<recursionLimit
 un:A.units+16*k+200<cLine
def eK.mono(r:eK k A)(h:j<=k):eK j A:=⟨r.hd,by have:=r.dp;lia,by have:=r.un;lia⟩
theorem eK.deeper(r:eK (k+1) A)(env:Env):eK k (aws env):=
 ⟨r.hd,by have:=r.dp;show A.depth+1+3*k+5<_;lia,by have:=r.un;show A.units+3+16*k+200<_;lia⟩
theorem eK.depth(r:eK k A):A.depth<recursionLimit:=by have:=r.dp;lia
theorem eK.units(r:eK k A):A.units+64<cLine:=by have:=r.un;lia
def nM:TA:=λ_ H Q=>Q [] H
def cQ(ta:TE)(tr:TA):TA:=λσ H Q=>ta σ H λx H1=>tr σ H1 λxs H2=>Q (x::xs) H2
section
variable {X:Cx}{e:Expr}{es:ahA}{te:TE}{t:TA}{pos:Pos}
def b_:PA X [] nM:=λ_ _ _ _ H Q I h=>Calls.spliced_nil ⟨[],H,I,.nil,h⟩
def aX(ha:aqO)(hr:aD2)(hs:aa_:=by rfl):PA X (e::es) (cQ te t):=by
 intro pos U s σ H Q I h;rw[hs];show wpAny _ _ (spliced (atF::backTo pos ahL)) _ _ s;refine Calls.spliced_cons (bF ah0 λu s1 zz=>?_);exact ba zz λx H1 I1 r1 q1=>bF (hr pos U s1 σ H1 _ I1 q1) λus s2 zz=>ba zz λxs H2 I2 r2 q2=>⟨x::xs,H2,I2,.cons r1 r2,q2⟩
def U0(t:TA):TE:=λσ H Q=>t σ H λxs H1=>xs.length<=sizeLine/\∀p,alM->Q ahG (upd H1 p ajJ)
def U1(t:TA):TE:=λσ H Q=>t σ H λxs H1=>xs.length<=sizeLine/\∀p,alM->Q ahG (upd H1 p ag8)
def Lw(h:aD2):PE X (.Tuple es x1 pos) (U0 t):=by
 intro U s σ H Q I hq;refine wpAny_Tuple_spliced (bF azK λus s1 ⟨xs,H1,I1,r,z,q⟩=>⟨by rw[<-r.length];exact z,?_⟩);have hf:aAf:=I1.aJ.fresh ac9;refine⟨ar9,upd H1 s1.heap.objs.size ajJ,I1.laid (t':=s1.toks) (λb u e=>aiY) ac9 ?_,rfl,q _ hf⟩;exact⟨z,us,r,aAL⟩
def Cn(h:aD2):PE X (.List es pos) (U1 t):=by
 intro U s σ H Q I hq;refine wpAny_List_spliced (bF azK λus s1 ⟨xs,H1,I1,r,z,q⟩=>⟨by rw[<-r.length];exact z,?_⟩);have hf:aAf:=I1.aJ.fresh ac9;refine⟨ar9,upd H1 s1.heap.objs.size ag8,I1.laid (t':=s1.toks) (λb u e=>aiY) ac9 ?_,rfl,q _ hf⟩;exact⟨z,us,0,r,ag6⟩
end
abbrev Sp:=List V->Hp->VK->XK->Prop
abbrev Ap:=List Env->Hp->ab5->XK->Value->ab5->Prop
structure Gr(P:ac7)(w:World)(K:ay)(mg:Str->ae6)(base:Heap)(A:ahp)(outer:amB)(s:ab5)(H:Hp):Prop where
 frames:A.frames=some outer
 mod:Mod K mg base
 bs:∀b o,base.get? b=some o->ab2/\H b=none
 xW:base.objs.size<=s.heap.objs.size
 i_:s.heap.FunFrames base outer
 Ge:∀b∈eG outer,H b=none
 aJ:gC P w H s.heap
 bare:AllBare s.gens
def CE(outer:amB)(P:ac7)(w:World)(H:Hp)(s:ab5)(Q:VK)(u:Value)(s':ab5):Prop:=
 ∃v H',aAG/\alP/\atV/\gC P w H' s'.heap/\amA/\Q v H'
def CR(CX:Ap)(outer:amB)(P:ac7)(w:World)(H:Hp)(s:ab5)(Q:VK)(E:XK)(r:Result)(s':ab5):Prop:=
 match r with
 | .ok (.ret u)=>CE outer P w H s Q u s'
 | .ok _=>False
 | .error e=>CX outer H s E e s'
structure eL(P:ac7)(w:World)(K:ay)(mg:Str->ae6)(base:Heap)(CX:Ap)(k:Nat)(f:Addr)(fd:aka)(ps:ac_)(sp:Sp):Prop where
 len:∀vs H Q E,aq9->vs.length=ps.length
 run:∀(A:ahp) (outer:amB) (s:ab5) (H:Hp) (args:Args) (us:ab0) (vs:ad5) (Q:VK) (E:XK),eK k A->ax0->BindsTo s fd args atm->axY->aq9->
  codeAny akp A (.call apL args) (CR CX outer P w H s Q E) s
section
variable {X:Cx}{U:aa7}{σ:St}{H:Hp}{s s':ab5}
def Inv.U2(I:aa4):Gr X.prog X.w X.K X.mg X.base X.A X.stack s H:=
 ⟨I.ok.frames,I.ok.mod,I.bs,aam I.ok.xW I.sz,I.stack,I.jD,I.aJ,arQ⟩
def Inv.after(I:aa4)(h:CE X.stack X.prog X.w H s Q u s'):EP X U σ Q u s':=by
 refine Uk h λv H' os bare un aJ r q=>?_;obtain⟨hh,g,d,t,Zw⟩:=s';obtain rfl:Zw=s.os:=os;exact⟨v,H',I.call (h':=hh) (g':=g) (d':=d) (t':=t) (ch:=[]) un aJ bare (λb z=>aDN),r,q⟩
end
def ye(sp:Sp)(JM:ad5)(E:XK)(t:TA):TE:=λσ H Q=>t σ H λvs H1=>sp aEC H1 Q E
def Binds(K:ay)(fd:aka)(ps:ac_)(ds:ab0):Prop:=
 ∀(s:ab5) (us:ab0),aro->(us++ds).length =ps.length->BindsTo s fd ⟨us,[]⟩ (ps.zip (us++ds))
def Binds.all{K:ay}{fd:aka}{ps:ac_}(h:∀us:ab0,aFE->bindArgs fd ⟨us,[]⟩=pure atm):aoE:=λs us _ hl=>by
 rw[abm]at hl⊢;exact .of_eq (h us hl)
def nN(CX:Ap)(X:Cx)(E:XK):Prop:=∀(U:aa7) (σ:St) (H:Hp) (s:ab5) (e:Value) (s':ab5),aa4->CX X.stack H s E e s'->X.xe e s'
section
variable {X:Cx}{CX:Ap}{k:Nat}{f C:Addr}{fd:aka}{ps:ac_}{sp:Sp}{JM:ad5}{ds:ab0}{E:XK}{x m:Str}{p pos jH:Pos}{e o:Expr}{es:ahA}{ta:TE}{t:TA}{ks:ac_}{Zx:Pos}{wz:aoj}{te:TE}{tk:TA}{nm:Option Str}{g:ab0->List Value->List Value}{gV:ad5->List V->List V}
def Co(F:aqD)(hr:aBs)(hb:Binds X.K fd ps ds)(hd:aD JM ds)(hx:nN CX X E)
  (I:aa4) (r:axY) (h:sp aEC H Q E):wpAny aa6 X.A (call apL us) aiv X.xe s:=by
 have r2:aD aEC (us++ds):=r.append hd;have hl:(us++ds).length =ps.length:=by rw[<-r2.length];exact F.len _ _ _ _ h
 refine wpAny_call (aeY (F.run X.A X.stack s H ⟨us,[]⟩ (us++ds) aEC Q E hr I.U2 (hb s us I.FO hl) r2 h) λr s' hq=>?_);cases r with
 |error e=>exact hx U σ H s e s' I hq
 |ok fl=>
  cases fl with
  |ret u=>exact I.after hq
  |next=>exact False.elim hq
  |brk=>exact False.elim hq
  |cont=>exact False.elim hq
def rF(F:aqD)(hr:aBs)(hg:awZ)(hm:X.mg x=some apL)(hk:ayG)(hb:Binds X.K fd ps ds)(hd:aD JM ds)(hx:nN CX X E)
  (ha:amt) (yf:aiC:=by decide) (he:aa_:=by rfl) (dq:(backTo pos ahL).any (·.1)=false:=by rfl):
  PE X aiu (ye sp JM E t):=by
 intro U s σ H Q I h;refine aew (mX I hg hm ?_ yf);refine ahc (h₀:=X.base) I.ok.mod.SY hk (bF ah7 λus s1 zz=>ba zz λvs H1 I1 r q=>⟨I1.FO,?_⟩) he dq;exact Co F hr hb hd hx I1 r q
end
structure dG(N P:ac_)(sc:Scope):Prop where
 kind:sc.kind= .function
 co:sc.isCoroutine=false
 gen:sc.isGenerator=false
 nd:N.Nodup
 pre:N.take P.length=P
 par:∀x∈P,aw8 \/sc.names.lookup x=some .cell
 Lx:∀y∈sc.names,y.2≠ .free
theorem qt{kindOf:Str->Option NameKind}{x:Str}:∀{binds:List (Str×Value)}{m:Str->Option Value},(∀v,(x,v)∉binds)->bindL kindOf binds m x=m x
 |[],_,_=>rfl
 |(n,v)::r,m,h=>by
  unfold bindL;rw[qt λw hw=>h w (akQ hw)];split
  .have:x≠n:=by rintro rfl;exact h v aaq
   simp[this]
  .rfl
theorem qu{kindOf:Str->Option NameKind}{x:Str}:∀{binds:List (Str×Value)}{m:Str->Option Value},(∀v,(x,v)∉binds)->bindC kindOf binds m x=m x
 |[],_,_=>rfl
 |(n,v)::r,m,h=>by
  unfold bindC;rw[qu λw hw=>h w (akQ hw)];split
  .rfl
  .have:x≠n:=by rintro rfl;exact h v aaq
   simp[this]
theorem qv{kindOf:Str->Option NameKind}{x:Str}{v:Value}:∀{P:ac_}{vs:ab0}{i:Nat}{m:Str->Option Value},P.Nodup->P[i]?=some x->vs[i]?=some v->kindOf x=some .local ->
  bindL kindOf (P.zip vs) m x=some v
 |[],_,_,_,_,h,_,_=>by simp at h
 |_::_,[],_,_,_,_,h,_=>by simp at h
 |p::P,w::vs,0,m,nd,h1,h2,hk=>by
  simp at h1 h2;subst h1;subst h2;show bindL kindOf ((p,w)::P.zip vs) m p=_;unfold bindL;rw[qt λv hv=>(abo.mp nd).1 (afu hv).1,aaB hk];simp
 |p::P,w::vs,i+1,m,nd,h1,h2,hk=>by
  show bindL kindOf ((p,w)::P.zip vs) m x=_;unfold bindL;exact qv (i:=i) (abo.mp nd).2 (by simpa using h1) (by simpa using h2) hk
theorem qw{kindOf:Str->Option NameKind}{x:Str}{v:Value}:∀{P:ac_}{vs:ab0}{i:Nat}{m:Str->Option Value},P.Nodup->P[i]?=some x->vs[i]?=some v->kindOf x≠some .local ->
  bindC kindOf (P.zip vs) m x=some v
 |[],_,_,_,_,h,_,_=>by simp at h
 |_::_,[],_,_,_,_,h,_=>by simp at h
 |p::P,w::vs,0,m,nd,h1,h2,hk=>by
  simp at h1 h2;subst h1;subst h2;show bindC kindOf ((p,w)::P.zip vs) m p=_;unfold bindC;rw[qu λv hv=>(abo.mp nd).1 (afu hv).1,aaF hk];simp
 |p::P,w::vs,i+1,m,nd,h1,h2,hk=>by
  show bindC kindOf ((p,w)::P.zip vs) m x=_;unfold bindC;exact qw (i:=i) (abo.mp nd).2 (by simpa using h1) (by simpa using h2) hk
noncomputable def start(N:ac_)(vs:ad5):St:=vs.map some++List.replicate (N.length-vs.length) none
noncomputable def dH(CX:Ap)(P:ac7)(w:World)(K:ay)(mg:Str->ae6)(base:Heap)(N:ac_)(qual:Str)(scope:Scope)(f:Addr)(cd:Value)(A:ahp)(outer:amB)(s:ab5)(H:Hp)(E:XK):Cx where
 prog:=P
 w:=w
 K:=K
 mg:=mg
 base:=base
 A:=A.deeper (akL cd)
 N:=N
 s₀:=s
 H₀:=H
 env:=envOfC qual scope s.heap.objs.size f cd
 outer:=outer
 stack:=envOfC qual scope s.heap.objs.size f cd::outer
 ex:=[]
 calm:=true
 fn:=λ_=>true
 pn:=[]
 xe:=λe s'=>wpAny akp (aws (akL cd)) (leaving (akL cd) e) (λ_ mJ=>CX outer H s E e mJ) (λe' mJ=>CX outer H s E e' mJ) s'
def um{sc:Scope}{n:Nat}{x:Str}(h:aoP):∃c,(cellsFrom n sc.names []).lookup x=some c:=by
 have q:=agp sc.names n [] (akN h);exact adu.mp q
def Aq{CX:Ap}{P:ac7}{w:World}{K:ay}{mg:Str->Option Value}{base:Heap}{N ps:ac_}{qual:Str}{scope:Scope}{f:Addr}{cd:Value}{A:ahp}{outer:amB}{s s1:ab5}{H:Hp}{E:XK}{us:ab0}{vs:ad5}
  (S:dG N ps scope) (hd:af4) (e0:ax0) (hl:at6) (r:axY)
  (x:InCallC s s.heap.objs.size (bindL (envOfC qual scope s.heap.objs.size f cd).kindOf atm λ_=>none) (cellsFrom alS scope.names []) (bindC (envOfC qual scope s.heap.objs.size f cd).kindOf atm λ_=>none) s1):
  Inv (dH CX P w K mg base N qual scope f cd A outer s H E) [] anT H s1:=by
 have dq:ps.length<=N.length:=by have:=congrArg List.length S.pre;rw[aci]at this;lia
 refine eU x.done λh1 tk ai hk=>?_;subst ai;have PL:∀b:Addr,b∉(dH CX P w K mg base N qual scope f cd A outer s H E).ex :=λb z=>absurd (show b∈([]:ae_) from z) ab1;refine⟨⟨e0.mod,S.kind,rfl,rfl,aas _,λy z c h1 h2=>?_,λy hy=>?_,λy c _ h=>?_,λ_=>hd,Around.frames_deeper e0.frames,.inr ⟨rfl,rfl⟩,λb z=>absurd z (PL b),e0.bs,e0.xW,λb _ _=>PL b,λb z=>absurd z (PL b),e0.i_,e0.Ge⟩,
  rfl,e0.bare,Un.kept hk,⟨_,x.toInCall.ns,λi y v h1 h2 h3=>?_⟩,λy c h=>⟨_,x.cell y c h⟩,e0.aJ.fresh ac9,λy c h=>?_,λp hp=>absurd (show p∈([]:aa7) from hp) ab1,e0.aJ.kept hk,?_⟩
 .exact name_of_addr x.apart (abN h1) (abN h2)
 .have hy:scope.names.lookup y=some .cell \/scope.names.lookup y=some .free :=hy;rcases hy with hy|hy
  .exact um hy
  .exact absurd rfl (S.Lx _ (abN hy))
 .exact aaE aBd
 .have hi:aui:=by
   unfold start at h2;by_cases hi:i<vs.length
   .exact hi
   .rw[abC (by simpa using hi),aga]at h2;split at h2<;>cases h2
  have ha:vs[i]?=some v:=by
   unfold start at h2;rw[abr (by simpa using hi),aaC]at h2;cases e:vs[i]? with
   |none=>rw[e]at h2;cases h2
   |some a=>rw[e]at h2;cases h2;rfl
  refine aa (r.get ha) λu hu rv=>?_;have hp:ps[i]?=some y:=by
   rw[<-S.pre,List.getElem?_take_of_lt (aaj hi az3)];exact h1
  have XE:ps.Nodup:=by rw[<-S.pre];exact S.nd.sublist ao1
  refine⟨u,rv,?_⟩;rcases S.par y (abb hp)with k|k
  .exact .inl ⟨k,qv XE hp hu k⟩
  .obtain⟨c,e⟩:=um (n:=s.heap.objs.size+1) k;refine .inr ⟨.inl k,c,e,?_⟩;have q:=x.cell y c e;rw[qw XE hp hu (by show scope.names.lookup y≠_;rw[k];decide)]at q;exact q
 .exact e0.aJ.fresh (aaE aBd)
 .unfold start;show _=N.length;rw[aau,aap,adP];exact abh (aam az3 dq)
def Cp{CX:Ap}{P:ac7}{w:World}{K:ay}{mg:Str->Option Value}{base:Heap}{k:Nat}{f:Addr}{name qual:Str}{params:Arguments}{body:alh}{scope:Scope}{dV kV gJ pm du ct oc:Value}{an od:ahQ}
  {Cq:apw}{N ps:ac_}{sp:Sp} (lk:K.lookup f=some ⟨oc,od,.func amV,Cq⟩) (nG:axw) (S:dG N ps scope)
  (len:∀vs H Q E,aq9->at6)
  (jI:∀(A:ahp) (outer:amB) (s:ab5) (H:Hp) (vs:ad5) (Q:VK) (E:XK),eK k (aws (akL du))->aq9->
   ∃t,jE aja body t/\t {nx:=λ_ H'=>Q .cq H',rt:=Q} anT H):
  eL P w K mg base CX (k+1) f amV ps sp:=by
 refine⟨len,λA outer s H args us vs Q E hr e0 hb r BX=>?_⟩;have hl:=len _ _ _ _ BX;have KX:aro:=e0.mod.SY.keeps λb o e=>(e0.bs b o e).1;have lim:s.heap.NoLimit:=e0.mod.nolimit.keeps λb o e=>(e0.bs b o e).1;have PM:∀y∈ps.zip us,scope.names.lookup y.1=some .local \/(scope.names.lookup y.1=some .cell /\((cellsFrom alS scope.names []).lookup y.1).isSome =true):=λ⟨n,v⟩ hy=>by
  rcases S.par n (afu hy).1 with q|q
  .exact .inl q
  .exact .inr ⟨q,agp _ _ _ (akN q)⟩
 refine codeAny_call_function hr.depth (KX _ _ lk) rfl S.co S.gen rfl (PySem.W.codeRec_of KX nG) (hb _ _ _ _ ?_);refine wpAny_newFunctionEnv_cells S.kind PM λenv he s1 x=>?_;subst he;refine⟨lim.keeps x.toInCall.keep,codeAny_func ?_⟩;refine aa (jI A outer s H vs Q E (hr.deeper _) BX) λt ht hq=>?_;have I:Inv aja [] anT H s1:=Aq S hr.hd e0 hl r x;refine abJ (ht [] s1 anT H _ I hq) (λfl s' hs=>?_) λe s' hs=>hs;have fin:∀{bU:St}{H':Hp}{v:V}{u:Value},Inv aja [] bU H' s'->amA->Q v H'->CE outer P w H s Q u s':=
  λ{bU H' v u} J rv q=>⟨v,H',J.os,J.bare,J.base,J.aJ,rv,q⟩
 cases fl with
 |ret u=>
  exact cx hs λv bU H' J rv q=>fin J rv q
 |next=>
  exact eU hs λbU H' J q=>fin (v:=V.cq) (u:=Value.none) J rfl q
 |brk=>
  exact eU hs λ_ _ _ q=>False.elim q
 |cont=>
  exact eU hs λ_ _ _ q=>False.elim q
section
variable {X:Cx}{x:Str}{p pos:Pos}{e:Expr}{es:ahA}{t:TA}{id T:apr}{r:ad5->Hp->VK->Prop}
def U3(r:ad5->Hp->VK->Prop)(t:TA):TE:=λσ H Q=>t σ H λvs H1=>r vs H1 Q
def c9(hc:cu X akY r)(hg:awZ)(hm:ayD)(hv:bootBuiltins x=some akY)(ha:amt)(hn:x≠"__name__":=by decide)(yf:aiC:=by decide)
  (he:aa_:=by rfl) (dq:(backTo pos ahL).any (·.1)=false:=by rfl):PE X aiu (U3 r t):=by
 intro U s σ H Q I h;refine aew (jc I hg hm hv ?_ hn yf);exact PyProof.Rows.callWith_builtin1 (bF ah7 λus s1 zz=>ba zz λvs H1 I1 r1 q1=>awC) he dq
def dO(hc:cu X aB6 r)(hg:awZ)(hm:ayD)(hv:bootBuiltins x=some aB6)(ha:amt)(hn:x≠"__name__":=by decide)(yf:aiC:=by decide)
  (he:aa_:=by rfl) (dq:(backTo pos ahL).any (·.1)=false:=by rfl):PE X aiu (U3 r t):=by
 intro U s σ H Q I h;refine aew (jc I hg hm hv ?_ hn yf);exact acG (bF ah7 λus s1 zz=>ba zz λvs H1 I1 r1 q1=>awC) he dq
end
end L2
namespace HT
open PySem PyProof.Rows
noncomputable def lexLt:aa0->aa0->Bool
 |[],[]=>false
 |[],_::_=>true
 |_::_,[]=>false
 |x::xs,y::ys=>if x=y then lexLt xs ys else decide (x<y)
def wA(x y:Int)(xs ys:aa0):lexLt (x::xs) (y::ys)=if x=y then lexLt xs ys else decide (x<y):=rfl
def p7:lexLt [] []=false:=rfl
def nP(y:Int)(ys:aa0):lexLt [] (y::ys)=true:=rfl
def nQ(x:Int)(xs:aa0):lexLt (x::xs) []=false:=rfl
def Cr(A:ahp)(s:ab5)(a:Int)(t:Tok)(c:Int)(u:Tok):∃e,SeqAt.EqAt A s (arF a) aGT e/\(e=true↔a=c):=
 ⟨(a==c),SeqAt.EqAt.int_int a t c u,by simp⟩
def Cu(A:ahp)(s:ab5)(a:Int)(t:Tok)(c:Int)(u:Tok)(prog:ac7)(w:World)(E:Value->ab5->Prop)(Q:Value->ab5->Prop)(h:Q (aEw (aG8 (a<c))) s):
  wpAny aa2 A (richCompare .Lt (arF a) aGT) Q E s:=
 (agV h:wpAny aa2 A (compareOp .Lt (arF a) aGT) Q E s)
section
open PySem.SeqAt
open PySem.AutoSeq1 (wpAny_loadPart')
open PySem.MeetsSeq PySem.MeetsSeq2 PySem.MeetsSeq3
def p8(l b:Addr)(items items2:ae2)(n n2:Nat)(dd JN:ahQ)(sl JO:apw)(ns ms:aa0)(hi:anh)(hj:aA2):
  Meets (Builtin.«tuple.__lt__» ⟨[aic,ajV],[]⟩)
   (λ_ R s=>s.heap.get? l=some {cls:= .type "tuple",dict:=dd,data:= .seq items n,slots:=sl}/\s.heap.get? b=some {cls:= .type "tuple",dict:=JN,data:= .seq items2 n2,slots:=JO}/\
    R (.ok (ak6 asa)) s):=
 .of_wp λprog w A R s h=>by
  obtain⟨hp,g,d,tk,os⟩:=s;obtain⟨hl,hb,h⟩:=h;have f2:=AutoSeq1.sub_tuple_tuple;have z1:items.size=ns.length:=by rw[<-hi.length];simp
  have z2:items2.size=ms.length:=by rw[<-hj.length];simp
  wp_walk using acS hl,acS hb,agi _ (λaT b s'=>b.1=none/\s'=⟨hp,g,d,tk,os⟩/\∃(vs ws:ab0) (nR Oz:aa0),aT=vs.zip ws/\
   IntsAre vs nR/\IntsAre ws Oz/\nR.length+items2.size=Oz.length+items.size/\R (.ok (ak6 (aEw (lexLt nR Oz)))) ⟨hp,g,d,tk,os⟩) _
  case turn=>
   rintro⟨y,x⟩ aT b s' ⟨jd,rfl,vs,ws,nR,Oz,hz,U4,S6,aG,hR⟩;cases U4 with
   |nil=>rw[List.zip_nil_left]at hz;cases hz
   |cons a t U5=>
    cases S6 with
    |nil=>rw[ahd]at hz;cases hz
    |cons c u U6=>
     rw[aex]at hz;injection hz with PN PQ;injection PN with hy hx;subst hy hx;rw[wA]at hR;simp only[aaL]at aG;obtain⟨e,he,PU⟩:=Cr A.in1 ⟨hp,g,d,tk,os⟩ a t c u;refine aag (he prog w _ _ ?_);cases e with
     |true=>
      rw[aaB (PU.mp rfl)]at hR;wp_walk;exact⟨rfl,rfl,_,_,_,_,PQ,U5,U6,by lia,hR⟩
     |false=>
      rw[aaF (λq=>absurd (PU.mpr q) aan)]at hR;have Zy:=Cu A.in1 ⟨hp,g,d,tk,os⟩ a t c u prog w;wp_walk using Zy;exact⟨_,rfl,by simpa using hR⟩
  case fin=>
   rintro⟨b1,b2⟩ s' ⟨jd,rfl,vs,ws,nR,Oz,hz,U4,S6,aG,hR⟩;simp only at jd;subst jd;have hv:lexLt nR Oz=decide (items.size<items2.size):=by
    cases U4 with
    |nil=>
     cases S6 with
     |nil=>
      simp only[adv]at aG;rw[p7];exact(decide_eq_false (adh (aaw (agU aG)))).symm
     |cons c u hw=>
      simp only[adv,aaL]at aG;rw[nP];exact(decide_eq_true (by lia)).symm
    |cons a t hv=>
     cases S6 with
     |nil=>
      simp only[adv,aaL]at aG;rw[nQ];exact(decide_eq_false (by lia)).symm
     |cons c u hw=>
      rw[aex]at hz;cases hz
   rw[hv]at hR;wp_walk;exact⟨_,rfl,by simpa[Builtin.Tuple.tupleCompareSizes]using hR⟩
  case h=>
   exact⟨rfl,rfl,aDe,items2.toList,ns,ms,rfl,hi,hj,by lia,h⟩
end
section
variable {prog:ac7}{w:World}{A:ahp}{E:Value->Shared->Prop}{s:ab5}
def wB(hl:atD)(hb:IsTup s.heap b items2)(hi:anh)(hj:aA2)
  (hu:aB5) (h:Q asa s):wpAny aa2 A (compareOp .Lt aic ajV) Q E s:=by
 obtain⟨⟨cls,dd,data,sl⟩,ho,hc,n,hd⟩:=id hl;obtain⟨⟨U7,JN,data2,JO⟩,FQ,JP,n2,nT⟩:=id hb;simp only at hc hd JP nT;subst hc hd JP nT;exact richCompare_meets_room (op:= .Lt) ⟨_,ho,rfl⟩ ⟨_,FQ,rfl⟩ PySem.F.slot_tuple_lt PySem.F.entry_tuple_lt (PySem.F.args_tuple_lt_2 _ _) (p8 l b items items2 n n2 dd JN sl JO ns ms hi hj)
  ⟨ho,FQ,show Value.bool (lexLt ns ms)≠Value.notImplemented/\Q asa s from⟨(λx=>nomatch x),h⟩⟩ hu
def Gs(ht:IsTup s.heap t vs.toArray)(hb:IsTup s.heap b ws.toArray)(hv:vs≠[])
  (h1:ws=[]->Q apK s) (h2:ws≠[]->Q ab6 {s with heap:=s.heap.push {cls:= .type "tuple",data:= .seq (vs++ws).toArray}})
  (hsz:vs.length+ws.length<=sizeLine):wpAny aa2 A (binaryOp .Add apK ajV) Q E s:=by
 obtain⟨⟨cls,dd,data,sl⟩,ho,hc,n,hd⟩:=id ht;obtain⟨⟨U7,JN,data2,JO⟩,FQ,JP,n2,nT⟩:=id hb;simp only at hc hd JP nT;subst hc hd JP nT;have e:vs.toArray++ws.toArray=(vs++ws).toArray :=by simp
 by_cases hw:ws=[]
 .exact concat_meets ⟨_,ho,rfl⟩ ⟨_,FQ,rfl⟩ noFill_tuple_add seq_tuple_add aeJ aey (aer _ _)
   (tuple_addW1 t b vs.toArray ws.toArray n n2 dd JN sl JO (by simpa using hv) (by simp[hw])) ⟨ho,FQ,h1 hw⟩
 .refine concat_meets ⟨_,ho,rfl⟩ ⟨_,FQ,rfl⟩ noFill_tuple_add seq_tuple_add aeJ aey (aer _ _)
   (tuple_addW2 t b vs.toArray ws.toArray n n2 dd JN sl JO (by simpa using hv) (by simpa using hw) (by rw[aay,aay];exact hsz)) ⟨ho,FQ,?_⟩
  rw[e];exact h2 hw
noncomputable def cC(n d:Nat):ag5->Nat
 |none=>d
 |some v=>if v<0 then(v+(n:Int)).toNat else min v.toNat n
def Ly(n d:Nat)(hd:d<=n)(o:ag5):cC n d o<=n:=by
 cases o with
 |none=>exact hd
 |some v=>
  show(if v<0 then(v+(n:Int)).toNat else min v.toNat n)<=n;by_cases hv:v<0
  .rw[aaB hv];lia
  .rw[aaF hv];exact Nat.min_le_right _ _
def rG(v:Int)(n d:Nat):(if v<0 then max (v+(n:Int)) 0 else min v (n:Int))=((cC n d anB:Nat):Int):=by
 show(if v<0 then max (v+(n:Int)) 0 else min v (n:Int))=(((if v<0 then(v+(n:Int)).toNat else min v.toNat n):Nat):Int);by_cases hv:v<0
 .simp only[aaB hv];lia
 .simp only[aaF hv];lia
def wC(lo hi:ag5)(n:Nat):Builtin.Slice.sliceAdjust lo hi 1 (n:Int)=(((cC n 0 lo:Nat):Int),((cC n n hi:Nat):Int)):=by
 have h1:¬((1:Int)<0):=aa1;unfold Builtin.Slice.sliceAdjust;simp only[h1,if_false];refine Prod.ext ?_ ?_
 .cases lo with
  |none=>rfl
  |some v=>exact rG v n 0
 .cases hi with
  |none=>rfl
  |some v=>exact rG v n n
def wD(i j:Nat):Builtin.Slice.slicePlaces (i:Int) (j:Int) 1=j-i:=by
 unfold Builtin.Slice.slicePlaces;have h1:(1:Int)>0:=aa1;simp only[h1,if_true,Int.ediv_one];split<;>lia
def nU(p:IsPart v o)(h:Q o s):wpAny aa2 A (Builtin.Slice.slicePartIndex v) Q E s:=by
 cases p with
 |none=>exact slicePart_none h
 |int i t=>exact slicePart_int h
def fC{sl:Addr}{vl vu:Value}{lo hi:ag5}{n:Nat}{Q:Int×Int×Nat->Shared->Prop}(hs:akd)(pl:awW)(pu:awV)
  (h:Q (((cC n 0 lo:Nat):Int),1,cC n n hi-cC n 0 lo) s):wpAny aa2 A (Builtin.Slice.sliceApplied aE6 (pure (n:Int))) Q E s:=by
 refine bH (id hs) λos As qx PV=>?_;unfold Builtin.Slice.sliceApplied Builtin.Slice.sliceFields;refine aag (aag (ace As PV (x:=vl) rfl (aag (ace As PV (x:=vu) rfl (aag (ace As PV (x:= .none) rfl (aao ?_)))))));refine aag (slicePart_none ?_);show wpAny _ _ (if((1:Int)==0)=true then _ else _) _ _ s;rw[aaF aa1];refine aag (nU pl (aag (nU pu (aag (aao ?_)))));show wpAny _ _ (match Builtin.Slice.sliceAdjust lo hi 1 (n:Int)with|(lo,hi)=>pure (lo,(1:Int),Builtin.Slice.slicePlaces lo hi 1)) _ _ s;rw[wC lo hi n];show wpAny _ _ (pure (((cC n 0 lo:Nat):Int),(1:Int),Builtin.Slice.slicePlaces ((cC n 0 lo:Nat):Int) ((cC n n hi:Nat):Int) 1)) _ _ s;rw[wD];exact aao h
def Cv(xs:ae2)(i k:Nat):((List.range k).filterMap λ(m:Nat)=>xs[((i:Int)+(m:Int)*1).toNat]?).toArray =((xs.toList.drop i).take k).toArray :=by
 have e:(λ(m:Nat)=>xs[((i:Int)+(m:Int)*1).toNat]?)=λm=>xs[i+m]?:=by
  funext m;have:((i:Int)+(m:Int)*1).toNat =i+m:=by lia
  rw[this]
 rw[e];have:=pick_run xs i k;rw[List.filterMap_map]at this;have e2:((λx=>xs[x]?) ∘ λx=>i+x)=λm=>xs[i+m]?:=rfl;rw[e2]at this;rw[this]
def jJ{t sl:Addr}{items:ae2}{vl vu:Value}{lo hi:ag5}{Q:Value->Shared->Prop}(ht:atB)(hs:akd)(pl:awW)(pu:awV)
  (hw:¬(aE0/\as4))
  (h:Q ab6 {s with heap:=s.heap.push {cls:= .type "tuple",data:= .seq ((items.toList.drop asA).take ajH).toArray}})
  (hsz:items.size<=sizeLine):asf:=by
 have yg:sizeOk (.seq ((items.toList.drop asA).take ajH).toArray):=by
  show((items.toList.drop asA).take ajH).toArray.size <=sizeLine;rw[aay,aci,adH,aaK];lia
 have hj:cC items.size items.size hi<=items.size:=Ly _ _ ac9 hi;refine bH (id hs) λos As qx PV=>?_;have U8:s.TypeIs aE6 "slice":=⟨os,As,qx⟩;unfold getItem
 try with_reducible refine abq ?_
 first|refine aag (aao ?_)|skip
 refine aag (wpAny_sequenceKey ht.typeIs aa1 ?_);refine aag (abG (name:=Str.ofString "__getitem__") ht.typeIs abT
  (abt abT ht.typeIs entry_tuple_getitem ?_ azg))
 show wpAny _ _ (Builtin.Tuple.tupleItemsOf apK >>= _) _ _ s;refine aag (tupleItemsOf_ ht ?_);refine aag (adQ U8 ?_);rw[aaB aa1];refine aag (fC hs pl pu ?_);have yh:¬(ad0=true):=by
  intro q;rw[aak,aak]at q;have q1:((cC items.size 0 lo:Nat):Int)=0:=eq_of_beq q.1.1;have q2:cC items.size items.size hi-cC items.size 0 lo=items.size:=eq_of_beq q.2;exact hw ⟨by lia,by lia⟩
 show wpAny _ _ (if ad0=true then _ else _) _ _ s;rw[aaF yh,Cv]
 first
  |exact aag (m:=Builtin.Tuple.tupleExact _) (abf akT yg)
  |exact aag (m:=Builtin.Tuple.tupleExact _) (abf (aag (aao akT)) yg)
  |exact aag (aag (m:=Builtin.Tuple.tupleExact _) (abf (aao akT) yg))
  |exact aag (aag (m:=Builtin.Tuple.tupleExact _) (abf akT yg))
end
end HT
namespace L2
open PySem PySem.Spec PyProof.Rows
abbrev TO:=St->Hp->(ag5->Hp->Prop)->Prop
def PO(X:Cx)(e:aqP)(t:TO):Prop:=
 ∀(U:aa7) (s:ab5) (σ:St) (H:Hp) (Q:ag5->Hp->Prop),aa4->aq7->
  wpAny aa6 X.A (evalPart e X.env) (λu s'=>∃o H',ai5/\IsPart u o/\Q o H') X.xe s
def Gu:TO:=λ_ H Q=>Q none H
def PX(t:TE):TO:=λσ H Q=>t σ H λx H1=>∃i,au1/\Q aqI H1
def intsAre_of:∀{us:ab0},aD aiO us->IntsAre us ns:=by
 induction ns with
 |nil=>intro us r;rw[ahm]at r;cases r;exact .nil
 |cons n ns ih=>
  intro us r;rw[aaX]at r;cases r with
  |cons r1 r2=>
   obtain⟨t,e⟩:=r1;subst e;exact .cons n t (ih r2)
section
variable {X:Cx}{e:Expr}{te:TE}{lo hi:aqP}{tl th:TO}{pos p2:Pos}
def Gv:PO X none Gu:=by
 intro U s σ H Q I h;rw[evalPart_none];exact aao ⟨none,H,I,.none,h⟩
def Gw(h:aqO):PO X (aku e) (PX te):=by
 intro U s σ H Q I hw;rw[evalPart_some];refine bF aoU λu s1 zz=>ba zz λx H1 I1 r1 q1=>aa q1 λi ai q=>?_
 try clear q1
 subst ai;obtain⟨t,rfl⟩:=r1;exact⟨some i,H1,I1,.int i t,q⟩
def FR(X:Cx)(r:V->ag5->ag5->Hp->VK->Prop):Prop:=
 ∀(U:aa7) (s:ab5) (σ:St) (H:Hp) (x:V) (v vl vu:Value) (lo hi:ag5) (sl:Addr) (Q:VK),aa4->arl->akd ->awW->awV->r x lo hi H Q->
  ∃T id,typeLookup aB6 "__getitem__"=pure (aku akY)/\s.TypeIs v T/\wpAny aa6 X.A (getItem v aE6) aiv X.xe s
def FR.or(h:FR X r)(h':FR X r'):FR X (λx lo hi H Q=>r x lo hi H Q\/r' x lo hi H Q):=by
 intro U s σ H x v vl vu lo hi sl Q I rx hs pl pu q;rcases q with q|q
 .exact h U s σ H x v vl vu lo hi sl Q I rx hs pl pu q
 .exact h' U s σ H x v vl vu lo hi sl Q I rx hs pl pu q
def Zz(r:V->ag5->ag5->Hp->VK->Prop)(te:TE)(tl th:TO):TE:=λσ H Q=>te σ H λx H1=>tl σ H1 λl H2=>th σ H2 λu H3=>r x l u H3 Q
def uo(hr:FR X r)(he:aqO)(hl:PO X lo tl)(hu:PO X hi th):PE X (amy e) (Zz r te tl th):=by
 intro U s σ H Q I h;refine Subscript_ (bF amm λv s1 zz=>?_);refine ba zz λx H1 I1 r1 q1=>wpAny_Slice (bF (hl U s1 σ H1 _ I1 q1) λvl s2 zz=>ba zz λl H2 I2 pl q2=>bF (hu U s2 σ H2 _ I2 q2) λvu s3 zz=>?_);refine ba zz λu H3 I3 pu q3=>?_;rw[evalPart_none];refine aao ?_;have I4:Inv X U σ H3 {s3 with heap:=s3.heap.push {cls:= .type "slice",data:= .fields #[vl,vu,.none]}}:=I3.kept (t':=s3.toks) λb ob q=>aah _ q;refine ba (hr U {s3 with heap:=s3.heap.push {cls:= .type "slice",data:= .fields #[vl,vu,.none]}} σ H3 x v vl vu l u s3.heap.objs.size Q I4 r1 (Heap.IsSliceOf.new ..) pl pu q3) λT id hT ht hg=>?_;show wpAny aa6 X.A (subscriptTail e (.Slice lo hi none p2) v (akE s3.heap.objs.size)) aiv X.xe {s3 with heap:=s3.heap.push {cls:= .type "slice",data:= .fields #[vl,vu,.none]}};exact tail_any (ops:=[.ref s3.heap.objs.size,v]) ht hT hg (by with_unfolding_all rfl)
noncomputable def uq(xs:ad5)(lo hi:ag5):ad5:=(xs.drop ars).take ajo
def md(xs:ad5)(lo hi:ag5):(uq xs lo hi).length <=xs.length:=by
 unfold uq;rw[aci,adH];exact aam (Nat.min_le_right _ _) ar6
def PY(K:ay):V->ag5->ag5->Hp->VK->Prop:=λx lo hi H Q=>∃a xs,akb/\ajW/\
 ¬(HT.cC xs.length 0 lo=0/\HT.cC xs.length xs.length hi=xs.length)/\∀p,aj_->Q ahG (avC (akJ at8))
def Lz:FR X (PY X.K):=by
 intro U s σ H x v vl vu lo hi sl Q I rx hs pl pu h;refine iq h λa xs ai hx hw q=>?_
 try clear h
 subst ai;cases rx;refine bH (I.tuple hx) λits r ht hz=>?_;have aG:ay7:=by rw[aay];exact r.length.symm
 refine⟨"tuple",_,abT.lookup,ht.typeIs,?_⟩;refine HT.jJ ht hs pl pu (by rw[aG];exact hw) ?_ (by rw[aG];exact hz);rw[aG];refine⟨ab6,_,I.laid (t':=s.toks) (o:= .tup at8) (λb ob q=>awc) ac9 ?_,rfl,q _ aok⟩;exact⟨aFg,_,aEp,aAL⟩
def JQ(K:ay):R2:=λx y H Q=>∃a b xs ys,akb/\asn/\ajW/\cH K H b ys/\xs≠[]/\xs.length+ys.length<=sizeLine/\
 (ys=[]->Q ab_ H)/\(ys≠[]->∀p,aj_->Q ahG (avC (akJ azt)))
def aD.rH(r:aob):us=[]↔xs=[]:=by
 cases r with
 |nil=>simp
 |cons _ _=>simp
def Gx:ma X aoV (JQ X.K):=by
 intro U s σ H x y v u Q I rx ry h;refine Xt h λa b xs ys ai aK ha hb hx hz q1 q2=>?_
 try clear h
 subst ai;subst aK;cases rx;cases ry;refine bH (I.tuple ha) λits r1 p1 _=>bH (I.tuple hb) λje r2 p2 _=>HT.Gs p1 p2 (λz=>hx (r1.rH.mp z)) (λz=>⟨ab_,H,I,rfl,q1 (r2.rH.mp z)⟩) (λz=>?_) (by rw[<-r1.length,<-r2.length];exact hz);refine⟨ab6,_,I.laid (t':=s.toks) (o:= .tup azt) (λb ob q=>awc) ac9 ?_,rfl,q2 (λw=>z (r2.rH.mpr w)) _ aok⟩;exact⟨by rw[aau];exact hz,_,r1.append r2,aAL⟩
end
noncomputable def OA(n:Nat)(i:Int):ahM:=if 0<=i then(if i<n then some i.toNat else none) else if -(n:Int)<=i then some (i+n).toNat else none
noncomputable def JR{α:Type}(xs:ahB)(i:Int):ayM:=(OA xs.length i).bind λj=>xs[j]?
def yi(h:OA n i=some j):seqIndex? i n=some j/\j<n/\ -(n:Int)<=i/\i<n:=by
 unfold OA at h;by_cases h0:0<=i
 .rw[aaB h0]at h;by_cases h1:i<n
  .rw[aaB h1]at h;have e:i.toNat=j:=aaQ h;exact⟨by rw[seqIndex_of h0 h1,e],by lia,by lia,h1⟩
  .rw[aaF h1]at h;cases h
 .rw[aaF h0]at h;by_cases h1: -(n:Int)<=i
  .rw[aaB h1]at h;have e:(i+n).toNat =j:=aaQ h;exact⟨by rw[seqIndex_neg awO h1,e],by lia,h1,(aes awO alB)⟩
  .rw[aaF h1]at h;cases h
def yj(h:aAe):∃j,seqIndex? i xs.length=some j/\xs[j]?=some v/\j<xs.length/\ -(xs.length:Int)<=i/\i<xs.length:=by
 unfold JR at h;cases e:OA xs.length i with
 |none=>rw[e]at h;cases h
 |some j=>
  rw[e]at h;exact BU (yi e) λh1 h2 h3 h4=>⟨j,h1,h,h2,h3,h4⟩
def rJ(b:Expr):Prop:=∀o i,subscripted b false o i=operate [o,i] (getItem o i)
def LA(X:Cx)(r:R2):Prop:=
 ∀(value slice:Expr) (U:aa7) (s:ab5) (σ:St) (H:Hp) (x y:V) (v u:Value) (Q:VK),aa4->arl->amz->aC5->
  subscripted slice false v u=operate [v,u] (getItem v u)->wpAny aa6 X.A (subscriptTail value slice v u) aiv X.xe s
def PZ(X:Cx)(id:apr)(r:V->ad5->Hp->VK->Prop):Prop:=
 ∀(U:aa7) (s:ab5) (σ:St) (H:Hp) (x:V) (xs:ad5) (v:Value) (us:ab0) (Q:VK),aa4->arl->aob->r x xs H Q->
  wpAny aa6 X.A aEZ aiv X.xe s
section
variable {X:Cx}{a b:Expr}{ta tb:TE}{pos:Pos}
def LA.or(h:LA X r)(h':LA X r'):LA X (λx y H Q=>aC5\/r' x y H Q):=by
 intro value slice U s σ H x y v u Q I rx ry q hs;rcases q with q|q
 .exact h value slice U s σ H x y v u Q I rx ry q hs
 .exact h' value slice U s σ H x y v u Q I rx ry q hs
def JS(hr:LA X r)(ha:ane)(hb:avl)(hs:rJ b):PE X (ayZ b) ar8:=by
 intro U s σ H Q I h;exact Subscript_ (Ll ha hb I h λv u s2 x y H2 I2 rx ry q=>hr a b U s2 σ H2 x y v u Q I2 rx ry q (hs _ _))
def Gy(K:ay):R2:=λx y H Q=>∃p xs i v,x= .ref p/\y= .int i/\aGk/\aAe/\Q v H
def U9(K:ay):R2:=λx y H Q=>∃p xs i v,x= .ref p/\y= .int i/\cH K H p xs/\aAe/\Q v H
def yk:LA X (Gy X.K):=by
 intro value slice U s σ H x y v u Q I rx ry h hs;refine wk h λp xs i z ai aK hq he q=>?_
 try clear h
 subst ai;subst aK;cases rx;obtain⟨t,rfl⟩:=ry;refine bH akW λits r pl hz=>Ou (yj he) λj h1 h2 h3 h4 h5=>aa (r.get h2) λw ew Cw=>?_;have hl:=r.length;have hn:=nL;have fin:EP X U σ Q w s:=⟨z,H,I,Cw,q⟩;by_cases h0:0<=i
 .have hj:i.toNat=j:=by
   rw[seqIndex_of h0 h5]at h1;exact aaQ h1
  exact item_listR pl.isList h0 (by lia) (by rw[hj];simpa using ew) fin hs
 .have hj:(i+(its.toArray.size:Int)).toNat =j:=by
   rw[seqIndex_neg awO h4]at h1;rw[aay,<-hl];exact aaQ h1
  exact subscriptTail_builtinR (x:=w) pl.isList.typeIs slot_list_getitem.lookup
   (wpAny_getItem_list_neg (Q:=λr s'=>r=w/\EP X U σ Q r s') pl.isList awO (by rw[aay]<;>lia) (by lia) (by rw[hj];simpa using ew) ⟨rfl,fin⟩) hs
def LB:LA X (U9 X.K):=by
 intro value slice U s σ H x y v u Q I rx ry h hs;refine wk h λp xs i z ai aK hq he q=>?_
 try clear h
 subst ai;subst aK;cases rx;obtain⟨t,rfl⟩:=ry;refine bH an1 λits r pl hz=>Ou (yj he) λj h1 h2 h3 h4 h5=>aa (r.get h2) λw ew Cw=>?_;have hl:=r.length;have hn:=nL;have fin:EP X U σ Q w s:=⟨z,H,I,Cw,q⟩;exact subscriptTail_builtinR (x:=w) pl.typeIs slot_tuple_getitem.lookup
  (getItem_tuple (j:=j) (Q:=λr s'=>r=w/\EP X U σ Q r s') pl (by lia) (by lia) (by rw[aay,<-hl];exact h1) (by simpa using ew) ⟨rfl,fin⟩) hs
def wF(its:ab0)(n j:Nat)(u:Value):Obj.mapSeq (·.setIfInBounds j u) {cls:= .type "list",data:= .seq its.toArray n}={cls:= .type "list",data:= .seq (its.set j u).toArray n}:=by
 simp[Obj.mapSeq]
theorem Inv.lst{U:aa7}{σ:St}{H:Hp}{s:ab5}{p:Addr}{xs:ad5}(I:aa4)(h:aD7):
  ∃(its:ab0) (n:Nat),aoi/\s.heap.get? p=some {cls:= .type "list",data:= .seq its.toArray n}/\aiN:=by
 obtain⟨z,its,n,r,e⟩:=I.aJ p _ h;exact⟨its,n,r,e,z⟩
def Inv.LC{U:aa7}{σ:St}{H:Hp}{s:ab5}{p:Addr}{xs ys:ad5}{its its':ab0}{n n':Nat}{f:Obj->Obj}(I:aa4)(h:aD7)
  (ho:s.heap.get? p=some {cls:= .type "list",data:= .seq its.toArray n}) (hf:f {cls:= .type "list",data:= .seq its.toArray n}={cls:= .type "list",data:= .seq its'.toArray n'}) (r:aD ys its') (hz:apg) (t:Nat):
  Inv X U σ (avC auq) {s with heap:=s.heap.update p f,toks:=t}:=by
 have e:(s.heap.update p f).get? p=some {cls:= .type "list",data:= .seq its'.toArray n'}:=by
  rw[abu f ho (by rw[hf]<;>rfl),hf]
 exact I.write (x:=p) (e:=p) (by rw[h];trivial) ahq (λb u hb q=>(aaP _ _ aoB).trans q) ⟨_,e⟩<|⟨hz,its',n',r,e⟩
def P0:V->V->V->Hp->(Hp->Prop)->Prop:=λo i v H Q=>∃p xs k j,o= .ref p/\i= .int k/\aD7/\OA xs.length k=some j/\Q azf
def Cy:Pz X P0:=by
 intro U s σ H o i v ov iv u Q I ro ri rv h;refine wk h λp xs k j ai aK hp hj q=>?_
 try clear h
 subst ai;subst aK;cases ro;obtain⟨t,rfl⟩:=ri;refine ba (I.lst hp) λits n r ho hz=>BU (yi hj) λh1 h2 h3 h4=>?_;have hl:=r.length;have hn:=nL;have I':Inv X U σ azf {s with heap:=s.heap.update p (Obj.mapSeq (·.setIfInBounds j u))}:=
  I.LC hp ho (wF its n j u) (r.set rv j) (by rw[abO];exact hz) s.toks
 by_cases h0:0<=k
 .have hk:k.toNat=j:=by
   rw[seqIndex_of h0 h4]at h1;exact aaQ h1
  exact PySem.W.ki_setAt ho h0 (by lia) (by rw[aay,<-hl];exact h4) (by rw[hk];exact⟨_,I',q⟩)
 .have hk:(k+(its.toArray.size:Int)).toNat =j:=by
   rw[seqIndex_neg awO h3]at h1;rw[aay,<-hl];exact aaQ h1
  exact PySem.W.ki_setBack ho awO (by rw[aay,<-hl];exact h3) (by lia) (by rw[hk];exact⟨_,I',q⟩)
def rK(lo hi:ag5)(n:Nat):(sliceBounds lo hi none n).1 =((HT.cC n 0 lo:Nat):Int)/\(sliceBounds lo hi none n).2.1 =((HT.cC n n hi:Nat):Int)/\(sliceBounds lo hi none n).2.2 =1:=by
 refine⟨?_,?_,rfl⟩
 .cases lo with
  |none=>simp[sliceBounds,HT.cC]
  |some i=>
   simp only[sliceBounds,HT.cC,Option.getD_none,show(1:Int)>0 by decide,if_true];by_cases h:i<0
   .simp only[h,if_true]<;>lia
   .simp only[h,if_false]<;>lia
 .cases hi with
  |none=>simp[sliceBounds,HT.cC]
  |some i=>
   simp only[sliceBounds,HT.cC,Option.getD_none,show(1:Int)>0 by decide,if_true];by_cases h:i<0
   .simp only[h,if_true]<;>lia
   .simp only[h,if_false]<;>lia
def p9(its:ab0)(lo hi:ag5):slicePick its.toArray lo hi none=((its.drop (HT.cC its.length 0 lo)).take (HT.cC its.length its.length hi-HT.cC its.length 0 lo)).toArray :=by
 refine c6 (rK lo hi its.toArray.size) λh1 h2 h3=>?_;unfold slicePick;rw[h1,h2,h3];simp only[sliceRange_one,pick_run,aay]<;>rfl
def U_(K:ay):V->ag5->ag5->Hp->VK->Prop:=λx lo hi H Q=>∃a xs,akb/\anZ/\∀p,aj_->Q ahG (avC (akx at8))
def yl:FR X (U_ X.K):=by
 intro U s σ H x v vl vu lo hi sl Q I rx hs pl pu h;refine ba h λa xs ai hx q=>?_
 try clear h
 subst ai;cases rx;refine bH (I.list hx) λits r ht hz=>?_;have aG:=r.length;refine⟨"list",_,slot_list_getitem.lookup,ht.isList.typeIs,?_⟩;refine wpAny_getItem_list_slice ht.isList hs pl pu .none ab1 ?_ (by rw[aay]<;>exact aam anL hz);rw[p9,<-aG];refine⟨ab6,_,I.laid (t':=s.toks) (o:= .lst at8) (λb ob q=>awc) ac9 ?_,rfl,q _ aok⟩;exact⟨aFg,_,0,aEp,ag6⟩
def rL:cu X (.builtin "len") (λxs H Q=>∃p ys,am2/\(aBv\/aBx)/\Q (al6 ys.length) H):=by
 intro U s σ H xs us Q I r h;refine ba h λp ys ai hq q=>?_
 try clear h
 subst ai;refine aa anS λu aK rx=>?_;subst aK;cases rx;have hn:=nL;rcases hq with hq|hq
 .refine bH akW λits r' pl hz=>?_;have aG:=r'.length;exact Calls.call_len_list pl.isList (by simp only[aay]<;>lia) ⟨.int ys.length,H,aki,⟨s.toks+1,by rw[aay,aG]⟩,q⟩
 .refine bH an1 λits r' pl hz=>?_;have aG:=r'.length;exact len_tuple pl (by simp only[aay]<;>lia) ⟨.int ys.length,H,aki,⟨s.toks+1,by rw[aay,aG]⟩,q⟩
def cu.or(h:cu X f r)(h':cu X f r'):cu X f (λxs H Q=>r xs H Q\/r' xs H Q):=by
 intro U s σ H xs us Q I rs q;rcases q with q|q
 .exact h U s σ H xs us Q I rs q
 .exact h' U s σ H xs us Q I rs q
def jK:cu X (.type "list") (λxs H Q=>∃p ys,am2/\(aBv\/aBx)/\∀l,art->Q aic (axK auq)):=by
 intro U s σ H xs us Q I r h;refine ba h λp ys ai hq q=>?_
 try clear h
 subst ai;refine aa anS λu aK rx=>?_;subst aK;cases rx
 have fin:∀(its:ab0),aD ys its->apg->∀(h':Heap) (c':Nat),(∀b o',aso->aqz)->
   h'.get? s.heap.objs.size=some {cls:= .type "list",dict:=none,data:= .seq its.toArray c',slots:=#[]}->EP X U σ Q ab6 {s with heap:=h'}:=λits r' hz h' c' kp e=>
  ⟨ab6,_,I.laid (t':=s.toks) kp ac9 (show aO X.prog X.w _ h' _ auq from⟨hz,its,c',r',e⟩),rfl,q _ aok⟩
 rcases hq with hq|hq
 .refine bH akW λits r' pl hz=>?_;have aG:=r'.length;obtain⟨o,ho,hc,n,hd⟩:=pl.isList;exact call_list_seq p ahq ho hc hd (λh' c' kp e=>aAP) (by simp only[aay]<;>exact aam anL hz)
 .refine bH an1 λits r' pl hz=>?_;have aG:=r'.length;obtain⟨o,ho,hc,n,hd⟩:=pl;exact call_list_seq p aBC ho hc hd (λh' c' kp e=>aAP) (by simp only[aay]<;>exact aam anL hz)
def p_:cu X (.type "tuple") (λxs H Q=>∃p ys,am2/\((aBv/\∀l,art->Q aic (axK awL))\/(aBx/\Q ahG H))):=by
 intro U s σ H xs us Q I r h;obtain⟨p,ys,rfl,h⟩:=h;obtain⟨u,rfl,rx⟩:=vals1 r;cases rx;rcases h with⟨hq,q⟩|⟨hq,q⟩
 .obtain⟨its,r',pl,hz⟩:=I.list hq;have aG:=r'.length;refine call_tuple_list pl.isList (λh' kp=>?_) (by simp only[aay]<;>exact aam anL hz);have I1:Inv X U σ H {s with heap:=h'}:=I.kept (t':=s.toks) kp;have I2:Inv X U σ (upd H h'.objs.size awL) {s with heap:=h'.push {cls:= .type "tuple",data:= .seq its.toArray}}:=
   I1.laid (t':=s.toks) (λb o e=>aiY) ac9 (show aO X.prog X.w _ _ _ awL from⟨hz,its,r',aAL⟩)
  exact⟨.ref h'.objs.size,_,I2,rfl,q _ ah9⟩
 .obtain⟨its,r',pl,hz⟩:=I.tuple hq;exact call_tuple_same pl ⟨ahG,H,I,rfl,q⟩
def U'(K:ay)(T:apr)(x:V)(H:Hp):Prop:=match x with
 | .str _=>T="str"
 | .int _=>T="int"
 | .ref p=>(T="list"/\∃xs,aGk)\/(T="tuple"/\∃o,K.lookup p=some o/\o.cls= .type "tuple"/\aFV)\/
   (T="dict"/\((∃kvs,aD6)\/∃kvs,H p=some amg))\/(T="set"/\∃S n,H p=some (.set S n))
 |_=>False
def CA(I:aa4)(r:arl)(ty:U' X.K T x H):
  s.TypeIs v T/\∀a,alb->∃ob,s.heap.get? a=some ob/\ob.dict=none:=by
 cases x with
 |str z=>
  obtain⟨t,rfl⟩:=r;cases (show T="str" from ty);exact⟨typeIs_str s z t,λ_ e=>nomatch e⟩
 |int i=>
  obtain⟨t,rfl⟩:=r;cases (show T="int" from ty);exact⟨typeIs_int s i t,λ_ e=>nomatch e⟩
 |ref p=>
  cases r;rcases ty with⟨rfl,xs,hq⟩|⟨rfl,o,hk,hc,hd⟩|⟨rfl,hk⟩|⟨rfl,S,n,hk⟩
  .refine bH akW λits _ pl _=>⟨pl.isList.typeIs,λa e=>?_⟩;cases e;exact iq pl λo n e c hd _=>⟨o,e,hd⟩
  .refine⟨⟨o,I.FO p o hk,hc⟩,λa e=>?_⟩;cases e;exact⟨o,I.FO _ o hk,hd⟩
  .have z:∃o,aEG/\aFW:=by
    rcases hk with⟨kvs,hk⟩|⟨kvs,hk⟩
    .obtain⟨_,_,_,_,o,_,_,e,ex,_⟩:=I.aJ p _ hk;exact⟨o,e,ex⟩
    .obtain⟨_,_,_,_,o,_,_,e,ex,_⟩:=I.aJ p _ hk;exact⟨o,e,ex⟩
   refine aa z λo e ex=>⟨⟨o,e,ex.1⟩,λa e2=>?_⟩;cases e2;exact⟨o,e,ex.2.1⟩
  .refine KY (I.aJ p _ hk) λo _ _ _ e ex _=>⟨⟨o,e,ex.1⟩,λa e2=>?_⟩;cases e2;exact⟨o,e,ex.2.1⟩
 |_=>exact False.elim ty
def Va(K:ay)(T:apr)(r:V->ad5->Hp->VK->Prop)(to:TE):TE:=λσ H Q=>to σ H λx H1=>U' K T x H1/\r x [] H1 Q
def S7(K:ay)(T:apr)(r:V->ad5->Hp->VK->Prop)(to:TE)(t:TA):TE:=λσ H Q=>to σ H λx H1=>U' K T x H1/\t σ H1 λxs H2=>r x xs H2 Q
variable {o e:Expr}{es:ahA}{to:TE}{t:TA}{name:Str}{jH cM:Pos}{T id:apr}{r:V->List V->Hp->VK->Prop}
def LD(pa:PlainAttrs T)(slot:Slot T name id)(P4:typeOf akY=pure (.type "method_descriptor"))(hm:PZ X id r)(ho:ayL)
  (jL:ajb:=by rfl) (jM:anW=true:=by rfl):PE X (ano []) (Va X.K T r to):=by
 intro U s σ H Q I h;refine wpAny_Call_method0_late jL jM (bF akS λv s1 zz=>?_);refine iq zz λx H1 I1 r1 ty q1=>?_;obtain⟨h1,h2⟩:=CA I1 r1 ty;exact⟨T,id,pa,slot,P4,h1,h2,adf rfl (agW (hm U s1 σ H1 x [] v [] Q I1 r1 .nil q1))⟩
def ym(pa:PlainAttrs T)(slot:Slot T name id)(P4:typeOf akY=pure (.type "method_descriptor"))(hm:PZ X id r)(ho:ayL)(ha:amt)
  (jL:ajb:=by rfl)
  (LF:((backTo cM (auT (e::es))).all (λx=>!x.1)&&(backToKw cM ara).all (λx=>x.1.isSome)
   && decide ((e::es).length+([]:aoj).length+(if([]:aoj).isEmpty then 0 else 1)<30))=true:=by rfl)
  (jM:anW=true:=by rfl) (hs:aa_:=by rfl) (wG:(backTo cM ahL).any (·.1)=false:=by rfl):
  PE X (ano (e::es)) (S7 X.K T r to t):=by
 intro U s σ H Q I h;refine wpAny_Call_method_late jL LF jM rfl (bF akS λv s1 zz=>?_);refine iq zz λx H1 I1 r1 ty q1=>?_;obtain⟨h1,h2⟩:=CA I1 r1 ty;refine⟨T,id,pa,slot,P4,h1,h2,?_⟩;have hA:=ha cM U s1 σ H1 _ I1 q1;rw[hs]at hA⊢;refine adf (by show(false||(backTo cM (starEach es X.env)).any (·.1))=false;rw[wG]<;>rfl) (aei ?_);exact bF hA λus s2 zz=>ba zz λvs H2 I2 r2 q2=>hm U s2 σ H2 x vs v us Q I2 r1 r2 q2
end
def S8(X:Cx)(id:apr)(r:V->ad5->Hp->VK->Prop):Prop:=
 ∀(U:aa7) (s:ab5) (σ:St) (H:Hp) (x:V) (xs:ad5) (v:Value) (us:ab0) (Q:VK),aa4->arl->aob->r x xs H Q->
  wpAny aa6 X.A aEZ aiv X.xe s
def aD.one(h:aD [x] us):∃u,us=[u]/\avj:=by
 cases h with
 |cons r t=>cases t;exact⟨_,rfl,r⟩
def aD.zero:∀{us:ab0},aD [] us->us=[]
 |_,.nil =>rfl
theorem aD.dropLast(h:aob):aD xs.dropLast us.dropLast:=by
 induction h with
 |nil=>exact .nil
 |cons r t ih=>
  cases t with
  |nil=>exact .nil
  |cons q t'=>exact .cons r ih
def wH(l:ahB):l.eraseIdx (l.length-1)=l.dropLast:=by
 induction l with
 |nil=>rfl
 |cons a r ih=>
  cases r with
  |nil=>rfl
  |cons b r=>
   have e:(a::b::r).length-1=((b::r).length-1)+1:=by
    have h1:(a::b::r).length =r.length+2:=rfl;have h2:(b::r).length =r.length+1:=rfl;exact h2
   rw[e,List.eraseIdx_cons_succ,ih]
   all_goals rfl
section
variable {X:Cx}{U:aa7}{σ:St}{H:Hp}{s:ab5}{l b:Addr}{xs ys zs:ad5}
def Inv.LH{its its':ab0}{n:Nat}{f:ae2->Array Value}{t':Nat}(I:aa4)(hH:asL)
  (e:s.heap.get? l=some {cls:= .type "list",data:= .seq its.toArray n}) (hf:f its.toArray=its'.toArray) (hv:aD ys its') (hz:apg):
  Inv X U σ (axK auq) {s with heap:=s.heap.update l (Obj.mapSeq f),toks:=t'}:=by
 have q:=PySem.IsL.update e f;rw[hf]at q;exact I.write (x:=l) (e:=l) (by rw[hH];exact trivial) ahq (λb' u hb hu=>(aaP s.heap (Obj.mapSeq f) aoB).trans hu) ⟨_,q⟩<|⟨hz,its',_,hv,q⟩
def Inv.P7(I:aa4)(hv:aD ys its)(hz:apg):
  Inv X U σ (alE auq) {s with heap:=s.heap.push {cls:= .type "list",data:= .seq its.toArray},toks:=t'}:=
 I.laid (λ_ _ q=>awc) ac9 ⟨hz,its,0,hv,ag6⟩
theorem Inv.fresh(I:aa4):ani:=I.aJ.fresh ac9
def Inv.LI(I:aa4)(hH:asL):aiN/\∃(its:ab0) (n:Nat),aoi/\aEy/\s.heap.get? l=some {cls:= .type "list",data:= .seq its.toArray n}:=by
 obtain⟨z,its,n,r,e⟩:=I.aJ l _ hH;exact⟨z,its,n,r,r.length,e⟩
def CC(h:n<=sizeLine):Builtin.List.listTooLong n=false:=by
 unfold Builtin.List.listTooLong;exact decide_eq_false (adh h)
end
section
variable {X:Cx}
def Gz:V->ad5->Hp->VK->Prop:=λx vs H Q=>∃l xs y,au0/\vs=[y]/\asL/\auZ/\Q .cq (axK (akx (xs++[y])))
def qy:S8 X "list.append" Gz:=by
 intro U s σ H x vs v us Q I rx rv h;refine vY h λl xs y ai aK hH hz q=>?_
 try clear h
 subst ai;subst aK;cases rx;refine aa rv.one λu cL ru=>?_;subst cL;obtain⟨z,its,n,r,hl,e⟩:=I.LI hH;refine call_meets F.slot_list_append ⟨_,e,rfl⟩ F.entry_list_append (F.args_list_append_2 _ _) (PySem.list_append l its.toArray n u (by rw[aay];exact aam ajf (aaE hz))) ⟨e,?_⟩;refine⟨.cq,_,I.LH (its':=its++[u]) hH e ab1 (r.append (akA ru)) ?_,rfl,q⟩;rw[aau,abw];exact hz
def Vb:V->ad5->Hp->VK->Prop:=λx vs H Q=>∃l xs y,au0/\vs=[]/\asL/\xs[xs.length-1]?=some y/\Q y (axK (akx xs.dropLast))
def LJ:S8 X "list.pop" Vb:=by
 intro U s σ H x vs v us Q I rx rv h;refine vY h λl xs y ai aK hH hy q=>?_
 try clear h
 subst ai;subst aK;cases rx;have ZA:=rv.zero;subst ZA;obtain⟨z,its,n,r,hl,e⟩:=I.LI hH;refine aa (r.get hy) λu hu ru=>?_;have FU:its.toArray[its.toArray.size-1]?=some u:=by
  show its.toArray[its.length-1]?=some u;rw[<-aba,<-hl];exact hu
 refine call_meets F.slot_list_pop ⟨_,e,rfl⟩ F.entry_list_pop (F.args_list_pop_1 _) (MeetsSeq.list_pop_last l its.toArray n u FU (by rw[aay];exact aam ajf z)) ⟨e,?_⟩;refine⟨y,_,I.LH (its':=its.dropLast) hH e ?_ r.dropLast ?_,ru,q⟩
 .show its.toArray.eraseIdxIfInBounds (its.toArray.size-1)=its.dropLast.toArray;rw[aay,List.eraseIdxIfInBounds_toArray,wH]
 .rw[List.length_dropLast];exact aam ar6 z
end
section
variable {prog:ac7}{w:World}{A:ahp}{E:Value->Shared->Prop}{s:ab5}{X:Cx}
end
end L2
namespace XF
open PySem PySem.W PySem.Calls PyProof.Rows
def mK:∀(ns:aa0) (vs:ab0),WellAll P h vs aEP->ao7:=by
 intro ns;induction ns with
 |nil=>
  intro vs w;rw[ahm]at w;cases w;exact .nil
 |cons n ns ih=>
  intro vs w;rw[aaX]at w;cases w with
  |cons a b=>
   cases a;exact .cons _ _ (ih _ b)
def Au{l:OpenLaw}{n:Nat}(hn:aBj){P:Params}{h:Heap}{args:List WData}{vals:ab0}
  (GA:l.row.toRowW.claim.pre args=true) (Vc:WellAll P h vals args):
  ∃a vs ns,vals=[Value.ref a]/\args=[WData.list aEP]/\h.get? a=some {cls:= .type "list",data:= .seq vs.toArray}/\ao7/\awA:=by
 have jf:WShape.hasAll [] args [.list .int]=true:=(pre_splitW GA).1;have hc:l.pre.holds [] {args:=args}=true:=(pre_splitW GA).2;refine ba (hasAllW_cons jf) λd r ai h1 h2=>?_;subst ai;obtain rfl:=hasAllW_nil h2;refine aa (hasW_list h1) λxs aK h3=>?_;subst aK;obtain⟨ns,rfl⟩:=items_int h3;have aG:awA:=by
  unfold OpenLaw.pre at hc;have h4:(WTm.not (.lt (.lit (al6 (n:Int))) (.len (.arg 0)))).holds [] {args:=[.list azC]}=true:=by
   have h4:=(holds_andW hc).1;rw[hn]at h4;exact h4
  have h5:=condW_of h4 (w_not (w_lt w_lit (w_len_list (w_arg rfl))));rw[aap]at h5;refine aaV λq=>?_;have q':(n:Int)<((ns.length:Nat):Int):=by lia
  first
   |(rw[decide_eq_true q']at h5;exact absurd h5 aa1)
   |(simp at h5;lia)
 cases Vc with
 |cons w1 w2=>
  cases w2;cases w1 with
  |list ho mM=>exact⟨_,_,ns,rfl,rfl,ho,mK ns _ mM,aG⟩
def Av(l:OpenLaw)(args:List WData):l.row.toRowW.claim.post args alr args=true:=
 postW_of (r:=l.row.toRowW) (X:=(true==true))
  (show WShape.has [] alr .bool =true by first|rfl|decide|simp[WShape.has,WShape.arms,WShape.armsAll])
  (show(WTm.eq .res (.lit alr)).value [] {args:=args,res:=some alr,after:=args}=some (aEw (true==true)) from w_eq_bool (w_res rfl) w_lit) rfl
def ur{l:OpenLaw}{n:Nat}{q:ac7}{loose:ac_}{XP:(Str->ae6)->Heap->Prop}{YP:World->Heap->Prop}{d:DefRec}
  (hn:aBj) (P8:atq)
  (call:∀(w:World) (s₀ aZ:ab5) (mg mb:Str->ae6) (fa:Addr) (o:Obj) (pm cd gJ:Value) (a:Addr) (vs:ab0) (ns:aa0),
   Ground q loose [] XP w s₀ mg mb aZ.heap->YP w aZ.heap->
   aZ.heap.get? fa=some o->o.data= .func (docDef d.name d.params d.body d.scope pm cd gJ)->aZ.heap.CodeRec cd d.name->au6->
   aZ.heap.get? a=some {cls:= .type "list",data:= .seq vs.toArray}->ao7->awA->aZ.gens=#[]->
   codeAny (model l.prog w) callerA apx (λr s'=>ap7/\atA/\aFJ/\alP) aZ):
  WalkO q loose XP YP l.row.toRowW d [] (λf vs=>ayF):=by
 intro w s₀ aZ mg mb G Y fa o pm cd gJ dV kV ho hd nG hD P9 hg args vals as GA ZC hrd Vc Aw;obtain rfl:dV= .none :=Dflts.none hD P8;obtain rfl:kV= .none :=Dflts.noKw hD;refine vY (Au hn GA Vc) λa vs ns ai aK LK hints aG=>?_;subst ai;subst aK;refine enter_call (aeY (call w s₀ aZ mg mb fa o pm cd gJ a vs ns G Y ho (fd_plain hd) nG P9 LK hints aG hg) λr s' hq=>?_);refine BU hq λcL h2 h3 h4=>?_
 try clear hq
 subst cL;exact⟨.inl ⟨alr,alr,[],rfl,λ_=>rfl,alr,Av l _,λ_=>⟨List.Pairwise.nil,λ_ hm=>(nomatch hm)⟩⟩,h2,h3,h4⟩
section
variable {prog:ac7}{w:World}{A:ahp}{E:Value->Shared->Prop}{s:ab5}{K:Frag}
end
end XF
namespace L2
open PySem PySem.Spec PyProof.Rows
def Ax:∀{vs:ab0}{ns:aa0},ao7->aD aiO vs:=λ{vs ns} h=>by
 induction h with
 |nil=>exact .nil
 |cons n t h ih=>exact .cons ⟨t,rfl⟩ ih
def LL(H:Hp):Prop:=∀b,ajQ\/∃o xs,H b=some (.dF o ag8)
def CD{P:ac7}{w:World}{K:ay}{mg mb:Str->Option Value}{CX:Ap}{k:Nat}{fa a:Addr}{fd:aka}{x:Str}{sp:Sp}{aZ:ab5}{vs:ab0}{ns:aa0}
  (KX:K.In aZ.heap) (XG:aZ.heap.Ns mainGlobals mg) (hb:aZ.heap.Ns builtinsNs mb) (ZD:∀x:Str,x≠"__name__"->mb x=bootBuiltins x) (Vd:aZ.heap.NoLimit) (hg:aZ.gens=#[])
  (ha:aZ.heap.get? a=some {cls:= .type "list",data:= .seq vs.toArray}) (hi:ao7) (hl:ns.length<=sizeLine) (hr:eK k callerA)
  (F:∀base:Heap,K.In base->anK->eL P w K mg base CX k fa fd [x] sp) (P_:∀(s:ab5) (u:Value),ank)
  (BX:∀H:Hp,LL H->aDv->sp [ab_] H (λv _=>aya) λ_ _ _=>False)
  (Ve:∀H e s',CX [] H aZ (λ_ _ _=>False) e s'->False):
  codeAny akp callerA apx (λr s'=>ap7/\atA/\aFJ/\alP) aZ:=by
 have rv:=Ax hi;have Vf:=hi.length
 have aM:∀H:Hp,LL H->aDv->gC P w H aZ.heap->(∀b,H b≠none->b=a)->(H a≠none->K.lookup a=none)->
   codeAny akp callerA apx (λr s'=>ap7/\atA/\aFJ/\alP) aZ:=by
  intro H hO hS aJ hA hK;have jO:∀{b:Addr}{o:Obj},aDS->ajQ->(rB aZ.heap H).get? b=some o:=λe n=>B_ e n;have PL:∀{b:Addr}{o:Obj}{es:ajv}{ep:Nat},aDS->ajt->ajQ:=λ{b o es ep} e d=>by
   cases q:H b with
   |none=>rfl
   |some u=>
    have e':b=a:=hA b (by rw[q];simp);subst e';rw[ha]at e;cases e;have d':Data.seq vs.toArray _=Data.dict es ep:=d;cases d'
  have S9:∀{b:Addr}{m:Str->Option Value},aZ.heap.Ns b m->(rB aZ.heap H).Ns b m:=λ{b m} zz=>cx zz λo es ep e d r=>⟨o,es,ep,jO e (PL e d),d,r⟩;have XH:K.In ayf:=λb o e=>jO (KX b o e) (by
   cases q:H b with
   |none=>rfl
   |some u=>
    have e':b=a:=hA b (by rw[q];simp);subst e';rw[hK (by rw[q];simp)]at e;cases e)
  have hM:Mod K mg ayf:=⟨XH,S9 XG,⟨mb,S9 hb,ZD⟩,let ⟨mc,h1,h2⟩:=Vd;⟨mc,S9 h1,h2⟩⟩;have e0:Gr P w K mg ayf callerA [] aZ H:=⟨rfl,hM,λb o e=>Gd e,aaw (Ai _ _),trivial,λb hb=>absurd (show b∈([]:ae_) from hb) ab1,aJ,.of_eq hg⟩;refine aeY ((F _ XH (S9 XG)).run callerA [] aZ H ⟨[ab_],[]⟩ [ab_] [ab_] _ _ hr e0 (P_ aZ ab_) (akA rfl) (BX H hO hS)) λr s' h=>?_;cases r with
  |error e=>exact(Ve H e s' h).elim
  |ok fl=>
   cases fl with
   |next=>exact False.elim h
   |brk=>exact False.elim h
   |cont=>exact False.elim h
   |ret u=>
    refine Uk h λv H' os bare un Vg r' q=>?_;have q':aya:=q;subst q';obtain rfl:u=Value.bool true:=r';refine⟨rfl,OldK.of_keep λb o e=>?_,os,bare⟩;cases q:H b with
    |none=>exact un.keep b o e q (by intro z;exact absurd (show b∈([]:ae_) from z) ab1) ab1
    |some u=>
     rcases hO b with z|⟨ob,xs,z⟩
     .rw[q]at z;cases z
     .have z2:=un.fY b ob _ z;obtain⟨e1,_⟩:=aJ b _ z;obtain⟨e2,_⟩:=Vg b _ z2;rw[e]at e1;cases e1;exact e2
 cases hk:K.lookup a with
 |some o=>
  have e:=KX a o hk;rw[ha]at e;cases e;refine aM (λ_=>none) (λ_=> ahq) (.inr ⟨_,vs.toArray,_,hk,rfl,rfl,rfl,by rw[aay,Vf];exact hl,by simpa using rv⟩) (λb u z=>by have z':(none:Option HO)=some u:=z;cases z') (λb z=>absurd rfl z) λz=>absurd rfl z
 |none=>
  refine aM (λb=>if b=a then some (.dF {cls:= .type "list",data:= .seq vs.toArray} (akx aiO)) else none) (λb=>?_) (akN (ant ⟨{cls:= .type "list",data:= .seq vs.toArray},aDQ⟩)) (λb u z=>?_) (λb z=>?_) λ_=>hk
  .by_cases hb:b=a
   .exact .inr ⟨_,_,aaB hb⟩
   .exact .inl (aaF hb)
  .by_cases hb:b=a
   .have z':=(aaB hb).symm.trans z;cases z';subst hb;exact⟨ha,by rw[aap];exact hl,vs,_,rv,ha⟩
   .have z':=(aaF hb).symm.trans z;cases z'
  .by_cases hb:b=a
   .exact hb
   .exact absurd (aaF hb) z
def GB{l:ayI}{n k:Nat}{q:ac7}{loose:ac_}{XP:(Str->ae6)->Heap->Prop}{YP:World->Heap->Prop}{d:DefRec}{K:Params->ay}{CX:World->Ap}{sp:World->Sp}{x:Str}
  (hn:aBj) (JT:n<=sizeLine) (P8:atq) (hr:eK k callerA)
  (hY:∀(w:World) (h:Heap),YP w h->aqV)
  (F:∀(w:World) (mg:Str->ae6) (fa:Addr) (h:Heap),aqV->apj->au6->
   ∃fd:aka,(∀(s:ab5) (u:Value),ank)/\
    ∀base:Heap,aFu->anK->eL l.prog w ar7 mg base (CX w) k fa fd [x] (sp w))
  (BX:∀(w:World) (H:Hp) (a:Addr) (ns:aa0),awA->LL H->cK ar7 H a aiO->sp w [ab_] H (λv _=>aya) λ_ _ _=>False)
  (Ve:∀(w:World) (H:Hp) (s:ab5) (e:Value) (s':ab5),CX w [] H s (λ_ _ _=>False) e s'->False):
  PySem.W.WalkO q loose XP YP l.row.toRowW d [] (λf vs=>ayF):=by
 refine XF.ur hn P8 λw s₀ aZ mg mb fa o pm cd gJ a vs ns G Y ho hd nG P9 LK hints aG hg=>?_;have KX:=hY w _ Y;exact aa (F w mg fa _ KX G.T.g P9) λfd hb hF=>CD KX G.T.g G.T.b G.T.builtins G.T.nolimit hg LK hints (aam aG JT) hr hF hb (λH hO hS=>BX w H a ns aG hO hS) λH e s'=>Ve w H aZ e s'
noncomputable def dI(s:Stmt):Arguments:=match s with
 | .FunctionDef _ a _ _ _ _ _ _ _ _=>a
 |_=>{posonlyargs:=[],args:=[],vararg:=none,kwonlyargs:=[],kw_defaults:=[],kwarg:=none,defaults:=[]}
noncomputable def bD(s:Stmt):alh:=match s with
 | .FunctionDef _ _ b _ _ _ _ _ _ _=>b
 |_=>[]
noncomputable def af(s:Stmt):Scope:=match s with
 | .FunctionDef _ _ _ _ _ _ sc _ _ _=>sc
 |_=>{kind:= .function,names:=[],isGenerator:=false,isCoroutine:=false}
abbrev rM:Ap:=λ_ _ _ _ _ _=>False
abbrev E0:XK:=λ_ _ _=>False
def CF:nN rM X E0:=λ_ _ _ _ _ _ _ h=>h.elim
structure CG(K:ay)(x qual:Str)(st:Stmt)(f:Addr)(fd:aka):Prop where
 ex:∃(oc:Value) (od:ahQ) (kV gJ pm:Value) (an:ahQ) (du ct:Value) (Cq:apw),
  fd=PySem.W.fnOf x qual (dI st) (bD st) ah1 .none kV gJ pm an du ct/\K.lookup f=some ⟨oc,od,.func fd,Cq⟩/\PySem.W.codeIn K du qual=true
 kp:PySem.W.keepIn K apL=true
section
variable {P:ac7}{w:World}{K:ay}{mg:Str->Option Value}{base:Heap}{X:Cx}
def CG.ok{x qual:Str}{st:Stmt}{f:Addr}{fd:aka}{N ps:ac_}{k:Nat}{sp:Sp}(F:aGL)(S:arh)(len:∀vs H Q E,aq9->at6)
  (jI:∀(du:Value) (A:ahp) (outer:amB) (s:ab5) (H:Hp) (vs:ad5) (Q:VK) (E:XK),eK k (aws (envOfC qual ah1 s.heap.objs.size f du))->aq9->
   ∃t,jE (dH rM P w K mg base N qual ah1 f du A outer s H E).pZ (bD st) t/\t {nx:=λ_ H'=>Q .cq H',rt:=Q} anT H):eL P w K mg base rM (k+1) f fd ps sp:=by
 refine Xw F.ex λoc od kV gJ pm an du ct Cq ai lk nG=>?_;subst ai;exact Cp lk nG S len λA outer s H vs Q E hr BX=>aa (jI du A outer s H vs Q E hr BX) λt h q=>⟨t,h.pZ,q⟩
def CG.binds{x qual:Str}{st:Stmt}{f:Addr}{fd:aka}{ps:ac_}(F:aGL)
  (h:∀(kV gJ pm:Value) (an:ahQ) (du ct:Value) (us:ab0),aFE->bindArgs aiw ⟨us,[]⟩=pure atm):aoE:=by
 refine Xw F.ex λoc od kV gJ pm an du ct Cq ai lk nG=>?_;subst ai;exact .all (h kV gJ pm an du ct)
def LN{x qual:Str}{st:Stmt}{f:Addr}{oc:Value}{od an:ahQ}{Cq:apw}{kV gJ pm du ct:Value}(l:K.lookup f=some ⟨oc,od,.func aiw,Cq⟩)
  (c:axw) (k:aAc):CG K x qual st f aiw:=⟨⟨oc,od,kV,gJ,pm,an,du,ct,Cq,rfl,l,c⟩,k⟩
end
def mO{A B:Prop}(h:B):if false=true then A else B:=by
 rw[aaF aan];exact h
def jP{A B:Prop}(h:A):if true=true then A else B:=by
 rw[aaB rfl];exact h
def ah(H H':Hp):Prop:=∀b o,H b=some o->H' b=some o
def ah.refl(H:Hp):ah H H:=λ_ _ h=>h
def ah.trans(a:asC)(b:ah H1 H2):ah H H2:=λc o h=>b c o (a c o h)
def ah.seq{K:ay}{H H':Hp}{a:Addr}{xs:ad5}(e:aiX)(h:anZ):cK K H' a xs:=by
 rcases h with (h|⟨o,h⟩)|h
 .exact .inl (akN (e _ _ h))
 .exact .inl (ant ⟨o,e _ _ h⟩)
 .exact .inr h
end L2
namespace L2
open PySem
theorem jg(env:Env):∀(l:aoN) (cs:akV),(∀y∈l,aqp ->∃c,apl)->
  ∃cl,(forIn l cs λ(x:Str×NameKind) (r:List (Str×Addr))=>if aCn=true then(do let a<-cellOf env x.1;pure aE3) else pure aDH:Sem akV)=pure cl/\
   (∀x c,ahY->cs.lookup x=some c\/(ap_/\aEo))/\
   (∀x,aEo\/(∃c,cs.lookup x=some c)->∃c,ahY)
 |[],cs,_=>⟨cs,rfl,λx c h=> .inl h,λx h=>h.elim (λz=>nomatch z) id⟩
 |(n,k)::l,cs,h=>by
  have hl:∀y∈l,aqp ->∃c,apl:=λy hy=>h y asi;by_cases hk:k= .free
  .subst hk;obtain⟨c,hc⟩:=h (n,.free) aaq rfl;refine bH (jg env l ((n,c)::cs) hl) λcl e h1 h2=>⟨cl,?_,λx d hx=>?_,λx hx=>?_⟩
   .rw[adw];simp only[beq_self_eq_true,if_true,cellOf,hc];exact e
   .rcases h1 x d hx with z|⟨z,m⟩
    .rw[ael]at z;by_cases OB:(x==n)=true
     .rw[OB]at z;have:x=n:=eq_of_beq OB;subst this;cases z;exact .inr ⟨hc,aaq⟩
     .have e0:(x==n)=false:=by simpa using OB
      rw[e0]at z;exact .inl z
    .exact .inr ⟨z,aal _ m⟩
   .refine h2 x ?_;rcases hx with hx|⟨d,hd⟩
    .rcases aat.mp hx with e1|hx
     .cases e1;exact .inr ⟨c,by rw[ael,beq_self_eq_true]⟩
     .exact .inl hx
    .by_cases OB:(x==n)=true
     .exact .inr ⟨c,by rw[ael,OB]⟩
     .have e0:(x==n)=false:=by simpa using OB
      exact .inr ⟨d,by rw[ael,e0];exact hd⟩
  .refine bH (jg env l cs hl) λcl e h1 h2=>?_;have hb:(k==NameKind.free)=false:=by simpa using hk
   refine⟨cl,?_,λx d hx=>?_,λx hx=>h2 x ?_⟩
   .rw[adw];simp only[hb,aco,if_false];exact e
   .rcases h1 x d hx with z|⟨z,m⟩
    .exact .inl z
    .exact .inr ⟨z,aal _ m⟩
   .rcases hx with hx|hx
    .rcases aat.mp hx with e1|hx
     .cases e1;exact absurd rfl hk
     .exact .inl hx
    .exact .inr hx
def wI(h:∀y∈sc.names,aqp ->∃c,apl):
  ∃cl,closureFor sc env=pure cl/\(∀x c,ahY->ap_/\ad3)/\(∀x,ad3->∃c,ahY):=by
 refine bH (jg env sc.names [] h) λcl e h1 h2=>⟨cl,?_,λx c hx=>(h1 x c hx).resolve_left (λz=>by simp at z),λx hx=>h2 x (akN hx)⟩;have e':closureFor sc env=(forIn sc.names ([]:akV) λ(x:Str×NameKind) (r:List (Str×Addr))=>if aCn=true then(do let a<-cellOf env x.1;pure aE3) else pure aDH:Sem akV) >>= λr=>pure r:=by
  rfl
 rw[e',e];rfl
section
variable {prog:ac7}{w:World}{A:ahp}{E:Value->Shared->Prop}{R:Result->Shared->Prop}{s:ab5}
def wJ(I:Nat->ab5->Prop)
  (turn:∀n s,I n s->wpAny aa2 A (pyNext it) (λr aZ=>match r with
   |none=>R aEe aZ
   |some v=>wpAny aa2 A (letOwnedTupleGo target it v) (λ_ JU=>wpAny aa2 A (assign target env v) (λ_ nH=>
     wpAny aa2 A (forIn ifs true λc r=>if r=true then do let ok<-isTrue c env (awm c);pure (akz ok) else pure aDH) (λok Ay=>
      if ok=true then wpAny aa2 A (awm eV) (λx P'=>
       wpAny aa2 A (call (.builtin "list.append") [acc,x]) (λ_ Qa=>∃m,m<n/\I m Qa) (λ_ _=>False) P') (λ_ _=>False) Ay
      else∃m,m<n/\I m Ay) (λ_ _=>False) nH) (λ_ _=>False) JU) (λ_ _=>False) aZ) (λ_ _=>False) s)
  (n:Nat) (h:I n s):
  codeAny aa2 A (.compLoop apf 0 it acc env) R s:=by
 refine codeAny_loop rfl I (λn s hI=>?_) n h;show wpAny _ A ((compTurn apf 0 it acc env).onRaise (λx=>do noteFrame x env;theTreesLotGoes x)) _ _ s;refine wpAny_noted ?_;rw[compTurn_list];refine aag (afZ (aag (abJ (turn n s hI) (λr aZ GC=>?_) λ_ _ h'=>aBp)));cases r with
 |none=>exact aao GC
 |some v=>
  refine aag (abJ GC (λ_ JU Qb=>?_) λ_ _ h'=>aBp);refine aag (abJ Qb (λ_ nH CH=>aag (abJ CH (λok Ay GD=>?_) λ_ _ h'=>aBp)) λ_ _ h'=>aBp);cases ok with
  |false=>exact aao ⟨rfl,GD⟩
  |true=>
   exact aag (aag (abJ GD (λx P' Vh=>aag (abJ Vh (λ_ Qa Vi=>aao (aao ⟨rfl,Vi⟩)) λ_ _ h'=>aBp)) λ_ _ h'=>aBp))
end
end L2
set_option maxHeartbeats 4000000
namespace L2
open PySem PySem.Spec PyProof.Rows
def Inv.JV(I:aa4)(h:aBw):∃(its:ab0) (n:Nat),aoi/\aEy/\s.heap.get? a=some {cls:= .type "list",data:= .seq its.toArray n}/\aiN:=by
 rcases h with h|⟨o,its,n,hk,hc,hd,hs,hz,r,S_⟩
 .obtain⟨z,its,n,r,e⟩:=h.ok I.aJ;exact⟨its,n,r,r.length,e,z⟩
 .refine⟨its.toList,n,r,r.length,?_,?_⟩
  .rw[I.FO a o hk];obtain⟨c,d,dt,sl⟩:=o;simp only at hc hd hs S_;subst hc hd hs S_;simp
  .have e:=r.length;simp only[aaK]at e;exact aam (aaw e) hz
theorem Ta{env:Env}:∀{names:aoN}{x:Str},(names.map λ(n,k)=>if(k==NameKind.free&&env.scope.kind == .function&&env.kindOf n==some .cell) then(n,ao5) else(n,k)).lookup x=
  (names.lookup x).map λk=>if(k==NameKind.free&&env.scope.kind == .function&&env.kindOf x==some .cell)=true then NameKind.cell else k
 |[],_=>rfl
 |(n,k)::r,x=>by
  rw[aaX];show List.lookup x ((if(k==NameKind.free&&env.scope.kind == .function&&env.kindOf n==some .cell)=true then(n,ao5) else(n,k))::_)=_;cases hx:x==n with
  |true=>
   cases eq_of_beq hx;rw[agw,adR];split<;>exact agw
  |false=>split<;>simp only[ael,hx]<;>exact Ta
def iP{sc:Scope}(h:sc.names.lookup x=some .free):(relabel sc env).names.lookup x=some .cell \/(relabel sc env).names.lookup x=some .free :=by
 refine(show _=_ from Ta)▸?_;rw[h,adR];split
 .exact .inl rfl
 .exact .inr rfl
def me(hk:kd= .cell \/kd= .free)(h:(relabel sc env).names.lookup x=some kd):ad3\/ais:=by
 rw[show(relabel sc env).names.lookup x=_ from Ta]at h;obtain⟨k,h1,h2⟩:=acq.mp h;have:=abN h1;cases k with
 |free=>exact .inl this
 |cell=>exact .inr this
 |_=>simp at h2;subst h2;rcases hk with z|z<;>cases z
theorem nV:∀{names:aoN}{n:Nat}{acc:akV},cellsFrom n names acc=cellsFrom n names []++acc
 |[],_,_=>rfl
 |(x,k)::r,n,acc=>by
  unfold cellsFrom;split
  .rw[nV,nV (acc:=[(x,n)]),aaZ];rfl
  .exact nV
theorem rN:∀{names:aoN}{n:Nat},(∀x c,(x,c)∈cellsFrom n names []->(x,ao5)∈names)/\∀x,(x,ao5)∈names->∃c,(cellsFrom n names []).lookup x=some c
 |[],_=>⟨λ_ _ h=>(nomatch h),λ_ h=>nomatch h⟩
 |(y,k)::r,n=>by
  unfold cellsFrom;split
  .rename_i hk;cases eq_of_beq hk;rw[nV];obtain⟨a,b⟩:=@rN r (n+1);refine⟨λx c h=>?_,λx h=>?_⟩
   .rcases aaH.mp h with z|z
    .exact aal _ (a x c z)
    .cases aar.mp z;exact aaq
   .rw[afE];cases q:(cellsFrom (n+1) r []).lookup x with
    |some c=>exact⟨c,rfl⟩
    |none=>
     rcases aat.mp h with z|z
     .cases z;exact⟨n,by simp⟩
     .obtain⟨c,hc⟩:=b x z;rw[q]at hc;cases hc
  .rename_i hk;obtain⟨a,b⟩:=@rN r n;refine⟨λx c h=>aal _ (a x c h),λx h=>?_⟩;rcases aat.mp h with z|z
   .cases z;exact absurd rfl hk
   .exact b x z
def Az(X:Cx)(ifs:ahA)(t:TT):Prop:=
 ∀(U:aa7) (s:ab5) (σ:St) (H:Hp) (Q:Bool->Hp->Prop),aa4->aq7->
  wpAny aa6 X.A (forIn ifs true λc r=>if r=true then do let ok<-isTrue c X.env (aky c);pure (akz ok) else pure aDH) auy X.xe s
theorem qz:∀(cs:ahA),(forIn cs false λc r=>if r=true then do let ok<-isTrue c env (awm c);pure (akz ok) else pure aDH:Sem Bool)=pure false
 |[]=>rfl
 |c::cs=>by
  rw[adw,aaF aan];exact qz cs
section
variable {X:Cx}
def GF:Az X [] (λσ H Q=>Q true H):=λ_ _ _ H _ I h=>aao ⟨H,I,h⟩
def CI(h:PT X c t)(hr:Az X cs u):Az X (c::cs) (Po t u):=by
 intro U s σ H Q I hw;rw[adw,aaB rfl];refine aag (aag (bF aoU λb s1 zz=>aa zz λH1 I1 q1=>aao ?_));cases b with
 |true=>exact hr U s1 σ H1 Q I1 q1
 |false=>
  show wpAny _ _ (forIn cs false _) _ _ _;rw[qz];exact aao ⟨H1,I1,q1⟩
noncomputable def jQ(fr:ahW)(σ:St):St:=fr.map λi=>(σ[i]?).join
noncomputable def iQ(X:Cx)(sc:Scope)(cl:akV)(C:Addr)(N:ac_)(U:aa7)(s:ab5)(H:Hp)(ex:ae_):Cx:=
 {X with N:=N,s₀:=s,H₀:=H,env:=compEnvC sc cl C X.env,outer:=X.stack,ex:=ex,fn:=λx=>decide ais,pn:=X.pn++U,xe:=λ_ _=>False}
structure LO(N:ac_)(FV:Scope)(sc:Scope)(N':ac_)(k:Nat)(fr:ahW):Prop where
 kind:sc.kind= .function
 apart:∀y∈sc.names,aqp ->(y.1,ao5)∉sc.names
 loc:∀y∈sc.names,y.2= .local ->sc.names.lookup y.1=some .local
 free:∀y∈sc.names,aqp ->aw0 \/FV.names.lookup y.1=some .free
 len:N'.length=k+fr.length
 ZE:∀j x,N'[k+j]?=some x->∃i,fr[j]?=some i/\N[i]?=some x/\sc.names.lookup x=some .free
def qA(k:Nat)(fr:ahW)(wi:TI)(g:TG)(tt:TT)(te:TE):TE:=λσ H Q=>wi σ H λJ H1=>
 ∀p,alM->∃W:Nat->Nat->Hp->Prop,(∃m,aAa)/\∀i m H,W i m H->
  (aA0/\Q ahG H)\/
  (aBY/\∀x H',arp->g x ahw H' λBW H2=>tt BW H2 λb H3=>
   if b=true then te BW H3 λv H4=>∃xs m',H4 p=some ag8/\auZ/\m'<m/\W (i+1) m' axR
   else∃m',m'<m/\W (i+1) m' H3)
def rO(k:Nat)(g:TG):Prop:=∀x σ H Q,g x σ H Q->g x σ H λBW H2=>Q BW H2/\BW.length=σ.length/\∀i,k<=i->BW[i]?=σ[i]?
def CJ(I:aa4)(S:ai4)
  (h1:∀x c,ahY->ab8/\ad3\/ais/\s.heap.objs.size<c/\s4.heap.IsCell c none) (h2:∀x,ad3\/ais->∃c,ahY)
  (inj:∀x y c,ahY->cl.lookup y=some c->x=y) (Tc:∀b∈fp,av6) (aU:∀b∈fp,b<s.heap.objs.size) (os:s4.os=s.os) (gens:s4.gens=s.gens) (keep:∀b o,ab2->s4.heap.get? b=some o)
  (ns:s4.heap.Ns s.heap.objs.size m):
  Inv (iQ X sc cl s.heap.objs.size N' U s H fp) [] ahw H s4:=by
 have kx:∀x,ad3->az9 \/az8 :=λx hx=>S.free (x,.free) hx rfl;have JW:∀x c v,ab8->s.heap.IsCell c v->s4.heap.IsCell c v:=λx c v _ ⟨o,ho,hd⟩=>⟨o,keep c o ho,hd⟩;refine⟨⟨I.ok.mod,S.kind,I.ok.glob,I.ok.blt,aas _,inj,λx hx=>?_,λx c hf hx=>?_,I.ok.hd,I.ok.frames,ahq,λb hb=>⟨?_,λx c hx=>?_⟩,I.bs,aam I.ok.xW I.sz,λb o e hb=>?_,λb hb=>?_,I.stack,I.jD⟩,
  os,by rw[gens];exact I.bare,Un.kept keep,⟨m,ns,λi x v e1 e2 e3=>?_⟩,λx c hx=>?_,I.fresh,λx c hx=>?_,λp hp=>?_,I.aJ.kept keep,?_⟩
 .rcases hx with hx|hx
  .exact h2 x (me ahq hx)
  .exact h2 x (me aBC hx)
 .rcases h1 x c hx with z|z
  .exact absurd (arA hf) (S.apart _ z.2 rfl)
  .exact aaE z.2.1
 .exact aaN (aU b hb)
 .rcases h1 x c hx with z|z
  .exact(Tc b hb).2.2.2.2.1 x c z.1
  .exact adj (adS (aU b hb) z.2.1)
 .rcases (Tc b hb).2.2.2.1 with z|z
  .exact I.ok.ud b o e z
  .exact absurd (aaj (aaj ajO I.ok.xW) z) alW
 .intro jd;rcases aat.mp (I.nE b jd)with z|z
  .exact(Tc b hb).2.1 z
  .exact(Tc b hb).2.2.1 z
 .by_cases hi:i<k
  .rw[abr (by simpa using hi),afe hi]at e2;cases e2
  .have gy:k<=i:=aaV hi;rw[abC (by simpa using gy),adP]at e2;have pU:N'[k+(i-k)]?=some x:=by rw[Nat.add_sub_cancel' gy];exact e1
   refine bH (S.ZE (i-k) x pU) λj f1 f2 f3=>?_;unfold jQ at e2;rw[aaC,f1]at e2;have GG:(σ[j]?).join =some v:=by simpa using e2
   have Vj:σ[j]?=some anB:=by
    cases q:σ[j]? with
    |none=>rw[q]at GG;cases GG
    |some y=>rw[q]at GG;simp at GG;rw[GG]
   refine aa I.loc λmo yh Aw=>?_;have ZF:aiK:=by
    rcases kx x aFf with z|z
    .exact .inr aDL
    .exact .inr (ant z)
   refine aa (Aw j x v f2 Vj ZF) λu r l=>⟨u,r,?_⟩;rcases l with⟨z,_⟩|⟨_,c,hc,ya⟩
   .rcases kx x aFf with y|y
    .rw[y]at z;cases z
    .rw[y]at z;cases z
   .obtain⟨c',kN⟩:=h2 x (akN aFf);have ec:=(h1 x c' kN).resolve_right λz=>S.apart _ aFf rfl z.1;cases hc.symm.trans ec.1;refine .inr ⟨?_,c,kN,JW x c _ hc ya⟩;have vz:vZ aEL x:=e3;rcases vz with z|z|z
    .rcases iP (env:=X.env) f3 with y|y<;>cases y.symm.trans z
    .exact .inl z
    .exact .inr z
 .rcases h1 x c hx with y|y
  .obtain⟨v,z⟩:=I.cell x c y.1;exact⟨v,JW x c v y.1 z⟩
  .exact⟨_,y.2.2⟩
 .rcases h1 x c hx with y|y
  .exact I.c8 x c y.1
  .exact I.aJ.fresh (aaE y.2.1)
 .have JX:p∈X.pn++U:=by simpa[iQ]using hp
  refine OZ (I.pin p JX) λe n ne nf d=>⟨keep _ _ e,n,ayz,λz=>?_,d⟩;rcases aat.mp (I.nE p.1 z)with y|y
  .exact ne y
  .exact nf y
 .show _=N'.length;rw[S.len,aau,adP];unfold jQ;rw[aap]
def Qc(X:Cx)(U:aa7)(H:Hp)(C:Addr):Prop:=
 H C=none/\C≠X.env.locals/\X.s₀.heap.objs.size<=C/\(∀x c,ab8->c≠C)/\∀p∈X.pn++U,p.1≠C
def Inv.Qd(I:aa4)(h:Qc X U H C)(hs:Heap.SameBut C s.heap h'):Inv X U σ H {s with heap:=h'}:=by
 exact OZ h λa b c d e=>I.turned (t':=s.toks) (it:=C) (λb o hb q=>(hs.2 b hb).trans q) a b (ant c) d e
theorem qB
  {g:TG}{tt:TT}{te:TE}{E:Value->Shared->Prop}{Qe:Addr->Hp->Prop}{RR:Value->Addr->Result->Shared->Prop}
  (I2:Inv X U σ H1 s2) (T:av3) (cP:tn 0 s2.heap) (f2:∀b∈fp,kW X U H1 b) (S:ai4) (hc:af6)
  (h1:∀x c,ahY->ab8/\ad3) (h2:∀x,ad3->∃c,ahY) (gk:rO k g)
  (BY:∀cl C s H ex,aGC/\aB4/\aDZ)
  (hW:∀p,alM->∃W:Nat->Nat->Hp->Prop,(∃m,aAa)/\∀i m H,W i m H->
   (aA0/\Qe p H)\/
   (aBY/\∀x H',arp->g x ahw H' λBW H2=>tt BW H2 λb H3=>
    if b=true then te BW H3 λv H4=>∃xs m',H4 p=some ag8/\auZ/\m'<m/\W (i+1) m' axR
    else∃m',m'<m/\W (i+1) m' H3))
  (ZG:∀a C s' H',ai5->Qc X U H' C->(∃m,s'.heap.Ns C m)->Qe a H'->RR ab_ C aEe s'):
  wpAny aa6 X.A (newList []) (λacc s3=>wpAny aa6 X.A (newFunctionEnv sc X.env.globals cl [] X.env.qual none .none (aku X.env)) (λQf s4=>
   codeAny aa6 X.A (.compStart ag9 0 ad8 acc {Qf with scope:=relabel sc X.env}) (RR acc Qf.locals) s4) E s3) E s2:=by
 have hD:H1 s2.heap.objs.size=none:=I2.fresh;obtain⟨W,⟨m0,w0⟩,turn⟩:=hW _ hD;have JY:∀b∈fp,auo:=λb hb=>by
  exact aa (aCi cP) λo e _=>aaA e
 refine abf ?_ ao3;have I3:Inv X U σ atg {s2 with heap:=s2.heap.push {cls:= .type "list",data:= .seq ([]:ab0).toArray}}:=I2.P7 (ys:=[]) (its:=[]) (t':=s2.toks) .nil ao3;have JZ:∀b o,aCZ->(s2.heap.push {cls:= .type "list",data:= .seq ([]:ab0).toArray}).get? b=some o:=λb o e=>aah _ e;have ne:∀b∈fp,b≠s2.heap.objs.size:=λb hb=>aaN (JY b hb);have f3:∀b∈fp,kW X U atg b:=λb hb=>⟨by rw[ak (ne b hb)];exact(f2 b hb).1,(f2 b hb).2⟩;have GH:∀b∈fp,b<(s2.heap.push {cls:= .type "list",data:= .seq ([]:ab0).toArray}).objs.size :=λb hb=>by
  rw[acj];exact acB (JY b hb)
 have kX:tn 0 (s2.heap.push {cls:= .type "list",data:= .seq ([]:ab0).toArray}):=T.keep _ _ _ cP λb _ o e=>JZ b o e;generalize ZH:({s2 with heap:=s2.heap.push {cls:= .type "list",data:= .seq ([]:ab0).toArray}}:ab5)=s3 at *;have ZI:s3.heap=s2.heap.push {cls:= .type "list",data:= .seq ([]:ab0).toArray}:=by rw[<-ZH]
 rw[<-ZI]at JZ GH kX;simp only[newFunctionEnv,ahe,if_true];refine aag (wpAny_alloc (aag (wpAny_layCells _ (λname kind cells=>by cases ZJ:kind==NameKind.cell<;>simp[ZJ]) _ _ _ _ ?_)));have ok:=cellsFrom_ok sc.names (s3.heap.push {cls:= .type "dict",data:= .dict #[]}) ajF [] ⟨λ_ _ hm=>(nomatch hm),List.Pairwise.nil⟩ (by rw[acj];exact aas _);rw[acj]at ok;rw[show({s3 with heap:=s3.heap.push {cls:= .type "dict",data:= .dict #[]}}:ab5).heap.objs.size =s3.heap.objs.size+1 from acj ..,nV];refine aag (aao (aao ?_));have J0:∀b o,s3.heap.get? b=some o->(pushCells (s3.heap.push {cls:= .type "dict",data:= .dict #[]}) sc.names).get? b=some o:=λb o e=>pushCells_keeps _ _ b o aiY;have ZK:=(Heap.Ns.new s3.heap (.type "dict")).keeps (pushCells_keeps sc.names _);have g1:∀x c,ahs->ab8/\ad3\/(x,c)∈cellsFrom ajF sc.names []:=λx c e=>by
  rw[afE]at e;cases q:(cellsFrom ajF sc.names []).lookup x with
  |some c'=>rw[q]at e;cases e;exact .inr (abN q)
  |none=>rw[q]at e;exact .inl (h1 x c e)
 have g2:∀x,ad3\/ais->∃c,ahs:=λx e=>by
  rw[afE];cases q:(cellsFrom ajF sc.names []).lookup x with
  |some c=>exact⟨c,rfl⟩
  |none=>
   rcases e with z|z
   .exact h2 x z
   .obtain⟨c,hc⟩:=rN.2 x z;cases q.symm.trans hc
 have XI:∀x c,ab8->c<s3.heap.objs.size:=λx c e=>by
  obtain⟨v,z⟩:=I3.cell x c e;exact z.lt
 have gj:∀x y c,ahs->(cellsFrom ajF sc.names []++cl).lookup y=some c->x=y:=λx y c e1 e2=>by
  rcases g1 x c e1 with a|a<;>rcases g1 y c e2 with b|b
  .exact I3.ok.inj x y c a.1 b.1
  .exact absurd (adS (XI x c a.1) (ok.empty y c b).2) alW
  .exact absurd (adS (XI y c b.1) (ok.empty x c a).2) alW
  .exact name_of_addr ok.apart a b
 have g3:∀x c,ahs->ab8/\ad3\/ais/\s3.heap.objs.size<c/\(pushCells (s3.heap.push {cls:= .type "dict",data:= .dict #[]}) sc.names).IsCell c none:=λx c e=>(g1 x c e).imp_right λz=>⟨rN.1 x c z,(ok.empty x c z).2,(ok.empty x c z).1⟩;clear ok g1 h1 h2;generalize cellsFrom ajF sc.names []++cl=cl at *;generalize pushCells (s3.heap.push {cls:= .type "dict",data:= .dict #[]}) sc.names=h4 at *;generalize eH:upd H1 s2.heap.objs.size (akx [])=H3 at *;generalize eD:s2.heap.objs.size=D at *;have J4:Inv ad6 [] ahw H3 {s3 with heap:=h4,toks:=s3.toks}:=
  CJ (s4:={s3 with heap:=h4,toks:=s3.toks}) I3 S g3 g2 gj f3 GH rfl rfl J0 ZK
 have Td:tn 0 h4:=T.keep _ _ _ kX λb _ o e=>J0 b o e;refine c6 (BY cl s3.heap.objs.size s3 H3 fp) λpg pt pe=>?_;have wx:∀{H':Hp},(∀b∈fp,aol)->∀b∈fp,kW ad6 [] H' b:=λ{H'} hn b hb=>by
  refine tT (f3 b hb) λ_ a1 a2 a3 a4 a5=>?_;refine⟨hn b hb,aaN (GH b hb),λz=>?_,.inl hb,λx c hx=>(g3 x c hx).elim (λz=>a4 x c z.1) λz=>adj (adS (GH b hb) z.2.1),λp hp=>a5 p (by simpa[iQ]using hp)⟩;rcases aat.mp (I3.nE b z)with y|y
  .exact a1 y
  .exact a2 y
 have fin:∀{s':ab5}{H':Hp},aFn->Qe D H'->RR ajZ s3.heap.objs.size aEe s':=λ{s' H'} J5 q=>by
  refine ZG D s3.heap.objs.size s' H' ?_ ⟨J5.free,(aaN I3.lt).symm,I3.sz,λx c hx z=>?_,λp hp z=>?_⟩ (let ⟨m,hn,_⟩:=J5.loc;⟨m,hn⟩) q
  .exact I3.JJ (ch:=fp) J5.os J5.base J5.aJ J5.bare λb hb=>let ⟨_,a1,a2,a3,a4,a5⟩:=f3 b hb;⟨a3,a1,a4,a5⟩
  .exact eU (I3.cell x c hx) λv o ho _=>absurd aFh (by rw[z];exact abi _)
  .exact absurd (aaA (I3.pin p hp).1) (by rw[z];exact abi _)
 have loop:∀s5:ab5,s5={s3 with heap:=h4,toks:=s3.toks}->codeAny aa6 X.A (.compLoop ag9 0 ad8 ajZ (compEnvC sc cl s3.heap.objs.size X.env)) (RR ajZ s3.heap.objs.size) s5:=by
  rintro s5 rfl;refine wJ (λn s'=>∃i H',aFn/\tn i s'.heap/\(∀b∈fp,aol)/\W i n H') ?_ m0 ⟨0,H3,J4,Td,λb hb=>(f3 b hb).1,w0⟩;rintro n s5 ⟨i,H5,J5,Ck,S5,w5⟩;rcases turn i n H5 w5 with⟨stop,qn⟩|⟨go,step⟩
  .refine bF (T.done ad6 rfl rfl rfl hc i [] s5 _ H5 (λ_ _=>False) J5 (wx S5) Ck stop) λr s6 zz=>?_;obtain⟨hr,J6⟩:=zz;subst hr;exact fin J6 qn
  .refine bF (T.item ad6 rfl rfl rfl hc i [] s5 _ H5 (λ_ _=>False) J5 (wx S5) Ck go) λr s6 zz=>aa zz λu hr h6=>?_;subst hr;refine bF h6 λ_ s7 zz=>kM zz λx H7 J7 r7 y7 Vk ZL=>?_;have ZM:=J7.pinned (wx ZL) (T.obj _ _ Vk);refine bF (pg _ s7 _ H7 x u _ ZM r7 (gk _ _ _ _ (step x H7 y7))) λ_ s8 zz=>iq zz λQg H8 J8 q8 l8 k8=>?_
   have back:∀{s9:ab5}{H9:Hp}{m:Nat},Inv ad6 ([]++nJ fp s7.heap) Qg H9 s9->m<n->W (i+1) m H9->
     ∃m,m<n/\∃i H',Inv ad6 [] ahw H' s9/\tn i s9.heap/\(∀b∈fp,aol)/\W i m H':=λ{s9 H9 m} J9 hm w9=>by
    refine⟨m,hm,i+1,H9,(J9.jG).weak l8.symm λj v e=>?_,T.keep _ _ _ Vk λb hb o e=>(J9.pin (b,o) amc).1,λb hb=>?_,w9⟩
    .by_cases hj:j<k
     .rw[abr (by simpa using hj),afe hj]at e;cases e
     .rw[k8 j (aaV hj)];exact e
    .exact aa (aCi Vk) λo e _=>(J9.pin (b,o) amc).2.1
   refine bF (pt _ s8 Qg H8 _ J8 q8) λb s9 zz=>aa zz λH9 J9 q9=>?_;cases b with
   |false=>
    rw[aaF aan]at q9⊢;exact aa q9 λm' hm w'=>back J9 hm w'
   |true=>
    rw[aaB rfl]at q9⊢;refine bF (pe _ s9 Qg H9 _ J9 q9) λy ZN zz=>?_;obtain⟨v,Vl,ZO,ZP,xs,m',hx,hl,hm,w'⟩:=zz;refine bF (qy _ ZN Qg Vl ajZ [v] ajZ [y] (λ_ Vm=>∃m',m'<n/\W (i+1) m' Vm) ZO rfl (akA ZP) ⟨D,xs,v,rfl,rfl,hx,hl,m',hm,w'⟩) λ_ Te zz=>?_;obtain⟨_,Vm,ZQ,_,m'',AA,ZR⟩:=zz;exact back ZQ AA ZR
 exact codeAny_compStart_list (loop _ rfl) (T.self X.A 0 _ _ _ Td (loop _ rfl))
def uu(I:aa4)(S:ai4):
  ∃cl,closureFor sc X.env=pure cl/\(∀x c,ahY->ab8/\ad3)/\(∀x,ad3->∃c,ahY):=
 wI λy hy hf=>I.ok.has y.1 (S.free y hy hf)
def yo(hi:ayK)(S:ai4)(hc:af6)(gk:rO k g)
  (BY:∀cl C U s H ex,aGC/\aB4/\aDZ)
  (hs:∀x,ai_):PE X ag9 aCq:=by
 intro U s σ H Q I h;refine bH (uu I S) λcl Vn h1 h2=>?_;rw[eval_ListComp];refine afL (use:=none) (g:=⟨tg,iter,ifs,0⟩) (gs:=[]) rfl hs Vn S.kind S.loc<|bF (hi U s σ H _ I h) λv s1 q1=>bF q1 λS3 s2 q2=>Xu q2 λit fp tn J H2 e I2 T cP f2 hW=>?_;subst e;refine qB (Qe:=λp H=>Q ahG H) (RR:=λacc C=>compPost aa6 X.A X.xe none aiv acc C) I2 T cP f2 S hc h1 h2 gk (λcl C s H ex=>BY cl C U s H ex) hW ?_;intro a C s' H' I' off ⟨m,hn⟩ q;exact⟨m,hn,λh' qC=>⟨ab_,H',I'.Qd off qC,rfl,q⟩⟩
def nW(hi:ayK)(S:ai4)(hc:af6)(gk:rO k g)
  (BY:∀cl C U s H ex,aGC/\aB4/\aDZ)
  (hs:∀x,ai_) (hN:akh) (hj:X.N[j]?=some y) (hy:as9)
  (ZS:swapsWith ag9 (aku als) Vo.line X.env=pure true):
  PS X (.Assign [als] ag9 Vo) (p6 aCq (cI j)):=by
 intro U s σ H D I h;refine bH (uu I S) λcl Vn h1 h2=>?_;rw[exec_Assign_Name_used _ _ _ _ ZS];refine aag (afZ (aag ?_));show wpAny _ _ (do let _<-comprehension ag9 sc X.env _ (newList []) false (aky iter) (aku aup)) _ _ s;refine aag (abJ (afL (g:=⟨tg,iter,ifs,0⟩) (gs:=[]) (use:=some aup) (Q:=λ_ s'=>SP X U D .next s') rfl hs Vn S.kind S.loc ?_) (λ_ s' hq=>aao (aao hq)) λ_ _ e=>e);refine bF aoS λv s1 q1=>bF q1 λS3 s2 q2=>Xu q2 λit fp tn J H2 e I2 T cP f2 hW=>?_;subst e;refine qB (Qe:=λp H=>D.nx (σ.set j aBI) H) (RR:=λacc C=>compPost aa6 X.A X.xe (aku aup) (λ_ s'=>SP X U D .next s') acc C) I2 T cP f2 S hc h1 h2 gk (λcl C s H ex=>BY cl C U s H ex) hW ?_;intro a C s' H' I' off ⟨m,hn⟩ q;show wpAny _ _ (assign als X.env ab_) _ _ _;refine wpAny_assign_Name (kT I' hN hj (akN hy) (v:= .ref a) rfl (λmJ ZT sb=>?_) (ant hy));refine aa sb λb hb jd=>?_;have ZU:C≠b:=by
  rintro rfl;rcases jd with z|z
  .exact off.2.1 z
  .exact off.2.2.2.1 _ _ z rfl
 exact⟨m,hn.sameBut hb ZU,λh' qC=>⟨_,H',ZT.Qd off qC,q⟩⟩
end
end L2
namespace bN
noncomputable def bO:aa0->aa0->Bool
 |[],[]=>false
 |[],_::_=>true
 |_::_,[]=>false
 |n::u,m::v=>if n=m then bO u v else decide (n<m)
noncomputable def AB(x:aa0):ab3->List aa0
 |[]=>[x]
 |y::r=>if bO y x then y::AB x r else x::y::r
noncomputable def bB:ab3->List aa0
 |[]=>[]
 |x::r=>AB x (bB r)
noncomputable def jR:aa0->ab3->List Int
 |a,[]=>a
 |a,b::r=>jR (if bO b a then b else a) r
end bN
namespace S2
noncomputable def gK(L:ab3)(x:aa0):ab3:=if x∈L then L else L++[x]
noncomputable def jS(l:ab3):ab3:=l.foldl gK []
end S2
namespace Py
open PySem
set_option genInjectivity false
inductive D where
 |cq|bl (b:Bool)|int (i:Int)|tup (xs:ac1)|lst (xs:ac1)
  |bx (t:Nat) (ks:ab3) (vs:ac1)
 deriving Inhabited
noncomputable def bW:Nat:=16777216
mutual
noncomputable def pV:D->D->Bool
 | .cq,b=>match b with| .cq =>true| .bx _ _ _=>true|_=>false
 | .bl x,b=>match b with| .bl y=>x==y| .int j=>(if x then 1 else 0)==j|_=>false
 | .int i,b=>match b with| .bl y=>i==(if y then 1 else 0)| .int j=>i==j|_=>false
 | .tup xs,b=>match b with| .tup ys=>BZ xs ys|_=>false
 | .lst xs,b=>match b with| .lst ys=>BZ xs ys|_=>false
 | .bx _ _ _,b=>match b with| .cq =>true| .bx _ _ _=>true|_=>false
noncomputable def BZ:ac1->ac1->Bool
 |[],ys=>match ys with|[]=>true|_=>false
 |x::xs,ys=>match ys with|[]=>false|y::ys=>pV x y&&BZ xs ys
end
mutual
noncomputable def aF:D->Bool
 | .tup xs=>aY xs
 | .lst _=>false
 | .bx _ _ _=>false
 |_=>true
noncomputable def aY:ac1->Bool
 |[]=>true
 |x::xs=>aF x&&aY xs
end
mutual
noncomputable def gH:D->Nat->Bool
 | .tup xs,n=>match n with|0=>false|n+1=>kY xs n
 | .lst xs,n=>match n with|0=>false|n+1=>kY xs n
 | .bx _ _ _,_=>false
 |_,_=>true
noncomputable def kY:ac1->Nat->Bool
 |[],_=>true
 |x::xs,n=>gH x n&&kY xs n
end
theorem kZ(n:Nat):∀ns:aa0,kY azC n=true
 |[]=>by simp[kY]
 |i::ns=>by simp[kY,gH,kZ n ns]
noncomputable def nX:D->Bool
 | .bx t _ _=>t==2
 |_=>false
@[simp] def LP:D->Bool
 | .bx _ _ _=>false
 |_=>true
inductive wK where
 |len|tuple|list|min|sorted|all
 deriving DecidableEq,Inhabited
inductive XJ where
 |index|rP
 deriving DecidableEq,Inhabited
inductive E where
 |nil|cons (a r:E)
 |var (i:Nat)
 |c (d:D)
 |bin (o:Operator) (a b:E)
 |cmp (o:CmpOp) (a b:E)
 |CK (k:Bool) (es:E)|not (a:E)|neg (a:E)
 |tup (es:E)|lst (es:E)
 |idx (a i:E)
 |sl (a lo hi:E)
 |call (f:Nat) (es:E)
 |prim (p:wK) (es:E)
 |fj (m:XJ) (o:E) (es:E)
 |comp (fr:ahW) (tg:Nat) (it ifs eV:E)
 |iO (es:E)|GI (a:E)|it (a:E)
 |uw (p:wK) (es:E)
  |nY (i:Nat) (k:E)
 |AD (neg:Bool) (k:E) (i:Nat)
  |iW (i:Nat)
 |dk (i:Nat)|dv (i:Nat)
  |OC (a:E)
  |sset (a:E)
 deriving Inhabited
noncomputable abbrev E.u(i:Nat):E:= .cons axr .nil
noncomputable abbrev E.w(i:Nat)(r:E):E:= .cons axr r
abbrev Env:=List ab4
abbrev FT:=Nat->ac1->Option D
noncomputable def rd(b:Bool)(ρ:Env)(i:Nat):air:=
 match ρ[i]? with
 |some (some (o,d))=>if o&&!(b&&LP d) then none else some d
 |_=>none
noncomputable def rQ(ρ:Env)(i:Nat):Bool:=
 match ρ[i]? with
 |some (some (o,_))=>o
 |_=>false
noncomputable def rR(ρ:Env):E->Bool
 | .cons (.var i) r=>rQ ρ i||rR ρ r
 | .cons _ r=>rR ρ r
 |_=>false
noncomputable def nZ(i j:Int):Bool:=(decide (-(2 ^ 64)<i)&&decide (i<2 ^ 64))||(decide (-(2 ^ 64)<j)&&decide (j<2 ^ 64))
noncomputable def bin(o:Operator)(x y:D):air:=
 match o with
 | .Add =>match x,y with
  | .int i,.int j=>some aDG
  | .lst a,.lst b=>if a.length+b.length<=bW then some (akx (a++b)) else none
  | .tup a,.tup b=>if a.length+b.length<=bW then some (akJ (a++b)) else none
  |_,_=>none
 | .Mult =>match x,y with
  | .int i,.int j=>if nZ i j then some (al6 (i*j)) else none
  |_,_=>none
 | .FloorDiv =>match x,y with
  | .int i,.int j=>if 0<j/\j<1073741824 then some (al6 (i/j)) else none
  |_,_=>none
 | .Mod =>match x,y with
  | .int i,.int j=>if 0<j then some (al6 (i%j)) else none
  |_,_=>none
 |_=>none
noncomputable def aI:ac1->Option aa0
 |[]=>some []
 | .int i::r=>(aI r).map (i:: ·)
 |_::_=>none
noncomputable def eW:ac1->Option amX
 |[]=>some []
 | .bl b::r=>(eW r).map (b:: ·)
 |_::_=>none
noncomputable def c_(t:Nat)(x:D):Option aa0:=
 match x with
 | .int i=>if t=0 then some [i] else none
 | .tup xs=>if t=0 then none else aI xs
 |_=>none
noncomputable def find:ab3->ac1->aa0->Option D
 |k::ks,v::vs,x=>if k=x then some v else find ks vs x
 |_,_,_=>none
abbrev XM:=Nat×List aa0×List D
noncomputable def gz(ρ:List ab4)(i:Nat):Option XM:=
 match ρ[i]? with
 |some (some (_,.bx t ks vs))=>if t=2 then none else some (t,ks,vs)
 |_=>none
noncomputable def keysAt(ρ:List ab4)(i:Nat):alZ:=
 match ρ[i]? with
 |some (some (false,.bx 0 ks _))=>some (ks.map λk=> .int aim)
 |_=>none
noncomputable def rS(ρ:List ab4)(i:Nat):alZ:=
 match ρ[i]? with
 |some (some (false,.bx 0 _ vs))=>some vs
 |_=>none
noncomputable def mf(ρ:List ab4)(i:Nat):alZ:=
 match ρ[i]? with
 |some (some (_,.lst xs))=>some xs
 |_=>none
noncomputable def CL(t:Nat):ac1->Option D
 |[k,v]=>(c_ t k).map λx=> .bx t [x] [v]
 |_=>none
noncomputable def cmp(o:CmpOp)(x y:D):anD:=
 match o with
 | .Eq =>if gH x 60&&gH y 60 then some (pV x y) else none
 | .NotEq =>if gH x 60&&gH y 60 then some (!pV x y) else none
 | .IsNot =>match y with| .cq =>some (match x with| .cq =>false|_=>true)|_=>none
 | .NotIn =>match y with
  | .lst ys=>if gH x 60&&gH y 60 then some (!ys.any λz=>pV z x) else none
  |_=>none
 | .Lt =>match x,y with
  | .int i,.int j=>some (aG8 (i<j))
  |_,_=>none
 |_=>none
noncomputable def place(n:Nat)(i:Int):ahM:=if 0<=i then(if i<n then some i.toNat else none) else if -(n:Int)<=i then some (i+n).toNat else none
noncomputable def item(x i:D):air:=
 match x,i with
 | .lst xs,.int k=>(place xs.length k).bind λj=>xs[j]?
 | .tup xs,.int k=>(place xs.length k).bind λj=>xs[j]?
 |_,_=>none
noncomputable def bound(n d:Nat):ag5->Nat
 |none=>d
 |some v=>(if v<0 then max (v+(n:Int)) 0 else min v (n:Int)).toNat
noncomputable def v5(xs:ac1)(lo hi:ag5):ac1:=(xs.drop (bound xs.length 0 lo)).take (bound xs.length xs.length hi-bound xs.length 0 lo)
noncomputable def insI(x:Int):aa0->List Int
 |[]=>[x]
 |y::r=>if x<=y then x::y::r else y::insI x r
noncomputable def sortI:aa0->List Int
 |[]=>[]
 |x::r=>insI x (sortI r)
noncomputable def n6(k:aa0):D:= .tup (k.map .int)
noncomputable def dw:ac1->Option ab3
 |[]=>some []
 | .tup xs::r=>(aI xs).bind λk=>if k=[] then none else(dw r).map (k:: ·)
 |_::_=>none
noncomputable def iR:Int->aa0->Int
 |a,[]=>a
 |a,b::r=>iR (if b<a then b else a) r
noncomputable def seq:D->Option ac1
 | .lst xs=>some xs
 | .tup xs=>some xs
 |_=>none
noncomputable def prim(p:wK)(xs:ac1):air:=
 match p with
 | .len =>match xs with
  |[x]=>(seq x).map λys=> .int ys.length
  |_=>none
 | .tuple =>match xs with
  |[x]=>(seq x).map .tup
  |_=>none
 | .list =>match xs with
  |[x]=>(seq x).map .lst
  |_=>none
 | .min =>match xs with
  |[x]=>(seq x).bind λys=>match aI ys with
   |some ns=>match ns with|[]=>none|a::r=>some (al6 (iR a r))
   |none=>match x with
    | .lst zs=>(dw zs).bind λks=>match ks with|[]=>none|a::r=>some (n6 (bN.jR a r))
    |_=>none
  |_=>none
 | .sorted =>match xs with
  |[x]=>(seq x).bind λys=>(dw ys).map λks=> .lst atG
  |_=>none
 | .all =>match xs with
  |[x]=>match x with
   | .lst ys=>(eW ys).map λbs=> .bl atr
   |_=>none
  |_=>none
noncomputable def ux:D->Option ac1
 | .lst ys=>(dw ys).bind λks=>if(S2.jS ks).length <=720 then some axJ else none
 |_=>none
noncomputable def dz(k:Int):aa0->Option Nat
 |[]=>none
 |n::r=>if n=k then some 0 else(dz k r).map (· + 1)
noncomputable def fj(m:XJ)(o:D)(xs:ac1):air:=
 match m,o,xs with
 | .index,.tup ys,[.int k]=>(aI ys).bind λns=>(dz k ns).map λ(i:Nat)=> .int (i:Int)
 | .rP,.lst ys,[.int k]=>(aI ys).bind λns=>(dz k ns).map λ(i:Nat)=> .int (i:Int)
 |_,_,_=>none
noncomputable def bS(lo:Int):Nat->List D
 |0=>[]
 |n+1=> .int lo::bS (lo+1) n
noncomputable def eM(xs:ac1):alZ:=
 match xs with
 |[.int n]=>if -(2 ^ 62)<=n/\n<=bW then some (bS 0 n.toNat) else none
 |_=>none
noncomputable def bI(k:Int):ac1->List D
 |[]=>[]
 |x::r=> .tup [af_,x]::bI (k+1) r
noncomputable def aH(tg:Nat)(x:D):alZ:=
 match tg with
 |0=>some [x]
 |n+1=>match x with
  | .tup xs=>if xs.length=n+1 then some xs else none
  |_=>none
noncomputable def Qh(ρ:Env)(fr:ahW):Env:=fr.map λi=>(ρ[i]?).join
noncomputable def XN:D->Option Bool
 | .bl b=>some b
 |_=>none
noncomputable def walk(f:D->as_):ac1->Option ac1
 |[]=>some []
 |x::r=>match f x with
  |none=>none
  |some none=>walk f r
  |some (some y)=>(walk f r).map (y:: ·)
noncomputable def eX:D->Option ac1
 | .lst ds=>some ds
 |_=>none
noncomputable def CM:D->Option ac1
 | .tup xs=>some xs.reverse
 |_=>none
noncomputable def n8:ac1->Option auC
 |[]=>some []
 | .tup [.tup xs,v]::r=>(aI xs).bind λk=>(n8 r).map ((k,v):: ·)
 |_::_=>none
noncomputable def eI:D->Option Bool
 | .bl b=>some b
 |_=>none
noncomputable def FW:D->Option Int
 | .int i=>some i
 |_=>none
noncomputable def cutD(x:D)(l h:ag5):air:=
 match x with
 | .lst xs=>some (akx (v5 xs l h))
 | .tup xs=>some (akJ (v5 xs l h))
 |_=>none
noncomputable def uy(p:wK)(xs:ac1):air:=
 match p with
 | .list =>some ag8
 | .tuple =>some ajJ
 |_=>none
noncomputable def inner(ys:ac1)(ρ:Env)(fr:ahW):Env:=ys.map (λy=>some (false,y))++Qh ρ fr
mutual
noncomputable def ev(F:FT):Bool->E->Env->Option D
 |b,.var i,ρ=>rd b ρ i
 |_,.c d,_=>some d
 |_,.bin o a b,ρ=>(ev F true a ρ).bind λx=>(ev F true b ρ).bind λy=>bin o x y
 |_,.cmp o a b,ρ=>(ev F true a ρ).bind λx=>(ev F true b ρ).bind λy=>(cmp o x y).map .bl
 |_,.CK k es,ρ=>(k7 F k es ρ).map .bl
 |_,.not a,ρ=>((ev F false a ρ).bind eI).map λk=> .bl !k
 |_,.neg a,ρ=>((ev F false a ρ).bind FW).map λi=> .int (-i)
 |_,.tup es,ρ=>(dU F false es ρ).bind λxs=>if xs.length<=bW then some ajJ else none
 |_,.lst es,ρ=>(dU F false es ρ).bind λxs=>if xs.length<=bW then some ag8 else none
 |_,.idx a i,ρ=>(ev F true a ρ).bind λx=>(ev F false i ρ).bind λk=>item x k
 |_,.sl a lo hi,ρ=>(ev F true a ρ).bind λx=>(LQ F lo ρ).bind λl=>(LQ F hi ρ).bind λh=>cutD x l h
 |_,.call f es,ρ=>(dU F true es ρ).bind λxs=>(F f xs).bind λd=>if rR ρ es&&!aF d then none else some d
 |_,.prim p es,ρ=>(dU F true es ρ).bind λxs=>prim p xs
 |_,.uw p es,ρ=>((dU F false es ρ).bind eM).bind (uy p)
 |_,.fj m o es,ρ=>(ev F true o ρ).bind λx=>(dU F true es ρ).bind λxs=>fj m x xs
 |_,.comp fr tg it ifs eV,ρ=>(n9 F true it ρ).bind λxs=>if xs.length<=bW then(walk (λx=>(aH tg x).bind λys=>
   (k7 F true ifs aus).bind λk=>if k then(ev F false eV aus).map some else some none) xs).map .lst else none
 |_,.nY i k,ρ=>(gz ρ i).bind λd=>((ev F false k ρ).bind azQ).bind λx=>find d.2.1 d.2.2 x
 |_,.AD neg k i,ρ=>((ev F false k ρ).bind λy=>(gz ρ i).bind λd=>(c_ d.1 y).map λx=> .bl (if neg then !decide anu else decide anu))
 |_,.iW i,ρ=>(gz ρ i).bind λd=>if d.1=0 then(if d.2.1.length<64 then some (akx ((sortI (d.2.1.map λk=>aim)).map .int)) else none)
   else if []∈d.2.1 then none else some awH
 |_,.sset a,ρ=>((ev F true a ρ).bind ux).map .lst
 |_,.nil,_=>none
 |_,.cons _ _,_=>none
 |_,.iO _,_=>none
 |_,.GI _,_=>none
 |_,.it _,_=>none
 |_,.dk _,_=>none
 |_,.dv _,_=>none
 |_,.OC _,_=>none
noncomputable def dU(F:FT):Bool->E->Env->Option ac1
 |_,.nil,_=>some []
 |b,.cons a r,ρ=>(ev F b a ρ).bind λx=>(dU F b r ρ).bind λxs=>some (x::xs)
 |_,_,_=>none
noncomputable def LQ(F:FT):E->Env->Option ag5
 | .nil,_=>some none
 | .cons a _,ρ=>((ev F false a ρ).bind FW).map some
 |_,_=>none
noncomputable def k7(F:FT):Bool->E->Env->Option Bool
 |k,.nil,_=>some k
 |k,.cons a r,ρ=>((ev F false a ρ).bind eI).bind λx=>if x=k then k7 F k r ρ else some x
 |_,_,_=>none
noncomputable def n9(F:FT):Bool->E->Env->Option ac1
 |_,.iO es,ρ=>(dU F false es ρ).bind eM
 |b,.GI a,ρ=>(ev F b a ρ).bind λx=>(seq x).map (bI 0)
 |b,.it a,ρ=>(ev F b a ρ).bind seq
 |_,.dk i,ρ=>keysAt ρ i
 |_,.dv i,ρ=>rS ρ i
 |_,.OC a,ρ=>(ev F false a ρ).bind CM
 |_,_,_=>none
end
inductive C where
 |skip|seq (a b:C)
 |asg (i:Nat) (e:E)
  |fm (i:Nat) (e:E)
  |wL (is:ahW) (e:E)
  |Qi (i j:Nat)
  |CN (i:Nat)
 |upd (i:Nat) (e:E)
 |uz (i:Nat) (ix e:E)
 |app (i:Nat) (e:E)
 |ret (e:E)
 |ifs (c:E) (t u:C)
 |while (c:E) (b:C)
 |for (is:ahW) (tg:Nat) (it:E) (b:C)
  |wM (i:Nat) (t:Nat) (es:E)
  |AF (i:Nat) (k e:E)
  |pop (i j:Nat)
  |ext (i:Nat) (e:E)
  |expr (e:E)
  |raise (k:Nat)
  |fst (x:Nat) (fr:ahW) (it k v:E) (c1:C) (y r f:Nat) (c2:C) (m:Nat) (c3:C) (p q u:E) (g:Nat) (w:E)
 deriving Inhabited
inductive mh where
 |next (ρ:Env)|brk (ρ:Env)|cont (ρ:Env)|ret (d:D)
 deriving Inhabited
noncomputable def put(ρ:Env)(i:Nat)(o:Bool)(d:D):Env:=ρ.set i axq
noncomputable def de(ρ:Env):ahW->ac1->Option Env
 |[],[]=>some ρ
 |i::is,d::ds=>de ajG is ds
 |_,_=>none
noncomputable def iX:Nat:=1000000
noncomputable def jT(c:Env->anD)(b:Env->asH):Nat->Env->Option mh
 |0,_=>none
 |n+1,ρ=>(c ρ).bind λk=>if k then(b ρ).bind λo=>match o with
   | .next ρ'=>jT c b n ρ'
   | .cont ρ'=>jT c b n ρ'
   | .brk ρ'=>some ar4
   | .ret d=>some atv
  else some awN
noncomputable def a_(b:D->Env->asH):ac1->Env->Option mh
 |[],ρ=>some awN
 |x::r,ρ=>(b x ρ).bind λo=>match o with
   | .next ρ'=>a_ b r ρ'
   | .cont ρ'=>a_ b r ρ'
   | .brk ρ'=>some ar4
   | .ret d=>some atv
noncomputable def gb(it:E)(ρ:Env):Env:=
 match it with
 | .it (.var i)=>match ρ[i]? with
  |some (some (true,.lst xs))=>ρ.set i aGp
  |_=>ρ
 | .GI (.var i)=>match ρ[i]? with
  |some (some (true,.lst xs))=>ρ.set i aGp
  |_=>ρ
 |_=>ρ
noncomputable def gD(ρ:Env)(i:Nat):alZ:=
 match ρ[i]? with
 |some (some (true,.lst xs))=>some xs
 |_=>none
noncomputable def wN(ρ:Env)(i:Nat):Option XM:=
 match ρ[i]? with
 |some (some (true,.bx t ks vs))=>if t=2 then none else some (t,ks,vs)
 |_=>none
noncomputable def CO(T:ac1)(q:Nat)(k:aa0)(v:D):alZ:=
 match T[q]? with
 |some (.bx 0 ks vs)=>if ks.length<bW/\k∉ks then some (T.set q (.bx 0 (ks++[k]) anR)) else none
 |_=>none
noncomputable def wO:D:= .bx 2 [] []
noncomputable def jU(ρ:Env)(x:Nat):Bool:=
 match ρ[x]? with
 |some (some (true,.bx t [] []))=>t==2
 |_=>false
noncomputable def uA(ρ:Env):Bool:=ρ.all λo=>match o with
 |some (_,d)=>!nX d
 |none=>true
noncomputable def jV(F:FT)(x y r f:Nat)(c2:Env->asH)(m:Nat)(c3:Env->asH)(p q u:Env->air)(g:Nat)(w:Env->air)(T:ac1)(ρ:Env)(l:ac1):atz:=
 (l.getLast?).bind λz=>(F f [.lst T,z]).bind λd=>if aF z&&aF d then
  (c2 (put (alF y) r false d)).bind λo=>match o with
  | .next Qj=>if jU Qj x then(mf Qj m).bind λms=>if ms.isEmpty then some (T,Qj) else(c3 Qj).bind λo=>match o with
   | .next B0=>if jU B0 x then(u B0).bind λuv=>if aF uv then((p B0).bind FW).bind λpi=>(place T.length pi).bind λpq=>((q B0).bind (c_ 0)).bind λkk=>(CO T pq kk uv).bind λT'=>
     (w B0).bind λwv=>if aF wv then(F g [.lst T',wv]).bind λzd=>match zd with
     | .lst zs=>if aY zs then(gD B0 y).bind λws=>if ws.length+zs.length<=bW then some (T',put B0 y true (akx (ws++zs))) else none else none
     |_=>none
     else none
    else none
    else none
   |_=>none
   else none
  |_=>none
 else none
noncomputable def gL(tn:ac1->Env->ac1->atz)(y:Nat):Nat->ac1->Env->Option ac1
 |0,_,_=>none
 |n+1,T,ρ=>(gD ρ y).bind λl=>if l.isEmpty then some T else(tn T ρ l).bind λs=>gL tn y n s.1 s.2
noncomputable def uB(k v:Env->air)(fr:ahW)(ρ:Env)(x:D):as_:=
 ((k aBH).bind (c_ 0)).bind λkk=>(v aBH).bind λd=>if aF d then some (aku (.bx 0 [kk] [d])) else none
noncomputable def ex(F:FT):C->Env->Option mh
 | .skip,ρ=>some awN
 | .seq a b,ρ=>(ex F a ρ).bind λo=>match o with
  | .next ρ'=>ex F b ρ'
  |o=>some o
 | .asg i e,ρ=>(ev F false e ρ).map λd=> .next ajG
 | .fm i e,ρ=>(ev F false e ρ).bind λd=>match d with
  | .lst xs=>some ar5
  |_=>none
 | .wL is e,ρ=>(ev F false e ρ).bind λd=>((aH is.length d).bind aqa).map .next
 | .Qi i j,ρ=>(gD ρ j).map λxs=> .next apX
 | .CN i,ρ=>some ayx
 | .upd i e,ρ=>((ev F false e ρ).bind eX).bind λps=>(wN ρ i).bind λq=>(n8 ps).bind λkvs=>if q.1=1/\(q.2.1++kvs.map (·.1)).Nodup /\q.2.1.length+kvs.length<=bW then some (akC (akR (.bx 1 (q.2.1++kvs.map (·.1)) (q.2.2++kvs.map (·.2))))) else none
 | .uz i ix e,ρ=>(ev F false e ρ).bind λd=>((ev F false ix ρ).bind FW).bind λk=>match ρ[i]? with
  |some (some (true,.lst xs))=>(place xs.length k).map λj=> .next apJ
  |_=>none
 | .app i e,ρ=>(ev F false e ρ).bind λd=>match ρ[i]? with
  |some (some (true,.lst xs))=>if xs.length<bW then some aBK else none
  |_=>none
 | .ret e,ρ=>(ev F true e ρ).map .ret
 | .ifs c t u,ρ=>((ev F false c ρ).bind eI).bind λk=>if k then ex F t ρ else ex F u ρ
 | .while c b,ρ=>jT (λρ=>(ev F false c ρ).bind eI) (ex F b) iX ρ
 | .for is tg it b,ρ=>(n9 F false it ap9).bind λxs=>a_ (λx ρ=>(aH tg x).bind λys=>(de ρ is ys).bind λρ'=>aAQ) xs ap9
 | .wM i t es,ρ=>if t=2 then none else((dU F false es ρ).bind (CL t)).map λd=> .next aDJ
 | .AF i k e,ρ=>(ev F false e ρ).bind λy=>(wN ρ i).bind λd=>((ev F false k ρ).bind azQ).bind λx=>
   if d.2.1.length<bW/\x∉d.2.1 then some apM else none
 | .pop i j,ρ=>(gD ρ j).bind λl=>(l.getLast?).map λz=> .next azA
 | .ext i e,ρ=>(ev F false e ρ).bind λd=>match d with
  | .lst zs=>(gD ρ i).bind λws=>if ws.length+zs.length<=bW then some aiW else none
  |_=>none
 | .expr e,ρ=>(ev F true e ρ).map λ_=> .next ρ
 | .raise _,_=>none
 | .fst x fr it k v c1 y r f c2 m c3 p q u g w,ρ=>(n9 F true it ρ).bind λxs=>if xs.length<=bW/\x≠y/\aFA/\uA ρ=true then(walk (uB (akt k) (akt v) fr ρ) xs).bind λT=>
   (ex F c1 auc).bind λo=>match o with
   | .next LR=>if jU LR x then(gL (jV F x y r f (ex F c2) m (ex F c3) (akt p) (akt q) (akt u) g (akt w)) y iX T LR).map λT=> .ret (akx T) else none
   |_=>none
  else none
def ZV:ev F b axr ρ=rd b ρ i:=rfl
def vC:ev F m (.c d) ρ=some d:=rfl
def Vp:ev F m aCb ρ=(ev F true a ρ).bind λx=>(ev F true b ρ).bind λy=>bin o x y:=rfl
def LU:ev F m aB_ ρ=(ev F true a ρ).bind λx=>(ev F true b ρ).bind λy=>(cmp o x y).map .bl :=rfl
def Qk:ev F m aGZ ρ=(k7 F k es ρ).map .bl :=rfl
def Ql:ev F m aFr ρ=((ev F false a ρ).bind eI).map λk=> .bl !k:=rfl
def Vq:ev F m (.fj o a es) ρ=(ev F true a ρ).bind λx=>(dU F true es ρ).bind λxs=>fj o x xs:=rfl
def LV:ev F m (akJ es) ρ=(dU F false es ρ).bind λxs=>if xs.length<=bW then some ajJ else none:=rfl
def Vr:ev F m azT ρ=(dU F false es ρ).bind λxs=>if xs.length<=bW then some ag8 else none:=rfl
def LW:ev F m azm ρ=(ev F true a ρ).bind λx=>(ev F false i ρ).bind λk=>item x k:=rfl
def XO:ev F m (.sl a l h) ρ=(ev F true a ρ).bind λx=>(LQ F l ρ).bind λl=>(LQ F h ρ).bind λh=>cutD x l h:=rfl
def Qm:ev F m apG ρ=(dU F true es ρ).bind λxs=>(F f xs).bind λd=>if rR ρ es&&!aF d then none else some d:=rfl
def GJ:ev F m (.prim p es) ρ=(dU F true es ρ).bind λxs=>prim p xs:=rfl
def mP:dU F b apa ρ=(ev F b a ρ).bind λx=>(dU F b r ρ).bind λxs=>some (x::xs):=rfl
def GK:k7 F k apa ρ=((ev F false a ρ).bind eI).bind λx=>if x=k then k7 F k r ρ else some x:=rfl
def XQ:n9 F b (.it a) ρ=(ev F b a ρ).bind seq:=rfl
def Vs:n9 F b aFs ρ=(dU F false es ρ).bind eM:=rfl
def Qn:ev F m (.uw p es) ρ=((dU F false es ρ).bind eM).bind (uy p):=rfl
def LX:ev F m aje ρ=(n9 F true it ρ).bind λxs=>if xs.length<=bW then(walk (λx=>(aH tg x).bind λys=>
   (k7 F true ifs aus).bind λk=>if k then(ev F false eV aus).map some else some none) xs).map .lst else none:=rfl
def Vt:ev F m aB7 ρ=(gz ρ i).bind λd=>((ev F false k ρ).bind azQ).bind λx=>find d.2.1 d.2.2 x:=rfl
def Qo:ev F m (.AD n k i) ρ=((ev F false k ρ).bind λy=>(gz ρ i).bind λd=>(c_ d.1 y).map λx=> .bl (if n then !decide anu else decide anu)):=rfl
def ZW:ex F .skip ρ=some awN:=rfl
def rV:ex F (.seq a b) ρ=(ex F a ρ).bind λo=>match o with
  | .next ρ'=>ex F b ρ'
  |o=>some o:=rfl
def Vu:ex F azn ρ=(ev F false e ρ).map λd=> .next ajG:=rfl
def LY:ex F aB9 ρ=(ev F false e ρ).bind λd=>match d with
  | .lst xs=>some ar5
  |_=>none:=rfl
def ZX:ex F (.uz i x e) ρ=(ev F false e ρ).bind λd=>((ev F false x ρ).bind FW).bind λk=>match ρ[i]? with
  |some (some (true,.lst xs))=>(place xs.length k).map λj=> .next apJ
  |_=>none:=rfl
def Vv:ex F aGX ρ=(ev F false e ρ).bind λd=>match ρ[i]? with
  |some (some (true,.lst xs))=>if xs.length<bW then some aBK else none
  |_=>none:=rfl
def Qp:ex F aGV ρ=(ev F false e ρ).bind λd=>match d with
  | .lst zs=>(gD ρ i).bind λws=>if ws.length+zs.length<=bW then some aiW else none
  |_=>none:=rfl
def Vw:ex F (.wL is e) ρ=(ev F false e ρ).bind λd=>((aH is.length d).bind aqa).map .next :=rfl
def LZ:ex F aDM ρ=(ev F true e ρ).map .ret :=rfl
def k9:ex F (.ifs c t u) ρ=((ev F false c ρ).bind eI).bind λk=>if k then ex F t ρ else ex F u ρ:=rfl
def L4:ex F (.for l g t b) ρ=(n9 F false t (gb t ρ)).bind λxs=>a_ (λx ρ=>(aH g x).bind λys=>(de ρ l ys).bind λρ'=>aAQ) xs (gb t ρ):=rfl
structure Fd where
 par:Nat
 kO:Nat
 body:C
 deriving Inhabited
noncomputable def ao(d:Fd)(xs:ac1):Env:=xs.map (λx=>some (false,x))++List.replicate (d.kO-d.par) none
noncomputable def out:asH->Option D
 |some (.ret d)=>some d
 |some (.next _)=>some .cq
 |_=>none
noncomputable def run(P:aBW):Nat->FT
 |0,_,_=>none
 |n+1,f,xs=>match P[f]? with
  |some d=>if xs.length=d.par then out (ex (run P n) d.body (ao d xs)) else none
  |none=>none
end Py
namespace L2
open PySem PyProof.Rows
def uC(val:Nat->Int):∀(k:Nat),∀(ns:aa0),(∀i,i<k->ns[i]?=some (val (i+1)))->val (argBest (λi j=>aEX) k)=Py.iR (val 0) (ns.take k):=by
 have snoc:∀(ns:aa0) (a b:Int),Py.iR a (ns++[b])=if b<Py.iR a ns then b else Py.iR a ns:=by
  intro ns;induction ns with
  |nil=>intro a b;rfl
  |cons x ns ih=>intro a b;exact ih _ b
 intro k;induction k with
 |zero=>intro ns _;rfl
 |succ k ih=>
  intro ns h;have hk:=h k (abY k);have Qq:=ih ns λi hi=>h i (acB hi);have e:ns.take (k+1)=ns.take k++[val (k+1)]:=by
   rw[List.take_add_one,hk];rfl
  rw[e,snoc,<-Qq];show val (if(aG8 (val (k+1)<val (argBest _ k)))=true then k+1 else argBest _ k)=_;by_cases c:val (k+1)<val (argBest (λi j=>aEX) k)
  .rw[aaB (decide_eq_true c),aaB c]
  .rw[aaF (by simpa using c),aaF c]
def ints_get:∀{vs:ab0}{ns:aa0},ao7->∀(i:Nat) (v:Value),vs[i]?=some v->∃t,v= .int (ns.getD i 0) t:=λ{vs ns} h=>by
 induction h with
 |nil=>intro i v h;simp at h
 |cons n t r ih=>
  intro i v h;cases i with
  |zero=>simp at h;subst h;exact⟨t,rfl⟩
  |succ i=>
   obtain⟨t',e⟩:=ih i v (by simpa using h);exact⟨t',by simpa using e⟩
section
variable {prog:ac7}{w:World}{A:ahp}{E:Value->Shared->Prop}{s:ab5}{l:Addr}
def mi(hh:af4)(hl:ay1\/IsTup s.heap l vs.toArray)(hi:IntsAre vs (n::ns))
  (h:∀h' tk t,(∀b o,ab2->ad4)->Q (arF (Py.iR n ns)) {s with heap:=h',toks:=tk}):wpAny aa2 A (arC (.builtin "min")) Q E s:=by
 have len:=hi.length;have wQ:∀(i:Nat) (v:Value),vs.toArray[i]?=some v->∃t,v=Value.int aq2 t:=λi v e=>ints_get hi i v (by simpa using e);have best:(n::ns).getD (argBest (λi j=>arK) ns.length) 0=Py.iR n ns:=by
  have:=uC (λi=>aq2) ns.length ns (λi hi=>by simp[hi]);simpa using this
 have fin:∀(v:Value) (h':Heap) (tk:Nat),vs.toArray[argBest (λi j=>arK) (vs.toArray.size-1)]?=some v->(∀b o,ab2->ad4)->Q v {s with heap:=h',toks:=tk}:=λv h' tk hP hk=>by
  have e:vs.toArray.size-1=ns.length:=by rw[aay,len];simp
  rw[e]at hP;obtain⟨t,rfl⟩:=wQ _ v hP;rw[best];exact h h' tk t hk
 have pos:0<vs.toArray.size:=by rw[aay,len];simp
 rcases hl with hl|hl
 .have aU:am4:=by obtain⟨_,e,_⟩:=hl;exact aaA e
  refine call_min_walk (acO hl ?_);refine⟨_,[_,l],[_],_,_,_,_,rfl,ahl (A:=A.in1) hh s.heap.objs.size l az5 vs.toArray,at4,λb hb=>?_,pos,CmpOf.ints_lt (λi=>aq2) wQ,λv h' tk hP hk=>fin v h' tk hP λb o e=>hk b o ?_ aiY⟩
  .show b<(s.heap.push _).objs.size;rw[acj];rcases aat.mp hb with rfl|hb
   .exact abY _
   .rw[aar.mp hb];exact acB aU
  .intro hm;rw[aar.mp hm]at e;exact absurd ajO alW
 .have qq:s.heap.IsTuple l vs.toArray:=hl;have aU:am4:=by obtain⟨_,e,_⟩:=hl;exact aaA e
  refine call_min_walk (adO qq ?_);refine⟨_,[_,l],[_],_,_,_,_,rfl,Walks.tuple (A:=A.in1) hh s.heap.objs.size l az5 vs.toArray,⟨ah3,qq.push _⟩,λb hb=>?_,pos,CmpOf.ints_lt (λi=>aq2) wQ,λv h' tk hP hk=>fin v h' tk hP λb o e=>hk b o ?_ aiY⟩
  .show b<(s.heap.push _).objs.size;rw[acj];rcases aat.mp hb with rfl|hb
   .exact abY _
   .rw[aar.mp hb];exact acB aU
  .intro hm;rw[aar.mp hm]at e;exact absurd ajO alW
end
open PySem.Spec
open AutoSeq1 (wpAny_loadPart')
noncomputable abbrev uD(l:Addr):Obj:={cls:= .type "tuple_iterator",data:= .fields #[aic,aB8]}
noncomputable abbrev L5(it:Addr):Obj:={cls:= .type "enumerate",data:= .fields #[.none,.bool false,ad8,rawInt 0,.none,.none]}
def uE(l:Addr)(items:ae2)(n:Nat)(GL:ahQ)(sl:apw):
  Meets (Builtin.«enumerate.__new__» ⟨[.type "enumerate",aic],[]⟩) (λ_ R s=>s.heap.get? l=some {cls:= .type "tuple",dict:=GL,data:= .seq items n,slots:=sl}/\
   R (.ok (ak6 (.ref (s.heap.push (uD l)).objs.size))) {s with heap:=(s.heap.push (uD l)).push aBX}):=
 .of_wp λprog w A R s h=>by
  obtain⟨hp,g,d,tk,os⟩:=s;obtain⟨hl,h⟩:=h;have sb:=sub_enumerate;have hL:Heap.IsTuple auQ l items:=⟨_,hl,rfl,n,rfl⟩;wp_walk using acS hl;refine wpAny_stack_any λst=>aao ?_;split
  .rename_i c _ _ _ _ _;cases (c==Value.type "enumerate")
   .wp_walk using acS hl,adO hL;exact⟨_,rfl,h⟩
   .wp_walk using acS hl,adO hL;exact⟨_,rfl,h⟩
  .wp_walk using acS hl,adO hL;exact⟨_,rfl,h⟩
section
variable {prog:ac7}{w:World}{A:ahp}{E:Value->Shared->Prop}{s:ab5}
def wR(hL:arT)
  (h:∀h',IsEnum h' alS s.heap.objs.size 0 .none ->h'.IsTupleIter s.heap.objs.size l 0->h'.objs.size=s.heap.objs.size+2->
   (∀b o,ab2->ad4)->Q (akE alS) {s with heap:=h'}):
  wpAny aa2 A (arC (.type "enumerate")) Q E s:=by
 obtain⟨⟨c,GL,dt,sl⟩,hl,hc,n,hd⟩:=hL;have kN:c= .type "tuple":=hc;have jC:dt= .seq items n:=hd;subst kN jC;refine callType_new F.called_enumerate aa1 (F.typeCall_enumerate_1 _) (F.newCall_enumerate_1 _) (λobj=>afm obj _) F.entry_enumerate_new (uE l items n GL sl) ⟨hl,?_⟩;have hz:(s.heap.push (uD l)).objs.size =s.heap.objs.size+1:=acj ..;have he:IsEnum ((s.heap.push (uD l)).push aBX) alS s.heap.objs.size 0 .none :=by
  have q:=aav (s.heap.push (uD l)) (o:=L5 s.heap.objs.size) rfl;rw[hz]at q;exact q
 show _/\_;rw[hz];exact⟨⟨_,he,rfl⟩,h _ he ⟨_,aah _ ag6,rfl,rfl⟩ (by rw[acj,hz]) λb o x=>aah _ (aAr x)⟩
def uF(qa:azy)(hl:arT)(hx:items[i]?=some x)
  (hQ:∀h',h'.IsTupleIter it l (i+1)->ajX->Q x {s with heap:=h'}):apH:=by
 refine bH (id qa) λo ho hc hd=>?_;obtain⟨ol,J3,_,nl,J_⟩:=hl;unfold Builtin.SmallTypes.nextOf;refine aag (abG (name:=Str.ofString "__next__") qa.typeIs adg (abt adg qa.typeIs afv ?_ (afp _)));show wpAny _ _ (field ad8 0 >>= _) _ _ s;refine aag (ace ho hd (x:= .ref l) rfl ?_)
 first
  |(show wpAny _ _ (if aiP=true then _ else _) _ _ s;rw[aaF (show¬aGq from aan)])
  |skip
 show wpAny _ _ (field ad8 1 >>= _) _ _ s;refine aag (ace ho hd (x:= .int i 0) rfl ?_);show wpAny _ _ (seqItems? aic >>= _) _ _ s;refine aag (ado J3 J_ ?_);simp only[abU,hx];refine aag (abR ho hd ab1 (aao ⟨x,rfl,aao (hQ _ ⟨_,abu _ ho awa,(adZ ..).trans hc,?_⟩ (abA ..))⟩));rw[aby hd];simp[rawInt]
def uG(hh:af4)(qa:azy)(hl:arT)(hx:items[i]?=none)
  (hE:∀h' e,akk->(∃o,h'.get? e=some o/\o.cls= .type "StopIteration")->E ajd {s with heap:=h'}):apH:=by
 refine bH (id qa) λo ho hc hd=>?_;obtain⟨ol,J3,_,nl,J_⟩:=hl;unfold Builtin.SmallTypes.nextOf;refine aag (abG (name:=Str.ofString "__next__") qa.typeIs adg (abt adg qa.typeIs afv ?_ (afp _)));show wpAny _ _ (field ad8 0 >>= _) _ _ s;refine aag (ace ho hd (x:= .ref l) rfl ?_)
 first
  |(show wpAny _ _ (if aiP=true then _ else _) _ _ s;rw[aaF (show¬aGq from aan)])
  |skip
 show wpAny _ _ (field ad8 1 >>= _) _ _ s;refine aag (ace ho hd (x:= .int i 0) rfl ?_);show wpAny _ _ (seqItems? aic >>= _) _ _ s;refine aag (ado J3 J_ ?_);simp only[abU,hx]
 first
  |refine aag (adx (aag (abR ho hd ab1 ?_)))
  |refine aag (adx (aag (abR ho hd ab1 (aag (agb ?_)))))
 show wpAny _ _ (newExc (.type "StopIteration") [] >>= _) _ _ _;refine aag ?_;simp only[newExc,newTuple];refine aag (abf ?_ (by size_fits));refine aag (m:=firstArgMember _ _) (aeP (a:=Value.none) (by first|rfl|(simp only[firstArgMember];rfl)) ?_);refine abf ?_ (by size_fits);simp only[raiseNew];refine aag (afq ?_)
 first|rw[show A.in1.handled=none from hh]|rw[hh]
 exact aag (aao (agc (hE _ _ (((abA ..).extBut.push _).push _) ⟨_,ag6,rfl⟩)))
end
def AG(hh:af4)(it l:Addr)(eJ:l≠it)(items:ae2):
  Draws prog w A it [it,l] items.size (λi v=>items[i]?=some v) (λi h=>h.IsTupleIter it l i/\h.IsTuple l items) where
 live:=λ_ _ st=>let ⟨o,ho,_⟩:=st.1;⟨o,ho⟩
 frame:=λ_ _ _ st hk=>⟨st.1.at λo e=>hk it ab1 o e,st.2.at λo e=>hk l ab1 o e⟩
 item:=λi s Q E hi st hQ=>uF st.1 st.2 (x:=items[i]) (by simp[hi]) λh' L6 qC=>hQ _ h' s.toks (by simp[hi]) ⟨L6,st.2.extBut qC.extBut eJ⟩ qC
 done:=λs Q E st hE=>uG hh st.1 st.2 ab1 hE
section
variable {X:Cx}{U:aa7}{σ:List aps}{H H':Hp}{s:ab5}{h':Heap}
def Inv.yr{ch:ae_}(I:aa4)(k:∀b o,b∉ch->ab2->ad4)(hf:∀b∈ch,av6):Inv X U σ H {s with heap:=h',toks:=t'}:=by
 have Pd:∀b u,apd->b∉ch:=λb u e z=>by rw[(hf b z).1]at e;cases e
 refine I.step (g':=s.gens) (d':=s.drawn) (ch:=ch) (λb hb=>?_) (λb o _ _ hc e _=>k b o hc e) (λb o _ _ hc e _=>⟨o.slots,k b o hc e⟩) (λ_ _ _ _ n=>n)
  (λb o hc e=>⟨o,k b o hc e⟩) (λ_ _ e=>e) (λ_ _ _ e=>e) (λb ps e=>⟨#[],by rw[e];simp⟩) (λm hm=>?_) (λb u e=>?_) I.bare
 .exact tT (hf b hb) λ_ f1 _ f3 f4 f5=>⟨f3,f1,f4,f5⟩
 .exact kP hm λo es ep ho r=>⟨o,es,ep,k _ o (λz=>(hf _ z).2.1 rfl) ho,r⟩
 .refine(I.aJ b u e).mG (λc v hc q=>k c v ?_ q) (λ_ q=>q) λ_ _ q=>q;rcases hc with z|z
  .rw[z];exact Pd b u e
  .exact Pd c _ z
end
structure L7(K:ay)(a it:Addr)(Sq:Hp->ad5->Prop)(Tf:Heap->ae2->Prop)(OD:Nat->Heap->Prop):Prop where
 get:∀{X:Cx}{U:aa7}{σ:St}{H:Hp}{s:ab5}{xs:ad5},X.K=K->aa4->aGy->∃its:ab0,aoi/\Tf s.heap its.toArray
 inj:∀{X:Cx}{U:aa7}{σ:St}{H:Hp}{s:ab5}{xs ys:ad5},X.K=K->aa4->aGy->Sq H ys->xs=ys
 dr:∀(prog:ac7) (w:World) (A:ahp) (items:ae2),af4->Draws prog w A it [it,a] items.size (λi v=>items[i]?=some v) (λi h=>OD i h/\Tf h items)
 obj:∀{i:Nat}{h:Heap},OD i h->∃o,arI/\∀v,o.data≠ .cell v
 at':∀{i:Nat}{h h':Heap},OD i h->(∀o,arI->h'.get? it=some o)->OD i h'
 ne:∀{h:Heap}{e:Addr}{i:Int}{old:Value}{items:ae2},aGG->Tf h items->e≠a
noncomputable def Tg(Sq:Hp->ad5->Prop):It:=
 ⟨λi H=>∃xs x,aGy/\xs[i]?=some x,λi H x H'=>∃(t:Addr) (y:V),H t=none/\x= .ref t/\H'=upd H t (akJ [ahH,y])/\∀xs,aGy->xs[i]?=some y,λi H=>∃xs,aGy/\xs.length=i⟩
def qD{w:World}{K:ay}(S:L7 K a it Sq Tf OD)(eJ:e≠it):
  rE P w K asb (Tg Sq) [e,it] e (λi h=>(∃old,aGG)/\OD i h) where
 mem:=by simp
 obj:=λi h st b hb=>by
  obtain⟨⟨old,he⟩,hi⟩:=st;rcases aat.mp hb with rfl|hb
  .exact⟨_,he,λv z=>by cases z⟩
  .rw[aar.mp hb];exact S.obj hi
 keep:=λi h h' st k=>⟨let ⟨old,he⟩:=st.1;⟨old,k e ab1 _ he⟩,S.at' st.2 λo z=>k it ab1 o z⟩
 item:=by
  intro X hP hw hK hc i U s σ H E I hf st hg;subst hP hw hK;obtain⟨⟨old,he⟩,hi⟩:=st;refine eU hg λxs x hq hx=>aa (S.get rfl I hq) λits rv hX=>aa aC3 λu hu ru=>?_;have aU:i<its.toArray.size:=by
   have:=(aax.mp hu).1;simpa using this
  have ZY:e∉[it,a]:=λz=>by
   rcases aat.mp z with z|z
   .exact eJ z
   .exact S.ne he hX aGt
  refine wpAny_pyNext_enum_itemD ark he ⟨hi,hX⟩ aU eJ ZY λv h' tk hP JF mI hT hsz hk=>?_;have hP:its.toArray[i]?=some v:=hP;have ev:v=u:=by
   have q:its[i]?=some v:=by simpa using hP
   rw[hu]at q;exact(aaQ q).symm
  subst ev;refine⟨_,rfl,wpAny_letOwnedTupleGo_enum JF λFX Vx GN=>?_⟩;have GN:Heap.SameBut e h' FX:=GN;have ZZ:e<s.heap.objs.size:=aaA he;have ltI:it<s.heap.objs.size:=by obtain⟨o,ho,_⟩:=S.obj hi;exact aaA ho
  have I1:Inv X U σ (alE azX) {s with heap:=s.heap.push {cls:= .type "tuple",data:= .seq #[.int i tk,v]}}:=
   I.laid (t':=s.toks) (λb o z=>aah _ z) ac9 ⟨by show 2<=sizeLine;decide,[.int i tk,v],.cons ⟨_,rfl⟩ (akA ru),jB.new s.heap _⟩
  have wU:ani:=I.aJ.fresh ac9;have Qr:∀b∈[e,it],(upd H s.heap.objs.size azX) b=none:=λb hb=>by
   have jd:b≠s.heap.objs.size:=by
    rcases aat.mp hb with rfl|hb
    .exact aaN ZZ
    .rw[aar.mp hb];exact aaN ltI
   rw[ak jd];exact(hf b hb).1
  have I2:Inv X U σ (alE azX) {s with heap:=FX,toks:=tk+1}:=by
   have key:∀b o,b∉[e,it]->(s.heap.push {cls:= .type "tuple",data:= .seq #[.int i tk,v]}).get? b=some o->arR:=λb o hb z=>by
    have BV:b≠e:=λq=>hb (by simp[q]);have XR:b≠it:=λq=>hb (by simp[q]);refine(GN.2 b BV).trans ?_;rcases Heap.get?_push_cases z with⟨rfl,rfl⟩|z
    .exact hT
    .exact hk b o BV XR z
   have J:=I1.yr (h':=FX) (t':=tk+1) (ch:=[e,it]) key λb hb=>⟨Qr b hb,(hf b hb).2⟩;exact J
  refine⟨ab6,_,I2,rfl,⟨s.heap.objs.size,x,wU,rfl,rfl,λys hy=>by rw[S.inj rfl I hy hq];exact hx⟩,⟨⟨v,?_⟩,S.at' mI.1 λo z=>(GN.2 it (abF eJ)).trans z⟩,Qr⟩;have:((i+1:Nat):Int)=(i:Int)+1:=by push_cast;rfl
  rw[this];exact Vx
 done:=by
  intro X hP hw hK hc i U s σ H E I hf st hg;subst hP hw hK;obtain⟨⟨old,he⟩,hi⟩:=st;refine aa hg λxs hq ai=>?_
  try clear hg
  subst ai;refine aa (S.get rfl I hq) λits rv hX=>?_;have hl:xs.length=its.toArray.size:=by rw[aay];exact rv.length
  rw[hl]at hi he;refine wpAny_pyNext_enum_endD ark he ⟨hi,hX⟩ λh' hx=>⟨rfl,?_⟩;exact I.yr (t':=s.toks) (ch:=[e,it]) (λb o hb z=>hx b o (λq=>hb (by simp[q])) z) hf
 self:=λ_ _ _ _ _ st h=>let ⟨⟨_,he⟩,_⟩:=st;afM he h
def CP{K:ay}(h:a≠it):L7 K a it (λH xs=>ajW) (λh xs=>h.IsTuple a xs) (λi h=>aEV) where
 get:=λhK I q=>by subst hK;obtain⟨its,r,t,_⟩:=I.tuple q;exact⟨its,r,t⟩
 inj:=λhK I q q'=>by subst hK;exact I.kU q q'
 dr:=λprog w A items hh=>AG hh it a h items
 obj:=λzz=>bH zz λo e c d=>⟨o,e,λv z=>by rw[d]at z;cases z⟩
 at':=λst k=>st.at k
 ne:=λhe ⟨o,e,c,_⟩ z=>by subst z;rw[he]at e;cases e;injection c with c;exact absurd c aa1
def CQ{K:ay}(h:a≠it):L7 K a it (λH xs=>anZ) (λh xs=>h.IsList a xs) (λi h=>aGe) where
 get:=λhK I q=>by subst hK;obtain⟨its,r,t,_⟩:=I.list q;exact⟨its,r,t.isList⟩
 inj:=λhK I q q'=>by subst hK;exact I.uf q q'
 dr:=λprog w A items hh=>Draws.list hh it a h items
 obj:=λzz=>bH zz λo e c d=>⟨o,e,λv z=>by rw[d]at z;cases z⟩
 at':=λst k=>st.at k
 ne:=λhe ⟨o,e,c,_⟩ z=>by subst z;rw[he]at e;cases e;injection c with c;exact absurd c aa1
def Vy(K:ay)(ta:TA):TI:=λσ H R=>ta σ H λvs H1=>∃a xs,vs=[ab_]/\((aDw/\R (Tg λH ys=>cH K H a ys) H1)\/(cK K H1 a xs/\R (Tg λH ys=>cK K H a ys) H1))
def GO{X:Cx}{ta:TA}(hg:Gl X "enumerate")(hm:X.mg "enumerate"=none)(ha:aGE)(hs:ahJ:=by rfl):
  PI X asb (alv (.Name "enumerate" p)) (Vy X.K ta):=by
 intro U s σ H R I h;refine Call_ (jc I hg hm PyProof.Rows.boot_enumerate (acG (bF ah7 λus s1 zz=>ba zz λvs H1 I1 r1 q1=>?_) hs rfl));refine eU q1 λb xs ai q=>?_
 try clear q1
 subst ai;cases r1 with
 |cons r rr=>
  cases rr;cases r;have fin:∀(h':Heap),h'.objs.size=s1.heap.objs.size+2->(∀b o,s1.heap.get? b=some o->ad4)->Inv X U σ H1 {s1 with heap:=h'}/\∀c∈[amF,aia],kW X U H1 c:=λh' _ hk=>by
   refine⟨I1.kept (t':=s1.toks) hk,λc hc=>?_⟩;have wV:s1.heap.objs.size<=c:=by
    rcases aat.mp hc with rfl|hc
    .exact aho _
    .rw[aar.mp hc];exact aas _
   exact I1.ui wV (I1.aJ.fresh wV)
  rcases q with⟨hq,hR⟩|⟨hq,hR⟩
  .refine bH (I1.tuple hq) λits rv t _=>?_;have ht:s1.heap.IsTuple b its.toArray:=t;have hb:aDy:=by obtain⟨o,e,_⟩:=ht;exact aaN ajO
   refine wR ht λh' he qa hsz hk=>?_;obtain⟨J1,J2⟩:=fin h' hsz hk;exact afM he ⟨amF,[amF,aia],_,_,H1,rfl,J1,qD (CP hb) aCH,aFw,J2,hR⟩
  .refine bH (I1.list hq) λits rv t _=>?_;have ht:s1.heap.IsList b its.toArray:=t.isList;have hb:aDy:=by obtain⟨o,e,_⟩:=ht;exact aaN ajO
   refine call_enumerate_list ht λh' he qa hsz hk=>?_;obtain⟨J1,J2⟩:=fin h' hsz hk;exact afM he ⟨amF,[amF,aia],_,_,H1,rfl,J1,qD (CQ hb) aCH,aFw,J2,hR⟩
section
variable {prog:ac7}{w:World}{A:ahp}{E:Value->Shared->Prop}{s:ab5}
theorem uH(eJ:t≠it):∀(n i:Nat) (s:ab5) (Q:ab0->ab5->Prop),s.heap.IsListIter it t i->asp->i+n<=items.size->
  (∀h',h'.IsListIter it t (i+n)->ajX->Q ((items.toList.drop i).take n) {s with heap:=h'})->wpAny aa2 A (draw ad8 n) Q E s
 |0,i,s,Q,qa,_,_,hQ=>aao (by simpa using hQ s.heap qa (Heap.SameBut.refl ..))
 |n+1,i,s,Q,qa,ht,wV,hQ=>by
  have aU:aDg:=(aaU aiD wV);show wpAny _ _ (pyNext ad8 >>= _) Q E s;refine aag (adM qa ht (x:=items[i]) (by simp[aU]) λh1 L8 OF=>?_);refine aag (abq (uH eJ n (i+1) _ _ L8 (ht.extBut OF.extBut eJ) (O5 alA wV) λh2 Vz Th=>aao ?_));have hd:items.toList.drop i=items[i]::items.toList.drop (i+1):=by simp[abH,aU]
  have q:=hQ h2 (by rw[show i+(n+1)=i+1+n by exact abl alA];exact Vz) (OF.trans Th);rw[hd,List.take_succ_cons]at q;exact q
def mQ(hh:af4)(ht:asp)
  (hQ:∀h',ata->Q items.toList {s with heap:=h'}):wpAny aa2 A (unpackItems apK items.size none) Q E s:=by
 have aU:t≠s.heap.objs.size:=by obtain⟨o,ho,_⟩:=ht;exact aaN aFh
 have push:∀o,(s.heap.push o).IsList t items:=λo=>by obtain⟨ol,e,r⟩:=ht;exact⟨ol,aiY,r⟩
 unfold unpackItems;refine aag ?_;unfold notIterableAtAll;refine aag (aez ht.typeIs F.slot_list_iter.lookup (aao ?_));simp only[aco,if_false];refine aag (abq (acO ht ?_));refine aag (abq (uH aU items.size 0 _ _ ⟨_,ag6,rfl,rfl⟩ (push _) (aaw az1) λh1 L8 OF=>?_));have mM:List.take items.size (List.drop 0 items.toList)=items.toList:=by
  rw[adK];exact abP ab1
 rw[mM,aaF ab1];have VA:h1.IsList t items:=(push _).extBut OF.extBut aU;refine aag (abq (aeW hh L8 VA ab1 λh2 OG=>?_));simp only[Option.isSome_none,aco,if_false];exact aao (hQ h2 λb o hb e=>OG b o hb (OF.extBut b o hb aiY))
def wW(hh:af4)(ht:asp)
  (hn:(assignEach elts env).length =items.size) (Qs:(assignEach elts env).findIdx? (·.1)=none)
  (h:∀h',ata->wpAny aa2 A (assignInOrder ((assignEach elts env).map (·.2)) items.toList) Q E {s with heap:=h'}):
  wpAny aa2 A (assign (.Tuple elts x1 pos) env apK) Q E s:=by
 rw[PyProof.Rows.assign_Tuple];refine aag (afZ ?_);unfold unpack;rw[hn,Qs];exact aag (abq (mQ hh ht h))
end
def Qt(K:ay)(n:Nat)(t:Lf):TG:=λv σ H Q=>∃a xs,alb/\(anZ\/ajW)/\aFy/\t xs σ H Q
def CS(hc:af6)(h:Oy X es t)
  (hn:(assignEach es X.env).length =n:=by rfl) (mI:(assignEach es X.env).findIdx? (·.1)=none:=by rfl):PG X avz (Qt X.K n t):=by
 intro U s σ H v u Q I r hw;obtain⟨a,xs,e1,hq,hl,hw⟩:=hw;subst e1;cases r;rcases hq with hq|hq
 .obtain⟨its,rv,ht,hz⟩:=I.list hq;refine wW ahx ht.isList (by simp[hn,<-hl,rv.length]) mI λh' hx=>?_;have I1:Inv X U σ H {s with heap:=h'}:=I.kept (t':=s.toks) λb o e=>hx b o ayz e;exact h U _ σ H xs _ Q I1 (by simpa using rv) hw
 .exact Lh hc h hn mI U s σ H ab_ ab_ Q I rfl ⟨a,xs,rfl,hq,hl,hw⟩
open AutoSeq1 (wpAny_loadPart')
noncomputable abbrev rW(items:ae2)(x:Value)(i:Nat)(_:ale):Sem (ForInStep ale):=
 match items[i]? with
 |some y=>do
  let c<-eqBool y x
  if c=true then do
   let r<-retInt (i:Int)
   pure (ForInStep.done (some r,()))
  else pure (akz (none,()))
 |_=>pure (akz (none,()))
section
variable {prog:ac7}{w:World}{A:ahp}{E:Value->Shared->Prop}
theorem uI(hi:anh)(hj:ns[j]?=some k)(yh:∀m,m<j->ns[m]?≠some k):
  ∀(m i:Nat) (s:ab5) (Q:ale->ab5->Prop),i<=j->j<i+m->i+m<=items.size->Q (some (.done (ak6 (avE j))),()) {s with toks:=s.toks+1}->
   wpAny aa2 A (forIn (List.range' i m) ((none,()):ale) aEM) Q E s
 |0,i,s,Q,h1,h2,_,_=>absurd h2 (adh h1)
 |m+1,i,s,Q,h1,h2,h3,h=>by
  have aU:aDg:=(aaU aiD h3);have hl:ns.length=items.toList.length:=hi.length.symm;obtain⟨ti,ei⟩:=ints_get hi i items[i] (by simp[aU]);have hn:ns[i]?=some (ns.getD i 0):=by
   rw[aaD,aai (by rw[hl];simpa using aU)];rfl
  rw[aff,adw];unfold rW;rw[aaG aU];show wpAny _ _ ((eqBool items[i] (arF k) >>= _) >>= _) _ _ s;rw[ei];refine aag (aag (afd ?_));by_cases v8:i=j
  .subst v8;rw[hj]at hn;have e:ns.getD i 0=k:=(aaQ hn).symm;rw[e,beq_self_eq_true,aaB rfl];refine aag ?_;unfold retInt ret;refine aag (wpAny_mkInt (aao (aao aDO)))
  .have e:(ns.getD i 0==k)=false:=by
    rw[beq_eq_false_iff_ne];exact λz=>yh i (acT h1 v8) (by rw[hn,z])
   rw[e,aaF aan];exact aao (uI hi hj yh m (i+1) s Q (acT h1 v8) (B8 alA h2) (O5 alA h3) h)
end
def AH(l:Addr)(items:ae2)(n:Nat)(dd:ahQ)(sl:apw)(hi:anh){j:Nat}(hj:ns[j]?=some k)(yh:∀m,m<j->ns[m]?≠some k):
  Meets (Builtin.«tuple.index» ⟨[aic,.int k t],[]⟩)
   (λA R s=>s.heap.get? l=some {cls:= .type "tuple",dict:=dd,data:= .seq items n,slots:=sl}/\R (.ok (ak6 (avE j))) {s with toks:=s.toks+1}):=by
 intro prog w A R s h;obtain⟨hp,g,d,tk,os⟩:=s;obtain⟨hl,h⟩:=h;unfold Builtin.«tuple.index»;simp only[Std.Legacy.Range.forIn_eq_forIn_range'];wp_walk using acS hl;have Ti:j<items.size:=by
  have q:=(aax.mp hj).1;have:=hi.length;simp at this;exact aaj q aBO
 have Z0:(([:min items.size items.size]:Std.Legacy.Range)).size =items.size:=by simp[Std.Legacy.Range.size]
 rw[Z0];show wpAny _ _ (forIn (List.range' 0 items.size) ((none,()):ale) aEM) _ _ _;exact uI hi hj yh items.size 0 _ _ ao3 (Nat.lt_add_left _ Ti) (aaw az1)<|aao h
def L9(K:ay):V->ad5->Hp->VK->Prop:=λx vs H Q=>∃(l:Addr) (ns:aa0) (k:Int) (j:Nat),au0/\vs=[af_]/\cH K H l aiO/\ns[j]?=some k/\(∀m,m<j->ns[m]?≠some k)/\Q (al6 (j:Nat)) H
def CT:PZ X "tuple.index" (L9 X.K):=by
 intro U s σ H x vs v us Q I rx rv h;refine Ga h λl ns k j ai aK hq hj yh q=>?_
 try clear h
 subst ai;subst aK;cases rx;obtain⟨u,rfl,t,rfl⟩:=vals1 rv;obtain⟨its,r,⟨⟨c,dd,dt,sl⟩,ho,hc,n,hd⟩,hz⟩:=I.tuple hq;have kN:c= .type "tuple":=hc;have jC:aCv:=hd;subst kN jC;have hi:IntsAre its.toArray.toList ns:=by simpa using intsAre_of r
 exact call_meets afN ⟨_,ho,rfl⟩ PySem.F.entry_tuple_index (PySem.F.args_tuple_index_2 _ _) (AH l its.toArray n dd sl hi hj yh) ⟨ho,.int j,H,aki,amE,q⟩
def Z1(K:ay)(r:V->ad5->Hp->VK->Prop)(to:TE)(t:TA):TE:=λσ H Q=>to σ H λx H1=>(∃a xs,akb/\aDw)/\t σ H1 λxs H2=>r x xs H2 Q
def Qu{id:apr}(pa:PlainAttrs "tuple")(slot:Slot "tuple" name id)(P4:typeOf akY=pure (.type "method_descriptor"))(hm:PZ X id r)(ho:ayL)(ha:amt)
  (jL:ajb)
  (LF:((backTo cM (auT (e::es))).all (λx=>!x.1)&&(backToKw cM ara).all (λx=>x.1.isSome)
   && decide ((e::es).length+([]:aoj).length+(if([]:aoj).isEmpty then 0 else 1)<30))=true)
  (jM:anW=true) (hs:aa_) (wG:(backTo cM ahL).any (·.1)=false):
  PE X (ano (e::es)) (Z1 X.K r to t):=by
 intro U s σ H Q I h;refine wpAny_Call_method_late jL LF jM rfl (bF akS λv s1 zz=>?_);refine iq zz λx H1 I1 r1 ty q1=>eU ty λa xs ai hq=>?_
 try clear ty
 subst ai;cases r1;obtain⟨its,rv,⟨ob,e1,e2,_,e4⟩,_⟩:=I1.Le hq;refine⟨"tuple",id,pa,slot,P4,⟨ob,e1,e2⟩,λb z=>by cases z;exact⟨ob,e1,e4⟩,?_⟩;have hA:=ha cM U s1 σ H1 _ I1 q1;rw[hs]at hA⊢;refine adf (by show(false||(backTo cM (starEach es X.env)).any (·.1))=false;rw[wG]<;>rfl) (aei ?_);exact bF hA λus s2 zz=>ba zz λvs H2 I2 Z2 q2=>hm U s2 σ H2 ab_ vs ab_ us Q I2 rfl Z2 q2
def GP(a b:Int)(t u:Tok):MeetsSeq.EqGives (arF a) (.int b u) (a==b):=λ_ _ _ _ _ _ h=>afd h
noncomputable def Qv(K:ay):V->ad5->Hp->VK->Prop:=λx vs H Q=>∃(l:Addr) (ns:aa0) (k:Int) (j:Nat),au0/\vs=[af_]/\cK K H l aiO/\ns[j]?=some k/\(∀m,m<j->ns[m]?≠some k)/\Q (al6 (j:Nat)) H
def AI:PZ X "list.index" (Qv X.K):=by
 intro U s σ H x vs v us Q I rx rv h;refine Ga h λl ns k j ai aK hq h1 h2 q=>?_
 try clear h
 subst ai;subst aK;cases rx;obtain⟨wv,rfl,Z3⟩:=vals1 rv;obtain⟨u,rfl⟩:=Z3;obtain⟨its,r,pl,hz⟩:=I.list hq;have len:=r.length;rw[aap]at len;have at':∀(m:Nat) (hm:m<its.toArray.size),∃a t,its.toArray[m]= .int a t/\ns[m]?=some a:=λm hm=>by
  have AA:m<its.length:=by simpa using hm
  have GQ:(ns.map V.int)[m]?=some (V.int (ns[m]' aqg)):=by rw[aaC,aai aqg];rfl
  refine aa (r.get GQ) λw' e1 e2=>?_;obtain⟨t,e3⟩:=e2;refine⟨_,t,?_,aai aqg⟩;rw[<-e3];have:its[m]?=some its[m]:=aai AA;rw[this]at e1;simpa using e1
 have Z4:j<ns.length:=(aax.mp h1).1;have Ti:j<its.toArray.size:=by simpa using ((aaj Z4 (aaw len)):j<its.length)
 let e:Value->Bool:=λy=>match y with| .int a _=>a==k|_=>false
 have ee:∀y,y∈its.toArray->MeetsSeq.EqGives y (.int k u) (e y):=λy hy=>by
  obtain⟨m,hm,rfl⟩:=agx.mp hy;refine eU (at' m hm) λa t q1 _=>?_;rw[q1];exact GP a k t u
 obtain⟨⟨c0,d0,dt0,Z5⟩,n,hl,VB,Tj,Qw⟩:=pl;dsimp only at VB Tj Qw;subst VB Tj Qw;refine eU (at' j Ti) λaj tj qj zj=>?_;have qa:e its.toArray[j]=true:=by
  rw[h1]at zj;cases zj;show(match its.toArray[j]with| .int a _=>a==k|_=>false)=true;rw[qj];exact beq_self_eq_true _
 have yh:∀m (hm:m<its.toArray.size),m<j->e its.toArray[m]=false:=λm hm Z6=>by
  refine eU (at' m hm) λa t q1 q2=>?_;show(match its.toArray[m]with| .int a _=>a==k|_=>false)=false;rw[q1];exact beq_eq_false_iff_ne.mpr λy=>h2 m Z6 (by rw[q2,y])
 have jh:(j:Int)<2 ^ 63-1:=by
  have GQ:ns.length<=16777216:=by
   have:=hz;rw[aap,sizeLine_eq]at this;exact this
  lia
 exact call_meets F.slot_list_index (show s.TypeIs aic "list" from⟨_,hl,rfl⟩) F.entry_list_index (F.args_list_index_2 _ _) (SeqAt.list_indexAt l its.toArray n none Z5 (.int k u) e j Ti jh qa yh) ⟨hl,λy hy=>(ee y hy).at _ _,.int j,H,I.kept (t':=s.toks+1) λ_ _ q=>q,amE,q⟩
open AutoSeq1 (wpAny_loadPart')
abbrev Qx(a c:Int):Nat->Value->Prop:=λi v=>∃t,v= .int (a+i*c) t
section
variable {prog:ac7}{w:World}{A:ahp}{E:Value->Shared->Prop}{s:ab5}
def qb{n:Nat}(hh:af4)(hr:ao6)(jh:aon)
  (hn:an3) (aG:n<=2 ^ 24)
  (hQ:∀h' tk acc,(∀b o,ab2->ad4)->anM->Q acc.toList {s with heap:=h',toks:=tk}):wpAny aa2 A (collect (akE r)) Q E s:=by
 unfold collect;refine aag (agQ (acg F.entry_proto_collect ?_));rw[acJ F.plain_proto_collect _];show wpAny _ A.in1 (newList [] >>= λl=>again (.builtin "list.__iadd__" ⟨[l,.ref r],[]⟩)) _ _ s;refine aag (abf ?_);refine aao ⟨plainId_quiet F.plain_list_iadd _,acg F.entry_list_iadd ?_⟩;rw[acJ F.plain_list_iadd _];show wpAny _ A.in1 (Builtin.List.listExtendWith ab6 (akE r) ab6) _ _ _;have hS:(s.heap.push {cls:= .type "list",data:= .seq ([]:ab0).toArray}).get? s.heap.objs.size=some {cls:= .type "list",data:= .seq #[] 0}:=aav _ rfl
 let RR:Result->Shared->Prop:=λr s'=>∃(h':Heap) (tk:Nat) (acc:ae2) (c':Nat),r= .ok (ak6 ab6)/\s'={s with heap:=h',toks:=tk}/\
  (∀b o,ab2->ad4)/\h'.get? s.heap.objs.size=some {cls:= .type "list",dict:=none,data:= .seq acc c',slots:=#[]}/\ItemsOf (Qx a c) acc n
 have wX:∀(h':Heap) (tk:Nat) (acc:ae2) (c':Nat),(∀b o,ab2->ad4)->h'.get? s.heap.objs.size=some {cls:= .type "list",dict:=none,data:= .seq acc c',slots:=#[]}->anM->
   wpAny aa2 A (match Value.ref s.heap.objs.size with
    |Value.ref a=>do
     match (<-load a).data with
      |Data.seq xs _=>pure xs.toList
      |_=>unsupported "internal:collect"
    |_=>unsupported "internal:collect") Q E {s with heap:=h',toks:=tk}:=λh' tk acc c' hk tU mR=>by
  show wpAny _ A (load s.heap.objs.size >>= _) _ _ _;exact aag (wpAny_load tU (aao (hQ h' tk acc hk mR)))
 refine abJ (wpAny_extend_range (A:=A) (R:=RR) (s:={s with heap:=s.heap.push {cls:= .type "list",data:= .seq ([]:ab0).toArray}}) hh (aAr hr) jh hn aG _ ab6 _ hS λh' tk L_ c' hk tU mR=>⟨h',tk,L_,c',rfl,rfl,λb o e=>hk b o ayz aiY,tU,mR⟩) (λfin s' h=>?_) (λe s' h=>?_)
 .cases fin with
  |done f=>
   refine wk h λh' tk acc c' e ai hk tU mR=>?_
   try clear h
   subst ai;cases e;exact wX h' tk acc c' hk tU mR
  |again c'=>
   refine⟨h.1,aeY h.2 λr mJ hr=>?_⟩;refine wk hr λh' tk acc c' e aK hk tU mR=>?_
   try clear hr
   subst aK;subst e;exact wX h' tk acc c' hk tU mR
 .refine mV h λh' tk acc c' e _=>?_;cases e
end
def wY{n:Nat}(jh:aon)(hn:an3)(aG:n<=2 ^ 24):
  Meets (Builtin.«tuple.__new__» ⟨[.type "tuple",.ref r],[]⟩)
   (λA R s=>af4/\ao6/\∀(h':Heap) (tk:Nat) (acc:ae2),(∀b o,ab2->ad4)->anM->
    R (.ok (ak6 aE7)) {s with heap:=h'.push {cls:= .type "tuple",data:= .seq acc},toks:=tk}):=
 .of_wp λprog w A R s h=>by
  obtain⟨hp,g,d,Z7,os⟩:=s;refine c6 h λhh hr h=>?_;have Qy:=sub_tuple_self;have XS:=init_tuple_lookup;have hmh:=madeHere_tuple;have hT:Shared.TypeIs ⟨hp,g,d,Z7,os⟩ (akE r) "range":=⟨_,hr,rfl⟩;have Z8:A.in1.handled=none:=hh;wp_walk using acS hr,adQ hT,qb Z8 hr jh hn aG;intro h' tk acc hk mR;show wpAny _ _ (Builtin.Tuple.tupleExact acc.toList.toArray >>= λv=>ret v) _ _ _;unfold Builtin.Tuple.tupleExact;refine aag (abf ?_ (show acc.toList.toArray.size<=sizeLine by simp only[agJ];rw[mR.1,sizeLine_eq];exact aG));refine aao ⟨_,rfl,?_⟩;have e:acc.toList.toArray=acc:=by simp
  rw[e];exact h h' tk acc hk mR
section
variable {prog:ac7}{w:World}{A:ahp}{E:Value->Shared->Prop}{s:ab5}
def AJ{n:Nat}(hh:af4)(hr:ao6)(jh:aon)(hn:an3)(aG:n<=2 ^ 24)
  (h:∀(h':Heap) (tk:Nat) (acc:ae2),(∀b o,ab2->ad4)->anM->Q aE7 {s with heap:=h'.push {cls:= .type "tuple",data:= .seq acc},toks:=tk}):
  wpAny aa2 A (call (.type "tuple") [.ref r]) Q E s:=
 callType_new F.called_tuple aa1 (F.typeCall_tuple_1 _) (F.newCall_tuple_1 _) (λobj=>afm obj _) F.entry_tuple_new (wY jh hn aG)
  ⟨hh,hr,λh' tk acc hk mR=>⟨asm,h h' tk acc hk mR⟩⟩
end
open AutoSeq1 (wpAny_loadPart')
theorem rX:∀{bs:amX}{us:ab0},aD azR us->us=bs.map Value.bool
 |[],_,.nil =>rfl
 |b::bs,_,.cons r t=>by
  have e:_=Value.bool b:=r;rw[e,rX t];rfl
section
variable {prog:ac7}{w:World}{A:ahp}{E:Value->Shared->Prop}{s:ab5}{l:Addr}
def mj(A:ahp)(bs:amX):TruthOf prog w A (λi v=>(bs.map Value.bool).toArray[i]?=some v) (λi=>ar1):=λi v s Q E hP hQ=>by
 have q:(bs.map Value.bool)[i]?=some v:=by simpa using hP
 rw[aaC]at q;cases e:bs[i]? with
 |none=>rw[e]at q;cases q
 |some b=>
  rw[e]at q;cases q;have:bs.getD i false=b:=by rw[aaD,e];rfl
  have XT:Q ar1 s:=hQ;rw[this]at XT;exact acA XT
def all_range{bs:amX}:(List.range bs.length).all (λi=>ar1)=bs.all id:=by
 rw[afw,abZ,abZ];constructor
 .intro h b hb;obtain⟨i,hi,rfl⟩:=agK.mp hb;have:=h i (abe.mpr hi);rw[aaD,aai hi]at this;exact this
 .intro h i hi;have gy:=abe.mp hi;rw[aaD,aai gy];exact h _ (acL gy)
def any_range{bs:amX}:(List.range bs.length).any (λi=>ar1)=bs.any id:=by
 rw[afw,agj,agj];constructor
 .rintro⟨i,hi,h⟩;have gy:=abe.mp hi;rw[aaD,aai gy]at h;exact⟨_,acL gy,h⟩
 .rintro⟨b,hb,h⟩;obtain⟨i,hi,rfl⟩:=agK.mp hb;exact⟨i,abe.mpr hi,by rw[aaD,aai hi];exact h⟩
def CU{bs:amX}(hh:af4)(hl:aq_)
  (h:∀h' tk,(∀b o,ab2->ad4)->Q (aEw atr) {s with heap:=h',toks:=tk}):wpAny aa2 A (arC (.builtin "all")) Q E s:=by
 have aU:am4:=by obtain⟨_,e,_⟩:=hl;exact aaA e
 refine call_all_walk (acO hl ?_);refine⟨_,[_,l],[_],_,_,_,_,rfl,ahl (A:=A.in1) hh s.heap.objs.size l az5 _,at4,mj _ bs,λh' tk hk=>?_⟩;have e:(bs.map Value.bool).toArray.size =bs.length:=by simp
 rw[e,all_range];refine h h' tk λb o z=>hk b o (λhm=>?_) (aAr z);rw[aar.mp hm]at z;exact absurd (aaA z) alW
end
section
variable {X:Cx}
def AK(hc:af6):cu X (.builtin "all") (λxs H Q=>∃(p:Addr) (bs:amX),am2/\cK X.K H p azR/\Q (.bl atr) H):=by
 intro U s σ H xs us Q I r zz;refine ba zz λp bs e hq q=>?_;subst e;refine aa anS λu ai rx=>?_;subst ai;cases rx;refine bH akW λits rv pl hz=>?_;rw[rX rv]at pl;exact CU ahx pl.isList λh' tk hk=>⟨.bl _,H,I.kept (t':=tk) hk,rfl,q⟩
end
section
variable {prog:ac7}{w:World}{A:ahp}{E:Value->Shared->Prop}{s:ab5}
end
section
variable {X:Cx}
theorem jW:∀{us:ab0}{ns:aa0},IntsAre us ns->aD aiO us
 |_,_,.nil => .nil
 |_,_,.cons n t r=> .cons ⟨t,rfl⟩ (jW r)
def GR:ma X aoV (λx y H Q=>∃a b ys,akb/\asn/\cH X.K H a []/\cH X.K H b ys/\Q ajV H):=by
 intro U s σ H x y v u Q I rx ry zz;refine vY zz λa b ys e1 e2 h1 h2 q=>?_;subst e1 e2;cases rx;cases ry;obtain⟨its,r1,⟨⟨c,dd,dt,sl⟩,ho,hc,n,hd⟩,_⟩:=I.tuple h1;obtain⟨je,r2,⟨⟨c2,JN,dt2,JO⟩,FQ,JP,n2,nT⟩,_⟩:=I.tuple h2;cases r1;simp only at hc hd JP nT;subst hc hd JP nT;exact concat_meets ⟨_,ho,rfl⟩ ⟨_,FQ,rfl⟩ noFill_tuple_add seq_tuple_add aeJ aey (aer _ _)
  (tuple_addW0 a b _ je.toArray n n2 dd JN sl JO ab1) ⟨ho,FQ,ajV,H,I,rfl,q⟩
end
open HT
open AutoSeq1 (wpAny_loadPart')
section
variable {prog:ac7}{w:World}{A:ahp}{E:Value->Shared->Prop}{s:ab5}
def qc(ht:atB)(h:Q true s):wpAny aa2 A (Builtin.Tuple.tupleIsExact apK) Q E s:=by
 unfold Builtin.Tuple.tupleIsExact;exact aag (adQ ht.typeIs (aao (by simpa using h)))
def iS{lo hi:ag5}(ht:atB)(hs:akd)(pl:awW)(pu:awV)
  (hw:aE0/\as4) (h:Q apK s):asf:=by
 refine bH (id hs) λos As qx PV=>?_;have U8:s.TypeIs aE6 "slice":=⟨os,As,qx⟩;unfold getItem
 try with_reducible refine abq ?_
 first|refine aag (aao ?_)|skip
 refine aag (wpAny_sequenceKey ht.typeIs aa1 ?_);refine aag (abG (name:=Str.ofString "__getitem__") ht.typeIs abT (abt abT ht.typeIs entry_tuple_getitem ?_ azg));show wpAny _ _ (Builtin.Tuple.tupleItemsOf apK >>= _) _ _ s;refine aag (tupleItemsOf_ ht ?_);refine aag (adQ U8 ?_);rw[aaB aa1];refine aag (fC hs pl pu ?_);have VC:ad0=true:=by
  rw[hw.1,hw.2];simp
 show wpAny _ _ (if ad0=true then _ else _) _ _ s;rw[aaB VC];refine aag (qc ht ?_);rw[aaB rfl];exact aag (adx akT)
end
section
variable {X:Cx}
def Qz(K:ay):V->ag5->ag5->Hp->VK->Prop:=λx lo hi H Q=>∃a xs,akb/\ajW/\(cC xs.length 0 lo=0/\cC xs.length xs.length hi=xs.length)/\Q x H
def CV:FR X (Qz X.K):=by
 intro U s σ H x v vl vu lo hi sl Q I rx hs pl pu h;refine iq h λa xs ai hx hw q=>?_
 try clear h
 subst ai;cases rx;refine bH (I.tuple hx) λits r ht hz=>?_;have aG:ay7:=by rw[aay];exact r.length.symm
 exact⟨"tuple",_,abT.lookup,ht.typeIs,iS ht hs pl pu (by rw[aG];exact hw) ⟨ab_,H,I,rfl,q⟩⟩
def GS:FR X (λx lo hi H Q=>PY X.K x lo hi H Q\/Qz X.K x lo hi H Q):=Lz.or CV
end
end L2
namespace L2
open PySem PyProof.Rows
open PySem.Spec
section
variable {κ:Type}[DecidableEq κ]
noncomputable def k_(kvs:ak0)(k:κ):aps:=(kvs.find? λkv=>am_).map (·.2)
noncomputable def fq(kvs:ak0)(k:κ)(v:V):ak0:=
 if(kvs.any λkv=>am_)=true then kvs.map (λkv=>if kv.1=k then(kv.1,v) else kv) else kvs++[(k,v)]
def jX{r:ak0}(e:p.1=k):k_ (p::r) k=some p.2:=by simp[k_,ada,e]
def jY{r:ak0}(e:¬p.1=k):k_ (p::r) k=k_ r k:=by simp[k_,ada,e]
theorem uJ(k:κ):∀kvs:ak0,(kvs.any λkv=>am_)=(k_ kvs k).isSome
 |[]=>rfl
 |p::r=>by
  rw[aea];by_cases e:p.1=k
  .simp only[jX e,decide_eq_true e,Bool.true_or,ahe]
  .rw[jY e,decide_eq_false e,Bool.false_or];exact uJ k r
def gM(kvs:ak0)(k:κ)(v:V):(fq kvs k v).length <=kvs.length+1:=by
 unfold fq;split
 .rw[aap];exact aaM _ _
 .rw[aau,aaL,adv];exact aas _
def pY.fD(r:pY o u):o.isSome=u.isSome:=by
 cases o with
 |none=>cases u with
  |none=>rfl
  |some _=>exact(show False from r).elim
 |some _=>cases u with
  |none=>exact(show False from r).elim
  |some _=>rfl
def KV.val{kvs:ak0}(r:alL)(k:κ):pY (k_ kvs k) (valueAt vs k):=by
 unfold KV at r;induction r with
 |nil=>exact True.intro
 |@cons p q ps qs h t ih=>
  obtain⟨h1,h2⟩:=h;by_cases e:p.1=k
  .have e':q.1=k:=h1.symm.trans e;have b:valueAt (q::qs) k=some q.2:=by simp[valueAt,ada,e']
   rw[jX e,b];exact h2
  .have e':¬q.1=k:=λz=>e avN;have b:valueAt (q::qs) k=valueAt qs k:=by simp[valueAt,ada,e']
   rw[jY e,b];exact ih
theorem KV.any(r:alL)(k:κ):(kvs.any λkv=>am_)=vs.any λkv=>decide (kv.1=k):=by
 unfold KV at r;induction r with
 |nil=>rfl
 |cons h t ih=>rw[aea,aea,ih,h.1]
def KV.L'(r:alL)(k:κ)(ry:amz):
  KV (kvs.map λkv=>if kv.1=k then(kv.1,y) else kv) (vs.map λkv=>if kv.1=k then(kv.1,u) else kv):=by
 unfold KV at r⊢;induction r with
 |nil=>exact .nil
 |@cons p q ps qs h t ih=>
  rw[aaX,aaX];refine .cons ?_ ih;obtain⟨h1,h2⟩:=h;by_cases e:p.1=k
  .rw[aaB e,aaB aGd];exact⟨h1,ry⟩
  .rw[aaF e,aaF (λz=>e avN)];exact⟨h1,h2⟩
def KV.put(r:alL)(k:κ)(ry:amz):KV (fq kvs k y) (stored vs k u):=by
 unfold fq stored;rw[r.any k];by_cases e:(vs.any λkv=>am_)=true
 .rw[aaB e,aaB e];exact r.L' k ry
 .rw[aaF e,aaF e];exact Paired.snoc r ⟨rfl,ry⟩
def KV.keys{vs:axA}(r:alL):kvs.map (·.1)=vs.map (·.1):=by
 unfold KV at r;induction r with
 |nil=>rfl
 |cons h t ih=>rw[aaX,aaX,ih,h.1]
theorem KV.length(r:alL):aEQ:=adC r
end
def qE(r:RelV (kV k) u):(aW P w).is k u=true:=by
 cases k with
 |inl i=>obtain⟨t,e⟩:=(show∃t,u=Value.int i t from r);subst e;exact ub P w i t
 |inr x=>obtain⟨t,e⟩:=(show∃t,u=Value.str x t from r);subst e;exact uc P w x t
theorem qF:∀{ks:List cz}{us:ab0},aD (ks.map kV) us->ItemsAre apE ks us
 |[],_,r=>by rw[ahm]at r;cases r;exact .nil
 |k::ks,_,r=>by
  rw[aaX]at r;cases r with
  |cons h t=>exact .cons (qE h) (qF t)
abbrev KT(H:Hp):aiR->alK->Prop:=Paired λp q=>p.1=q.1/\H q.2.1=some auu/\RelV p.2 q.2.2
def KT.val{kvs:aiR}(r:arn)(k:List cz):pY (k_ kvs k) ((atKey xs k).map (·.2)):=by
 induction r with
 |nil=>exact True.intro
 |@cons p q ps qs h t ih=>
  refine c6 h λh1 _ h2=>?_;by_cases e:p.1=k
  .have e':q.1=k:=h1.symm.trans e;have b:atKey (q::qs) k=some q.2:=by simp[atKey,ada,e']
   rw[jX e,b];exact h2
  .have e':¬q.1=k:=λz=>e avN;have b:atKey (q::qs) k=atKey qs k:=by simp[atKey,ada,e']
   rw[jY e,b];exact ih
def KT.L'(r:arn)(k:List cz)(ry:amz):
  KT H (kvs.map λkv=>if kv.1=k then(kv.1,y) else kv) (xs.map (putAt k u)):=by
 induction r with
 |nil=>exact .nil
 |@cons p q ps qs h t ih=>
  rw[aaX,aaX];refine .cons ?_ ih;refine c6 h λh1 h2 h3=>?_;unfold putAt;by_cases e:p.1=k
  .rw[aaB e,aaB aGd];exact⟨h1,h2,ry⟩
  .rw[aaF e,aaF (λz=>e avN)];exact⟨h1,h2,h3⟩
def KT.put(r:arn)(k:List cz)(hb:aqh)(ry:amz):
  KT H (fq kvs k y) (storedH xs k b u):=by
 have e:(kvs.any λkv=>am_)=(atKey xs k).isSome :=by
  rw[uJ,(r.val k).fD,afO]
 unfold fq storedH;rw[e];by_cases q:(atKey xs k).isSome =true
 .rw[aaB q,aaB q];exact r.L' k ry
 .rw[aaF q,aaF q];exact Paired.snoc r ⟨rfl,hb,ry⟩
def KT.keeps(r:arn)(ht:∀b ys,H b=some awL->H' b=some awL):KT H' kvs xs:=
 Paired.O_ r λ_ _ z=>⟨z.1,ht _ _ z.2.1,z.2.2⟩
section
variable {P:ac7}{w:World}{H:Hp}{h:Heap}{a:Addr}
def J'(ok:akg)(e:Rd H a u):aO P w H h a u:=e.ok ok
def jZ(ok:akg)(e:aAX):ai9/\ahN/\∃vs,alL/\h.DictOf apE a vs:=
 show aO P w H h a amh from J' ok e
def Ka(ok:akg)(e:H a=some amh):ai9/\ahN/\∃vs,alL/\h.DictOf apE a vs:=jZ ok (akN e)
def ji(ok:akg)(e:H a=some avf):(tupleKind apE).is h ks a:=by
 obtain⟨_,its,r,o,h1,h2,⟨n,h3⟩,_⟩:=(show aO P w H h a avf from ok a _ e);exact⟨o,its.toArray,n,h1,h2,h3,by simpa using qF r⟩
def n_(ok:akg)(e:aAY):ai9/\ahN/\
  ∃xs,arn/\awD:=by
 obtain⟨z,y,xs,r,o,es,ep,h1,h2,h3,h4,h5⟩:=(show aO P w H h a amg from J' ok e);refine⟨z,y,xs,r,o,es,ep,h1,h2,h3,h4,λx hx=>?_,h5⟩;have all:∀{l:aiR}{m:alK},KT H l m->∀x∈m,(tupleKind apE).is h x.1 x.2.1:=by
  intro l m q;induction q with
  |nil=>intro x hx;exact nomatch hx
  |@cons p q ps qs hq t ih=>
   intro x hx;rcases aat.mp hx with e|hx
   .subst e;exact ji ok (by rw[<-hq.1];exact hq.2.1)
   .exact ih x hx
 exact all r x hx
def yt(ok:akg)(e:H a=some amg):ai9/\ahN/\
  ∃xs,arn/\awD:=n_ ok (akN e)
end
def rY(H:Hp)(a:Addr)(y:V)(r:aps):Prop:=
 (∃kvs k,aAX/\y=kV k/\r=k_ kvs k)\/∃kvs k b,aAY/\asn/\aqh/\r=k_ kvs k
def Ma(H:Hp)(a:Addr)(y v:V)(H':Hp):Prop:=
 (∃kvs k,H a=some amh/\y=kV k/\aF2/\H'=upd H a (.dK (fq kvs k v)))\/
 ∃kvs k b,H a=some amg/\asn/\aqh/\aF2/\H'=upd H a (.dT (fq kvs k v))
section
variable {X:Cx}{U:aa7}{σ:St}{H:Hp}{s:ab5}{a:Addr}{y v:V}{u r:Value}{o:aps}{A:ahp}{E:Value->Shared->Prop}
def Inv.big(I:aa4):sysModules<s.heap.objs.size:=by
 have h:mainGlobals<s.heap.objs.size:=(I.mod.glob.keeps I.bk).lt;exact adS aa1 h
def AM(hu:asR)(I:aa4)(g:rY H a y anB)(ry:amz)(h:∀w' s',ayN->RelV v w'->Q w' s'):
  wpAny aa6 A (getItem ab_ u) Q E s:=by
 rcases g with⟨kvs,k,e,ey,l⟩|⟨kvs,k,b,e,ey,eb,l⟩
 .subst ey;obtain⟨z,hd,vs,eN,dd⟩:=jZ I.aJ e;exact aa (pY.some_of (v:=v) (o:=valueAt vs k) (by rw[l];exact eN.val k)) λw' hw Cw=>wpAny_getItem_of aC6 dd.mapOf hw (h w' _ aki Cw)
 .subst ey;cases (show u=Value.ref b from ry);obtain⟨z,hd,xs,eN,dd⟩:=n_ I.aJ e;refine aa (pY.some_of (v:=v) (o:=(atKey xs k).map (·.2)) (by rw[l];exact eN.val k)) λw' hw Cw=>aa (acq.mp hw) λp hp CW=>wpAny_getItem_heap amP avK dd hp ?_;rw[CW];exact h w' _ aki Cw
def VD(hu:asR)(I:aa4)(g:rY H a y o)(ry:amz)(h:∀s',ayN->Q (aEw o.isSome) s'):
  wpAny aa6 A (compareOp .In u ab_) Q E s:=by
 rcases g with⟨kvs,k,e,ey,l⟩|⟨kvs,k,b,e,ey,eb,l⟩
 .subst ey;obtain⟨z,hd,vs,eN,dd⟩:=jZ I.aJ e;refine wpAny_in_of aC6 hd dd.mapOf ?_;rw[<-(eN.val k).fD,<-l];exact h _ aki
 .subst ey;cases (show u=Value.ref b from ry);obtain⟨z,hd,xs,eN,dd⟩:=n_ I.aJ e;refine wpAny_in_heap amP avK hd dd ?_;have q:=(eN.val k).fD;rw[afO]at q;rw[<-q,<-l];exact h _ aki
def GU(hu:asR)(I:aa4)(g:rY H a y o)(ry:amz)(h:∀s',ayN->Q (aEw (!o.isSome)) s'):
  wpAny aa6 A (compareOp .NotIn u ab_) Q E s:=by
 rcases g with⟨kvs,k,e,ey,l⟩|⟨kvs,k,b,e,ey,eb,l⟩
 .subst ey;obtain⟨z,hd,vs,eN,dd⟩:=jZ I.aJ e;refine wpAny_notIn_of aC6 hd dd.mapOf ?_;rw[<-(eN.val k).fD,<-l];exact h _ aki
 .subst ey;cases (show u=Value.ref b from ry);obtain⟨z,hd,xs,eN,dd⟩:=n_ I.aJ e;refine wpAny_notIn_heap amP avK hd dd ?_;have q:=(eN.val k).fD;rw[afO]at q;rw[<-q,<-l];exact h _ aki
def j4(I:aa4)(mu:B9 (H a))(hs:akj)(he:∃q,h'.get? a=some q)(new:aO X.prog X.w (upd H a ob) h' a ob):
  Inv X U σ (upd H a ob) {s with heap:=h',toks:=t'}:=
 I.write (x:=a) (e:=a) mu ahq (λb q hb z=>(hs.2 b hb).trans z) he new
def CY(z:ai9)(hd:ahN)(eN:alL)(dd:h'.DictOf apE a vs):
  aO P w H' h' a amh:=⟨z,hd,vs,eN,dd⟩
def AN(hu:asR)(I:aa4)(g:Ma H a y v H')(ry:amz)(rv:RelV v r)(h:∀s',ai5->Q () s'):
  wpAny aa6 A (setItem ab_ u r) Q E s:=by
 rcases g with⟨kvs,k,e,ey,l,eH⟩|⟨kvs,k,b,e,ey,eb,l,eH⟩
 .subst ey eH;obtain⟨z,hd,vs,eN,dd⟩:=Ka I.aJ e;have hz:at7:=by rw[<-eN.length];exact z
  have hl:(fq kvs k v).length <=sizeLine:=by have:=gM kvs k v;exact aam this l
  refine wpAny_setItem_pairs (hsz:=hz) aC6 dd λh' CZ hs=>h _ ?_;have he:∃q,h'.get? a=some q:=let ⟨q,_,_,hq,_⟩:=CZ;⟨q,hq⟩;exact j4 I (by rw[e];exact True.intro) hs he (CY hl hd (eN.put k rv) CZ)
 .subst ey eH;cases (show u=Value.ref b from ry);obtain⟨z,hd,xs,eN,dd⟩:=yt I.aJ e;have hz:aiN:=by rw[<-adC eN];exact z
  have hl:(fq kvs k v).length <=sizeLine:=by have:=gM kvs k v;exact aam this l
  refine wpAny_setItem_heap (hsz:=hz) amP avK dd λh' CZ hs=>h _<|Ov CZ λq es ep hq h2 h3 h4 _ h5=>?_;refine j4 I (by rw[e];exact True.intro) hs ⟨q,hq⟩ ⟨hl,hd,_,(eN.put k eb rv).keeps λc ys ec=>?_,q,es,ep,hq,h2,h3,h4,h5⟩;rw[ak (c7 ec e (λz=>nomatch z))];exact ec
end
def GV(i:Expr):Prop:=∀ov iv,subscripted i false ov iv=operate [ov,iv] (getItem ov iv)
def GW{T id:apr}
  (hl:typeLookup aB6 "__getitem__"=pure (aku akY)) (hs:GV slice)
  (h:wpAny aa2 A (awm value) (λo aZ=>wpAny aa2 A (awm slice) (λi nH=>nH.TypeIs o T/\wpAny aa2 A (getItem o i) Q E nH) E aZ) E s):
  wpAny aa2 A (awm (.Subscript value slice pos)) Q E s:=by
 refine Subscript_ (abJ h (λo aZ GC=>abJ GC (λi nH CH=>?_) λ_ _ x=>x) λ_ _ x=>x);obtain⟨hT,CH⟩:=CH;unfold subscriptTail;refine aag ?_;rw[getitemInPython_of_ne hT.not_modules];refine aag (aez hT hl ?_);have fin:wpAny aa2 A (subscripted slice false o i) (λr Ay=>wpAny aa2 A (letTemporaryGo value o r >>= λ_=>pure r) Q E Ay) E nH:=by
  rw[hs o i];exact wpAny_operating (abJ CH (λr Ay GD=>aag (wpAny_letTemporaryGo (aao GD))) λ_ _ x=>x)
 first
  |exact aao (aag fin)
  |exact aag (aao (aag fin))
  |exact aag fin
def uK(I:aa4)(g:rY H a y o):s.TypeIs ab_ "dict":=by
 rcases g with⟨kvs,k,e,_,_⟩|⟨kvs,k,b,e,_,_,_⟩
 .obtain⟨_,_,vs,_,dd⟩:=jZ I.aJ e;exact dd.typeIs
 .obtain⟨_,_,xs,_,dd⟩:=n_ I.aJ e;exact dd.typeIs
def QA(td ty:TE):TE:=λσ H Q=>td σ H λx H1=>ty σ H1 λy H2=>∃a v,akb/\rY H2 a y anB/\Q v H2
def VE(ty td:TE):TE:=λσ H Q=>ty σ H λy H1=>td σ H1 λx H2=>∃a o,akb/\aFL/\Q (.bl o.isSome) H2
def GX(ty td:TE):TE:=λσ H Q=>ty σ H λy H1=>td σ H1 λx H2=>∃a o,akb/\aFL/\Q (.bl (!o.isSome)) H2
def yu(td ty tv:TE):TS:=λD σ H=>tv σ H λv H1=>td σ H1 λx H2=>ty σ H2 λy H3=>∃a H4,akb/\Ma H3 a y v H4/\D.nx σ H4
section
variable {X:Cx}{o i e value:Expr}{pos pos' tpos:Pos}{td ty tv:TE}
def GY(hu:alX)(ho:aD0)(hi:aD1)(hs:GV i):PE X asV (QA td ty):=by
 intro U s σ H Q I h;refine GW PySem.F.slot_dict_getitem.lookup hs (bF akS λu s1 zz=>ba zz λx H1 I1 rx q1=>bF azH λiv s2 zz=>?_);obtain⟨y,H2,I2,ry,a,v,ex,g,q2⟩:=zz;subst ex;obtain rfl:u=Value.ref a:=rx;exact⟨uK I2 g,AM hu I2 g ry λw' s3 I3 Cw=>⟨v,H2,I3,Cw,q2⟩⟩
def Mb(hu:alX)(hi:aD1)(ho:aD0):PC X .In i o (VE ty td):=by
 intro U s σ H Q I h;refine bF aoS λiv s1 zz=>ba zz λy H1 I1 ry q1=>bF aqw λu s2 zz=>?_;obtain⟨x,H2,I2,rx,a,ov,ex,g,q2⟩:=zz;subst ex;obtain rfl:u=Value.ref a:=rx;exact VD hu I2 g ry λs3 I3=>⟨.bl ov.isSome,H2,I3,rfl,q2⟩
def AO(hu:alX)(hi:aD1)(ho:aD0):PC X .NotIn i o (GX ty td):=by
 intro U s σ H Q I h;refine bF aoS λiv s1 zz=>ba zz λy H1 I1 ry q1=>bF aqw λu s2 zz=>?_;obtain⟨x,H2,I2,rx,a,ov,ex,g,q2⟩:=zz;subst ex;obtain rfl:u=Value.ref a:=rx;exact GU hu I2 g ry λs3 I3=>⟨.bl (!ov.isSome),H2,I3,rfl,q2⟩
def yv(hu:alX)(ho:aD0)(hi:aD1)(hv:PE X value tv)(hs:swapsWith value (aku aEn) pos.line X.env=pure false):
  PS X (.Assign [aEn] value pos) (yu td ty tv):=by
 intro U s σ H D I h;refine wpAny_Assign_Subscript (bF (hv U s σ H _ I h) λr s1 ⟨v,H1,I1,rv,q1⟩=>bF aqw λu s2 ⟨x,H2,I2,rx,q2⟩=>bF (hi U s2 σ H2 _ I2 q2) λiv s3 ⟨y,H3,I3,ry,a,H4,ex,g,q3⟩=>?_) hs;subst ex;obtain rfl:u=Value.ref a:=rx;exact AN hu I3 g ry rv λs4 I4=>⟨σ,H4,I4,q3⟩
end
def C0(h:Heap)(hb:aCp):aO P w H (h.push {cls:= .type "dict",data:= .dict #[]}) h.objs.size aAl:=
 ⟨abn _,as6,[],.nil,Heap.DictOf.new h⟩
def uL(h:Heap)(hb:aCp):aO P w H (h.push {cls:= .type "dict",data:= .dict #[]}) h.objs.size aw2:=
 ⟨abn _,as6,[],.nil,_,#[],0,ag6,ajk,rfl,rfl,adL⟩
def Mc:TE:=λ_ H Q=>∀p,aj_->Q ahG (avC aw2)
section
variable {X:Cx}{pos:Pos}
def C5:PE X (.Dict [] [] pos) Mc:=λU s σ H Q I h=>
 wpAny_Dict_empty ⟨ab6,_,I.laid (a:=s.heap.objs.size) (o:= .dT []) (t':=s.toks) (λ_ _ q=>awc) ac9 aFF,rfl,h _ aok⟩
end
structure M1(X:Cx)(o:Expr)(m:Str)(jH:Pos)(e:Expr)(cM:Pos):Prop where
 base:attributeBase o m X.env (aky o)=eval o X.env
 FY:((backTo cM (auT [e])).all (λx=>!x.1)&&(backToKw cM ara).all (λx=>x.1.isSome)
  && decide (([e]:ahA).length+([]:aoj).length+(if([]:aoj).isEmpty then 0 else 1)<30))=true
 line:anW=true
 trees:backTo cM (auT [e])=[atF]
def XU(H:Hp)(a:Addr):Prop:=(∃kvs,aAX)\/∃kvs,Rd H a amg
def C6(I:aa4)(d:XU H a):
  s.TypeIs ab_ "dict"/\(∀b,Value.ref a= .ref b->∃ob,aC2/\ob.dict=none)/\ahN:=by
 rcases d with⟨kvs,e⟩|⟨kvs,e⟩
 .obtain⟨_,hd,vs,_,dd⟩:=jZ I.aJ e;refine⟨dd.typeIs,λb q=>?_,hd⟩;cases q;exact cx dd λob _ _ h1 h2 _=>⟨ob,h1,h2.2.1⟩
 .obtain⟨_,hd,xs,_,dd⟩:=n_ I.aJ e;refine⟨dd.typeIs,λb q=>?_,hd⟩;cases q;exact cx dd λob _ _ h1 h2 _=>⟨ob,h1,h2.2.1⟩
section
variable {X:Cx}{U:aa7}{σ:St}{H:Hp}{s:ab5}{a:Addr}{y d:V}{u r:Value}{o:aps}{A:ahp}{E:Value->Shared->Prop}
end
section
variable {X:Cx}{o e f:Expr}{jH cM:Pos}{td ty tx:TE}
end
end L2
namespace bN
open PySem PyProof.Rows
abbrev SM:=StateT SortSt Sem
noncomputable def b7:Bool->Keyed->ab9->Nat->Nat->Nat->SM ahM:=sortPriv% PySem.Builtin.gallop
noncomputable def og:ab9->ab9->SM ab9:=sortPriv% PySem.Builtin.mergeLo
noncomputable def oh:ab9->ab9->SM ab9:=sortPriv% PySem.Builtin.mergeHi
noncomputable abbrev setG(zt:ajD)(g:Nat):ajD:=SortSt.mk' (kindOf zt) ac4 (pendingOf zt) g (failedOf zt)
noncomputable def bh(g:Nat):SM Unit:=modify λs=>setG s g
noncomputable def gc(left:Bool)(key:Keyed)(arr:ab9)(base i:Nat):SM anD:=do {let x<-elem' arr (base+i);if left then lt' x key else return (<-lt' key x).map (!·)}
def wZ(left:Bool)(key:Keyed)(arr:ab9)(base n hint:Nat):b7 left key arr base n hint=(do
  let mut mZ:=0;let mut B1:=1;let mut lo:=0;let mut hi:=0
  let some right<-gc left key arr base hint|return none
  if right then
   let oj:=n-hint
   for _ in [0:n] do
    if B1 ≥ oj then break
    let some more<-gc left key arr base (hint+B1)|return none
    if !more then break
    mZ:=B1;B1:=2*B1+1
   lo:=hint+mZ+1;hi:=hint+min B1 oj
  else
   let oj:=hint+1
   for _ in [0:n] do
    if B1 ≥ oj then break
    let some found<-gc left key arr base (hint-B1)|return none
    if found then break
    mZ:=B1;B1:=2*B1+1
   lo:=hint+1-min B1 oj;hi:=hint-mZ
  for _ in [0:n] do
   if lo ≥ hi then break
   let m:=lo+(hi-lo)/2
   let some more<-gc left key arr base m|return none
   if more then lo:=m+1 else hi:=m
  return some hi):=rfl
section
variable {prog:ac7}{w:World}{A:ahp}{E:Value->Shared->Prop}{s:ab5}{κ:ap2}{P:Keyed->Prop}
def bC(hi:i<arr.size)(q:Q arr[i] zt):wpS aa2 A E s (elem' arr i) Q zt:=by
 rw[elem'_eq,aaG hi];exact wpS_pure q
def uM(a b:ab9):og a b=(do
  rule "list.sort.merge-lo"
  let total:=a.size+b.size
  let done (out:Array Keyed) (ia ib:Nat):=(out++a.extract ia a.size)++b.extract ib b.size;let m6 (out:Array Keyed) (ia ib:Nat):=(out++b.extract ib b.size)++a.extract ia a.size
  let mut out:Array Keyed:=#[<-elem' b 0];let mut ia:=0;let mut ib:=1
  if ib==b.size then return ajC
  if ia+1==a.size then return asY
  let mut minGallop:=gallopOf (<-get)
  for _ in [0:total] do
   let mut cR:=0;let mut cS:=0
   for _ in [0:total] do
    let some QB<-lt' (<-elem' b ib) (<-elem' a ia)|return ajC
    if QB then
     out:=out.push (<-elem' b ib);ib:=ib+1;cS:=cS+1;cR:=0
     if ib==b.size then return ajC
     if cS ≥ minGallop then break
    else
     out:=out.push (<-elem' a ia);ia:=ia+1;cR:=cR+1;cS:=0
     if ia+1==a.size then return asY
     if cR ≥ minGallop then break
   rule "list.sort.gallop"
   minGallop:=minGallop+1
   for _ in [0:total] do
    if minGallop>1 then minGallop:=minGallop-1
    bh minGallop
    let some k<-b7 false (<-elem' b ib) a ia aDT 0|return ajC
    cR:=k
    if k>0 then
     out:=out++a.extract ia (ia+k);ia:=ia+k
     if ia+1==a.size then return asY
     if ia==a.size then return ajC
    out:=out.push (<-elem' b ib);ib:=ib+1
    if ib==b.size then return ajC
    let some k<-b7 true (<-elem' a ia) b ib aDD 0|return ajC
    cS:=k
    if k>0 then
     out:=out++b.extract ib (ib+k);ib:=ib+k
     if ib==b.size then return ajC
    out:=out.push (<-elem' a ia);ia:=ia+1
    if ia+1==a.size then return asY
    if cR<7&&cS<7 then break
   minGallop:=minGallop+1
   bh minGallop
  unsupported "internal:list.sort.merge-bound"):=rfl
structure Sm(zt au:ajD):Prop where
 k:kindOf au=kindOf zt
 a:arrOf au=arrOf zt
 p:pendingOf au=pendingOf zt
 f:failedOf au=failedOf zt
def Sm.rfl':Sm zt zt:=⟨rfl,rfl,rfl,rfl⟩
theorem Sm.setG(h:Sm zt au):Sm zt (setG au g):=⟨h.k,h.a,h.p,h.f⟩
def Pt(a b out:ab9)(i j:Nat):Prop:=out.toList.Perm atU
def dP(X Y Z:ahB):((X++Y)++Z).Perm ((X++Z)++Y):=by
 rw[aaZ,aaZ];exact adk X aeZ
section
variable {a b out:ab9}{i j k:Nat}
def fE(a:ab9):a.toList.take i++(a.extract i (i+k)).toList =a.toList.take (i+k):=by
 rw[acV];unfold List.extract;rw[show i+k-i=k by exact abX _ _,List.take_add]
def Pt.rZ(h:atW):Pt a b ay3 i (j+k):=by
 unfold Pt at h⊢;rw[aaI,<-fE b,<-aaZ];exact h.append_right _
def Pt.r0(h:atW):Pt a b ay4 (i+k) j:=by
 unfold Pt at h⊢;rw[aaI,<-fE a];exact(h.append_right _).trans (dP _ _ _)
def iw(hi:i<a.size):(a.extract i (i+1)).toList =[a[i]]:=by
 rw[acV];unfold List.extract;have gy:i<a.toList.length:=by simpa using hi
 rw[show i+1-i=1 by exact abX _ _,abH gy];simp
def yw(a:ab9)(hi:aqu):a.toList.take i++(a.extract i a.size).toList =a.toList:=by
 have:=fE a (i:=i) (k:=a.size-i);rw[show i+aGv=a.size by exact abh hi]at this;rw[this];exact abP ab1
def Pt.done(h:atW)(hi:aqu)(hj:ava):(ayj++b.extract j b.size).toList.Perm ag7:=by
 unfold Pt at h;rw[aaI,aaI];refine((h.append_right _).append_right _).trans<|((dP _ _ _).append_right _).trans ?_;rw[yw a hi,aaZ,yw b hj]
def Pt.last(h:atW)(hi:aqu)(hj:ava):(ayi++a.extract i a.size).toList.Perm ag7:=by
 refine List.Perm.trans ?_ (h.done hi hj);simp only[aaI];exact dP _ _ _
end
def Z9[Decidable c](t:c->ai8)(f:¬c->wpS aa2 A E s y Q zt):wpS aa2 A E s (if c then x else y) Q zt:=by
 split
 .exact t ‹_›
 .exact f ‹_›
def yx{α:Type}{x:SM α}{zt:ajD}{Q:α->SortSt->Prop}{T:Nat->Prop}(main:(∀g',T g')->ai8)(h:∀g',T g'):ai8:=main h
def r8{α:Type}{x:SM α}{zt:ajD}{Q:α->SortSt->Prop}{T:ab9->Nat->Prop}(C:ab9->Nat->Prop)(main:(∀o i,C o i->T o i)->ai8)(h:∀o i,C o i->T o i):ai8:=main h
def uN(a b:ab9):oh a b=(do
  rule "list.sort.merge-hi"
  let total:=a.size+b.size
  let done (out:Array Keyed) (na nb:Nat):=(a.extract 0 na++b.extract 0 nb)++out.reverse;let j5 (out:Array Keyed) (na nb:Nat):=(b.extract 0 nb++a.extract 0 na)++out.reverse
  let mut na:=a.size-1;let mut nb:=b.size;let mut out:Array Keyed:=#[<-elem' a na]
  if na==0 then return ajB
  if nb==1 then return asZ
  let mut minGallop:=gallopOf (<-get)
  for _ in [0:total] do
   let mut cR:=0;let mut cS:=0
   for _ in [0:total] do
    let some QC<-lt' (<-elem' b (nb-1)) (<-elem' a (na-1))|return ajB
    if QC then
     na:=na-1;out:=out.push (<-elem' a na);cR:=cR+1;cS:=0
     if na==0 then return ajB
     if cR ≥ minGallop then break
    else
     nb:=nb-1;out:=out.push (<-elem' b nb);cS:=cS+1;cR:=0
     if nb==1 then return asZ
     if cS ≥ minGallop then break
   rule "list.sort.gallop"
   minGallop:=minGallop+1
   for _ in [0:total] do
    if minGallop>1 then minGallop:=minGallop-1
    bh minGallop
    let some at_<-b7 false (<-elem' b (nb-1)) a 0 na (na-1)|return ajB
    let k:=na-at_
    cR:=k
    if k>0 then
     out:=out++(a.extract at_ na).reverse;na:=at_
     if na==0 then return ajB
    nb:=nb-1;out:=out.push (<-elem' b nb)
    if nb==1 then return asZ
    let some at_<-b7 true (<-elem' a (na-1)) b 0 nb (nb-1)|return ajB
    let k:=nb-at_
    cS:=k
    if k>0 then
     out:=out++(b.extract at_ nb).reverse;nb:=at_
     if nb==1 then return asZ
     if nb==0 then return ajB
    na:=na-1;out:=out.push (<-elem' a na)
    if na==0 then return ajB
    if cR<7&&cS<7 then break
   minGallop:=minGallop+1
   bh minGallop
  unsupported "internal:list.sort.merge-bound"):=rfl
def Ph(a b out:ab9)(i j:Nat):Prop:=(atU++out.toList).Perm ag7
section
variable {a b out:ab9}{i j k:Nat}
def uO(a:ab9)(h:k<=i):a.toList.take k++(a.extract k i).toList =a.toList.take i:=by
 have:=fE a (i:=k) (k:=i-k);rwa [show k+(i-k)=i by exact abh h]at this
def dW(a:ab9):(a.extract 0 i).toList =a.toList.take i:=by
 rw[acV];unfold List.extract;simp
def Ph.r0(h:atX)(hk:k<=i)(_:aqu):Ph a b avJ k j:=by
 unfold Ph at h⊢;refine List.Perm.trans ?_ h;rw[aaI,acd,<-uO a hk,<-aaZ];exact(adk _ (afP _)).trans<|(dP _ _ _).trans<|(dP _ _ _).append_right _
def Ph.rZ(h:atX)(hk:k<=j)(_:ava):Ph a b avI i k:=by
 unfold Ph at h⊢;refine List.Perm.trans ?_ h;rw[aaI,acd,<-uO b hk,<-aaZ,<-aaZ];exact(adk _ (afP _)).trans<|dP _ _ _
def j6(h1:1<=i)(hi:i-1<a.size):(a.extract (i-1) i).toList =[a[i-1]]:=by
 have:=iw (a:=a) (i:=i-1) hi;rwa [show i-1+1=i by exact acF h1]at this
def Ph.done(h:atX):(avS++out.reverse).toList.Perm ag7:=by
 unfold Ph at h;refine List.Perm.trans ?_ h;rw[aaI,aaI,dW,dW,acd];exact adk _ (afP _)
def Ph.first(h:atX):(avP++out.reverse).toList.Perm ag7:=by
 refine List.Perm.trans ?_ h.done;simp only[aaI];exact aeZ.append_right _
end
end
section
variable {prog:ac7}{w:World}{A:ahp}{E:Value->Shared->Prop}{s:ab5}{κ:ap2}{P:Keyed->Prop}
structure Ar(zt au:ajD):Prop where
 k:kindOf au=kindOf zt
 a:(arrOf au).Perm ac4
 p:pendingOf au=pendingOf zt
 f:failedOf au=failedOf zt
def Ar.rfl':Ar zt zt:=⟨rfl,afx _,rfl,rfl⟩
def Ar.set(h:Ar zt au)(hx:x.Perm ahy):Ar zt (setArr au x):=⟨h.k,hx.trans h.a,h.p,h.f⟩
theorem Ar.size(h:Ar zt au):(arrOf au).size =(arrOf zt).size :=h.a.size_eq
def Ar.all(h:Ar zt au)(hp:∀x∈arrOf zt,P x):∀x∈arrOf au,P x:=λx hx=>hp x aDj
def yz(q:Q () (setArr zt (mirror ac4 i j ((j-i)/2)))):wpS aa2 A E s (reverseSlice' i j) Q zt:=by
 rw[reverseSlice'_eq];exact wpS_modify q
def uP(i:Nat):mergeAt' i=(do
  let s<-get
  let (some (sa,na,power),some (sb,nb,_)):=((pendingOf s)[i]?,(pendingOf s)[i+1]?)|unsupported "internal:list.sort.pending"
  set (setPending s (((pendingOf s).setIfInBounds i (sa,na+nb,power)).eraseIdxIfInBounds (i+1)))
  let some k<-b7 false (<-elem' aDE sb) aDE sa na 0|return false
  let (sa,na):=(sa+k,na-k)
  if na==0 then return true
  let some nb<-b7 true (<-elem' aDE (sa+na-1)) aDE sb nb (nb-1)|return false
  if nb==0 then return true
  let x:=(arrOf s).extract sa sb
  let y:=(arrOf s).extract sb azx
  let merged<-if na<=nb then og x y else oh x y
  modify λs=>setArr s (merged.toList.zipIdx.foldl (λa (p,j)=>a.setIfInBounds (sa+j) p) aDE)
  return (failedOf (<-get)).isNone):=rfl
def GZ{σ:Type}{M:Model}{zt au:σ}{Q:PUnit->σ->Prop}(h:Q ⟨⟩ au):wpS M A E s (set au:StateT σ Sem PUnit) Q zt:=by
 unfold wpS;rw[StateT.run_set];exact aao ⟨rfl,h⟩
theorem r_:∀(ms:List Keyed) (o j:Nat) (a:ab9),o+j+ms.length<=a.size->
  ((ms.zipIdx j).foldl (λa (p:Keyed×Nat)=>ayB) a).toList =a.toList.take (o+j)++ms++a.toList.drop (o+j+ms.length)
 |[],o,j,a,h=>by simp
 |m::ms,o,j,a,h=>by
  rw[aaL]at h;rw[List.zipIdx_cons,aeA,r_ ms o (j+1) _ (by rw[afQ];lia)];have e:(a.setIfInBounds (o+j) m).toList =a.toList.set (o+j) m:=aeg ..;have hl:o+j<a.toList.length:=by rw[aaK];exact aaU aiD h
  rw[e,List.set_eq_take_append_cons_drop,aaB hl,aaL];have ht:(List.take (o+j) a.toList).length =o+j:=by rw[aci];exact acs (aaE hl)
  have e5:(a.toList.take (o+j)++m::a.toList.drop (o+j+1)).take (o+(j+1))=a.toList.take (o+j)++[m]:=by
   rw[List.take_append,ht,show o+(j+1)-(o+j)=1 by exact agL (abl (aep _ _)),abP (by rw[ht];exact aho _)];rfl
  have e6:(a.toList.take (o+j)++m::a.toList.drop (o+j+1)).drop (o+(j+1)+ms.length)=a.toList.drop (o+j+(ms.length+1)):=by
   rw[List.drop_append,ht,show o+(j+1)+ms.length-(o+j)=ms.length+1 by exact UA,List.drop_of_length_le (by rw[ht];exact aaE aiD),afy,List.drop_succ_cons,afG];congr 1;exact abk _ _ _
  rw[e5,e6];simp
def yA{a:ab9}(h:x∈a.extract i j):x∈a:=by
 rw[<-acK,acV]at h;unfold List.extract at h;exact acK.mp (acW (abS h))
def QD[Decidable c](h1:x+1<n)(h2:y+1<n):(if c then x else y)+1<n:=by split<;>assumption
end
open PySem.W
def jj(h:Heap)(v:Value):Prop:=∃(x:Addr) (o:Obj) (xs:ab0) (n:Nat) (i:Int) (r:aa0),v= .ref x/\h.get? x=some o/\o.cls= .type "tuple"/\azB/\IntsAre xs (i::r)
section
variable {prog:ac7}{w:World}{A:ahp}{E:Value->Shared->Prop}{s:ab5}
theorem ml:∀{vs:ab0},(∀v∈vs,jj h v)->∃fs,KatTups h vs fs/\(∀f∈fs,∃i t,f=Value.int i t)/\fs.length=vs.length
 |[],_=>⟨[],.nil,λ_ z=>(nomatch z),rfl⟩
 |v::vs,hv=>by
  refine bH (ml (vs:=vs) λz hz=>hv z awK) λfs h1 h2 h3=>Ox (hv v aaq) λx o xs n i r ai g1 g2 g3 g4=>?_;subst ai;cases g4 with
  |cons _ t g5=>exact⟨_,.cons g1 g2 g3 rfl h1,λf hf=>(aat.mp hf).elim (λz=>⟨i,t,z⟩) (h2 f),by rw[aaL,aaL,h3]⟩
def uQ(vs:ab0):(vs.toArray.zip vs.toArray).map (λp:Keyed=>p.2)=vs.toArray:=by
 apply agk.mp;rw[afg,Array.toList_zip];exact agl ac9
end
end bN
namespace L2
open PySem PySem.Spec PyProof.Rows
def gE(h:Heap)(d:Addr)(es:ajv)(ep:Nat):Prop:=∃o,aym/\aFW/\o.data= .dict es ep
def gE.ty{s:ab5}(r:alU):s.TypeIs azZ "dict":=let ⟨o,e,c,_⟩:=r;⟨o,e,c.1⟩
def gE.on(r:asx)(k:∀o,aym->h'.get? d=some o):gE h' d es ep:=let ⟨o,e,c⟩:=r;⟨o,k o e,c⟩
def gE.lt(r:asx):d<h.objs.size:=let ⟨_,e,_⟩:=r;aaA e
section
variable {prog:ac7}{w:World}{A:ahp}{E:Value->Shared->Prop}{s:ab5}{d:Addr}{es:ajv}{ep:Nat}
end
open PySem.W
section
variable {prog:ac7}{w:World}{A:ahp}{E:Value->Shared->Prop}{s:ab5}{d it:Addr}{es:ajv}{ep i:Nat}
def uR(hm:aoq)(r:alU)(h:Q ab6 {s with heap:=s.heap.push {cls:= .type "dict_keyiterator",data:= .fields #[aEd,aB8,.int es.size 0,.int ep 0]}}):
  wpAny aa2 A (aG5 azZ) Q E s:=by
 have T:=r.ty;refine bH r λo e c dt=>aeQ T F.slot_dict_iter (abt F.slot_dict_iter T F.entry_dict_iter ?_ (F.args_dict_iter_1 _));unfold Builtin.«dict.__iter__» Builtin.Dict.dictSlotNone;refine aag (aag (wpAny_notOrdered_dict T ?_));show wpAny _ _ (pure (aG_ d)) _ _ s;refine aao ?_;show wpAny _ _ (Builtin.Dict.showsAll d >>= λ_=>_) _ _ s;unfold Builtin.Dict.showsAll;rw[aaF (by rw[hm];exact aan)];refine aag (aao (aag (afR e dt (aag (agy e dt ?_)))));refine aag (abf (aao ⟨_,rfl,"dict_keyiterator",_,asm,acE.lookup,?_⟩));simpa[rawInt]using h
def uS(k:s.heap.IsKeyIter it d i es.size ep)(r:alU)(hi:i<es.size)
  (h:∀h',h'.IsKeyIter it d (i+1) es.size ep->ajX->Q (some es[i].key) {s with heap:=h'}):aie:=by
 have T:=k.typeIs;refine bH (id k) λoi ei ci di=>bH r λo e c dt=>?_;unfold pyNext;refine aag (adl (abG (name:=Str.ofString "__next__") T acE (abt acE T afh ?_ (afa _))));refine aag (aao (aag (aag ?_)))
 first|refine aag (acU T (aao (aag (aeU ei di ?_))))|refine aag (ady T (aao (aag (aeU ei di ?_))))
 have own:Builtin.Dict_items.ownsTuple "dict_keyiterator"=false:=by decide
 simp only[own,aco,if_false];show wpAny _ _ (if ame=true then _ else _) _ _ s;rw[aaF (show¬(ame=true) from aan)];refine aag (aao (aag (afR e dt ?_)));rw[aaF ab1];refine aag (aao (aag (agy e dt ?_)));rw[aaF ab1];refine aao ?_;simp only[show¬((i:Int)<0) from axs,if_false,abU,aaG hi];refine aag ?_
 first|refine aag (acU T (aao (aag (afb T ?_))))|refine aag (ady T (aao (aag (afb T ?_))))
 show wpAny _ _ (setField ad8 1 (auU ((i:Int)+1)) >>= λ_=>_) _ _ s;refine aag (abR ei di ab1 ?_);have k':(s.heap.update it (apA (·.setIfInBounds 1 (auU ((i:Int)+1))))).IsKeyIter it d (i+1) es.size ep:=
  ⟨_,abu _ ei (acf (aby di _)),(adZ ..).trans ci,by rw[aby di];simp[rawInt]⟩
 refine aag (abq (aag (afb (s:={s with heap:=s.heap.update it (apA (·.setIfInBounds 1 (auU ((i:Int)+1))))}) k'.typeIs ?_)));show wpAny _ _ (pure es[i].key) _ _ _;exact aao (aao ⟨_,rfl,aao (h _ k' (abA ..))⟩)
def yB(hh:af4)(k:s.heap.IsKeyIter it d es.size es.size ep)(r:alU)(h:∀h',akk->Q none {s with heap:=h'}):aie:=by
 have T:=k.typeIs;refine bH (id k) λoi ei ci di=>bH r λo e c dt=>?_;unfold pyNext;refine aag (adl (abG (name:=Str.ofString "__next__") T acE (abt acE T afh ?_ (afa _))));refine aag (aao (aag (aag ?_)))
 first|refine aag (acU T (aao (aag (aeU ei di ?_))))|refine aag (ady T (aao (aag (aeU ei di ?_))))
 have own:Builtin.Dict_items.ownsTuple "dict_keyiterator"=false:=by decide
 simp only[own,aco,if_false];show wpAny _ _ (if ame=true then _ else _) _ _ s;rw[aaF (show¬(ame=true) from aan)];refine aag (aao (aag (afR e dt ?_)));rw[aaF ab1];refine aag (aao (aag (agy e dt ?_)));rw[aaF ab1];refine aao ?_;simp only[show¬((es.size:Int)<0) from axs,if_false,abU,adN (aas es.size)];refine aag ?_
 first|refine aag (acU T (aao ?c))|refine aag (ady T (aao ?c))
 case c=>
  show wpAny _ _ (setField ad8 0 .none >>= λ_=>_) _ _ s;refine aag (abR ei di ab1 ?_);show wpAny _ _ (newExc (.type "StopIteration") [] >>= λ_=>_) _ _ _;refine aag ?_;simp only[newExc,newTuple];refine aag (abf (aag (m:=firstArgMember _ _) (aeP (a:=Value.none) (by first|rfl|(simp only[firstArgMember];rfl)) (abf ?_ (by size_fits)))) (by size_fits));simp only[raiseNew];refine aag (afq ?_);rw[show A.in1.handled=none from hh];refine(aag (aao (agc ?_)));refine(aag (aem (T:="StopIteration") (b:=true) ⟨_,ag6,rfl⟩ isSubtype_stop ?_));exact aao (h _ (((abA ..).extBut.push _).push _))
def uT(k:s.heap.IsKeyIter it d i n ep)(h:Q ad8 s):aww:=wpAny_pyIter_keyiter k h
def AQ(hh:af4)(it d:Addr)(eJ:d≠it)(es:ajv)(ep:Nat):Walks prog w A it [it,d] [it] es.size (λi v=>∃e,es[i]?=some e/\v=e.key) (λi h=>h.IsKeyIter it d i es.size ep/\asx) where
 sub:=λb hb=>by simp at hb;simp[hb]
 frame:=λ_ _ _ st hk=>⟨st.1.at λo e=>hk it ab1 o e,st.2.on λo e=>hk d ab1 o e⟩
 item:=λi s Q E hi st hQ=>uS st.1 st.2 hi λh' k' hs=>hQ _ h' s.toks ⟨_,aaG hi,rfl⟩ ⟨k',st.2.on λo e=>hs.extBut d o eJ e⟩ λb o hb e=>hs.extBut b o (λz=>hb (by simp[z])) e
 done:=λs Q E st hQ=>yB hh st.1 st.2 λh' he=>hQ h' s.toks λb o hb e=>he b o (λz=>hb (by simp[z])) e
 self:=λ_ _ _ _ st hQ=>uT st.1 hQ
def yC(lo:aoq):KdlSrc prog w "dict" d d es.size (λi v=>∃e,es[i]?=some e/\v=e.key) (λh=>asx) where
 type:=λ_ r=>r.ty
 there:=λ_ r=>⟨r.lt,r.lt⟩
 keep:=λ_ _ r hk=>r.on λo e=>hk d ahq o e
 notList:=by decide
 notTuple:=by decide
 hint:=λ_ _ _ _ r hq=>kdl_hint_dict r.ty hq
 iter:=λA s hh r=>⟨_,λi h=>h.IsKeyIter s.heap.objs.size d i es.size ep/\asx,(λ_ _ hq=>uR lo r hq),AQ hh _ d (aaN r.lt) es ep,⟨ah3,r.on λo e=>aiY⟩⟩
end
def w4(I:aa4)(e:aAX):∃es ep,gE s.heap a es ep/\am9/\ahN/\ai9/\∀(i:Nat) (kv:cz×V),kvs[i]?=some kv->∃en,es[i]?=some en/\aDX:=by
 obtain⟨z,lo,vs,eN,o,es,ep,h1,h2,h3,h4,h5,h6⟩:=jZ I.aJ e;have hl:am9:=by rw[eN.length,<-h5.length];simp
 refine⟨es,ep,⟨o,h1,h2,h3⟩,hl,lo,z,λi kv hi=>?_⟩;have aU:asw:=(aax.mp hi).1;have wV:i<es.size:=(aaj aU ajf);have XW:aui:=by rw[<-eN.length];exact aU
 refine⟨es[i],aaG wV,?_⟩;have hk:=(h5.get? (e:=es[i]) (k:=vs[i].1) (v:=vs[i].2) (i:=i) (by rw[aba];exact aaG wV) (aai XW)).1;have he:vs[i].1 =kv.1:=by
  have:=congrArg (λl:List cz=>l[i]?) eN.keys;simp only[aaC,hi,aai XW,adR]at this;exact(aaQ this).symm
 rw[he]at hk;rcases bg (show nD kv.1 es[i].key =true from hk)with⟨n,t,e1,e2⟩|⟨x,t,e1,e2⟩
 .rw[e1,e2];exact⟨t,rfl⟩
 .rw[e1,e2];exact⟨t,rfl⟩
section
variable {X:Cx}
end
noncomputable def VF(a:Addr)(o:Obj)(kvs:ap4):It:=
 ⟨λi H=>ap5/\asw,λi H x H'=>H'=H/\(kvs[i]?).map (λkv=>kV kv.1)=some x,λi H=>ap5/\i=kvs.length⟩
def yD(I:aa4)(e:ap5)(hd:ajt):
  gE s.heap a es ep/\am9/\∀(i:Nat) (kv:cz×V),kvs[i]?=some kv->∃en,es[i]?=some en/\aDX:=by
 refine kM (w4 I (ant ⟨o,e⟩)) λwo JH r1 r2 _ _ r5=>?_;have ho:aj7:=(show aO X.prog X.w H s.heap a ahU from I.aJ a _ e).1;refine bH (id r1) λo' g1 g2 g3=>?_;rw[ho]at g1;cases g1;rw[hd]at g3;cases g3;exact⟨r1,r2,r5⟩
def G0{K:ay}(a it:Addr)(eJ:a≠it)(o:Obj)(kvs:ap4)(es:ajv)(ep:Nat)(hd:ajt):rE P w K tg (VF a o kvs) [it] it (λi h=>h.IsKeyIter it a i es.size ep) where
 mem:=by simp
 obj:=λi h st b hb=>by
  have e:b=it:=by simpa using hb
  subst e;exact bH st λo e c d=>⟨o,e,λv z=>by rw[d]at z;cases z⟩
 keep:=λi h h' st k=>st.at λo e=>k it ab1 o e
 item:=by
  intro X hP hw hK hc i U s σ H E I hf st hg;subst hP hw hK;obtain⟨e1,e2⟩:=hg;refine c6 (yD I e1 hd) λr1 r2 r3=>tT ajN λf0 f1 f2 f3 f4 f5=>?_;have hi:i<es.size:=(aaj e2 (aaw (abl r2)));refine aa (r3 i kvs[i] (aai e2)) λen n1 n2=>?_;rw[aaG hi]at n1;cases n1;refine uS st r1 hi λh' k' hs=>?_;have I1:Inv X U σ H {s with heap:=h'}:=I.turned (t':=s.toks) (λb o hb e=>aG0) f0 f1 f3 f4 f5;exact bH (id k') λoi g1 g2 g3=>⟨_,rfl,qr (s:={s with heap:=h'}) g1 g2 g3 aa1 ⟨_,H,I1,n2,⟨rfl,by rw[aai e2];rfl⟩,k',λb hb=>arx⟩⟩
 done:=by
  intro X hP hw hK hc i U s σ H E I hf st hg;subst hP hw hK;obtain⟨e1,e2⟩:=hg;refine c6 (yD I e1 hd) λr1 r2 r3=>tT ajN λf0 f1 f2 f3 f4 f5=>?_;have e:i=es.size:=(afF e2 (abl r2));subst e;exact yB ahx st r1 λh' eb=>⟨rfl,I.turned (t':=s.toks) (λb o hb e=>apm) f0 f1 f3 f4 f5⟩
 self:=λ_ _ _ _ _ st h=>uT st h
section
variable {X:Cx}{tg:Expr}
def Z_(tl:TE):TI:=λσ H R=>tl σ H λx H1=>∃a o kvs,akb/\H1 a=some ahU/\R (VF a o kvs) H1
def QE(hl:PE X l tl):PI X tg l (Z_ tl):=by
 intro U s σ H R I h;refine bF aDi λv s1 zz=>ba zz λx H1 I1 r1 q1=>cx q1 λa o kvs e hq q=>?_;subst e;cases r1;refine kM (w4 I1 (ant ⟨o,hq⟩)) λes ep g1 g2 g3 g4 g5=>?_;have ho:aC0:=(show aO X.prog X.w H1 s1.heap a ahU from I1.aJ a _ hq).1;have hd:ajt:=by
  refine bH (id g1) λo' z1 z2 z3=>?_;rw[ho]at z1;cases z1;exact z3
 refine uR g3 g1 ?_;refine⟨aia,[aia],_,_,H1,rfl,I1.kept (t':=s1.toks) λb o e=>aiY,G0 a _ (aaN aFh) o kvs es ep hd,ah3,λb hb=>?_,q⟩;have e:apq:=by simpa using hb
 subst e;exact I1.ui ac9 ah9
def QF(tk tv:TE):TE:=λσ H Q=>∀p,aj_->tk σ (avC aw2) λx H1=>tv σ H1 λy H2=>∃b ks,x= .ref b/\H2 b=some avf/\H2 p=some aw2/\Q ahG (upd H2 p (.dT [(ks,y)]))
def G6(hu:alX)(hk:PE X k tk)(hv:PE X v tv):PE X azo (QF tk tv):=by
 intro U s σ H Q I h;have hn:ani:=I.aJ.fresh ac9;refine wpAny_Dict_any rfl rfl ab1 (show 1<=15 by decide) ?_;have I0:Inv X U σ (alE aw2) {s with heap:=s.heap.push {cls:= .type "dict",data:= .dict #[]}}:=I.laid (a:=s.heap.objs.size) (o:= .dT []) (t':=s.toks) (λ_ _ q=>awc) ac9 aFF;refine pairTrees_cons_walk (bF axc λkv s1 ⟨x,H1,I1,r1,q1⟩=>bF azG λvv s2 ⟨y,H2,I2,r2,q2⟩=>pairTrees_nil_walk ?_);refine iq q2 λb ks ex eb ep q3=>?_;subst ex;cases r1;unfold storeAll;rw[adw];obtain⟨z,hd,xs,eN,dd⟩:=yt I2.aJ ep;cases eN;refine aag (aag (wpAny_dictSet_heap (hsz:=abn _) (knd:=tupleKind ao4) (show X.A.units<cLine by exact aaE hu) (ji I2.aJ eb) dd λh' CZ hs=>aao ?_));dsimp only;rw[List.forIn_nil];refine aao ⟨ab6,_,?_,rfl,q3⟩;refine Ov CZ λo es e2 g1 g2 g3 g4 _ g5=>?_;refine j4 I2 (by rw[ep];exact True.intro) hs ⟨o,g1⟩ ⟨by rw[sizeLine_eq];exact(by decide:(1:Nat)<=16777216),hd,_,?_,o,es,e2,g1,g2,g3,g4,g5⟩;refine .cons ⟨rfl,?_,r2⟩ .nil;rw[ak (c7 eb ep (λz=>nomatch z))];exact eb
end
end L2
namespace bN
open PySem PyProof.Rows
structure Ord(r:Keyed->Keyed->Bool):Prop where
 Tn:∀x y,r x y=true->r y x=false
 tr:∀x y z,r y x=false->r z y=false->r z x=false
def le(r:Keyed->Keyed->Bool)(x y:Keyed):Prop:=r y x=false
section
variable {r:Keyed->Keyed->Bool}{prog:ac7}{w:World}{A:ahp}{E:Value->Shared->Prop}{s:ab5}{κ:ap2}{P:Keyed->Prop}
def Ord.refl(O:Ord r)(x:Keyed):le r x x:=by
 show r x x=false;cases h:r x x with
 |false=>rfl
 |true=>exact(O.Tn x x h).symm.trans h |>.symm ▸rfl
def Ord.of_lt(O:Ord r)(h:r x y=true):an9:=O.Tn x y h
def Ord.trans(O:Ord r)(h1:an9)(h2:le r y z):le r x z:=O.tr x y z h1 h2
def om(prog:ac7)(w:World)(A:ahp)(E:Value->ab5->Prop)(s:ab5)(κ:ap2)(P:Keyed->Prop)(r:Keyed->Keyed->Bool):Prop:=
 ∀(x y:Keyed) (st:ajD) (Q:anD->ajD->Prop),P x->P y->apY->Q (aku (r x y)) st->wpS aa2 A E s (lt' x y) Q st
noncomputable def w6(r:Keyed->Keyed->Bool)(left:Bool)(key x:Keyed):Bool:=if left then r x key else !r key x
def C7{left:Bool}{key:Keyed}{arr:ab9}{base i:Nat}{st:ajD}{Q:anD->SortSt->Prop}(L:ahC)(hk:apY)(hp:P key)(ha:∀x∈arr,P x)(hi:base+i<arr.size)(q:Q (aku (w6 r left key arr[base+i])) st):
  wpS aa2 A E s azb Q st:=by
 unfold gc;refine wpS_bind (bC hi ?_);have hx:=ha _ (abQ hi);cases left with
 |true=>exact L _ _ st _ hx hp hk q
 |false=>exact wpS_bind (L _ _ st _ hp hx hk (wpS_pure q))
def C8(O:Ord r)(h:an9)(hy:w6 r left key y=true):aEA:=by
 unfold w6 at hy⊢;cases left with
 |true=>
  have FU:r y key=true:=hy;show r x key=true;cases e:r x key with
  |true=>rfl
  |false=>
   have:=O.tr key x y e h;rw[this]at FU;cases FU
 |false=>
  have FU:(!r key y)=true:=hy;show(!r key x)=true;have h1:r key y=false:=by simpa using FU
  have:=O.tr x y key h h1;simp[this]
def C9{left:Bool}{key:Keyed}{arr:ab9}{base n hint:Nat}{st:ajD}{Q:ahM->SortSt->Prop}{f:Nat->Bool}(hn:hint<n)(hB:∀(i:Nat) (Q:anD->ajD->Prop),i<n->Q (aku (f i)) st->wpS aa2 A E s azb Q st)
  (mono:∀i j,i<=j->j<n->f j=true->as3)
  (q:∀k,k<=n->(∀i,i<k->as3)->(∀i,k<=i->i<n->aqC)->Q (aku k) st):apW:=by
 have up:∀i j,i<=j->j<n->aqC->f j=false:=λi j h1 h2 h3=>by
  cases e:f j with
  |false=>rfl
  |true=>rw[mono i j h1 h2 e]at h3;cases h3
 rw[wZ];refine wpS_bind (hB hint _ hn ?_);dsimp only;cases e0:f hint with
 |true=>
  rw[aaB rfl];refine wpS_bind (wpS_mono (wpS_forRange (I:=λi c au=>au=st/\∃l o,awG/\l<o/\i+1<=o/\hint+l<n/\f (hint+l)=true)
   (Q:=λc au=>au=st/\∃l o,awG/\l<o/\hint+l<n/\f (hint+l)=true/\(n-hint<=o\/(hint+o<n/\f aES=false))) ?_ ?_ ⟨rfl,0,1,rfl,by omega,by omega,by omega,e0⟩) ?_)
  .rintro i c au _ _ ⟨rfl,l,o,rfl,g1,g2,g3,g4⟩;dsimp only;by_cases hg:o ≥ n-hint
   .rw[aaB hg];exact wpS_pure ⟨rfl,l,o,rfl,g1,g3,g4,.inl hg⟩
   .rw[aaF hg];refine wpS_bind (hB aES _ aa3 ?_);cases e1:f aES with
    |true=>exact wpS_pure ⟨rfl,_,_,rfl,by omega,by omega,by omega,e1⟩
    |false=>exact wpS_pure ⟨rfl,_,_,rfl,g1,g3,g4,.inr ⟨by omega,e1⟩⟩
  .rintro c au ⟨rfl,l,o,rfl,g1,g2,g3,g4⟩;exact⟨rfl,l,o,rfl,g1,g3,g4,.inl aa3⟩
  rintro c au ⟨rfl,l,o,rfl,g1,g3,g4,g5⟩;dsimp only;have a1:∀i,i<hint+l+1->as3:=λi hi=>mono i (hint+l) aa3 g3 g4;have a2:∀i,hint+min o (n-hint)<=i->i<n->aqC:=λi h1 h2=>by
   rcases g5 with g5|⟨g5,g6⟩
   .omega
   .exact up aES i aa3 h2 g6
  refine wpS_bind (wpS_mono (wpS_forRange (I:=λi c cP=>cP=au/\∃lo hi,atP/\lo<=hi/\hi<=n/\hi-lo+i<=n/\(∀i,i<lo->as3)/\(∀i,hi<=i->i<n->aqC)) (Q:=λc cP=>cP=au/\∃lo hi,atP/\hi<=n/\(∀i,i<hi->as3)/\(∀i,hi<=i->i<n->aqC)) ?_ ?_ ⟨rfl,_,_,rfl,by omega,by omega,by omega,a1,a2⟩) ?_)
  .rintro i c cP _ _ ⟨rfl,lo,hi,rfl,z1,z2,z3,z4,z5⟩;dsimp only;by_cases hg:lo ≥ hi
   .rw[aaB hg];exact wpS_pure ⟨rfl,lo,hi,rfl,z2,λi h=>z4 i aa3,z5⟩
   .rw[aaF hg];refine wpS_bind (hB _ _ aa3 ?_);cases e2:f (lo+(hi-lo)/2)with
    |true=>exact wpS_pure ⟨rfl,_,hi,rfl,by omega,z2,by omega,λi h=>aFZ,z5⟩
    |false=>exact wpS_pure ⟨rfl,lo,_,rfl,by omega,by omega,by omega,z4,λi h1 h2=>up _ i h1 h2 e2⟩
  .rintro c cP ⟨rfl,lo,hi,rfl,z1,z2,z3,z4,z5⟩;exact⟨rfl,lo,hi,rfl,z2,λi h=>z4 i aa3,z5⟩
  .rintro c cP ⟨rfl,lo,hi,rfl,z2,z4,z5⟩;exact wpS_pure (q hi z2 z4 z5)
 |false=>
  rw[aaF aan];refine wpS_bind (wpS_mono (wpS_forRange (I:=λi c au=>au=st/\∃l o,awG/\l<o/\i+1<=o/\l<=hint/\f (hint-l)=false)
   (Q:=λc au=>au=st/\∃l o,awG/\l<o/\l<=hint/\f (hint-l)=false/\(hint+1<=o\/(o<=hint/\f aER=true))) ?_ ?_ ⟨rfl,0,1,rfl,by omega,by omega,by omega,e0⟩) ?_)
  .rintro i c au _ _ ⟨rfl,l,o,rfl,g1,g2,g3,g4⟩;dsimp only;by_cases hg:o ≥ hint+1
   .rw[aaB hg];exact wpS_pure ⟨rfl,l,o,rfl,g1,g3,g4,.inl hg⟩
   .rw[aaF hg];refine wpS_bind (hB aER _ aa3 ?_);cases e1:f aER with
    |true=>exact wpS_pure ⟨rfl,_,_,rfl,g1,g3,g4,.inr ⟨by omega,e1⟩⟩
    |false=>exact wpS_pure ⟨rfl,_,_,rfl,by omega,by omega,by omega,e1⟩
  .rintro c au ⟨rfl,l,o,rfl,g1,g2,g3,g4⟩;exact⟨rfl,l,o,rfl,g1,g3,g4,.inl aa3⟩
  rintro c au ⟨rfl,l,o,rfl,g1,g3,g4,g5⟩;dsimp only;have a1:∀i,i<hint+1-min o (hint+1)->as3:=λi hi=>by
   rcases g5 with g5|⟨g5,g6⟩
   .omega
   .exact mono i aER aa3 aa3 g6
  have a2:∀i,hint-l<=i->i<n->aqC:=λi h1 h2=>up (hint-l) i h1 h2 g4;refine wpS_bind (wpS_mono (wpS_forRange (I:=λi c cP=>cP=au/\∃lo hi,atP/\lo<=hi/\hi<=n/\hi-lo+i<=n/\(∀i,i<lo->as3)/\(∀i,hi<=i->i<n->aqC)) (Q:=λc cP=>cP=au/\∃lo hi,atP/\hi<=n/\(∀i,i<hi->as3)/\(∀i,hi<=i->i<n->aqC)) ?_ ?_ ⟨rfl,_,_,rfl,by omega,by omega,by omega,a1,a2⟩) ?_)
  .rintro i c cP _ _ ⟨rfl,lo,hi,rfl,z1,z2,z3,z4,z5⟩;dsimp only;by_cases hg:lo ≥ hi
   .rw[aaB hg];exact wpS_pure ⟨rfl,lo,hi,rfl,z2,λi h=>z4 i aa3,z5⟩
   .rw[aaF hg];refine wpS_bind (hB _ _ aa3 ?_);cases e2:f (lo+(hi-lo)/2)with
    |true=>exact wpS_pure ⟨rfl,_,hi,rfl,by omega,z2,by omega,λi h=>aFZ,z5⟩
    |false=>exact wpS_pure ⟨rfl,lo,_,rfl,by omega,by omega,by omega,z4,λi h1 h2=>up _ i h1 h2 e2⟩
  .rintro c cP ⟨rfl,lo,hi,rfl,z1,z2,z3,z4,z5⟩;exact⟨rfl,lo,hi,rfl,z2,λi h=>z4 i aa3,z5⟩
  .rintro c cP ⟨rfl,lo,hi,rfl,z2,z4,z5⟩;exact wpS_pure (q hi z2 z4 z5)
noncomputable abbrev sg(arr:ab9)(base n:Nat):List Keyed:=(arr.toList.drop base).take n
def gf(hi:i<n)(hz:axj):(sg arr base n)[i]?=some (arr[base+i]' aa3):=by
 rw[aeB,aaB hi,aeC,aba,aaG]
def dX(hz:axj):(sg arr base n).length =n:=by
 rw[aci,adH,aaK];omega
def cU{left:Bool}{key:Keyed}{arr:ab9}{base n hint:Nat}{st:ajD}{Q:ahM->SortSt->Prop}(L:ahC)(O:Ord r)(hk:apY)(hp:P key)(ha:∀x∈arr,P x)(hz:axj)(hn:hint<n)
  (hS:(sg arr base n).Pairwise (le r))
  (q:∀k,k<=n->(∀x∈(sg arr base n).take k,aEA)->(∀x∈(sg arr base n).drop k,w6 r left key x=false)->Q (aku k) st):apW:=by
 have hl:=dX hz;have fe:∀i (h:i<n),(((sg arr base n)[i]?).elim false (w6 r left key))=w6 r left key (arr[base+i]' aa3):=λi h=>by rw[gf h hz];rfl
 refine C9 (f:=λi=>((sg arr base n)[i]?).elim false (w6 r left key)) hn (λi Q hi hq=>C7 L hk hp ha aa3 (by rw[<-fe i hi];exact hq)) (λi j v8 hj hf=>?_) (λk FZ h1 h2=>q k FZ (λx hx=>?_) (λx hx=>?_))
 .rcases abx i j with z|z
  .rw[fe j hj]at hf;rw[fe i aa3];refine C8 O ?_ hf;have:=(acu.mp hS) i j aa3 aa3 z;have e1:=gf (arr:=arr) (show i<n by omega) hz;have e2:=gf (arr:=arr) hj hz;rw[aai aa3]at e1 e2;rw[aaQ e1,aaQ e2]at this;exact this
  .rw[show i=j by omega];exact hf
 .obtain⟨i,hi,rfl⟩:=adE hx;rw[aci]at hi;have:=h1 i aa3;rw[aai aa3]at this;rw[List.getElem_take];exact this
 .obtain⟨i,hi,rfl⟩:=adE hx;rw[adH]at hi;have:=h2 (k+i) aa3 aa3;rw[aai aa3]at this;rw[List.getElem_drop];exact this
structure Ms(r:Keyed->Keyed->Bool)(a b out:ab9)(i j:Nat):Prop where
 p:Pt a b out i j
 s:out.toList.Pairwise (le r)
 ta:∀x∈out.toList,∀y∈a.toList.drop i,le r x y
 tb:∀x∈out.toList,∀y∈b.toList.drop j,le r x y
end
section
variable {r:Keyed->Keyed->Bool}{a b out:ab9}{i j k:Nat}
def dZ(a:ab9)(i k:Nat):(a.extract i (i+k)).toList =sg a i k:=by
 rw[acV];unfold List.extract;rw[show i+k-i=k by omega]
def C_(a:ab9)(i k:Nat):a.toList.drop i=sg a i k++a.toList.drop (i+k):=by
 have:=(ach k (a.toList.drop i)).symm;rwa [afG]at this
theorem Ms.r0(h:alf)(sa:ae5)(hb:∀x∈sg a i k,∀y∈b.toList.drop j,an9):Ms r a b ay4 (i+k) j:=by
 have sd:avB:=sa.sublist ao2;have e:=C_ a i k;rw[e,abg]at sd;obtain⟨p1,p2,p3⟩:=sd;have QG:∀x∈out.toList,∀y∈sg a i k++a.toList.drop (i+k),an9:=λx hx y hy=>h.ta x hx y (by rw[e];exact hy);refine⟨h.p.r0,?_,λx hx y hy=>?_,λx hx y hy=>?_⟩
 .rw[aaI,dZ,abg];exact⟨h.s,p1,λx hx y hy=>QG x hx y aE1⟩
 .rw[aaI,dZ]at hx;rcases aaH.mp hx with z|z
  .exact QG x z y (aaJ _ hy)
  .exact p3 x z y hy
 .rw[aaI,dZ]at hx;rcases aaH.mp hx with z|z
  .exact h.tb x z y hy
  .exact hb x z y hy
theorem Ms.rZ(h:alf)(sb:ahr)(ha:∀x∈sg b j k,∀y∈a.toList.drop i,an9):Ms r a b ay3 i (j+k):=by
 have sd:(b.toList.drop j).Pairwise (le r):=sb.sublist ao2;have e:=C_ b j k;rw[e,abg]at sd;obtain⟨p1,p2,p3⟩:=sd;have QH:∀x∈out.toList,∀y∈sg b j k++b.toList.drop (j+k),an9:=λx hx y hy=>h.tb x hx y (by rw[e];exact hy);refine⟨h.p.rZ,?_,λx hx y hy=>?_,λx hx y hy=>?_⟩
 .rw[aaI,dZ,abg];exact⟨h.s,p1,λx hx y hy=>QH x hx y aE1⟩
 .rw[aaI,dZ]at hx;rcases aaH.mp hx with z|z
  .exact h.ta x z y hy
  .exact ha x z y hy
 .rw[aaI,dZ]at hx;rcases aaH.mp hx with z|z
  .exact QH x z y (aaJ _ hy)
  .exact p3 x z y hy
def Ms.cg(h:alf)(e:aFU):Ms r a b o i j:=⟨by unfold Pt;rw[e];exact h.p,by rw[e];exact h.s,λx hx=>h.ta x (by rw[<-e];exact hx),λx hx=>h.tb x (by rw[<-e];exact hx)⟩
def Ms.qG(h:alf)(sa:ae5)(hi:i<a.size)(hb:∀y∈b.toList.drop j,le r a[i] y):Ms r a b (out.push a[i]) (i+1) j:=by
 refine(h.r0 (k:=1) sa λx hx=>?_).cg (by rw[aaI,iw hi,<-acZ]);rw[<-dZ,iw hi,aar]at hx;rw[hx];exact hb
def Ms.qH(h:alf)(sb:ahr)(hj:j<b.size)(ha:∀y∈a.toList.drop i,le r b[j] y):Ms r a b (out.push b[j]) i (j+1):=by
 refine(h.rZ (k:=1) sb λx hx=>?_).cg (by rw[aaI,iw hj,<-acZ]);rw[<-dZ,iw hj,aar]at hx;rw[hx];exact ha
def QI(O:Ord r)(sa:ae5)(hi:i<a.size):∀y∈a.toList.drop i,le r a[i] y:=λy hy=>by
 have gy:i<a.toList.length:=by simpa using hi
 have sd:avB:=sa.sublist ao2;rw[abH gy]at sd hy;rcases aat.mp hy with z|z
 .rw[z];exact O.refl _
 .exact(abV.mp sd).1 y z
def sf(O:Ord r)(sa:ae5)(hi:i<a.size)(h:le r x a[i]):∀y∈a.toList.drop i,an9:=λy hy=>O.trans h (QI O sa hi y hy)
def m7(a:ab9)(hi:aqu):(a.extract i a.size).toList =a.toList.drop i:=by
 have:=dZ a i aGv;rw[show i+aGv=a.size by omega]at this;rw[this];exact abP ab1
def Ms.done(h:alf)(sa:ae5)(sb:ahr)(hi:aqu)(hj:ava)(c:i=a.size\/j=b.size):(ayj++b.extract j b.size).toList.Pairwise (le r):=by
 rw[aaI,aaI,m7 a hi,m7 b hj];have na:i=a.size->a.toList.drop i=[]:=λe=>agq (by simp[e]);have nb:j=b.size->b.toList.drop j=[]:=λe=>agq (by simp[e]);rcases c with c|c
 .rw[na c,abm,abg];exact⟨h.s,sb.sublist ao2,h.tb⟩
 .rw[nb c,abm,abg];exact⟨h.s,sa.sublist ao2,h.ta⟩
def Ms.last(h:alf)(sa:ae5)(sb:ahr)(hi:aqu)(hj:ava)(c:∀y∈b.toList,∀x∈a.toList.drop i,an8):(ayi++a.extract i a.size).toList.Pairwise (le r):=by
 rw[aaI,aaI,m7 a hi,m7 b hj,aaZ,abg];refine⟨h.s,?_,λx hx y hy=>?_⟩
 .rw[abg];exact⟨sb.sublist ao2,sa.sublist ao2,λy hy x hx=>c y (acW hy) x hx⟩
 .rcases aaH.mp hy with z|z
  .exact h.tb x hx y z
  .exact h.ta x hx y z
end
section
variable {prog:ac7}{w:World}{A:ahp}{E:Value->Shared->Prop}{s:ab5}{κ:ap2}{P:Keyed->Prop}{r:Keyed->Keyed->Bool}
def bne{n m:Nat}(h:¬(n==m)=true):n≠m:=λe=>h (by rw[e];simp)
def AR{a b:ab9}{st:ajD}{Q:ab9->SortSt->Prop}(L:ahC)(O:Ord r)(hk:apY)(ha:∀x∈a,P x)(hb:∀x∈b,P x)(h1:1<=a.size)(h2:1<=b.size)
  (sa:ae5) (sb:ahr) (first:∀y∈a.toList,le r b[0] y) (final:∀y∈b.toList,∀x∈a.toList.drop (a.size-1),an8)
  (q:∀out au,aFP->apI->aj8->Q out au):wpS aa2 A E s (og a b) Q st:=by
 have wX:∀i,i+1=a.size->∀y∈b.toList,∀x∈a.toList.drop i,an8:=λi hi=>by rw[show i=a.size-1 by omega];exact final
 have gA:∀(ia ib:Nat) (yE:asv) (au:ajD) (Q':ahM->ajD->Prop),aj8->ia<a.size->(∀k,k<=a.size-ia->(∀x∈sg a ia k,∀y∈b.toList.drop ib,an9)->(∀x∈a.toList.drop (ia+k),le r b[ib] x)->avk)->
   wpS aa2 A E s (b7 false b[ib] a ia aDT 0) Q' au:=λia ib yE au Q' hS uU hq=>by
  have e:sg a ia aDT=a.toList.drop ia:=abP ab1;refine cU L O arY ay9 ha aa3 aa3 (by rw[e];exact sa.sublist ao2) λk hk g1 g2=>hq k hk (λx hx=>?_) (λx hx=>?_)
  .have:=g1 x (by rw[e];exact hx);have h':le r x b[ib]:=by unfold w6 at this;simpa[le]using this
   exact sf O sb yE h'
  .have:=g2 x (by rw[e,afG];exact hx);unfold w6 at this;have h':r b[ib] x=true:=by simpa using this
   exact O.of_lt h'
 have gB:∀(ia ib:Nat) (uU:ia<a.size) (au:ajD) (Q':ahM->ajD->Prop),aj8->asv->(∀k,k<=b.size-ib->(∀x∈sg b ib k,∀y∈a.toList.drop ia,an9)->(∀x∈b.toList.drop (ib+k),le r a[ia] x)->avk)->
   wpS aa2 A E s (b7 true a[ia] b ib aDD 0) Q' au:=λia ib uU au Q' hS yE hq=>by
  have e:sg b ib aDD=b.toList.drop ib:=abP ab1;refine cU L O arY ay_ hb aa3 aa3 (by rw[e];exact sb.sublist ao2) λk hk g1 g2=>hq k hk (λx hx=>?_) (λx hx=>?_)
  .have:=g1 x (by rw[e];exact hx);exact sf O sa uU (axP this)
  .exact g2 x (by rw[e,afG];exact hx)
 rw[uM];refine wpS_bind (wpS_lift (adx ⟨rfl,?_⟩));refine wpS_bind (bC aa3 ?_);dsimp only;have p0:Ms r a b #[b[0]] 0 1:=by
  have:Ms r a b #[] 0 0:=⟨by unfold Pt;simp,by simp,by simp,by simp⟩;exact this.qH sb aa3 first
 by_cases c1:(1==b.size)=true
 .rw[aaB c1];exact wpS_pure (q _ _ (p0.p.done aa3 h2) (p0.done sa sb aa3 h2 (ant (by simpa using c1))) .rfl')
 rw[aaF c1];have v_:1<b.size:=by have:=bne c1;omega
 by_cases c2:(0+1==a.size)=true
 .rw[aaB c2];exact wpS_pure (q _ _ (p0.p.last aa3 h2) (p0.last sa sb aa3 h2 (wX 0 (by simpa using c2))) .rfl')
 rw[aaF c2];have AS:0+1<a.size:=by have:=bne c2;omega
 refine wpS_bind (wpS_get ?_);refine wpS_bind (wpS_mono (wpS_forRange
  (I:=λi c au=>aj8/\∃out ia ib g,c=(none,out,ia,ib,g)/\anf/\auh/\asv/\i+1<=ia+ib)
  (Q:=λc au=>aj8/\∃o,as5/\alT/\ai2) ?step ?fin ⟨.rfl',_,_,_,_,rfl,p0,AS,v_,aas _⟩) ?post)
 case post=>
  rintro⟨c,d⟩ au ⟨hS,o,hc,hr,Md⟩;have kN:axW:=hc;subst kN;exact wpS_pure aFO
 case fin=>
  rintro c au ⟨_,out,ia,ib,g,_,_,x1,x2,x3⟩;omega
 case step=>
  rintro i c gg _ _ ⟨VG,out,ia,ib,g,rfl,hP,x1,x2,x3⟩;dsimp only;refine wpS_bind (wpS_mono (wpS_forRange
   (I:=λ_ c au=>aj8/\∃out ia ib n m,aCx/\anf/\auh/\asv/\i+1<=ia+ib)
   (Q:=λc au=>aj8/\((∃o,as5/\alT/\ai2)\/∃out ia ib n m,aCx/\anf/\auh/\asv/\i+1<=ia+ib)) ?C' ?Me ⟨VG,_,_,_,_,_,rfl,hP,x1,x2,x3⟩) ?Dc)
  case Me=>exact λc au ⟨z1,z2⟩=>⟨z1,.inr z2⟩
  case C'=>
   rintro _ c cP _ _ ⟨oq,out,ia,ib,n,m,rfl,hP,x1,x2,x3⟩;dsimp only;have uU:ia<a.size:=by omega
   refine wpS_bind (bC x2 (wpS_bind (bC uU (wpS_bind (L _ _ _ _ ay9 ay_ (oq.k.trans hk) ?_)))));cases bw:r b[ib] a[ia]with
   |true=>
    dsimp only;rw[aaB rfl];refine wpS_bind (bC x2 ?_);have qd:=hP.qH sb x2 (sf O sa uU (axP bw));by_cases e1:(ib+1==b.size)=true
    .rw[aaB e1];exact wpS_pure ⟨oq,.inl ⟨_,rfl,qd.p.done aa3 aa3,qd.done sa sb aa3 aa3 (ant (by simpa using e1))⟩⟩
    .rw[aaF e1];have pU:ib+1<b.size:=by have:=bne e1;omega
     split
     .exact wpS_pure ⟨oq,.inr ⟨_,_,_,_,_,rfl,qd,x1,pU,by omega⟩⟩
     .exact wpS_pure ⟨oq,_,_,_,_,_,rfl,qd,x1,pU,by omega⟩
   |false=>
    dsimp only;rw[aaF aan];refine wpS_bind (bC uU ?_);have qd:=hP.qG sa uU (sf O sb x2 bw);by_cases e1:(ia+1+1==a.size)=true
    .rw[aaB e1];exact wpS_pure ⟨oq,.inl ⟨_,rfl,qd.p.last aa3 aa3,qd.last sa sb aa3 aa3 (wX _ (by simpa using e1))⟩⟩
    .rw[aaF e1];have pU:ia+1+1<a.size:=by have:=bne e1;omega
     split
     .exact wpS_pure ⟨oq,.inr ⟨_,_,_,_,_,rfl,qd,pU,x2,by omega⟩⟩
     .exact wpS_pure ⟨oq,_,_,_,_,_,rfl,qd,pU,x2,by omega⟩
  case Dc=>
   rintro⟨c,d⟩ cP ⟨oq,⟨o,hc,hr⟩|⟨out,ia,ib,n,m,hc,hP,x1,x2,x3⟩⟩
   .have kN:axW:=hc;subst kN;exact wpS_pure ⟨oq,o,rfl,hr⟩
   .cases hc;dsimp only;refine wpS_bind (wpS_lift (adx ⟨rfl,?_⟩));refine wpS_bind (wpS_mono (wpS_forRange
     (I:=λj c au=>aj8/\∃out ia ib g n m,aAT/\anf/\auh/\asv/\i+1+(min j 1)<=ia+ib)
     (Q:=λc au=>aj8/\((∃o,as5/\alT/\ai2)\/∃out ia ib g n m,aAT/\anf/\auh/\asv/\i+1+1<=ia+ib)) ?Dd ?Mf ⟨oq,_,_,_,_,_,_,rfl,hP,x1,x2,by omega⟩) ?Df)
    case Mf=>
     rintro c au ⟨z1,out,ia,ib,g,n,m,z2,z3,z4,z5,z6⟩;exact⟨z1,.inr ⟨out,ia,ib,g,n,m,z2,z3,z4,z5,by omega⟩⟩
    case Df=>
     rintro⟨c,d⟩ kX ⟨jy,⟨o,hc,hr⟩|⟨out,ia,ib,g,n,m,hc,hP,x1,x2,x3⟩⟩
     .have kN:axW:=hc;subst kN;exact wpS_pure ⟨jy,o,rfl,hr⟩
     .cases hc;dsimp only;unfold bh;exact wpS_bind (wpS_modify (wpS_pure ⟨am5,_,_,_,_,rfl,hP,x1,x2,by omega⟩))
    case Dd=>
     rintro j c kX _ _ ⟨jy,out,ia,ib,g,n,m,rfl,hP,x1,x2,x3⟩;dsimp only;apply yx
     .intro shared;by_cases hg:g>1
      rotate_left
      .rw[aaF hg];apply shared g
      .rw[aaB hg];exact shared (g-1)
     intro g';unfold bh;refine wpS_bind (wpS_modify ?_);refine wpS_bind (bC x2 (wpS_bind (gA ia ib x2 _ _ jy.setG aa3 λk FZ k1 k2=>?_)));dsimp only;apply r8 (λo i'=>Ms r a b o i' ib/\i'+1<a.size/\i+1+min j 1<=i'+ib/\∀x∈a.toList.drop i',le r b[ib] x)
     .intro shared;by_cases QJ:k>0
      rotate_left
      .rw[aaF QJ];apply shared out ia ⟨hP,x1,x3,by rw[show ia=ia+k by omega];exact k2⟩
      .rw[aaB QJ];have AU:=hP.r0 sa k1;by_cases e1:(ia+k+1==a.size)=true
       .rw[aaB e1];exact wpS_pure ⟨am5,.inl ⟨_,rfl,AU.p.last aa3 aa3,AU.last sa sb aa3 aa3 (wX _ (by simpa using e1))⟩⟩
       rw[aaF e1];by_cases e2:(ia+k==a.size)=true
       .rw[aaB e2];exact wpS_pure ⟨am5,.inl ⟨_,rfl,AU.p.done aa3 aa3,AU.done sa sb aa3 aa3 (akN (by simpa using e2))⟩⟩
       rw[aaF e2];have pU:ia+k+1<a.size:=by have:=bne e1;have:=bne e2;omega
       exact shared _ _ ⟨AU,pU,by omega,k2⟩
     intro o i' hT;obtain⟨AU,y1,y2,y3⟩:=hT;refine wpS_bind (bC x2 ?_);have AV:=AU.qH sb x2 y3;by_cases e3:(ib+1==b.size)=true
     .rw[aaB e3];exact wpS_pure ⟨am5,.inl ⟨_,rfl,AV.p.done aa3 aa3,AV.done sa sb aa3 aa3 (ant (by simpa using e3))⟩⟩
     rw[aaF e3];have OH:ib+1<b.size:=by have:=bne e3;omega
     have gy:i'<a.size:=by omega
     refine wpS_bind (bC gy (wpS_bind (gB i' (ib+1) gy _ _ jy.setG OH λkk To g1 g2=>?_)));dsimp only;generalize o.push (b[ib]'x2)=o2 at AV⊢;generalize yE:ib+1=G7 at AV OH To g1 g2⊢;apply r8 (λo3 i3=>Ms r a b o3 i' i3/\i3<b.size/\i+1+1<=i'+i3/\∀x∈b.toList.drop i3,le r a[i'] x)
     .intro shared;by_cases QK:kk>0
      rotate_left
      .rw[aaF QK];apply shared o2 G7 ⟨AV,OH,by omega,by rw[show G7=G7+kk by omega];exact g2⟩
      .rw[aaB QK];have AW:=AV.rZ sb g1;by_cases e4:(G7+kk==b.size)=true
       .rw[aaB e4];exact wpS_pure ⟨am5,.inl ⟨_,rfl,AW.p.done aa3 aa3,AW.done sa sb aa3 aa3 (ant (by simpa using e4))⟩⟩
       rw[aaF e4];have Mg:G7+kk<b.size:=by have:=bne e4;omega
       exact shared _ _ ⟨AW,Mg,by omega,g2⟩
     intro o3 i3 hT;obtain⟨AW,Mg,y4,y5⟩:=hT;refine wpS_bind (bC gy ?_);have G8:=AW.qG sa gy y5;by_cases e5:(i'+1+1==a.size)=true
     .rw[aaB e5];exact wpS_pure ⟨am5,.inl ⟨_,rfl,G8.p.last aa3 aa3,G8.last sa sb aa3 aa3 (wX _ (by simpa using e5))⟩⟩
     rw[aaF e5];have QL:i'+1+1<a.size:=by have:=bne e5;omega
     split
     .exact wpS_pure ⟨am5,.inr ⟨_,_,_,_,_,_,rfl,G8,QL,by omega,by omega⟩⟩
     .exact wpS_pure ⟨am5,_,_,_,_,_,_,rfl,G8,QL,by omega,by omega⟩
end
structure Mh(r:Keyed->Keyed->Bool)(a b out:ab9)(i j:Nat):Prop where
 p:Ph a b out i j
 s:out.toList.Pairwise λx y=>le r y x
 ta:∀x∈out.toList,∀y∈a.toList.take i,le r y x
 tb:∀x∈out.toList,∀y∈b.toList.take j,le r y x
section
variable {r:Keyed->Keyed->Bool}{a b out:ab9}{i j k:Nat}
def j7(a:ab9)(k i:Nat):(a.extract k i).toList =(a.toList.take i).drop k:=by
 rw[acV];unfold List.extract;rw[List.drop_take]
def uV(a:ab9)(h:k<=i):a.toList.take i=a.toList.take k++(a.toList.take i).drop k:=by
 have:=(ach k (a.toList.take i)).symm;rwa [agR,acs h]at this
theorem Mh.r0(h:alg)(sa:ae5)(hk:k<=i)(hi:aqu)(hb:∀x∈(a.toList.take i).drop k,∀y∈b.toList.take j,an8):Mh r a b avJ k j:=by
 have sd:(a.toList.take i).Pairwise (le r):=sa.sublist ao1;have e:=uV a hk;rw[e,abg]at sd;obtain⟨p1,p2,p3⟩:=sd;have QG:∀x∈out.toList,∀y∈a.toList.take k++(a.toList.take i).drop k,an8:=λx hx y hy=>h.ta x hx y (by rw[e];exact hy);have el:(out++(a.extract k i).reverse).toList =out.toList++((a.toList.take i).drop k).reverse :=by rw[aaI,acd,j7]
 refine⟨h.p.r0 hk hi,?_,λx hx y hy=>?_,λx hx y hy=>?_⟩
 .rw[el,abg];exact⟨h.s,adT.mpr p2,λx hx y hy=>QG x hx y (aaJ _ aqL)⟩
 .rw[el]at hx;rcases aaH.mp hx with z|z
  .exact QG x z y aE1
  .exact p3 y hy x azi
 .rw[el]at hx;rcases aaH.mp hx with z|z
  .exact h.tb x z y hy
  .exact hb x azi y hy
theorem Mh.rZ(h:alg)(sb:ahr)(hk:k<=j)(hj:ava)(ha:∀x∈(b.toList.take j).drop k,∀y∈a.toList.take i,an8):Mh r a b avI i k:=by
 have sd:(b.toList.take j).Pairwise (le r):=sb.sublist ao1;have e:=uV b hk;rw[e,abg]at sd;obtain⟨p1,p2,p3⟩:=sd;have QH:∀x∈out.toList,∀y∈b.toList.take k++(b.toList.take j).drop k,an8:=λx hx y hy=>h.tb x hx y (by rw[e];exact hy);have el:(out++(b.extract k j).reverse).toList =out.toList++((b.toList.take j).drop k).reverse :=by rw[aaI,acd,j7]
 refine⟨h.p.rZ hk hj,?_,λx hx y hy=>?_,λx hx y hy=>?_⟩
 .rw[el,abg];exact⟨h.s,adT.mpr p2,λx hx y hy=>QH x hx y (aaJ _ aqL)⟩
 .rw[el]at hx;rcases aaH.mp hx with z|z
  .exact h.ta x z y hy
  .exact ha x azi y hy
 .rw[el]at hx;rcases aaH.mp hx with z|z
  .exact QH x z y aE1
  .exact p3 y hy x azi
def Mh.cg(h:alg)(e:aFU):Mh r a b o i j:=⟨by unfold Ph;rw[e];exact h.p,by rw[e];exact h.s,λx hx=>h.ta x (by rw[<-e];exact hx),λx hx=>h.tb x (by rw[<-e];exact hx)⟩
def Mh.qG(h:alg)(sa:ae5)(h1:1<=i)(hi:i-1<a.size)(hb:∀y∈b.toList.take j,le r y a[i-1]):Mh r a b (out.push a[i-1]) (i-1) j:=by
 refine(h.r0 (k:=i-1) sa aa3 aa3 λx hx=>?_).cg (by rw[aaI,acd,j6 h1 hi,agr,<-acZ]);rw[<-j7,j6 h1 hi,aar]at hx;rw[hx];exact hb
def Mh.qH(h:alg)(sb:ahr)(h1:1<=j)(hj:j-1<b.size)(ha:∀y∈a.toList.take i,le r y b[j-1]):Mh r a b (out.push b[j-1]) i (j-1):=by
 refine(h.rZ (k:=j-1) sb aa3 aa3 λx hx=>?_).cg (by rw[aaI,acd,j6 h1 hj,agr,<-acZ]);rw[<-j7,j6 h1 hj,aar]at hx;rw[hx];exact ha
def yF(O:Ord r)(sa:ae5)(hi:i-1<a.size)(hx:le r a[i-1] x):∀y∈a.toList.take i,an8:=λy hy=>by
 obtain⟨m,hm,rfl⟩:=adE hy;rw[aci,aaK]at hm;rw[List.getElem_take];rcases abx m (i-1)with z|z
 .refine O.trans ?_ hx;have:=(acu.mp sa) m (i-1) (by simp;omega) (by simp;omega) z;simpa using this
 .have e:m=i-1:=by omega
  subst e;simpa using hx
def Mh.done(h:alg)(sa:ae5)(sb:ahr)(c:i=0\/j=0):(avS++out.reverse).toList.Pairwise (le r):=by
 rw[aaI,aaI,dW,dW,acd,abg];refine⟨?_,adT.mpr h.s,λx hx y hy=>?_⟩
 .rcases c with rfl|rfl
  .rw[List.take_zero,afy];exact sb.sublist ao1
  .rw[List.take_zero,abm];exact sa.sublist ao1
 .rcases aaH.mp hx with z|z
  .exact h.ta y aqL x z
  .exact h.tb y aqL x z
def Mh.first(h:alg)(sa:ae5)(sb:ahr)(c:∀x∈b.toList.take j,∀y∈a.toList,an9):(avP++out.reverse).toList.Pairwise (le r):=by
 rw[aaI,aaI,dW,dW,acd,abg];refine⟨?_,adT.mpr h.s,λx hx y hy=>?_⟩
 .rw[abg];exact⟨sb.sublist ao1,sa.sublist ao1,λx hx y hy=>c x hx y (abS hy)⟩
 .rcases aaH.mp hx with z|z
  .exact h.tb y aqL x z
  .exact h.ta y aqL x z
end
section
variable {prog:ac7}{w:World}{A:ahp}{E:Value->Shared->Prop}{s:ab5}{κ:ap2}{P:Keyed->Prop}{r:Keyed->Keyed->Bool}
def AX{a b:ab9}{st:ajD}{Q:ab9->SortSt->Prop}(L:ahC)(O:Ord r)(hk:apY)(ha:∀x∈a,P x)(hb:∀x∈b,P x)(h1:1<=a.size)(h2:1<=b.size)
  (sa:ae5) (sb:ahr) (first:∀y∈a.toList,le r b[0] y) (final:∀y∈b.toList,∀x∈a.toList.drop (a.size-1),an8)
  (q:∀out au,aFP->apI->aj8->Q out au):wpS aa2 A E s (oh a b) Q st:=by
 have G9:∀j,j=1->∀x∈b.toList.take j,∀y∈a.toList,an9:=λj hj x hx=>by
  subst hj;have:=dW b (i:=1);rw[<-this,iw aa3,aar]at hx;rw[hx];exact first
 have gA:∀(ia ib:Nat) (yE:ib-1<b.size) (au:ajD) (Q':ahM->ajD->Prop),aj8->1<=ia->as1->(∀k,k<=ia->(∀x∈(a.toList.take ia).drop k,∀y∈b.toList.take ib,an8)->(∀y∈a.toList.take k,le r y b[ib-1])->avk)->
   wpS aa2 A E s (b7 false b[ib-1] a 0 ia (ia-1)) Q' au:=λia ib yE au Q' hS uU Z' hq=>by
  have e:sg a 0 ia=a.toList.take ia:=by unfold sg;rw[adK]
  refine cU L O arY ay9 ha aa3 aa3 (by rw[e];exact sa.sublist ao1) λk hk g1 g2=>hq k hk (λx hx=>?_) (λx hx=>?_)
  .have:=g2 x (by rw[e];exact hx);unfold w6 at this;have h':r b[ib-1] x=true:=by simpa using this
   exact yF O sb yE (axP h')
  .have:=g1 x (by rw[e,agR,acs hk];exact hx);unfold w6 at this;simpa[le]using this
 have gB:∀(ia ib:Nat) (uU:ia-1<a.size) (au:ajD) (Q':ahM->ajD->Prop),aj8->1<=ib->as0->(∀k,k<=ib->(∀x∈(b.toList.take ib).drop k,∀y∈a.toList.take ia,an8)->(∀y∈b.toList.take k,le r y a[ia-1])->avk)->
   wpS aa2 A E s (b7 true a[ia-1] b 0 ib (ib-1)) Q' au:=λia ib uU au Q' hS yE aaa hq=>by
  have e:sg b 0 ib=b.toList.take ib:=by unfold sg;rw[adK]
  refine cU L O arY ay_ hb aa3 aa3 (by rw[e];exact sb.sublist ao1) λk hk g1 g2=>hq k hk (λx hx=>?_) (λx hx=>?_)
  .exact yF O sa uU (g2 x (by rw[e];exact hx))
  .exact O.of_lt (g1 x (by rw[e,agR,acs hk];exact hx))
 rw[uN];refine wpS_bind (wpS_lift (adx ⟨rfl,?_⟩));refine wpS_bind (bC (show a.size-1<a.size by omega) ?_);dsimp only;have p0:Mh r a b #[a[a.size-1]] (a.size-1) b.size:=by
  have:Mh r a b #[] a.size b.size:=⟨by
   unfold Ph;rw[abP ab1,abP ab1];simp,by simp,by simp,by simp⟩
  refine this.qG sa h1 aa3 λy hy=>?_;have gy:a.size-1<a.toList.length:=by simp;omega
  refine final y (abS hy) _ ?_;rw[abH gy];simp
 by_cases c1:(a.size-1==0)=true
 .rw[aaB c1];exact wpS_pure (q _ _ p0.p.done (p0.done sa sb (akN (by simpa using c1))) .rfl')
 rw[aaF c1];have v_:1<=a.size-1:=by have:=bne c1;omega
 by_cases c2:(b.size==1)=true
 .rw[aaB c2];exact wpS_pure (q _ _ p0.p.first (p0.first sa sb (G9 _ (by simpa using c2))) .rfl')
 rw[aaF c2];have AS:2<=b.size:=by have:=bne c2;omega
 refine wpS_bind (wpS_get ?_);refine wpS_bind (wpS_mono (wpS_forRange
  (I:=λi c au=>aj8/\∃ia ib out g,c=(none,ia,ib,out,g)/\ang/\1<=ia/\as1/\2<=ib/\as0/\aqv)
  (Q:=λc au=>aj8/\∃o,as5/\alT/\ai2) ?step ?fin ⟨.rfl',_,_,_,_,rfl,p0,v_,by omega,AS,aas _,by omega⟩) ?post)
 case post=>
  rintro⟨c,d⟩ au ⟨hS,o,hc,hr,Md⟩;have kN:axW:=hc;subst kN;exact wpS_pure aFO
 case fin=>
  rintro c au ⟨_,ia,ib,out,g,_,_,x1,x2,x3,x4,x5⟩;omega
 case step=>
  rintro i c gg _ _ ⟨VG,ia,ib,out,g,rfl,hP,x1,x2,x3,x4,x5⟩;dsimp only;refine wpS_bind (wpS_mono (wpS_forRange
   (I:=λ_ c au=>aj8/\∃ia ib out n m,aCy/\ang/\1<=ia/\as1/\2<=ib/\as0/\aqv)
   (Q:=λc au=>aj8/\((∃o,as5/\alT/\ai2)\/∃ia ib out n m,aCy/\ang/\1<=ia/\as1/\2<=ib/\as0/\aqv)) ?C' ?Me ⟨VG,_,_,_,_,_,rfl,hP,x1,x2,x3,x4,x5⟩) ?Dc)
  case Me=>exact λc au ⟨z1,z2⟩=>⟨z1,.inr z2⟩
  case C'=>
   rintro _ c cP _ _ ⟨oq,ia,ib,out,n,m,rfl,hP,x1,x2,x3,x4,x5⟩;dsimp only;have yE:ib-1<b.size:=by omega
   have uU:ia-1<a.size:=by omega
   refine wpS_bind (bC yE (wpS_bind (bC uU (wpS_bind (L _ _ _ _ ay9 ay_ (oq.k.trans hk) ?_)))));cases bw:r b[ib-1] a[ia-1]with
   |true=>
    dsimp only;rw[aaB rfl];refine wpS_bind (bC uU ?_);have qd:=hP.qG sa x1 uU (yF O sb yE (axP bw));by_cases e1:(ia-1==0)=true
    .rw[aaB e1];exact wpS_pure ⟨oq,.inl ⟨_,rfl,qd.p.done,qd.done sa sb (akN (by simpa using e1))⟩⟩
    .rw[aaF e1];have pU:1<=ia-1:=by have:=bne e1;omega
     split
     .exact wpS_pure ⟨oq,.inr ⟨_,_,_,_,_,rfl,qd,pU,by omega,by omega,by omega,by omega⟩⟩
     .exact wpS_pure ⟨oq,_,_,_,_,_,rfl,qd,pU,by omega,by omega,by omega,by omega⟩
   |false=>
    dsimp only;rw[aaF aan];refine wpS_bind (bC yE ?_);have qd:=hP.qH sb (show 1<=ib by omega) yE (yF O sa uU bw);by_cases e1:(ib-1==1)=true
    .rw[aaB e1];exact wpS_pure ⟨oq,.inl ⟨_,rfl,qd.p.first,qd.first sa sb (G9 _ (by simpa using e1))⟩⟩
    .rw[aaF e1];have pU:2<=ib-1:=by have:=bne e1;omega
     split
     .exact wpS_pure ⟨oq,.inr ⟨_,_,_,_,_,rfl,qd,x1,by omega,pU,by omega,by omega⟩⟩
     .exact wpS_pure ⟨oq,_,_,_,_,_,rfl,qd,x1,by omega,pU,by omega,by omega⟩
  case Dc=>
   rintro⟨c,d⟩ cP ⟨oq,⟨o,hc,hr⟩|⟨ia,ib,out,n,m,hc,hP,x1,x2,x3,x4,x5⟩⟩
   .have kN:axW:=hc;subst kN;exact wpS_pure ⟨oq,o,rfl,hr⟩
   .cases hc;dsimp only;refine wpS_bind (wpS_lift (adx ⟨rfl,?_⟩));refine wpS_bind (wpS_mono (wpS_forRange
     (I:=λj c au=>aj8/\∃ia ib out g n m,aAU/\ang/\1<=ia/\as1/\2<=ib/\as0/\i+1+(min j 1)+ia+ib<=a.size+b.size)
     (Q:=λc au=>aj8/\((∃o,as5/\alT/\ai2)\/∃ia ib out g n m,aAU/\ang/\1<=ia/\as1/\2<=ib/\as0/\i+1+1+ia+ib<=a.size+b.size)) ?Dd ?Mf ⟨oq,_,_,_,_,_,_,rfl,hP,x1,x2,x3,x4,by omega⟩) ?Df)
    case Mf=>
     rintro c au ⟨z1,ia,ib,out,g,n,m,z2,z3,z4,z5,z6,z7,z8⟩;exact⟨z1,.inr ⟨ia,ib,out,g,n,m,z2,z3,z4,z5,z6,z7,by omega⟩⟩
    case Df=>
     rintro⟨c,d⟩ kX ⟨jy,⟨o,hc,hr⟩|⟨ia,ib,out,g,n,m,hc,hP,x1,x2,x3,x4,x5⟩⟩
     .have kN:axW:=hc;subst kN;exact wpS_pure ⟨jy,o,rfl,hr⟩
     .cases hc;dsimp only;unfold bh;exact wpS_bind (wpS_modify (wpS_pure ⟨am5,_,_,_,_,rfl,hP,x1,x2,x3,x4,by omega⟩))
    case Dd=>
     rintro j c kX _ _ ⟨jy,ia,ib,out,g,n,m,rfl,hP,x1,x2,x3,x4,x5⟩;dsimp only;apply yx
     .intro shared;by_cases hg:g>1
      rotate_left
      .rw[aaF hg];apply shared g
      .rw[aaB hg];exact shared (g-1)
     intro g';unfold bh;refine wpS_bind (wpS_modify ?_);have QM:ib-1<b.size:=by omega
     refine wpS_bind (bC QM (wpS_bind (gA ia ib QM _ _ jy.setG x1 x2 λQN FZ k1 k2=>?_)));dsimp only;generalize VB:ia-QN=cnt;apply r8 (λo i'=>Mh r a b o i' ib/\1<=i'/\i'<=a.size/\i+1+min j 1+i'+ib<=a.size+b.size/\∀y∈a.toList.take i',le r y b[ib-1])
     .intro shared;by_cases QJ:cnt>0
      rotate_left
      .rw[aaF QJ];apply shared out ia ⟨hP,x1,x2,x5,by rw[show ia=QN by omega];exact k2⟩
      .rw[aaB QJ];have AU:=hP.r0 (k:=QN) sa FZ x2 k1;by_cases e1:(QN==0)=true
       .rw[aaB e1];exact wpS_pure ⟨am5,.inl ⟨_,rfl,AU.p.done,AU.done sa sb (akN (by simpa using e1))⟩⟩
       rw[aaF e1];have pU:1<=QN:=by have:=bne e1;omega
       exact shared _ _ ⟨AU,pU,by omega,by omega,k2⟩
     intro o i' hT;obtain⟨AU,y1,y2,y4,y6⟩:=hT;refine wpS_bind (bC QM ?_);have AV:=AU.qH sb (show 1<=ib by omega) QM y6;by_cases e3:(ib-1==1)=true
     .rw[aaB e3];exact wpS_pure ⟨am5,.inl ⟨_,rfl,AV.p.first,AV.first sa sb (G9 _ (by simpa using e3))⟩⟩
     rw[aaF e3];have OH:2<=ib-1:=by have:=bne e3;omega
     have Tp:i'-1<a.size:=by omega
     refine wpS_bind (bC Tp (wpS_bind (gB i' (ib-1) Tp _ _ jy.setG aa3 aa3 λOI To g1 g2=>?_)));dsimp only;generalize o.push (b[ib-1]'QM)=o2 at AV⊢;generalize yE:ib-1=G7 at AV OH To g1⊢;generalize hc1:G7-OI=VH;apply r8 (λo3 i3=>Mh r a b o3 i' i3/\2<=i3/\i3<=b.size/\i+1+1+(i'-1)+i3<=a.size+b.size/\∀y∈b.toList.take i3,le r y a[i'-1])
     .intro shared;by_cases QK:VH>0
      rotate_left
      .rw[aaF QK];apply shared o2 G7 ⟨AV,OH,by omega,by omega,by rw[show G7=OI by omega];exact g2⟩
      .rw[aaB QK];have AW:=AV.rZ (k:=OI) sb To aa3 g1;by_cases e4:(OI==1)=true
       .rw[aaB e4];exact wpS_pure ⟨am5,.inl ⟨_,rfl,AW.p.first,AW.first sa sb (G9 _ (by simpa using e4))⟩⟩
       rw[aaF e4];by_cases e6:(OI==0)=true
       .rw[aaB e6];exact wpS_pure ⟨am5,.inl ⟨_,rfl,AW.p.done,AW.done sa sb (ant (by simpa using e6))⟩⟩
       rw[aaF e6];have Mg:2<=OI:=by have:=bne e4;have:=bne e6;omega
       exact shared _ _ ⟨AW,Mg,by omega,by omega,g2⟩
     intro o3 i3 hT;obtain⟨AW,Mg,y3,y5,y7⟩:=hT;refine wpS_bind (bC Tp ?_);have G8:=AW.qG sa (show 1<=i' by omega) Tp y7;by_cases e5:(i'-1==0)=true
     .rw[aaB e5];exact wpS_pure ⟨am5,.inl ⟨_,rfl,G8.p.done,G8.done sa sb (akN (by simpa using e5))⟩⟩
     rw[aaF e5];have QL:1<=i'-1:=by have:=bne e5;omega
     split
     .exact wpS_pure ⟨am5,.inr ⟨_,_,_,_,_,_,rfl,G8,QL,by omega,by omega,by omega,by omega⟩⟩
     .exact wpS_pure ⟨am5,_,_,_,_,_,_,rfl,G8,QL,by omega,by omega,by omega,by omega⟩
end
noncomputable def gt(xs:ab9)(i:Nat):Keyed:=xs[i]?.getD (.none,.none)
def iY(h:i<xs.size):gt xs i=xs[i]:=by unfold gt;rw[aaG h];rfl
def So(r:Keyed->Keyed->Bool)(xs:ab9)(lo hi:Nat):Prop:=∀i j,lo<=i->i<=j->j<hi->le r (ayX i) (ayX j)
def De(r:Keyed->Keyed->Bool)(xs:ab9)(lo hi:Nat):Prop:=∀i j,lo<=i->i<=j->j<hi->le r (ayX j) (ayX i)
def iy(hj:j<=xs.size)(k:Nat):gt (mirror xs i j ((j-i)/2)) k=if i<=k/\k<j then gt xs (i+j-1-k) else gt xs k:=by
 unfold gt;rw[getElem?_mirror_all hj k];split<;>rfl
def lg(hs:iz<xs.size)(hd:d<=iz)(k:Nat):gt (bubble xs iz d) k=if k=iz-d then gt xs iz else if iz-d<k/\k<=iz then gt xs (k-1) else gt xs k:=by
 unfold gt;rw[getElem?_bubble hs d hd k];split
 .rfl
 .split<;>rfl
structure At(zt au:ajD)(lo hi:Nat):Prop where
 a:Ar zt au
 o:∀i,i<lo\/hi<=i->gt ahy i=gt ac4 i
theorem At.rfl'{lo hi:Nat}:At zt zt lo hi:=⟨.rfl',λ_ _=>rfl⟩
theorem At.trans{lo hi:Nat}(h:At zt au lo hi)(h':At au VI lo hi):At zt VI lo hi:=
 ⟨⟨h'.a.k.trans h.a.k,h'.a.a.trans h.a.a,h'.a.p.trans h.a.p,h'.a.f.trans h.a.f⟩,λi hi=>(h'.o i hi).trans (h.o i hi)⟩
theorem At.mirror{lo hi i j:Nat}(hj:j<=(arrOf zt).size)(h1:lo<=i)(h2:j<=hi):At zt (setArr zt (mirror ac4 i j ((j-i)/2))) lo hi:=
 ⟨(Ar.rfl').set (mirror_perm _ _ _ _),λk hk=>by
  show gt (PyProof.Rows.mirror ac4 i j ((j-i)/2)) k=_;rw[iy hj,aaF (by lia)]⟩
theorem At.bubble{lo hi iz d:Nat}(hs:iz<(arrOf zt).size)(hd:d<=iz)(h1:lo<=iz-d)(h2:iz<hi):At zt (setArr zt (bubble ac4 iz d)) lo hi:=
 ⟨(Ar.rfl').set (bubble_perm _ _ _),λk hk=>by
  show gt (PyProof.Rows.bubble ac4 iz d) k=_;rw[lg hs hd,aaF (by lia),aaF (by lia)]⟩
section
variable {prog:ac7}{w:World}{A:ahp}{E:Value->Shared->Prop}{s:ab5}{κ:ap2}{P:Keyed->Prop}{r:Keyed->Keyed->Bool}
def lh(L:ahC)(hk:aDa)(hp:∀x∈arrOf zt,P x)(hi:i<(arrOf zt).size)(hj:j<(arrOf zt).size)(q:Q (aku (r (aG7 i) aoM)) zt):wpS aa2 A E s (ltAt' i j) Q zt:=by
 rw[iY hi,iY hj]at q;rw[ltAt'_eq];exact wpS_bind (wpS_get (wpS_bind (bC hi (wpS_bind (bC hj (L _ _ _ _ ay8 ay8 hk q))))))
def Dg(h:l<u):(l+u)/2<u:=Nat.div_lt_of_lt_mul (by rw[Nat.two_mul];exact agM h u)
def QO(h:l<u):l<=(l+u)/2:=(Nat.le_div_iff_mul_le Nat.two_pos).mpr (by rw[Nat.mul_two];exact abj (aaE h) l)
def VJ(h:l<u)(h2:u-l<=k-x):(l+u)/2-l<=k-(x+1):=by
 rw[agS];refine aam ?_ (adq h2 1);rw[Nat.sub_right_comm];exact adq (ads (Dg h)) l
def VM(h:l<u)(h2:u-l<=k-x):u-((l+u)/2+1)<=k-(x+1):=by
 rw[agS,agS];exact adq (aam (Nat.sub_le_sub_left (QO h) u) h2) 1
def sj{lo n ok:Nat}(L:ahC)(O:Ord r)(hk:aDa)(hp:∀x∈arrOf zt,P x)(hz:lo+n<=(arrOf zt).size)(aJ:ok<=n)(hs:So r ac4 lo (lo+ok))(q:∀au,avr->anc->Q true au):wpS aa2 A E s (binarySort' lo n ok) Q zt:=by
 rw[binarySort'_eq];refine wpS_bind (wpS_mono (wpS_forRange (I:=λk c au=>c=(none,())/\avr/\So r ahy lo (lo+min k n)) (Q:=λc au=>c=(none,())/\avr/\anc) ?_ ?_ ⟨rfl,.rfl',λi j h1 h2 h3=>?_⟩) ?_)
 .rintro k c gg k1 k2 ⟨rfl,a1,s1⟩;rw[acs (aaE k2)]at s1;have F0:lo+k<(arrOf gg).size :=by rw[a1.a.size];exact aaj (adb k2 lo) hz
  refine wpS_bind (wpS_mono (wpS_forRange (I:=λx c au=>au=gg/\∃l u,c=(none,l,u)/\l<=u/\u<=k/\u-l<=k-x/\(∀i,i<l->le r avR avQ)/\(∀i,u<=i->i<k->le r avQ avR))
   (Q:=λc au=>au=gg/\∃l u,c=(none,l,u)/\l<=k/\(∀i,i<l->le r avR avQ)/\(∀i,l<=i->i<k->le r avQ avR)) ?_ ?_ ⟨rfl,0,k,rfl,abn _,aas _,aas _,λi h=>absurd h alz,λi h1 h2=>absurd h2 (afs.mpr h1)⟩) ?_)
  .rintro x c cP _ hx ⟨rfl,l,u,rfl,z1,z2,z3,z4,z5⟩;dsimp only;refine Z9 (λhl=>?_) (λhl=>?_)
   .exact wpS_pure ⟨rfl,l,u,rfl,aam z1 z2,z4,λi h1 h2=>z5 i (aam hl h1) h2⟩
   .have hl:=adI hl;refine wpS_bind (lh L (a1.a.k.trans hk) (a1.a.all hp) F0 (aaU (abj aCD lo) F0) ?_);cases e:r axe (aG6 (lo+(l+u)/2))with
    |true=>exact wpS_pure ⟨rfl,l,_,rfl,QO hl,aCD,VJ hl z3,z4,λi h1 h2=>O.trans (axP e) (s1 _ _ aiD (abj h1 _) (adb h2 _))⟩
    |false=>exact wpS_pure ⟨rfl,_,u,rfl,Dg hl,z2,VM hl z3,λi h=>O.trans (s1 (lo+i) (lo+(l+u)/2) aiD (abj (aaY h) _) (adb (aaj (Dg hl) z2) _)) e,z5⟩
  .rintro c cP ⟨rfl,l,u,rfl,z1,z2,z3,z4,z5⟩;rw[Nat.max_eq_right (abn k),agz]at z3;exact⟨rfl,l,u,rfl,aam z1 z2,z4,λi h1 h2=>z5 i (aam (afc (Nat.le_zero.mp z3)) h1) h2⟩
  .rintro c cP ⟨rfl,l,u,rfl,z1,z4,z5⟩;dsimp only;rw[moveDown'_eq];have hb:lo+k-(lo+k-(lo+l))=lo+l:=Nat.sub_sub_self (abj z1 lo);refine wpS_bind (wpS_modify (wpS_pure ⟨rfl,a1.trans (At.bubble F0 ar6 (by rw[hb];exact aaM lo l) (adb k2 lo)),?_⟩));rw[acs k2];intro i j h1 h2 h3;show le r (gt aun i) (gt aun j);have a4:∀i,lo<=i->i<lo+l->le r (aG6 i) axe:=λi h h'=>by
    have:=z4 (i-lo) (aej h h');rwa [abh h]at this
   have a5:∀i,lo+l<=i->i<lo+k->le r axe (aG6 i):=λi h h'=>by
    have hh:=aam (aaM lo l) h;have:=z5 (i-lo) (agA h) (aej hh h');rwa [abh hh]at this
   have h4:j<=lo+k:=aaY h3;have jm:lo+l<j->j-1<lo+k:=λb=>aaj (agG (aaU ao3 b) Nat.one_pos) h4;rw[lg F0 ar6,lg F0 ar6,hb];rcases acm i (lo+l)with a|a|a
   .rw[aaF (aaN a),aaF λz=>Nat.lt_asymm a z.1];rcases acm j (lo+l)with b|b|b
    .rw[aaF (aaN b),aaF λz=>Nat.lt_asymm b z.1];exact s1 _ _ h1 h2 (aaj b (abj z1 lo))
    .rw[aaB b];exact a4 _ h1 a
    .rw[aaF (adj b),aaB ⟨b,h4⟩];exact s1 _ _ h1 (ads (adS a b)) (jm b)
   .rw[aaB a];rcases adm (a▸h2:lo+l<=j)with b|b
    .rw[aaF (adj b),aaB ⟨b,h4⟩];exact a5 _ (ads b) (jm b)
    .rw[aaB b.symm];exact O.refl _
   .have b:=aaj a h2;rw[aaF (adj a),aaB ⟨a,aam h2 h4⟩,aaF (adj b),aaB ⟨b,h4⟩];exact s1 _ _ (aam (aaM lo l) (ads a)) (adq h2 1) (jm b)
 .rintro c au ⟨hc,a1,s1⟩;rw[Nat.min_eq_right (Nat.le_max_right _ _)]at s1;exact⟨hc,a1,s1⟩
 .by_cases e:ok=0
  .rw[acv h2 (aam (aaY (aaj h3 (abj (aam aBM (show max ok 1<=1 by rw[e];decide)) lo))) h1)];exact O.refl _
  .exact hs i j h1 h2 (aaj h3 (abj (aam aBM (Nat.max_le.mpr ⟨aas _,ahf e⟩)) lo))
 .rintro c gg ⟨rfl,a1,s1⟩;exact wpS_pure (q gg a1 s1)
def So.one(O:Ord r)(xs:ab9)(lo:Nat):So r xs lo (lo+1):=λi j h1 h2 h3=>by rw[show i=j by omega];exact O.refl _
def De.one(O:Ord r)(xs:ab9)(lo:Nat):De r xs lo (lo+1):=λi j h1 h2 h3=>by rw[show i=j by omega];exact O.refl _
def So.more(O:Ord r){xs:ab9}{lo n:Nat}(h:So r xs lo (lo+n))(h1:1<=n)(hl:le r (ayX (lo+n-1)) (ayX (lo+n))):So r xs lo ay5:=λi j g1 g2 g3=>by
 rcases abx j (lo+n)with z|z
 .exact h i j g1 g2 z
 .have e:j=lo+n:=by omega
  subst e;rcases abx i (lo+n)with y|y
  .exact O.trans (h i (lo+n-1) g1 aa3 aa3) hl
  .rw[show i=lo+n by omega];exact O.refl _
def De.more(O:Ord r){xs:ab9}{lo n:Nat}(h:De r xs lo (lo+n))(h1:1<=n)(hl:le r (ayX (lo+n)) (ayX (lo+n-1))):De r xs lo ay5:=λi j g1 g2 g3=>by
 rcases abx j (lo+n)with z|z
 .exact h i j g1 g2 z
 .have e:j=lo+n:=by omega
  subst e;rcases abx i (lo+n)with y|y
  .exact O.trans hl (h i (lo+n-1) g1 aa3 aa3)
  .rw[show i=lo+n by omega];exact O.refl _
def Eqv(r:Keyed->Keyed->Bool)(xs ys:ab9):Prop:=∀k,le r (ayX k) (gt ys k)/\le r (gt ys k) (ayX k)
def jk(O:Ord r)(hj:j<=xs.size)(h:∀k,i<=k->k<j->le r (ayX k) (ayX (j-1))/\le r (ayX (j-1)) (ayX k)):Eqv r (mirror xs i j ((j-i)/2)) xs:=λk=>by
 rw[iy hj];split
 .rename_i z;have h1:=h (i+j-1-k) aa3 aa3;have h2:=h k z.1 z.2;exact⟨O.trans h1.1 h2.2,O.trans h2.1 h1.2⟩
 .exact⟨ap3,ap3⟩
def De.eqv(O:Ord r){xs ys:ab9}{lo hi:Nat}(h:De r xs lo hi)(e:Eqv r ys xs):De r ys lo hi:=λi j h1 h2 h3=>O.trans (e j).1 (O.trans (h i j h1 h2 h3) (e i).2)
def De.turn{xs:ab9}{lo n:Nat}(h:De r xs lo (lo+n))(hz:lo+n<=xs.size):So r (mirror xs lo (lo+n) ((lo+n-lo)/2)) lo (lo+n):=λi j h1 h2 h3=>by
 rw[iy hz,iy hz,aaB aa3,aaB aa3];exact h _ _ aa3 aa3 aa3
def Di{α:Type}{x:SM α}{st:ajD}{Q:α->SortSt->Prop}{T:ajD->Prop}(C:ajD->Prop)(main:(∀s',C s'->T s')->aEz)(h:∀s',C s'->T s'):aEz:=main h
def w8{lo fy:Nat}{st:ajD}{Q:ahM->SortSt->Prop}(L:ahC)(O:Ord r)(hk:apY)(hp:∀x∈arrOf st,P x)(hz:lo+fy<=(arrOf st).size)(h1:1<=fy)(q:∀n au,1<=n->n<=fy->At st au lo (lo+fy)->anc->Q (aku n) au):wpS aa2 A E s (countRun' lo fy) Q st:=by
 rw[countRun'_eq];refine wpS_bind (wpS_mono (wpS_forRange (I:=λi c au=>au=st/\∃n,c=(none,n)/\1<=n/\n=i/\n<=fy/\aBS)
  (Q:=λc au=>au=st/\∃n,c=(none,n)/\1<=n/\n<=fy/\aBS/\(n=fy\/r (gt (awq st) (lo+n)) (gt (awq st) (lo+n-1))=true)) ?_ ?_ ⟨rfl,1,rfl,by omega,by omega,h1,.one O _ _⟩) ?_)
 .rintro i c gg i1 i2 ⟨rfl,n,rfl,n1,n2,n3,s1⟩;dsimp only;refine wpS_bind (lh L hk hp aa3 aa3 ?_);cases e:r (aqo (lo+n)) (aqo (lo+n-1))with
  |true=>exact wpS_pure ⟨rfl,n,rfl,n1,n3,s1,.inr e⟩
  |false=>exact wpS_pure ⟨rfl,n+1,rfl,by omega,by omega,by omega,s1.more O n1 e⟩
 .rintro c gg ⟨rfl,n,rfl,n1,n2,n3,s1⟩;exact⟨rfl,n,rfl,n1,n3,s1,.inl aa3⟩
 rintro c gg ⟨rfl,n,rfl,n1,n2,s1,uW⟩;dsimp only;by_cases e1:(n==fy)=true
 .rw[aaB e1];exact wpS_pure aAJ
 rw[aaF e1];have pU:n<fy:=by have:=bne e1;omega
 have aU:=uW.resolve_left aa3;apply Di (λs'=>aGP/\De r (awq s') lo ay5)
 .intro shared;by_cases B3:n>1
  rotate_left
  .rw[aaF B3];have e:n=1:=by omega
   have d:De r aiA lo ay5:=by
    subst e;exact(De.one O _ _).more O aa3 (axP aU)
   apply shared gg ⟨.rfl',d⟩
  .rw[aaB B3];refine wpS_bind (lh L hk hp aa3 aa3 ?_);cases e:r (aqo lo) (aqo (lo+n-1))with
   |true=>exact wpS_pure aAJ
   |false=>
    dsimp only;rw[aaF aan];refine wpS_bind (yz ?_);have all:∀k,lo<=k->k<lo+n->le r (aqo k) (aqo (lo+n-1))/\le r (aqo (lo+n-1)) (aqo k):=λk k1 k2=>⟨s1 k _ k1 aa3 aa3,O.trans e (s1 lo k ac9 k1 k2)⟩;have d0:De r aiA lo (lo+n):=λi j g1 g2 g3=>O.trans (all j aa3 g3).1 (all i g1 aa3).2;exact shared _ ⟨At.mirror aa3 ac9 aa3,(d0.more O n1 (axP aU)).eqv O (jk O aa3 all)⟩
 rintro s' ⟨a0,d0⟩;have z0:=a0.a.size;refine wpS_bind (wpS_lift (adx ⟨rfl,?_⟩));refine wpS_bind (wpS_mono (wpS_forRange (I:=λi c au=>apv/\∃n' z,c=(none,n',z)/\2<=n'/\n'=i/\n'<=fy/\z+1<=n'/\De r ahy lo azE/\∀k,lo+n'-(z+1)<=k->k<lo+n'->le r aza (gt ahy (lo+n'-1))/\le r (gt ahy (lo+n'-1)) aza)
  (Q:=λc au=>apv/\∃n' z,c=(none,n',z)/\2<=n'/\n'<=fy/\z+1<=n'/\De r ahy lo azE/\∀k,lo+n'-(z+1)<=k->k<lo+n'->le r aza (gt ahy (lo+n'-1))/\le r (gt ahy (lo+n'-1)) aza) ?_ ?_ ⟨a0,n+1,0,rfl,by omega,by omega,by omega,by omega,d0,λk k1 k2=>?_⟩) ?_)
 .rintro i c cP i1 i2 ⟨a2,n',z,rfl,m1,m2,m3,m4,d2,eq2⟩;have Th:=a2.a.size;dsimp only;refine wpS_bind (lh L aGu (a2.a.all hp) aa3 aa3 ?_);cases e:r (aG6 azE) (aG6 (lo+n'-1))with
  |true=>
   dsimp only;rw[aaB rfl];have d3:=d2.more O aa3 (axP e);split
   .refine wpS_bind (yz (wpS_pure ⟨a2.trans aAh,n'+1,0,rfl,by omega,by omega,by omega,by omega,d3.eqv O (jk O aa3 eq2),λk k1 k2=>?_⟩));rw[show k=lo+(n'+1)-1 by omega];exact⟨ap3,ap3⟩
   .refine wpS_pure ⟨a2,n'+1,0,rfl,by omega,by omega,by omega,by omega,d3,λk k1 k2=>?_⟩;rw[show k=lo+(n'+1)-1 by omega];exact⟨ap3,ap3⟩
  |false=>
   dsimp only;rw[aaF aan];refine wpS_bind (lh L aGu (a2.a.all hp) aa3 aa3 ?_);cases e':r (aG6 (lo+n'-1)) (aG6 azE)with
   |true=>exact wpS_pure ⟨a2,n',z,rfl,m1,m3,m4,d2,eq2⟩
   |false=>
    refine wpS_pure ⟨a2,n'+1,z+1,rfl,by omega,by omega,by omega,by omega,d2.more O aa3 e',λk k1 k2=>?_⟩;rw[show lo+(n'+1)-1=lo+n' by omega];rcases abx k azE with y|y
    .have:=eq2 k aa3 y;exact⟨O.trans this.1 e,O.trans e' this.2⟩
    .rw[show k=lo+n' by omega];exact⟨ap3,ap3⟩
 .rintro c cP ⟨a2,n',z,rfl,m1,m2,m3,m4,d2,eq2⟩;exact⟨a2,n',z,rfl,m1,m3,m4,d2,eq2⟩
 .rw[show k=lo+(n+1)-1 by omega];exact⟨ap3,ap3⟩
 rintro c kX ⟨a3,n',z,rfl,m1,m2,m4,d3,eq3⟩;have hs3:=a3.a.size;dsimp only;apply Di (λs'=>aGP/\De r (awq s') lo azE)
 .intro shared;by_cases OJ:z>0
  rotate_left
  .rw[aaF OJ];apply shared kX ⟨a3,d3⟩
  .rw[aaB OJ];refine wpS_bind (yz ?_);exact shared _ ⟨a3.trans aAh,d3.eqv O (jk O aa3 eq3)⟩
 rintro s4 ⟨a4,d4⟩;have hs4:=a4.a.size;refine wpS_bind (yz ?_);have a5:=a4.trans (At.mirror (i:=lo) (j:=lo+n') aa3 ac9 (show lo+n'<=lo+fy by omega));have s5:=d4.turn aa3;refine wpS_bind (wpS_mono (wpS_forRange (I:=λi c au=>apv/\∃m,c=(none,m)/\1<=m/\m=i/\m<=fy/\So r ahy lo (lo+m))
  (Q:=λc au=>apv/\∃m,c=(none,m)/\1<=m/\m<=fy/\So r ahy lo (lo+m)) ?_ (λc au ⟨y,m,y1,y2,_,y3,y4⟩=>⟨y,m,y1,y2,y3,y4⟩) ⟨a5,n',rfl,by omega,rfl,m2,s5⟩) ?_)
 .rintro i c Ck i1 i2 ⟨a5,m,rfl,y1,y2,y3,y4⟩;have hs5:=a5.a.size;dsimp only;refine wpS_bind (lh L (a5.a.k.trans hk) (a5.a.all hp) aa3 aa3 ?_);cases e:r (gt (awq Ck) (lo+m)) (gt (awq Ck) (lo+m-1))with
  |true=>exact wpS_pure ⟨a5,m,rfl,y1,y3,y4⟩
  |false=>exact wpS_pure ⟨a5,m+1,rfl,by omega,by omega,by omega,y4.more O y1 e⟩
 .rintro c Ck ⟨a5,m,rfl,y1,y3,y4⟩;exact wpS_pure (q m Ck y1 y3 a5 y4)
end
def sk(xs:ab9)(i:Nat):gt xs i=xs.toList[i]?.getD (.none,.none):=by unfold gt;rw[aba]
section
variable {r:Keyed->Keyed->Bool}{prog:ac7}{w:World}{A:ahp}{E:Value->Shared->Prop}{s:ab5}{κ:ap2}{P:Keyed->Prop}
def uX{lo n:Nat}(h:So r xs lo (lo+n))(hz:lo+n<=xs.size):(sg xs lo n).Pairwise (le r):=by
 rw[acu];intro i j hi hj v8;rw[dX hz]at hi hj;have e1:=gf (arr:=xs) hi hz;have e2:=gf (arr:=xs) hj hz;rw[aai (by rw[dX hz];lia)]at e1 e2;rw[aaQ e1,aaQ e2,<-iY,<-iY];exact h _ _ aiD (abj (aaE v8) _) (adb hj _)
def Mi{ms:List Keyed}(h:o+ms.length<=a.size)(i:Nat):gt (ms.zipIdx.foldl (λa (p:Keyed×Nat)=>ayB) a) i=if i<o then gt a i else if h:i-o<ms.length then ms[i-o] else gt a i:=by
 rw[sk,r_ ms o 0 a (h),aet];have ht:(a.toList.take o).length =o:=by rw[aci,aaK];exact acs (aam aiD h)
 by_cases h1:i<o
 .rw[aaB h1,aaZ,abr (aaj h1 (aaw (abl ht))),aeB,aaB h1,sk]
 .rw[aaF h1,aaZ,abC (aam (aaw ht) (aaV h1)),ht];by_cases h2:i-o<ms.length
  .rw[dif_pos h2,abr h2,aai h2];rfl
  .rw[dif_neg h2,abC (aaV h2),aeC,sk];congr 2;exact Ux h1 h2
def Tq{a j m:Nat}(h:a<=j)(h2:j<a+m):j-a<m:=aej h h2
def QP{a k j:Nat}(h:a+k<=j):k<=j-a:=agA h
def VN{a j m:Nat}(h0:¬j<a)(h:¬j-a<m):a+m<=j:=agv (afs.mp h0) (afs.mp h)
def VO(h:b<a):a-1<a:=agG (aaU (abn b) h) Nat.one_pos
def XX{a b c d:Nat}(h:a<b+c)(h2:c<=d):a<b+d:=aaj h (abj h2 b)
def Mj{a b c:Nat}(h:a+b<=c):a<=c:=aam (aaM a b) h
def AY{i sa na pw sb nb OK:Nat}(L:ahC)(O:Ord r)(hk:aDa)(hp:∀x∈arrOf zt,P x)(hf:axf)(e1:(pendingOf zt)[i]?=some (sa,na,pw))(e2:(pendingOf zt)[i+1]?=some (sb,nb,OK))(OL:sb=sa+na)(h1:1<=na)(h2:1<=nb)(hz:sb+nb<=(arrOf zt).size)
  (QQ:So r ac4 sa sb) (QR:So r ac4 sb azx)
  (q:∀au,kindOf au=κ->(arrOf au).Perm ac4->axg->pendingOf au=((pendingOf zt).setIfInBounds i aCf).eraseIdxIfInBounds (i+1)->(∀i,i<sa\/sb+nb<=i->gt ahy i=gt ac4 i)->So r ahy sa azx->Q true au):av1:=by
 have VP:So r ac4 sa (sa+na):=by rw[<-OL];exact QQ
 have hA:sa+na<=(arrOf zt).size :=OL▸Mj hz;have sgA:=uX VP hA;have sgB:=uX QR hz;have Dj:sb<(arrOf zt).size :=aaj (agd h2) hz;have b0:∀j,sb<=j->j<sb+nb->le r (arrOf zt)[sb] aoM:=λj j1 j2=>by
  rw[<-iY Dj];exact QR sb j ac9 j1 j2
 have whole:(∀x,sa<=x->x<sb->∀y,sb<=y->y<sb+nb->le r (aG7 x) (aG7 y))->So r ac4 sa azx:=λh x y x1 x2 x3=>by
  rcases abx y sb with z|z
  .exact QQ x y x1 x2 z
  .rcases abx x sb with z'|z'
   .exact h x x1 z' y z x3
   .exact QR x y z' x2 x3
 have XY:∀{c:Nat},c<na->∃h,(sg ac4 sa na)[c]'h=gt ac4 (sa+c):=λ{c} hc=>by
  have hl:c<(sg ac4 sa na).length :=by rw[dX hA];exact hc
  refine⟨hl,?_⟩;have e:=gf (arr:=arrOf zt) hc hA;rw[aai hl]at e;rw[aaQ e,<-iY]
 have XZ:∀{c:Nat},c<nb->∃h,(sg ac4 sb nb)[c]'h=gt ac4 (sb+c):=λ{c} hc=>by
  have hl:c<(sg ac4 sb nb).length :=by rw[dX hz];exact hc
  refine⟨hl,?_⟩;have e:=gf (arr:=arrOf zt) hc hz;rw[aai hl]at e;rw[aaQ e,<-iY]
 rw[uP];refine wpS_bind (wpS_get ?_);rw[e1,e2];dsimp only;refine wpS_bind (GZ (wpS_bind (bC Dj (wpS_bind (cU L O hk ay8 hp hA (h1) sgA λk FZ g1 g2=>?_)))));dsimp only;have Mk:∀j,sa<=j->j<sa+k->le r aoM (arrOf zt)[sb]:=λj j1 j2=>by
  have jl:=Tq j1 j2;have jn:=aaj jl FZ;obtain⟨hl,e⟩:=XY jn;have:=g1 ((sg ac4 sa na)[j-sa]) (by rw[afH];exact⟨j-sa,by rw[dX hA];exact Nat.lt_min.mpr ⟨jl,jn⟩,rfl⟩);rw[e,abh j1]at this;unfold w6 at this;simpa[le]using this
 have X0:∀j,sa+k<=j->j<sb->le r (arrOf zt)[sb] aoM:=λj j1 j2=>by
  have ja:=Mj j1;obtain⟨hl,e⟩:=XY (Tq ja (OL▸j2));have:=g2 ((sg ac4 sa na)[j-sa]) (by rw[afI];exact⟨j-sa-k,by rw[acF (QP j1)];exact hl,by congr 1;exact abh (QP j1)⟩);rw[e,abh ja]at this;unfold w6 at this;have h':r (arrOf zt)[sb] aoM=true:=by simpa using this
  exact O.of_lt h'
 by_cases c1:(na-k==0)=true
 .rw[aaB c1];have v_:k=na:=by
   have:na-k=0:=by simpa using c1
   exact acv FZ (afc this)
  exact wpS_pure (q _ hk (afx _) hf rfl (λ_ _=>rfl) (whole λx x1 x2 y y1 y2=>O.trans (Mk x x1 (by rw[v_,<-OL];exact x2)) (b0 y y1 y2)))
 rw[aaF c1];have v_:k<na:=Nat.lt_of_sub_ne_zero (bne c1);have mS:1<=na-k:=aeO v_;have hS:sa+k+(na-k)=sb:=by rw[acw,abh FZ,OL]
 have tU:sa+k+(na-k)<=(arrOf zt).size :=by rw[hS];exact aaE Dj
 have X1:sa+k+(na-k)-1<(arrOf zt).size :=by rw[hS];exact aaU ar6 Dj
 refine wpS_bind (bC X1 (wpS_bind (cU L O hk ay8 hp hz (agG h2 aa1) sgB λpW Dk g3 g4=>?_)));dsimp only;have ze:(arrOf zt)[sa+k+(na-k)-1]=gt ac4 (sb-1):=by rw[<-iY X1];congr 1;rw[hS]
 rw[ze]at g3 g4;have QS:∀j,sa<=j->j<sb->le r aoM (aG7 (sb-1)):=λj j1 j2=>QQ j (sb-1) j1 (ads j2) (VO j2);have QT:∀j,sb<=j->j<sb+pW->le r aoM (aG7 (sb-1)):=λj j1 j2=>by
  have jl:=Tq j1 j2;have jn:=aaj jl Dk;obtain⟨hl,e⟩:=XZ jn;have:=g3 ((sg ac4 sb nb)[j-sb]) (by rw[afH];exact⟨j-sb,by rw[dX hz];exact Nat.lt_min.mpr ⟨jl,jn⟩,rfl⟩);rw[e,abh j1]at this;exact O.of_lt this
 have X2:∀j,sb+pW<=j->j<sb+nb->le r (aG7 (sb-1)) aoM:=λj j1 j2=>by
  have ja:=Mj j1;obtain⟨hl,e⟩:=XZ (Tq ja j2);have:=g4 ((sg ac4 sb nb)[j-sb]) (by rw[afI];exact⟨j-sb-pW,by rw[acF (QP j1)];exact hl,by congr 1;exact abh (QP j1)⟩);rw[e,abh ja]at this;exact this
 by_cases c2:(pW==0)=true
 .rw[aaB c2];have AS:pW=0:=by simpa using c2
  exact wpS_pure (q _ hk (afx _) hf rfl (λ_ _=>rfl) (whole λx x1 x2 y y1 y2=>O.trans (QS x x1 x2) (X2 y (by rw[AS];exact y1) y2)))
 rw[aaF c2];have AS:1<=pW:=ahf (bne c2);have Kb:sb+pW<=(arrOf zt).size :=aam (abj Dk sb) hz;have hx:∀x∈(arrOf zt).extract (sa+k) sb,P x:=λx hx=>hp x (yA hx);have hy:∀x∈(arrOf zt).extract sb arS,P x:=λx hx=>hp x (yA hx);have sx:((arrOf zt).extract (sa+k) sb).size =na-k:=by rw[ahg,acs (aaE Dj),OL,Nat.add_sub_add_left]
 have sy:((arrOf zt).extract sb arS).size =pW:=by rw[ahg,acs Kb,abX]
 have lx:((arrOf zt).extract (sa+k) sb).toList =sg ac4 (sa+k) (na-k):=by
  have:=dZ ac4 (sa+k) (na-k);rwa [hS]at this
 have ly:((arrOf zt).extract sb arS).toList =sg ac4 sb pW:=dZ _ _ _;have px:((arrOf zt).extract (sa+k) sb).toList.Pairwise (le r):=by
  rw[lx];exact uX (λx y x1 x2 x3=>QQ x y (Mj x1) x2 (hS▸x3)) tU
 have py:((arrOf zt).extract sb arS).toList.Pairwise (le r):=by
  rw[ly];exact uX (λx y x1 x2 x3=>QR x y x1 x2 (XX x3 Dk)) Kb
 have mem:∀{x:Keyed}{o m:Nat},o+m<=(arrOf zt).size ->x∈sg ac4 o m->∃j,o<=j/\j<o+m/\x=gt ac4 j:=λ{x o m} VQ hx=>by
  obtain⟨t,ht,rfl⟩:=adE hx;rw[dX VQ]at ht;refine⟨o+t,aiD,adb ht _,?_⟩;have e:=gf (arr:=arrOf zt) ht VQ;rw[aai (by rw[dX VQ];exact ht)]at e;rw[aaQ e,<-iY]
 have first:∀y∈((arrOf zt).extract (sa+k) sb).toList,le r (((arrOf zt).extract sb arS)[0]'(by rw[sy];exact AS)) y:=λy hy=>by
  rw[lx]at hy;obtain⟨j,j1,j2,rfl⟩:=mem tU hy;have e:((arrOf zt).extract sb arS)[0]'(by rw[sy];exact AS)=(arrOf zt)[sb]:=by rw[Array.getElem_extract];rfl
  rw[e];exact X0 j j1 (hS▸j2)
 have final:∀y∈((arrOf zt).extract sb arS).toList,∀x∈((arrOf zt).extract (sa+k) sb).toList.drop (((arrOf zt).extract (sa+k) sb).size-1),an8:=λy hy x hx=>by
  rw[ly]at hy;obtain⟨j,j1,j2,rfl⟩:=mem Kb hy;rw[sx,lx]at hx;obtain⟨m,hm,rfl⟩:=adE hx;rw[adH,dX tU,Nat.sub_sub_self mS]at hm;have hm0:=Nat.lt_one_iff.mp hm;subst hm0;rw[List.getElem_drop];have e:=gf (arr:=arrOf zt) (show na-k-1+0<na-k from VO mS) tU;rw[aai (by rw[dX tU];exact VO mS)]at e;rw[aaQ e,<-iY,show sa+k+(na-k-1+0)=sb-1 by rw[aet,<-Nat.add_sub_assoc mS,hS]];exact QT j j1 j2
 have QU:∀(out:ab9) (au:ajD),out.toList.Perm (((arrOf zt).extract (sa+k) sb).toList ++((arrOf zt).extract sb arS).toList)->apI->Sm (setPending zt (((pendingOf zt).setIfInBounds i aCf).eraseIdxIfInBounds (i+1))) au->
   Q (failedOf ae7).isNone ae7:=λout au sq w_ hM=>by
  have Tr:axg:=hM.f.trans hf;have e4:(failedOf ae7).isNone =true:=by show(failedOf au).isNone =true;rw[Tr];rfl
  rw[e4];have ha:arrOf au=arrOf zt:=hM.a;have hl:=sq.length_eq;rw[aau,aaK (xs:=(arrOf zt).extract (sa+k) sb),aaK (xs:=(arrOf zt).extract sb arS),sx,sy]at hl;have hE:sa+k+out.toList.length=sb+pW:=by rw[hl,<-acw,hS]
  have X3:∀x∈out.toList,le r (arrOf zt)[sb] x/\le r x (aG7 (sb-1)):=λx hx=>by
   rcases aaH.mp (sq.mem_iff.mp hx)with z|z
   .rw[lx]at z;obtain⟨j,j1,j2,rfl⟩:=mem tU z;exact⟨X0 j j1 (hS▸j2),QS j (Mj j1) (hS▸j2)⟩
   .rw[ly]at z;obtain⟨j,j1,j2,rfl⟩:=mem Kb z;exact⟨b0 j j1 (XX j2 Dk),QT j j1 j2⟩
  have hg:∀j,gt (awq ae7) j=if j<sa+k then gt ac4 j else if h:j-(sa+k)<out.toList.length then out.toList[j-(sa+k)] else gt ac4 j:=λj=>by
   show gt (out.toList.zipIdx.foldl (λa (p:Keyed×Nat)=>awQ) ahy) j=_;rw[Mi (by rw[ha,hE];exact Kb),ha]
  refine q _ (hM.k.trans hk) ?_ Tr hM.p (λj hj=>?_) (λx y x1 x2 x3=>?_)
  .show(out.toList.zipIdx.foldl (λa (p:Keyed×Nat)=>awQ) ahy).Perm ac4;rw[afB,ha,r_ _ (sa+k) 0 _ (by rw[aet,hE];exact Kb)];have e3:(arrOf zt).toList =(arrOf zt).toList.take (sa+k+0)++(((arrOf zt).extract (sa+k) sb).toList ++((arrOf zt).extract sb arS).toList)++(arrOf zt).toList.drop (sa+k+0+out.toList.length):=by
    have t1:=fE ac4 (i:=sa+k) (k:=na-k);have t2:=fE ac4 (i:=sb) (k:=pW);rw[hS]at t1;rw[aet,<-aaZ,t1,t2,hE,ach]
   refine List.Perm.trans ?_ (List.Perm.of_eq e3.symm);exact(sq.append_left _).append_right _
  .rw[hg];split
   .rfl
   .rename_i a1;rw[dif_neg (afs.mpr (QP (hj.elim (λz=>absurd (aaj z (aaM sa k)) a1) λz=>hE.symm▸aam (abj Dk sb) z)))]
  .rw[hg,hg];by_cases a1:x<sa+k
   .rw[aaB a1];by_cases a2:y<sa+k
    .rw[aaB a2];exact QQ x y x1 x2 (aaj a2 (hS▸aaM _ _))
    .rw[aaF a2];by_cases a3:y-(sa+k)<out.toList.length
     .rw[dif_pos a3];exact O.trans (Mk x x1 a1) (X3 _ (acL a3)).1
     .rw[dif_neg a3];exact O.trans (Mk x x1 a1) (b0 y (Mj (hE▸VN a2 a3)) x3)
   .have ny:¬y<sa+k:=λz=>a1 (aaU x2 z);rw[aaF a1,aaF ny];by_cases a2:x-(sa+k)<out.toList.length
    .rw[dif_pos a2];by_cases a3:y-(sa+k)<out.toList.length
     .rw[dif_pos a3];rcases abx x y with z|z
      .exact(acu.mp w_) _ _ a2 a3 (Nat.sub_lt_sub_right (afs.mp a1) z)
      .have:x=y:=acv x2 z;subst this;exact O.refl _
     .rw[dif_neg a3];exact O.trans (X3 _ (acL a2)).2 (X2 y (hE▸VN ny a3) x3)
    .rw[dif_neg a2,dif_neg λz=>a2 (aaU (adq x2 _) z)];exact QR x y (Mj (hE▸VN a1 a2)) x2 x3
 by_cases c3:na-k<=pW
 .rw[aaB c3];exact wpS_bind (AR L O hk hx hy (by rw[sx];exact mS) (by rw[sy];exact AS) px py first final λout au sq w_ hS=>alQ)
 .rw[aaF c3];exact wpS_bind (AX L O hk hx hy (by rw[sx];exact mS) (by rw[sy];exact AS) px py first final λout au sq w_ hS=>alQ)
end
def sv(r:Keyed->Keyed->Bool)(xs:ab9):Nat->aj9->Nat->Prop
 |s,[],e=>s=e
 |s,(a,n,_)::l,e=>a=s/\1<=n/\So r xs s (s+n)/\sv r xs (s+n) l e
section
variable {r:Keyed->Keyed->Bool}{xs ys:ab9}
def So.keep{lo hi:Nat}(h:So r xs lo hi)(e:∀i,lo<=i->i<hi->ayo):So r ys lo hi:=λi j h1 h2 h3=>by
 rw[e i h1 (aaU h2 h3),e j (aam h1 h2) h3];exact h i j h1 h2 h3
theorem sv.snoc:∀{s:Nat}{l:aj9}{e n:Nat},aq8->1<=n->So r xs e (e+n)->sv r xs s (l++[(e,n,p)]) (e+n)
 |s,[],e,n,h,hn,hs=>by
  have h':s=e:=h;subst h';exact⟨rfl,hn,hs,rfl⟩
 |s,(a,m,q)::l,e,n,⟨h1,h2,h3,h4⟩,hn,hs=>⟨h1,h2,h3,h4.snoc hn hs⟩
theorem sv.le:∀{s:Nat}{l:aj9}{e:Nat},aq8->s+l.length<=e
 |s,[],e,h=>aaw h
 |s,(a,m,q)::l,e,⟨h1,h2,h3,h4⟩=>by have:=h4.le;rw[aaL];exact O4 this (agM (agd h2) _)
theorem sv.keep:∀{s:Nat}{l:aj9}{e:Nat},aq8->(∀i,s<=i->i<e->ayo)->sv r ys s l e
 |s,[],e,h,_=>h
 |s,(a,m,q)::l,e,⟨h1,h2,h3,h4⟩,k=>⟨h1,h2,h3.keep λi i1 i2=>k i i1 (by have:=h4.le;exact O4 this (afi _ i2)),h4.keep λi i1 i2=>k i (aam aiD i1) i2⟩
theorem sv.at:∀{s:Nat}{l:aj9}{e i:Nat},aq8->i+1<l.length->∃sa na pw sb nb OK,l[i]?=some (sa,na,pw)/\l[i+1]?=some (sb,nb,OK)/\sb=sa+na/\1<=na/\1<=nb/\sb+nb<=e/\s<=sa/\So r xs sa sb/\So r xs sb azx/\
   ∀ys:ab9,(∀i,i<sa\/sb+nb<=i->ayo)->So r ys sa azx->sv r ys s ((l.set i aCf).eraseIdx (i+1)) e
 |s,[],e,i,h,hi=>by simp at hi
 |s,[x],e,i,h,hi=>by simp at hi
 |s,(a,n,p)::(b,m,q)::l,e,0,⟨h1,h2,h3,h4,h5,h6,h7⟩,_=>by
  subst h1;subst h4;refine⟨a,n,p,a+n,m,q,rfl,rfl,rfl,h2,h5,by have:=h7.le;exact aam aiD this,aas _,h3,h6,λys k ks=>?_⟩;refine⟨rfl,(afi _ h2),by rw[<-acw];exact ks,?_⟩;rw[<-acw];exact h7.keep λi i1 i2=>k i (ant i1)
 |s,(a,n,p)::y::l,e,i+1,⟨h1,h2,h3,h4⟩,hi=>by
  refine O3 (sv.at (i:=i) h4 (by simpa using hi)) λsa na pw sb nb OK g1 g2 g3 g4 g5 g6 g7 g8 g9 QV=>⟨sa,na,pw,sb,nb,OK,g1,g2,g3,g4,g5,g6,(aam aiD g7),g8,g9,λys k ks=>?_⟩;exact⟨h1,h2,h3.keep λi i1 i2=>k i (akN (aaj i2 g7)),QV ys k ks⟩
theorem sv.power:∀{s:Nat}{l:aj9}{e i:Nat},aq8->sv r xs s (l.modify i λx=>(x.1,x.2.1,f)) e
 |s,[],e,i,h=>by cases i<;>exact h
 |s,(a,n,p)::l,e,0,⟨h1,h2,h3,h4⟩=>⟨h1,h2,h3,h4⟩
 |s,(a,n,p)::l,e,i+1,⟨h1,h2,h3,h4⟩=>⟨h1,h2,h3,h4.power⟩
end
section
variable {prog:ac7}{w:World}{A:ahp}{E:Value->Shared->Prop}{s:ab5}{κ:ap2}{P:Keyed->Prop}{r:Keyed->Keyed->Bool}
structure B4(r:Keyed->Keyed->Bool)(κ:ap2)(a₀:ab9)(zt:ajD)(lo:Nat):Prop where
 k:kindOf zt=κ
 a:(arrOf zt).Perm a₀
 f:failedOf zt=none
 c:sv r ac4 0 (pendingOf zt).toList lo
def B4.merge{lo i:Nat}(L:ahC)(O:Ord r)(hp:∀x∈a₀,P x)(h:B4 r κ a₀ zt lo)(Aw:lo<=a₀.size)(hi:i+1<(pendingOf zt).size)(q:∀au,ajS->(pendingOf au).size+1=(pendingOf zt).size ->(∀j,lo<=j->gt ahy j=gt ac4 j)->Q true au):av1:=by
 refine O3 (h.c.at (i:=i) (by rw[aaK];exact hi)) λsa na pw sb nb OK g1 g2 g3 g4 g5 g6 g7 g8 g9 QV=>?_;rw[aba]at g1 g2;refine AY L O h.k (λx hx=>hp x aDj) h.f g1 g2 g3 g4 g5 (by rw[h.a.size_eq];exact aam g6 Aw) g8 g9 λau k1 k2 k3 k4 k5 k6=>q au ⟨k1,k2.trans h.a,k3,?_⟩ ?_ (λj hj=>k5 j (ant (aam g6 hj)))
 .rw[k4,aeR,aeg];exact QV _ k5 k6
 .rw[k4,<-aaK,aeR,aeg,afC (by rw[abO,aaK];exact hi),abO,aaK];exact acF (aaj aBN hi)
def Ml{α:Type}{x:SM α}{zt:ajD}{Q:α->SortSt->Prop}{T:Nat->SortSt->Prop}(C:Nat->ajD->Prop)(main:(∀n s',C n s'->T n s')->ai8)(h:∀n s',C n s'->T n s'):ai8:=main h
def xa(L:ahC)(O:Ord r)(hp:∀x∈a₀,P x)(h:B4 r κ a₀ zt 0)(q:∀au,(arrOf au).Perm a₀->axg->So r ahy 0 a₀.size->Q () au):wpS aa2 A E s sortRuns' Q zt:=by
 rw[sortRuns'_eq];refine wpS_bind (wpS_get ?_);dsimp only;have hz:(arrOf zt).size =a₀.size:=h.a.size_eq;rw[hz];refine wpS_bind (wpS_mono (wpS_forRange (I:=λi c au=>∃lo,c=(none,lo)/\ajS/\lo<=a₀.size/\i<=lo) (Q:=λc au=>∃lo,c=(none,lo)/\ajS/\lo=a₀.size) ?step ?fin ⟨0,rfl,h,abn _,aas _⟩) ?post)
 case fin=>
  rintro c gg ⟨lo,rfl,g0,Aw,Tt⟩;exact⟨lo,rfl,g0,(acv Aw Tt)⟩
 case step=>
  rintro i c gg _ _ ⟨lo,rfl,g0,Aw,Tt⟩;dsimp only;by_cases QW:lo ≥ a₀.size
  .rw[aaB QW];exact wpS_pure ⟨lo,rfl,g0,(acv Aw QW)⟩
  rw[aaF QW];have OF:(arrOf gg).size =a₀.size:=g0.a.size_eq;refine wpS_bind (w8 L O g0.k (λx hx=>hp x (g0.a.mem_iff.mp hx)) (by lia) (aeO (adI QW)) λn cP B3 JT a1 OM=>?_);have g1:B4 r κ a₀ cP lo:=⟨a1.a.k.trans g0.k,a1.a.a.trans g0.a,a1.a.f.trans g0.f,by rw[a1.a.p];exact g0.c.keep λj _ hj=>a1.o j (akN hj)⟩;dsimp only;apply Ml (λn s'=>B4 r κ a₀ s' lo/\1<=n/\lo+n<=a₀.size/\So r (awq s') lo (lo+n))
  .intro shared;by_cases VR:n<minRun' a₀.size a₀.size 0
   rotate_left
   .rw[aaF VR];apply shared n cP ⟨g1,B3,(Uu B3 JT),OM⟩
   .rw[aaB VR];refine wpS_bind (wpS_lift (adx ⟨rfl,?_⟩));have Th:(arrOf cP).size =a₀.size:=g1.a.size_eq;have QX:lo+ayu=a₀.size:=abh Aw;have X4:lo+min ayu au5<=a₀.size:=aam (abj aBM lo) (aaw QX);have X5:n<=min ayu au5:=Nat.le_min.mpr ⟨JT,aaE VR⟩;refine wpS_bind (sj L O g1.k (λx hx=>hp x (g1.a.mem_iff.mp hx)) (by rw[Th];exact X4) X5 OM λkX a3 Mm=>?_);rw[aaF aa1];exact shared _ kX ⟨⟨a3.a.k.trans g1.k,a3.a.a.trans g1.a,a3.a.f.trans g1.f,by rw[a3.a.p];exact g1.c.keep λj _ hj=>a3.o j (akN hj)⟩,aam B3 X5,X4,Mm⟩
  clear B3 JT a1 OM g1;rintro n cP ⟨g1,B3,JT,OM⟩;refine wpS_bind (wpS_get ?_);cases hb:(pendingOf cP).back? with
  |none=>exact wpS_bind (wpS_modify (wpS_pure ⟨_,rfl,⟨g1.k,g1.a,g1.f,by
    show sv r aj0 0 ((pendingOf cP).push _).toList _;rw[acZ];exact g1.c.snoc B3 OM⟩,JT,(aek Tt B3)⟩))
  |some x=>
   obtain⟨s1,n1,p1⟩:=x;dsimp only;refine wpS_bind (wpS_mono (wpS_forRange (I:=λ_ c au=>c=(none,())/\ajS/\anc) (Q:=λc au=>c=(none,())/\ajS/\anc) ?_ (λ_ _ z=>z) ⟨rfl,g1,OM⟩) ?_)
   .rintro _ c kX _ _ ⟨rfl,g3,Mm⟩;refine wpS_bind (wpS_get ?_);by_cases hs:(pendingOf kX).size>1
    .rw[aaB hs];have aU:(pendingOf kX).size-2<(pendingOf kX).size :=(agG (aaE hs) aa1);rw[aaG aU];dsimp only;split
     .exact wpS_pure ⟨rfl,g3,Mm⟩
     .refine wpS_bind (g3.merge L O hp (aaE (adI QW)) (O8 hs) λTd g4 _ k4=>?_);exact wpS_pure ⟨rfl,g4,Mm.keep λj j1 _=>k4 j j1⟩
    .rw[aaF hs];exact wpS_pure ⟨rfl,g3,Mm⟩
   .rintro c kX ⟨rfl,g3,Mm⟩;exact wpS_bind (wpS_modify (wpS_bind (wpS_modify (wpS_pure ⟨_,rfl,⟨g3.k,g3.a,g3.f,by
     show sv r (awq kX) 0 (((pendingOf kX).modify _ _).push _).toList _;rw[acZ,Array.toList_modify];exact(g3.c.power).snoc B3 Mm⟩,JT,(aek Tt B3)⟩))))
 case post=>
  rintro c gg ⟨lo,rfl,g0,Aw⟩;dsimp only;refine wpS_bind (wpS_mono (wpS_forRange (I:=λi c au=>c=(none,())/\ajS/\((pendingOf au).size <=1\/(pendingOf au).size+i<=lo)) (Q:=λc au=>c=(none,())/\ajS/\(pendingOf au).size <=1) ?_ ?_ ⟨rfl,g0,.inr ?_⟩) ?_)
  .rintro j c kX _ _ ⟨rfl,g3,uW⟩;refine wpS_bind (wpS_get ?_);by_cases hs:(pendingOf kX).size <=1
   .rw[aaB hs];exact wpS_pure ⟨rfl,g3,hs⟩
   .rw[aaF hs];refine wpS_bind (g3.merge L O hp (aaw Aw) (QD (by lia) (O8 (adI hs))) λTd g4 k4 _=>?_);exact wpS_pure ⟨rfl,g4,.inr (by lia)⟩
  .rintro c kX ⟨hc,g3,uW⟩;exact⟨hc,g3,by lia⟩
  .have:=g0.c.le;rw[aaK]at this;exact aam aBN this
  .rintro c kX ⟨rfl,g3,hs⟩;refine wpS_pure (q kX g3.a g3.f ?_);have hc:=g3.c;have hl:(pendingOf kX).toList.length <=1:=by rw[aaK];exact hs
   cases JX:(pendingOf kX).toList with
   |nil=>
    rw[JX]at hc;have:0=lo:=hc;intro x y _ _ h3;exact absurd Aw (aaN (O4 h3 (Ut aqf aBN)))
   |cons x l=>
    rw[JX]at hc hl;cases l with
    |cons _ _=>simp at hl
    |nil=>
     obtain⟨a,n,p⟩:=x;refine BU hc λc1 c2 c3 c4=>?_;have c4':0+n=lo:=c4;rw[<-Aw,<-c4'];exact c3
end
open PySem.W
theorem gN:∀u v:aa0,bO u v=true->bO v u=false
 |[],[],h=>by cases h
 |[],_::_,_=>rfl
 |_::_,[],h=>by cases h
 |n::u,m::v,h=>by
  unfold bO at h⊢;by_cases e:n=m
  .rw[aaB e]at h;rw[aaB e.symm];exact gN u v h
  .rw[aaF e]at h;rw[aaF λz=>e z.symm];have:=of_decide_eq_true h;exact decide_eq_false (acx (aeq this))
theorem j8:∀u v w:aa0,bO v u=false->bO w v=false->bO w u=false
 |[],_,[],_,_=>rfl
 |[],_,_::_,_,_=>rfl
 |_::_,[],_,h,_=>by cases h
 |_::_,_::_,[],_,h=>by cases h
 |n::u,m::v,k::w,h1,h2=>by
  unfold bO at h1 h2⊢;by_cases e1:m=n
  .rw[aaB e1]at h1;by_cases e2:k=m
   .rw[aaB e2]at h2;rw[aaB (e2.trans e1)];exact j8 u v w h1 h2
   .rw[aaF e2]at h2;rw[aaF (λz=>e2 (z.trans e1.symm)),<-e1];exact h2
  .rw[aaF e1]at h1;have g1:=of_decide_eq_false h1;by_cases e2:k=m
   .rw[aaF (λz=>e1 (e2.symm.trans z))];exact decide_eq_false (acx (aes (agm g1) (Int.le_of_eq (abl e2))))
   .rw[aaF e2]at h2;have g2:=of_decide_eq_false h2;rw[aaF aa3];exact decide_eq_false (acx (aes (agm g1) (agm g2)))
theorem iA:∀u v:aa0,bO u v=false->bO v u=false->u=v
 |[],[],_,_=>rfl
 |[],_::_,h,_=>by cases h
 |_::_,[],_,h=>by cases h
 |n::u,m::v,h1,h2=>by
  unfold bO at h1 h2;by_cases e:n=m
  .rw[aaB e]at h1;rw[aaB e.symm]at h2;rw[e,iA u v h1 h2]
  .rw[aaF e]at h1;rw[aaF λz=>e z.symm]at h2;have:=of_decide_eq_false h1;have:=of_decide_eq_false h2;omega
def Dl:∀{l:ahB},l.length<=1->l.Pairwise R
 |[],_=> .nil
 |[_],_=>aeD _ _
 |_::_::_,h=>absurd h ab1
def TupIs(h:Heap)(v:Value)(ns:aa0):Prop:=∃(x:Addr) (o:Obj) (xs:ab0) (n:Nat),v= .ref x/\h.get? x=some o/\o.cls= .type "tuple"/\azB/\IntsAre xs ns
def Dm:∀{xs:ab0}{ns ms:aa0},IntsAre xs ns->IntsAre xs ms->ns=ms:=λ{xs ns ms} h=>by
 induction h generalizing ms with
 |nil=>intro h;cases h;rfl
 |cons n t r ih=>intro h;cases h with|cons m u r'=>rw[ih r']
def TupIs.one(h1:awS)(h2:TupIs h v ms):ns=ms:=by
 refine wk h1 λx o xs n ai a1 _ a3 a4=>?_
 try clear h1
 subst ai;refine wk h2 λy o' ys n' e b1 _ b3 b4=>?_;cases e;rw[a1]at b1;cases b1;rw[a3]at b3;injection b3 with b5 _;have:xs=ys:=by simpa using b5
 subst this;exact Dm a4 b4
noncomputable def bj(h:Heap)(v:Value):aa0:=Classical.epsilon λns=>TupIs h v ns
def cv(e:awS):bj h v=ns:=(ags (p:=λns=>awS) ⟨ns,e⟩).one e
def jj.is(e:jj h v):∃ns,awS:=by
 exact Ox e λx o xs n i r h1 h2 h3 h4 h5=>⟨i::r,x,o,xs,n,h1,h2,h3,h4,h5⟩
noncomputable def rT(h:Heap)(x y:Keyed):Bool:=bO (bj h x.1) (bj h y.1)
def Mn(h:Heap):Ord (rT h):=⟨λx y=>gN _ _,λx y z=>j8 _ _ _⟩
section
variable {prog:ac7}{w:World}{A:ahp}{E:Value->Shared->Prop}{s:ab5}
def QY:∀{xs ys:ab0}{ns ms:aa0},IntsAre xs ns->IntsAre ys ms->fin=decide (xs.length<ys.length)->Q (bO ns ms) s->∀i:Nat,(b=true\/0<i)->KatLex prog w A b fin Q (xs.zip ys) i s:=λ{xs ys ns ms} h=>by
 induction h generalizing ys ms with
 |nil=>
  intro h' hf q i _;refine kat_nil ?_;subst hf;cases h' with
  |nil=>exact q
  |cons _ _ _=>simpa[bO]using q
 |cons n t r ih=>
  intro h' hf q i hi;cases h' with
  |nil=>exact kat_nil (by rw[hf];simpa[bO]using q)
  |cons m u r'=>
   refine kat_cons (afd ?_);cases e:(n==m)with
   |true=>
    have e':n=m:=by simpa using e
    unfold bO at q;rw[aaB e']at q;exact kat_yes (ih r' (by rw[hf];simp) q (i+1) (ant (acM _)))
   |false=>
    have e':¬n=m:=by simpa using e
    unfold bO at q;rw[aaF e']at q;refine kat_no ?_;by_cases h0:i=0
    .subst h0;have hb:b=true:=hi.elim id λz=>absurd z alW;subst hb;exact oneLt_int q
    .have e:(b&&i==0)=false:=by cases b<;>simp[h0]
     rw[e];exact kat_one _ _ (agV q)
def G_:om prog w A E s (tuples' true) (λp=>jj s.heap p.1) (rT s.heap):=λx y zt Q hx hy hk q=>by
 obtain⟨x1,x2⟩:=x;obtain⟨y1,y2⟩:=y;refine Ox hx λa o xs n i r ai h1 h2 h3 h4=>?_
 try clear hx
 subst ai;refine Ox hy λb o' ys n' j r' aK g1 g2 g3 g4=>?_
 try clear hy
 subst aK;have q':Q (aku (bO (i::r) (j::r'))) zt:=by
  have e1:bj s.heap ab_=i::r:=cv ⟨a,o,xs,n,rfl,h1,h2,h3,h4⟩;have e2:bj s.heap ajV=j::r':=cv ⟨b,o',ys,n',rfl,g1,g2,g3,g4⟩;have:=q;unfold rT at this;dsimp only at this;rwa [e1,e2]at this
 rw[lt'_eq];refine wpS_bind (wpS_get ?_);rw[hk];refine wpS_bind (wpS_lift (adl (kat_lt (b:=true) h1 h3 g1 g3 ?_)));have e1:xs.toArray.toList=xs:=by simp
 have e2:ys.toArray.toList=ys:=by simp
 rw[e1,e2];exact QY h4 g4 ab1 ⟨rfl,wpS_pure q'⟩ 0 ahq
def sA(ho:s.heap.get? a=some (seqObj "list" vs.toArray n))(hv:∀v∈vs,aue)(hz:at7)
  (h:∀out:ab0,aFR->out.Pairwise (λx y=>ail)->R (.done (ak6 .none)) {s with heap:=sortedHeap s.heap a vs out.toArray}):wpAny aa2 A (Builtin.«list.sort» ⟨[ab_],[]⟩) R E s:=by
 rw[list_sort_plain];have aU:a<s.heap.objs.size:=aaA ho;have eJ:∀v∈vs,∀x,v= .ref x->x≠a:=λv m x e z=>by
  obtain⟨x',o,xs,k,i,r,e',g1,g2,_⟩:=hv v m;rw[e]at e';cases e';rw[z,ho]at g1;cases g1;have g2':Value.type "list"=Value.type "tuple":=g2;injection g2' with g3;exact absurd g3 aa1
 refine aag (listItems_at ho rfl (aag (listUpdate_at ho rfl ?_ (by rw[aay];exact hz) ao3)));obtain⟨e1,Tu⟩:∃e1,(s.heap.update a (Obj.mapSeq λ_=>#[])).get? a=some (seqObj "list" #[] e1):=⟨_,get?_update_seq ho (λ_=>#[])⟩;refine aag (seqEpoch_at Tu rfl (aag (wpAny_newTuple (aag (afr (abq ?_) ao3)) (by show vs.length<=_;exact hz))));have up:∀b o,b≠a->ab2->(((s.heap.update a (Obj.mapSeq λ_=>#[])).push (seqObj "tuple" vs.toArray 0)).push (seqObj "list" #[] 0)).get? b=some o:=λb o hb e=>
  aah _ (aah _ (by rw[aaP _ _ aoB];exact e))
 have VS:(((s.heap.update a (Obj.mapSeq λ_=>#[])).push (seqObj "tuple" vs.toArray 0)).push (seqObj "list" #[] 0)).get? a=some (seqObj "list" #[] e1):=aah _ (aAr Tu);show wpAny aa2 A _ R E {s with heap:=((s.heap.update a (Obj.mapSeq λ_=>#[])).push (seqObj "tuple" vs.toArray 0)).push (seqObj "list" #[] 0)};generalize hh:((s.heap.update a (Obj.mapSeq λ_=>#[])).push (seqObj "tuple" vs.toArray 0)).push (seqObj "list" #[] 0)=h6 at up VS⊢;have X6:∀v∈vs,jj h6 v:=λv m=>by
  obtain⟨x,o,xs,k,i,r,e',g1,g2,g3,g4⟩:=hv v m;exact⟨x,o,xs,k,i,r,e',aBe,g2,g3,g4⟩
 have same:∀v∈vs,bj h6 v=bj s.heap v:=λv m=>by
  obtain⟨ns,x,o,xs,k,e',g1,g2,g3,g4⟩:=(hv v m).is;rw[cv (h:=s.heap) ⟨x,o,xs,k,e',g1,g2,g3,g4⟩];exact cv ⟨x,o,xs,k,e',aBe,g2,g3,g4⟩
 dsimp only;have ends:∀(zt:ajD) (out:ab0),(arrOf zt).map (·.2)=out.toArray->aFR->out.Pairwise (λx y=>ail)->axf->wpAny aa2 A (do
   let touched:=(<-seqEpoch a) !=e1
   Builtin.List.listUpdate ab_ λ_=>(arrOf zt).map (·.2)
   if let some e:=failedOf zt then rule "list.sort.comparison-raised";throw e
   if touched then rule "list.sort.modified";raiseError "ValueError" "list modified during sort"
   ret .none) R E {s with heap:=h6}:=λzt out e hp w_ hf=>by
  rw[e,hf];refine aag (seqEpoch_at VS rfl (aag (listUpdate_at VS rfl ?_ ao3 (by rw[aay,hp.length_eq];exact aam hz aa1))));simp only[bne_self_eq_false,aco,if_false];have:=h out hp w_;unfold sortedHeap at this;rw[hh]at this;exact aao this
 by_cases h2:vs.toArray.size<2
 .rw[aaB h2,aaB h2];refine aag (aao ?_);rw[StateT.run_pure];refine aag (aao ?_);exact ends (SortSt.mk' general' aw6 #[] 7 none) vs (uQ vs) (List.Perm.refl _) (Dl (by rw[aay]at h2;exact aaY h2)) rfl
 .rw[aaF h2,aaF h2];obtain⟨fs,k1,k2,k3⟩:=ml X6;have Tv:2<=vs.length:=by rw[aay]at h2;exact aaV h2
  refine aag (kat_kind (s:={s with heap:=h6}) (T:= .type "int") k1 (aaj (aaE Tv) (aaw (abl k3))) (λv m=>?_) rfl ?_)
  .obtain⟨i,t,rfl⟩:=k2 v m;exact Looks.now
  have zm:∀p∈vs.toArray.zip vs.toArray,p.1=p.2/\p.2∈vs:=λp m=>by
   obtain⟨i,hi,e⟩:=agx.mp m;rw[Array.getElem_zip]at e;rw[<-e];exact⟨rfl,by simp⟩
  refine aag (abJ (xa (s:={s with heap:=h6}) (κ:=tuples' true) (P:=λp=>jj h6 p.1) (r:=rT h6) (a₀:=vs.toArray.zip vs.toArray) (Q:=λ_ zt=>(arrOf zt).Perm aw6/\axf/\So (rT h6) ac4 0 (vs.toArray.zip vs.toArray).size) G_ (Mn h6) (λp m=>by rw[(zm p m).1];exact X6 _ (zm p m).2) ⟨rfl,afx _,rfl,rfl⟩ λzt g1 g2 g3=>⟨g1,g2,g3⟩) ?_ λ_ _ e=>e);rintro⟨⟨⟩,zt⟩ s' ⟨rfl,g1,g2,g3⟩;dsimp only at g1 g2 g3⊢;refine ends zt ((arrOf zt).map (·.2)).toList agJ.symm ?_ ?_ g2
  .have:=(afB.mp g1).map (λp:Keyed=>p.2);rw[afg];refine this.trans (List.Perm.of_eq ?_);have e:=congrArg Array.toList (uQ vs);rw[afg]at e;exact e
  .have hsz:(arrOf zt).size =(vs.toArray.zip vs.toArray).size :=g1.size_eq;have pw:=uX (xs:=arrOf zt) (lo:=0) (n:=(vs.toArray.zip vs.toArray).size) (by rw[abI];exact g3) (B8 (abl hsz) (aaw az1));have e0:sg ac4 0 (vs.toArray.zip vs.toArray).size =(arrOf zt).toList :=by
    unfold sg;rw[adK];exact abP (by rw[aaK,hsz];exact aas _)
   rw[e0]at pw;rw[afg,abz];refine pw.imp_of_mem λ{x y} mx my wa=>?_;obtain⟨x1,x2⟩:=zm x (g1.mem_iff.mp (acK.mp mx));obtain⟨y1,y2⟩:=zm y (g1.mem_iff.mp (acK.mp my));have:=wa;unfold le rT at this;rw[x1,y1,same _ x2,same _ y2]at this;exact this
end
abbrev Kc(x y:aa0):Prop:=bO y x=false
theorem lj(x:aa0):∀l,(AB x l).Perm (x::l)
 |[]=> .refl _
 |y::r=>by
  unfold AB;split
  .exact((lj x r).cons y).trans (.swap x y r)
  .exact .refl _
theorem aN:∀l,(bB l).Perm l
 |[]=> .refl _
 |x::r=>(lj x (bB r)).trans ((aN r).cons x)
theorem yG(x:aa0):∀l:ab3,l.Pairwise Kc->(AB x l).Pairwise Kc
 |[],_=>aeD _ _
 |y::r,h=>by
  unfold AB;rw[abV]at h;split
  .rename_i PN;refine abV.mpr ⟨λz hz=>?_,yG x r h.2⟩;rcases aat.mp ((lj x r).mem_iff.mp hz)with e|hz
   .rw[e];exact gN _ _ PN
   .exact h.1 z hz
  .rename_i PN;have QZ:bO y x=false:=by simpa using PN
   refine abV.mpr ⟨λz hz=>?_,abV.mpr h⟩;rcases aat.mp hz with e|hz
   .rw[e];exact QZ
   .exact j8 x y z QZ (h.1 z hz)
theorem gO:∀l,(bB l).Pairwise Kc
 |[]=> .nil
 |x::r=>yG x _ (gO r)
def fF(hp:l.Perm m)(hs:l.Pairwise Kc):l=bB m:=
 (hp.trans (aN m).symm).eq_of_pairwise (λa b _ _ h1 h2=>iA a b h2 h1) hs (gO m)
def xf(hp:l.Perm m):bB l=bB m:=fF ((aN l).trans hp) (gO l)
end bN
namespace L2
open PySem PySem.Spec PyProof.Rows PySem.W bN
section
variable {prog:ac7}{w:World}{A:ahp}{E:Value->Shared->Prop}{s:ab5}{d it:Addr}{es:ajv}{ep i:Nat}
def fG(hv:jj h v)(k:∀b o,ah4->ad4):bj h' v=bj h v:=by
 refine SW hv.is λns x o xs n e g1 g2 g3 g4=>?_;rw[cv (h:=h) ⟨x,o,xs,n,e,g1,g2,g3,g4⟩];exact cv ⟨x,o,xs,n,e,k x o g1,g2,g3,g4⟩
def sC(hh:af4)(lo:aoq)(r:alU)(hz:es.size<=sizeLine)(hk:∀e∈es,bN.jj s.heap e.key)
  (h:∀(h1 h':Heap) (tk c:Nat) (vs:ab0),(∀b o,ab2->arH)->(∀b o,arH->ad4)->h'.get? h1.objs.size=some {cls:= .type "list",data:= .seq vs.toArray c}->vs.Perm (awo (·.key))->vs.Pairwise (λx y=>ail)->Q aix {s with heap:=h',toks:=tk}):
  wpAny aa2 A (call (.builtin "sorted") [aEd]) Q E s:=by
 refine adp kind_sorted plain_sorted entry_sorted aqY ?_;unfold Builtin.«sorted»;refine aag (m:=checkCount "sorted" 1 1 _) (aao (aag (kdu_collect (A:=A.in1) (yC lo) hh r hz λh1 tk acc k1 it=>?_)));have hl:az0:=by rw[aaK];exact it.1
 have eq:acc.toList=es.toList.map (·.key):=by
  apply acC;intro j;rcases abx j es.size with z|z
  .have hj:aF8:=(aaj z ajf);refine aa (it.2 j acc.toList[j] (by rw[<-aba];exact aai hj)) λe e1 e2=>?_;rw[aai hj,aaC,aba,e1,e2];rfl
  .rw[aaS (aam az3 z),aaS (by simpa using z)]
 have hm:∀v∈acc.toList,∃e∈es,v=e.key:=λv m=>by
  rw[eq]at m;exact aa (akZ m) λe e1 e2=>⟨e,acK.mp e1,e2.symm⟩
 have ht:∀v∈acc.toList,aue:=λv m=>by
  refine aa (hm v m) λe e1 ai=>?_;subst ai;exact hk e e1
 have kp:∀b o,ab2->(h1.push (seqObj "list" acc.toList.toArray 0)).get? b=some o:=λb o e=>aah _ aF4;refine aag (afr ?_ (by rw[hl];exact hz));have ho:(h1.push (seqObj "list" acc.toList.toArray 0)).get? h1.objs.size=some (seqObj "list" acc.toList.toArray 0):=aav _ rfl;refine aag (abq (abt slot_list_sort ⟨_,ho,rfl⟩ entry_list_sort (bN.sA (s:={s with heap:=h1.push (seqObj "list" acc.toList.toArray 0),toks:=tk}) ho (λv m=>?_) (by rw[hl];exact hz) λout hp w_=>⟨_,rfl,aao ⟨_,rfl,?_⟩⟩) apC))
 .exact Ox (ht v m) λx o xs n i rr g0 g1 g2 g3 g4=>⟨x,o,xs,n,i,rr,g0,kp x o g1,g2,g3,g4⟩
 .have u1:=get?_update_seq ho (λ_=>#[]);have u2:=aah (seqObj "tuple" acc.toList.toArray 0) u1;have u3:=aah (seqObj "list" #[] 0) u2;have u4:=get?_update_seq u3 (λ_=>aFQ);refine h h1 _ tk _ out k1 (λb o e=>?_) u4 (by rw[<-eq];exact hp) (w_.imp_of_mem λ{x y} mx my wa=>?_)
  .have hb:arL:=aaN ajO;unfold sortedHeap;rw[aaP _ _ aoB];refine aah _ (aah _ ?_);rw[aaP _ _ aoB];exact aah _ e
  .have e1:=fG (ht x (anF mx)) kp;have e2:=fG (ht y (anF my)) kp;rw[<-e1,<-e2];exact wa
end
def Ha(I:aa4)(e:aAY):∃es ep,gE s.heap a es ep/\am9/\ahN/\ai9/\
  Paired (λ(kv:List cz×V) (v:Value)=>∃b,aph/\ao8) kvs (awo (·.key)):=by
 obtain⟨z,lo,xs,eN,o,es,ep,h1,h2,h3,h4,h5,h6⟩:=n_ I.aJ e;have hl:am9:=by
  have e1:=adC eN;have e2:=congrArg List.length h4;rw[aaK,aap]at e2;exact afF e2 (abl e1)
 refine⟨es,ep,⟨o,h1,h2,h3⟩,hl,lo,z,?_⟩;rw[h4,abc];have all:∀{l:aiR}{m:alK},KT H l m->Paired (λ(kv:List cz×V) (v:Value)=>∃b,aph/\ao8) l (m.map ((λx:DictEntry=>x.key)∘entryOfKey (tupleKind ao4))):=by
  intro l m q;induction q with
  |nil=>exact .nil
  |@cons p q ps qs hq t ih=>exact .cons ⟨q.2.1,rfl,hq.2.1⟩ ih
 exact all eN
section
variable {X:Cx}
def df(I:aa4)(h:H b=some aoW):TupIs s.heap ajV k:=by
 obtain⟨_,its,rv,o,g1,g2,⟨n,g3⟩,_⟩:=(show aO X.prog X.w H s.heap b aoW from I.aJ b _ h);exact⟨b,o,its,n,rfl,g1,g2,g3,asu⟩
def yH(e:TupIs h v k)(hk:k≠[]):jj h v:=by
 refine wk e λx o xs n h1 h2 h3 h4 h5=>?_;cases k with
 |nil=>exact absurd rfl hk
 |cons i r=>exact⟨x,o,xs,n,i,r,h1,h2,h3,h4,h5⟩
def TupAt(H:Hp)(u:V)(k:aa0):Prop:=∃b,u= .ref b/\H b=some aoW
theorem m8(I:aa4):∀{vs:ab0},(∀v∈vs,∃b k,aph/\ajE)->∃us:ad5,aD us vs/\us.length=vs.length/\Paired amU us (vs.map ajm)
 |[],_=>⟨[],.nil,rfl,.nil⟩
 |v::vs,h=>by
  refine bH (m8 I (vs:=vs) λz hz=>h z awK) λus u1 u2 u3=>eU (h v aaq) λb k ai hb=>?_;subst ai;refine⟨.ref b::us,.cons rfl u1,by rw[aaL,aaL,u2],?_⟩;rw[aaX,cv aBu];exact .cons ⟨b,rfl,hb⟩ u3
def sD(hc:af6):cu X (.builtin "sorted") (λxs H Q=>∃a kvs ks,xs=[V.ref a]/\aAY/\kvs.map (·.1)=ks.map (λk:List Int=>k.map (Sum.inl:Int->cz))/\(∀k∈ks,k≠[])/\
  ∀(l:Addr) (us:ad5),art->aDY->aqN):=by
 intro U s σ H xs us Q I r zz;refine vY zz λa kvs ks e hd F0 eJ q=>?_;subst e;refine aa anS λu ai ru=>?_;subst ai;cases ru;refine kM (Ha I hd) λes ep r1 r2 r3 r4 r5=>?_;have pk:∀{kvs:aiR}{ks:ab3}{vs:ab0},kvs.map (·.1)=ks.map (λk:List Int=>k.map (Sum.inl:Int->cz))->Paired (λ(kv:List cz×V) (v:Value)=>∃b,aph/\ao8) kvs vs->vs.map ajm=ks/\∀v∈vs,∃b,∃k∈ks,aph/\ajE:=by
  intro kvs ks vs hk p;induction p generalizing ks with
  |nil=>
   cases ks with
   |nil=>exact⟨rfl,λ_ z=>nomatch z⟩
   |cons _ _=>cases hk
  |@cons kv v kvs vs hq _ ih=>
   cases ks with
   |nil=>cases hk
   |cons k ks=>
    rw[aaX,aaX]at hk;injection hk with h1 h2;obtain⟨i1,i2⟩:=ih h2;refine aa hq λb aK hb=>?_
    try clear hq
    subst aK;rw[h1,abc]at hb;have jd:ajE:=hb;refine⟨by rw[aaX,i1,cv (df I jd)],λw hw=>?_⟩;rcases aat.mp hw with e|hw
    .exact⟨b,k,aaq,e,jd⟩
    .exact ba (i2 w hw) λb2 k2 m2 e2 g2=>⟨b2,k2,aal _ m2,e2,g2⟩
 obtain⟨p1,p2⟩:=pk F0 r5;have hI:∀v∈es.toList.map (·.key),aue:=λv m=>by
  refine ba (p2 v m) λb k mk cL hb=>?_;subst cL;exact yH aBu (eJ k mk)
 refine sC ahx r3 r1 (by rw[r2];exact r4) (λen Tw=>hI _ (amZ ⟨en,acK.mpr Tw,rfl⟩)) λh1 h' tk c vs k1 k2 e1 e2 e3=>?_;have Dn:(vs.map ajm).Perm ks:=by
  have:=e2.map ajm;rwa [p1]at this
 have Mo:vs.map ajm=bB ks:=fF Dn (abz.mpr e3);have I1:Inv X U σ H {s with heap:=h1,toks:=tk}:=I.kept (t':=tk) k1;obtain⟨us,u1,u2,u3⟩:=m8 I (vs:=vs) λv m=>by
  exact ba ay2 λb k _ e hb=>⟨b,k,e,hb⟩
 rw[Mo]at u3;have aG:vs.length=es.size:=by rw[e2.length_eq];simp
 have I2:Inv X U σ aE2 {s with heap:=h',toks:=tk}:=by
  have:=I1.laid (a:=h1.objs.size) (o:= .lst us) (t':=tk) k2 ac9 (show aO X.prog X.w _ h' _ (akx us) from⟨by rw[u2,aG,r2];exact r4,vs,c,u1,e1⟩);exact this
 exact⟨aix,_,I2,rfl,q _ us ah9 u3⟩
end
section
variable {prog:ac7}{w:World}{A:ahp}{E:Value->Shared->Prop}{s:ab5}
def sE(hT:T="list"\/T="tuple")(ho:s.heap.get? l=some o)(hc:o.cls= .type T)(hd:o.data= .seq vs.toArray n)(hz:at7)(hk:∀v∈vs,aue)
  (h:∀(h1 h':Heap) (c:Nat) (out:ab0),(∀b o,ab2->arH)->(∀b o,arH->ad4)->h'.get? h1.objs.size=some {cls:= .type "list",data:= .seq out.toArray c}->aFR->out.Pairwise (λx y=>ail)->Q aix {s with heap:=h'}):
  wpAny aa2 A (arC (.builtin "sorted")) Q E s:=by
 refine adp kind_sorted plain_sorted entry_sorted aqY ?_;unfold Builtin.«sorted»;refine aag (m:=checkCount "sorted" 1 1 _) (aao ?_);refine aag (wpAny_collect_seq l hT ho hc hd (λh1 k1=>?_) (by rw[aay];exact hz));refine aag (afr ?_ (by simpa using hz));have e0:vs.toArray.toList=vs:=by simp
 rw[e0];have x_:(h1.push (seqObj "list" vs.toArray 0)).get? h1.objs.size=some (seqObj "list" vs.toArray 0):=aav _ rfl;have kp:∀b o,ab2->(h1.push (seqObj "list" vs.toArray 0)).get? b=some o:=λb o e=>aah _ aF4;refine aag (abq (abt slot_list_sort ⟨_,x_,rfl⟩ entry_list_sort (bN.sA (s:={s with heap:=h1.push (seqObj "list" vs.toArray 0)}) x_ (λv m=>?_) hz λout hp w_=>⟨_,rfl,aao ⟨_,rfl,?_⟩⟩) apC))
 .exact Ox (hk v m) λx o xs n i rr g0 g1 g2 g3 g4=>⟨x,o,xs,n,i,rr,g0,kp x o g1,g2,g3,g4⟩
 .have u1:=get?_update_seq x_ (λ_=>#[]);have u2:=aah (seqObj "tuple" vs.toArray 0) u1;have u3:=aah (seqObj "list" #[] 0) u2;have u4:=get?_update_seq u3 (λ_=>aFQ);refine h h1 _ _ out k1 (λb o e=>?_) u4 hp (w_.imp_of_mem λ{x y} mx my wa=>?_)
  .have hb:arL:=aaN ajO;unfold sortedHeap;rw[aaP _ _ aoB];refine aah _ (aah _ ?_);rw[aaP _ _ aoB];exact aah _ e
  .have e1:=fG (hk x (anF mx)) kp;have e2:=fG (hk y (anF my)) kp;rw[<-e1,<-e2];exact wa
end
section
variable {X:Cx}
def AZ(I:aa4):∀{ks:ab3}{us:ad5}{vs:ab0},arP->aD us vs->vs.map ajm=ks/\∀v∈vs,∃b,∃k∈ks,aph/\ajE:=λ{ks us vs} h=>by
 induction h generalizing vs with
 |nil=>intro r;cases r;exact⟨rfl,λ_ z=>nomatch z⟩
 |cons hq p ih=>
  intro r;cases r with
  |cons r rs=>
   obtain⟨i1,i2⟩:=ih rs;refine aa hq λb ai hb=>?_
   try clear hq
   subst ai;cases r;refine⟨by rw[aaX,i1,cv aBu],λw hw=>?_⟩;rcases aat.mp hw with e|hw
   .exact⟨b,_,aaq,e,hb⟩
   .exact ba (i2 w hw) λb2 k2 m2 e2 g2=>⟨b2,k2,aal _ m2,e2,g2⟩
def sF:cu X (.builtin "sorted") (λxs H Q=>∃(p:Addr) (ws:ad5) (ks:ab3),am2/\(cK X.K H p ws\/cH X.K H p ws)/\Paired amU ws ks/\(∀k∈ks,k≠[])/\
  ∀(l:Addr) (us:ad5),art->aDY->aqN):=by
 intro U s σ H xs us Q I r zz;refine vY zz λp ws ks e hq hp eJ q=>?_;subst e;refine aa anS λu ai rx=>?_;subst ai;cases rx;have go:∀(T:apr) (o:Obj) (its:ab0) (n:Nat),T="list"\/T="tuple"->aEG->o.cls= .type T->o.data= .seq its.toArray n->aD ws its->its.length<=sizeLine->wpAny aa6 X.A (call (.builtin "sorted") [ahG]) aiv X.xe s:=λT o its n hT ho hc hd rv hz=>by
  obtain⟨p1,p2⟩:=AZ I hp rv;refine sE hT ho hc hd hz (λv m=>?_) λh1 h' c out k1 k2 e1 e2 e3=>?_
  .refine ba (p2 v m) λb k mk aK hb=>?_;subst aK;exact yH aBu (eJ k mk)
  .have Dn:(out.map ajm).Perm ks:=by
    have:=e2.map ajm;rwa [p1]at this
   have Mo:out.map ajm=bB ks:=fF Dn (abz.mpr e3);have I1:Inv X U σ H {s with heap:=h1}:=I.kept (t':=s.toks) k1;obtain⟨us,u1,u2,u3⟩:=m8 I (vs:=out) λv m=>by
    exact ba ay2 λb k _ e hb=>⟨b,k,e,hb⟩
   rw[Mo]at u3;have I2:Inv X U σ aE2 {s with heap:=h'}:=by
    have:=I1.laid (a:=h1.objs.size) (o:= .lst us) (t':=s.toks) k2 ac9 (show aO X.prog X.w _ h' _ (akx us) from⟨by rw[u2,e2.length_eq];exact hz,out,c,u1,e1⟩);exact this
   exact⟨aix,_,I2,rfl,q _ us ah9 u3⟩
 rcases hq with hq|hq
 .obtain⟨its,rv,⟨o,n,e1,e2,_,e3⟩,hz⟩:=I.list hq;exact go _ o its n ahq e1 e2 e3 rv (by first|exact hz|(have:=rv.length;exact aam aBO hz))
 .obtain⟨its,rv,⟨o,e1,e2,n,e3⟩,hz⟩:=I.tuple hq;exact go _ o its n aBC e1 e2 e3 rv (by first|exact hz|(have:=rv.length;exact aam aBO hz))
end
section
variable {prog:ac7}{w:World}{A:ahp}{R:Result->Shared->Prop}{I:Addr}{fp wr:ae_}{n:Nat}{P:Nat->Value->Prop}{St:Nat->Heap->Prop}
def Dp(T:Addr->Prop)(g g':Heap):Prop:=∀b o,T b->g.get? b=some o->g'.get? b=some o
def Hb(prog:ac7)(w:World)(A:ahp)(T:Addr->Prop)(g:Heap)(P:Nat->Value->Prop)(bt:Nat->Nat->Bool):Prop:=
 ∀i j x y (s:ab5) (Q:Value->ab5->Prop) (E:Value->ab5->Prop),aB3->P i x->P j y->Q (aEw (bt i j)) s->wpAny aa2 A (richCompare .Lt x y) Q E s
def Mp(W:anb)(cm:aA4)(nS:S∉fp)(hT:∀b,T b->b∉wr/\b≠S):
  ∀(m j:Nat) (s:ab5) (best:Value) (c:Nat),n-(j+1)=m->j+1<=n->St (j+1) s.heap->P (at3 j) best->aB3->s.heap.get? S=some {cls:= .type "list",dict:=none,data:= .seq #[best,best] c,slots:=#[]}->
   (∀v h' tk,P (at3 (n-1)) v->(∀b o,b∉wr->b≠S->ab2->ad4)->R (.ok (ak6 v)) {s with heap:=h',toks:=tk})->codeAny aa2 A (.builtin "min.loop" ⟨aDU,[]⟩) R s:=by
 have wS:S∉wr:=λz=>nS aDW;have nm:(toString "min"++toString ".loop":apr)="min.loop":=by decide
 intro m;induction m with
 |zero=>
  intro j s best c em ej Mq eP eT eS eR;have ON:j+1=n:=by omega
  refine acg aeK ?_;rw[aeh acr _];show wpAny _ A.in1 (seqItems? (akE S) >>= _) _ _ _;refine aag (ado eS rfl ?_);show wpAny _ A.in1 (tryCatch av5 _ >>= _) _ _ _;refine aag (aeV (W.done s _ _ (ON▸Mq) λg2 t2 k2=>?_));have Ke:=k2 S _ wS eS;show wpAny _ A.in1 (updateSeq S (λ_=>(#[]:ae2)) >>= _) _ _ _;refine aag (agB Ke rfl (aag (agb (aao ?_))));exact eR best _ t2 (by rw[<-ON];exact eP) λb o b1 b2 e=>(aaP _ _ (abF b2)).trans (k2 b o b1 e)
 |succ m ih=>
  intro j s best c em ej Mq eP eT eS eR;have ON:j+1<n:=by omega
  refine acg aeK ?_;rw[aeh acr _];show wpAny _ A.in1 (seqItems? (akE S) >>= _) _ _ _;refine aag (ado eS rfl ?_);show wpAny _ A.in1 (tryCatch av5 _ >>= _) _ _ _;refine aag (aeV (W.item (j+1) s _ _ ON Mq λv g2 t2 p2 cP k2=>?_));have Ke:=k2 S _ wS eS;have Q0:Dp T g g2:=λb o tb e=>k2 b o (hT b tb).1 (eT b o tb e);show wpAny _ A.in1 (tryCatch (holding [v,v] (richCompare .Lt v best >>= _)) _ >>= _) _ _ _;refine aag (aeV (abq (aag (cm (j+1) (at3 j) v best _ _ _ Q0 p2 eP ?_))));refine aag (abq (acA (aag (agb (aao ?_)))));cases eb:bt (j+1) (at3 j)with
  |true=>
   rw[aaB rfl];refine aag (agB Ke rfl (aag (agb ?_)));rw[nm];refine aao ⟨api,ih (j+1) _ v _ aa3 ON (W.frame _ _ _ cP λb bf o e=>?_) (by simp only[argBest,eb,if_true];exact p2) (λb o tb e=>?_) (abu _ Ke rfl) λv3 g3 t3 p3 k3=>?_⟩
   .exact(aaP _ _ (λz:S=b=>nS (by rw[z];exact bf))).trans e
   .exact(aaP _ _ aGs).trans (Q0 b o tb e)
   .exact eR v3 g3 t3 p3 λb o b1 b2 e=>k3 b o b1 b2 ate
  |false=>
   rw[aaF aan];refine aag (agb ?_);rw[nm];refine aao ⟨api,ih (j+1) _ best c aa3 ON cP (by simp only[argBest,eb,aco,if_false];exact eP) Q0 Ke λv3 g3 t3 p3 k3=>?_⟩;exact eR v3 g3 t3 p3 λb o b1 b2 e=>k3 b o b1 b2 (k2 b o b1 e)
def Hc(W:anb)(cm:aA4)(nS:S∉fp)(hT:∀b,T b->b∉wr/\b≠S)(n0:0<n)(Mq:St 0 s.heap)(eT:aB3)(eS:s.heap.get? S=some {cls:= .type "list",dict:=none,data:= .seq #[] c,slots:=#[]})
  (eR:∀v h' tk,P (at3 (n-1)) v->(∀b o,b∉wr->b≠S->ab2->ad4)->R (.ok (ak6 v)) {s with heap:=h',toks:=tk}):codeAny aa2 A (.builtin "min.loop" ⟨aDU,[]⟩) R s:=by
 have wS:S∉wr:=λz=>nS aDW;have nm:(toString "min"++toString ".loop":apr)="min.loop":=by decide
 refine acg aeK ?_;rw[aeh acr _];show wpAny _ A.in1 (seqItems? (akE S) >>= _) _ _ _;refine aag (ado eS rfl ?_);show wpAny _ A.in1 (tryCatch av5 _ >>= _) _ _ _;refine aag (aeV (W.item 0 s _ _ n0 Mq λv g2 t2 p2 cP k2=>?_));have Ke:=k2 S _ wS eS;have Q0:Dp T g g2:=λb o tb e=>k2 b o (hT b tb).1 (eT b o tb e);show wpAny _ A.in1 (updateSeq S (λ_=>(#[v,v]:ae2)) >>= _) _ _ _;refine aag (agB Ke rfl ?_);rw[nm];refine aao ⟨api,Mp W cm nS hT _ 0 _ v _ rfl n0 (W.frame _ _ _ cP λb bf o e=>?_) p2 (λb o tb e=>?_) (abu _ Ke rfl) λv3 g3 t3 p3 k3=>?_⟩
 .exact(aaP _ _ (λz:S=b=>nS (by rw[z];exact bf))).trans e
 .exact(aaP _ _ aGs).trans (Q0 b o tb e)
 .exact eR v3 g3 t3 p3 λb o b1 b2 e=>k3 b o b1 b2 ate
end
section
variable {prog:ac7}{w:World}{A:ahp}{E:Value->Shared->Prop}{s:ab5}
theorem A0
  (h:wpAny aa2 A.in1 (aG5 x) (λit s2=>∃I fp wr n P St bt,it= .ref I/\anb/\St 0 s2.heap/\(∀b∈fp,auo)/\0<n/\Hb prog w A.in1 T s2.heap P bt/\(∀b,T b->b∉wr/\auo)/\
   ∀v h' tk,P (at3 (n-1)) v->(∀b o,b∉wr->aCZ->ad4)->Q v {s2 with heap:=h',toks:=tk}) E s):wpAny aa2 A (call (.builtin "min") [x]) Q E s:=by
 have nm:(toString "min"++toString ".loop":apr)="min.loop":=by decide
 refine call_function_tree PySem.F.kind_min PySem.F.plain_min PySem.F.entry_min (PySem.F.args_min1 _) ?_;show wpAny _ A.in1 (Builtin.Builtins.bindParams "min" ["key","default"] 0 ⟨[],[]⟩ >>= _) _ _ _;refine aag (aeP (show Builtin.Builtins.bindParams "min" ["key","default"] 0 ⟨[],[]⟩=pure [none,none] from rfl) (aag (aao (aag (abJ h (λit s2 z=>?_) λ_ _ e=>e)))));refine Zm z λI fp wr n P St bt ai W Mq efp n0 cm eT q=>?_
 try clear z
 subst ai;refine aag (abf ?_);have nS:s2.heap.objs.size∉fp:=λhm=>abi _ (efp _ hm);rw[nm];refine aao ⟨api,Hc W cm nS (λb tb=>⟨(eT b tb).1,aaN (eT b tb).2⟩) n0 (W.frame _ _ _ Mq λb _ o e=>aiY) (λb o _ e=>aiY) ag6 λv h' tk p k=>?_⟩;exact q v h' tk p λb o b1 e=>k b o b1 ayz aiY
end
end L2
namespace bN
theorem qI:∀(l:ab3) (a b:aa0),jR a (l++[b])=if bO b (jR a l) then b else jR a l
 |[],a,b=>rfl
 |x::l,a,b=>qI l _ b
theorem uY:∀(l:ab3) (a:aa0),jR a l∈a::l
 |[],a=>aar.mpr rfl
 |b::l,a=>by
  rw[jR];rcases aat.mp (uY l (if bO b a then b else a))with h|h
  .rw[h];split
   .exact aal _ aaq
   .exact aaq
  .exact aal _ (akQ h)
theorem yI:∀(l:ab3) (a:aa0),∀x∈a::l,Kc (jR a l) x
 |[],a,x,h=>by
  rw[aar.mp h];show bO a a=false;cases e:bO a a with
  |false=>rfl
  |true=>have:=gN a a e;rw[e]at this;cases this
 |b::l,a,x,h=>by
  rw[jR];have ih:=yI l (if bO b a then b else a);have h0:=ih _ aaq;rcases aat.mp h with h|h
  .rw[h];cases e:bO b a with
   |true=>
    rw[e]at h0;exact j8 _ _ _ h0 (gN _ _ e)
   |false=>rw[e]at h0;exact h0
  .rcases aat.mp h with h|h
   .rw[h];cases e:bO b a with
    |true=>rw[e]at h0;exact h0
    |false=>
     rw[e]at h0;exact j8 _ _ _ h0 e
   .exact ih x (akQ h)
theorem j9(val:Nat->aa0):∀(k:Nat) (l:ab3),(∀i,i<k->l[i]?=some (val (i+1)))->val (PySem.argBest (λi j=>bO (val i) (val j)) k)=jR (val 0) (l.take k)
 |0,l,_=>rfl
 |k+1,l,h=>by
  have hk:=h k (abY k);have ih:=j9 val k l λi hi=>h i (acB hi);have e:l.take (k+1)=l.take k++[val (k+1)]:=by rw[List.take_add_one,hk];rfl
  rw[e,qI,<-ih];show val (if bO (val (k+1)) (val (PySem.argBest _ k))=true then k+1 else PySem.argBest _ k)=_;split<;>rfl
end bN
namespace L2
open PySem PySem.Spec PyProof.Rows PySem.W bN
theorem yJ:∀u v:aa0,HT.lexLt u v=bO u v
 |[],[]=>rfl
 |[],_::_=>rfl
 |_::_,[]=>rfl
 |x::u,y::v=>by
  show(if x=y then HT.lexLt u v else decide (x<y))=if x=y then bO u v else decide (x<y)
  rw[yJ u v]
section
variable {X:Cx}
def d_:∀{us:ad5}{ks:ab3}{vs:ab0},arP->aD us vs->∀(i:Nat) (v:Value),vs[i]?=some v->∃b u,aph/\us[i]?=some u/\u= .ref b/\H b=some (akJ ((ks.getD i []).map V.int)):=λ{us ks vs} h=>by
 induction h generalizing vs with
 |nil=>intro r i v h;cases r;simp at h
 |cons hq p ih=>
  intro r i v h;cases r with
  |cons r rs=>
   cases i with
   |zero=>
    refine aa hq λb ai hb=>?_
    try clear hq
    subst ai;cases r;have h':Value.ref b=v:=by simpa using h
    exact⟨b,ajV,h'.symm,rfl,rfl,hb⟩
   |succ i=>exact iq (ih rs i v (by simpa using h)) λb u e1 e2 e3 e4=>⟨b,u,e1,by simpa using e2,e3,by simpa using e4⟩
def A1(hc:af6)(hu:af1):cu X (.builtin "min") (λxs H Q=>∃(p:Addr) (ws:ad5) (k:aa0) (ks:ab3),am2/\cK X.K H p ws/\Paired amU ws (k::ks)/\∀u,TupAt H u (jR k ks)->Q u H):=by
 intro U s σ H xs us Q I r zz;refine O1 zz λp ws k ks e hq hp q=>?_;subst e;refine aa anS λu ai rx=>?_;subst ai;cases rx;refine bH akW λits rv pl hz=>?_;have hl:s.heap.IsList p its.toArray:=pl.isList;have aU:p<s.heap.objs.size:=by obtain⟨_,e,_⟩:=hl;exact aaA e
 have len:its.length=ks.length+1:=by
  have h1:=rv.length;have h2:=adC hp;rw[aaL]at h2;exact afF (abl h1) h2
 have best:(k::ks).getD (argBest (λi j=>ald) ks.length) []=jR k ks:=by
  have:=j9 (λi=>(k::ks).getD i []) ks.length ks (λi hi=>by simp[hi]);simpa using this
 refine A0 (T:=λb=>∃i,aDf/\its[i]?=some ajV) (acO hl ?_);have xW:∀b,(∃i,aDf/\its[i]?=some (aG_ b))->b<s.heap.objs.size:=λb zz=>by
  refine aa zz λi _ hi=>iq (d_ hp rv i _ hi) λb' _ e1 _ _ e4=>?_;cases e1;refine KY (df I e4) λx o xs n e g1 _=>?_;cases e;exact aaA g1
 refine⟨_,[_,p],[_],_,_,_,_,rfl,ahl (A:=X.A.in1) ahx s.heap.objs.size p az5 its.toArray,at4,λb hb=>?_,by rw[aay];lia,(λi j x y s' Q' E' st hx hy hQ=>?_:Hb X.prog X.w X.A.in1 _ _ _ (λi j=>ald)),λb hb=>⟨λz=>?_,?_⟩,λv h' tk hP hk=>?_⟩
 .show b<(s.heap.push _).objs.size;rw[acj];rcases aat.mp hb with rfl|hb
  .exact abY _
  .rw[aar.mp hb];exact acB aU
 .have yK:its[i]?=some x:=by simpa using hx
  have FU:its[j]?=some y:=by simpa using hy
  refine iq (d_ hp rv i x yK) λb _ aK _ _ eb=>?_;subst aK;refine iq (d_ hp rv j y FU) λc _ cL _ _ ec=>?_;subst cL;have ib:aDf:=(aax.mp yK).1;have jb:j<its.length:=(aax.mp FU).1;refine wk (df I eb) λb' o xs n e g1 g2 g3 g4=>?_;cases e;refine wk (df I ec) λc' o2 ys m e f1 f2 f3 f4=>?_;cases e;have s1:=st b o ⟨i,ib,yK⟩ (aAr g1);have s2:=st c o2 ⟨j,jb,FU⟩ (aAr f1);refine HT.wB (items:=xs.toArray) (items2:=ys.toArray) ⟨o,s1,g2,n,g3⟩ ⟨o2,s2,f2,m,f3⟩ (by simpa using g4) (by simpa using f4) ?_ (by rw[yJ];exact hQ);show X.A.units+1<cLine;lia
 .rw[aar.mp z]at hb;exact absurd (xW _ hb) alW
 .show b<(s.heap.push _).objs.size;rw[acj];exact acB (xW b hb)
 .rw[aay,len,Nat.add_sub_cancel]at hP;have qd:its[argBest (λi j=>ald) ks.length]?=some v:=by simpa using hP
  refine iq (d_ hp rv _ v qd) λb u ot _ _ eb=>?_;subst ot;rw[best]at eb;refine⟨ajV,H,I.kept λb2 o e=>hk b2 o (λz=>?_) aiY,rfl,q _ ⟨b,rfl,eb⟩⟩;rw[aar.mp z]at e;exact absurd ajO alW
end
end L2
namespace PySem
namespace F
def Dq:mroOf (.type "reversed")=pure [.type "reversed",.type "object"]:=by rw[mroOf_type];kernel_rfl
def Mr:typeLookup (.type "reversed") "__new__"=pure (aku (.builtin "reversed.__new__")):=by rw[typeLookup_type,builtinLookup_eq_fast];kernel_rfl
def Hd:Slot "reversed" "__init__" "object.__init__":= .of (owner:="object") (n:="__init__") (by rw[typeLookup_type,builtinLookup_eq_fast];kernel_rfl) aa8 aa8 aa8 (by first|exact .inl aa8|exact .inr aa8) (by rw[isSubtype_type];kernel_rfl)
def A2:TypeCalled "reversed" "reversed.__new__" "object.__init__":=
 ⟨by decide +kernel,by decide +kernel,⟨_,_,Dq⟩,madeBy_type Dq Mr aa8,by decide +kernel,by rw[isSubtype_type];kernel_rfl,Hd⟩
def Q1(a:Value):checkTypeCall "reversed" ⟨[a],[]⟩=pure ():=by kernel_rfl
def Q2(a:Value):checkBuiltinCall "reversed.__new__" ⟨[.type "reversed",a],[]⟩=pure ():=by kernel_rfl
def Dr:entryFor table "reversed.__new__"=some Builtin.«reversed.__new__»:=entryFor_of_tree (by kernel_rfl)
def j_:Slot "reversed" "__next__" "reversed.__next__":= .of (owner:="reversed") (n:="__next__") (by rw[typeLookup_type,builtinLookup_eq_fast];kernel_rfl) aa8 aa8 aa8 (by first|exact .inl aa8|exact .inr aa8) (by rw[isSubtype_type];kernel_rfl)
def iZ:entryFor table "reversed.__next__"=some Builtin.«reversed.__next__»:=entryFor_of_tree (by kernel_rfl)
def He:typeLookup (.type "tuple") "__reversed__"=pure none:=by rw[typeLookup_type,builtinLookup_eq_fast];kernel_rfl
def Mt:isSubtype (.type "reversed") (.type "reversed")=pure true:=by rw[isSubtype_type];kernel_rfl
def yL:Slot "reversed" "__iter__" "reversed.__iter__":= .of (owner:="reversed") (n:="__iter__") (by rw[typeLookup_type,builtinLookup_eq_fast];kernel_rfl) aa8 aa8 aa8 (by first|exact .inl aa8|exact .inr aa8) (by rw[isSubtype_type];kernel_rfl)
def qf:entryFor table "reversed.__iter__"=some Builtin.«dict_keyiterator.__iter__»:=entryFor_alias (id':="dict_keyiterator.__iter__") (by kernel_rfl) (by first|rfl|decide +kernel|(unfold String.splitOn;simp +decide [String.splitOnAux])) aa8 (by kernel_rfl)
end F
def A3(a:Value):argsOk "reversed.__iter__" ⟨[a],[]⟩:=by unfold argsOk;kernel_rfl
def qJ(a:Value):argsOk "reversed.__next__" ⟨[a],[]⟩:=by unfold argsOk;kernel_rfl
end PySem
namespace L2
open PySem PySem.Spec PyProof.Rows
open AutoSeq1 (wpAny_loadPart')
noncomputable abbrev Hf(l:Addr)(i:Int):Obj:={cls:= .type "reversed",data:= .fields #[aic,rawInt i]}
def Ds(l:Addr)(items:ae2)(n:Nat)(GL:ahQ)(sl:apw):
  Meets (Builtin.«reversed.__new__» ⟨[.type "reversed",aic],[]⟩) (λ_ R s=>s.heap.get? l=some {cls:= .type "tuple",dict:=GL,data:= .seq items n,slots:=sl}/\items.size<2 ^ 62/\
   ∀tk,R (.ok (ak6 ab6)) {s with heap:=s.heap.push (Hf l ((items.size:Int)-1)),toks:=tk}):=
 .of_wp λprog w A R s h=>by
  obtain⟨hp,g,d,tk,os⟩:=s;obtain⟨hl,hz,h⟩:=h;have sb:=F.Mt;have no:=F.He;have hT:Shared.TypeIs ⟨hp,g,d,tk,os⟩ aic "tuple":=⟨_,hl,rfl⟩;have nd:isSubtype (.type "tuple") (.type "dict")=pure false:=by rw[isSubtype_type];kernel_rfl
  have gi:=F.slot_tuple_getitem.lookup;have hL:IsTup auQ l items:=⟨_,hl,rfl,n,rfl⟩;have GQ:(items.size:Int)<2 ^ 63:=by lia
  wp_walk using acS hl,PyProof.Rows.len_tuple hL GQ;exact⟨_,rfl,h _⟩
section
variable {prog:ac7}{w:World}{A:ahp}{E:Value->Shared->Prop}{s:ab5}
def uZ(h:Heap)(it l:Addr)(i:Int):Prop:=∃o,arI/\o.cls= .type "reversed"/\o.data= .fields #[aic,rawInt i]
def uZ.ty(r:aw7):s.TypeIs ad8 "reversed":=let ⟨o,e,c,_⟩:=r;⟨o,e,c⟩
def Hg(hL:atD)(hz:items.size<2 ^ 62)
  (h:∀tk,Q ab6 {s with heap:=s.heap.push (Hf l ((items.size:Int)-1)),toks:=tk}):
  wpAny aa2 A (arC (.type "reversed")) Q E s:=by
 refine OY λnO=>?_;obtain⟨⟨c,GL,dt,sl⟩,hl,hc,n,hd⟩:=hL;have kN:c= .type "tuple":=hc;have jC:dt= .seq items n:=hd;subst kN jC;refine nO ?_;refine callType_new F.A2 aa1 (F.Q1 _) (F.Q2 _) (λobj=>afm obj _) F.Dr (Ds l items n GL sl) ⟨hl,hz,λtk=>?_⟩;exact⟨asm,h tk⟩
def yM(st:aw7)(h:Q ad8 s):aww:=by
 refine aeQ st.ty F.yL (abt F.yL st.ty F.qf ?_ (A3 _));show wpAny _ _ (ret ad8) _ _ s;exact aao ⟨_,rfl,"reversed",_,st.ty,F.j_.lookup,h⟩
def Hh{i:Nat}(st:aw7)(hl:atD)(hx:items[i]?=some x)(hz:items.size<2 ^ 62)
  (hQ:∀h' tk,uZ h' it l ((i:Int)-1)->ajX->Q (aku x) {s with heap:=h',toks:=tk}):aie:=by
 have T:=st.ty;refine bH (id st) λo ho hc hd=>?_;have TL:s.TypeIs aic "tuple":=let ⟨ol,a,b,_⟩:=hl;⟨ol,a,b⟩;have hi:aDg:=(abW.mp hx).1;unfold pyNext;refine aag (adl (abG (name:=Str.ofString "__next__") T F.j_ (abt F.j_ T F.iZ ?_ (qJ _))));show wpAny _ _ (field ad8 0 >>= _) _ _ s;refine aag (ace ho hd (x:= .ref l) rfl ?_);show wpAny _ _ (field ad8 1 >>= _) _ _ s;refine aag (ace ho hd (x:= .int i 0) rfl ?_);show wpAny _ _ (if((i:Nat):Int)<0 then _ else _) _ _ s;rw[aaF axs];have gi:=F.slot_tuple_getitem.lookup;refine aag (aez TL gi ?_);show wpAny _ _ (mkInt ((i:Nat):Int) >>= _) _ _ s;refine aag (wpAny_mkInt ?_);refine aag (adl (PyProof.Rows.getItem_tuple (j:=i) (x:=x) (s:={s with toks:=s.toks+1}) hl alB (by lia) (by unfold seqIndex?;simp;exact Uz hi) hx ?_));show wpAny _ _ (field ad8 1 >>= _) _ _ {s with toks:=s.toks+1};refine aag (ace ho hd (x:= .int i 0) rfl ?_);show wpAny _ _ (setField ad8 1 (auU ((i:Int)-1)) >>= _) _ _ {s with toks:=s.toks+1};refine aag (abR ho hd ab1 (aao ⟨x,rfl,aao (hQ _ _ ⟨_,abu _ ho awa,(adZ ..).trans hc,?_⟩ (abA ..))⟩));rw[aby hd];simp[rawInt]
def Mu(hh:af4)(st:uZ s.heap it l (-1))(hQ:∀h',akk->Q none {s with heap:=h'}):aie:=by
 have T:=st.ty;refine bH (id st) λo ho hc hd=>?_;unfold pyNext;refine aag (adl (abG (name:=Str.ofString "__next__") T F.j_ (abt F.j_ T F.iZ ?_ (qJ _))));show wpAny _ _ (field ad8 0 >>= _) _ _ s;refine aag (ace ho hd (x:= .ref l) rfl ?_);show wpAny _ _ (field ad8 1 >>= _) _ _ s;refine aag (ace ho hd (x:= .int (-1) 0) rfl ?_);refine aag (adx (aag ?_));refine aag (m:=setField ad8 1 (auU (-1))) (abR ho hd ab1 ?_);have Tu:(s.heap.update it (apA (·.setIfInBounds 1 (auU (-1))))).get? it=some (Obj.mapFields (·.setIfInBounds 1 (auU (-1))) o):=abu _ ho awa;refine abR Tu (aby hd _) ab1<|aag ?_;unfold Builtin.SmallTypes.stopIteration;refine aag ?_;simp only[newExc,newTuple];refine aag (abf ?_ (by size_fits));refine aag (m:=firstArgMember _ _) (aeP (a:=Value.none) (by first|rfl|(simp only[firstArgMember];rfl)) ?_);refine abf ?_ (by size_fits);simp only[raiseNew];refine aag (afq ?_)
 first|rw[show A.in1.handled=none from hh]|rw[hh]
 refine aag (aao (agc ?_));refine aag (aem (T:="StopIteration") (b:=true) ⟨_,ag6,rfl⟩ isSubtype_stop ?_);exact aao (hQ _ ((((abA ..).trans (abA ..)).extBut.push _).push _))
end
noncomputable def Q3(K:ay)(a:Addr)(n:Nat):It:=
 ⟨λi H=>∃xs,ajW/\aFy/\i<n,λi H x H'=>H'=H/\∀xs,ajW->xs[n-1-i]?=some x,λi H=>i=n⟩
def Hi{K:ay}(a it:Addr)(n:Nat):rE P w K tg (Q3 K a n) [it] it (λi h=>uZ h it a ((n:Int)-1-i)) where
 mem:=by simp
 obj:=λi h st b hb=>by
  have e:b=it:=by simpa using hb
  subst e;exact bH st λo e c d=>⟨o,e,λv z=>by rw[d]at z;cases z⟩
 keep:=λi h h' st k=>let ⟨o,e,r⟩:=st;⟨o,k it ab1 o e,r⟩
 item:=by
  intro X hP hw hK hc i U s σ H E I hf st hg;subst hP hw hK;refine bH hg λxs hq hl hi=>bH an1 λits rv p hz=>tT ajN λf0 f1 f2 f3 f4 f5=>?_;have hj:n-1-i<xs.length:=(B8 aFe (Zo hi));refine aa (rv.get (aai hj)) λu hu ru=>?_;have len:=rv.length;have ei:(n:Int)-1-i=((n-1-i:Nat):Int):=(Uw hi);rw[ei]at st;refine Hh st p (x:=u) (by simpa using hu) (by rw[aay];rw[sizeLine_eq]at hz;lia) λh' tk au sb=>?_;have I1:Inv X U σ H {s with heap:=h',toks:=tk}:=I.turned (t':=tk) (λb o hb e=>apy) f0 f1 f3 f4 f5;refine bH (id au) λo e c d=>⟨u,rfl,qr (s:={s with heap:=h',toks:=tk}) e c d aa1 ⟨xs[n-1-i],H,I1,ru,⟨rfl,λys hy=>by rw[I.kU hy hq];exact aai hj⟩,?_,λb hb=>arx⟩⟩;have e2:(n:Int)-1-((i+1:Nat):Int)=((n-1-i:Nat):Int)-1:=by lia
  rw[e2];exact au
 done:=by
  intro X hP hw hK hc i U s σ H E I hf st hg;subst hP hw hK;have hg:i=n:=hg;subst hg;refine tT ajN λf0 f1 f2 f3 f4 f5=>?_;have ei:(i:Int)-1-i= -1:=by lia
  rw[ei]at st;exact Mu ahx st λh' eb=>⟨rfl,I.turned (t':=s.toks) (λb o hb e=>apm) f0 f1 f3 f4 f5⟩
 self:=λ_ _ _ _ _ st h=>yM st h
section
variable {X:Cx}{tg:Expr}
def iRv(K:ay)(ta:TA):TI:=λσ H R=>ta σ H λvs H1=>∃a xs,vs=[ab_]/\aDw/\R (Q3 K a xs.length) H1
def Q4{p pos:Pos}(hg:Gl X "reversed")(hm:X.mg "reversed"=none)(ha:aGE)(hs:ahJ):PI X tg (alv (.Name "reversed" p)) (iRv X.K ta):=by
 intro U s σ H R I h;refine Call_ (jc I hg hm boot_reversed (acG (bF ah7 λus s1 ⟨vs,H1,I1,r1,q1⟩=>?_) hs rfl));refine OY λnO=>ba q1 λl xs e hq q=>?_;subst e;refine aa (vals1 r1) λu ai rx=>?_;subst ai;cases rx;refine bH (I1.tuple hq) λits rv pl hz=>nO ?_;have len:=rv.length;refine Hg pl (by rw[aay];rw[sizeLine_eq]at hz;lia) λtk=>?_;have es:((its.toArray.size:Nat):Int)-1=(xs.length:Int)-1-((0:Nat):Int):=by rw[aay,len];exact Int.le_antisymm (Int.le_add_of_nonneg_right aa1) (agI (Int.add_lt_add_left aa1 _))
 have st:uZ (s1.heap.push (Hf l ((its.toArray.size:Int)-1))) s1.heap.objs.size l ((xs.length:Int)-1-((0:Nat):Int)):=⟨_,ag6,rfl,by rw[es]⟩;refine yM (s:={s1 with heap:=s1.heap.push (Hf l ((its.toArray.size:Int)-1)),toks:=tk}) st ?_;refine⟨aia,[aia],_,_,H1,rfl,I1.kept (t':=tk) λb o e=>aiY,Hi l _ xs.length,st,λb hb=>?_,q⟩;have e:apq:=by simpa using hb
 subst e;exact I1.ui ac9 ah9
end
open PySem.W
noncomputable def VT(a:Addr)(o:Obj)(kvs:ap4):It:=
 ⟨λi H=>ap5/\asw,λi H x H'=>H'=H/\(kvs[i]?).map (λkv=>kv.2)=some x,λi H=>ap5/\i=kvs.length⟩
def sG{σ:St}(I:aa4)(e:ap5)(hd:ajt):
  (a==sysModules)=false/\∃vs,alL/\s.heap.DictAt ao4 a vs ep:=by
 obtain⟨z,lo,vs,eN,o',wo,JH,h1,h2,h3,h4,h5,h6⟩:=jZ I.aJ (ant ⟨o,e⟩);have ho:aj7:=(show aO X.prog X.w H s.heap a ahU from I.aJ a _ e).1;rw[ho]at h1;cases h1;rw[hd]at h3;cases h3;exact⟨lo,vs,eN,o,es,ho,h2,hd,h4,h5,h6⟩
def Q5{κ:Type}[DecidableEq κ]{kvs:ak0}{vs:axA}(r:alL){i:Nat}(hi:asw):∃k v,vs[i]?=some (k,v)/\RelV kvs[i].2 v:=by
 unfold KV at r;induction r generalizing i with
 |nil=>exact absurd hi alz
 |@cons p q ps qs hq t ih=>
  cases i with
  |zero=>exact⟨q.1,q.2,rfl,hq.2⟩
  |succ i=>
   exact eU (ih (i:=i) (by simpa using hi)) λk v h1 h2=>⟨k,v,by simpa using h1,by simpa using h2⟩
def Hj{K:ay}{tg:Expr}(a it:Addr)(eJ:a≠it)(o:Obj)(kvs:ap4)(es:ajv)(ep:Nat)(hd:ajt):rE P w K tg (VT a o kvs) [it] it (λi h=>h.IsValIter it a i kvs.length ep) where
 mem:=by simp
 obj:=λi h st b hb=>by
  have e:b=it:=by simpa using hb
  subst e;exact bH st λo e c d=>⟨o,e,λv z=>by rw[d]at z;cases z⟩
 keep:=λi h h' st k=>let ⟨o,e,r⟩:=st;⟨o,k it ab1 o e,r⟩
 item:=by
  intro X hP hw hK hc i U s σ H E I hf st hg;subst hP hw hK;obtain⟨e1,e2⟩:=hg;obtain⟨_,vs,eN,hm⟩:=sG I e1 hd;refine tT ajN λf0 f1 f2 f3 f4 f5=>eU (Q5 eN e2) λk v n1 n2=>?_;rw[eN.length]at st;refine wpAny_pyNext_values_item st hm n1 λh' k' hs=>?_;have I1:Inv X U σ H {s with heap:=h'}:=I.turned (t':=s.toks) (λb o hb e=>aG0) f0 f1 f3 f4 f5;exact bH (id k') λoi g1 g2 g3=>⟨_,rfl,qr (s:={s with heap:=h'}) g1 g2 g3 aa1 ⟨_,H,I1,n2,⟨rfl,by rw[aai e2];rfl⟩,by rw[eN.length];exact k',λb hb=>arx⟩⟩
 done:=by
  intro X hP hw hK hc i U s σ H E I hf st hg;subst hP hw hK;obtain⟨e1,e2⟩:=hg;obtain⟨_,vs,eN,hm⟩:=sG I e1 hd;refine tT ajN λf0 f1 f2 f3 f4 f5=>?_;rw[eN.length]at st;exact wpAny_pyNext_values_end ahx st hm (by rw[aaS];rw[<-eN.length,e2];exact aas _) λh' eb=>⟨rfl,I.turned (t':=s.toks) (λb o hb e=>apm) f0 f1 f3 f4 f5⟩
 self:=λ_ _ _ _ _ st h=>wpAny_pyIter_valiter st h
section
variable {X:Cx}{tg:Expr}
def iDv(tl:TE):TI:=λσ H R=>tl σ H λx H1=>∃a o kvs,akb/\H1 a=some ahU/\R (VT a o kvs) H1
def Q6{ap cp:Pos}(hl:PE X l tl)(jL:attributeBase l "values" X.env (aky l)=eval l X.env)(jM:ap1):PI X tg (auX (.Attribute l "values" ap)) (iDv tl):=by
 intro U s σ H R I h;refine wpAny_Call_method0_late jL jM (bF aDi λv s1 zz=>?_);refine ba zz λx H1 I1 r1 q1=>cx q1 λa o kvs e hq q=>?_;subst e;cases r1;refine c6 (C6 I1 (akN ⟨kvs,.inr ⟨o,hq⟩⟩)) λt1 t2 t3=>?_;have ho:aC0:=(show aO X.prog X.w H1 s1.heap a ahU from I1.aJ a _ hq).1;obtain⟨es,ep,hd⟩:∃es ep,o.data= .dict es ep:=by
  obtain⟨_,_,_,_,o',wo,JH,h1,h2,h3,_⟩:=jZ I1.aJ (ant ⟨o,hq⟩);rw[ho]at h1;cases h1;exact⟨wo,JH,h3⟩
 obtain⟨_,vs,eN,hm⟩:=sG I1 hq hd;refine⟨"dict",_,age,afS,PySem.F.type_dict_values,t1,t2,adf rfl (agW ?_)⟩;refine call_meetsIn afS t1 PySem.F.entry_dict_values (PySem.F.args_dict_values_1 _) (meets_dict_values ao4 a t3) ⟨⟨vs,?_⟩,?_⟩
 .exact iq (id hm) λo' wo h1 h2 h3 r=>⟨o',wo,ep,h1,h2,h3,r⟩
 .show wpAny _ _ (aG5 (akE s1.heap.objs.size)) _ _ _;have I2:Inv X U σ H1 {s1 with heap:=s1.heap.push {cls:= .type "dict_values",data:= .fields #[ab_]}}:=I1.kept (t':=s1.toks) λb o e=>aah _ e;obtain⟨_,vs2,VU,VV⟩:=sG I2 hq hd;refine wpAny_pyIter_values (s:={s1 with heap:=s1.heap.push {cls:= .type "dict_values",data:= .fields #[ab_]}}) ⟨_,ag6,rfl,rfl⟩ VV ?_;have alt:a<(s1.heap.push {cls:= .type "dict_values",data:= .fields #[ab_]}).objs.size :=aaA (aAr ho);refine⟨_,[(s1.heap.push {cls:= .type "dict_values",data:= .fields #[ab_]}).objs.size],_,_,H1,rfl,I2.kept (t':=s1.toks) λb o e=>aiY,Hj a _ (aaN alt) o kvs es ep hd,⟨_,ag6,rfl,by rw[VU.length];rfl⟩,λb hb=>?_,q⟩;have e:b=(s1.heap.push {cls:= .type "dict_values",data:= .fields #[ab_]}).objs.size :=by simpa using hb
  subst e;exact I2.ui ac9 (I2.aJ.fresh ac9)
end
end L2
namespace L2
open PySem PySem.Spec PyProof.Rows
def qK:entryFor table "dict.update.loop"=some Builtin.«dict.update.loop»:=entryFor_of_tree (by kernel_rfl)
def iB:plainId "dict.update.loop"=true:=by decide +kernel
def A4{prog:ac7}{w:World}{A:ahp}{E:Value->Shared->Prop}{s:ab5}{a:Addr}{xs:ae2}{k:Nat}{sl:apw}{Q:ae6->Shared->Prop}
  (hx:s.heap.get? a=some {cls:= .type "list",dict:=none,data:= .seq xs k,slots:=sl}) (hA:af4)
  (h:∀h' tk,(∀b ob,aC2->h'.get? b=some ob)->Q none {s with heap:=h',toks:=tk}):
  wpAny aa2 A (getAttr? (.ref a) "keys") Q E s:=by
 obtain⟨hp,g,d,tk,os⟩:=s;have hT:∀X7,(⟨hp,g,d,X7,os⟩:ab5).TypeIs ab_ "list":=λ_=>⟨_,hx,rfl⟩;have f1:=sub_AttributeError;have f3:=aeu.lookup;have f4:=aeu.bind ab_;have f5:=am_list_getattr_none;unfold getAttr? getAttrBy? getAttrBy
 repeat (any_goals (first|assumption|exact hT _|((with_reducible show wpAny _ _ (call (Value.builtin "list.__getattribute__") _ _) _ _ _);refine call_meets aeu (hT _) am_entry_list_getattribute (F.args_list_getattribute_2 _ _) (meets_getattribute_miss_list a xs k sl "keys" _ (by rw[typeLookup_type,builtinLookup_eq_fast];kernel_rfl) (by decide +kernel)) ⟨hx,hA,λh' X7 e yK=>?_⟩)|wp_step))
 obtain⟨t',u',he⟩:=yK.there;show wpAny _ _ (getattributeRaised _ _ _ _ _ _ _) _ _ _;unfold getattributeRaised
 repeat (any_goals (first|assumption|wp_step))
 exact h _ _ yK.keeps
noncomputable def PR(H:Hp)(z:V)(p:List cz×V):Prop:=∃t b,z= .ref t/\H t=some (akJ [ajV,p.2])/\H b=some auu
def cK.VW{K:ay}(h:cK K H l zs)(hd:aD8)(he:∀b,b≠d->H' b=H b):cK K H' l zs:=by
 rcases h with (h|⟨o,h⟩)|h
 .exact .inl (akN ((he _ (c7 h hd (λz=>nomatch z))).trans h))
 .exact .inl (ant ⟨o,(he _ (c7 h hd (λz=>nomatch z))).trans h⟩)
 .exact .inr h
section
variable {X:Cx}{U:aa7}{σ:St}{A:ahp}{d l it:Addr}{zs:ad5}{ps:aiR}{R:Result->Shared->Prop}
def Dt(hu:A.in1.units<cLine)(hh:af4)(hz:aFx):∀(m i:Nat) (s:ab5) (H:Hp) (kvs:aiR),ps.length-i=m->i<=ps.length->aa4->kW X U H it->aAF->cK X.K H l zs->
  (∀(j:Nat) z p,zs[j]?=some z->ps[j]?=some p->PR H z p)->aD8->kvs.length+(ps.length-i)<=sizeLine->
  (∀H' s',ai5->H' d=some (.dT ((ps.drop i).foldl (λm p=>awE) kvs))->(∀b,b≠d->H' b=H b)->aCF)->
  codeAny aa6 A (.builtin "dict.update.loop" ⟨[aEd,ad8,.int i 0,.none],[]⟩) R s:=by
 intro m;induction m with
 |zero=>
  intro i s H kvs hm hi I fo st hq hp hd hl hR;have e:i=ps.length:=acv hi (afc hm);subst e;refine acg qK ?_;rw[acJ iB _];refine bH akW λits rv p GQ=>tT fo λf0 f1 f2 f3 f4 f5=>?_;have hl:=rv.length;refine aag (m:=pyNext ad8) (aeW hh st p.isList (by simp;exact aaw (afF aFe hz)) λh' eb=>?_);have I1:Inv X U σ H {s with heap:=h'}:=I.turned (t':=s.toks) (λb o hb e=>apm) f0 f1 f3 f4 f5;show wpAny _ _ (Builtin.Dict.addKeywords d [] >>= _) _ _ _;refine aag (aao (aao (hR H _ I1 ?_ λ_ _=>rfl)));rw[afj];exact hd
 |succ m ih=>
  intro i s H kvs hm hi I fo st hq hp hd hl hR;have lt:i<ps.length:=by omega
  refine acg qK ?_;rw[acJ iB _];refine bH akW λits rv pl GQ=>tT fo λf0 f1 f2 f3 f4 f5=>?_;have X8:=aai (hz▸lt:i<zs.length);have hpi:=aai lt;obtain⟨t,b,e1,e2,e3⟩:=hp i _ _ X8 hpi;refine aa (rv.get X8) λu xg ru=>?_;rw[e1]at ru;cases ru;refine aag (m:=pyNext ad8) (adM st pl.isList (x:= .ref t) (by simpa using xg) λh' au sb=>?_);have I1:Inv X U σ H {s with heap:=h'}:=I.turned (t':=s.toks) (λb o hb e=>apy) f0 f1 f3 f4 f5;obtain⟨aab,tr,tp,_⟩:=I1.tuple (show cH X.K H t _ from e2);obtain⟨u1,u2,rfl,r1,r2⟩:=vals2 tr;cases r1;obtain⟨z,X9,xs,eN,dd⟩:=yt I1.aJ hd;refine aag (abq ?_);have VX:wpAny aa6 A.in1 (Builtin.Dict.pairItems apK) (λl s'=>l=[ajV,u2]/\s'={s with heap:=h'}) (λ_ _=>False) {s with heap:=h'}:=by
   obtain⟨o,o1,o2,n,o3⟩:=tp;unfold Builtin.Dict.pairItems;refine aag (adQ ⟨o,o1,o2⟩ ?_);rw[aaB aa1];show wpAny _ _ (seqItems? apK >>= _) _ _ _;unfold seqItems?;refine aag (aag (wpAny_load o1 ?_));rw[o3];exact aao (aao ⟨rfl,rfl⟩)
  refine aag (aeV (abJ VX ?_ λ_ _ z=>aAy));rintro _ _ ⟨rfl,rfl⟩;refine abq ?_;have qq:(fq kvs ps[i].1 ps[i].2).length <=kvs.length+1:=gM _ _ _;refine wpAny_dictSet_heap (hsz:=by rw[<-adC eN];exact z) hu (ji I1.aJ e3) dd λh2 CZ hs=>Ov CZ λq es ep X_ Q7 h3 h4 _ h5=>?_;have I2:Inv X U σ (upd H d (.dT (fq kvs ps[i].1 ps[i].2))) {s with heap:=h2,toks:=s.toks+(tupleKind ao4).draws ps[i].1}:=by
   refine j4 (s:={s with heap:=h'}) I1 (by rw[hd];exact True.intro) hs ⟨q,X_⟩ ⟨by omega,X9,_,(eN.put _ e3 r2).keeps λc ys ec=>?_,q,es,ep,X_,Q7,h3,h4,h5⟩;rw[ak (c7 ec hd (λz=>nomatch z))];exact ec
  have nd:d≠it:=λz=>by rw[z,f0]at hd;cases hd
  have ne:∀b,b≠d->upd H d (.dT (fq kvs ps[i].1 ps[i].2)) b=H b:=λb hb=>ak hb;refine aao ⟨plainId_quiet iB _,ih (i+1) _ _ _ aa3 lt I2 ⟨(ne _ nd.symm).trans f0,f1,f2,f3,f4,f5⟩ (au.at λo e=>(hs.2 _ nd.symm).trans e) (hq.VW hd ne) (λj z p h1 h2=>?_) ag aa3 λH' s' I' e' n'=>hR H' s' I' ?_ λb hb=>(n' b hb).trans (ne b hb)⟩
  .obtain⟨t,b,g1,g2,g3⟩:=hp j z p h1 h2;exact⟨t,b,g1,(ne _ (c7 g2 hd (λz=>nomatch z))).trans g2,(ne _ (c7 g3 hd (λz=>nomatch z))).trans g3⟩
  .rw[abH lt,aeA];exact e'
noncomputable def Q8(K:ay):V->ad5->Hp->VK->Prop:=λx vs H Q=>∃(d l:Addr) (zs:ad5) (kvs ps:aiR),x= .ref d/\vs=[aic]/\aD8/\cK K H l zs/\aFx/\(∀(j:Nat) z p,zs[j]?=some z->ps[j]?=some p->PR H z p)/\kvs.length+ps.length<=sizeLine/\
 Q .cq (upd H d (.dT (ps.foldl (λm p=>awE) kvs)))
def Mv(hu:af1)(hh:af6):S8 X "dict.update" (Q8 X.K):=by
 intro U s σ H x vs v us Q I rx rv h;obtain⟨d,l,zs,kvs,ps,rfl,rfl,hd,hq,hz,hp,hl,q⟩:=h;cases rx;refine aa rv.one λu cL ru=>?_;subst cL;cases ru;obtain⟨_,X9,xs,eN,dd⟩:=yt I.aJ hd;obtain⟨its,rv,pl,GQ⟩:=I.list hq;refine wpAny_call (afn F.slot_dict_update.plain F.entry_dict_update (F.slot_dict_update.check _ _ _ _ _ _ _ _ dd.typeIs (F.args_dict_update_2 _ _) ?_));unfold Builtin.«dict.update»;refine aag ?_;unfold Builtin.Dict.selfAndRest;refine aag (wpAny_notOrdered_dict dd.typeIs ?_);show wpAny _ _ (pure (d,[Value.ref l])) _ _ s;refine aao ?_;show wpAny _ _ (Builtin.Dict.updateFrom "dict.update" d aic [] .none) _ _ s;unfold Builtin.Dict.updateFrom;obtain⟨⟨cl,dc,dt,sl⟩,n,o1,o2,o3,o4⟩:=id pl;have o2:cl= .type "list":=o2;have o3:dc=none:=o3;have o4:aCv:=o4;subst o2 o3 o4;refine aag (adQ ⟨_,o1,rfl⟩ ?_);rw[aaB aa1];refine aag (A4 o1 (I.ok.hd hh) λh' tk hk=>?_);simp only[Option.isNone_none,if_true];refine aag (adx (aag (acO ⟨_,hk _ _ o1,rfl,n,rfl⟩ (aao ⟨plainId_quiet iB _,?_⟩))));have I1:Inv X U σ H {s with heap:=h',toks:=tk}:=I.kept hk;have hn:H h'.objs.size=none:=I1.aJ.fresh ac9;have I2:Inv X U σ H {s with heap:=h'.push {cls:= .type "list_iterator",data:= .fields #[aic,aB8]},toks:=tk}:=I1.kept (t':=tk) λb o e=>aah _ e;refine Dt (it:=h'.objs.size) (l:=l) (d:=d) (H:=H) (kvs:=kvs) (show X.A.units+1<cLine by lia) (I.ok.hd hh) hz _ 0 _ rfl ao3 I2 (I1.ui ac9 hn) ⟨_,ag6,rfl,rfl⟩ hq hp hd hl λH' s' I' e' n'=>⟨.cq,H',I',rfl,?_⟩;have:H'=upd H d (.dT (ps.foldl (λm p=>awE) kvs)):=funext λb=>by
  by_cases hb:b=d
  .subst hb;rw[e',ag];rfl
  .rw[n' b hb,ak hb]
 rw[this];exact q
def Mw{o e:Expr}{jH cM:Pos}{to te:TE}(hu:af1)(hh:af6)(ho:ayL)(he:aqO)(m:M1 X o "update" jH e cM):
  PE X (.Call (.Attribute o "update" jH) [e] [] cM) (λσ H Q=>to σ H λx H1=>∃a,akb/\XU H1 a/\te σ H1 λy H2=>Q8 X.K x [y] H2 Q):=by
 intro U s σ H Q I h;refine wpAny_Call_method m.base m.FY m.line age PySem.F.slot_dict_update PySem.F.type_dict_update (bF akS λu s1 ⟨x,H1,I1,rx,a,ex,d,q1⟩=>?_);subst ex;obtain rfl:u=Value.ref a:=rx;obtain⟨t1,t2,_⟩:=C6 I1 d;refine⟨t1,t2,?_⟩;rw[m.trees];exact adf rfl (aei (Calls.spliced_cons (bF (he U s1 σ H1 _ I1 q1) λiv s2 ⟨y,H2,I2,ry,q2⟩=>Calls.spliced_nil (Mv hu hh U s2 σ H2 ab_ [y] ab_ [iv] Q I2 rfl (akA ry) q2))))
end
open PySem.W
section
variable {X:Cx}{U:aa7}{σ:St}{H H1 H2:Hp}{s:ab5}
def ou(H:Hp)(b:Addr):Prop:=∃u,apd/\B9 azU
def NF(X:Cx)(b:Addr):Prop:=∀o u,X.H₀ b≠some aih
def Inv.VY(I:Inv X U σ H1 s)(ea:H1 a=some u)(mu:B9 azU):∃o,Inv X U σ ayb s:=by
 obtain⟨o,ho⟩:∃o,s.heap.get? a=some o:=by
  have ok:=I.aJ a u ea;cases u with
  |lst xs=>obtain⟨_,_,_,_,e⟩:=ok;exact⟨_,e⟩
  |dK kvs=>obtain⟨_,_,_,_,o,_,_,e,_⟩:=ok;exact⟨_,e⟩
  |dT kvs=>obtain⟨_,_,_,_,o,_,_,e,_⟩:=ok;exact⟨_,e⟩
  |set S n=>obtain⟨o,_,_,_,e,_⟩:=ok;exact⟨_,e⟩
  |ins C dx fs=>obtain⟨_,_,_,e,_⟩:=ok;exact⟨_,e⟩
  |ext φ=>obtain⟨_,⟨o,e⟩,_⟩:=ok;exact⟨_,e⟩
  |_=>exact mu.elim
 have nt:∀b w,H1 b=some w->¬B9 (aku w)->upd H1 a aih b=some w:=λb w e nm=>by
  rw[ak (λz=>?_)]
  .exact e
  .rw[z,ea]at e;cases e;exact nm mu
 have aJ:gC X.prog X.w ayb s.heap:=λb w' e=>by
  by_cases hb:b=a
  .subst hb;rw[ag]at e;cases e;exact⟨ho,(I.aJ b u ea).mG (λ_ _ _ z=>z) (λc z=>aFX) λc ys z=>aFX⟩
  .rw[ak hb]at e;exact(I.aJ b w' e).mG (λ_ _ _ z=>z) (λc z=>aFX) λc ys z=>nt c _ z id
 have un:Un X.fs [] H1 ayb s.heap s.heap:=Un.write (x:=a) (e:=a) (by rw[ea];exact mu) ahq (λ_ _ _ z=>z) ⟨o,ho⟩;have:=I.un (t':=s.toks) un aJ;exact⟨o,this⟩
structure Hk(as:ae_)(H1 H2:Hp):Prop where
 out:∀b,b∉as->H2 b=H1 b
 at_:∀b,b∈as->∃o u,H1 b=some u/\B9 azU/\H2 b=some aih
theorem Inv.fY:∀(as:ae_) {H1:Hp},Inv X U σ H1 s->as.Nodup->(∀b∈as,aFS)->∃H2,Inv X U σ H2 s/\Hk as H1 H2
 |[],H1,I,_,_=>⟨H1,I,λ_ _=>rfl,λ_ z=>nomatch z⟩
 |a::as,H1,I,nd,hm=>by
  rw[abo]at nd;refine aa (hm a aaq) λu ea mu=>aa (Inv.fY as I nd.2 λb hb=>hm b aqJ) λH2 I2 f2=>?_;have ea2:H2 a=some u:=by rw[f2.out a nd.1];exact ea
  obtain⟨o,I3⟩:=I2.VY ea2 mu;refine⟨_,I3,λb hb=>?_,λb hb=>?_⟩
  .rw[aat,not_or]at hb;rw[ak hb.1];exact f2.out b hb.2
  .by_cases qL:b=a
   .subst qL;exact⟨o,u,ea,mu,ag⟩
   .rw[ak qL];exact f2.at_ b ((aat.mp hb).resolve_left qL)
def Inv.nf(I:aa4)(h:ou H b):NF X b:=λo u e=>by
 refine aa h λw e1 mu=>?_;have:=I.base.fY b o u e;rw[e1]at this;cases this;exact mu
open Classical in
noncomputable def gF(as:ae_)(H1 H2:Hp):Hp:=λb=>if b∈as then H1 b else H2 b
def ka(h:b∈as):gF as H1 H2 b=H1 b:=aaB h
def bT(h:b∉as):gF as H1 H2 b=H2 b:=aaF h
def u0(as:ae_)(H1 H2:Hp):Prop:=∀b,b∈as->∃o u,H1 b=some u/\B9 azU/\H2 b=some aih
theorem Inv.gF(I:Inv X U σ H2 s)(nf:∀b∈as,NF X b)(h:u0 as H1 H2):Inv X U σ (gF as H1 H2) s:=by
 have same:∀b w,H2 b=some w->(∀o u,w≠ .dF o u)->L2.gF as H1 H2 b=some w:=λb w e n=>by
  rw[bT λhb=>?_]
  .exact e
  .refine ba (h b hb) λo u _ _ e2=>?_;rw[e]at e2;cases e2;exact n o u rfl
 have yN:∀b,H2 b=none->L2.gF as H1 H2 b=none:=λb e=>by
  rw[bT λhb=>?_]
  .exact e
  .refine ba (h b hb) λo u _ _ e2=>?_;rw[e]at e2;cases e2
 have aJ:gC X.prog X.w (L2.gF as H1 H2) s.heap:=λb w' e=>by
  by_cases hb:b∈as
  .refine ba (h b hb) λo u e1 mu e2=>?_;rw[ka hb,e1]at e;have ew:u=w':=aaQ e;subst ew;obtain⟨_,q⟩:=(show aO X.prog X.w H2 s.heap b aih from I.aJ b _ e2);exact q.mG (λ_ _ _ z=>z) (λc z=>same c _ z λ_ _ y=>(nomatch y)) λc ys z=>same c _ z λ_ _ y=>(nomatch y)
  .rw[bT hb]at e;exact(I.aJ b w' e).mG (λ_ _ _ z=>z) (λc z=>same c _ z λ_ _ y=>(nomatch y)) λc ys z=>same c _ z λ_ _ y=>(nomatch y)
 refine⟨I.ok,I.os,arQ,⟨I.base.keep,I.base.slot,λb o e n hx=>yN b amC,I.base.there,λb xs e=>same b _ aFo λ_ _ y=>(nomatch y),λb o u e=>?_,λb ps e=>?_⟩,I.loc,ayO,yN _ I.free,λx c e=>yN _ avV,λp hp=>?_,aJ,I.len⟩
 .have e2:=I.base.fY b o u e;rw[bT λhb=>nf b hb o u e];exact e2
 .obtain⟨more,e2⟩:=I.base.kS b ps e;exact⟨more,same b _ e2 λ_ _ y=>(nomatch y)⟩
 .exact c6 (I.pin p hp) λe n r=>⟨e,yN _ n,r⟩
end
section
variable {X:Cx}{k:Nat}{f:Addr}{fd:aka}{ps:ac_}{sp:Sp}{x:Str}{p pos:Pos}{e:Expr}{es:ahA}{t:TA}
def Du(F:eL X.prog X.w X.K X.mg X.base rM k f fd ps sp)(hr:aBs)(hg:awZ)(hm:X.mg x=some apL)(hk:ayG)(hb:avq)
  (ha:amt) (yf:aiC) (he:aa_) (dq:(backTo pos ahL).any (·.1)=false):
  PE X aiu (λσ H Q=>t σ H λvs H1=>∃as:ae_,as.Nodup/\(∀b∈as,aFS)/\∀H2,arq->sp aEB H2 (λv H3=>aq6/\Q v alH) E0):=by
 intro U s σ H Q I h;refine aew (mX I hg hm ?_ yf);refine ahc (h₀:=X.base) I.ok.mod.SY hk (bF ah7 λus s1 ⟨vs,H1,I1,r,as,nd,Tx,q⟩=>⟨I1.FO,?_⟩) he dq;exact aa aCJ λH2 I2 fz=>bF (Co F hr hb .nil CF I2 r (q H2 fz)) λv s2 zz=>iq zz λy H3 I3 ry hc q3=>⟨y,_,I3.gF (λb jd=>I1.nf (Tx b jd)) hc,ry,q3⟩
def Hl{t:TE}(h:PE X e t):PE X e (λσ H Q=>t σ H λv H1=>∃as:ae_,as.Nodup/\(∀b∈as,aFS)/\∀H2,arq->Q v H2):=by
 intro U s σ H Q I q;refine bF (h U s σ H _ I q) λv s1 zz=>?_;obtain⟨y,H1,I1,r1,as,nd,Tx,q1⟩:=zz;exact aa aCJ λH2 I2 fz=>⟨y,H2,I2,r1,q1 H2 fz⟩
end
section
variable {X:Cx}
def Dv(K:ay):V->ad5->Hp->VK->Prop:=λx vs H Q=>∃l b xs zs,au0/\vs=[ajV]/\asL/\cK K H b zs/\aw4/\Q .cq (axK (akx (xs++zs)))
def Dw:S8 X "list.extend" (Dv X.K):=by
 intro U s σ H x vs v us Q I rx rv h;refine Ga h λl b xs zs ai aK hH hB hz q=>?_
 try clear h
 subst ai;subst aK;cases rx;refine aa rv.one λu cL ru=>?_;subst cL;cases ru;obtain⟨z,its,n,r,hl,e⟩:=I.LI hH;have key:∃(je:ab0) (n2:Nat),aD zs je/\s.heap.get? b=some {cls:= .type "list",data:= .seq je.toArray n2}:=by
  rcases hB with hB|⟨o,its,m,h1,h2,h3,h4,h5,h6,h7⟩
  .obtain⟨_,je,n2,r2,e2⟩:=hB.ok I.aJ;exact⟨je,n2,r2,e2⟩
  .have hg:=I.FO b o h1;obtain⟨c,GL,dt,sl⟩:=o;have h2:c= .type "list":=h2;have h3:GL=none:=h3;have h4:dt= .seq its m:=h4;have h7:sl=#[]:=h7;subst h2 h3 h4 h7;exact⟨its.toList,m,h6,by simpa using hg⟩
 refine eU key λje n2 r2 e2=>?_;have Tv:=r2.length;have hsz:its.toArray.size+je.toArray.size<=sizeLine:=by rw[aay,aay];lia
 have Q9:¬(!its.toArray.isEmpty&&Builtin.List.listTooLong (its.toArray.size+je.toArray.size))=true:=by
  rw[CC hsz,Bool.and_false];exact aan
 refine call_meets F.slot_list_extend ⟨_,e,rfl⟩ F.entry_list_extend (F.args_list_extend_2 _ _) (AutoSeq1.list_extend_list_list_0 l its.toArray n b je.toArray n2 Q9 (by rw[aay];lia) (akH hsz)) ⟨e,e2,?_⟩;refine⟨.cq,_,I.LH (its':=its++je) hH e ab1 (r.append r2) ?_,rfl,q⟩;rw[aau];exact hz
def u5(tk tv:TE):TE:=λσ H Q=>∀p,aj_->tk σ (avC aAl) λx H1=>tv σ H1 λy H2=>∃i:Int,au1/\H2 p=some aAl/\Q ahG (upd H2 p (.dK [(aAb,y)]))
def Hn(hu:alX)(hk:PE X k tk)(hv:PE X v tv):PE X azo (u5 tk tv):=by
 intro U s σ H Q I h;have hn:ani:=I.aJ.fresh ac9;refine wpAny_Dict_any rfl rfl ab1 (show 1<=15 by decide) ?_;have I0:Inv X U σ (alE aAl) {s with heap:=s.heap.push {cls:= .type "dict",data:= .dict #[]}}:=I.laid (a:=s.heap.objs.size) (o:= .dK []) (t':=s.toks) (λ_ _ q=>awc) ac9 (C0 s.heap I.big);refine pairTrees_cons_walk (bF axc λkv s1 zz=>ba zz λx H1 I1 r1 q1=>bF azG λvv s2 zz=>ba zz λy H2 I2 r2 q2=>pairTrees_nil_walk ?_);refine bH q2 λi ex ep q3=>?_;subst ex;obtain⟨t,rfl⟩:=r1;unfold storeAll;rw[adw];obtain⟨z,hd,xs,eN,dd⟩:=Ka I2.aJ ep;have ry:RelV (kV aAb) (Value.int i t):=⟨t,rfl⟩;have hz:aiN:=by rw[<-eN.length];exact z
 refine aag (aag (wpAny_dictSet_pairs (hsz:=hz) (knd:=aW X.prog X.w) aC6 dd λh' CZ hs=>aao ?_));dsimp only;rw[List.forIn_nil];refine aao ⟨ab6,_,?_,rfl,q3⟩;have he:∃q,h'.get? s.heap.objs.size=some q:=let ⟨q,_,_,hq,_⟩:=CZ;⟨q,hq⟩;exact j4 (t':=s2.toks+1) I2 (by rw[ep];exact True.intro) hs he (CY (by rw[sizeLine_eq];exact(by decide:(1:Nat)<=16777216)) hd (eN.put aAb r2) CZ)
end
section
variable {prog:ac7}{w:World}{A:ahp}{E:Value->Shared->Prop}{s:ab5}{d:Addr}{es:ajv}{ep:Nat}
def u6(hh:af4)(lo:aoq)(r:alU)(Kf:es.size<64)(hI:IntsAre (awo (·.key)) ns)
  (h:∀(h1 h':Heap) (tk:Nat) (out:ae2) (c:Nat) (nR:aa0),(∀b o',aso->aqy)->(∀b o',aqy->aqz)->h'.get? h1.objs.size=some {cls:= .type "list",data:= .seq out c}->IntsAre out.toList nR->nR.Perm ns->nR.Pairwise (· <= ·)->Q aix {s with heap:=h',toks:=tk}):
  wpAny aa2 A (call (.builtin "sorted") [aEd]) Q E s:=by
 refine adp kind_sorted plain_sorted entry_sorted aqY ?_;unfold Builtin.«sorted»;refine aag (m:=checkCount "sorted" 1 1 _) (aao (aag (kdu_collect (A:=A.in1) (yC lo) hh r (by rw[sizeLine_eq];exact aam (aaE Kf) aa1) λh1 tk acc k1 it=>?_)));have hl:az0:=by rw[aaK];exact it.1
 have eq:acc.toList=es.toList.map (·.key):=by
  apply acC;intro j;rcases abx j es.size with z|z
  .have hj:aF8:=(aaj z ajf);refine aa (it.2 j acc.toList[j] (by rw[<-aba];exact aai hj)) λe e1 e2=>?_;rw[aai hj,aaC,aba,e1,e2];rfl
  .rw[aaS (aam az3 z),aaS (by simpa using z)]
 rw[eq];refine aag (afr ?_ (by rw[<-eq,hl,sizeLine_eq];exact aam (aaE Kf) aa1));have x_:(h1.push (seqObj "list" (es.toList.map (·.key)).toArray 0)).get? h1.objs.size=some (seqObj "list" (es.toList.map (·.key)).toArray 0):=aav _ rfl;refine aag (abq (abt slot_list_sort ⟨_,x_,rfl⟩ entry_list_sort (list_sort_tree (s:={s with heap:=h1.push (seqObj "list" (es.toList.map (·.key)).toArray 0),toks:=tk}) x_ hI (by rw[<-eq,hl];exact Kf) λout nR a1 a2 a3=>⟨_,rfl,?_⟩) apC));refine aao ⟨_,rfl,?_⟩;have u1:=get?_update_seq x_ (λ_=>#[]);have u2:=aah (seqObj "tuple" (es.toList.map (·.key)).toArray 0) u1;have u3:=aah (seqObj "list" #[] 0) u2;have u4:=get?_update_seq u3 (λ_=>out);refine h h1 _ tk out _ nR k1 (λb o' e=>?_) u4 a1 a2 a3;have hb:arL:=aaN ajO;unfold sortedHeap;rw[aaP _ _ aoB];refine aah _ (aah _ ?_);rw[aaP _ _ aoB];exact aah _ e
end
section
variable {X:Cx}
theorem yO:∀{ns:aa0}{vs:ab0},vs.length=ns.length->(∀(i:Nat) (n:Int),ns[i]?=some n->∃t,vs[i]?=some (arF n))->IntsAre vs ns
 |[],[],_,_=> .nil
 |[],_::_,h,_=>nomatch h
 |_::_,[],h,_=>nomatch h
 |n::ns,v::vs,h,k=>by
  obtain⟨t,e⟩:=k 0 n rfl;have e:v= .int n t:=by simpa using e
  subst e;exact .cons n t (yO (by simpa using h) λi m hi=>by
   obtain⟨t',e'⟩:=k (i+1) m (by simpa using hi);exact⟨t',by simpa using e'⟩)
def sH(hc:af6):cu X (.builtin "sorted") (λxs H Q=>∃(p:Addr) (kvs:ap4) (ns:aa0),am2/\Rd H p amh/\kvs.map (·.1)=ns.map Sum.inl/\ns.length<64/\
  ∀nR:aa0,nR.Perm ns->nR.Pairwise (· <= ·)->∀l,art->Q aic (axK asB)):=by
 intro U s σ H xs us Q I r zz;refine vY zz λp kvs ns e hq hk Kf q=>?_;subst e;refine aa anS λu ai rx=>?_;subst ai;cases rx;refine kM (w4 I hq) λes ep g1 g2 g3 g4 g5=>?_;have aG:kvs.length=ns.length:=by
  have:=congrArg List.length hk;rwa [aap,aap]at this
 have hI:IntsAre (awo (·.key)) ns:=by
  refine yO (by rw[aap,aaK,g2,aG]) λi n hi=>?_;have gy:asw:=by rw[aG];exact(aax.mp hi).1
  refine aa (g5 i kvs[i] (aai gy)) λen e1 e2=>?_;have xj:kvs[i].1 =Sum.inl n:=by
   have:=congrArg (λl:List cz=>l[i]?) hk;simp only[aaC,hi,aai gy,adR]at this;exact aaQ this
  rw[xj]at e2;obtain⟨t,e3⟩:=e2;exact⟨t,by rw[aaC,aba,e1,<-e3];rfl⟩
 refine u6 ahx g3 g1 (Ut g2 (Ut aG Kf)) hI λh1 h' tk out c nR k1 k2 e a1 a2 a3=>?_;have I1:Inv X U σ H {s with heap:=h1,toks:=tk}:=I.kept (t':=tk) k1;have I2:Inv X U σ (upd H h1.objs.size asB) {s with heap:=h',toks:=tk}:=
  I1.laid (t':=tk) k2 ac9 (show aO X.prog X.w _ h' _ asB from⟨by rw[aap,a2.length_eq,sizeLine_eq];exact aam (aaE Kf) aa1,out.toList,c,jW a1,by simpa using e⟩)
 exact⟨aix,_,I2,rfl,q nR a2 a3 _ ah9⟩
end
end L2
namespace S2
open PySem PySem.SetTable
noncomputable def it(t:ahK):Nat->Probe->Probe
 |0,p=>p
 |k+1,p=>it t k aoz
theorem sJ(t:ahK):∀(k:Nat) (p:Probe),it t (k+1) p=t.advance (it t k p)
 |0,_=>rfl
 |k+1,p=>sJ t k aoz
theorem gP(t:ahK):∀(k l:Nat) (p:Probe),it t (k+l) p=it t l (it t k p)
 |0,l,p=>by rw[abI];rfl
 |k+1,l,p=>by rw[abk];exact gP t k l aoz
def qM(t:ahK)(p:Probe):(t.advance p).dummy =p.dummy:=by
 unfold advance;split<;>rfl
theorem u7(t:ahK):∀(k:Nat) (p:Probe),(it t k p).dummy =p.dummy
 |0,_=>rfl
 |k+1,p=>(u7 t k _).trans (qM t p)
def sL{t:ahK}(hd:t.dummies=#[])(j:Nat):t.slot j≠ .dummy :=by
 unfold SetTable.slot;rw[hd];dsimp only;split
 .exact λz=>nomatch z
 .split
  .rename_i z;unfold SetTable.has at z;simp at z
  .exact λz=>nomatch z
noncomputable def Meets(t:ahK)(H:Nat->Int)(h:Int)(p:Probe)(met:Met):Prop:=
 ∃k,(∀l,l<k->∃i,t.slot (it t l p).j = .live i/\H i≠h)/\
  (axS /\met= .empty (it t k p).j p.dummy\/∃i,t.slot (it t k p).j = .live i/\H i=h/\met= .candidate (it t k p).j i (it t (k+1) p))
theorem u9{t:ahK}{H:Nat->Int}{h:Int}(hd:t.dummies=#[]):∀{fuel:Nat}{p:Probe}{k:Nat},k<fuel->axS ->∃met,probe.go t H h fuel p=some met/\Meets t H h p met
 |0,p,k,hk,_=>absurd hk alz
 |fuel+1,p,k,hk,he=>by
  unfold probe.go;cases hs:t.slot p.j with
  |empty=>exact⟨_,rfl,0,λl hl=>avh,.inl ⟨hs,rfl⟩⟩
  |dummy=>exact absurd hs (sL hd _)
  |live i=>
   dsimp only;by_cases hh:H i=h
   .rw[aaB (beq_iff_eq.mpr hh)];exact⟨_,rfl,0,λl hl=>avh,.inr ⟨i,hs,hh,rfl⟩⟩
   .rw[aaF λz=>hh (beq_iff_eq.mp z)];cases k with
    |zero=>
     have he:t.slot p.j= .empty :=he;rw[hs]at he;cases he
    |succ k=>
     obtain⟨met,g1,k',g2,g3⟩:=u9 (H:=H) (h:=h) hd (agt hk) (show t.slot (it t k aoz).j = .empty from he);refine⟨met,g1,k'+1,λl hl=>?_,?_⟩
     .cases l with
      |zero=>exact⟨i,hs,hh⟩
      |succ l=>exact g2 l (agt hl)
     .rw[qM]at g3;exact g3
noncomputable def B5(M:Nat)(x:amW):Probe:={j:=x.1,more:=runEnd M x.1-x.1,i:=x.1,perturb:=x.2,dummy:=none}
noncomputable def lp(M:Nat)(x:amW):amW:=leap M x.1 x.2
noncomputable def qN(M:Nat):Nat->amW->Nat×Nat
 |0,x=>x
 |n+1,x=>qN M n (lp M x)
def Mx(M i:Nat):runEnd M i-i<=9:=by
 unfold runEnd;split
 .exact aaw (abX ..)
 .rw[agz];exact abn _
theorem xl(t:ahK):∀(l:Nat) (p:Probe),l<=p.more->it t l p={p with j:=p.j+l,more:=p.more-l}
 |0,p,_=>rfl
 |l+1,p,h=>by
  rw[sJ,xl t l p (Nat.le_of_succ_le h)];unfold advance;rw[aaB (aeO h)];rfl
def m9(t:ahK)(x:amW):it t al9 alO=B5 t.mask azD:=by
 rw[sJ,xl t aqr alO ac9];unfold advance;rw[aaF (by show¬(runEnd t.mask x.1-x.1-aqr>0);rw[agz];exact abi 0)];rfl
theorem Dx(t:ahK):∀(n:Nat) (x:amW),∃s≤10*n,it t s alO=B5 t.mask (qN t.mask n x)
 |0,x=>⟨0,aas _,rfl⟩
 |n+1,x=>by
  obtain⟨s,h1,h2⟩:=Dx t n azD;refine⟨al9+s,?_,?_⟩
  .rw[Nat.mul_succ,aep];exact aek h1 (adJ (Mx _ _))
  .rw[gP,m9,h2];rfl
theorem yP(M:Nat):∀(a b:Nat) (x:amW),qN M (a+b) x=qN M b (qN M a x)
 |0,b,x=>by rw[abI];rfl
 |a+1,b,x=>by rw[abk];exact yP M a b (lp M x)
theorem sM(M:Nat):∀(n:Nat) (x:amW),(qN M n x).2 =x.2/32 ^ n
 |0,x=>(Nat.div_one _).symm
 |n+1,x=>by
  show(qN M n (lp M x)).2 =_;rw[sM M n];show x.2/32/32 ^ n=_;rw[Nat.div_div_eq_div_mul,Nat.pow_succ,Nat.mul_comm]
noncomputable def fw(M:Nat):Nat->Nat->Nat
 |0,i=>i
 |n+1,i=>fw M n ((i*5+1)%(M+1))
theorem sN(M:Nat):∀(a b i:Nat),fw M (a+b) i=fw M b (fw M a i)
 |0,b,i=>by rw[abI];rfl
 |a+1,b,i=>by rw[abk];exact sN M a b _
theorem xo(M:Nat):∀(n i:Nat),qN M n (i,0)=(fw M n i,0)
 |0,i=>rfl
 |n+1,i=>by
  show qN M n ((i*5+1+0/32)%(M+1),0/32)=_;rw[Nat.zero_div];exact xo M n _
noncomputable def Tz(M:Nat):Nat->Nat->Nat->Nat
 |0,_,b=>b
 |n+1,i,b=>Tz M n ((i*5+1)%(M+1)) (b |||2 ^ i)
theorem yQ(M j:Nat):∀(n i b:Nat),(Tz M n i b).testBit j=true->b.testBit j=true\/∃k<n,fw M k i=j
 |0,i,b,h=> .inl h
 |n+1,i,b,h=>by
  rcases yQ M j n _ _ h with h|⟨k,hk,e⟩
  .rw[Nat.testBit_or,adV]at h;rcases h with h|h
   .exact .inl h
   .refine .inr ⟨0,acM _,?_⟩;rw[Nat.testBit_two_pow]at h;exact of_decide_eq_true h
  .exact .inr ⟨k+1,Nat.succ_lt_succ hk,e⟩
noncomputable def A5(M:Nat):Prop:=M=7\/M=31\/M=127\/M=511\/M=2047
def yR(h:A5 M):Tz M (M+1) 0 0=2 ^ (M+1)-1/\fw M (M+1) 0=0:=by
 rcases h with rfl|rfl|rfl|rfl|rfl<;>decide +kernel
def Kg(h:A5 M)(hj:j<=M):∃k≤M,fw M k 0=j:=by
 have h1:(Tz M (M+1) 0 0).testBit j=true:=by
  rw[(yR h).1,Nat.testBit_two_pow_sub_one];exact decide_eq_true (abK hj)
 rcases yQ M j _ _ _ h1 with z|⟨k,hk,e⟩
 .rw[Nat.zero_testBit]at z;cases z
 .exact⟨k,aaY hk,e⟩
def yS(h:A5 M)(hi:i<=M)(hj:j<=M):∃k≤M,fw M k i=j:=by
 obtain⟨a,ha,ea⟩:=Kg h hi;obtain⟨b,hb,eb⟩:=Kg h hj;rcases Nat.le_total a b with z|z
 .obtain⟨d,rfl⟩:=acX z;refine⟨d,aam (adU ..) hb,?_⟩;rw[<-ea,<-sN];exact eb
 .by_cases e:a=b
  .exact⟨0,abn _,by rw[<-ea,<-eb,e];rfl⟩
  .refine⟨M+1-a+b,?_,?_⟩
   .have:=acT z (abF e);omega
   .rw[<-ea,<-sN,<-acw,abh (afT ha),sN,(yR h).2];exact eb
def yT(h:Int):bits h<2 ^ 64:=by
 unfold bits;have h1:0<=h%(2 ^ 64:Int):=acH _ aa1;have h2:h%(2 ^ 64:Int)<2 ^ 64:=acI _ aa1;omega
def Q_(hM:avt)(h:Int)(hj:j<=t.mask):∃k<10*turns t.mask,(it t k (al5 h)).j =j:=by
 have e0:t.probeStart h=B5 t.mask (bits h%ahT,azd):=rfl;obtain⟨s1,a1,a2⟩:=Dx t 13 (bits h%ahT,azd);have q0:(qN t.mask 13 (bits h%ahT,azd)).2 =0:=by
  rw[sM];exact Nat.div_eq_of_lt (aaj (yT h) aa1)
 have i0:∀n (x:amW),x.1<=t.mask->(qN t.mask n x).1 <=t.mask:=by
  intro n;induction n with
  |zero=>exact λx h=>h
  |succ n ih=>exact λx h=>ih _ axt
 have i1:=i0 13 (bits h%ahT,azd) axt;obtain⟨k,hk,ek⟩:=yS hM i1 hj;obtain⟨s2,b1,b2⟩:=Dx t k (qN t.mask 13 (bits h%ahT,azd));refine⟨s1+s2,?_,?_⟩
 .unfold turns;omega
 .rw[gP,e0,a2,b2];have:qN t.mask 13 (bits h%ahT,azd)=((qN t.mask 13 (bits h%ahT,azd)).1,0):=by rw[<-q0]
  rw[this,xo];exact ek
noncomputable def TB(xs:aqS)(j i:Nat):Prop:=i<=xs.size/\(∀k x:Nat,k<i->xs[k]?=some x->x<j)/\∀k x:Nat,i<=k->xs[k]?=some x->j<=x
noncomputable def Ho(xs:aqS):Prop:=∀a b x y:Nat,a<b->xs[a]?=some x->xs[b]?=some y->x<y
theorem ox(hr:Ho xs):∀(fuel lo hi:Nat),hi-lo<=fuel->lo<=hi->hi<=xs.size->(∀k x,k<lo->xs[k]?=some x->x<j)->(∀k x,hi<=k->xs[k]?=some x->j<=x)->TB xs j (below.go xs j fuel lo hi)
 |0,lo,hi,h0,h1,h2,a,b=>by
  have e:lo=hi:=by omega
  subst e;exact⟨h2,a,b⟩
 |fuel+1,lo,hi,h0,h1,h2,a,b=>by
  unfold below.go;by_cases hl:lo<hi
  .rw[aaB hl];dsimp only;have hm:azF/2<xs.size:=by omega
   have hg:xs.getD (azF/2) j=xs[azF/2]:=by
    unfold Array.getD;rw[dif_pos hm];rfl
   have F1:xs[azF/2]?=some xs[azF/2]:=aaG hm;rw[hg];by_cases hx:xs[azF/2]<j
   .rw[aaB hx];refine ox hr fuel _ _ aa3 aa3 h2 (λk x hk e=>?_) b;rcases adm (aaY hk)with z|z
    .exact adS (aCh F1) hx
    .subst z;rw[F1]at e;cases e;exact hx
   .rw[aaF hx];refine ox hr fuel _ _ aa3 aa3 (aaE hm) a (λk x hk e=>?_);rcases adm hk with z|z
    .exact aam (aaV hx) (aaE (hr _ _ _ _ z F1 e))
    .subst z;rw[F1]at e;cases e;exact aaV hx
  .rw[aaF hl];have e:lo=hi:=by omega
   subst e;exact⟨h2,a,b⟩
def lu(hr:Ho xs)(j:Nat):TB xs j aBz:=
 ox hr _ _ _ aa3 ao3 ac9 (λk _ hk=>apN) λk x hk e=>by
  rw[adN hk]at e;cases e
def Dy(hr:Ho xs)(h:xs[i]?=some j):below xs j=i:=by
 obtain⟨c1,c2,c3⟩:=lu hr j;rcases acm aBz i with z|z|z
 .have hb:below xs j<xs.size:=adS z (abW.mp h).1;have e:=aaG hb;exact absurd (aCh h) (adh (c3 _ _ ac9 e))
 .exact z
 .exact absurd (c2 _ _ z h) alW
structure Pl(t:ahK):Prop where
 nd:t.dummies=#[]
 ri:Ho t.place
 le:∀(i j:Nat),t.place[i]?=some j->j<=t.mask
 ms:A5 t.mask
theorem Pl.live(h:Pl t):t.slot j= .live i↔t.place[i]?=some j:=by
 unfold SetTable.slot;dsimp only;constructor
 .intro z;by_cases e:(t.place[below t.place j]? == some j)=true
  .rw[aaB e]at z;cases z;exact eq_of_beq e
  .rw[aaF e]at z;split at z<;>cases z
 .intro z;rw[Dy h.ri z,aaB (by rw[z];exact beq_self_eq_true _)]
theorem Pl.empty(h:Pl t):t.slot j= .empty ↔ ∀i:Nat,t.place[i]?≠some j:=by
 constructor
 .intro z i e;rw[h.live.mpr e]at z;cases z
 .intro z;cases e:t.slot j with
  |empty=>rfl
  |dummy=>exact absurd e (sL h.nd j)
  |live i=>exact absurd (h.live.mp e) (z i)
def Pl.X'(h:Pl t):t.slot j≠ .empty ↔ ∃i:Nat,t.place[i]?=some j:=by
 constructor
 .intro z;cases e:t.slot j with
  |empty=>exact absurd e z
  |dummy=>exact absurd e (sL h.nd j)
  |live i=>exact⟨i,h.live.mp e⟩
 .rintro⟨i,e⟩ z;exact h.empty.mp z i e
def Pl.free(h:Pl t)(hs:aEE):∃j≤t.mask,t.slot j= .empty :=by
 refine OY λnO=>?_;have al:∀j≤t.mask,∃i:Nat,t.place[i]?=some j:=λj hj=>h.X'.mp λz=>nO ⟨j,hj,z⟩;have mono:∀k,k<=t.mask->∃i:Nat,k<=i/\t.place[i]?=some k:=by
  intro k;induction k with
  |zero=>intro hk;obtain⟨i,e⟩:=al 0 hk;exact⟨i,abn _,e⟩
  |succ k ih=>
   intro hk;obtain⟨i,h1,h2⟩:=ih (Nat.le_of_succ_le hk);obtain⟨i',e⟩:=al (k+1) hk;refine⟨i',?_,e⟩;rcases acm i i' with z|z|z
   .omega
   .subst z;rw[h2]at e;cases e
   .have:=h.ri _ _ _ _ z e h2;omega
 obtain⟨i,h1,h2⟩:=mono t.mask ac9;have:=(abW.mp h2).1;omega
noncomputable def At(t:ahK)(h:Int)(k:Nat):Nat:=(it t k (al5 h)).j
theorem yU(e:t.mask=t'.mask):∀(k:Nat) (p:Probe),it t k p=it t' k p
 |0,_=>rfl
 |k+1,p=>by
  have:t.advance p=t'.advance p:=by unfold advance;rw[e]
  show it t k aoz=it t' k (t'.advance p);rw[this];exact yU e k _
def sO(e:t.mask=t'.mask)(h:Int)(k:Nat):At t h k=At t' h k:=by
 have:t.probeStart h=t'.probeStart h:=by unfold probeStart;rw[e]
 unfold At;rw[yU e,this]
noncomputable def F2(t:ahK)(P:ahW)(j:Nat)(h:Int):Prop:=∃k,At t h k=j/\∀l,l<k->At t h l∈P
structure Tb(t:ahK)(hs:aa0):Prop where
 pl:Pl t
 sz:t.place.size=hs.length
 rc:∀x∈t.place.toList.zip hs,F2 t t.place.toList x.1 x.2
def fH{t:ahK}{j:Nat}:j∈t.place.toList↔ ∃i:Nat,t.place[i]?=some j:=by
 rw[acD];simp only[aba]
def Pl.Hq{t:ahK}(h:Pl t){j:Nat}:t.slot j≠ .empty ↔j∈t.place.toList:=h.X'.trans fH.symm
def Pl.first(h:Pl t)(hs:aEE)(x:Int):∃K<10*turns t.mask,At t x K∉t.place.toList/\∀l,l<K->amv:=by
 obtain⟨j,hj,hf⟩:=h.free hs;obtain⟨k,hk,e⟩:=Q_ h.ms x hj;have ex:∃n,At t x n∉t.place.toList:=⟨k,λz=>h.Hq.mpr z (by rw[show At t x k=j from e];exact hf)⟩;have least:∀n,At t x n∉t.place.toList->∃K≤n,At t x K∉t.place.toList/\∀l,l<K->amv:=by
  intro n;induction n using Nat.strongRecOn with
  |ind n ih=>
   intro hn;by_cases z:∃l,l<n/\At t x l∉t.place.toList
   .obtain⟨l,h1,h2⟩:=z;obtain⟨K,k1,k2⟩:=ih l h1 h2;exact⟨K,aam k1 (aaE h1),k2⟩
   .exact⟨n,aas _,hn,λl hl=>aca λnz=>z ⟨l,hl,nz⟩⟩
 obtain⟨K,k1,k2⟩:=least k (λz=>h.Hq.mpr z (by rw[show At t x k=j from e];exact hf));exact⟨K,aaU k1 hk,k2⟩
def Pl.step{t:ahK}(hp:Pl t){H:Nat->Int}{x:Int}{K k0:Nat}(hK:K<10*turns t.mask)(k1:At t x K∉t.place.toList)(k2:∀l,l<K->amv)(hk:k0<=K):
  ∃met,t.probe H x avb=some met/\
   ((∀l,k0<=l->l<K->∀i:Nat,t.place[i]?=some aGO->H i≠x)/\met= .empty ak_ none\/
    ∃k i,k0<=k/\k<K/\(∀l,k0<=l->l<k->∀i:Nat,t.place[i]?=some aGO->H i≠x)/\t.place[i]?=some ape/\H i=x/\met= .candidate ape i (it t (k+1) (al5 x))):=by
 have e:∀l,(it t l avb).j =At t x (k0+l):=λl=>by unfold At;rw[gP]
 have em:t.slot (it t (K-k0) avb).j = .empty :=by
  rw[e,abh hk];exact aca λz=>k1 (hp.Hq.mp z)
 obtain⟨met,g1,k,g2,g3⟩:=u9 (H:=H) (h:=x) hp.nd (fuel:=10*turns t.mask) (p:=it t k0 (al5 x)) (k:=K-k0) (aaU (aeN ..) hK) em;refine⟨met,g1,?_⟩;have VZ:∀l,k0<=l->l<k0+k->∀i:Nat,t.place[i]?=some aGO->H i≠x:=λl h1 h2 i hi=>by
  obtain⟨i',a1,a2⟩:=g2 (l-k0) aa3;rw[e,abh h1]at a1;have:=hp.live.mp a1;have h1:=hp.live.mpr hi;rw[a1]at h1;cases h1;exact a2
 rcases g3 with⟨a1,a2⟩|⟨i,a1,a2,a3⟩
 .rw[e]at a1 a2;have xj:k0+k=K:=by
   rcases acm (k0+k) K with z|z|z
   .exact absurd a1 (hp.Hq.mpr (k2 _ z))
   .exact z
   .obtain⟨i',b1,_⟩:=g2 (K-k0) aa3;rw[em]at b1;cases b1
  rw[xj]at VZ a2;refine .inl ⟨VZ,?_⟩;rw[a2,u7];rfl
 .rw[e]at a1 a3;rw[<-gP]at a3;refine .inr ⟨k0+k,i,aaM ..,?_,VZ,hp.live.mp a1,a2,a3⟩;rcases acm (k0+k) K with z|z|z
  .exact z
  .rw[z]at a1;exact absurd (fH.mpr ⟨i,hp.live.mp a1⟩) k1
  .obtain⟨i',b1,_⟩:=g2 (K-k0) aa3;rw[em]at b1;cases b1
def Tb.met{t:ahK}{hs:aa0}(h:Tb t hs){x:Int}{K:Nat}(k1:At t x K∉t.place.toList){i:Nat}(hi:hs[i]?=some x):∃k<K,t.place[i]?=some ape:=by
 have hl:=(aax.mp hi).1;have hp:t.place[i]?=some (t.place[i]'(by rw[h.sz];exact hl)):=aaG _;have hz:(t.place.toList.zip hs)[i]?=some (t.place[i]'(by rw[h.sz];exact hl),x):=by
  rw[afJ];exact⟨by rw[aba];exact hp,hi⟩
 obtain⟨k,e,b⟩:=h.rc _ (abb hz);have e:At t x k=t.place[i]'(by rw[h.sz];exact hl):=e;refine⟨k,?_,by rw[e];exact hp⟩;rcases acm k K with z|z|z
 .exact z
 .subst z;exact absurd (by rw[e];exact fH.mpr ⟨i,hp⟩) k1
 .exact absurd (b K z) k1
noncomputable def dA(l:ahB)(p:Nat)(x:α):ahB:=l.take p++x::l.drop p
def kc:y∈dA l p x↔y=x\/y∈l:=by
 unfold dA;rw[aaH,aat];constructor
 .rintro (z|z|z)
  .exact .inr (abS z)
  .exact .inl z
  .exact .inr (acW z)
 .rintro (z|z)
  .exact .inr aDL
  .rw[<-ach p l,aaH]at z;exact z.elim .inl λz=> .inr (ant z)
def gQ:(dA l p x).length =l.length+1:=by
 unfold dA;rw[aau,aaL,<-acw,<-aau,ach]
def Dz:∀{l:ahB}{m:apt}{p:Nat}{x:α}{y:β},l.length=m.length->(dA l p x).zip (dA m p y)=dA (l.zip m) p (x,y):=by
 intro l m p x y h;unfold dA;rw[List.zip_append (by rw[aci,aci,h]),aex];have e1:∀(p:Nat) (l:ahB) (m:apt),(l.take p).zip (m.take p)=(l.zip m).take p:=by
  intro p;induction p with
  |zero=>intro l m;rfl
  |succ p ih=>
   intro l m;cases l with
   |nil=>rfl
   |cons a l=>cases m with
    |nil=>rfl
    |cons b m=>exact congrArg ((a,b):: ·) (ih l m)
 have e2:∀(p:Nat) (l:ahB) (m:apt),(l.drop p).zip (m.drop p)=(l.zip m).drop p:=by
  intro p;induction p with
  |zero=>intro l m;rfl
  |succ p ih=>
   intro l m;cases l with
   |nil=>rfl
   |cons a l=>cases m with
    |nil=>exact ahd
    |cons b m=>exact ih l m
 rw[e1,e2]
def cD(xs:Array α)(p:Nat)(x:α):(insertAt xs p x).toList =dA xs.toList p x:=by
 rw[SetTable.toList_insertAt];rfl
def sP:Ho xs↔xs.toList.Pairwise (· < ·):=by
 rw[acu];constructor
 .intro h i j hi hj v8;exact h i j _ _ v8 (by rw[<-aba];exact aai hi) (by rw[<-aba];exact aai hj)
 .intro h a b x y xt ha hb;rw[<-aba]at ha hb;obtain⟨h1,e1⟩:=aax.mp ha;obtain⟨h2,e2⟩:=aax.mp hb;rw[<-e1,<-e2];exact h a b h1 h2 xt
def Hr(h:Ho xs)(hn:j∉xs.toList):Ho (insertAt xs aBz j):=by
 obtain⟨c1,c2,c3⟩:=lu h j;rw[sP,cD];have hp:=sP.mp h;unfold dA;rw[abg];refine⟨hp.sublist (ack ..),?_,λa ha b hb=>?_⟩
 .rw[abV];refine⟨λb hb=>?_,hp.sublist (acb ..)⟩;obtain⟨k,hk⟩:=acD.mp hb;rw[aeC,aba]at hk;refine acT (c3 _ _ (aaM ..) hk) λz=>hn ?_;rw[z];exact acW hb
 .have la:a<j:=by
   obtain⟨k,hk⟩:=acD.mp ha;rw[aeB]at hk;split at hk
   .rename_i xj;rw[aba]at hk;exact c2 _ _ xj hk
   .cases hk
  rcases aat.mp hb with z|z
  .rw[z];exact la
  .obtain⟨k,hk⟩:=acD.mp z;rw[aeC,aba]at hk;exact aaj la (c3 _ _ (aaM ..) hk)
def My{t:ahK}(hd:t.dummies=#[])(j:Nat):t.put j=({t with place:=insertAt t.place (below t.place j) j},below t.place j):=by
 unfold SetTable.put;have:SetTable.has t.dummies j=false:=by
  rw[hd];unfold SetTable.has;simp
 dsimp only;rw[this,aaF aan]
def Tb.put(h:Tb t hs)(k1:At t x K∉t.place.toList)(k2:∀l,l<K->amv)(hj:At t x K<=t.mask):
  Tb {t with place:=insertAt t.place aDA ak_} (dA hs aDA x):=by
 generalize hb:below t.place ak_=p;have e:∀(y:Int) (k:Nat),At {t with place:=insertAt t.place p ak_} y k=At t y k:=λy k=>sO (t:={t with place:=insertAt t.place p ak_}) (t':=t) rfl y k;refine⟨⟨h.pl.nd,by rw[<-hb];exact Hr h.pl.ri k1,λi j z=>?_,h.pl.ms⟩,?_,λy hy=>?_⟩
 .have:aud :=fH (t:={t with place:=insertAt t.place p ak_}) |>.mpr ⟨i,z⟩;rw[cD,kc]at this;rcases this with z|z
  .rw[z];exact hj
  .obtain⟨i',q⟩:=fH.mp z;exact h.pl.le _ _ q
 .show(insertAt t.place p ak_).size =_;rw[<-aaK,cD,gQ,gQ,aaK,h.sz]
 .have hy:y∈(insertAt t.place p ak_).toList.zip (dA hs p x):=hy;rw[cD,Dz (by rw[aaK];exact h.sz),kc]at hy;have sub:∀j∈t.place.toList,aud :=λj z=>by rw[cD,kc];exact .inr z
  rcases hy with rfl|hy
  .exact⟨K,e x K,λl hl=>by rw[e];exact sub _ (k2 l hl)⟩
  .obtain⟨k,a,b⟩:=h.rc y hy;exact⟨k,(e _ _).trans a,λl hl=>by rw[e];exact sub _ (b l hl)⟩
def Kh(hM:avt)(x:Int)(k:Nat):At t x k<=t.mask:=by
 have key:∀(k:Nat) (p:Probe),p.i<=t.mask->p.j+p.more<=t.mask->(it t k p).j <=t.mask:=by
  intro k;induction k with
  |zero=>intro p _ h;exact aam (aaM ..) h
  |succ k ih=>
   intro p hi h;refine ih aoz ?_ ?_
   .unfold advance;split
    .exact hi
    .exact aaY aly
   .unfold advance;split
    .show p.j+1+(p.more-1)<=t.mask;omega
    .show((p.i*5+1+p.perturb/32)%ahT)+(runEnd t.mask ((p.i*5+1+p.perturb/32)%ahT)-((p.i*5+1+p.perturb/32)%ahT))<=t.mask;have:=aeb (p.i*5+1+p.perturb/32) (show 0<t.mask+1 from acM t.mask);unfold runEnd;split<;>omega
 refine key k _ axt ?_;show bits x%ahT+(runEnd t.mask (bits x%ahT)-bits x%ahT)<=t.mask;have:=aeb azc (show 0<t.mask+1 from acM t.mask);unfold runEnd;split<;>omega
noncomputable def B6(ow:asQ)(j:Nat):Prop:=∃i:Nat,ow[j]?=some aqI
def kf(h:j<ow.size):(ow.getD j (aku 0)).isNone =true↔ ¬B6 ow j:=by
 have e:ow.getD j (aku 0)=ow[j]:=by
  unfold Array.getD;rw[dif_pos h];rfl
 rw[e];unfold B6;rw[aaG h];cases ow[j]with
 |none=>exact Iff.intro (λ_ w=>w.elim λi z=>nomatch z) λ_=>rfl
 |some i=>exact Iff.intro (λz=>nomatch z) λz=>absurd ⟨i,rfl⟩ z
def yV(h:i<=M):i<=runEnd M i/\runEnd M i<=M:=by
 unfold runEnd;split<;>omega
def Hs(t:ahK)(hsz:ow.size=t.mask+1):∀(n fuel:Nat) (x:amW),n<fuel->x.1<=t.mask->¬B6 ow (qN t.mask n x).1 ->
  ∃k,layClean.free t.mask ow fuel x.1 x.2=some (it t k alO).j /\¬B6 ow (it t k alO).j /\∀l,l<k->B6 ow (it t l alO).j :=by
 intro n;induction n with
 |zero=>
  intro fuel x hf hx hn;obtain⟨fuel,rfl⟩:∃f,fuel=f+1:=⟨fuel-1,by omega⟩;have hr:=yV hx;unfold layClean.free;have:(List.range aye).find? (λk=>avZ)=some 0:=by
   rw[show runEnd t.mask x.1+1-x.1=aqr+1 by omega,agu,List.find?_cons_of_pos];exact(kf aa3).mpr hn
  rw[this];exact⟨0,rfl,hn,λl hl=>avh⟩
 |succ n ih=>
  intro fuel x hf hx hn;obtain⟨fuel,rfl⟩:∃f,fuel=f+1:=⟨fuel-1,by omega⟩;have hr:=yV hx;have hj:∀l,l<=runEnd t.mask x.1-x.1->(it t l alO).j =x.1+l:=λl hl=>by rw[xl t l alO hl];rfl
  unfold layClean.free;cases hq:(List.range aye).find? (λk=>avZ)with
  |some k=>
   obtain⟨h1,h2,h3⟩:=List.find?_range_eq_some.mp hq;have hk:=abe.mp h2;refine⟨k,by rw[hj k aa3],?_,λl hl=>?_⟩
   .rw[hj k aa3];exact(kf aa3).mp h1
   .rw[hj l aa3];refine aca λz=>?_;have:=(kf (ow:=ow) (j:=x.1+l) aa3).mpr z;have h:=h3 l hl;rw[this]at h;cases h
  |none=>
   have h0:=ahh.mp hq;obtain⟨k,a1,a2,a3⟩:=ih fuel azD aa3 axt hn;refine⟨al9+k,?_,?_,λl hl=>?_⟩
   .rw[gP,m9];exact a1
   .rw[gP,m9];exact a2
   .rcases abx l al9 with z|z
    .rw[hj l aa3];exact aca λnz=>h0 l (abe.mpr aa3) ((kf aa3).mpr nz)
    .obtain⟨d,rfl⟩:=acX z;rw[gP,m9];exact a3 d aa3
def Mz(hM:A5 M)(q:Nat)(hq:q<2 ^ 64)(hi:i<=M)(hj:j<=M):∃n<turns M,(qN M n (i,q)).1 =j:=by
 have q0:(qN M 13 (i,q)).2 =0:=by
  rw[sM];exact Nat.div_eq_of_lt (aaj hq aa1)
 have i0:∀n (x:amW),x.1<=M->(qN M n x).1 <=M:=by
  intro n;induction n with
  |zero=>exact λx h=>h
  |succ n ih=>exact λx h=>ih _ axt
 obtain⟨k,hk,ek⟩:=yS hM (i0 13 (i,q) hi) hj;refine⟨13+k,by unfold turns;omega,?_⟩;rw[yP];have:qN M 13 (i,q)=((qN M 13 (i,q)).1,0):=by rw[<-q0]
 rw[this,xo];exact ek
structure Ow(t:ahK)(ow:asQ)(hs:aa0):Prop where
 sz:ow.size=t.mask+1
 lt:∀i j:Nat,ow[j]?=some aqI->i<hs.length
 ex:∀i,i<hs.length->∃j:Nat,ow[j]?=some aqI
 un:∀i j j':Nat,ow[j]?=some aqI->ow[j']?=some aqI->j=j'
 rc:∀(i j:Nat) (h:Int),ow[j]?=some aqI->hs[i]?=some h->∃k,At t h k=j/\∀l,l<k->B6 ow (At t h l)
def Ow.more(o:aAZ)(hM:avt)(hf:∃j≤t.mask,¬B6 ow j)(x:Int):
  ∃j,layClean.free t.mask ow ayc (bits x%ahT) azc=some j/\Ow t aAK (hs++[x]):=by
 obtain⟨j0,hj0,hn⟩:=hf;have hi:bits x%ahT<=t.mask:=aaY aly;obtain⟨n,h1,h2⟩:=Mz hM azc (yT x) hi hj0;obtain⟨k,a1,a2,a3⟩:=Hs t o.sz n ayc (bits x%ahT,azc) h1 hi (by rw[h2];exact hn);have e:∀l,(it t l (B5 t.mask (bits x%ahT,azc))).j =At t x l:=λ_=>rfl;rw[e]at a1 a2;refine⟨_,a1,?_⟩;have aU:At t x k<ow.size:=by rw[o.sz];exact abK (Kh hM x k)
 have self:(ow.setIfInBounds ape alx)[At t x k]?=some alx:=by
  rw[aeE,aaB aU]
 have V0:∀j,j≠At t x k->(ow.setIfInBounds ape alx)[j]?=ow[j]?:=λj z=>aeS (abF z);have inv:∀(i j:Nat),(ow.setIfInBounds ape alx)[j]?=some aqI->j=At t x k/\i=hs.length\/j≠At t x k/\ow[j]?=some aqI:=λi j z=>by
  by_cases q:j=At t x k
  .subst q;rw[self]at z;cases z;exact .inl ⟨rfl,rfl⟩
  .rw[V0 j q]at z;exact .inr ⟨q,z⟩
 have mono:∀j,B6 ow j->B6 (ow.setIfInBounds ape alx) j:=λj ⟨i,z⟩=>by
  by_cases q:j=At t x k
  .subst q;exact absurd ⟨i,z⟩ a2
  .exact⟨i,by rw[V0 j q];exact z⟩
 refine⟨by rw[afQ];exact o.sz,λi j z=>?_,λi hi=>?_,λi j j' z z'=>?_,λi j h z hh=>?_⟩
 .rw[aau];rcases inv i j z with⟨_,rfl⟩|⟨_,z⟩
  .exact abY _
  .exact acB (o.lt i j z)
 .rw[aau]at hi;rcases adm (aaY hi)with z|z
  .obtain⟨j,e⟩:=o.ex i z;refine⟨j,?_⟩;rw[V0 j λq=>a2 ⟨i,q▸e⟩];exact e
  .exact⟨ape,by rw[self,z]⟩
 .rcases inv i j z with⟨p,q⟩|⟨p,q⟩
  .rcases inv i j' z' with⟨p',_⟩|⟨_,q'⟩
   .rw[p,p']
   .exact absurd (o.lt _ _ q') (by rw[q];exact abi _)
  .rcases inv i j' z' with⟨_,q'⟩|⟨_,q'⟩
   .exact absurd (o.lt _ _ q) (by rw[q'];exact abi _)
   .exact o.un i j j' q q'
 .rcases inv i j z with⟨rfl,rfl⟩|⟨p,q⟩
  .rw[abC ac9,agz]at hh;cases hh;exact⟨k,rfl,λl hl=>mono _ (by rw[<-e];exact a3 l hl)⟩
  .rw[abr (o.lt i j q)]at hh;obtain⟨k',b1,b2⟩:=o.rc i j h q hh;exact⟨k',b1,λl hl=>mono _ (b2 l hl)⟩
theorem Ya:∀(n:Nat) (l:ahW),aBk->(∀x∈l,x<n)->l.length<=n
 |0,l,_,h=>by
  cases l with
  |nil=>exact aas _
  |cons x l=>exact absurd (h x aaq) alz
 |n+1,l,hn,h=>by
  have:=Ya n (l.erase n) (hn.erase n) λx hx=>by
   have:=(hn.mem_erase_iff).mp hx;exact acT (aaY (h x this.2)) this.1
  rw[List.length_erase]at this;split at this<;>omega
noncomputable def V1:Option ahM->Nat
 |some (some i)=>i
 |_=>0
def Ow.room(o:aAZ)(hl:av8):∃j≤t.mask,¬B6 ow j:=by
 refine OY λnO=>?_;have al:∀j,j<=t.mask->B6 ow j:=λj hj=>aca λz=>nO ⟨j,hj,z⟩;have:=Ya hs.length ((List.range ahT).map λj=>V1 ow[j]?) (by
  rw[abD,abz];refine agn.imp_of_mem λ{a b} ha hb xt z=>?_;obtain⟨i,e⟩:=al a (aaY (abe.mp ha));obtain⟨i',e'⟩:=al b (aaY (abe.mp hb));rw[e,e']at z;have z:i=i':=z;subst z;exact xt (o.un _ _ _ e e')) (λx hx=>by
  obtain⟨j,hj,rfl⟩:=aaz.mp hx;obtain⟨i,e⟩:=al j (aaY ayy);rw[e];exact o.lt _ _ e)
 rw[aap,aeT]at this;omega
noncomputable def Ht(M:Nat)(acc:aBU)(h:Int):aBU:=do
 let (owner,k)<-acc
 let j<-layClean.free M owner (turns M) (bits h%(M+1)) azd
 pure (owner.setIfInBounds j (aku k),k+1)
theorem u_(hM:avt):∀(qC hs:aa0) (ow:asQ),aAZ->hs.length+qC.length<=t.mask->∃jz,List.foldl aD5 aCB qC=some (jz,(hs++qC).length)/\Ow t jz (hs++qC)
 |[],hs,ow,o,_=>⟨ow,by rw[abm];rfl,by rw[abm];exact o⟩
 |x::qC,hs,ow,o,hl=>by
  rw[aaL]at hl;obtain⟨j,h1,h2⟩:=o.more hM (o.room aa3) x;obtain⟨jz,h3,h4⟩:=u_ hM qC (hs++[x]) _ h2 (by rw[aau];show hs.length+1+qC.length<=_;omega);rw[aaZ]at h3 h4;refine⟨jz,?_,h4⟩;rw[aeA];have:Ht t.mask aCB x=some (aAK,(hs++[x]).length):=by
   show(layClean.free t.mask ow ayc (bits x%ahT) azc).bind _=_;rw[h1,aau];rfl
  rw[this];exact h3
def DA(hM:avt)(hs:aa0)(hl:av8):∃ow,auM/\aAZ:=by
 have o0:Ow t aqj []:=by
  have no:∀i j:Nat,(Array.replicate ahT (none:ahM))[j]?≠some aqI:=λi j z=>by
   rw[Array.getElem?_replicate]at z;split at z<;>cases z
  exact⟨Array.size_replicate,λi j z=>awb,λi hi=>absurd hi alz,λi j _ z=>awb,λi j _ z=>awb⟩
 obtain⟨ow,h1,h2⟩:=u_ hM hs [] _ o0 (by rw[adv,abI];exact hl);refine⟨ow,?_,h2⟩;show(Array.foldl aD5 (aku (aqj,0)) hs.toArray).map _=_;rw[List.foldl_toArray];have h1:List.foldl aD5 (aku (aqj,0)) hs=_:=h1;rw[h1];rfl
noncomputable def cA(M:Nat)(ow:asQ):List amW:=(List.range (M+1)).filterMap λj=>(ow.getD j none).map (j,·)
def getD_none{ow:asQ}{j i:Nat}:ow.getD j none=some i↔ow[j]?=some aqI:=by
 unfold Array.getD;split
 .rename_i h;rw[aaG h];exact⟨λz=>congrArg some z,λz=>aaQ z⟩
 .rename_i h;rw[adN (aaV h)];exact Iff.intro (λz=>nomatch z) (λz=>nomatch z)
def ed{M:Nat}{ow:asQ}(hs:ow.size=M+1){x:amW}:x∈cA M ow↔ow[x.1]?=some (aku x.2):=by
 unfold cA;rw[afD];constructor
 .rintro⟨j,hj,e⟩;obtain⟨i,e1,e2⟩:=acq.mp e;subst e2;exact getD_none.mp e1
 .intro h;have hl:=(abW.mp h).1;exact⟨x.1,abe.mpr (by rw[<-hs];exact hl),by rw[getD_none.mpr h];rfl⟩
def qO(M:Nat)(ow:asQ):(cA M ow).Pairwise λx y=>x.1<y.1:=by
 unfold cA;refine List.Pairwise.filterMap _ (R:=(· < ·)) (λa a' h b hb b' jd=>?_) aeL;obtain⟨i,_,e⟩:=acq.mp hb;obtain⟨i',_,e'⟩:=acq.mp jd;rw[<-e,<-e'];exact h
def Hu(t:ahK)(hs:aa0)(h:auM)(finger moves:Nat)(led plain:Bool):
  laid t.mask finger moves led plain hs.toArray=some ({mask:=t.mask,place:=((cA t.mask ow).map (·.1)).toArray,dummies:=#[],finger,led,moves,plain},((cA t.mask ow).map (·.2)).toArray):=by
 unfold laid;rw[h];rfl
def Hv{t:ahK}(hM:avt)(hs:aa0)(hl:av8)(finger moves:Nat)(led plain:Bool):
  ∃(pl:aqS) (order:ahW),laid t.mask finger moves led plain hs.toArray=some ({mask:=t.mask,place:=pl,dummies:=#[],finger,led,moves,plain},order.toArray)/\
   order.Perm (List.range hs.length)/\Tb {mask:=t.mask,place:=pl,dummies:=#[],finger,led,moves,plain} (order.map λi=>hs.getD i 0):=by
 obtain⟨ow,h1,o⟩:=DA hM hs hl;refine⟨_,_,Hu t hs h1 finger moves led plain,?_,?_⟩
 .have nd:((cA t.mask ow).map (·.2)).Nodup :=by
   rw[abD,abz];refine(qO t.mask ow).imp_of_mem λ{a b} ha hb xt z=>?_;have e1:=(ed o.sz).mp ha;have e2:=(ed o.sz).mp hb;rw[<-z]at e2;exact absurd (o.un _ _ _ e1 e2) (aaN xt)
  rw[acN nd agn];intro i;rw[abe,aaz];constructor
  .rintro⟨x,hx,rfl⟩;exact o.lt _ _ aG1
  .intro hi;obtain⟨j,e⟩:=o.ex i hi;exact⟨(j,i),(ed o.sz).mpr e,rfl⟩
 .have V2:∀j,B6 ow j->j∈(cA t.mask ow).map (·.1):=λj ⟨i,e⟩=>aaz.mpr ⟨(j,i),(ed o.sz).mpr e,rfl⟩;refine⟨⟨rfl,?_,λi j z=>?_,hM⟩,?_,λy hy=>?_⟩
  .rw[sP];show(((cA t.mask ow).map (·.1)).toArray.toList).Pairwise _;rw[abz];exact qO t.mask ow
  .have z:((cA t.mask ow).map (·.1)).toArray[i]?=some j:=z;rw[List.getElem?_toArray]at z;obtain⟨x,hx,rfl⟩:=aaz.mp (abb z);have:=(abW.mp aG1).1;rw[o.sz]at this;exact aaY this
  .show((cA t.mask ow).map (·.1)).toArray.size =_;rw[aay,aap,aap,aap]
  .have hy:y∈((cA t.mask ow).map (·.1)).zip (((cA t.mask ow).map (·.2)).map λi=>hs.getD i 0):=hy;rw[abc,List.zip_map']at hy;obtain⟨x,hx,rfl⟩:=aaz.mp hy;have e:=(ed o.sz).mp hx;have aU:=o.lt _ _ e;obtain⟨k,a,b⟩:=o.rc x.2 x.1 (hs.getD x.2 0) e (by rw[aaD,aai aU];rfl);refine⟨k,?_,λl hl=>?_⟩
   .exact(sO (t:={mask:=t.mask,place:=((cA t.mask ow).map (·.1)).toArray,dummies:=#[],finger,led,moves,plain}) (t':=t) rfl _ _).trans a
   .have:=V2 _ (b l hl);rw[<-sO (t:={mask:=t.mask,place:=((cA t.mask ow).map (·.1)).toArray,dummies:=#[],finger,led,moves,plain}) (t':=t) rfl]at this;exact this
def V3(hM:A5 M)(h1:M*3<=n*5)(h2:(n-1)*5<M*3)(hn:n<=720):A5 (sizeAbove aBq-1)/\n*5<(sizeAbove aBq-1)*3/\n<=sizeAbove aBq-1/\sizeAbove aBq<=16777216:=by
 rcases hM with rfl|rfl|rfl|rfl|rfl
 .have:n=5:=by omega
  subst this;exact⟨.inr (akN aa8),by decide +kernel,by decide +kernel,by decide +kernel⟩
 .have:n=19:=by omega
  subst this;exact⟨.inr (ant (akN aa8)),by decide +kernel,by decide +kernel,by decide +kernel⟩
 .have:n=77:=by omega
  subst this;exact⟨.inr (ant (.inr (akN aa8))),by decide +kernel,by decide +kernel,by decide +kernel⟩
 .have:n=307:=by omega
  subst this;exact⟨.inr (ant (.inr (.inr aa8))),by decide +kernel,by decide +kernel,by decide +kernel⟩
 .omega
end S2
namespace S2
open PySem PySem.Spec PyProof.Rows
section
variable {prog:ac7}{w:World}{A:ahp}{E:Value->Shared->Prop}{s:ab5}{c:Addr}{ks:aa0}
noncomputable abbrev IsT(prog:ac7)(w:World)(h:Heap)(ks:aa0)(c:Addr):Prop:=IsTupleKey aij h ks c
def ItemsAre.ints(h:ItemsAre aij ks vs):∀v∈vs,∃k t,v= .int k t:=by
 induction h with
 |nil=>intro v hv;cases hv
 |@cons k v' ks vs h1 _ ih=>
  intro v hv;rcases aat.mp hv with rfl|hv
  .have:ax5:=h1;cases v with
   |int j t=>exact⟨j,t,rfl⟩
   |_=>cases this
  .exact ih v hv
def all_ints{α:Type}{items:ae2}{f:Value->Option α×Unit->Sem (ForInStep (Option α×Unit))}{Q:Option α×Unit->Shared->Prop}(hi:ItemsAre aij ks items.toList)(hf:∀k t r,f (arF k) r=pure (.yield (none,())))(h:Q (none,()) s):wpAny aa2 A (forIn items (none,()) f) Q E s:=by
 rw[<-Array.forIn_toList];refine agi _ (λaT r s'=>r.1=none/\s'=s/\∀v∈aT,∃k t,v=Value.int k t) _ ?_ ?_ _ _ ⟨rfl,rfl,ItemsAre.ints hi⟩
 .rintro v aT r s' ⟨hr,rfl,mM⟩;obtain⟨k,t,rfl⟩:=mM v aaq;rw[hf];exact aao ⟨rfl,rfl,λu xg=>mM u (akQ xg)⟩
 .rintro⟨r1,r2⟩ s' ⟨hr,rfl,_⟩;simp only at hr;subst hr;exact h
def A6{Q:Bool->Shared->Prop}(hk:aCI)(h:Q true s):wpAny aa2 A (hashByValue 8 aoX) Q E s:=by
 have hT:=hk.typeIs;obtain⟨o,items,n,ho,_,hd,hi⟩:=hk;unfold hashByValue;refine aag (aez hT F.slot_tuple_hash.lookup ?_);exact aag (ado ho hd (aag (all_ints hi (λ_ _ _=>rfl) aDO)))
def qP{Q:Bool->Shared->Prop}(hk:aCI)(h:Q false s):wpAny aa2 A (ofAClassStatement 8 aoX) Q E s:=by
 have hT:=hk.typeIs;obtain⟨o,items,n,ho,_,hd,hi⟩:=hk;unfold ofAClassStatement;refine aag (adQ hT (aag (aao ?_)));exact aag (ado ho hd (aag (all_ints hi (λ_ _ _=>rfl) aDO)))
end
section
variable {prog:ac7}{w:World}{B:Addr->Prop}{A:ahp}{E:Value->Shared->Prop}{s:ab5}{a c:Addr}{x:aa0}{xs:ait}{t:ahK}{o:Obj}{ep:Nat}
noncomputable abbrev jf(prog:ac7)(w:World)(k:aa0):Int:=(tupleKind aij).hash k
noncomputable def TC(prog:ac7)(w:World)(x:Addr×List Int):Int×Value:=(ak3,.ref x.1)
noncomputable abbrev arr(prog:ac7)(w:World)(xs:ait):aiG:=(xs.map axv).toArray
structure qg(prog:ac7)(w:World)(t:ahK)(xs:ait):Prop where
 tb:Tb t (xs.map λx=>ak3)
 fl:xs.length*5<t.mask*3
 nd:(xs.map (·.2)).Nodup
def dg:(arr prog w xs).size =xs.length:=by simp
def m_{i:Nat}:(arr prog w xs)[i]?=(xs[i]?).map axv:=by simp
def yW(nd:t.dummies=#[])(hs:aCo)(hl:av0):t.fits (arr prog w xs).size =true:=by
 unfold SetTable.fits SetTable.fill;rw[nd,dg,aak];exact⟨beq_iff_eq.mpr hs,decide_eq_true (by rw[hs];exact hl)⟩
theorem qg.sz(h:ap8):aCo:=by rw[h.tb.sz,aap]
def qg.le(h:ap8):av0:=by
 have:=h.fl;omega
theorem qg.fits(h:ap8):t.fits (arr prog w xs).size =true:=yW h.tb.pl.nd h.sz h.le
def qg.odd(h:ap8):t.gaveWay=false:=by
 unfold SetTable.gaveWay;rcases h.tb.pl.ms with e|e|e|e|e<;>rw[e]<;>rfl
def Hw(hx:asI)(hv:∀v∈vs,∃b k,aph/\asJ)(h:Q false s):wpAny aa2 A (searchCouldBeSeen aoX vs) Q E s:=by
 unfold searchCouldBeSeen;refine aag ?_;refine agi _ (λaT r s'=>r.1=none/\s'=s/\∀v∈aT,∃b k,aph/\asJ) _ ?_ ?_ _ _ ⟨rfl,rfl,hv⟩
 .rintro v aT r s' ⟨hr,rfl,mM⟩;obtain⟨b,k,rfl,hb⟩:=mM v aaq;have tl:∀u∈aT,∃b k,u=Value.ref b/\IsT prog w s'.heap k b:=λu xg=>mM u (akQ xg);dsimp only;refine abp (λ_=>aao ⟨rfl,rfl,tl⟩) λ_=>?_;refine aag ((tupleKind aij).quiet hx ?_);refine abp (λz=>asD) λ_=>?_;refine aag ((tupleKind aij).quiet hb ?_);refine abp (λz=>asD) λ_=>?_;refine aag (qP hx ?_);refine abp (λz=>asD) λ_=>?_;refine aag (qP hb ?_);refine abp (λz=>asD) λ_=>?_;exact aao ⟨rfl,rfl,tl⟩
 .rintro⟨r1,r2⟩ s' ⟨hr,rfl,_⟩;simp only at hr;subst hr;exact aao h
def va(hu:aB5)(ho:aj7)(hd:ass)(D:ap8)(T:∀y∈xs,IsT prog w s.heap y.2 y.1)(hx:asI)
  {K:Nat} (hK:K<10*SetTable.turns t.mask) (k1:At t ahX K∉t.place.toList) (k2:∀l,l<K->At t ahX l∈t.place.toList)
  (hf:x∈xs.map (·.2)->Q (.there none) s) (hn:x∉xs.map (·.2)->Q (.free apF false) s):
  ∀(fuel k0:Nat) (yX:Option SetTable.Probe),K<fuel+k0->k0<=K->yX.getD (al5 ahX)=it t k0 (al5 ahX)->
   (∀l,l<k0->∀(i:Nat) y,t.place[i]?=some (At t ahX l)->xs[i]?=some y->y.2≠x)->wpAny aa2 A (setSearchFrom a aoX ahX true fuel yX) Q E s:=by
 have hH:∀{i:Nat}{y},xs[i]?=some y->((arr prog w xs)[i]?.map (·.1)).getD 0=jf prog w y.2:=λ{i y} e=>by rw[m_,e];rfl
 intro fuel;induction fuel with
 |zero=>intro k0 yX h1 h2;omega
 |succ fuel ih=>
  intro k0 yX h1 h2 mI hb;unfold setSearchFrom;refine aag (acP ho hd D.fits ?_);dsimp only;rw[D.odd,aaF aan,mI];obtain⟨met,m1,m2⟩:=D.tb.pl.step (H:=λi=>((arr prog w xs)[i]?.map (·.1)).getD 0) hK k1 k2 h2;erw[m1];rcases m2 with⟨b1,rfl⟩|⟨k,i,c1,c2,b1,c3,c4,rfl⟩
  .refine aao (hn λV4=>?_);obtain⟨y,hy,rfl⟩:=aaz.mp V4;obtain⟨i,hi⟩:=acD.mp hy;obtain⟨k,hk,hp⟩:=D.tb.met k1 (i:=i) (by rw[aaC,hi];rfl);rcases abx k k0 with z|z
   .exact hb k z i y hp hi rfl
   .exact b1 k z hk i hp (hH hi)
  .obtain⟨y,hi⟩:∃y,xs[i]?=some y:=⟨_,aai (by rw[<-D.sz];exact(abW.mp c3).1)⟩;have hv:∀v∈(((arr prog w xs).filter (·.1==jf prog w x)).toList.map (·.2)),∃b k,v=Value.ref b/\asJ:=λv hv=>by
    obtain⟨e',xu,rfl⟩:=aaz.mp hv;obtain⟨z,hz,rfl⟩:=aaz.mp (List.mem_toArray.mp (Array.mem_filter.mp (acK.mp xu)).1);exact⟨z.1,z.2,rfl,T z hz⟩
   refine(λkey=>abp (λ_=>aag (Hw hx hv (abp (λz=>awP) λ_=>key))) λ_=>key) ?_;rw[m_,hi];show wpAny _ _ (holding [Value.ref y.1] (eqBool (akE y.1) aoX) >>= _) _ _ s;refine aag (abq ((tupleKind aij).eqBool hu (T y (abb hi)) hx ?_));refine aag (acP ho hd D.fits ?_);by_cases q:y.2=x
   .exact abp (λ_=>aao (hf (amZ ⟨y,abb hi,q⟩))) λz=>absurd (by rw[decide_eq_true q];rfl) z
   .refine abp (λz=>absurd z (by rw[decide_eq_false q];decide)) λ_=>?_;have sm:t.sameMemory t.moves t.mask=some true:=by unfold SetTable.sameMemory;rw[aaB (beq_self_eq_true _)]
    dsimp only;rw[sm];dsimp only;rw[aaB rfl,D.tb.pl.live.mpr c3];dsimp only;rw[m_,hi];refine aag (wpAny_isSame_ref_self (aag (aao ?_)));rw[aaB rfl];refine abp (λz=>absurd z (by rw[decide_eq_false q];decide)) λ_=>?_;refine ih (k+1) _ aa3 aa3 rfl λl hl i' y' gy e'=>?_;rcases abx l k0 with z|z
    .exact hb l z i' y' gy e'
    .rcases adm (aaY hl)with z'|z'
     .intro q';exact b1 l z z' i' gy (by rw[<-q'];exact hH e')
     .subst z';have a1:=D.tb.pl.live.mpr gy;rw[D.tb.pl.live.mpr c3]at a1;cases a1;rw[hi]at e';cases e';exact q
end
section
variable {prog:ac7}{w:World}{B:Addr->Prop}{A:ahp}{E:Value->Shared->Prop}{s:ab5}{a c:Addr}{x:aa0}{L:ab3}{xs:ait}{es:aiG}{t:ahK}{o:Obj}{ep:Nat}{h h':Heap}
noncomputable def DB(prog:ac7)(w:World)(b:Bool)(a:Addr)(xs:ait)(h:Heap):Prop:=
 ∃o ep t,am7/\o.ExactSet/\ass/\t.led=b/\t.plain=true/\qg prog w t xs
noncomputable def kg(prog:ac7)(w:World)(b:Bool)(a:Addr)(B:Addr->Prop)(L:ab3)(h:Heap):Prop:=∃xs,(xs.map (·.2)).Perm L/\(∀x∈xs,B x.1/\IsT prog w h x.2 x.1)/\DB prog w b a xs h
def vb(hk:IsT prog w h k b)(ho:am7)(hd:atp)(hs:Heap.SameBut a h h'):IsT prog w h' k b:=by
 obtain⟨o',items,n,h1,h2,h3,h4⟩:=hk;refine⟨o',items,n,?_,h2,h3,h4⟩;have:b≠a:=λz=>by
  subst z;rw[ho]at h1;cases h1;rw[hd]at h3;cases h3
 rw[hs.2 b this];exact h1
def sQ(ho:am7)(hd:atp):(h.update a aFl).get? a=some {o with data:= .set wo (ep+1) t'}:=by
 have:=abu aFl ho (by rw[putSet_of wo t' hd];rfl);rw[putSet_of wo t' hd]at this;exact this
def A7(l:ahB)(p:Nat)(x:α):(dA l p x).Perm (l++[x]):=by
 unfold dA;refine(List.perm_middle).trans ?_;rw[ach];exact aeZ (l₁:=[x]) (l₂:=l)
theorem DC{α β:Type}{f:α->Option β}{g:α->β}:∀{l:ahB},(∀i∈l,f i=some (g i))->l.filterMap f=l.map g
 |[],_=>rfl
 |i::l,h=>by
  rw[adD,h i aaq,aaX,DC λj hj=>h j (akQ hj)]
def range_getD(l:ahB)(d:α):(List.range l.length).map (λi=>l.getD i d)=l:=by
 apply acC;intro i;rw[aaC];rcases abx i l.length with z|z
 .rw[acQ z,adR,aaD,aai z];rfl
 .rw[aaS (by rw[aeT];exact z),aaS z];rfl
def Ra{Q:Unit->Shared->Prop}(ho:aj7)(hex:o.ExactSet)(hd:ass)(dq:t.plain=true)(tb:Tb t (xs.map λx=>ak3))(wV:av0)
  (nd:(xs.map (·.2)).Nodup) (h1:t.mask*3<=xs.length*5) (h2:(xs.length-1)*5<t.mask*3) (hn:xs.length<=720)
  (hq:∀h' Rb,akj->Rb.Perm xs->DB prog w t.led a Rb h'->Q () {s with heap:=h'}):wpAny aa2 A (setRelay a (SetTable.grown xs.length)) Q E s:=by
 obtain⟨g1,g2,g3,g4⟩:=V3 tb.pl.ms h1 h2 hn;generalize SetTable.grown xs.length=G at g1 g2 g3 g4⊢;have aG:=aap (as:=xs) (λx=>ak3);obtain⟨pl,order,l1,l2,l3⟩:=Hv (t:={t with mask:=SetTable.sizeAbove G-1}) g1 (xs.map λx=>ak3) (by rw[aG];exact g3) t.finger (t.movedTo (SetTable.sizeAbove G-1)) t.led t.plain;rw[aG]at l2;unfold setRelay;refine aag (acP ho hd (yW tb.pl.nd (by rw[tb.sz,aG]) wV) ?_);dsimp only;rw[aaF (by rw[sizeLine_eq];exact afs.mpr g4)];have Rc:∀i∈order,xs[i]?=some aqX:=λi hi=>by
  rw[aaD,aai (abe.mp (l2.mem_iff.mp hi))];rfl
 have e1:order.toArray.filterMap ((arr prog w xs)[·]?)=arr prog w (order.map λi=>aqX):=by
  apply agk.mp;rw[Array.toList_filterMap];show order.filterMap _=List.map _ _;rw[abc];exact DC λi hi=>by rw[m_,Rc i hi];rfl
 have pm:(order.map λi=>aqX).Perm xs:=(l2.map _).trans (.of_eq (range_getD xs _));have rl:t.relaid ((arr prog w xs).map (·.1)) G=SetTable.laid (SetTable.sizeAbove G-1) t.finger (t.movedTo (SetTable.sizeAbove G-1)) t.led t.plain (xs.map λx=>ak3).toArray :=by
  unfold SetTable.relaid;rw[show(arr prog w xs).map (·.1)=(xs.map λx=>ak3).toArray by rw[List.map_toArray,abc];rfl]
 rw[rl.trans l1];refine aag ?_;show wpAny _ _ (if(order.toArray.filterMap ((arr prog w xs)[·]?)).size !=(arr prog w xs).size then _ else pure (order.toArray.filterMap ((arr prog w xs)[·]?),_)) _ _ s;rw[e1,dg,dg,pm.length_eq,aaF ab1];refine aao (wpAny_storeSet_of ho hd ?_ (by rw[dg,pm.length_eq,sizeLine_eq];omega));refine hq _ _ (abA ..) pm ⟨_,_,_,sQ ho hd,hex,rfl,rfl,dq,?_,by rw[pm.length_eq];exact g2,(pm.map _).nodup_iff.mpr nd⟩;rw[show(order.map λi=>aqX).map (λx=>ak3)=order.map λi=>(xs.map λx=>ak3).getD i 0 by
  rw[abc];exact ade λi hi=>by
   rw[aaD,aaC,Rc i hi];rfl]
 exact l3
end
section
variable {prog:ac7}{w:World}{B:Addr->Prop}{A:ahp}{E:Value->Shared->Prop}{s:ab5}{a c:Addr}{x:aa0}{L:ab3}{b:Bool}
def vc(f:α->β)(l:ahB)(p:Nat)(x:α):(dA l p x).map f=dA (l.map f) p (f x):=by
 unfold dA;rw[abd,aaX,aeF,ahi]
def oy(h:L.Nodup):(gK L x).Nodup :=by
 unfold gK;split
 .exact h
 .rename_i q;rw[abL];exact⟨h,abo.mpr ⟨afk,adL⟩,λy hy z hz e=>q (by rw[<-aar.mp hz,<-e];exact hy)⟩
def DD(hu:aB5)(hS:kg prog w b a B L s.heap)(hx:asI)(hc:B c)(hn:x∉L->L.length<720)
  (h:∀h' r,akj->kg prog w b a B (gK L x) h'->Q r {s with heap:=h'}):wpAny aa2 A (setAddHashed a aoX ahX) Q E s:=by
 obtain⟨xs,pm,T,o,ep,t,ho,hex,hd,hl,dq,D⟩:=hS;obtain⟨K,hK,k1,k2⟩:=D.tb.pl.first (by rw[D.sz];exact D.le) ahX;unfold setAddHashed setAddHashedIn;refine abq (aag (acP ho hd D.fits ?_));dsimp only;rw[aaF (show¬(byScan aoX ajn=true) from aan)];have hM:t.mask<=2047:=by rcases D.tb.pl.ms with e|e|e|e|e<;>rw[e]<;>decide
 refine aag (va hu ho hd D (λy hy=>(T y hy).2) hx hK k1 k2 (λhm=>?_) (λhm=>?_) 100000 0 none (by unfold SetTable.turns at hK;omega) ao3 rfl λl hl=>avh)
 .refine aao (h s.heap false (Heap.SameBut.refl a s.heap) ?_);unfold gK;rw[aaB (aEu hm)];exact⟨xs,pm,T,o,ep,t,ho,hex,hd,hl,dq,D⟩
 .have AA:x∉L:=λz=>hm (pm.mem_iff.mpr z);have hn:=hn AA;have ln:xs.length=L.length:=by rw[<-pm.length_eq,aap]
  refine aag (acP ho hd D.fits ?_);dsimp only;rw[My D.tb.pl.nd];dsimp only;rw[dq,aaB rfl];refine aag (A6 hx ?_);rw[aaB rfl];have OO:=D.tb.put k1 k2 (Kh D.tb.pl.ms _ _);generalize SetTable.below t.place apF=p at OO;have ea:SetTable.insertAt ajn p (ahX,Value.ref c)=arr prog w (dA xs p (c,x)):=by
   apply agk.mp;rw[cD];exact(vc axv xs p (c,x)).symm
  have eh:dA (xs.map λy=>jf prog w y.2) p ahX=(dA xs p (c,x)).map λy=>jf prog w y.2:=(vc _ xs p (c,x)).symm;rw[eh]at OO;have pm0:=A7 xs p (c,x);have V5:((dA xs p (c,x)).map (·.2)).Perm (gK L x):=by
   unfold gK;rw[aaF AA];exact(pm0.map _).trans (by rw[abd];exact pm.append_right _)
  have Yb:((dA xs p (c,x)).map (·.2)).Nodup :=V5.nodup_iff.mpr (oy (pm.nodup_iff.mp D.nd));have l1:(dA xs p (c,x)).length =xs.length+1:=gQ;rw[ea,dg];refine aag (wpAny_storeSet_of ho hd ?_ (by rw[dg,l1,sizeLine_eq];omega));have sb:=abA s.heap a (Obj.putSet (arr prog w (dA xs p (c,x))) {t with place:=SetTable.insertAt t.place p apF,plain:=true});have T1:∀{h':Heap},akj->∀y∈dA xs p (c,x),B y.1/\IsT prog w h' y.2 y.1:=λ{h'} sb y hy=>by
   rcases kc.mp hy with rfl|hy
   .exact⟨hc,vb hx ho hd sb⟩
   .exact⟨(T y hy).1,vb (T y hy).2 ho hd sb⟩
  rw[dq]at OO;have fill:({t with place:=SetTable.insertAt t.place p apF,plain:=true}:ahK).fill =xs.length+1:=by
   have:=OO.sz;unfold SetTable.fill;show _+t.dummies.size=_;rw[this,D.tb.pl.nd,aap,l1];rfl
  have fl:=D.fl;refine abp (λz=>?_) (λz=>?_)
  .have Ki:t.mask*3<=(xs.length+1)*5:=by
    have z:({t with place:=SetTable.insertAt t.place p apF,plain:=true}:ahK).tooFull =true:=z;unfold SetTable.tooFull at z;rw[fill]at z;exact of_decide_eq_true z
   rw[<-l1]at Ki⊢;refine aag (Ra (sQ ho hd) hex rfl rfl OO ?_ Yb Ki ?_ ?_ λh' Rb Yc Yd S'=>aao (h h' true (sb.trans Yc) ⟨Rb,(Yd.map _).trans V5,λy hy=>T1 (sb.trans Yc) y (Yd.mem_iff.mp hy),hl▸S'⟩))
   .rw[l1];show xs.length+1<=t.mask;rcases D.tb.pl.ms with e|e|e|e|e<;>rw[e]at fl⊢ <;> omega
   .rw[l1];exact fl
   .rw[l1];omega
  .refine aao (h _ true sb ⟨_,V5,T1 sb,_,_,_,sQ ho hd,hex,rfl,hl,rfl,OO,?_,Yb⟩);rw[l1];show(xs.length+1)*5<t.mask*3;refine adI λq=>z ?_;show({t with place:=SetTable.insertAt t.place p apF,plain:=true}:ahK).tooFull =true;unfold SetTable.tooFull;rw[fill];exact decide_eq_true q
end
def DE(l:ab3)(x:aa0):jS (l++[x])=gK (jS l) x:=by
 unfold jS;rw[afU];rfl
def DF:y∈gK L x↔y∈L\/y=x:=by
 unfold gK;split
 .rename_i h;exact⟨.inl,λz=>z.elim id λe=>e▸h⟩
 .rw[aaH,aar]
theorem vd:∀{l L:ab3}{y:aa0},y∈l.foldl gK L↔y∈L\/y∈l
 |[],L,y=>⟨.inl,λz=>z.elim id λz=>nomatch z⟩
 |x::l,L,y=>by
  rw[aeA,vd,DF,aat,or_assoc]
def nc:y∈jS l↔y∈l:=vd.trans ⟨λz=>z.elim (λz=>nomatch z) id,.inr⟩
def Hx(L:ab3)(x:aa0):L.length<=(gK L x).length :=by
 unfold gK;split
 .exact aas _
 .rw[aau];exact aaM _ _
theorem yY:∀(l L:ab3),L.length<=(l.foldl gK L).length
 |[],L=>aas _
 |x::l,L=>by
  rw[aeA];exact aam (Hx L x) (yY l _)
def DG(h:i<n)(hv:v i∉jS aA_):(jS aA_).length<(jS aA9).length :=by
 have e:(List.range n).map v=((List.range i).map v++[v i])++((List.range n).map v).drop (i+1):=by
  conv=>lhs;rw[<-ach (i+1) aA9]
  rw[<-aeF,List.take_range,acs h,List.range_succ,abd];rfl
 rw[e];unfold jS at hv⊢;rw[afU];refine aaj ?_ (yY _ _);rw[afU];show _<(gK _ (v i)).length;unfold gK at hv⊢;rw[aaF hv,aau];exact abY _
theorem oz:∀{l L:ab3},L.Nodup->(l.foldl gK L).Nodup
 |[],_,h=>h
 |_::l,_,h=>oz (l:=l) (oy h)
def qQ(l:ab3):(jS l).Nodup :=oz adL
section
variable {prog:ac7}{w:World}{B:Addr->Prop}{A:ahp}{E:Value->Shared->Prop}{s:ab5}{a c:Addr}{x:aa0}{L:ab3}{b:Bool}{h h':Heap}
def oA(hk:axC)(hs:∀o,h.get? c=some o->h'.get? c=some o):IsT prog w h' k c:=by
 obtain⟨o',items,n,h1,h2⟩:=hk;exact⟨o',items,n,hs _ h1,h2⟩
def kg.keep(hB:∀c,B c->c<a)(hS:kg prog w b a B L h)(k:∀c o,c<=a->h.get? c=some o->h'.get? c=some o):kg prog w b a B L h':=by
 obtain⟨xs,pm,T,o,ep,t,ho,q⟩:=hS;exact⟨xs,pm,λx hx=>⟨(T x hx).1,oA (T x hx).2 λo z=>k x.1 o (aaE (hB _ (T x hx).1)) z⟩,o,ep,t,k a o ac9 ho,q⟩
section
variable {R:Result->Shared->Prop}{I S:Addr}{fp wr:ae_}{G:aAi->Array GenState->Prop}{n:Nat}{P:Nat->Value->Prop}{St:Nat->Shared->Prop}{val:Nat->List Int}
def A8(W:WalksS prog w A.in1 I fp wr G n P St)(Ye:S∉fp)(hw:∀b∈wr,S<b)(hu:A.in1.units<cLine)(hn:(jS azr).length <=720)(hB:∀c,B c->c<S)(wQ:∀i v,i<n->P i v->∃c,aCV/\B c):∀(m i:Nat) (s:ab5),n-i=m->i<=n->St i s->
  (∀i c,i<n->P i aoX->IsT prog w s.heap (val i) c)->kg prog w b S B av7 s.heap->(∀s',Moved (S::wr) G s s'->kg prog w b S B (jS azr) s'.heap->aCF)->
  codeAny aa2 A (.builtin "set.update.loop" ⟨[.ref S,.ref I],[]⟩) R s:=by
 have nw:S∉wr:=λz=>Ye aDW;have lw:∀c,c<=S->c∉wr:=λc hc z=>adh hc (hw c z);have sub:∀b∈wr,b∈S::wr:=λb z=>aal _ z;intro m;induction m with
 |zero=>
  intro i s hm hi st T hS hR;have e:i=n:=by omega
  subst e;refine acg F.entry_set_update_loop ?_;rw[acJ aeG _];refine aag (m:=pyNext (akE I)) (W.done s _ _ st λs' mv=>aao (hR s' (mv.mono sub) (hS.keep hB λc o hc z=>mv.heap c o (lw c hc) z)))
 |succ m ih=>
  intro i s hm hi st T hS hR;have lt:i<n:=by omega
  refine acg F.entry_set_update_loop ?_;rw[acJ aeG _];refine aag (m:=pyNext (akE I)) (W.item i s _ _ lt st λv s' hP au mv=>?_);obtain⟨c,rfl,hc⟩:=wQ i v lt hP;have T':∀i c,i<n->P i aoX->IsT prog w s'.heap (val i) c:=λi c hi hp=>by
   obtain⟨c',e,kN⟩:=wQ i _ hi hp;cases e;exact oA (T i c hi hp) λo z=>mv.heap c o (lw c (aaE (hB c kN))) z
  show wpAny _ A.in1 (holding [Value.ref c] (setAdd S aoX) >>= _) _ _ s';refine aag (abq ?_);unfold setAdd;refine abq (aag ((tupleKind aij).pyHash (k:=val i) hu (T' i c lt hP) ?_));have tU:kg prog w b S B av7 s'.heap:=hS.keep hB λc o hc z=>mv.heap c o (lw c hc) z;refine DD (s:={s' with toks:=s'.toks+(tupleKind aij).draws (val i)}) hu tU (T' i c lt hP) hc (λz=>aaj (DG lt z) hn) λh' r sb oq=>?_;refine aao ⟨plainId_quiet aeG _,ih (i+1) _ aa3 lt (W.frame _ s' _ _ au aiD λb hb o e=>?_) (λi c hi hp=>?_) ?_ λs2 mv2 jy=>?_⟩
  .rw[sb.2 b λz=>Ye (z▸hb)];exact e
  .obtain⟨c',e,kN⟩:=wQ i _ hi hp;cases e;exact oA (T' i c hi hp) λo z=>by rw[sb.2 c (aaN (hB c kN))];exact z
  .rw[List.range_succ,abd];show kg prog w b S B (jS (_++[val i])) h';rw[DE];exact oq
  .refine hR s2 (Moved.trans W.gtrans ((mv.mono sub).then_heap aiD λb o hb e=>?_) mv2) jy;rw[sb.2 b λz=>hb (z▸aaq)];exact e
end
end
open PySem.W
section
variable {prog:ac7}{w:World}{B:Addr->Prop}{A:ahp}{E:Value->Shared->Prop}{s:ab5}{a c:Addr}
noncomputable abbrev sR(w:World):Obj:={cls:= .type "set",dict:=none,data:= .set #[] 0 (.fresh 0 0 (!w.params.followText "set-order"))}
def Hy{u:Value}{Q:Value->Shared->Prop}(h:Q ab6 {s with heap:=s.heap.push (sR w)}):codeAny aa2 A (.call (.builtin "set.__new__") ⟨[.type "set",u],[]⟩) (wants Q E) s:=by
 refine codeAny_of_tree ?_;show wpAny _ A.in1 (do checkBuiltinCall "set.__new__" ⟨[.type "set",u],[]⟩;again (.builtin "set.__new__" ⟨[.type "set",u],[]⟩)) _ _ s;refine aag (aeP (F.newCall_set_1 u) (aao ⟨plainId_quiet F.plain_set_new _,acg F.entry_set_new ?_⟩));rw[acJ F.plain_set_new _];unfold Builtin.«set.__new__» Builtin.Frozenset.newClass;have Qy:=sub_set_self;obtain⟨hp,g,d,tk,os⟩:=s;dsimp only;wp_walk;refine aen (aao ?_);dsimp only;simp only[newObj];exact aag (wpAny_alloc (aao aDO))
def A9{hp:Heap}(h:hp.get? a=some (sR w)):kg prog w (!w.params.followText "set-order") a B [] hp:=by
 refine⟨[],.nil,(λx hx=>nomatch hx),_,0,_,h,ajk,rfl,rfl,rfl,⟨⟨rfl,λa b x y _ z=>?_,λi j z=>?_,ahq⟩,rfl,(λx hx=>nomatch hx)⟩,show 0*5<7*3 by decide,adL⟩
 .have z:(#[]:aqS)[a]?=some x:=z;simp at z
 .have z:(#[]:aqS)[i]?=some j:=z;simp at z
def A_{l:Addr}{vs:ab0}{ks:ab3}{Q:Value->Shared->Prop}(hh:af4)(hu:A.units+64<cLine)(hl:ay1)(hn:vs.length=ks.length)(h7:(jS ks).length <=720)
  (hi:∀(i:Nat) v,vs[i]?=some v->∃c,aCV/\aBZ)
  (h:∀(h':Heap) (tk:Nat),kg prog w (!w.params.followText "set-order") s.heap.objs.size (λc=>arN) (jS ks) h'->(∀b o,ab2->ad4)->Q ab6 {s with heap:=h',toks:=tk}):
  wpAny aa2 A (arC (.type "set")) Q E s:=by
 obtain⟨c,tl,aac⟩:=adW.mro;have Yf:=adW.made;have Qy:=adW.sub;refine wpAny_call (codeAny_of_tree ?_);show wpAny _ _ (callAny (.type "set") _) _ _ _;refine aao ⟨Code.quiet_builtin _ aa8,acg F.entry_type_call ?_⟩;rw[Around.under_plain (weight_type_call_type "set" [aic] []) rfl];have h1:=adW.notType;have h2:=adW.canCreate;have hct:=F.typeCall_set_1 aic
 repeat (any_goals (first|assumption|wp_step))
 refine aeY (Hy (E:=E) (Q:=λobj s1=>obj= .ref s.heap.objs.size/\s1={s with heap:=s.heap.push (sR w)}) ⟨rfl,rfl⟩) λr s1 hr=>?_;cases r with
 |error e=>exact hr
 |ok fl=>
  cases fl with
  |ret obj=>
   obtain⟨rfl,rfl⟩:=hr;have hS:(s.heap.push (sR w)).get? s.heap.objs.size=some (sR w):=aav _ rfl;have hT:Shared.TypeIs {s with heap:=s.heap.push (sR w)} ab6 "set":=⟨_,hS,rfl⟩;have hli:=adW.init.lookup;have XR:=adW.init.bind ab6
   repeat (any_goals (first|assumption|wp_step))
   refine aeY (afn (R:=wants (λr s2=>r= .none /\∃h' tk,s2={s with heap:=h',toks:=tk}/\kg prog w (!w.params.followText "set-order") s.heap.objs.size (λc=>arN) (jS ks) h'/\∀b o,ab2->ad4) E) adW.init.plain F.entry_set_init (check_set_init_1 hT ?_)) λr2 s2 Md=>?_
   .obtain⟨ol,J3,Yg,nl,J_⟩:=hl;obtain⟨aad,Rf,Yh,MA⟩:=ol;simp only at Yg J_;subst Yg;subst J_;have V6:(s.heap.push (sR w)).get? l=some {cls:= .type "list",dict:=Rf,data:= .seq vs.toArray nl,slots:=MA}:=aah _ J3;have aae:=F.sub_list_set;have aaf:=F.sub_list_frozenset;have eJ:(Value.type "list" == Value.type "dict")=false:=by decide
    have Yi:(s.heap.push (sR w)).IsList l vs.toArray:=⟨_,V6,rfl,nl,rfl⟩;unfold Builtin.«set.__init__» noKeywords Builtin.Frozenset.updateFrom;generalize hPI:pyIter=PI;wp_walk;subst hPI;refine acO Yi (aag (agQ ?_));have hlS:am4:=aaA J3;have hh3:A.in1.in1.in1.handled=none:=by simp[hh]
    have z1:(s.heap.push (sR w)).objs.size =s.heap.objs.size+1:=acj ..;have Pk:vs.toArray.size=ks.length:=by rw[aay];exact hn
    have e0:(List.range vs.toArray.size).map (λi=>auN)=ks:=by rw[Pk];exact range_getD ks []
    have DH:∀(i:Nat) v,vs.toArray[i]?=some v->∃c,aCV/\(arN/\c<s.heap.objs.size)/\aBZ:=λi v hv=>by
     have hv:vs[i]?=some v:=by simpa using hv
     obtain⟨c,rfl,q⟩:=hi i v hv;exact⟨c,rfl,⟨abb hv,q.elim λo ⟨_,_,e,_⟩=>aaA e⟩,q⟩
    refine A8 ((ahl hh3 _ l (by rw[z1];lia) vs.toArray).toS) (val:=λi=>auN) (by
     rw[z1];simp only[aat,afk,or_false,not_or];exact⟨by lia,by lia⟩) (λb hb=>by
     rw[z1]at hb;cases aar.mp hb;exact abY _) ?_ (by rw[e0];exact h7) (B:=λc=>arN) (λc hc=>?_) (λi v _ hv=>(DH i v hv).elim λc q=>⟨c,q.1,q.2.1.1⟩) _ 0 _ rfl ao3 ⟨ah3,Yi.push _⟩ (λi c _ hp=>?_) (A9 (aAr hS)) λs3 mv jy=>?_
    .show A.units+1+1+1<cLine;omega
    .obtain⟨i,gy⟩:=acD.mp hc;obtain⟨c',e,q,_⟩:=DH i _ (by simpa using gy);cases e;exact q.2
    .obtain⟨c',e,_,q⟩:=DH i _ hp;cases e;exact oA q λo z=>aah _ (aAr z)
    .rw[e0]at jy;rw[Moved.eq_with mv];refine aao (aao ⟨rfl,_,_,rfl,jy,λb o e=>?_⟩);have lb:=aaA e;exact mv.heap b o (by rw[z1];simp only[aat,afk,or_false,not_or];exact⟨by lia,by lia⟩) (aAr aiY)
   .cases r2 with
    |error e=>exact Md
    |ok fl2=>
     cases fl2 with
     |ret r=>
      obtain⟨rfl,h',tk,rfl,tU,xj⟩:=Md
      repeat (any_goals (first|assumption|wp_step))
      exact h _ _ tU xj
     |_=>exact Md.elim
  |_=>exact hr.elim
end
open L2
def ng:Slot "set_iterator" "__next__" "set_iterator.__next__":= .of (owner:="set_iterator") (n:="__next__") (by rw[typeLookup_type,builtinLookup_eq_fast];kernel_rfl) aa8 aa8 aa8 (by first|exact .inl aa8|exact .inr aa8) (by rw[isSubtype_type];kernel_rfl)
def yZ:Slot "set_iterator" "__iter__" "set_iterator.__iter__":= .of (owner:="set_iterator") (n:="__iter__") (by rw[typeLookup_type,builtinLookup_eq_fast];kernel_rfl) aa8 aa8 aa8 (by first|exact .inl aa8|exact .inr aa8) (by rw[isSubtype_type];kernel_rfl)
def DI:entryFor table "set_iterator.__next__"=some Builtin.«set_iterator.__next__»:=entryFor_of_tree (by kernel_rfl)
def DJ:entryFor table "set_iterator.__iter__"=some Builtin.«dict_keyiterator.__iter__»:=entryFor_alias (id':="dict_keyiterator.__iter__") (by kernel_rfl) rfl aa8 (by kernel_rfl)
def Ba:entryFor table "set.__iter__"=some Builtin.«frozenset.__iter__»:=entryFor_alias (id':="frozenset.__iter__") (by kernel_rfl) rfl aa8 (by kernel_rfl)
def DK(v:Value):argsOk "set_iterator.__next__" ⟨[v],[]⟩:=by unfold argsOk;kernel_rfl
def DL(v:Value):argsOk "set_iterator.__iter__" ⟨[v],[]⟩:=by unfold argsOk;kernel_rfl
noncomputable def oB(w:World)(d:Addr)(ep:Nat)(es:aiG):aiG:=if w.params.followText "set-order" then pickOrder (w.params.setOrder d ep) es else es
theorem oC:∀(l:ahB) (i:Nat) (h:i<l.length),(l[i]::l.eraseIdx i).Perm l
 |x::l,0,_=> .refl _
 |x::l,i+1,h=>(List.Perm.swap x _ _).trans ((oC l i (by simpa using h)).cons x)
theorem y0(f:Nat->Nat):∀(n k:Nat) (l:ahB) (out:Array α),l.length=n->(pickOrder.go f n k l out).toList.Perm (out.toList++l)
 |0,k,l,out,h=>by
  rw[agf.mp h,abm];exact .refl _
 |n+1,k,l,out,h=>by
  have aU:f k%l.length<l.length:=aeb _ (by lia);rw[pickOrder.go,aai aU];refine(y0 f n (k+1) _ _ (by rw[afC aU];lia)).trans ?_;rw[acZ,aaZ];exact adk _ (oC l _ aU)
def oD(w:World)(d:Addr)(ep:Nat)(es:aiG):(oB w d ep es).toList.Perm es.toList:=by
 unfold oB;split
 .exact y0 _ _ _ _ _ (aaK ..)
 .exact .refl _
noncomputable def y8(b:Bool)(pl:aqS)(i:Nat):Nat:=if b then 0 else if i=0 then 0 else pl.getD (i-1) 0+1
def Hz{xs:aqS}{j i i':Nat}(h:TB xs j i)(h':TB xs j i'):i=i':=by
 rcases acm i i' with z|z|z
 .have hi:i<xs.size:=aaj z h'.1;have e:=aaG hi;exact absurd (h'.2.1 i _ z e) (adh (h.2.2 i _ ac9 e))
 .exact z
 .have hi:i'<xs.size:=aaj z h.1;have e:=aaG hi;exact absurd (h.2.1 i' _ z e) (adh (h'.2.2 i' _ ac9 e))
def DM{xs:aqS}(hr:Ho xs){i:Nat}(hi:i<=xs.size):SetTable.below xs (y8 false xs i)=i:=by
 refine Hz (lu hr _) ⟨hi,λk x hk e=>?_,λk x hk e=>?_⟩
 .have h0:i≠0:=by omega
  have hl:i-1<xs.size:=by omega
  have e1:=aaG hl;show x<(if i=0 then 0 else xs.getD (i-1) 0+1);rw[aaF h0,show xs.getD (i-1) 0=xs[i-1] from by unfold Array.getD;rw[dif_pos hl];rfl];rcases adm (show k<=i-1 by omega)with z|z
  .exact acB (aCh e1)
  .subst z;rw[e1]at e;cases e;exact abY _
 .show(if i=0 then 0 else xs.getD (i-1) 0+1)<=x;split
  .exact abn _
  .have hl:i-1<xs.size:=by omega
   rw[show xs.getD (i-1) 0=xs[i-1] from by unfold Array.getD;rw[dif_pos hl];rfl];exact hr (i-1) k _ _ aa3 (aaG hl) e
structure Wk(w:World)(t:ahK)(es:aiG):Prop where
 led:t.led=!w.params.followText "set-order"
 pln:t.plain=true
 ris:Ho t.place
 sz:t.place.size=es.size
 fit:t.fits es.size=true
section
variable {prog:ac7}{w:World}{A:ahp}{E:Value->Shared->Prop}{s:ab5}{d it:Addr}{t:ahK}{o:Obj}{es:aiG}{ep i:Nat}
def MB{Q:Option (Value×Nat)->Shared->Prop}(ho:s.heap.get? d=some o)(hd:atp)(W:ayE)(hi:i<=es.size)
  (h:Q (((oB w d ep es)[i]?).map λe=>(e.2,y8 (w.params.followText "set-order") t.place (i+1))) s):wpAny aa2 A (setNext d (ax6 (w.params.followText "set-order")) i ep) Q E s:=by
 obtain⟨l1,l2,l3,l4,hf⟩:=W;unfold setNext;refine aag (acP ho hd hf ?_);dsimp only;unfold setsByText;refine aag (aag (aen (aao ?_)));unfold oB at h;cases hb:w.params.followText "set-order" with
 |true=>
  rw[hb,aaB rfl]at h;refine abp (λ_=>?_) (λz=>absurd hb z);refine abp (λz=>aDN) (λ_=>?_);unfold setWalk setsByText;refine aag (aag (acP ho hd hf (aag (aag (aen (aao ?_))))));refine abp (λ_=>aag (aen (aao (aao ?_)))) (λz=>absurd hb z);exact h
 |false=>
  rw[hb,aaF aan]at h;rw[hb]at l1;have hbl:SetTable.below t.place (ax6 false)=i:=DM l3 (by rw[l4];exact hi);obtain⟨mask,place,dummies,finger,led,moves,plain⟩:=t;have l1:led=true:=l1;have l2:plain=true:=l2;subst l1 l2;refine abp (λz=>absurd (hb.symm.trans z) aan) (λ_=>?_);refine abp (λz=>awP) (λ_=>?_);refine aag (abp (λz=>awP) (λ_=>aao ?_));rw[hbl];rcases abx i es.size with z|z
  .have h1:es[i]?=some es[i]:=aaG _;have hp:i<place.size:=by rw[show place.size=es.size from l4];exact z
   have h2:place[i]?=some place[i]:=aaG _;rw[h1]at h⊢;rw[h2];have e:y8 false place (i+1)=place[i]+1:=by
    show(if i+1=0 then 0 else place.getD i 0+1)=_;rw[aaF (Nat.succ_ne_zero _)];unfold Array.getD;rw[dif_pos hp];rfl
   have h:Q (aku (es[i].2,y8 false place (i+1))) s:=h;rw[e]at h;exact aao h
  .have h1:es[i]?=none:=adN z;rw[h1]at h⊢;exact aao h
noncomputable def DN(h:Heap)(it d:Addr)(sl i n ep:Nat):Prop:=∃o,arI/\o.cls= .type "set_iterator"/\o.data= .fields #[.int sl 0,.int i 0,aEd,.int n 0,.int ep 0]
noncomputable abbrev Yj(d:Addr)(n ep:Nat):Obj:={cls:= .type "set_iterator",data:= .fields #[aB8,aB8,aEd,.int n 0,.int ep 0]}
noncomputable def sS(d:Addr)(t:ahK)(es:aiG)(ep:Nat)(h:Heap):Prop:=∃o,aym/\o.ExactSet/\o.data= .set es ep t
def sS.keep(h:sS d t es ep hp)(k:∀o,hp.get? d=some o->JX.get? d=some o):sS d t es ep JX:=let ⟨o,a,b⟩:=h;⟨o,k o a,b⟩
def sS.ty(h:at9):s.TypeIs azZ "set":=let ⟨o,a,b,_⟩:=h;⟨o,a,b.1⟩
def MC(r:at9)(y9:ayE)(h:Q ab6 {s with heap:=s.heap.push (Yj d es.size ep)}):wpAny aa2 A (aG5 azZ) Q E s:=by
 have T:=r.ty;obtain⟨o,ho,hex,hd⟩:=r;have hf:=y9.fit;refine aeQ T F.slot_set_iter (abt F.slot_set_iter T Ba ?_ (F.args_set_iter_1 _));unfold Builtin.«frozenset.__iter__»;refine aag (m:=Builtin.Frozenset.slot0 "__iter__" _) (aao (a:=d) ?_);refine aag (aag (wpAny_setEntries_of ho hd hf (aao ?_)));unfold setDrawn setsByText;refine aag (aag (acP ho hd hf (aag (aag (aen (aao (aao ?_)))))));extract_lets jp;refine abp (λz=>?_) (λ_=>?_)
 .have l1:=y9.led;have l2:=y9.pln;cases hb:w.params.followText "set-order" with
  |true=>
   have z1:(!w.params.followText "set-order")=true:=(acn.mp z).1;rw[hb]at z1;cases z1
  |false=>
   rw[hb]at l1;obtain⟨mask,place,dummies,finger,led,moves,plain⟩:=t;have l1:led=true:=l1;have l2:plain=true:=l2;subst l1 l2;exact absurd (acn.mp z).2 aan
 .refine aag (aao ?_);refine aag (m:=setEpoch d) (wpAny_setEpoch_of ho hd hf (aag (abf (aao ⟨_,rfl,"set_iterator",_,asm,ng.lookup,?_⟩))));simpa[rawInt]using h
def oE:(oB w d ep es).size =es.size:=by rw[<-aaK,(oD w d ep es).length_eq,aaK]
def Rh(hh:af4)(k:DN s.heap it d (ax6 (w.params.followText "set-order")) i es.size ep)(r:at9)(y9:ayE)(hi:i<=es.size)
  (h:∀e,(oB w d ep es)[i]?=some e->∀h',DN h' it d (y8 (w.params.followText "set-order") t.place (i+1)) (i+1) es.size ep->ajX->Q (aku e.2) {s with heap:=h'})
  (h2:(oB w d ep es)[i]?=none->∀h',akk->Q none {s with heap:=h'}):aie:=by
 obtain⟨oi,ei,ci,di⟩:=k;have T:s.TypeIs ad8 "set_iterator":=⟨oi,ei,ci⟩;obtain⟨o,ho,hex,hd⟩:=r;have hf:=y9.fit;unfold pyNext;refine aag (adl (abG (name:=Str.ofString "__next__") T ng (abt ng T DI ?_ (DK _))));unfold Builtin.«set_iterator.__next__»;refine aag (m:=slotArgs "__next__" 0 _) (aao (a:=(Value.ref it,[])) ?_);refine aag (aeU ei di ?_);show wpAny _ _ (setEntries d >>= λ_=>_) _ _ s;refine aag (wpAny_setEntries_of ho hd hf ?_);extract_lets jp;refine abp (λz=>aDN) (λ_=>?_);show wpAny _ _ (setNext d ((y8 (w.params.followText "set-order") t.place i:Nat):Int).toNat ((i:Nat):Int).toNat ((ep:Nat):Int).toNat >>= λ_=>_) _ _ s;simp only[abU];refine aag (MB ho hd y9 hi ?_);cases he:(oB w d ep es)[i]? with
 |some e=>
  show wpAny _ _ (setField ad8 0 (auU (y8 (w.params.followText "set-order") t.place (i+1):Nat)) >>= λ_=>_) _ _ s;refine aag (abR ei di ab1 ?_);have e1:=abu (apA (·.setIfInBounds 0 (auU (y8 (w.params.followText "set-order") t.place (i+1):Nat)))) ei (acf (aby di _));have d1:=aby di (·.setIfInBounds 0 (auU (y8 (w.params.followText "set-order") t.place (i+1):Nat)));refine aag (abR e1 d1 ab1 (aao ⟨_,rfl,aao (h e he _ ⟨_,abu _ e1 (acf (aby d1 _)),?_,?_⟩ ((abA ..).trans (abA ..)))⟩))
  .exact(adZ ..).trans ((adZ ..).trans ci)
  .rw[aby d1];simp[rawInt]
 |none=>
  show wpAny _ _ (setField ad8 2 .none >>= λ_=>_) _ _ s;refine aag (abR ei di ab1 ?_);show wpAny _ _ (newExc (.type "StopIteration") [] >>= λ_=>_) _ _ _;refine aag ?_;simp only[newExc,newTuple];refine aag (abf (aag (m:=firstArgMember _ _) (aeP (a:=Value.none) (by first|rfl|(simp only[firstArgMember];rfl)) (abf ?_ (by size_fits)))) (by size_fits));simp only[raiseNew];refine aag (afq ?_);rw[show A.in1.handled=none from hh];refine aag (aao (agc ?_));refine aag (aem (T:="StopIteration") (b:=true) ⟨_,ag6,rfl⟩ isSubtype_stop ?_);exact aao (h2 he _ (((abA ..).extBut.push _).push _))
def HA(hh:af4)(it d:Addr)(eJ:d≠it)(y9:ayE)(ep:Nat):Walks prog w A it [it,d] [it] es.size (λi v=>∃e,(oB w d ep es)[i]?=some e/\v=e.2) (λi h=>DN h it d (ax6 (w.params.followText "set-order")) i es.size ep/\sS d t es ep h) where
 sub:=λb hb=>by simp at hb;simp[hb]
 frame:=λi h h' ⟨⟨o,a,b⟩,r⟩ k=>⟨⟨o,k it ab1 o a,b⟩,r.keep λo e=>k d ab1 o e⟩
 item:=λi s Q E hi ⟨k,r⟩ h=>Rh hh k r y9 az6 (λe he h' k' sb=>h _ h' s.toks ⟨_,he,rfl⟩ ⟨k',r.keep λo e=>(sb.2 d eJ).trans e⟩ λb o nb e=>(sb.2 b (by simpa using nb)).trans e) λhe=>absurd hi (afs.mpr (by rw[<-oE (w:=w) (d:=d) (ep:=ep)];exact Array.getElem?_eq_none_iff.mp he))
 done:=λs Q E ⟨k,r⟩ h=>Rh hh k r y9 ac9 (λe he=>absurd (abW.mp he).1 (by rw[oE];exact abi _)) λ_ h' ex=>h h' s.toks λb o nb e=>ex b o (by simpa using nb) e
 self:=λi s Q E ⟨⟨o,a,b,c⟩,r⟩ h=>by
  have T:s.TypeIs ad8 "set_iterator":=⟨o,a,b⟩;refine aeQ T yZ (abt yZ T DJ ?_ (DL _));show wpAny _ _ (ret ad8) _ _ s;exact aao ⟨_,rfl,"set_iterator",_,T,ng.lookup,h⟩
def MD(hT:s.TypeIs azZ "set")(h:Q false s):wpAny aa2 A (Builtin.List.listLengthHint azZ) Q E s:=by
 unfold Builtin.List.listLengthHint;refine aag (aez hT PySem.F.slot_set_len.lookup ?_);generalize Yk:("set.__len__":apr)=id0;wp_delta;rw[show splitId id0=some ("set","__len__") from by subst Yk;decide +kernel];subst Yk;refine aag (aem (T:="set") (b:=true) hT sub_set_self ?_);refine abp (λz=>asD) (λ_=>?_);refine abp (λ_=>?_) (λz=>absurd aa8 z);exact aag (adQ hT aDO)
def Ri(y9:ayE):KdlSrc prog w "set" d d es.size (λi v=>∃e,(oB w d ep es)[i]?=some e/\v=e.2) (sS d t es ep) where
 type:=λ_ r=>r.ty
 there:=λ_ r=>let ⟨o,a,_⟩:=r;⟨aaA a,aaA a⟩
 keep:=λ_ _ r k=>r.keep λo e=>k d ahq o e
 notList:=by decide
 notTuple:=by decide
 hint:=λ_ _ _ _ r hq=>MD r.ty hq
 iter:=λA s hh r=>⟨Yj d es.size ep,_,λ_ _ hq=>MC r y9 hq,HA hh _ d (let ⟨o,a,_⟩:=r;aaN (aaA a)) y9 ep,
  ⟨⟨_,ag6,rfl,by unfold y8;cases w.params.followText "set-order" <;> rfl⟩,r.keep λo e=>aiY⟩⟩
end
open bN
section
variable {prog:ac7}{w:World}{B:Addr->Prop}{A:ahp}{E:Value->Shared->Prop}{s:ab5}{d it:Addr}{t:ahK}{o:Obj}{es:aiG}{ep i:Nat}{L:ab3}{h:Heap}{k:aa0}{c:Addr}
def oF(h:ItemsAre aij ks vs):IntsAre vs ks:=by
 induction h with
 |nil=>exact .nil
 |@cons k v ks vs h1 _ ih=>
  have h1:ax5:=h1;cases v with
  |int j t=>
   cases (intKind prog w).inj _ _ _ h1 aCs;exact .cons _ _ ih
  |_=>cases h1
def Bb(hk:axC):TupIs h aoX k:=by
 obtain⟨o,items,n,h1,h2,h3,h4⟩:=hk;exact⟨c,o,aDe,n,rfl,h1,h2,by simpa using h3,oF h4⟩
def DO(hk:axC)(hn:k≠[]):jj h aoX:=by
 obtain⟨o,items,n,h1,h2,h3,h4⟩:=hk;cases k with
 |nil=>exact absurd rfl hn
 |cons i r=>exact⟨c,o,aDe,n,i,r,rfl,h1,h2,by simpa using h3,oF h4⟩
def Bc(hh:af4)(hS:kg prog w (!w.params.followText "set-order") d B L s.heap)(hl7:L.length<=720)(eJ:∀k∈L,k≠[])
  (h:∀(h1 h':Heap) (tk c:Nat) (vs:ab0),(∀b o',aso->aqy)->(∀b o',aqy->aqz)->h'.get? h1.objs.size=some {cls:= .type "list",data:= .seq vs.toArray c}->
   vs.map ajm=bB L->(∀v∈vs,∃c k,aCV/\B c/\IsT prog w s.heap k c)->Q aix {s with heap:=h',toks:=tk}):
  wpAny aa2 A (call (.builtin "sorted") [aEd]) Q E s:=by
 obtain⟨xs,pm,T,o,ep,t,ho,hex,hd,hl,dq,D⟩:=hS;have hlx:xs.length=L.length:=by rw[<-pm.length_eq,aap]
 have hsz:(arr prog w xs).size <=720:=by rw[dg,hlx];exact hl7
 have y9:Wk w t ajn:=⟨hl,dq,D.tb.pl.ri,by rw[dg];exact D.sz,D.fits⟩;refine adp kind_sorted plain_sorted entry_sorted aqY ?_;unfold Builtin.«sorted»;refine aag (m:=checkCount "sorted" 1 1 _) (aao (aag (kdu_collect (A:=A.in1) (Ri y9) hh ⟨o,ho,hex,hd⟩ (by rw[sizeLine_eq];omega) λh1 tk acc k1 ia=>?_)));have aG:acc.toList.length=(arr prog w xs).size :=by rw[aaK];exact ia.1
 have eq:acc.toList=(oB w d ep ajn).toList.map (·.2):=by
  apply acC;intro j;rcases abx j (arr prog w xs).size with z|z
  .have hj:j<acc.size:=by rw[ia.1];exact z
   obtain⟨e,e1,e2⟩:=ia.2 j acc[j] (aaG hj);rw[aba,aaG hj,aaC,aba,e1,e2];rfl
  .rw[aaS (by rw[aaK,ia.1];exact z),aaS (by rw[aap,aaK,oE];exact z)]
 have hm:∀v∈acc.toList,∃x∈xs,v= .ref x.1:=λv m=>by
  rw[eq]at m;obtain⟨e,e1,rfl⟩:=aaz.mp m;obtain⟨x,hx,rfl⟩:=aaz.mp ((oD w d ep ajn).mem_iff.mp e1);exact⟨x,hx,rfl⟩
 have ht:∀v∈acc.toList,aue:=λv m=>by
  obtain⟨x,hx,rfl⟩:=hm v m;exact DO (T x hx).2 (eJ _ (aEu (amZ ⟨x,hx,rfl⟩)))
 have kp:∀b o,ab2->(h1.push (seqObj "list" acc.toList.toArray 0)).get? b=some o:=λb o e=>aah _ aF4;refine aag (afr ?_ (by rw[aG,sizeLine_eq];omega));have x_:(h1.push (seqObj "list" acc.toList.toArray 0)).get? h1.objs.size=some (seqObj "list" acc.toList.toArray 0):=aav _ rfl;refine aag (abq (abt slot_list_sort ⟨_,x_,rfl⟩ entry_list_sort (bN.sA (s:={s with heap:=h1.push (seqObj "list" acc.toList.toArray 0),toks:=tk}) x_ (λv m=>?_) (by rw[aG,sizeLine_eq];omega) λout hp w_=>⟨_,rfl,aao ⟨_,rfl,?_⟩⟩) apC))
 .obtain⟨x,o,xs,n,i,rr,g0,g1,g2⟩:=ht v m;exact⟨x,o,xs,n,i,rr,g0,kp x o g1,g2⟩
 .have u1:=get?_update_seq x_ (λ_=>#[]);have u2:=aah (seqObj "tuple" acc.toList.toArray 0) u1;have u3:=aah (seqObj "list" #[] 0) u2;have u4:=get?_update_seq u3 (λ_=>aFQ);have so:out.Pairwise (λx y=>ail):=w_.imp_of_mem λ{x y} mx my wa=>by
   have e1:=fG (ht x (anF mx)) kp;have e2:=fG (ht y (anF my)) kp;rw[<-e1,<-e2];exact wa
  have esL:((arr prog w xs).toList.map (·.2)).map ajm=xs.map (·.2):=by
   show(((xs.map axv)).map (·.2)).map _=_;rw[abc,abc];exact ade λx hx=>cv (Bb (T x hx).2)
  have pr:(out.map ajm).Perm L:=by
   refine(hp.map _).trans ?_;rw[eq];refine(((oD w d ep ajn).map (·.2)).map ajm).trans ?_;rw[esL];exact pm
  refine h h1 _ tk _ out k1 (λb o e=>?_) u4 (fF pr (abz.mpr so)) λv hv=>?_
  .have hb:arL:=aaN ajO;unfold sortedHeap;rw[aaP _ _ aoB];refine aah _ (aah _ ?_);rw[aaP _ _ aoB];exact aah _ e
  .obtain⟨x,hx,e⟩:=hm v (anF hv);exact⟨x.1,x.2,e,T x hx⟩
end
noncomputable abbrev ME(prog:ac7)(w:World)(a:Addr)(xs:ait):HO:= .ext (DB prog w (!w.params.followText "set-order") a xs)
def DP{prog:ac7}{w:World}{vs:ab0}{k:aa0}(h:IntsAre vs k):ItemsAre aij k vs:=by
 induction h with
 |nil=>exact .nil
 |cons n t _ ih=>exact .cons aCs ih
section
variable {X:Cx}{U:aa7}{σ:L2.St}{H:Hp}{s:ab5}{c:Addr}{k:aa0}
def xv(I:aa4)(h:cH X.K H c (k.map V.int)):IsT X.prog X.w s.heap k c:=by
 obtain⟨its,rv,⟨o,ho,hc,n,hd⟩,_⟩:=I.tuple h;exact⟨o,its.toArray,n,ho,hc,hd,by simpa using DP asu⟩
def xw(hc:af6)(hu:af1):cu X (.type "set") (λxs H Q=>∃(p:Addr) (us:ad5) (ks:ab3),am2/\cK X.K H p us/\arP/\(jS ks).length <=720/\
  ∀(l:Addr) (ys:ait),art->(ys.map (·.2)).Perm (jS ks)->(∀y∈ys,avW)->Q aic (axK (ME X.prog X.w l ys))):=by
 intro U s σ H xs us Q I r zz;obtain⟨p,us,ks,rfl,hq,pd,h7,q⟩:=zz;obtain⟨u,rfl,ru⟩:=vals1 r;cases ru;obtain⟨its,rv,pl,hz⟩:=I.list hq;have at':=d_ pd rv;refine A_ (vs:=its) (ks:=ks) ahx hu pl.isList (by rw[<-rv.length,pd.length]) h7 (λi v hv=>?_) λh' tk hS k=>?_
 .obtain⟨b,_,e,_,_,e4⟩:=at' i v hv;exact⟨b,e,xv I (cH.of e4)⟩
 .obtain⟨ys,pm,T,S⟩:=hS;refine⟨ab6,_,I.laid (t':=tk) (a:=s.heap.objs.size) k ac9 (show aO X.prog X.w _ h' _ (ME X.prog X.w _ ys) from⟨S,let ⟨o,_,_,ho,_⟩:=S;⟨o,ho⟩,λh1 h2 z kk=>let ⟨o,ep,t,ho,r⟩:=z;⟨o,ep,t,kk o ho,r⟩⟩),rfl,q _ ys I.fresh pm λy hy=>?_⟩;obtain⟨b1,b2⟩:=T y hy;obtain⟨i,hi⟩:=acD.mp b1;obtain⟨b,_,e,_,_,e4⟩:=at' i _ hi;cases e;rw[b2.inj (oA (xv I (cH.of e4)) λo z=>k _ o z)];exact e4
def vg(hc:af6):cu X (.builtin "sorted") (λxs H Q=>∃(p:Addr) (ys:ait),am2/\H p=some (ME X.prog X.w p ys)/\ys.length<=720/\(∀y∈ys,y.2≠[]/\avW)/\
  ∀(l:Addr) (us:ad5),art->Paired amU us (bB (ys.map (·.2)))->aqN):=by
 intro U s σ H xs us Q I r zz;obtain⟨p,ys,rfl,hp,h7,hy,q⟩:=zz;obtain⟨u,rfl,ru⟩:=vals1 r;cases ru;have hS:kg X.prog X.w _ p (λc=>∃k:aa0,H c=some aoW) (ys.map (·.2)) s.heap:=⟨ys,.refl _,λy m=>⟨⟨y.2,(hy y m).2⟩,xv I (cH.of (hy y m).2)⟩,(I.aJ p _ hp).1⟩;refine Bc ahx hS (by rw[aap];exact h7) (λk m=>let ⟨y,m,e⟩:=aaz.mp m;e▸(hy y m).1) λh1 h' tk c vs k1 k2 e a1 a2=>?_;obtain⟨us,hv,aG,pd⟩:=m8 I (vs:=vs) λv m=>let ⟨c,_,e,⟨k,hk⟩,_⟩:=a2 v m;⟨c,k,e,hk⟩;rw[a1]at pd;have I1:Inv X U σ H {s with heap:=h1,toks:=tk}:=I.kept (t':=tk) k1;exact⟨aix,_,I1.laid (t':=tk) k2 ac9 (show aO X.prog X.w _ h' _ (akx us) from⟨by rw[pd.length,(aN _).length_eq,aap,sizeLine_eq];omega,vs,c,hv,by simpa using e⟩),rfl,q _ us ah9 pd⟩
end
end S2
namespace Py
open PySem PySem.Spec PyProof.Rows L2
abbrev St:=L2.St
def V7(K:ay)(a:Addr)(xs:ad5):Prop:=
 ∃(o:Obj) (its:ae2) (n:Nat),K.lookup a=some o/\o.cls= .type "list"/\aFV/\o.data= .seq its n/\its.size<=sizeLine/\aD xs its.toList/\o.slots=#[]
noncomputable def gG(t:Nat)(ks:ab3)(vs:ad5):HO:=if t=0 then .dK ((ks.map λk=>Sum.inl aim).zip vs) else .dT ((ks.map λk=>aBm).zip vs)
def tW:HO->Prop
 | .lst _=>True
 | .dK _=>True
 | .dT _=>True
 |_=>False
def nS{α:Type}{x:α}{P:Prop}(h:none=some x):P:=nomatch h
def slot{ρ:Env}{i:Nat}{P:Prop}(n:ρ[i]?=none->P)(m:ρ[i]?=some none->P)(k:∀o d,ρ[i]?=some axq->P):P:=by
 cases e:ρ[i]? with
 |none=>exact n e
 |some o=>cases o with
  |none=>exact m e
  |some t=>exact k t.1 t.2 e
def gR:tW anY:=by unfold gG;split<;>exact trivial
def oG(t:Nat)(ks:ab3):Prop:=ks.Nodup/\(t=0->∀k∈ks,∃i,k=[i])
mutual
inductive bu(K:ay)(O:Addr->Prop)(H:Hp):V->D->Prop
 |cq:bu K O H .cq .cq
 |bl (b:Bool):bu K O H aAm aAm
 |int (i:Int):bu K O H ahH ahH
 |tup {a vs ds}:an0->ac5->bu K O H ab_ aE5
 |lst {a vs ds}:Rd H a ah2->¬O a->ac5->bu K O H ab_ apD
 |mod {a vs ds}:V7 K a vs->ac5->bu K O H ab_ apD
 |bx {a o t ks vs ds}:H a=some (.dF o anY)->ag4->aFT->ac5->bu K O H ab_ aoH
inductive aq(K:ay)(O:Addr->Prop)(H:Hp):ad5->ac1->Prop
 |nil:aq K O H [] []
 |cons {v d vs ds}:ajj->ac5->aq K O H (v::vs) (d::ds)
end
section
variable {K:ay}{O O':Addr->Prop}{H H':Hp}
def iC(ht:∀a vs,an0->aDx)(hl:∀a vs,Rd H a ah2->¬O a->Rd H' a ah2/\¬O' a)(hz:∀a o u,aD_->H' a=some aih):∀{v d},ajj->aqc:=λ{v d} h=>
 bu.rec (motive_1:=λv d _=>aqc) (motive_2:=λvs ds _=>arM) .cq .bl .int (λh _ ih=> .tup aF_ ih) (λh n _ ih=> atE) (λh _ ih=> .mod h ih) (λh l z _ ih=> aCa) .nil (λ_ _ i1 i2=> .cons i1 i2) h
def fI(ht:∀a vs,an0->aDx)(hl:∀a vs,Rd H a ah2->¬O a->Rd H' a ah2/\¬O' a)(hz:∀a o u,aD_->H' a=some aih):∀{vs ds},ac5->arM:=λ{vs ds} h=>
 aq.rec (motive_1:=λv d _=>aqc) (motive_2:=λvs ds _=>arM) .cq .bl .int (λh _ ih=> .tup aF_ ih) (λh n _ ih=> atE) (λh _ ih=> .mod h ih) (λh l z _ ih=> aCa) .nil (λ_ _ i1 i2=> .cons i1 i2) h
def kh(s:aiX)(h:an0):aDx:=by
 exact s _ _ h
def nh(s:aiX)(h:Rd H a u):Rd H' a u:=h.elim (λh=> .inl (s _ _ h)) λ⟨o,h⟩=> .inr ⟨o,s _ _ h⟩
def bu.mono(h:ajj)(s:aiX):bu K O H' v d:=iC (λ_ _=>kh s) (λ_ _ h n=>⟨nh s h,n⟩) (λ_ _ _ h=>s _ _ h) h
def aq.mono(h:ac5)(s:aiX):aq K O H' vs ds:=fI (λ_ _=>kh s) (λ_ _ h n=>⟨nh s h,n⟩) (λ_ _ _ h=>s _ _ h) h
def bu.weak(h:ajj)(s:∀a,O' a->O a):ari:=iC (λ_ _ h=>h) (λ_ _ h n=>⟨h,λz=>n (s _ z)⟩) (λ_ _ _ h=>h) h
def aq.weak(h:ac5)(s:∀a,O' a->O a):aq K O' H vs ds:=fI (λ_ _ h=>h) (λ_ _ h n=>⟨h,λz=>n (s _ z)⟩) (λ_ _ _ h=>h) h
def y_(ha:al1)(hu:tW u)(h:cH K H b vs):cH K aDF b vs:=by
 have h':H b=some (akJ vs):=h;show L2.upd H a o b=some (akJ vs);rw[ak (c7 h' ha (by intro z;rw[<-z]at hu;exact hu))];exact h'
def za(ha:al1)(hu:tW u)(h:H b=some (.dF q w)):L2.upd H a o b=some (.dF q w):=by
 rw[ak (c7 h ha (by intro z;rw[<-z]at hu;exact hu))];exact h
def zb(xt:b≠a)(h:Rd H b ah2):Rd aDF b ah2:=by
 rcases h with h|⟨u,h⟩
 .exact .inl (by rw[ak xt];exact h)
 .exact .inr ⟨u,by rw[ak xt];exact h⟩
theorem bu.upd(h:ajj)(ho:O a)(ha:al1)(hu:tW u):bu K O aDF v d:=
 iC (λ_ _ h=>y_ ha hu h) (λb _ h n=>⟨zb (λz=>n (z▸ho)) h,n⟩) (λ_ _ _ h=>za ha hu h) h
theorem aq.upd(h:ac5)(ho:O a)(ha:al1)(hu:tW u):aq K O aDF vs ds:=
 fI (λ_ _ h=>y_ ha hu h) (λb _ h n=>⟨zb (λz=>n (z▸ho)) h,n⟩) (λ_ _ _ h=>za ha hu h) h
def ni(hp:aj_):¬Rd H p u:=λh=>by
 rcases h with h|⟨o,h⟩
 .rw[hp]at h;cases h
 .rw[hp]at h;cases h
def aq.own(h:ac5)(hp:aj_):aq K (λa=>O a\/a=p) H vs ds:=
 fI (λ_ _ h=>h) (λb us h n=>⟨h,λz=>z.elim n λe=>ni hp (e▸h)⟩) (λ_ _ _ h=>h) h
def bu.own(h:ajj)(hp:aj_):bu K (λa=>O a\/a=p) H v d:=
 iC (λ_ _ h=>h) (λb us h n=>⟨h,λz=>z.elim n λe=>ni hp (e▸h)⟩) (λ_ _ _ h=>h) h
def Be(h:ajj):asE->ari:=
 bu.rec (motive_1:=λv d _=>asE->ari) (motive_2:=λvs ds _=>aY ds=true->aq K O' H vs ds) (λ_=> .cq) (λb _=> .bl b) (λi _=> ahH)
  (λh _ ih n=> .tup h (ih (by simpa[aF]using n))) (λ_ _ _ _ n=>absurd n (by simp[aF])) (λ_ _ _ n=>absurd n (by simp[aF])) (λ_ _ _ _ _ n=>absurd n (by simp[aF])) (λ_=> .nil)
  (λ_ _ i1 i2 n=>by
   simp only[aY,aak]at n;exact .cons (i1 n.1) (i2 n.2)) h
theorem aq.length:∀{vs:ad5}{ds:ac1},ac5->vs.length=ds.length
 |_,_,.nil =>rfl
 |_,_,.cons _ t=>by rw[aaL,aaL,aq.length t]
theorem aq.get:∀{vs:ad5}{ds:ac1}{i:Nat}{d:D},ac5->ds[i]?=some d->∃v,vs[i]?=some v/\bu K O H v d
 |_,_,_,_,.nil,e=>by simp at e
 |_,_,0,_,.cons r _,e=>by simp at e;subst e;exact⟨_,rfl,r⟩
 |_,_,i+1,d,.cons _ t,e=>by
  exact aa (aq.get (i:=i) (d:=d) t (by simpa using e)) λv h1 h2=>⟨v,by simpa using h1,h2⟩
theorem aq.append:∀{xs ys:ad5}{us ws:ac1},atR->aq K O H ys ws->aq K O H azt (us++ws)
 |_,_,_,_,.nil,s=>s
 |_,_,_,_,.cons r t,s=> .cons r (aq.append t s)
theorem aq.take:∀{xs:ad5}{us:ac1} (n:Nat),atR->aq K O H (xs.take n) (us.take n)
 |_,_,0,_=> .nil
 |_,_,_+1,.nil => .nil
 |_,_,n+1,.cons r t=> .cons r (aq.take n t)
theorem aq.drop:∀{xs:ad5}{us:ac1} (n:Nat),atR->aq K O H (xs.drop n) (us.drop n)
 |_,_,0,r=>r
 |_,_,_+1,.nil => .nil
 |_,_,n+1,.cons _ t=>aq.drop n t
theorem aq.set(r:bu K O H x u):∀{xs:ad5}{us:ac1} (i:Nat),atR->aq K O H (xs.set i x) (us.set i u)
 |_,_,_,.nil => .nil
 |_,_,0,.cons _ t=> .cons r t
 |_,_,i+1,.cons q t=> .cons q (aq.set r i t)
def bu.int_inv(h:bu K O H v ahH):v= .int i:=by cases h;rfl
def bu.xy(h:bu K O H v (.bl i)):v= .bl i:=by cases h;rfl
def bu.HB(h:bu K O H v .cq):v= .cq :=by cases h;rfl
def bu.gh(h:bu K O H v aE5):∃a vs,alb/\an0/\ac5:=by
 cases h with
 |tup h1 h2=>exact⟨_,_,rfl,h1,h2⟩
def bu.lst_inv(h:bu K O H v apD):∃a vs,alb/\aum/\ac5:=by
 cases h with
 |lst h1 _ h2=>exact⟨_,_,rfl,.inl h1,h2⟩
 |mod h1 h2=>exact⟨_,_,rfl,.inr h1,h2⟩
theorem fJ:∀(ns:aa0),aq K O H aiO (ns.map D.int)
 |[]=> .nil
 |n::ns=> .cons (al6 n) (fJ ns)
def bP(K:ay)(O:Addr->Prop)(b:Bool)(H:Hp)(v:V)(d:D):Prop:=
 bu K O H v d\/(b=true/\∃a vs ds,alb/\apc/\amM/\ac5)
variable {b:Bool}{v:V}{d:D}
theorem bP.mono(h:atQ)(s:aiX):bP K O b H' v d:=by
 rcases h with h|⟨e,a,vs,ds,h1,h2,h3,h4⟩
 .exact .inl (h.mono s)
 .exact .inr ⟨e,a,vs,ds,h1,h2,s _ _ h3,h4.mono s⟩
def bP.own(h:bP K O false H v d):ajj:=h.elim id λz=>absurd z.1 aan
theorem bP.int(h:bP K O b H v ahH):v= .int i:=by
 rcases h with h|⟨_,_,_,_,_,h,_⟩
 .exact h.int_inv
 .cases h
theorem bP.bl(h:bP K O b H v (.bl i)):v= .bl i:=by
 rcases h with h|⟨_,_,_,_,_,h,_⟩
 .exact h.xy
 .cases h
theorem bP.cq(h:bP K O b H v .cq):v= .cq :=by
 rcases h with h|⟨_,_,_,_,_,h,_⟩
 .exact h.HB
 .cases h
theorem bP.tup(h:bP K O b H v aE5):∃a vs,alb/\an0/\ac5:=by
 rcases h with h|⟨_,_,_,_,_,h,_⟩
 .exact h.gh
 .cases h
theorem bP.lst(h:bP K O b H v apD):∃a vs,alb/\aum/\ac5:=by
 rcases h with h|⟨_,a,vs,Rj,h1,h2,h3,h4⟩
 .exact h.lst_inv
 .cases h2;exact⟨a,vs,h1,cK.of h3,h4⟩
theorem bP.seq(h:atQ)(e:Py.seq d=some xs):∃a vs,alb/\(aum\/an0)/\aq K O H vs xs:=by
 cases d with
 |lst ds=>
  cases e;obtain⟨a,vs,h1,h2,h3⟩:=h.lst;exact⟨a,vs,h1,.inl h2,h3⟩
 |tup ds=>
  cases e;obtain⟨a,vs,h1,h2,h3⟩:=h.tup;exact⟨a,vs,h1,.inr h2,h3⟩
 |_=>cases e
def bP.MF(h:bP K O b H v aoH):∃a,alb:=by
 rcases h with h|⟨_,_,_,_,_,h,_⟩
 .cases h;exact⟨_,rfl⟩
 .cases h
def bP.any(h:atQ):bu K (λ_=>False) H v d:=by
 rcases h with h|⟨_,a,vs,Rj,h1,h2,h3,h4⟩
 .exact h.weak λ_ z=>z.elim
 .subst h1 h2;exact .lst (akN h3) id (h4.weak λ_ z=>aAy)
end
def eO(K:ay)(O:Addr->Prop)(H:Hp)(a:Addr)(d:D):Prop:=
 (∃vs ds,apc/\amM/\ac5)\/
 (∃t ks vs ds,d= .bx t ks ds/\H a=some anY/\ag4/\aFT/\ac5)\/
 d=wO/\∃u,al1/\tW u
section
variable {K:ay}{O O':Addr->Prop}{H H':Hp}{a:Addr}{d:D}
theorem eO.mono(h:awF)(s:aiX):eO K O H' a d:=by
 rcases h with⟨vs,ds,e1,e2,e3⟩|⟨t,ks,vs,ds,e1,e2,e3,e4,e5⟩|⟨e1,u',e2,e3⟩
 .exact .inl ⟨vs,ds,e1,s _ _ e2,e3.mono s⟩
 .exact .inr (akN ⟨t,ks,vs,ds,e1,s _ _ e2,e3,e4,e5.mono s⟩)
 .exact .inr (ant ⟨e1,u',s _ _ e2,e3⟩)
theorem eO.weak(h:awF)(s:∀a,O' a->O a):eO K O' H a d:=by
 rcases h with⟨vs,ds,e1,e2,e3⟩|⟨t,ks,vs,ds,e1,e2,e3,e4,e5⟩|⟨e1,u',e2,e3⟩
 .exact .inl ⟨vs,ds,e1,e2,e3.weak s⟩
 .exact .inr (akN ⟨t,ks,vs,ds,e1,e2,e3,e4,e5.weak s⟩)
 .exact .inr aqG
theorem eO.own(h:awF)(hp:aj_):eO K (λa=>O a\/a=p) H a d:=by
 rcases h with⟨vs,ds,e1,e2,e3⟩|⟨t,ks,vs,ds,e1,e2,e3,e4,e5⟩|⟨e1,u',e2,e3⟩
 .exact .inl ⟨vs,ds,e1,e2,e3.own hp⟩
 .exact .inr (akN ⟨t,ks,vs,ds,e1,e2,e3,e4,e5.own hp⟩)
 .exact .inr aqG
theorem eO.upd(h:awF)(hb:a≠b)(ho:O b)(Yl:apd)(hu:tW u):eO K O (aCO o) a d:=by
 rcases h with⟨vs,ds,e1,e2,e3⟩|⟨t,ks,vs,ds,e1,e2,e3,e4,e5⟩|⟨e1,u',e2,e3⟩
 .exact .inl ⟨vs,ds,e1,by rw[ak hb];exact e2,e3.upd ho Yl hu⟩
 .exact .inr (.inl ⟨t,ks,vs,ds,e1,by rw[ak hb];exact e2,e3,e4,e5.upd ho Yl hu⟩)
 .exact .inr (.inr ⟨e1,u',by rw[ak hb];exact e2,e3⟩)
theorem eO.lst(h:eO K O H a apD):∃vs,amM/\ac5:=by
 rcases h with⟨vs,ds,e1,e2,e3⟩|⟨t,ks,vs,ds,e1,_⟩|⟨e1,_⟩
 .cases e1;exact⟨vs,e2,e3⟩
 .cases e1
 .cases e1
theorem eO.bx(h:eO K O H a aoH)(h2:t≠2):∃vs,H a=some anY/\ag4/\aFT/\ac5:=by
 rcases h with⟨vs,ds,e1,e2,e3⟩|⟨t,ks,vs,ds,e1,e2,e3,e4,e5⟩|⟨e1,u',e2,e3⟩
 .cases e1
 .cases e1;exact⟨vs,e2,e3,e4,e5⟩
 .cases e1;exact absurd rfl h2
end
structure EX(K:ay)(O:Addr->Prop)(σ:St)(H:Hp)(ρ:Env):Prop where
 live:∀a,O a->∃u,al1/\tW u
 kO:∀(i:Nat) (o:Bool) (d:D),ρ[i]?=some axq->∃v,σ[i]?=some anB/\
  if o=true then∃a,alb/\O a/\eO K O H a d else bu K O H v d
theorem EX.mono{K:ay}(h:aiB)(s:aiX):EX K O σ H' ρ:=by
 refine⟨λa ha=>let ⟨u,e,q⟩:=h.live a ha;⟨u,s _ _ e,q⟩,λi o d e=>?_⟩;refine aa (h.kO i o d e) λv h1 h2=>⟨v,h1,?_⟩;cases o with
 |true=>
  exact bH h2 λa e1 e2 c=>⟨a,e1,e2,c.mono s⟩
 |false=>exact bu.mono h2 s
def EX.free{K:ay}(h:aiB)(s:asC)(hp:alM):¬O p:=λz=>by
 refine aa (h.live p z) λvs e _=>?_;rw[s _ _ e]at hp;cases hp
def bind_some{α β:Type}{o:ayM}{f:α->Option β}{y:β}(h:o.bind f=some y):∃x,o=some x/\f x=some y:=by
 cases o with
 |none=>cases h
 |some x=>exact⟨x,rfl,h⟩
def map_some{α β:Type}{o:ayM}{f:α->β}{y:β}(h:o.map f=some y):∃x,o=some x/\f x=y:=by
 cases o with
 |none=>cases h
 |some x=>exact⟨x,rfl,aaQ h⟩
def tV(K:ay)(b:Bool)(f:Env->air):TE:=λσ H Q=>∃O ρ d,aiB/\aGh/\∀v H',aiX->bP K O b H' v d->Q v H'
def tF(K:ay)(f:Env->alZ):TE:=λσ H Q=>∃O ρ ds,aiB/\aDp/\∀p vs H1,asC->alM->aq K O H1 vs ds->Q ahG (alm ah2)
def tB(K:ay)(f:Env->anD):TT:=λσ H Q=>∃O ρ k,aiB/\f ρ=some k/\∀H',aiX->Q k H'
def sU(K:ay)(b:Bool)(f:Env->alZ):TA:=λσ H Q=>∃O ρ ds,aiB/\aDp/\∀vs H',aiX->Paired (bP K O b H') vs ds->Q vs H'
theorem ah.upd(h:aj_):ah H (L2.upd H p o):=λb u e=>by rw[ak (bZ e h)];exact e
section
variable {X:Cx}{a b c e:Expr}{pos:Pos}{m:Bool}{es:ahA}
def _root_.L2.PE.weak(h:PE X e t)(w:∀σ H Q,t' σ H Q->aq7):PE X e t':=λU s σ H Q I q=>h U s σ H Q I (w σ H Q q)
def _root_.L2.PT.weak(h:PT X e t)(w:∀σ H Q,t' σ H Q->aq7):PT X e t':=λU s σ H Q I q=>h U s σ H Q I (w σ H Q q)
def HC{f:Env->Option D}(h:PE X e (tF X.K f'))(hf:∀ρ d,aGh->∃ds,f' ρ=some ds/\apc):atY:=h.weak λσ H Q zz=>by
 refine cx zz λO ρ d hx hd k=>aa (hf ρ d hd) λds e1 ai=>?_;subst ai;refine⟨O,ρ,ds,hx,e1,λp vs H1 s1 hp r=>k _ _ ayd (akN (.lst axG (hx.free s1 hp) (r.mono ah8)))⟩
def v_var(hN:X.N[i]?=some x)(hv:aiK)(hd:aiC)(nG:ana):PE X amY (tV X.K m λρ=>rd m ρ i):=
 (bz hN hv hd nG).weak λσ H Q zz=>by
  refine cx zz λO ρ d hx hd k=>?_;have hd:rd m ρ i=some d:=hd;unfold rd at hd;split at hd
  .rename_i o d' e;refine aa (hx.kO i o d' e) λv h1 h2=>⟨v,h1,k v H ad2 ?_⟩;cases o with
   |true=>
    cases m with
    |true=>
     refine bH h2 λa e1 e2 c=>?_;rcases c with⟨vs,ds,f1,f2,f3⟩|⟨t,ks,vs,ds,f1,_⟩|⟨f1,_⟩
     .subst f1;cases hd;exact .inr ⟨rfl,a,vs,ds,e1,rfl,f2,f3⟩
     .subst f1;cases hd
     .subst f1;cases hd
    |false=>cases hd
   |false=>
    cases hd;exact .inl h2
  .cases hd
def TF(h:PE X e (tC v))(r:∀K O H,ajj):PE X e (tV X.K m λ_=>some d):=h.weak λσ H Q zz=>by
 refine cx zz λO ρ d' hx hd k=>?_;cases hd;exact k v H ad2 (akN (r _ _ _))
def zc{g:D->D->Option D}(ha:ahP)(hb:ajh)(mk:∀ta tb,ane->avl->PE X e ar8)
  (hr:∀O σ (ρ:Env) H x y d v w Q,axD->aGm->aGl->g x y=some d->(∀u H',aiX->bP X.K O m H' u d->Q u H')->r v w H Q):
  PE X e (tV X.K m λρ=>(fa ρ).bind λx=>(fb ρ).bind λy=>g x y):=(mk _ _ ha hb).weak λσ H Q zz=>by
 exact cx zz λO ρ d hx hd k=>aa aa5 λx e1 hd=>aa aa5 λy e2 hd=>⟨O,ρ,x,hx,e1,λv H1 s1 r1=>⟨O,ρ,y,ahV,e2,λw H2 s2 r2=>hr O σ ρ H2 x y d v w Q arX avH r2 hd λu H' s' r'=>k u H' aql r'⟩⟩
def _root_.L2.PE.nov(h:∀ρ,f ρ=none):atY:=λU s σ H Q I ⟨O,ρ,d,hx,hd,k⟩=>by rw[h]at hd;cases hd
def Kj(K:ay):R2:=λx y H Q=>∃l b xs zs,au0/\asn/\cK K H l xs/\cK K H b zs/\aw4/\∀p,aj_->Q ahG (L2.upd H p (akx (xs++zs)))
def HD:ma X aoV (Kj X.K):=by
 intro U s σ H x y v u Q I rx ry h;refine Ga h λl b xs zs ai aK hl hb hz q=>?_
 try clear h
 subst ai;subst aK;cases rx;cases ry;refine iq (I.JV hl) λits n r e1 e z=>iq (I.JV hb) λje n2 r2 aa e2 z2=>PySem.P.add_list e e2 ?_ (by rw[aay,aay];lia);have ea:its.toArray++je.toArray=(its++je).toArray :=by simp
 rw[ea];exact⟨.ref _,_,I.P7 (t':=s.toks) (r.append r2) (by rw[aau];exact hz),rfl,q _ I.fresh⟩
noncomputable def Kk(K:ay):R2:=λx y H Q=>∃a b ys,akb/\asn/\cH K H a []/\cH K H b ys/\Q ajV H
def Lv(K:ay):R2:=λx y H Q=>PF (λi j=> .int (i+j)) x y H Q\/JQ K x y H Q\/Kj K x y H Q\/Kk K x y H Q
def qR:ma X aoV (Lv X.K):=Lm.or (ma.or Gx (ma.or HD (r':=Kk X.K) GR))
def cB:(sizeLine:Nat)=bW:=by rw[sizeLine_eq];rfl
def v_add(ha:ahP)(hb:ajh):PE X (auY .Add) (tV X.K m λρ=>(fa ρ).bind λx=>(fb ρ).bind λy=>bin .Add x y):=
 zc (r:=Lv X.K) ha hb (λ_ _ h1 h2=>uj qR h1 h2) λO σ ρ H x y d v w Q hx r1 r2 hd k=>by
  cases x with
  |int i=>
   cases y with
   |int j=>cases hd;exact .inl ⟨i,j,aC4,aAI,au9⟩
   |_=>cases hd
  |tup us=>
   cases y with
   |tup ws=>
    simp only[bin]at hd;split at hd
    .rename_i hz;cases hd;refine ba r1.tup λa1 vs ai q1 p1=>?_;subst ai;refine ba r2.tup λa2 zs aK q2 p2=>?_;subst aK;have l1:=p1.length;have l2:=p2.length;by_cases eJ:vs=[]
     .subst eJ;cases p1;exact .inr (ant (.inr ⟨a1,a2,zs,rfl,rfl,q1,q2,k _ _ ad2 (akN (.tup q2 p2))⟩))
     .refine .inr (.inl ⟨a1,a2,vs,zs,rfl,rfl,q1,q2,eJ,by rw[cB,l1,l2];exact hz,λez=>?_,λ_ p hp=>?_⟩)
      .subst ez;cases p2;rw[abm]at k;exact k _ _ ad2 (akN (.tup q1 p1))
      .exact k _ _ ah8 (akN (apT ayS))
    .cases hd
   |_=>cases hd
  |lst us=>
   cases y with
   |lst ws=>
    simp only[bin]at hd;split at hd
    .rename_i hz;cases hd;refine ba r1.lst λa1 vs cL q1 p1=>?_;subst cL;refine ba r2.lst λa2 zs ot q2 p2=>?_;subst ot;have l1:=p1.length;have l2:=p2.length;refine .inr (.inr (.inl ⟨a1,a2,vs,zs,rfl,rfl,q1,q2,by rw[cB,l1,l2];exact hz,λp hp=>?_⟩));exact k _ _ ah8 (akN (.lst axG (hx.free ad2 hp) ayS))
    .cases hd
   |_=>cases hd
  |_=>cases hd
def Rk(ha:ahP)(hb:ajh):PE X (auY .Add) (tF X.K λρ=>((fa ρ).bind λx=>(fb ρ).bind λy=>bin .Add x y).bind λd=>match d with| .lst ds=>some ds|_=>none):=
 (uj qR ha hb).weak λσ H Q zz=>by
  refine cx zz λO ρ ds hx hd k=>aa aa5 λz hd OJ=>aa aa5 λx e1 hd=>aa aa5 λy e2 hd=>⟨O,ρ,x,hx,e1,λv H1 s1 r1=>⟨O,ρ,y,ahV,e2,λw H2 s2 r2=>?_⟩⟩;have nj:=r1.mono s2;cases x with
  |lst us=>
   cases y with
   |lst ws=>
    simp only[bin]at hd;split at hd
    .rename_i hz;cases hd;cases OJ;refine ba nj.lst λa1 vs ai q1 p1=>?_;subst ai;refine ba r2.lst λa2 zs aK q2 p2=>?_;subst aK;have l1:=p1.length;have l2:=p2.length;exact .inr (.inr (.inl ⟨a1,a2,vs,zs,rfl,rfl,q1,q2,by rw[cB,l1,l2];exact hz,λp hp=>k p _ H2 ag0 hp (p1.append p2)⟩))
    .cases hd
   |_=>cases hd
  |int i=>
   cases y with
   |int j=>cases hd;cases OJ
   |_=>cases hd
  |tup i=>
   cases y with
   |tup j=>
    simp only[bin]at hd;split at hd<;>cases hd<;>cases OJ
   |_=>cases hd
  |_=>cases hd
def HE(h:ayk):Gk i j:=by
 unfold nZ at h;simp only[adV,aak,decide_eq_true_eq]at h;exact h
def Kl(ha:ahP)(hb:ajh):PE X (auY o) (tV X.K m λρ=>(fa ρ).bind λx=>(fb ρ).bind λy=>bin o x y):=by
 have no:∀(f:Env->air) (g:Env->air),(∀ρ,((f ρ).bind λ_=>(g ρ).bind λ_=>(none:air))=none):=λf g ρ=>by
  cases f ρ<;>simp
 cases o with
 |Add=>exact v_add ha hb
 |Mult=>
  exact zc ha hb (λ_ _ h1 h2=>uj Ln h1 h2) λO σ ρ H x y d v w Q hx r1 r2 hd k=>by
   cases x with
   |int i=>
    cases y with
    |int j=>
     simp only[bin]at hd;split at hd
     .rename_i hz;cases hd;exact⟨i,j,aC4,aAI,HE hz,au9⟩
     .cases hd
    |_=>cases hd
   |_=>cases hd
 |FloorDiv=>
  exact zc ha hb (λ_ _ h1 h2=>uj Gm h1 h2) λO σ ρ H x y d v w Q hx r1 r2 hd k=>by
   cases x with
   |int i=>
    cases y with
    |int j=>
     simp only[bin]at hd;split at hd
     .rename_i hz;cases hd;exact⟨i,j,aC4,aAI,hz,au9⟩
     .cases hd
    |_=>cases hd
   |_=>cases hd
 |Mod=>
  exact zc ha hb (λ_ _ h1 h2=>uj Lo h1 h2) λO σ ρ H x y d v w Q hx r1 r2 hd k=>by
   cases x with
   |int i=>
    cases y with
    |int j=>
     simp only[bin]at hd;split at hd
     .rename_i hz;cases hd;exact⟨i,j,aC4,aAI,hz,au9⟩
     .cases hd
    |_=>cases hd
   |_=>cases hd
 |_=>exact PE.nov λρ=>no fa fb ρ
def vh(h:FW d=some i):d= .int i:=by cases d<;>first|(cases h;rfl)|cases h
def fK(h:eI d=some i):d= .bl i:=by cases d<;>first|(cases h;rfl)|cases h
mutual
noncomputable def iT:D->PyData
 | .cq => .none
 | .bl b=> .bool b
 | .int i=> .int i
 | .tup xs=> .tuple azO
 | .lst xs=> .list azO
 | .bx _ _ _=> .none
noncomputable def ef:ac1->List PyData
 |[]=>[]
 |x::xs=>iT x::ef xs
end
mutual
theorem kj:∀x y:D,PyData.eqv (iT x) (iT y)=pV x y
 | .cq,y=>by cases y<;>rfl
 | .bl b,y=>by cases y<;>rfl
 | .int b,y=>by cases y<;>rfl
 | .tup xs,y=>by
  cases y with
  |tup ys=>exact lC xs ys
  |_=>rfl
 | .lst xs,y=>by
  cases y with
  |lst ys=>exact lC xs ys
  |_=>rfl
 | .bx _ _ _,y=>by cases y<;>rfl
theorem lC:∀xs ys:ac1,PyData.eqvAll azO (ef ys)=BZ xs ys
 |[],ys=>by cases ys<;>rfl
 |x::xs,ys=>by
  cases ys with
  |nil=>rfl
  |cons y ys=>show(PyData.eqv (iT x) (iT y)&&PyData.eqvAll azO (ef ys))=(pV x y&&BZ xs ys);rw[kj x y,lC xs ys]
end
mutual
theorem lD:∀(x:D) (n:Nat),gH x n=true->(iT x).canLay0 =true/\(iT x).depth <=n
 | .cq,n,h=>⟨rfl,abn _⟩
 | .bl b,n,h=>⟨rfl,abn _⟩
 | .int i,n,h=>⟨rfl,abn _⟩
 | .tup xs,0,h=>nomatch (show false=true from h)
 | .lst xs,0,h=>nomatch (show false=true from h)
 | .bx _ _ _,n,h=>nomatch (show false=true from h)
 | .tup xs,n+1,h=>by
  have:=kl xs n h;exact⟨this.1,adJ this.2⟩
 | .lst xs,n+1,h=>by
  have:=kl xs n h;exact⟨this.1,adJ this.2⟩
theorem kl:∀(xs:ac1) (n:Nat),kY xs n=true->PyData.canLayAll0 azO=true/\PyData.depthAll azO<=n
 |[],n,h=>⟨rfl,abn _⟩
 |x::xs,n,h=>by
  have h:=acn.mp (show(gH x n&&kY xs n)=true from h);have a:=lD x n h.1;have b:=kl xs n h.2;exact⟨acn.mpr ⟨a.1,b.1⟩,Nat.max_le.mpr ⟨a.2,b.2⟩⟩
end
def fL(I:aa4)(h:bu X.K O H v d):∀n,gH d n=true->∀u,amA->∃as,aAW:=
 bu.rec (motive_1:=λv d _=>∀n,gH d n=true->∀u,amA->∃as,aAW) (motive_2:=λvs ds _=>∀n,kY ds n=true->∀us,axY->∃as,ReadsAll s.heap us (ef ds) as)
  (λ_ _ u r=>by cases r;exact⟨_,by rw[iT];exact .none⟩) (λb _ _ u r=>by cases r;exact⟨_,by rw[iT];exact .bool b⟩) (λi _ _ u r=>by obtain⟨t,rfl⟩:=r;exact⟨_,by rw[iT];exact .int i t⟩)
  (λ{a vs ds} h _ ih n hl u r=>by
   cases r;cases n with
   |zero=>exact nomatch (show false=true from hl)
   |succ n=>
    obtain⟨its,rv,⟨o,ho,hc,n',hd⟩,hz⟩:=I.tuple h;obtain⟨as,ra⟩:=ih n hl its rv;exact⟨as,by rw[iT];exact .tuple ho hc hd (by simpa using ra)⟩)
  (λ{a vs ds} h _ _ ih n hl u r=>by
   cases r;cases n with
   |zero=>exact nomatch (show false=true from hl)
   |succ n=>
    obtain⟨its,rv,⟨o,n',ho,hc,_,hd⟩,hz⟩:=I.list (akN h);obtain⟨as,ra⟩:=ih n hl its rv;exact⟨_,by rw[iT];exact .list ho hc hd (by simpa using ra)⟩)
  (λ{a vs ds} h _ ih n hl u r=>by
   cases r;cases n with
   |zero=>exact nomatch (show false=true from hl)
   |succ n=>
    obtain⟨its,rv,⟨o,n',ho,hc,_,hd⟩,hz⟩:=I.list (ant h);obtain⟨as,ra⟩:=ih n hl its rv;exact⟨_,by rw[iT];exact .list ho hc hd (by simpa using ra)⟩)
  (λ_ _ _ _ _ n hl _ _=>absurd hl (by simp[gH]))
  (λ_ _ us r=>by cases r;exact⟨[],by rw[ef];exact .nil⟩)
  (λ{v d vs ds} _ _ i1 i2 n hl us r=>by
   simp only[kY,aak]at hl;cases r with
   |cons r1 r2=>
    obtain⟨a1,q1⟩:=i1 n hl.1 _ r1;obtain⟨a2,q2⟩:=i2 n hl.2 _ r2;exact⟨a1++a2,by rw[ef];exact .cons q1 q2⟩) h
def Rl(K:ay)(neg:Bool):R2:=λx y H Q=>∃dx dy,bu K (λ_=>False) H x dx/\bu K (λ_=>False) H y dy/\gH dx 60=true/\gH dy 60=true/\Q (.bl (if neg then !pV dx dy else pV dx dy)) H
def MG(hu:af1):ma X (arB .Eq) (Rl X.K false):=by
 intro U s σ H x y v u Q I rx ry zz;refine kM zz λdx dy r1 r2 l1 l2 q=>?_;obtain⟨a1,q1⟩:=fL I r1 60 l1 v rx;obtain⟨a2,q2⟩:=fL I r2 60 l2 u ry;have b1:=lD dx 60 l1;have b2:=lD dy 60 l2;exact SeqAt.compareEq_reads q1 q2 b1.1 b2.1 (by lia) ⟨.bl _,H,I,rfl,by rw[kj];exact q⟩
def MH(hu:af1):ma X (arB .NotEq) (Rl X.K true):=by
 intro U s σ H x y v u Q I rx ry zz;refine kM zz λdx dy r1 r2 l1 l2 q=>?_;obtain⟨a1,q1⟩:=fL I r1 60 l1 v rx;obtain⟨a2,q2⟩:=fL I r2 60 l2 u ry;have b1:=lD dx 60 l1;have b2:=lD dy 60 l2;exact SeqAt.compareNe_reads q1 q2 b1.1 b2.1 (by lia) ⟨.bl _,H,I,rfl,by rw[kj];exact q⟩
theorem vj(x:D):∀ys:ac1,((ef ys).any λy=>y.eqv (iT x))=ys.any λy=>pV y x
 |[]=>by rw[ef];rfl
 |y::ys=>by rw[ef,aea,aea,kj,vj x ys]
noncomputable def V8(K:ay):R2:=λx y H Q=>∃dx ys,bu K (λ_=>False) H x dx/\bu K (λ_=>False) H y auq/\gH dx 60=true/\gH auq 60=true/\Q (.bl (!ys.any λz=>pV z dx)) H
def MI(hu:af1):ma X (arB .NotIn) (V8 X.K):=by
 intro U s σ H x y v u Q I rx ry zz;refine kM zz λdx ys r1 r2 l1 l2 q=>?_;obtain⟨a1,q1⟩:=fL I r1 60 l1 v rx;obtain⟨a2,q2⟩:=fL I r2 60 l2 u ry;exact SeqAt.notIn_list_reads q2 q1 (kl ys 59 l2).1 (lD dx 60 l1).1 (aaU (abj (aam aBM (kl ys 59 l2).2) _) (aaU (abj (show 60<=64 by decide) _) hu)) ⟨.bl _,H,I,rfl,by rw[vj];exact q⟩
def DQ(hu:af1):∃r,ayl/\∀O σ (ρ:Env) H x y k v w Q,axD->aGm->aGl->cmp op x y=some k->(∀H',aiX->Q (.bl k) H')->r v w H Q:=by
 cases op with
 |Eq=>
  refine⟨_,MG hu,λO σ ρ H x y k v w Q hx r1 r2 hd q=>?_⟩;simp only[cmp]at hd;split at hd
  .rename_i hl;rw[aak]at hl;cases hd;exact⟨x,y,r1.any,r2.any,hl.1,hl.2,q _ ad2⟩
  .cases hd
 |NotEq=>
  refine⟨_,MH hu,λO σ ρ H x y k v w Q hx r1 r2 hd q=>?_⟩;simp only[cmp]at hd;split at hd
  .rename_i hl;rw[aak]at hl;cases hd;exact⟨x,y,r1.any,r2.any,hl.1,hl.2,q _ ad2⟩
  .cases hd
 |IsNot=>
  refine⟨_,Gn,λO σ ρ H x y k v w Q hx r1 r2 hd q=>?_⟩;cases y with
  |cq=>
   simp only[cmp]at hd;cases r2.cq;refine⟨rfl,?_⟩;have:(!decide (v= .cq))=k:=by
    cases hd;cases x with
    |cq=>cases r1.cq;rfl
    |bl i=>cases r1.bl;rfl
    |int i=>cases r1.int;rfl
    |tup i=>obtain⟨_,_,rfl,_⟩:=r1.tup;rfl
    |lst i=>obtain⟨_,_,rfl,_⟩:=r1.lst;rfl
    |bx t ks i=>obtain⟨_,rfl⟩:=r1.MF;rfl
   rw[this];exact q _ ad2
  |_=>cases hd
 |NotIn=>
  refine⟨_,MI hu,λO σ ρ H x y k v w Q hx r1 r2 hd q=>?_⟩;cases y with
  |lst ys=>
   simp only[cmp]at hd;split at hd
   .rename_i hl;rw[aak]at hl;cases hd;exact⟨x,ys,r1.any,r2.any,hl.1,hl.2,q _ ad2⟩
   .cases hd
  |_=>cases hd
 |Lt=>
  refine⟨_,PJ,λO σ ρ H x y k v w Q hx r1 r2 hd q=>?_⟩;cases x with
  |int i=>
   cases y with
   |int j=>cases hd;exact⟨i,j,aC4,aAI,q _ ad2⟩
   |_=>cases hd
  |_=>cases hd
 |_=>exact⟨λ_ _ _ _=>False,λ_ _ _ _ _ _ _ _ _ _ _ _ h=>h.elim,λ_ _ _ _ _ _ _ _ _ _ _ _ _ hd _=>by cases hd⟩
def Rm(hu:af1)(ha:ahP)(hb:ajh)(hm:ai3):
  PE X aiS (tV X.K m λρ=>(fa ρ).bind λx=>(fb ρ).bind λy=>aFt):=by
 refine aa (DQ (op:=op) hu) λr ho hr=>(Gp ho ha hb hm).weak λσ H Q zz=>cx zz λO ρ d hx hd k=>aa aa5 λx e1 hd=>aa aa5 λy e2 hd=>aa ae4 λq e3 ai=>?_;subst ai;exact⟨O,ρ,x,hx,e1,λv H1 s1 r1=>⟨O,ρ,y,ahV,e2,λw H2 s2 r2=>hr O σ ρ H2 x y q v w Q arX avH r2 e3 λH' s'=>k _ H' aql aoA⟩⟩
def Rn(hu:af1)(ha:ahP)(hb:ajh)(hm:ai3):
  PT X aiS (tB X.K λρ=>((fa ρ).bind λx=>(fb ρ).bind λy=>aFt).bind eI):=by
 refine aa (DQ (op:=op) hu) λr ho hr=>(Gq ho ha hb hm).weak λσ H Q zz=>cx zz λO ρ d hx hd k=>aa aa5 λz hd hz=>aa aa5 λx e1 hd=>aa aa5 λy e2 hd=>aa ae4 λq e3 ai=>?_;subst ai;have GQ:q=d:=aaQ hz;subst GQ;exact⟨O,ρ,x,hx,e1,λv H1 s1 r1=>⟨O,ρ,y,ahV,e2,λw H2 s2 r2=>hr O σ ρ H2 x y q v w _ arX avH r2 e3 λH' s'=>⟨q,rfl,k H' aql⟩⟩⟩
def dh(h:ag_)(he:∀whole,isTrue e X.env whole=(do let v<-whole;standAt e.pos;holding [v] ay0)):PT X e (tB X.K λρ=>amx):=
 (La h he).weak λσ H Q zz=>by
  refine cx zz λO ρ k hx hd q=>aa aa5 λx e1 hd=>?_;cases fK hd;exact⟨O,ρ,_,hx,e1,λv H1 s1 r1=>⟨k,r1.bl,azz⟩⟩
def Km(ha:asG):PE X (.UnaryOp .USub a pos) (tV X.K m λρ=>((fa ρ).bind FW).map λi=> .int (-i)):=
 (PH Lp ha).weak λσ H Q zz=>by
  refine cx zz λO ρ d hx hd k=>aa ae4 λi jC ai=>?_;subst ai;refine aa awI λx e1 lE=>?_;cases vh lE;exact⟨O,ρ,_,hx,e1,λv H1 s1 r1=>⟨i,aC4,k _ _ s1 ajq⟩⟩
def v_not(ha:asG):PE X an5 (tV X.K m λρ=>((fa ρ).bind eI).map λk=> .bl !k):=
 (Ce ha).weak λσ H Q zz=>by
  refine cx zz λO ρ d hx hd k=>aa ae4 λx jC ai=>?_;subst ai;refine aa awI λy e1 lE=>?_;cases fK lE;exact⟨O,ρ,_,hx,e1,λv H1 s1 r1=>⟨x,r1.bl,k _ H1 s1 aoA⟩⟩
def Ro{fa:Env->Option D}(ha:PT X a (tB X.K λρ=>asW)):PT X an5 (tB X.K λρ=>(((fa ρ).bind eI).map λk=>D.bl !k).bind eI):=
 (Ld ha).weak λσ H Q zz=>by
  refine cx zz λO ρ d hx hd k=>aa aa5 λx jC h2=>aa (alk jC) λy lE ai=>?_;subst ai;cases h2;exact⟨O,ρ,y,hx,lE,λH1 s1=>k H1 s1⟩
noncomputable def bo(k:Bool):BoolOp:=if k then .And else .Or
def MJ(ha:asG):PE X (akG [a]) (tV X.K m λρ=>(((fa ρ).bind eI).bind λx=>if x=k then some k else some x).map .bl):=
 (Cd (op:=bo k) ha).weak λσ H Q zz=>by
  refine cx zz λO ρ d hx hd q=>aa ae4 λy jC ai=>?_;subst ai;refine aa awI λx lE hy=>aa (aks lE) λz e1 Rp=>?_;cases fK Rp;have:x=y:=by
   split at hy
   .rename_i e;cases hy;exact e
   .cases hy;rfl
  subst this;exact⟨O,ρ,_,hx,e1,λv H1 s1 r1=>q v H1 s1 (akN r1.own)⟩
def Rq{fr:Env->Option Bool}(ha:asG)(hr:PE X (akG (b::es)) (tV X.K false λρ=>(fr ρ).map .bl)):
  PE X (akG (a::b::es)) (tV X.K m λρ=>(((fa ρ).bind eI).bind λx=>if x=k then fr ρ else some x).map .bl):=by
 cases k with
 |true=>
  refine PE.weak (wq ha hr) λσ H Q zz=>cx zz λO ρ d hx hd q=>aa ae4 λy jC ai=>?_;subst ai;refine aa awI λx lE hy=>aa (aks lE) λz e1 Rp=>?_;cases fK Rp;refine⟨O,ρ,_,hx,e1,λv H1 s1 r1=>⟨x,r1.bl,?_⟩⟩;cases x with
  |true=>exact jP ⟨O,ρ,.bl y,ahV,by rw[aaB rfl]at hy;show(fr ρ).map D.bl=_;rw[hy];rfl,λv H2 s2 r2=>aBf⟩
  |false=>rw[aaF aan]at hy;cases hy;exact mO (q _ H1 s1 aoA)
 |false=>
  refine PE.weak (Pw ha hr) λσ H Q zz=>cx zz λO ρ d hx hd q=>aa ae4 λy jC aK=>?_;subst aK;refine aa awI λx lE hy=>aa (aks lE) λz e1 Rp=>?_;cases fK Rp;refine⟨O,ρ,_,hx,e1,λv H1 s1 r1=>⟨x,r1.bl,?_⟩⟩;cases x with
  |false=>exact mO ⟨O,ρ,.bl y,ahV,by rw[aaB rfl]at hy;show(fr ρ).map D.bl=_;rw[hy];rfl,λv H2 s2 r2=>aBf⟩
  |true=>rw[aaF aa1]at hy;cases hy;exact jP (q _ H1 s1 aoA)
def MK{fa:Env->Option D}(ha:PT X a (tB X.K λρ=>asW)):PW X (akG [a]) (tB X.K λρ=>((fa ρ).bind eI).bind λx=>if x=k then some k else some x):=by
 have w:∀σ H Q,tB X.K (λρ=>((fa ρ).bind eI).bind λx=>if x=k then some k else some x) σ H Q->tB X.K (λρ=>asW) σ H Q:=λσ H Q zz=>by
  refine cx zz λO ρ y hx hd q=>aa aa5 λx jC hy=>?_;have:x=y:=by
   split at hy
   .rename_i e;cases hy;exact e
   .cases hy;rfl
  subst this;exact⟨O,ρ,x,hx,jC,q⟩
 cases k with
 |true=>exact λwh U s σ H Q I h=>Gh ha wh U s σ H Q I (w σ H Q h)
 |false=>exact λwh U s σ H Q I h=>Lb ha wh U s σ H Q I (w σ H Q h)
def Rr{fa:Env->Option D}(ha:PT X a (tB X.K λρ=>asW))(hr:PW X (akG (b::es)) (aG4 fr)):
  PW X (akG (a::b::es)) (tB X.K λρ=>((fa ρ).bind eI).bind λx=>if x=k then fr ρ else some x):=by
 cases k with
 |true=>
  refine λwh U s σ H Q I h=>Lc ha hr wh U s σ H Q I ?_;refine cx h λO ρ y hx hd q=>aa aa5 λx hd hy=>⟨O,ρ,x,hx,hd,λH1 s1=>?_⟩;cases x with
  |true=>exact jP ⟨O,ρ,y,ahV,by rw[aaB rfl]at hy;exact hy,λH2 s2=>q H2 ag0⟩
  |false=>rw[aaF aan]at hy;cases hy;exact mO azz
 |false=>
  refine λwh U s σ H Q I h=>Pp ha hr wh U s σ H Q I ?_;refine cx h λO ρ y hx hd q=>aa aa5 λx hd hy=>⟨O,ρ,x,hx,hd,λH1 s1=>?_⟩;cases x with
  |false=>exact mO ⟨O,ρ,y,ahV,by rw[aaB rfl]at hy;exact hy,λH2 s2=>q H2 ag0⟩
  |true=>rw[aaF aa1]at hy;cases hy;exact jP azz
def Rt:PA X [] (sU X.K m λ_=>some []):=λp U s σ H Q I zz=>by
 refine cx zz λO ρ ds hx hd k=>?_;cases hd;exact b_ p U s σ H Q I (k [] H ad2 .nil)
def eg{K:ay}:∀{vs:ad5}{ds:ac1},Paired (bP K O false H) vs ds->ac5:=λ{vs ds} h=>by
 induction h with
 |nil=>exact .nil
 |cons r t ih=>exact .cons r.own ih
def xC{K:ay}{b:Bool}:∀{vs:ad5}{ds:ac1},Paired (bP K O b H) vs ds->aq K (λ_=>False) H vs ds:=λ{vs ds} h=>by
 induction h with
 |nil=>exact .nil
 |cons r t ih=>exact .cons r.any ih
def ML(h:atY)(hr:PA X es (sU X.K m g))(hs:aa_):
  PA X (e::es) (sU X.K m λρ=>(f ρ).bind λx=>(g ρ).bind λxs=>some (x::xs)):=λp U s σ H Q I zz=>by
 refine cx zz λO ρ ds hx hd k=>aa aa5 λx e1 hd=>aa aa5 λxs e2 hd=>?_;cases hd;exact aX h hr hs p U s σ H Q I ⟨O,ρ,x,hx,e1,λv H1 s1 r1=>⟨O,ρ,xs,ahV,e2,λvs H2 s2 r2=>k (v::vs) H2 ag0 (.cons avH r2)⟩⟩
def Ko{k:Nat}(h:aGD):PE X avz (tV X.K m λρ=>(g ρ).bind λxs=>if xs.length<=bW then some ajJ else none):=
 PE.weak (Lw h) λσ H Q zz=>by
  refine cx zz λO ρ d hx hd q=>aa aa5 λxs e1 hd=>?_;split at hd
  .rename_i hz;cases hd;refine⟨O,ρ,xs,hx,e1,λvs H1 s1 r1=>?_⟩;have nj:=eg r1;exact⟨by rw[nj.length,cB];exact hz,λp hp=>q _ _ ayd (akN (apT (nj.mono ah8)))⟩
  .cases hd
def Ru{g:Env->Option ac1}(h:aGD):PE X (.List es pos) (tF X.K λρ=>(g ρ).bind λxs=>if xs.length<=bW then some xs else none):=
 PE.weak (Cn h) λσ H Q zz=>by
  refine cx zz λO ρ d hx hd q=>aa aa5 λxs e1 hd=>?_;split at hd
  .rename_i hz;cases hd;refine⟨O,ρ,_,hx,e1,λvs H1 s1 r1=>?_⟩;have nj:=eg r1;exact⟨by rw[nj.length,cB];exact hz,λp hp=>q p vs H1 s1 hp nj⟩
  .cases hd
def oH(n:Nat)(i:Int):place n i=OA n i:=rfl
def item_at{K:ay}(h:ac5)(e:((place ds.length k).bind λj=>ds[j]?)=some d):∃v,JR vs k=some v/\ajj:=by
 exact aa (aks e) λj e1 e2=>aa (h.get e2) λv h1 h2=>⟨v,by unfold JR;rw[h.length,<-oH,e1];exact h1,h2⟩
def Rv{fa fb:Env->Option D}(ha:ahP)(hb:PE X b (akr fb))(hs:rJ b):PE X (ayZ b) (tV X.K m λρ=>(fa ρ).bind λx=>(fb ρ).bind λk=>item x k):=
 PE.weak (JS (yk.or LB) ha hb hs) λσ H Q zz=>by
  refine cx zz λO ρ d hx hd q=>aa aa5 λx e1 hd=>aa aa5 λy e2 hd=>?_;refine⟨O,ρ,x,hx,e1,λv H1 s1 r1=>⟨O,ρ,y,ahV,e2,λw H2 s2 r2=>?_⟩⟩;have nj:=r1.mono s2;cases y with
  |int k=>
   cases x with
   |lst xs=>
    refine ba nj.lst λp vs ai h1 h2=>?_;subst ai;exact aa (item_at h2 hd) λu h3 h4=> .inl ⟨p,vs,k,u,rfl,aAI,h1,h3,aFN⟩
   |tup xs=>
    refine ba nj.tup λp vs aK h1 h2=>?_;subst aK;exact aa (item_at h2 hd) λu h3 h4=> .inr ⟨p,vs,k,u,rfl,aAI,h1,h3,aFN⟩
   |_=>cases hd
  |_=>cases x<;>cases hd
def tO(K:ay)(f:Env->Option ag5):TO:=λσ H Q=>∃O ρ o,aiB/\f ρ=some o/\∀H',aiX->Q o H'
def MM:PO X none (tO X.K λ_=>some none):=λU s σ H Q I zz=>by
 refine cx zz λO ρ o hx hd k=>?_;cases hd;exact Gv U s σ H Q I (k H ad2)
def MN(h:ag_):PO X (aku e) (tO X.K λρ=>((f ρ).bind FW).map some):=λU s σ H Q I zz=>by
 refine cx zz λO ρ o hx hd k=>aa ae4 λi jC ai=>?_;subst ai;refine aa awI λd e1 lE=>?_;cases vh lE;exact Gw h U s σ H Q I ⟨O,ρ,_,hx,e1,λv H1 s1 r1=>⟨i,aC4,k H1 s1⟩⟩
def dQ(n d:Nat)(o:ag5):bound n d o=HT.cC n d o:=by
 cases o with
 |none=>rfl
 |some v=>
  have:=HT.rG v n d;show(if v<0 then max (v+(n:Int)) 0 else min v (n:Int)).toNat =_;rw[this];exact abU _
def oJ{K:ay}(h:ac5)(lo hi:ag5):aq K O H (uq vs lo hi) (v5 ds lo hi):=by
 unfold uq v5;rw[dQ,dQ,h.length];exact(h.drop _).take _
def Rw{lo hi:aqP}(ha:ahP)(hl:aGA)(hh:aGB):
  PE X (amy a) (tV X.K m λρ=>(fa ρ).bind λx=>(fl ρ).bind λl=>(fh ρ).bind λh=>cutD x l h):=
 PE.weak (uo (FR.or yl GS) ha hl hh) λσ H Q zz=>by
  refine cx zz λO ρ d hx hd q=>aa aa5 λx e1 hd=>aa aa5 λl e2 hd=>aa aa5 λh e3 hd=>?_;refine⟨O,ρ,x,hx,e1,λv H1 s1 r1=>⟨O,ρ,l,ahV,e2,λH2 s2=>⟨O,ρ,h,arX,e3,λH3 s3=>?_⟩⟩⟩;have nj:=r1.mono aua;have F3:=(s1.trans s2).trans s3;cases x with
  |lst xs=>
   cases hd;refine ba nj.lst λp vs ai h1 h2=>?_;subst ai;exact .inl ⟨p,vs,rfl,h1,λp' hp=>q _ _ (F3.trans ah8) (akN (.lst axG ((hx.mono F3).free ad2 hp) aA8))⟩
  |tup xs=>
   refine ba nj.tup λp vs aK h1 h2=>?_;subst aK;cases hd;by_cases hw:bound xs.length 0 l=0/\bound xs.length xs.length h=xs.length
   .refine .inr (.inr ⟨p,vs,rfl,h1,by rw[<-dQ,<-dQ,h2.length];exact hw,q _ _ F3 (.inl (.tup h1 ?_))⟩);have e:v5 xs l h=xs:=by
     unfold v5;rw[hw.1,hw.2,adK,ahn,List.take_length]
    rw[e];exact h2
   .refine .inr (.inl ⟨p,vs,rfl,h1,?_,λp' hp=>q _ _ (F3.trans ah8) (akN (apT aA8))⟩);rw[<-dQ,<-dQ,h2.length];exact hw
  |_=>cases hd
def V9{lo hi:aqP}(ha:ahP)(hl:aGA)(hh:aGB):
  PE X (amy a) (tF X.K λρ=>((fa ρ).bind λx=>(fl ρ).bind λl=>(fh ρ).bind λh=>cutD x l h).bind λd=>match d with| .lst ds=>some ds|_=>none):=
 PE.weak (uo yl ha hl hh) λσ H Q zz=>by
  refine cx zz λO ρ ds hx hd q=>aa aa5 λd hd hz=>aa aa5 λx e1 hd=>aa aa5 λl e2 hd=>aa aa5 λh e3 hd=>?_;refine⟨O,ρ,x,hx,e1,λv H1 s1 r1=>⟨O,ρ,l,ahV,e2,λH2 s2=>⟨O,ρ,h,arX,e3,λH3 s3=>?_⟩⟩⟩;have nj:=r1.mono aua;have F3:=(s1.trans s2).trans s3;cases x with
  |lst xs=>
   cases hd;cases hz;refine ba nj.lst λp vs ai h1 h2=>?_;subst ai;exact⟨p,vs,rfl,h1,λp' hp=>q p' _ H3 F3 hp (oJ h2 l h)⟩
  |tup xs=>cases hd;cases hz
  |_=>cases hd
end
section
variable {X:Cx}{a b c e e0:Expr}{es:ahA}{pos p:Pos}{m:Bool}
def xD(K:ay)(n:Nat)(f:ac1->air):Sp:=λvs H Q _=>∃O ds d,(∀a,O a->∃u,al1/\tW u)/\ac5/\aGi/\vs.length=n/\∀v H',aiX->bu K O H' v d->Q v H'
def MO{g:Bool->Env->Option ac1}{ln:Env->Bool}(F:eL X.prog X.w X.K X.mg X.base rM k fa fd ps (xD X.K ps.length f))(hr:aBs)(hg:awZ)(hm:X.mg x=some ai7)
  (hk:ayH) (hb:avq) (hf:∀ds d,aGi->aul) (ha:∀b,PA X (e::es) (sU X.K b (g b))) (hl:∀ρ,ln ρ=false->g true ρ=g false ρ)
  (yf:aiC) (he:aa_) (dq:(backTo pos ahL).any (·.1)=false):
  PE X aiu (tV X.K m λρ=>(g true ρ).bind λxs=>(f xs).bind λd=>if ln ρ&&!aF d then none else some d):=by
 intro U s σ H Q I zz;refine cx zz λO ρ d hx hd q=>?_;refine aa aa5 λxs e1 hd=>aa aa5 λd' e2 hd=>?_;cases V_:ln ρ with
 |false=>
  rw[V_]at hd;simp only[Bool.false_and,aco,if_false]at hd;cases hd;rw[hl ρ V_]at e1;refine rF F hr hg hm hk hb .nil CF (ha false) yf he dq U s σ H Q I ⟨O,ρ,xs,hx,e1,λvs H1 s1 r1=>?_⟩;have nj:=eg r1;show xD X.K ps.length f aEB H1 Q E0;rw[abm];exact⟨O,xs,d,(hx.mono s1).live,nj,e2,by rw[nj.length];exact hf _ _ e2,λv H2 s2 r2=>q v H2 ag0 (akN r2)⟩
 |true=>
  rw[V_]at hd;cases hn:aF d' with
  |false=>rw[hn]at hd;cases hd
  |true=>
   rw[hn]at hd;simp only[Bool.not_true,Bool.and_false,aco,if_false]at hd;cases hd;refine rF F hr hg hm hk hb .nil CF (ha true) yf he dq U s σ H Q I ⟨O,ρ,xs,hx,e1,λvs H1 s1 r1=>?_⟩;have nj:=xC r1;show xD X.K ps.length f aEB H1 Q E0;rw[abm];exact⟨λ_=>False,xs,d,λ_ z=>aAy,nj,e2,by rw[nj.length];exact hf _ _ e2,λv H2 s2 r2=>q v H2 ag0 (akN (Be r2 hn))⟩
def lF(mk:∀t,amt->PE X e0 (U3 r t))(ha:axy)
  (hr:∀O σ (ρ:Env) H ds vs d Q,axD->Paired (bP X.K O true H) vs ds->pf ds=some d->(∀v H',aiX->bP X.K O m H' v d->Q v H')->r vs H Q):PE X e0 (tV X.K m λρ=>(g ρ).bind pf):=
 (mk _ ha).weak λσ H Q zz=>by
  exact cx zz λO ρ d hx hd q=>aa aa5 λxs e1 hd=>⟨O,ρ,xs,hx,e1,λvs H1 s1 r1=>hr O σ ρ H1 xs vs d Q ahV r1 hd λv H' s' r'=>q v H' (s1.trans s') r'⟩
def cy{K:ay}{b:Bool}(h:Paired (bP K O b H) vs [d]):∃v,vs=[v]/\atQ:=by
 cases h with
 |cons r t=>cases t;exact⟨_,rfl,r⟩
theorem cw{K:ay}:∀{vs:ad5}{ds:ac1}{ns:aa0},ac5->aI ds=some ns->vs=ns.map V.int
 |_,_,_,.nil,h=>by cases h;rfl
 |_,_,ns,.cons (d:=d) r t,h=>by
  cases d with
  |int i=>
   simp only[aI]at h;refine aa (alk h) λnR h1 ai=>?_;subst ai;rw[aaX,<-cw t h1,r.int_inv]
  |_=>cases h
def V'(K:ay):ad5->Hp->VK->Prop:=λxs H Q=>∃p n ns,am2/\(cK K H p aEq\/cH K H p aEq)/\Q (al6 (iR n ns)) H
def Bf(hc:af6):cu X (.builtin "min") (V' X.K):=by
 intro U s σ H xs us Q I r zz;refine cx zz λp n ns e hq q=>?_;subst e;refine aa anS λu ai rx=>?_;subst ai;cases rx;have fin:∀(h':Heap) (tk:Nat) (t:Tok),(∀b o,ab2->ad4)->EP X U σ Q (arF (iR n ns)) {s with heap:=h',toks:=tk}:=λh' tk t k=>⟨.int _,H,I.kept k,amE,q⟩;rcases hq with hq|hq
 .exact bH akW λits rv pl hz=>mi ahx (akN pl.isList) asu fin
 .exact bH an1 λits rv pl hz=>mi ahx (ant pl) asu fin
noncomputable def i5:wK->Str
 | .len =>"len"| .tuple =>"tuple"| .list =>"list"| .min =>"min"| .sorted =>"sorted"| .all =>"all"
theorem gS{K:ay}:∀{vs:ad5}{ds:ac1}{bs:amX},ac5->eW ds=some bs->vs=bs.map V.bl
 |_,_,_,.nil,h=>by cases h;rfl
 |_,_,bs,.cons (d:=d) r t,h=>by
  cases d with
  |bl i=>
   obtain⟨nR,h1,rfl⟩:=map_some (show(eW _).map _=_ from h);rw[aaX,<-gS t h1,r.xy]
  |_=>exact nS h
theorem nk{K:ay}:∀{vs:ad5}{ds:ac1}{ks:ab3},ac5->dw ds=some ks->Paired amU vs ks/\∀k∈ks,k≠[]
 |_,_,_,.nil,h=>by cases h;exact⟨.nil,λ_ z=>nomatch z⟩
 |_,_,ks,.cons (d:=d) r t,h=>by
  cases d with
  |tup xs=>
   refine aa (aks (show(aI xs).bind _=_ from h)) λk h1 h=>?_;by_cases hk:k=[]
   .exact nS ((aaB hk).symm.trans h)
   .refine aa (alk ((aaF hk).symm.trans h)) λks' h2 ai=>?_;subst ai;refine ba r.gh λa us aK q1 q2=>?_;subst aK;have e:=cw q2 h1;subst e;have p:=nk t h2;exact⟨.cons ⟨a,rfl,q1⟩ p.1,λz hz=>(aat.mp hz).elim (λe=>by rw[e];exact hk) (p.2 z)⟩
  |_=>exact nS h
def zf{K:ay}(h:TupAt H u k):bu K O H u (n6 k):=by
 refine aa h λb ai hb=>?_
 try clear h
 subst ai;exact .tup hb (fJ k)
def oK{K:ay}:∀{us:ad5}{ks:ab3},arP->aq K O H us (ks.map n6):=λ{us ks} h=>by
 induction h with
 |nil=>exact .nil
 |cons h t ih=>exact .cons (zf h) ih
def qS{q:wK}(hu:af1)(hc:af6)(hg:Gl X (i5 q))(hm:X.mg (i5 q)=none)(ha:axy)
  (he:aa_) (dq:(backTo pos ahL).any (·.1)=false):
  PE X (.Call (.Name (i5 q) p) (e::es) [] pos) (tV X.K m λρ=>(g ρ).bind (prim q)):=by
 cases q with
 |len=>
  refine lF (λt ht=>c9 rL hg hm PySem.boot_len ht aa1 aa1 he dq) ha λO σ ρ H ds vs d Q hx r hd q=>?_;cases ds with
  |nil=>cases hd
  |cons x t=>
   cases t with
   |cons _ _=>cases hd
   |nil=>
    refine aa (cy r) λv ai rv=>?_;subst ai;refine aa (alk (show(seq x).map (λys=>D.int ys.length)=some d from hd)) λys h1 aK=>?_;subst aK;refine ba atl λp us cL h2 h3=>?_;subst cL;exact⟨p,us,rfl,h2,by rw[h3.length];exact q _ _ ad2 ajq⟩
 |tuple=>
  refine lF (λt ht=>dO p_ hg hm boot_tuple ht aa1 aa1 he dq) ha λO σ ρ H ds vs d Q hx r hd q=>?_;cases ds with
  |nil=>cases hd
  |cons x t=>
   cases t with
   |cons _ _=>cases hd
   |nil=>
    refine aa (cy r) λv ot rv=>?_;subst ot;refine aa ae4 λys h1 Rx=>?_;subst Rx;refine ba atl λp us Ry h2 h3=>?_;subst Ry;refine⟨p,us,rfl,?_⟩;rcases h2 with h2|h2
    .exact .inl ⟨h2,λl hl=>q _ _ aoZ (akN (apT (h3.mono aoZ)))⟩
    .exact .inr ⟨h2,q _ _ ad2 (akN (.tup h2 h3))⟩
 |list=>
  refine lF (λt ht=>dO jK hg hm boot_list ht aa1 aa1 he dq) ha λO σ ρ H ds vs d Q hx r hd q=>?_;cases ds with
  |nil=>cases hd
  |cons x t=>
   cases t with
   |cons _ _=>cases hd
   |nil=>
    refine aa (cy r) λv OP rv=>?_;subst OP;refine aa ae4 λys h1 Wa=>?_;subst Wa;refine ba atl λp us zr9 h2 h3=>?_;subst zr9;exact⟨p,us,rfl,h2,λl hl=>q _ _ aoZ (akN (aCk (h3.mono aoZ)))⟩
 |min=>
  refine lF (λt ht=>c9 ((Bf hc).or (A1 hc hu)) hg hm boot_min ht aa1 aa1 he dq) ha λO σ ρ H ds vs d Q hx r hd q=>?_;cases ds with
  |nil=>cases hd
  |cons x t=>
   cases t with
   |nil=>
    refine aa (cy r) λv MP rv=>?_;subst MP;refine aa (bind_some (o:=seq x) hd) λys h1 hd=>ba atl λp us MQ h3 h4=>?_;subst MQ;cases h2:aI ys with
    |some ns=>
     rw[h2]at hd;cases ns with
     |nil=>cases hd
     |cons n ns=>
      cases hd;have:=cw h4 h2;subst this;exact .inl ⟨p,n,ns,rfl,h3,q _ _ ad2 ajq⟩
    |none=>
     rw[h2]at hd;cases x with
     |lst zs=>
      cases h1;refine ba rv.lst λp' us' e' MR TH=>?_;cases e';refine aa aa5 λks h5 hd=>?_;cases ks with
      |nil=>cases hd
      |cons k ks=>
       cases hd;exact .inr ⟨p,us',k,ks,rfl,MR,(nk TH h5).1,λu hu=>q _ _ ad2 (akN (zf hu))⟩
     |_=>cases hd
   |cons y t=>cases hd
 |sorted=>
  refine lF (λt ht=>c9 sF hg hm boot_sorted ht aa1 aa1 he dq) ha λO σ ρ H ds vs d Q hx r hd q=>?_;cases ds with
  |nil=>cases hd
  |cons x t=>
   cases t with
   |nil=>
    refine aa (cy r) λv MS rv=>?_;subst MS;refine aa (aks (show(seq x).bind (λys=>(dw ys).map λks=>D.lst atG)=some d from hd)) λys h1 hd=>aa ae4 λks h5 Wb=>?_;subst Wb;refine ba atl λp us Wc h3 h4=>?_;subst Wc;obtain⟨p1,p2⟩:=nk h4 h5;exact⟨p,us,ks,rfl,h3,p1,p2,λl ws hl pw=>ako⟩
   |cons y t=>cases hd
 |all=>
  refine lF (λt ht=>c9 (AK hc) hg hm boot_all ht aa1 aa1 he dq) ha λO σ ρ H ds vs d Q hx r hd q=>?_;cases ds with
  |nil=>cases hd
  |cons x t=>
   cases t with
   |cons _ _=>cases hd
   |nil=>
    cases x with
    |lst ys=>
     obtain⟨bs,hb,rfl⟩:=map_some (show(eW ys).map (λbs=>D.bl atr)=some d from hd);obtain⟨v,rfl,rv⟩:=cy r;obtain⟨p,us,rfl,h2,h3⟩:=rv.lst;have:=gS h3 hb;subst this;exact⟨p,bs,rfl,h2,q _ _ ad2 aoA⟩
    |_=>cases hd
def f_list{g:Env->Option ac1}(hg:Gl X "list")(hm:X.mg "list"=none)(ha:axy)
  (he:aa_) (dq:(backTo pos ahL).any (·.1)=false):
  PE X (.Call (.Name "list" p) (e::es) [] pos) (tF X.K λρ=>(g ρ).bind λxs=>match xs with|[x]=>seq x|_=>none):=
 PE.weak (dO jK hg hm boot_list ha aa1 aa1 he dq) λσ H Q zz=>by
  refine cx zz λO ρ ds hx hd q=>aa aa5 λxs e1 hd=>⟨O,ρ,xs,hx,e1,λvs H1 s1 r=>?_⟩;cases xs with
  |nil=>cases hd
  |cons x t=>
   cases t with
   |cons _ _=>cases hd
   |nil=>
    refine aa (cy r) λv ai rv=>?_;subst ai;refine ba (rv.seq hd) λp us aK h2 h3=>?_;subst aK;exact⟨p,us,rfl,h2,λl hl=>q l us H1 s1 hl h3⟩
noncomputable def qh(lo:Int):Nat->List V
 |0=>[]
 |n+1=> .int lo::qh (lo+1) n
theorem lG{K:ay}:∀(n:Nat) (lo:Int),aq K O H (qh lo n) (bS lo n)
 |0,_=> .nil
 |n+1,lo=> .cons (al6 lo) (lG n (lo+1))
theorem gT:∀(n:Nat) (lo:Int),(qh lo n).length =n
 |0,_=>rfl
 |n+1,lo=>by rw[qh,aaL,gT n]
theorem lH:∀(n:Nat) (lo:Int) (us:ab0),us.length=n->(∀(j:Nat) (v:Value),us[j]?=some v->∃t,v=Value.int (lo+j) t)->aD (qh lo n) us
 |0,lo,us,hl,_=>by
  cases us with
  |nil=>exact .nil
  |cons _ _=>cases hl
 |n+1,lo,us,hl,h=>by
  cases us with
  |nil=>cases hl
  |cons u us=>
   obtain⟨t,e⟩:=h 0 u rfl;refine .cons ⟨t,by simpa using e⟩ (lH n (lo+1) us (by simpa using hl) λj v hj=>?_);obtain⟨t',e'⟩:=h (j+1) v (by simpa using hj);refine⟨t',?_⟩;rw[e'];congr 1
   push_cast
   lia
def zg(hg:Gl X "range")(hm:X.mg "range"=none)(ha:PA X [a] t)(hs:ahJ):PE X (alv (.Name "range" p)) (λσ H Q=>t σ H λvs H1=>∃hi:Int,vs=[.int hi]/\∀p,alM->Q ahG (alm avw)):=by
 intro U s σ H Q I h;refine Call_ (jc I hg hm boot_range (acG (bF ah7 λus s1 zz=>ba zz λvs H1 I1 r1 q1=>?_) hs rfl));refine aa q1 λhi e q=>?_;subst e;obtain⟨u,rfl,t',rfl⟩:=vals1 r1;refine call_range_1 ⟨ar9,_,I1.laid (o:= .iO 0 hi) (λb o e=>aiY) ac9 ⟨_,_,_,ag6⟩,rfl,q _ I1.fresh⟩
def xE(hc:af6):cu X (.type "list") (λxs H Q=>∃(p:Addr) (hi:Int),am2/\H p=some avw/\(-(2 ^ 62)<=hi/\hi<=bW)/\∀l,art->Q aic (L2.upd H l (akx aoR))):=by
 intro U s σ H xs us Q I r ⟨p,hi,e,hp,⟨MT,hl⟩,q⟩;subst e;refine aa anS λu ai rx=>?_;subst ai;cases rx;refine SU ((show aO X.prog X.w H s.heap p avw from I.aJ p _ hp)) λt u v ho=>?_;have Bg:apo:=rfl;have DR:Builtin.Range.rangeSize 0 hi 1=((hi.toNat:Nat):Int):=by rw[rangeSize_one];split<;>lia
 refine call_list_range (n:=hi.toNat) ahx ho atj DR (Gb hl) λh' tk L_ c' kp hg gy=>⟨ab6,_,I.laid (o:= .lst aoR) kp ac9 ⟨by rw[gT,cB];exact Gb hl,L_.toList,c',lH _ _ _ (by simpa using gy.1) (λj v hj=>?_),by simpa using hg⟩,rfl,q _ I.fresh⟩;obtain⟨t',e'⟩:=gy.2 j v (by simpa using hj);exact⟨t',by rw[e'];simp⟩
def vk(hc:af6):cu X (.type "tuple") (λxs H Q=>∃(p:Addr) (hi:Int),am2/\H p=some avw/\(-(2 ^ 62)<=hi/\hi<=bW)/\∀l,art->Q aic (L2.upd H l (akJ aoR))):=by
 intro U s σ H xs us Q I r ⟨p,hi,e,hp,⟨MT,hl⟩,q⟩;subst e;refine aa anS λu ai rx=>?_;subst ai;cases rx;refine SU ((show aO X.prog X.w H s.heap p avw from I.aJ p _ hp)) λt u v ho=>?_;have Bg:apo:=rfl;have DR:Builtin.Range.rangeSize 0 hi 1=((hi.toNat:Nat):Int):=by rw[rangeSize_one];split<;>lia
 refine AJ (n:=hi.toNat) ahx ho atj DR (Gb hl) λh' tk acc kp gy=>?_;have I1:Inv X U σ H {s with heap:=h'}:=I.kept (t':=s.toks) kp;have I2:Inv X U σ (L2.upd H h'.objs.size (akJ aoR)) {s with heap:=h'.push {cls:= .type "tuple",data:= .seq acc},toks:=tk}:=
  I1.laid (t':=tk) (λb o e=>aiY) ac9 (show aO X.prog X.w _ _ _ (akJ aoR) from⟨by rw[gT,cB];exact Gb hl,acc.toList,lH _ _ _ (by simpa using gy.1) (λj v hj=>by
   obtain⟨t',e'⟩:=gy.2 j v (by simpa using hj);exact⟨t',by rw[e'];simp⟩),by simpa using jB.new h' acc⟩)
 exact⟨.ref h'.objs.size,_,I2,rfl,q _ ah9⟩
def DS{q1 pos':Pos}(hc:af6)(hg:Gl X "range")(hm:X.mg "range"=none)(F1:Gl X "tuple")(AA:X.mg "tuple"=none)(ha:PA X [a] aoe)(hl:∀ρ ds,aDl->ds.length=1)(hs:ahJ):
  PE X (.Call (.Name "tuple" q1) [.Call (.Name "range" p) [a] [] pos] [] pos') (tV X.K m λρ=>((g ρ).bind eM).map .tup):=by
 have h1:=zg (p:=p) (pos:=pos) hg hm ha hs;refine PE.weak (dO (vk hc) F1 AA PyProof.Rows.boot_tuple (aAs h1) aa1 aa1 rfl rfl) λσ H Q zz=>cx zz λO ρ d hx hd q=>aa ae4 λds nT ai=>?_;subst ai;clear hd;refine aa (aks nT) λxs e1 hd=>?_;clear nT;have qq:=hl ρ xs e1;refine⟨O,ρ,xs,hx,e1,λvs H1 s1 r=>?_⟩;cases xs with
 |nil=>cases qq
 |cons x t=>
  cases t with
  |cons _ _=>cases qq
  |nil=>
   refine aa (cy r) λv aK rv=>?_;subst aK;cases x with
   |int n=>
    simp only[eM]at hd;split at hd
    .rename_i hz;cases hd;cases rv.int;exact⟨n,rfl,λp hp=>⟨p,n,rfl,ag,hz,λl hl=>q _ _ ((s1.trans ah8).trans aoZ) (akN (apT (lG _ _)))⟩⟩
    .cases hd
   |_=>cases hd
theorem lI:∀{ns:aa0}{j:Nat},dz k ns=some j->ns[j]?=some k/\∀m,m<j->ns[m]?≠some k
 |[],_,h=>by cases h
 |n::r,j,h=>by
  unfold dz at h;split at h
  .rename_i e;cases h;subst e;exact⟨rfl,λm hm=>absurd hm alz⟩
  .rename_i ne;refine aa (alk h) λi h1 ai=>?_;subst ai;obtain⟨h2,h3⟩:=lI h1;refine⟨h2,λm hm=>?_⟩;cases m with
   |zero=>exact λz=>ne (by simpa using z)
   |succ m=>exact h3 m (aaY hm)
def DT{K:ay}(s:aiX){a:Addr}(h:aum):cK K H' a vs:=h.elim (λh=> .inl (nh s h)) .inr
def HF{oe a0:Expr}(ho:PE X oe (aos fo))(ha:PA X [a0] aoQ)(hb:attributeBase oe "index" X.env (aky oe)=eval oe X.env)(hl:ap1)(hs:azv):
  PE X (.Call (.Attribute oe "index" ap) [a0] [] cp) (tV X.K m λρ=>(fo ρ).bind λx=>(g ρ).bind λxs=>fj .index x xs):=
 (Qu PySem.F.plainAttrs_tuple afN PySem.F.type_tuple_index CT ho ha hb (by rw[hs];rfl) hl hs rfl).weak λσ H Q zz=>by
  refine cx zz λO ρ d hx hd k=>aa aa5 λx e1 hd=>aa aa5 λxs e2 hd=>?_;have key:∃ys kk,x= .tup ys/\xs=[aGS]/\∃ns,aI ys=some ns/\∃j:Nat,dz kk ns=some j/\d= .int (j:Int):=by
   cases x with
   |tup ys=>
    cases xs with
    |nil=>cases hd
    |cons y t=>
     cases t with
     |cons _ _=>cases y<;>cases hd
     |nil=>
      cases y with
      |int kk=>
       exact aa (aks (show(aI ys).bind (λns=>(dz kk ns).map λ(i:Nat)=>D.int (i:Int))=some d from hd)) λns e3 h4=>aa (alk h4) λj e4 e5=>⟨ys,kk,rfl,rfl,ns,e3,j,e4,e5.symm⟩
      |_=>cases hd
   |_=>cases hd
  obtain⟨ys,kk,rfl,rfl,ns,e3,j,e4,rfl⟩:=key;refine⟨O,ρ,.tup ys,hx,e1,λv H1 s1 r1=>?_⟩;refine ba r1.tup λa vs ai q1 p1=>?_;subst ai;refine⟨⟨a,vs,rfl,q1⟩,O,ρ,[aGS],ahV,e2,λus H2 s2 r2=>?_⟩;refine aa (cy r2) λu aK ru=>?_;subst aK;have hv:vs=ns.map V.int:=cw p1 e3;subst hv;obtain⟨h1,h2⟩:=lI e4;exact⟨a,ns,kk,j,rfl,by rw[ru.int],kh s2 q1,h1,h2,k _ _ ag0 ajq⟩
def DU{oe a0:Expr}(ho:PE X oe (aos fo))(ha:PA X [a0] aoQ)(hb:attributeBase oe "index" X.env (aky oe)=eval oe X.env)(hl:ap1)(hs:azv):
  PE X (.Call (.Attribute oe "index" ap) [a0] [] cp) (tV X.K m λρ=>(fo ρ).bind λx=>(g ρ).bind λxs=>fj .rP x xs):=
 (ym acY PySem.F.slot_list_index PySem.F.type_list_index AI ho ha hb (by rw[hs];rfl) hl hs rfl).weak λσ H Q zz=>by
  refine cx zz λO ρ d hx hd k=>aa aa5 λx e1 hd=>aa aa5 λxs e2 hd=>?_;have key:∃ys kk,x= .lst ys/\xs=[aGS]/\∃ns,aI ys=some ns/\∃j:Nat,dz kk ns=some j/\d= .int (j:Int):=by
   cases x with
   |lst ys=>
    cases xs with
    |nil=>cases hd
    |cons y t=>
     cases t with
     |cons _ _=>cases y<;>cases hd
     |nil=>
      cases y with
      |int kk=>
       exact aa (aks (show(aI ys).bind (λns=>(dz kk ns).map λ(i:Nat)=>D.int (i:Int))=some d from hd)) λns e3 h4=>aa (alk h4) λj e4 e5=>⟨ys,kk,rfl,rfl,ns,e3,j,e4,e5.symm⟩
      |_=>cases hd
   |_=>cases hd
  obtain⟨ys,kk,rfl,rfl,ns,e3,j,e4,rfl⟩:=key;refine⟨O,ρ,.lst ys,hx,e1,λv H1 s1 r1=>?_⟩;refine ba r1.lst λa vs ai q1 p1=>?_;subst ai;refine⟨.inl ⟨rfl,vs,q1⟩,O,ρ,[aGS],ahV,e2,λus H2 s2 r2=>?_⟩;refine aa (cy r2) λu aK ru=>?_;subst aK;have hv:vs=ns.map V.int:=cw p1 e3;subst hv;obtain⟨h1,h2⟩:=lI e4;exact⟨a,ns,kk,j,rfl,by rw[ru.int],DT s2 q1,h1,h2,k _ _ ag0 ajq⟩
inductive Sk where
 |tup|lst|bx (o:Obj) (ks:ab3) (vs:ad5)
abbrev Wd:=Option (Sk×V×List D)
def fM(K:ay)(O:Addr->Prop)(H:Hp):Wd->Prop
 |none=>True
 |some (.lst,v,ds)=>∃a vs,alb/\aum/\aq K O H vs ds
 |some (.tup,v,ds)=>∃a vs,alb/\an0/\aq K O H vs ds
 |some (.bx o ks vs,v,ds)=>∃a,alb/\H a=some aEi/\ag4/\oG 0 ks/\aq K O H vs ds
theorem fM.mono{K:ay}(h:ayq)(s:aiX):fM K O H' iz:=by
 rcases iz with _|⟨_|_|⟨o,ks,vs⟩,v,ds⟩
 .trivial
 .obtain⟨a,vs,e,h1,h2⟩:=h;exact⟨a,vs,e,kh (K:=K) s h1,h2.mono s⟩
 .obtain⟨a,vs,e,h1,h2⟩:=h;exact⟨a,vs,e,s.seq h1,h2.mono s⟩
 .obtain⟨a,e,h1,h2,h3,h4⟩:=h;exact⟨a,e,s _ _ h1,h2,h3,h4.mono s⟩
theorem fM.own{K:ay}{p:Addr}(h:ayq)(hp:aj_):fM K (λa=>O a\/a=p) H iz:=by
 rcases iz with _|⟨_|_|⟨o,ks,vs⟩,v,ds⟩
 .trivial
 .obtain⟨a,vs,e,h1,h2⟩:=h;exact⟨a,vs,e,h1,h2.own hp⟩
 .obtain⟨a,vs,e,h1,h2⟩:=h;exact⟨a,vs,e,h1,h2.own hp⟩
 .obtain⟨a,e,h1,h2,h3,h4⟩:=h;exact⟨a,e,h1,h2,h3,h4.own hp⟩
def MU(K:ay)(O:Addr->Prop)(b:Bool)(H:Hp):Wd->Prop
 |none=>True
 |some (.lst,v,ds)=>bP K O b H v apD
 |some (.tup,v,ds)=>bP K O b H v aE5
 |some (.bx o ks vs,v,ds)=>fM K O H (aku (auH,v,ds))
def MU.ok{K:ay}{b:Bool}(h:MU K O b H iz):ayq:=by
 rcases iz with _|⟨_|_|⟨o,ks,vs⟩,v,ds⟩
 .trivial
 .exact bP.tup h
 .exact bP.lst h
 .exact h
def xF(K:ay)(J:It)(iz:Wd)(ds:ac1):Prop:=
 ∀O H,ayq->(∀i,i<ds.length->aBY)/\(∀i x H' d,arp->ds[i]?=some d->aiX/\bu K O H' x d)/\J.stop ds.length H
def tI(K:ay)(b:Bool)(f:Env->alZ):TI:=λσ H R=>∃O ρ ds,aiB/\aDp/\
 ∀J iz H',aiX->xF K J iz ds->MU K O b H' iz->R J H'
def MV{K:ay}{a:Addr}:xF K (UQ K a) (aku (.lst,ab_,ds)) ds:=λO H zz=>by
 refine ba zz λb vs e h1 h2=>?_;cases e;have l:=h2.length;refine⟨λi hi=>?_,λi x H' d ⟨e,y⟩ hd=>?_,vs,h1,aaw l⟩
 .have gy:aui:=aAV;exact⟨vs,vs[i],h1,by simp[gy]⟩
 .subst e;refine aa (h2.get hd) λv e1 e2=>?_;have:=y vs h1;rw[e1]at this;cases this;exact⟨ad2,e2⟩
def MW{K:ay}{a:Addr}:xF K (UR K a) (aku (.tup,ab_,ds)) ds:=λO H zz=>by
 refine ba zz λb vs e h1 h2=>?_;cases e;have l:=h2.length;refine⟨λi hi=>?_,λi x H' d ⟨e,y⟩ hd=>?_,vs,h1,aaw l⟩
 .have gy:aui:=aAV;exact⟨vs,vs[i],h1,by simp[gy]⟩
 .subst e;refine aa (h2.get hd) λv e1 e2=>?_;have:=y vs h1;rw[e1]at this;cases this;exact⟨ad2,e2⟩
theorem gU:∀(n:Nat) (lo:Int),(bS lo n).length =n
 |0,_=>rfl
 |n+1,lo=>by rw[bS,aaL,gU n]
theorem vm:∀(n:Nat) (lo:Int) (i:Nat) (d:D),(bS lo n)[i]?=some d->d= .int (lo+i)
 |0,lo,i,d,h=>by simp[bS]at h
 |n+1,lo,0,d,h=>by simp[bS]at h;subst h;simp
 |n+1,lo,i+1,d,h=>by
  simp[bS]at h;rw[vm n (lo+1) i d h];congr 1
  push_cast
  lia
def MX{K:ay}{lo:Int}:xF K (S4 lo n) none (bS lo n):=λO H _=>by
 refine⟨λi hi=>?_,λi x H' d ⟨e,y⟩ hd=>?_,?_⟩
 .rw[gU]at hi;exact hi
 .subst e y;rw[vm n lo i d hd];exact⟨ad2,.int _⟩
 .show n<=(bS lo n).length;rw[gU];exact aas _
def We(h:PE X a (alj f)):PI X tg a (tI X.K m λρ=>(f ρ).bind seq):=by
 intro U s σ H R I zz;refine cx zz λO ρ ds hx hd q=>?_;refine aa aa5 λd e1 hd=>bF (h U s σ H (λv H1=>asC/\bP X.K O m H1 v d) I ⟨O,ρ,d,hx,e1,λv H' s' r'=>⟨s',r'⟩⟩) λv s1 zz=>iq zz λx H1 I1 r1 s' rb=>?_;cases d with
 |lst xs=>
  cases hd;refine ba rb.lst λp vs ai h1 h2=>?_;subst ai;cases r1;refine bH (I1.list h1) λits rv pl hz=>acO pl.isList ?_;refine⟨aia,[aia],_,UQ X.K p,H1,rfl,I1.kept (t':=s1.toks) λb o e=>aiY,Ak p _,ah3,λb hb=>?_,q _ (aku (.lst,ahG,ds)) H1 s' MV rb⟩;have e:apq:=by simpa using hb
  subst e;exact I1.ui ac9 ah9
 |tup xs=>
  cases hd;refine ba rb.tup λp vs aK h1 h2=>?_;subst aK;cases r1;refine bH (I1.tuple h1) λits rv pl hz=>adO (show s1.heap.IsTuple p its.toArray from pl) ?_;refine⟨aia,[aia],_,UR X.K p,H1,rfl,I1.kept (t':=s1.toks) λb o e=>aiY,wt p _,ah3,λb hb=>?_,q _ (aku (.tup,ahG,ds)) H1 s' MW rb⟩;have e:apq:=by simpa using hb
  subst e;exact I1.ui ac9 ah9
 |_=>cases hd
theorem dB:∀(xs:ac1) (k:Int),(bI k xs).length =xs.length
 |[],_=>rfl
 |_::r,k=>by rw[bI,aaL,aaL,dB r]
theorem km:∀(xs:ac1) (k:Int) (i:Nat) (d:D),(bI k xs)[i]?=some d->∃y,xs[i]?=some y/\d= .tup [.int (k+i),y]
 |[],_,_,_,h=>by simp[bI]at h
 |x::r,k,0,d,h=>by
  simp[bI]at h;exact⟨x,rfl,by rw[<-h];simp⟩
 |x::r,k,i+1,d,h=>by
  refine aa (km r (k+1) i d (by simpa[bI]using h)) λy h1 h2=>⟨y,by simpa using h1,?_⟩;rw[h2,show k+1+(i:Int)=k+((i+1:Nat):Int) by push_cast;lia]
def DV{K:ay}{a:Addr}(hS:∀O H,fM K O H (aku (k,ab_,ds))->∃vs,Sq H vs/\ac5):xF K (Tg Sq) (aku (k,ab_,ds)) (bI 0 ds):=λO H h=>by
 obtain⟨vs,hq,hr⟩:=hS O H h;have hl:=hr.length;refine⟨λi hi=>?_,λi x H' d hy hd=>?_,?_⟩
 .rw[dB,<-hl]at hi;exact⟨vs,vs[i],hq,by simp[hi]⟩
 .obtain⟨t,y,ht,rfl,rfl,hy⟩:=hy;obtain⟨z,h1,rfl⟩:=km ds 0 i d hd;obtain⟨v,e1,e2⟩:=hr.get h1;have:y=v:=by
   have q:=hy vs hq;rw[e1]at q;exact(aaQ q).symm
  subst this;refine⟨ah.upd ht,.tup (cH.of ag) (.cons ?_ (akA (e2.mono (ah.upd ht))))⟩;have e0:(0:Int)+(i:Int)=i:=(Xy alB alB az1);rw[e0];exact .int _
 .exact⟨vs,hq,by rw[dB];exact hl⟩
def Rz{elts:ahA}(hg:Gl X "enumerate")(hm:X.mg "enumerate"=none)(ha:PE X a (alj f))(hs:ahJ):
  PI X asb (alv (.Name "enumerate" p)) (tI X.K m λρ=>(f ρ).bind λx=>(seq x).map (bI 0)):=by
 have h1:=GO (X:=X) (a:=a) (p:=p) (pos:=pos) (elts:=elts) (k0:=k0) (tpos:=tpos) hg hm (aX ha b_ hs) hs;intro U s σ H R I zz;refine cx zz λO ρ ds hx hd q=>?_;refine aa aa5 λx e1 hd=>aa ae4 λxs e2 ai=>?_;subst ai;refine h1 U s σ H R I ⟨O,ρ,x,hx,e1,λv H1 s1 r1=>?_⟩;cases x with
 |tup ys=>
  cases e2;refine ba r1.tup λb vs aK q1 p1=>?_;subst aK;refine⟨b,vs,rfl,.inl ⟨q1,q _ aDK H1 s1 (DV λO' H' h=>?_) r1⟩⟩;refine ba h λc us e h2 h3=>?_;cases e;exact⟨us,h2,h3⟩
 |lst ys=>
  cases e2;refine ba r1.lst λb vs cL q1 p1=>?_;subst cL;refine⟨b,vs,rfl,.inr ⟨q1,q _ (aku (.lst,ajV,xs)) H1 s1 (DV λO' H' h=>?_) r1⟩⟩;refine ba h λc us e h2 h3=>?_;cases e;exact⟨us,h2,h3⟩
 |_=>cases e2
def DW{κ:Type}{f:aa0->κ}{ks:ab3}{vs:ad5}(hl:ag4){i:Nat}(hi:aF9):((ks.map f).zip vs)[i]?=some (f ks[i],vs[i]'(hl▸hi)):=
 afJ.mpr ⟨by rw[aaC,aai hi];rfl,aai (hl▸hi)⟩
def kn:gG 0 ks vs= .dK ((ks.map λk=>(Sum.inl aim:cz)).zip vs):=by unfold gG;rw[aaB rfl]
def HG{K:ay}{a:Addr}{ks:ab3}(hl:ag4):xF K (VF a o ((ks.map λk=>(Sum.inl aim:cz)).zip vs)) aE4 (ks.map λk=> .int aim):=λO H zz=>by
 refine Ou zz λb e h1 h2 h3 h4=>?_;cases e;rw[kn]at h1;have len:((ks.map λk=>(Sum.inl aim:cz)).zip vs).length =ks.length:=by rw[adz,aap,hl,aev]
 refine⟨λi hi=>⟨h1,by rw[len];simpa using hi⟩,λi x H' d ⟨e,y⟩ hd=>?_,h1,by rw[len,aap]⟩;subst e;have hi:aF9:=by
  have:=(aax.mp hd).1;simpa using this
 rw[DW hl hi]at y;rw[aaC,aai hi]at hd;cases hd;cases y;exact⟨ad2,.int _⟩
def HH{K:ay}{a:Addr}{ks:ab3}(hl:ag4)(jC:vs.length=ds.length):xF K (VT a o ((ks.map λk=>(Sum.inl aim:cz)).zip vs)) aE4 ds:=λO H zz=>by
 refine Ou zz λb e h1 h2 h3 h4=>?_;cases e;rw[kn]at h1;have len:((ks.map λk=>(Sum.inl aim:cz)).zip vs).length =ks.length:=by rw[adz,aap,hl,aev]
 refine⟨λi hi=>⟨h1,by rw[len];exact B8 aFe (B8 (abl jC) hi)⟩,λi x H' d ⟨e,y⟩ hd=>?_,h1,by rw[len];exact afF (abl jC) aFe⟩;subst e;refine aa (h4.get hd) λv e1 e2=>?_;have hi:aF9:=by
  have:=(aax.mp e1).1;exact aaj this ajf
 rw[DW hl hi]at y;cases y;rw[aai (aaj hi az3)]at e1;cases e1;exact⟨ad2,e2⟩
def EX.RA{K:ay}(hx:aiB){i:Nat}(h:ρ[i]?=some (aku (false,.bx 0 ks ds))):∃a o vs,σ[i]?=some aiz/\H a=some aEi/\ag4/\oG 0 ks/\ac5:=by
 refine aa (hx.kO i false _ h) λv q1 q2=>?_;have q2':bu K O H v (.bx 0 ks ds):=q2;cases q2' with
 |bx g1 g2 g3 g4=>exact⟨_,_,_,q1,g1,g2,g3,g4⟩
def Wf{tg:Expr}(hj:PE X a (dn j)):PI X tg a (tI X.K m λρ=>keysAt ρ j):=by
 intro U s σ H R I zz;refine cx zz λO ρ ds hx hd q=>?_;have hd:keysAt ρ j=some ds:=hd;unfold keysAt at hd;refine slot (λe=>nS (by rw[e]at hd;exact hd)) (λe=>nS (by rw[e]at hd;exact hd)) λo d e=>?_;rw[e]at hd;cases o with
 |true=>exact nS hd
 |false=>cases d with
  |bx t ks xs=>cases t with
   |zero=>
    cases (show some _=some ds from hd);refine vY (hx.RA e) λb o vs e1 e2 e3 e4 e5=>?_;refine QE hj U s σ H R I ⟨ajV,e1,b,o,_,rfl,by rw[e2,kn],q _ (aku (auH,ajV,xs)) H ad2 (HG e3) ⟨b,rfl,e2,e3,e4,e5⟩⟩
   |succ=>exact nS hd
  |_=>exact nS hd
def Wg{tg:Expr}(hj:PE X a (dn j))(jL:attributeBase a "values" X.env (aky a)=eval a X.env)(jM:ap1):PI X tg (auX (.Attribute a "values" ap)) (tI X.K m λρ=>rS ρ j):=by
 intro U s σ H R I zz;refine cx zz λO ρ ds hx hd q=>?_;have hd:rS ρ j=some ds:=hd;unfold rS at hd;refine slot (λe=>nS (by rw[e]at hd;exact hd)) (λe=>nS (by rw[e]at hd;exact hd)) λo d e=>?_;rw[e]at hd;cases o with
 |true=>exact nS hd
 |false=>cases d with
  |bx t ks xs=>cases t with
   |zero=>
    cases (show some _=some ds from hd);refine vY (hx.RA e) λb o vs e1 e2 e3 e4 e5=>?_;refine Q6 hj jL jM U s σ H R I ⟨ajV,e1,b,o,_,rfl,by rw[e2,kn],q _ (aku (auH,ajV,ds)) H ad2 (HH e3 e5.length) ⟨b,rfl,e2,e3,e4,e5⟩⟩
   |succ=>exact nS hd
  |_=>exact nS hd
def RB(hg:Gl X "reversed")(hm:X.mg "reversed"=none)(ha:PE X a (akr f))(hs:ahJ):
  PI X tg (alv (.Name "reversed" p)) (tI X.K m λρ=>(f ρ).bind CM):=by
 intro U s σ H R I ⟨O,ρ,ds,hx,hd,q⟩;refine aa aa5 λx e1 hd=>Q4 hg hm (aX ha b_ hs) hs U s σ H R I ⟨O,ρ,x,hx,e1,λv H1 s1 r=>?_⟩;cases x with
 |tup xs=>
  cases hd;refine ba r.tup λb vs ai h1 h2=>?_;subst ai;refine⟨b,vs,rfl,h1,q _ aDK H1 s1 (λO' H' ⟨c,us,e,g1,g2⟩=>?_) (akN r.own)⟩;cases e;have l1:=g2.length;have l2:=h2.length;have lr:xs.reverse.length=vs.length:=by rw[List.length_reverse];exact l2.symm
  refine⟨λi hi=>⟨us,g1,(afF l1 (abl l2)),(aaj hi (aaw lr))⟩,λi y Ym d ⟨e,hy⟩ hd=>?_,lr⟩;subst e;have hi:i<xs.length:=by
   have:=(aax.mp hd).1;simpa using this
  have ey:=hy us g1;rw[List.getElem?_reverse hi]at hd;refine aa (g2.get hd) λv e1 e2=>?_;have:vs.length-1-i=xs.length-1-i:=by lia
  rw[this,e1]at ey;cases ey;exact⟨ad2,e2⟩
 |_=>cases hd
end
section
variable {X:Cx}{a b c e:Expr}{es:ahA}{pos p:Pos}{m:Bool}
def EX.ext{K:ay}{p:Addr}(h:EX K O σ H1 ρ)(hp:alM)(s:ah H1 H)(e:H p=some ah2):EX K (λa=>O a\/a=p) σ H ρ:=by
 refine⟨λa ha=>?_,λi o d hi=>?_⟩
 .rcases ha with ha|ha
  .exact aa (h.live a ha) λus q qo=>⟨us,s _ _ q,qo⟩
  .subst ha;exact⟨_,e,trivial⟩
 .refine aa (h.kO i o d hi) λv h1 h2=>⟨v,h1,?_⟩;cases o with
  |true=>
   exact bH h2 λa e1 e2 c=>⟨a,e1,.inl e2,(c.own hp).mono s⟩
  |false=>exact(bu.own h2 hp).mono s
def Bh(h:o.join=some x):o=some (aku x):=by
 cases o with
 |none=>cases h
 |some y=>cases y with
  |none=>cases h
  |some z=>cases h;rfl
theorem EX.inner{K:ay}(h:aiB)(r:aq K O H us ys)(fr:ahW):EX K O (us.map some++jQ fr σ) H aus:=by
 refine⟨h.live,λi o d' hi=>?_⟩;unfold Py.inner at hi;have hl:=r.length;by_cases aU:i<ys.length
 .rw[abr (by simpa using aU),aaC]at hi;obtain⟨y,e1,e2⟩:=map_some hi;cases e2;obtain⟨v,f1,f2⟩:=r.get e1;exact⟨v,by rw[abr (by simpa[hl]using aU),aaC,f1];rfl,f2⟩
 .rw[abC (by simpa using aU),aap]at hi;unfold Qh at hi;rw[aaC]at hi;refine aa (alk hi) λi0 e0 hj=>aa (h.kO i0 o d' (Bh hj)) λw h1 h2=>⟨w,?_,h2⟩;rw[abC (by simpa[hl]using aU),aap,hl];unfold jQ;rw[aaC,e0];show some (σ[i0]?).join =_;rw[h1];rfl
noncomputable def qT(tg:Nat)(fs:Env->anD)(fe:Env->air)(fr:ahW)(ρ:Env)(y:D):as_:=(aH tg y).bind λys=>(fs aus).bind λk=>if k then(fe aus).map some else some none
def Yn(K:ay)(k tg:Nat)(g:TG):Prop:=∀O x H d ys aT Q,bu K O H x d->aH tg d=some ys->(∀us,aq K O H us ys->Q (us.map some++aT) H)->g x (List.replicate k none++aT) H Q
def RC{K:ay}:Yn K 1 0 (cI 0):=λO x H d ys aT Q r e q=>by
 cases e;exact q [x] (akA r)
def qU{K:ay}(hg:Yn K k tg g)(σ:St)(H:Hp)(Q:VK)
  (h:tF K (λρ=>(fi ρ).bind λxs=>if xs.length<=bW then walk (aCg tg) xs else none) σ H Q):qA k fr (aCN K) g (tB K fs) (ary fe) σ H Q:=by
 refine cx h λO ρ out hx hd q=>aa aa5 λxs e1 hd=>?_;split at hd
 .rename_i hz;refine⟨O,ρ,xs,hx,e1,λJ iz H1 s1 DX vn p hp=>?_⟩;have qV:=hx.mono s1;have MY:fM K (λa=>O a\/a=p) H1 iz:=vn.ok.own hp;refine⟨λi m H'=>aBi/\aDh/\ah H1 H'/\∃vs ys aT,H' p=some ah2/\aq K (λa=>O a\/a=p) H' vs ys/\ys.length<=i/\walk (aCg tg) aCS=some aT/\out=ys++aT,
   ⟨xs.length,rfl,abn _,ah8,[],[],out,ag,.nil,aas _,hd,rfl⟩,?_⟩
  rintro i mm H2 ⟨rfl,hi,s2,vs,ys,aT,ep,rp,hl,hw,ho⟩;refine c6 aA6 λgo Ci stop=>?_;by_cases aU:i<xs.length
  .refine .inr ⟨go i aU,λx H3 hy=>?_⟩;have Wh:xs[i]?=some xs[i]:=by simp[aU]
   obtain⟨s3,rx⟩:=Ci i x H3 _ hy Wh;have RD:H3 p=some ah2:=s3 _ _ ep;have Wi:EX K (λa=>O a\/a=p) σ H3 ρ:=qV.ext hp aua RD;have dr:xs.drop i=xs[i]::xs.drop (i+1):=(abH aU);rw[dr,walk]at hw;have ht:qT tg fs fe fr ρ xs[i]=(aH tg xs[i]).bind λys=>(fs (auV ys)).bind λk=>if k then(fe (auV ys)).map some else some none:=rfl
   rw[ht]at hw;cases Wj:aH tg xs[i]with
   |none=>rw[Wj]at hw;cases hw
   |some zs=>
   rw[Wj,abM]at hw;refine hg _ x H3 _ zs _ _ rx Wj λus rus=>?_;have RE:=Wi.inner rus fr;cases ek:fs (auV zs)with
   |none=>rw[ek]at hw;cases hw
   |some k=>
    rw[ek]at hw;refine⟨_,_,k,RE,ek,λH4 s4=>?_⟩;have Yo:H4 p=some ah2:=s4 _ _ RD;cases k with
    |false=>
     refine mO ⟨ax_,as8,rfl,aU,(s2.trans s3).trans s4,vs,ys,aT,Yo,rp.mono (s3.trans s4),afT hl,?_,ho⟩;simpa using hw
    |true=>
     cases ee:fe (auV zs)with
     |none=>rw[abM,aaB rfl,ee]at hw;cases hw
     |some d=>
      rw[abM,aaB rfl,ee]at hw;simp only[adR]at hw;refine aa (alk hw) λDY zh MZ=>jP ⟨_,_,d,RE.mono s4,ee,λv H5 s5 r5=>?_⟩;have Yp:H5 p=some ah2:=s5 _ _ Yo;have s15:ah H1 H5:=((s2.trans s3).trans s4).trans s5;refine⟨vs,ax_,Yp,by rw[rp.length,cB];exact aaU hl (aaj aU hz),as8,rfl,aU,λbb oo eb=>?_,anR,ys++[d],DY,ag,?_,?_,zh,?_⟩
      .rw[ak (bZ eb hp)];exact s15 _ _ eb
      .exact((rp.mono ((s3.trans s4).trans s5)).append (akA r5.own)).upd aBC Yp trivial
      .rw[aau,abw];exact abK hl
      .rw[ho,<-MZ,aaZ];rfl
  .have ei:i=xs.length:=avg;subst ei;refine .inl ⟨stop,?_⟩;rw[afj,walk]at hw;cases hw;rw[abm]at ho;subst ho;have hpH:aj_:=by
    cases z:H p with
    |none=>rfl
    |some o=>rw[s1 _ _ z]at hp;cases hp
   let H0:Hp:=λb=>if b=p then none else H2 b
   have e0:L2.upd H0 p ah2=H2:=by
    funext b;unfold L2.upd;by_cases hb:b=p
    .rw[aaB hb,hb,ep]
    .rw[aaF hb];exact aaF hb
   have k0:∀b,b≠p->H0 b=H2 b:=λb hb=>aaF hb;rw[<-e0];refine q p vs H0 (λb o eb=>?_) aDQ ?_
   .rw[k0 b (λz=>by rw[z,hpH]at eb;cases eb)];exact s2 _ _ (s1 _ _ eb)
   .refine fI (λb us hb=>?_) (λb us hb nb=>⟨?_,λz=>nb (Or.inl z)⟩) (λb o u hb=>by rw[k0 b (c7 hb ep (by intro z;cases z))];exact hb) rp
    .have jd:H2 b=some amS:=hb;show H0 b=some amS;rw[k0 b (c7 jd ep (by intro z;cases z))];exact jd
    .rcases hb with hb|⟨u,hb⟩
     .exact .inl (by rw[k0 b (λz=>nb (ant z))];exact hb)
     .exact .inr ⟨u,by rw[k0 b (λz=>nb (ant z))];exact hb⟩
 .cases hd
def TJ:rO 1 (cI 0):=λx σ H Q h=>⟨h,abO ..,λi hi=>by rw[aaT (aaN hi)]⟩
def M0(hi:PI X auI iter (aCN X.K))(S:LO X.N X.env.scope sc N' 1 fr)(hc:af6)
  (BY:∀cl C U s H ex,PG ae3 auI (cI 0)/\Az ae3 ifs (aG4 fs)/\PE ae3 eV (akr fe))
  (hs:∀x,ai_):PE X (.ListComp eV [⟨auI,iter,ifs,0⟩] sc pos) (tF X.K λρ=>(fi ρ).bind λxs=>if xs.length<=bW then walk (aCg 0) xs else none):=
 (yo hi S hc TJ BY hs).weak λσ H Q h=>qU RC σ H Q h
def DZ:Az X [] (tB X.K λ_=>au2):=λU s σ H Q I zz=>by
 refine cx zz λO ρ k hx hd q=>?_;cases hd;exact GF U s σ H Q I (q H ad2)
def HI{f:Env->Option D}(h:PT X c (tB X.K λρ=>amx))(hr:Az X es (aG4 g)):Az X (c::es) (tB X.K λρ=>((f ρ).bind eI).bind λx=>if x=true then g ρ else some x):=λU s σ H Q I zz=>by
 refine cx zz λO ρ k hx hd q=>aa aa5 λx e1 hd=>CI h hr U s σ H Q I ⟨O,ρ,x,hx,e1,λH1 s1=>?_⟩;cases x with
 |true=>exact jP ⟨O,ρ,k,ahV,by rw[aaB rfl]at hd;exact hd,λH2 s2=>q H2 ag0⟩
 |false=>rw[aaF aan]at hd;cases hd;exact mO azz
end
abbrev GT:=List Str×List (Str×Int)
noncomputable def qi(sc:Scope)(x:Str):Bool:=match sc.names.lookup x with|some .local =>true|some .cell =>true|some .free =>true|_=>false
noncomputable def dj(sc:Scope)(x:Str):Bool:=match sc.names.lookup x with|some .globalImplicit =>true|_=>false
noncomputable def wc(x:Str):Bool:=!ac2&&!ae9
noncomputable def bc:Expr->Bool| .Starred _ _=>false|_=>true
noncomputable def b9:Expr->Bool| .Slice _ _ _ _=>false|_=>true
noncomputable def gW:Expr->Bool| .Set _ _ _=>false|_=>true
noncomputable def D0:Expr->Bool| .Name _ _=>true| .Subscript _ _ _=>true| .Constant _ _ _=>true|_=>false
noncomputable def Yq:Const->Bool| .int i=>decide (i=1)|_=>false
noncomputable def Yr:D->Const->Bool
 | .cq,.none =>true
 | .bl b,.bool c=>b==c
 | .int i,.int j=>decide (i=j)
 |_,_=>false
noncomputable def RF(G:GT)(x:Str):D->Bool| .int i=>decide apb|_=>false
noncomputable def mr(sc FV:Scope):Scope:={sc with names:=sc.names.map λ(n,k)=>if(k == .free&&FV.kind == .function&&FV.names.lookup n==some .cell) then(n,.cell) else(n,k)}
noncomputable def qk(N:ac_)(xs:ac_)(fr:ahW):ac_:=xs++fr.map λi=>N.getD i ""
noncomputable def Bi(N:ac_)(FV sc:Scope)(xs:ac_)(fr:ahW):Bool:=
 decide (sc.kind= .function)&&sc.names.all (λy=>decide (aqp ->(y.1,ao5)∉sc.names))&&sc.names.all (λy=>decide (y.2= .local ->sc.names.lookup y.1=some .local)) &&
 sc.names.all (λy=>decide (aqp ->aw0 \/FV.names.lookup y.1=some .free)) &&
 fr.all (λi=>match N[i]? with|some y=>decide (sc.names.lookup y=some .free)|none=>false)&&xs.all (λx=>decide (aw8 \/aoP))&&decide (qk N xs fr).Nodup
noncomputable def D1(_:E):Bool:=true
noncomputable def fresh:E->Bool
 | .lst _=>true
 | .comp _ _ _ _ _=>true
 | .bin .Add _ _=>true
 | .prim .list _=>true
 | .uw .list _=>true
 | .sl _ _ _=>true
 |_=>false
noncomputable def dC(N:ac_)(sc:Scope)(i:Nat)(e:Expr):Bool:=match e with| .Name x _=>decide (N[i]?=some x)&&qi sc x&&wc x|_=>false
noncomputable def gm(e:Expr)(k:Str->Bool):Bool:=match e with| .Name x _=>k x|_=>false
noncomputable def sV(e:Expr)(k:Expr->ahA->Pos->Bool):Bool:=match e with| .Call f a s p=>s.isEmpty&&k f a p|_=>false
noncomputable def D2(e:Expr)(k:Expr->Str->Pos->Bool):Bool:=match e with| .Attribute o n p=>k o n p|_=>false
noncomputable def vp(e:Expr)(k:Expr->Expr->Bool):Bool:=match e with| .Subscript v s _=>k v s|_=>false
noncomputable def sW(e:Expr)(k:List aqP->ahA->Bool):Bool:=match e with| .Dict a b _=>k a b|_=>false
noncomputable def M3(e:Expr)(k:Expr->List Comprehension->Scope->Bool):Bool:=match e with| .ListComp a b c _=>k a b c|_=>false
noncomputable def Kp(e:Expr)(k:Expr->List CmpOp->ahA->Bool):Bool:=match e with| .Compare l a b _=>k l a b|_=>false
noncomputable def qW(st:Stmt)(k:ahA->Expr->Bool):Bool:=match st with| .Assign t v _=>k t v|_=>false
noncomputable def lJ(st:Stmt)(k:Expr->Bool):Bool:=match st with| .Expr e _=>k e|_=>false
noncomputable def pX(l:ahB)(k:α->Bool):Bool:=match l with|[]=>false|a::r=>r.isEmpty&&k a
noncomputable def Ys(l:ahB)(k:α->α->Bool):Bool:=match l with|[]=>false|a::r=>pX r (k a)
noncomputable def xH(o:ayM)(k:α->Bool):Bool:=match o with|none=>false|some a=>k a
noncomputable def qX(e:Expr)(k:Str->ahA->Bool):Bool:=sV e λf a _=>gm f λx=>k x a
noncomputable def mz(e:Expr)(k:Expr->Str->ahA->Bool->Bool):Bool:=sV e λf a cp=>D2 f λo n ap=>k o n a af9
noncomputable def sX(st:Stmt)(k:Str->Expr->Bool):Bool:=qW st λt v=>pX t λe=>gm e λx=>k x v
noncomputable def M4(e:Expr)(k:Expr->CmpOp->Expr->Bool):Bool:=Kp e λl a b=>pX a λo=>pX b λr=>k l o r
noncomputable def mB(e:Expr)(k:Str->Expr->Bool):Bool:=qX e λx a=>pX a (k x)
section
variable {e:Expr}{st:Stmt}
def cE(h:gm e k=true):∃x p,e= .Name x p/\k x=true:=by
 cases e with
 |Name x p=>exact⟨x,p,rfl,h⟩
 |_=>cases h
def lK(h:sV e k=true):∃f a p,e= .Call f a [] p/\k f a p=true:=by
 cases e with
 |Call f a s p=>
  have h':(s.isEmpty&&k f a p)=true:=h;rw[aak]at h';cases s with
  |nil=>exact⟨f,a,p,rfl,h'.2⟩
  |cons _ _=>cases h'.1
 |_=>cases h
def Bj(h:D2 e k=true):∃o n p,e= .Attribute o n p/\k o n p=true:=by
 cases e with
 |Attribute o n p=>exact⟨o,n,p,rfl,h⟩
 |_=>cases h
def kq(h:vp e k=true):∃v s p,e= .Subscript v s p/\k v s=true:=by
 cases e with
 |Subscript v s p=>exact⟨v,s,p,rfl,h⟩
 |_=>cases h
def lL(h:sW e k=true):∃a b p,e= .Dict a b p/\k a b=true:=by
 cases e with
 |Dict a b p=>exact⟨a,b,p,rfl,h⟩
 |_=>cases h
def zi(h:M3 e k=true):∃a b c p,e= .ListComp a b c p/\k a b c=true:=by
 cases e with
 |ListComp a b c p=>exact⟨a,b,c,p,rfl,h⟩
 |_=>cases h
def D3(h:Kp e k=true):∃l a b p,e= .Compare l a b p/\k l a b=true:=by
 cases e with
 |Compare l a b p=>exact⟨l,a,b,p,rfl,h⟩
 |_=>cases h
def gX(h:qW st k=true):∃t v p,st= .Assign t v p/\k t v=true:=by
 cases st with
 |Assign t v p=>exact⟨t,v,p,rfl,h⟩
 |_=>cases h
def fN(h:lJ st k=true):∃e p,st= .Expr e p/\k e=true:=by
 cases st with
 |Expr e p=>exact⟨e,p,rfl,h⟩
 |_=>cases h
def bQ(h:pX l k=true):∃a,l=[a]/\k a=true:=by
 cases l with
 |nil=>cases h
 |cons a r=>
  have h':(r.isEmpty&&k a)=true:=h;rw[aak]at h';cases r with
  |nil=>exact⟨a,rfl,h'.2⟩
  |cons _ _=>cases h'.1
def M5(h:Ys l k=true):∃a b,l=[a,b]/\k a b=true:=by
 cases l with
 |nil=>cases h
 |cons a r=>exact aa (bQ (show pX r (k a)=true from h)) λb e q=>⟨a,b,by rw[e],q⟩
def qY(h:xH o k=true):∃a,o=some a/\k a=true:=by
 cases o with
 |none=>cases h
 |some a=>exact⟨a,rfl,h⟩
def gY(h:qX e k=true):∃x q a p,e= .Call auI a [] p/\k x a=true:=
 kP (lK h) λf a p e1 h=>eU (cE h) λx q e2 h=>⟨x,q,a,p,by rw[e1,e2],h⟩
def et(h:mz e k=true):∃o n ap a cp,e= .Call (.Attribute o n ap) a [] cp/\k o n a af9=true:=
 kP (lK h) λf a p e1 h=>kP (Bj h) λo n ap e2 h=>⟨o,n,ap,a,p,by rw[e1,e2],h⟩
def eY(h:sX st k=true):∃x px v p,st= .Assign [ah6] v p/\k x v=true:=
 kP (gX h) λt v p e1 h=>aa (bQ h) λa e2 h=>eU (cE h) λx q e3 h=>⟨x,q,v,p,by rw[e1,e2,e3],h⟩
def zk(h:M4 e k=true):∃l o r p,e= .Compare l [o] [r] p/\k l o r=true:=
 mV (D3 h) λl a b p e1 h=>aa (bQ h) λo e2 h=>aa (bQ h) λr e3 h=>⟨l,o,r,p,by rw[e1,e2,e3],h⟩
def eC(h:mB e k=true):∃x q a p,e= .Call auI [a] [] p/\k x a=true:=
 mV (gY h) λx q a p e1 h=>aa (bQ h) λb e2 h=>⟨x,q,b,p,by rw[e1,e2],h⟩
end
mutual
noncomputable def bE(G:GT):E->ac_->Scope->Expr->Bool
 | .var i,N,sc,e=>match e with| .Name x _=>decide (N[i]?=some x)&&qi sc x&&wc x|_=>false
 | .c d,_,sc,e=>match e with| .Constant c _ _=>Yr d c| .Name x _=>dj sc x&&wc x&&RF G x d|_=>false
 | .bin o a b,N,sc,e=>match e with| .BinOp l op r _=>decide (o=op)&&bE G a N sc l&&bE G b N sc r|_=>false
 | .cmp o a b,N,sc,e=>M4 e λl op r=>decide (o=op)&&bE G a N sc l&&bE G b N sc r&&gW r
 | .CK k es,N,sc,e=>match e with| .BoolOp op vs _=>decide (op=bo k)&&!vs.isEmpty&&oM G es N sc vs|_=>false
 | .not a,N,sc,e=>match e with| .UnaryOp op x _=>decide (op= .Not)&&bE G a N sc x&&D1 a|_=>false
 | .neg a,N,sc,e=>match e with| .UnaryOp op x _=>decide (op= .USub)&&bE G a N sc x|_=>false
 | .tup es,N,sc,e=>match e with| .Tuple xs _ _=>dJ G es N sc xs|_=>false
 | .lst es,N,sc,e=>match e with| .List xs _=>dJ G es N sc xs|_=>false
 | .idx a i,N,sc,e=>match e with| .Subscript v s _=>bE G a N sc v&&bE G i N sc s&&b9 s|_=>false
 | .sl a lo hi,N,sc,e=>match e with
  | .Subscript v s _=>match s with
   | .Slice l h st _=>st.isNone&&bE G a N sc v&&Kq G lo N sc l&&Kq G hi N sc h
   |_=>false
  |_=>false
 | .call f es,N,sc,e=>qX e λx as=>decide (G.1[f]?=some x)&&dj sc x&&wc x&&!as.isEmpty&&dJ G es N sc as
 | .prim q es,N,sc,e=>qX e λx as=>decide (x=i5 q)&&dj sc x&&!as.isEmpty&&dJ G es N sc as
 | .uw q es,N,sc,e=>mB e λx ar=>mB ar λy a0=>(decide (q= .list)||decide (q= .tuple))&&decide (x=i5 q)&&decide (y="range")&&dj sc x&&dj sc y&&dJ G es N sc [a0]
 | .fj mm o es,N,sc,e=>mz e λoe nm as b=>pX as λa0=>decide (nm="index")&&D0 oe&&b&&bE G o N sc oe&&dJ G es N sc [a0]
 | .comp fr tg it ifs eV,N,sc,e=>M3 e λel gs iD=>pX gs λg=>gm g.target λx=>decide (tg=0)&&decide (g.is_async=0)&&gW g.iter&&Bi N sc iD [x] fr&&HJ G it N sc g.iter&&oM G ifs (qk N [x] fr) ash g.ifs&&bE G eV (qk N [x] fr) ash el
 | .nY i k,N,sc,e=>match e with| .Subscript v s _=>dC N sc i v&&bE G k N sc s&&b9 s|_=>false
 | .AD neg k i,N,sc,e=>M4 e λl op r=>decide (op=if neg then .NotIn else .In)&&bE G k N sc l&&dC N sc i r
 | .sset a,N,sc,e=>mB e λx ar=>mB ar λy a0=>decide (x="sorted")&&decide (y="set")&&dj sc x&&dj sc y&&bE G a N sc a0&&bc a0
 | .iW i,N,sc,e=>mB e λx a0=>decide (x="sorted")&&dj sc x&&dC N sc i a0
 |_,_,_,_=>false
noncomputable def dJ(G:GT):E->ac_->Scope->ahA->Bool
 | .nil,_,_,es=>es.isEmpty
 | .cons a r,N,sc,es=>match es with|e::es=>bE G a N sc e&&bc e&&dJ G r N sc es|[]=>false
 |_,_,_,_=>false
noncomputable def oM(G:GT):E->ac_->Scope->ahA->Bool
 | .nil,_,_,es=>es.isEmpty
 | .cons a r,N,sc,es=>match es with|e::es=>bE G a N sc e&&D1 a&&oM G r N sc es|[]=>false
 |_,_,_,_=>false
noncomputable def Kq(G:GT):E->ac_->Scope->aqP->Bool
 | .nil,_,_,o=>o.isNone
 | .cons a _,N,sc,o=>match o with|some e=>bE G a N sc e|none=>false
 |_,_,_,_=>false
noncomputable def HJ(G:GT):E->ac_->Scope->Expr->Bool
 | .iO es,N,sc,e=>qX e λx as=>decide (x="range")&&dj sc x&&decide (as.length=1)&&dJ G es N sc as
 | .it a,N,sc,e=>bE G a N sc e
 | .OC a,N,sc,e=>mB e λx a0=>decide (x="reversed")&&dj sc x&&bE G a N sc a0&&bc a0
 | .dk i,N,sc,e=>dC N sc i e
 | .dv i,N,sc,e=>mz e λoe nm as b=>as.isEmpty&&decide (nm="values")&&dC N sc i oe&&b
 |_,_,_,_=>false
end
def bM(h:ayt):starEach (e::es) env=(false,eval e env)::starEach es env:=by
 cases e<;>first|rfl|exact absurd h aan
theorem gZ:∀{es:ahA},azN->(backTo pos aFH).any (·.1)=false
 |[],_=>rfl
 |e::es,h=>by
  rw[aec,aak]at h;rw[bM h.1];show(false||(backTo pos aFH).any (·.1))=false;rw[gZ h.2];rfl
def ku:∀{e':E}{N:ac_}{sc:Scope}{es:ahA},dJ G e' N sc es=true->azN:=λ{e'}=>by
 induction e' with
 |nil=>
  intro N sc es h;rw[dJ]at h;cases es with
  |nil=>rfl
  |cons _ _=>cases h
 |cons a r _ ih=>
  intro N sc es h;cases es with
  |nil=>rfl
  |cons e es=>
   rw[dJ]at h;simp only[aak]at h;rw[aec,aak];exact⟨h.1.2,ih h.2⟩
 |_=>intro N sc es h;exact absurd (show false=true from h) aan
def D4:∀{e':E},rR ρ e'=false->dU F true e' ρ=dU F false e' ρ:=λ{e'}=>by
 induction e' with
 |nil=>intro _;rfl
 |cons a r _ ih=>
  intro h;have hr:rR ρ r=false:=by
   cases a with
   |var i=>exact(agN.mp h).2
   |_=>exact h
  have ha:ev F true a ρ=ev F false a ρ:=by
   cases a with
   |var i=>
    show rd true ρ i=rd false ρ i;have h1:rQ ρ i=false:=(agN.mp h).1;unfold rd;unfold rQ at h1;cases e:ρ[i]? with
    |none=>rfl
    |some o=>
     cases o with
     |none=>rfl
     |some t=>
      obtain⟨o,d⟩:=t;rw[e]at h1;have TK:o=false:=h1;subst TK;rfl
   |_=>rfl
  show(ev F true a ρ).bind _=(ev F false a ρ).bind _;rw[ha,ih hr]
 |_=>intro _;rfl
noncomputable def gn:ac_:=["len","tuple","list","min","sorted","range","enumerate","reversed","all","set","any","isinstance"]
structure Ct(X:Cx)(G:GT)(F:FT):Prop where
 calm:X.calm=true
 units:X.A.units+64<cLine
 mg:∀x∈gn,X.mg x=none
 cst:∀(x:Str) (i:Int),apb->∃t,X.mg x=some (arF i)
 call:∀(f:Nat) (x:Str),G.1[f]?=some x->∃(k:Nat) (fa:Addr) (fd:aka) (ps:ac_),eL X.prog X.w X.K X.mg X.base rM k fa fd ps (xD X.K ps.length (F f))/\aBs/\X.mg x=some ai7/\ayH/\avq/\∀ds d,arv->ds.length=ps.length
def Ct.inner(h:ahF)(sc:Scope)(cl:akV)(C:Addr)(N:ac_)(U:aa7)(s:ab5)(H:Hp)(ex:ae_):Ct (iQ X sc cl C N U s H ex) G F:=⟨h.calm,h.units,h.mg,h.cst,h.call⟩
structure cn(G:GT)(F:FT)(e':E):Prop where
 e:∀X,ahF->∀x,aif->∀m,PE X x (alj (awn e'))
 t:∀X,ahF->∀x,aif->D1 e'=true->PT X x (tB X.K λρ=>azq)
 f:∀X,ahF->∀x,aif->fresh e'=true->PE X x (tF X.K λρ=>azp)
 es:∀X,ahF->∀xs,dJ G e' X.N X.env.scope xs=true->∀m,PA X xs (sU X.K m (dU F m e'))
 ts:∀X,ahF->∀xs,oM G e' X.N X.env.scope xs=true->Az X xs (aG4 (k7 F true e'))/\
  (xs≠[]->∀k pos,(∀m,PE X (akG xs) (tV X.K m λρ=>(k7 F k e' ρ).map .bl))/\PW X (akG xs) (aG4 (k7 F k e')))
 o:∀X,ahF->∀x,Kq G e' X.N X.env.scope x=true->PO X x (tO X.K (LQ F e'))
 i:∀X,ahF->∀tg x,awY->∀m,PI X tg x aAC
def jo(h:qi sc x=true):vZ sc x:=by
 unfold qi at h;split at h
 .rename_i e;exact .inl e
 .rename_i e;exact .inr (akN e)
 .rename_i e;exact .inr (ant e)
 .cases h
def bX(h:dj X.env.scope x=true):awZ:=by
 unfold dj at h;split at h
 .rename_i e;exact e
 .cases h
def sY{X:Cx}{C:Addr}{ex:ae_}(h:L2.Loc sc x):L2.Loc (iQ X sc cl C N U s H ex).env.scope x/\((iQ X sc cl C N U s H ex).fn x=true\/(iQ X sc cl C N U s H ex).env.scope.names.lookup x=some .local):=by
 show L2.Loc aEL x/\(_\/(relabel sc X.env).names.lookup x=some .local);unfold L2.Loc;rw[show(relabel sc X.env).names.lookup x=_ from Ta];rcases h with h|h<;>rw[h]
 .exact⟨ahq,.inr rfl⟩
 .exact⟨.inr rfl,.inl (decide_eq_true (abN h))⟩
def bK(h:wc x=true):aiC/\ana:=by
 unfold wc at h;simpa using h
def dR(h:gW e=true):∀x,foldedSetIterable e env x=pure x:=by
 intro x;cases e<;>first|rfl|exact absurd h aan
def qZ(h:gW e=true):behindInMarks op e=false:=by
 cases e<;>first|rfl|exact absurd h aan
def oN(h:b9 e=true):rJ e:=by
 intro o i;cases e<;>first|rfl|exact absurd h aan
def sZ(h:Bi N FV sc xs fr=true):LO N FV sc (qk N xs fr) xs.length fr/\(∀x∈xs,L2.Loc sc x)/\(qk N xs fr).Nodup :=by
 unfold Bi at h;simp only[aak,decide_eq_true_eq,abZ]at h;obtain⟨⟨⟨⟨⟨⟨h1,h2⟩,h3⟩,h4⟩,h5⟩,h6⟩,h7⟩:=h;refine⟨⟨h1,h2,h3,h4,?_,λj y e=>?_⟩,h6,h7⟩
 .unfold qk;rw[aau,aap]
 .have e':(fr.map λi=>N.getD i "")[j]?=some y:=by
   unfold qk at e;rwa [abC aiD,abX]at e
  rw[aaC]at e';refine aa (alk e') λi f1 f2=>?_;have TM:=h5 i (abb f1);cases q:N[i]? with
  |none=>rw[q]at TM;cases TM
  |some z=>
   rw[q]at TM;have ez:N.getD i ""=z:=by rw[aaD,q];rfl
   rw[ez]at f2;subst f2;exact⟨i,f1,q,by simpa using TM⟩
def vq(h:Yr d c=true)(m:Bool):PE X (apU c) (tV X.K m λ_=>some d):=by
 cases d with
 |cq=>
  cases c with
  |none=>exact TF K8 λ_ _ _=> .cq
  |_=>exact absurd h aan
 |bl b=>
  cases c with
  |bool b'=>
   have e:b=b':=eq_of_beq h;subst e;exact TF Pn λ_ _ _=> .bl _
  |_=>exact absurd h aan
 |int i=>
  cases c with
  |int i'=>
   have e:i=i':=of_decide_eq_true h;subst e;exact TF K7 λ_ _ _=> .int _
  |_=>exact absurd h aan
 |tup _=>exact absurd h (by cases c<;>exact aan)
 |lst _=>exact absurd h (by cases c<;>exact aan)
 |bx _ _ _=>exact absurd h (by cases c<;>exact aan)
def D5{K:ay}{m:Bool}(h:∀ρ,f ρ=g ρ):tV K m f=tV K m g:=by rw[show f=g from funext h]
def D6{K:ay}{f g:Env->Option ac1}(h:∀ρ,f ρ=g ρ):tF K f=tF K g:=by rw[show f=g from funext h]
def jq(m:Bool)(h:PE X e (tF X.K λρ=>(f ρ).bind eX))(hf:∀ρ d,aGh->∃ds,apc):atY:=
 HC h λρ d hd=>by
  obtain⟨ds,rfl⟩:=hf ρ d hd;exact⟨ds,by rw[hd];rfl,rfl⟩
def HK{F:FT}(h:dJ G es N sc [a0]=true):∃a,es= .cons a .nil /\aGn/\bc a0=true:=by
 cases es with
 |cons a r=>
  rw[dJ]at h;simp only[aak]at h;cases r with
  |nil=>exact⟨a,rfl,h.1.1,h.1.2⟩
  |cons b r=>exact absurd h.2 aan
  |_=>exact absurd h.2 aan
 |nil=>exact absurd h aan
 |_=>exact absurd h aan
def D7{F:FT}{es:E}{N:ac_}{sc:Scope}{G:GT}{a0 b0:Expr}(h:dJ G es N sc [a0,b0]=true):∃a b,es= .cons a (akA b)/\aGn/\bc a0=true/\bE G b N sc b0=true/\bc b0=true:=by
 cases es with
 |cons a r=>
  rw[dJ]at h;simp only[aak]at h;refine bH (HK (F:=F) h.2) λb ai h1 h2=>?_;subst ai;exact⟨a,b,rfl,h.1.1,h.1.2,h1,h2⟩
 |nil=>exact absurd h aan
 |_=>exact absurd h aan
def s_:∀{es:E}{N:ac_}{sc:Scope}{xs:ahA}{ds:ac1},dJ G es N sc xs=true->dU F m es ρ=some ds->ds.length=xs.length:=λ{es}=>by
 induction es with
 |nil=>
  intro N sc xs ds h hd;cases xs with
  |nil=>cases hd;rfl
  |cons _ _=>exact absurd h aan
 |cons a r _ ih=>
  intro N sc xs ds h hd;cases xs with
  |nil=>exact absurd h aan
  |cons x xs=>
   rw[dJ]at h;simp only[aak]at h;refine aa (aks (show(ev F m a ρ).bind _=_ from hd)) λd _ hd=>aa aa5 λRj h2 hd=>?_;cases hd;rw[aaL,aaL,ih h.2 h2]
 |_=>intro N sc xs ds h hd;exact absurd (show false=true from h) aan
section
variable {X:Cx}{a b c e:Expr}{es:ahA}{pos p:Pos}{m:Bool}
def D8(hc:af6)(hg:Gl X "range")(hm:X.mg "range"=none)(F1:Gl X "list")(AA:X.mg "list"=none)(ha:PA X [a] aoe)(hl:∀ρ ds,aDl->ds.length=1)(hs:ahJ):
  PE X (.Call (.Name "list" q1) [.Call (.Name "range" p) [a] [] pos] [] pos') (tF X.K λρ=>(g ρ).bind eM):=by
 have h1:=zg (p:=p) (pos:=pos) hg hm ha hs;refine PE.weak (dO (xE hc) F1 AA boot_list (aAs h1) aa1 aa1 rfl rfl) λσ H Q zz=>cx zz λO ρ ds hx hd q=>aa aa5 λxs e1 hd=>?_;have qq:=hl ρ xs e1;refine⟨O,ρ,xs,hx,e1,λvs H1 s1 r=>?_⟩;cases xs with
 |nil=>cases qq
 |cons x t=>
  cases t with
  |cons _ _=>cases qq
  |nil=>
   refine aa (cy r) λv ai rv=>?_;subst ai;cases x with
   |int n=>
    change (if -(2 ^ 62)<=n/\n<=bW then some (bS 0 (n).toNat) else none)=some _ at hd;split at hd
    .rename_i hz;cases hd;cases rv.int;exact⟨n,rfl,λp hp=>⟨p,n,rfl,ag,hz,λl hl=>q l _ _ ayd hl (lG _ _)⟩⟩
    .cases hd
   |_=>cases hd
def RG(hg:Gl X "range")(hm:X.mg "range"=none)(ha:aGD)(hl:∀ρ ds,aDl->ds.length=es.length)(TN:es.length=1)(hs:azN):
  PI X tg (.Call (.Name "range" p) es [] pos) (tI X.K m λρ=>(g ρ).bind eM):=by
 intro U s σ H R I ⟨O,ρ,ds,hx,hd,q⟩;refine aa aa5 λxs e1 hd=>?_;have qq:=hl ρ xs e1;have Bg:apo:=rfl;cases es with
 |nil=>simp at TN
 |cons a t=>
  rw[aec,aak]at hs;cases t with
  |nil=>
   refine An hg hm ha (bM hs.1) U s σ H R I ⟨O,ρ,xs,hx,e1,λvs H1 s1 r=>?_⟩;cases xs with
   |nil=>cases qq
   |cons x t=>
    cases t with
    |cons _ _=>cases qq
    |nil=>
     refine aa (cy r) λv ai rv=>?_;subst ai;cases x with
     |int n=>
      change (if -(2 ^ 62)<=n/\n<=bW then some (bS 0 (n).toNat) else none)=some _ at hd;split at hd
      .rename_i hz;cases hd;cases rv.int;exact⟨n,rfl,hz.1,(adn hz.2 aa1),q _ none H1 s1 MX trivial⟩
      .cases hd
     |_=>cases hd
  |cons b t=>simp at TN
end
section
variable {G:GT}{F:FT}
def cn.fX(e:∀X,ahF->∀x,aif->∀m,PE X x (alj (awn e')))
  (t:∀X,ahF->∀x,aif->D1 e'=true->PT X x (tB X.K λρ=>azq))
  (f:∀X,ahF->∀x,aif->fresh e'=true->PE X x (tF X.K λρ=>azp))
  (n1:∀N sc xs,dJ G e' N sc xs=false:=by intro _ _ _;rfl) (n2:∀N sc xs,oM G e' N sc xs=false:=by intro _ _ _;rfl) (n3:∀N sc xs,Kq G e' N sc xs=false:=by intro _ _ _;rfl) (n4:∀N sc xs,HJ G e' N sc xs=false:=by intro _ _ _;rfl):aDu:=
 ⟨e,t,f,λX _ xs h=>absurd h (by rw[n1];exact aan),λX _ xs h=>absurd h (by rw[n2];exact aan),λX _ xs h=>absurd h (by rw[n3];exact aan),λX _ tg xs h=>absurd h (by rw[n4];exact aan)⟩
def ff{P:Prop}(h:false=true):P:=absurd h aan
def HL:cn G F .nil where
 e:=λX hC x h=>ff h
 t:=λX hC x h=>ff h
 f:=λX hC x h=>ff h
 es:=λX hC xs h m=>by
  cases xs with
  |nil=>exact Rt
  |cons _ _=>exact ff h
 ts:=λX hC xs h=>by
  cases xs with
  |nil=>exact⟨DZ,λz=>absurd rfl z⟩
  |cons _ _=>exact ff h
 o:=λX hC x h=>by
  cases x with
  |none=>exact MM
  |some _=>exact ff h
 i:=λX hC tg x h=>ff h
def D9{a r:E}(ha:ap0)(hr:cn G F r):cn G F apa where
 e:=λX hC x h=>ff h
 t:=λX hC x h=>ff h
 f:=λX hC x h=>ff h
 es:=λX hC xs h m=>by
  cases xs with
  |nil=>exact ff h
  |cons x xs=>
   rw[dJ]at h;simp only[aak]at h;exact ML (ha.e X hC x h.1.1 m) (hr.es X hC xs h.2 m) (bM h.1.2)
 ts:=λX hC xs h=>by
  cases xs with
  |nil=>exact ff h
  |cons x xs=>
   rw[oM]at h;simp only[aak]at h;have t1:=ha.t X hC x h.1.1 h.1.2;have e1:=ha.e X hC x h.1.1 false;have t2:=hr.ts X hC xs h.2;refine⟨HI t1 t2.1,λ_ k pos=>?_⟩;cases xs with
   |nil=>
    have er:∀ρ,k7 F k r ρ=some k:=by
     cases r with
     |nil=>intro ρ;rfl
     |cons _ _=>exact ff h.2
     |_=>exact ff h.2
    have eq:∀ρ,k7 F k apa ρ=((ev F false a ρ).bind eI).bind λx=>if x=k then some k else some x:=λρ=>by
     show((ev F false a ρ).bind eI).bind _=_;congr 1;funext x;rw[er ρ]
    refine⟨λm=>?_,?_⟩
    .rw[D5 λρ=>congrArg (axO D.bl) (eq ρ)];exact MJ e1
    .rw[show(k7 F k apa)=λρ=>((ev F false a ρ).bind eI).bind λx=>if x=k then some k else some x from funext eq];exact MK t1
   |cons y ys=>
    have t3:=t2.2 ab1 k pos;exact⟨λm=>Rq e1 (t3.1 false),Rr t1 t3.2⟩
 o:=λX hC x h=>by
  cases x with
  |none=>exact ff h
  |some x=>exact MN (ha.e X hC x h false)
 i:=λX hC tg x h=>ff h
def HM{i:Nat}:cn G F axr:=by
 have e:∀X,ahF->∀x,bE G axr X.N X.env.scope x=true->∃n p,x= .Name n p/\∀m,PE X x (alj (awn (.var i))):=λX hC x h=>by
  cases x with
  |Name n p=>
   change (decide (X.N[i]?=some n)&&qi X.env.scope n&&wc n)=true at h;simp only[aak,decide_eq_true_eq]at h;exact⟨n,p,rfl,λm=>v_var h.1.1 (jo h.1.2) (bK h.2).1 (bK h.2).2⟩
  |_=>exact ff h
 refine .fX (λX hC x h m=>?_) (λX hC x h _=>?_) (λX hC x h z=>ff z)
 .refine eU (e X hC x h) λn p ai k=>?_;subst ai;exact k m
 .refine eU (e X hC x h) λn p aK k=>?_;subst aK;exact dh aBn λ_=>rfl
def zl{X:Cx}(hC:ahF)(h:(dj X.env.scope x&&wc x&&RF G x d)=true)(m:Bool):PE X (.Name x p) (tV X.K m λ_=>some d):=by
 simp only[aak]at h;obtain⟨⟨h1,h2⟩,h3⟩:=h;cases d with
 |int i=>
  obtain⟨t,e⟩:=hC.cst x i (arA h3);exact TF (yb (v:= .int i) aDB e ⟨t,rfl⟩ (bK h2).1) λ_ _ _=> .int _
 |_=>exact ff h3
def RH{d:D}:cn G F (.c d):=by
 refine .fX (λX hC x h m=>?_) (λX hC x h _=>?_) (λX hC x h z=>ff z)
 .cases x with
  |Constant c j p=>exact vq h m
  |Name n p=>exact zl hC h m
  |_=>exact ff h
 .cases x with
  |Constant c j p=>exact dh (vq h false) λ_=>rfl
  |Name n p=>exact dh (zl hC h false) λ_=>rfl
  |_=>exact ff h
def HN(ha:ap0)(hb:cn G F b):cn G F aCb:=by
 have aM:∀X,ahF->∀x,bE G aCb X.N X.env.scope x=true->∃l r p,x= .BinOp l o r p/\PE X l att/\azk:=λX hC x h=>by
  cases x with
  |BinOp l op r p=>
   change (decide (o=op)&&bE G a X.N X.env.scope l&&bE G b X.N X.env.scope r)=true at h;simp only[aak,decide_eq_true_eq]at h;obtain⟨⟨rfl,h1⟩,h2⟩:=h;exact⟨l,r,p,rfl,aGc,aGb⟩
  |_=>exact ff h
 refine .fX (λX hC x h m=>?_) (λX hC x h _=>?_) (λX hC x h z=>?_)
 .refine cx af7 λl r p ai h1 h2=>?_;subst ai;exact Kl h1 h2
 .refine cx af7 λl r p aK h1 h2=>?_;subst aK;exact dh (Kl h1 h2) λ_=>rfl
 .refine cx af7 λl r p cL h1 h2=>?_;subst cL;cases o with
  |Add=>exact(Rk h1 h2).weak λσ H Q q=>q
  |_=>exact ff z
def HP(ha:ap0)(hb:cn G F b):cn G F aB_:=by
 have aM:∀X,ahF->∀x,bE G aB_ X.N X.env.scope x=true->∃l r p,x= .Compare l [o] [r] p/\PE X l att/\azk/\behindInMarks o r=false:=λX hC x h=>by
  refine mV (zk (e:=x) h) λl op r p zr cO=>?_;subst zr;simp only[aak,decide_eq_true_eq]at cO;obtain⟨⟨⟨rfl,h1⟩,h2⟩,h3⟩:=cO;exact⟨l,r,p,rfl,aGc,aGb,qZ h3⟩
 refine .fX (λX hC x h m=>?_) (λX hC x h _=>?_) (λX hC x h z=>ff z)
 .refine SV af7 λl r p ai h1 h2 h3=>?_;subst ai;exact Rm hC.units h1 h2 h3
 .refine SV af7 λl r p aK h1 h2 h3=>?_;subst aK;exact Rn hC.units h1 h2 h3
def HQ(ha:ap0):cn G F (.neg a):=by
 have aM:∀X,ahF->∀x,bE G (.neg a) X.N X.env.scope x=true->∃l p,x= .UnaryOp .USub l p/\aFk:=λX hC x h=>by
  cases x with
  |UnaryOp op l p=>
   change (decide (op= .USub)&&bE G a X.N X.env.scope l)=true at h;simp only[aak,decide_eq_true_eq]at h;obtain⟨rfl,h1⟩:=h;exact⟨l,p,rfl,aET⟩
  |_=>exact ff h
 refine .fX (λX hC x h m=>?_) (λX hC x h _=>?_) (λX hC x h z=>ff z)
 .obtain⟨l,p,rfl,h1⟩:=aM X hC x h;exact Km h1
 .obtain⟨l,p,rfl,h1⟩:=aM X hC x h;exact dh (Km h1) λ_=>rfl
def HR(ha:ap0):cn G F aFr:=by
 have aM:∀X,ahF->∀x,bE G aFr X.N X.env.scope x=true->∃l p,x= .UnaryOp .Not l p/\aFk/\PT X l (tB X.K λρ=>(ev F false a ρ).bind eI):=λX hC x h=>by
  cases x with
  |UnaryOp op l p=>
   change (decide (op= .Not)&&bE G a X.N X.env.scope l&&D1 a)=true at h;simp only[aak,decide_eq_true_eq]at h;obtain⟨⟨rfl,h1⟩,h2⟩:=h;exact⟨l,p,rfl,aET,ha.t X hC l h1 h2⟩
  |_=>exact ff h
 refine .fX (λX hC x h m=>?_) (λX hC x h _=>?_) (λX hC x h z=>ff z)
 .refine ba af7 λl p ai h1 h2=>?_;subst ai;exact v_not h1
 .refine ba af7 λl p aK h1 h2=>?_;subst aK;exact Ro h2
def HS(he:aqE):cn G F aGZ:=by
 have aM:∀X,ahF->∀x,bE G aGZ X.N X.env.scope x=true->∃vs p,x= .BoolOp (bo k) vs p/\(∀m,PE X aCd (tV X.K m λρ=>(k7 F k es ρ).map .bl))/\PW X aCd (aG4 (k7 F k es)):=λX hC x h=>by
  cases x with
  |BoolOp op vs p=>
   change (decide (op=bo k)&&!vs.isEmpty&&oM G es X.N X.env.scope vs)=true at h;simp only[aak,decide_eq_true_eq]at h;obtain⟨⟨rfl,h1⟩,h2⟩:=h;have hv:vs≠[]:=by rintro rfl;exact ff (by simpa using h1)
   exact⟨vs,p,rfl,(he.ts X hC vs h2).2 hv k p⟩
  |_=>exact ff h
 refine .fX (λX hC x h m=>?_) (λX hC x h _=>?_) (λX hC x h z=>ff z)
 .refine ba af7 λvs p ai h1 h2=>?_;subst ai;exact h1 m
 .refine ba af7 λvs p aK h1 h2=>?_;subst aK;refine h2.pt.weak λσ H Q ⟨O,ρ,q,hx,hd,kk⟩=>⟨O,ρ,q,hx,?_,kk⟩;refine aa aa5 λd hd hq=>aa (alk (show(k7 F k es ρ).map D.bl=some d from hd)) λb hb cL=>?_;subst cL;cases hq;exact hb
def HU(he:aqE):cn G F (akJ es):=by
 refine .fX (λX hC x h m=>?_) (λX hC x h _=>?_) (λX hC x h z=>ff z)
 .cases x with
  |Tuple xs k p=>exact Ko aqx
  |_=>exact ff h
 .cases x with
  |Tuple xs k p=>exact dh (Ko aqx) λ_=>rfl
  |_=>exact ff h
def HV(he:aqE):cn G F azT:=by
 have aM:∀X,ahF->∀x,bE G azT X.N X.env.scope x=true->∃xs p,x= .List xs p/\PE X x (tF X.K λρ=>(ev F false azT ρ).bind eX):=λX hC x h=>by
  cases x with
  |List xs p=>
   refine⟨xs,p,rfl,(Ru aqx).weak λσ H Q ⟨O,ρ,ds,hx,hd,q⟩=>⟨O,ρ,ds,hx,?_,q⟩⟩;refine aa aa5 λd hd hl=>aa (aks (show(dU F false es ρ).bind _=_ from hd)) λys h1 hd=>?_;show(dU F false es ρ).bind _=_;rw[h1];split at hd
   .rename_i hz;cases hd;cases hl;exact aaB hz
   .cases hd
  |_=>exact ff h
 have F4:∀ρ d,ev F false azT ρ=some d->∃ds,apc:=λρ d hd=>by
  refine aa (aks (show(dU F false es ρ).bind _=_ from hd)) λys h1 hd=>?_;split at hd
  .cases hd;exact⟨_,rfl⟩
  .cases hd
 refine .fX (λX hC x h m=>?_) (λX hC x h _=>?_) (λX hC x h z=>?_)
 .refine eU af7 λxs p ai k=>?_;subst ai;exact jq m k F4
 .refine eU af7 λxs p aK k=>?_;subst aK;exact dh (jq false k F4) λ_=>rfl
 .refine eU af7 λxs p cL k=>?_;subst cL;exact k
def HW(ha:ap0)(hi:cn G F i):cn G F azm:=by
 have aM:∀X,ahF->∀x,bE G azm X.N X.env.scope x=true->∃v s p,aFz/\∀m,PE X x (alj (awn azm)):=λX hC x h=>by
  cases x with
  |Subscript v s p=>
   change (bE G a X.N X.env.scope v&&bE G i X.N X.env.scope s&&b9 s)=true at h;simp only[aak]at h;exact⟨v,s,p,rfl,λm=>Rv (ha.e X hC v h.1.1 true) (hi.e X hC s h.1.2 false) (oN h.2)⟩
  |_=>exact ff h
 refine .fX (λX hC x h m=>?_) (λX hC x h _=>?_) (λX hC x h z=>ff z)
 .refine kP af7 λv s p ai k=>?_;subst ai;exact k m
 .refine kP af7 λv s p aK k=>?_;subst aK;exact dh aBn λ_=>rfl
def M6{a lo hi:E}(ha:ap0)(hl:cn G F lo)(hh:cn G F hi):cn G F (.sl a lo hi):=by
 have aM:∀X,ahF->∀x,bE G (.sl a lo hi) X.N X.env.scope x=true->∃v l u p2 p,x= .Subscript v (.Slice l u none p2) p/\PE X v att/\PO X l (tO X.K (LQ F lo))/\PO X u (tO X.K (LQ F hi)):=λX hC x h=>by
  cases x with
  |Subscript v s p=>
   cases s with
   |Slice l u st p2=>
    cases st with
    |some _=>exact ff h
    |none=>
     change (true&&bE G a X.N X.env.scope v&&Kq G lo X.N X.env.scope l&&Kq G hi X.N X.env.scope u)=true at h;simp only[aak]at h;exact⟨v,l,u,p2,p,rfl,ha.e X hC v h.1.1.2 true,hl.o X hC l h.1.2,hh.o X hC u h.2⟩
   |_=>exact ff h
  |_=>exact ff h
 refine .fX (λX hC x h m=>?_) (λX hC x h _=>?_) (λX hC x h z=>?_)
 .refine Ur af7 λv l u p2 p ai k1 k2 k3=>?_;subst ai;exact Rw k1 k2 k3
 .refine Ur af7 λv l u p2 p aK k1 k2 k3=>?_;subst aK;exact dh (Rw k1 k2 k3) λ_=>rfl
 .refine Ur af7 λv l u p2 p cL k1 k2 k3=>?_;subst cL;exact(V9 k1 k2 k3).weak λσ H Q q=>q
def D_(he:aqE):cn G F apG:=by
 have aM:∀X,ahF->∀x,bE G apG X.N X.env.scope x=true->(∃fn args wz p,alG)/\∀m,PE X x (alj (awn apG)):=λX hC x h=>by
  refine mV (gY (e:=x) h) λn q as p zr cO=>?_;subst zr;refine⟨alR,?_⟩;simp only[aak,decide_eq_true_eq]at cO;obtain⟨⟨⟨⟨h1,h2⟩,h3⟩,h0⟩,h4⟩:=cO;cases as with
  |nil=>cases h0
  |cons a0 ar=>
   refine Ga (hC.call f n h1) λk fa fd ps h5 h6 h7 h8 h9 Wl=>?_;have ns:=ku h4;rw[aec,aak]at ns;exact λm=>MO (g:=λb=>dU F b es) (ln:=λρ=>rR ρ es) h5 h6 (bX h2) h7 h8 h9 Wl (λb=>he.es X hC _ h4 b) (λρ hl=>D4 hl) (bK h3).1 axl (gZ ns.2)
 refine .fX (λX hC x h m=>aqU) (λX hC x h _=>?_) (λX hC x h z=>ff z);obtain⟨⟨fn,args,wz,p,rfl⟩,k⟩:=aM X hC x h;exact dh aBn λ_=>rfl
def tf(q:wK):i5 q∈gn:=by cases q<;>decide +kernel
def Ea(he:aqE):cn G F (.prim q es):=by
 have aM:∀X,ahF->∀x,bE G (.prim q es) X.N X.env.scope x=true->∃a0 ar n p,x= .Call (.Name (i5 q) n) (a0::ar) [] p/\Gl X (i5 q)/\(∀m,PA X (a0::ar) (sU X.K m (dU F m es)))/\bc a0=true/\ar.all bc=true:=λX hC x h=>by
  refine mV (gY (e:=x) h) λn pn as p zr cO=>?_;subst zr;simp only[aak,decide_eq_true_eq]at cO;obtain⟨⟨⟨rfl,h2⟩,h0⟩,h4⟩:=cO;cases as with
  |nil=>cases h0
  |cons a0 ar=>
   have ns:=ku h4;rw[aec,aak]at ns;exact⟨a0,ar,pn,p,rfl,bX h2,λm=>he.es X hC _ h4 m,ns.1,ns.2⟩
 refine .fX (λX hC x h m=>?_) (λX hC x h _=>?_) (λX hC x h z=>?_)
 .refine wk af7 λa0 ar n p ai h1 h2 h3 h4=>?_;subst ai;exact qS hC.units hC.calm h1 (apS (tf q)) (h2 true) aDC (gZ h4)
 .refine wk af7 λa0 ar n p aK h1 h2 h3 h4=>?_;subst aK;exact dh (qS hC.units hC.calm h1 (apS (tf q)) (h2 true) aDC (gZ h4)) λ_=>rfl
 .refine wk af7 λa0 ar n p cL h1 h2 h3 h4=>?_;subst cL;cases q with
  |list=>
   refine(f_list h1 (apS (tf .list)) (h2 true) aDC (gZ h4)).weak λσ H Q ⟨O,ρ,ds,hx,hd,k⟩=>⟨O,ρ,ds,hx,?_,k⟩;refine aa aa5 λd hd hl=>aa (aks (show(dU F true es ρ).bind _=_ from hd)) λxs e1 hd=>?_;show(dU F true es ρ).bind _=_;rw[e1];cases xs with
   |nil=>cases hd
   |cons y t=>
    cases t with
    |cons _ _=>cases hd
    |nil=>
     refine aa ae4 λys h5 ot=>?_;subst ot;cases hl;exact h5
  |_=>exact ff z
def HX(he:aqE):cn G F aqk:=by
 have aM:∀X,ahF->∀x,av_->(∃fn args wz p,alG)/\((q= .list /\PE X x (tF X.K λρ=>(ev F false aqk ρ).bind eX))\/(q= .tuple /\∀m,aCG)):=λX hC x h=>by
  obtain⟨n,pn,ar,p,rfl,g⟩:=eC (e:=x) h;obtain⟨y,py,a0,p2,rfl,g2⟩:=eC g;replace h:=g2;refine⟨alR,?_⟩;simp only[aak,adV,decide_eq_true_eq]at h;obtain⟨⟨⟨⟨⟨hq,rfl⟩,rfl⟩,h3⟩,h4⟩,h5⟩:=h;have ns:=ku h5;rw[aec,aak]at ns;rcases hq with rfl|rfl
  .refine .inl ⟨rfl,?_⟩;refine(D8 hC.calm (bX h4) (apS (by simp[gn])) (bX h3) (apS (by simp[gn,i5])) (awl h5) (λρ ds hd=>s_ h5 hd) axl).weak λσ H Q ⟨O,ρ,ds,hx,hd,k⟩=>⟨O,ρ,ds,hx,?_,k⟩;refine aa aa5 λd hd hl=>aa (aks (show((dU F false es ρ).bind eM).bind aFD=_ from hd)) λxs e1 hd=>?_;cases hd;cases hl;exact e1
  .refine .inr ⟨rfl,λm=>?_⟩;refine(DS (m:=m) hC.calm (bX h4) (apS (by simp[gn])) (bX h3) (apS (by simp[gn,i5])) (awl h5) (λρ ds hd=>s_ h5 hd) axl).weak λσ H Q ⟨O,ρ,d,hx,hd,k⟩=>⟨O,ρ,d,hx,?_,k⟩;refine aa (aks (show((dU F false es ρ).bind eM).bind aCW=_ from hd)) λxs e1 hd=>?_;cases hd;show((dU F false es ρ).bind eM).map D.tup=_;rw[e1];rfl
 have F4:q= .list ->∀ρ d,ev F false aqk ρ=some d->∃ds,apc:=λhq ρ d hd=>by
  subst hq;refine aa (aks (show((dU F false es ρ).bind eM).bind aFD=_ from hd)) λxs e1 hd=>?_;cases hd;exact⟨_,rfl⟩
 have val:∀X,ahF->∀x,av_->∀m,aCG:=λX hC x h m=>by
  obtain⟨_,k⟩:=aM X hC x h;rcases k with⟨hq,k⟩|⟨hq,k⟩
  .exact jq m k (F4 hq)
  .exact k m
 refine .fX val (λX hC x h _=>?_) (λX hC x h z=>?_)
 .obtain⟨⟨fn,args,wz,p,rfl⟩,_⟩:=aM X hC x h;exact dh (val X hC _ h false) λ_=>rfl
 .obtain⟨_,k⟩:=aM X hC x h;rcases k with⟨hq,k⟩|⟨rfl,_⟩
  .exact k
  .exact ff z
def jO(h:D0 oe=true):attributeBase oe nm env (awm oe)=eval oe env:=by
 cases oe<;>first|rfl|exact ff h
def Eb(ho:cn G F o)(he:aqE):cn G F aAk:=by
 have aM:∀X,ahF->∀x,bE G aAk X.N X.env.scope x=true->(∃fn args wz p,alG)/\∀m,PE X x (alj (awn aAk)):=λX hC x h=>by
  refine KZ (et (e:=x) h) λoe nm ap as p zr h=>aa (bQ h) λa0 aK cO=>?_;subst zr aK;refine⟨alR,?_⟩;simp only[aak,decide_eq_true_eq]at cO;obtain⟨⟨⟨⟨TN,h3⟩,h4⟩,h5⟩,h6⟩:=cO;have ns:=ku h6;rw[aec,aak]at ns;subst TN;cases mm with
  |index=>exact λm=>HF aAM aAN (jO h3) h4 axl
  |rP=>exact λm=>DU aAM aAN (jO h3) h4 axl
 refine .fX (λX hC x h m=>aqU) (λX hC x h _=>?_) (λX hC x h z=>ff z);obtain⟨⟨fn,args,wz,p,rfl⟩,k⟩:=aM X hC x h;exact dh aBn λ_=>rfl
end
noncomputable def fO:ab3->ad5->aa0->Option V
 |k::ks,v::vs,x=>if k=x then some v else fO ks vs x
 |_,_,_=>none
theorem lM[DecidableEq κ](f:aa0->κ):∀(ks:ab3) (vs:ad5) (x:aa0),(∀k∈ks,f k=f x->k=x)->k_ aEr (f x)=fO ks vs x
 |[],vs,x,_=>by simp[fO,k_]
 |k::ks,[],x,_=>by simp[fO,k_]
 |k::ks,v::vs,x,h=>by
  rw[aaX,aex,fO];by_cases e:k=x
  .rw[aaB e,jX (by rw[e])]
  .rw[aaF e,jY (λz=>e (h k aaq z))];exact lM f ks vs x λk hk=>h k (akQ hk)
theorem nr:∀{a b:aa0},a.map (Sum.inl:Int->cz)=b.map Sum.inl->a=b
 |[],[],_=>rfl
 |[],_::_,h=>by simp at h
 |_::_,[],h=>by simp at h
 |x::a,y::b,h=>by
  rw[aaX,aaX]at h;injection h with h1 h2;rw[afY h1,nr h2]
theorem lO{K:ay}:∀{x:aa0}{vs:ad5},aq K O H vs (x.map .int)->vs=x.map V.int
 |[],_,.nil =>rfl
 |i::x,_,.cons r t=>by rw[r.int_inv,lO t];rfl
theorem g_:∀{xs:ac1}{p:aa0},aI xs=some p->xs=p.map .int
 |[],p,h=>by cases h;rfl
 |x::xs,p,h=>by
  cases x with
  |int i=>
   refine aa (alk (show(aI xs).map (i:: ·)=some p from h)) λq h1 ai=>?_;subst ai;rw[g_ h1];rfl
  |_=>cases h
section
variable {K:ay}{O:Addr->Prop}{H:Hp}{a:Addr}{t:Nat}{ks:ab3}{vs:ad5}{ds:ac1}
def iE{y:V}(r:bu K O H y dy)(hx:c_ t dy=some x):(t=0/\(∃i,x=[i]/\y= .int i))\/(t≠0/\∃b,asn/\H b=some (akJ ((x.map Sum.inl).map kV))):=by
 cases dy with
 |int i=>
  simp only[c_]at hx;split at hx
  .rename_i h0;cases hx;exact .inl ⟨h0,i,rfl,r.int_inv⟩
  .cases hx
 |tup xs=>
  simp only[c_]at hx;split at hx
  .cases hx
  .rename_i h0;have e:=g_ hx;subst e;refine ba r.gh λb us ai h1 h2=>?_;subst ai;refine .inr ⟨h0,b,rfl,?_⟩;rw[abc];have:=lO h2;rw[this]at h1;exact h1
 |_=>cases hx
def zo(hd:Rd H a anY)(hk:aFT)(r:bu K O H y dy)(hx:c_ t dy=some x):rY H a y (fO ks vs x):=by
 rcases iE r hx with⟨h0,i,rfl,rfl⟩|⟨h0,b,rfl,hb⟩
 .unfold gG at hd;rw[aaB h0]at hd;refine .inl ⟨_,aAb,hd,rfl,?_⟩;have:=lM (λk:List Int=>(Sum.inl aim:cz)) ks vs [i] (λk hm e=>by
   obtain⟨j,rfl⟩:=hk.2 h0 k hm;have:j=i:=afY e;rw[this])
  exact this.symm
 .unfold gG at hd;rw[aaF h0]at hd;exact .inr ⟨_,x.map Sum.inl,b,hd,rfl,hb,(lM (λk:List Int=>k.map (Sum.inl:Int->cz)) ks vs x λk _ e=>nr e).symm⟩
theorem oO:∀{ks:ab3}{vs:ad5}{ds:ac1}{x:aa0},ag4->ac5->(∀d,find ks ds x=some d->∃v,fO ks vs x=some v/\ajj)/\(find ks ds x=none->fO ks vs x=none)/\((fO ks vs x).isSome =decide (x∈ks))
 |[],_,_,x,_,_=>⟨λ_ h=>by simp[find]at h,λ_=>by simp[fO],by simp[fO]⟩
 |k::ks,[],_,x,h,_=>by simp at h
 |k::ks,v::vs,_,x,h,.cons (d:=d) (ds:=ds) r rs=>by
  have ih:=oO (ks:=ks) (x:=x) (by simpa using h) rs;by_cases e:k=x
  .simp only[find,fO,aaB e];exact⟨λd' hd=>(by cases hd;exact⟨v,rfl,r⟩),λz=>(by cases z),by simp[e]⟩
  .simp only[find,fO,aaF e];exact⟨ih.1,ih.2.1,by rw[ih.2.2];simp[abF e]⟩
def HY:B9 (aku anY):=by unfold gG;split<;>exact True.intro
theorem EX.bx(hx:aiB)(h:gz ρ i=some d):∃a vs,σ[i]?=some aiz/\Rd H a aGg/\aCw/\oG d.1 d.2.1/\aq K O H vs d.2.2:=by
 unfold gz at h;split at h
 .rename_i o t ks ds e;split at h
  .cases h
  rename_i ht;cases h;refine aa (hx.kO i o _ e) λv h1 h2=>?_;cases o with
  |true=>
   refine bH h2 λa e1 _ c=>F_ (c.bx ht) λvs c1 c2 c3 c4=>?_;subst e1;exact⟨a,vs,h1,.inl c1,c2,c3,c4⟩
  |false=>
   have Q7:bu K O H v aoH:=h2;cases Q7 with
   |bx g1 g2 g3 g4=>exact⟨_,_,h1,.inr ⟨_,g1⟩,g2,g3,g4⟩
 .cases h
end
def bY(h:dC N sc i e=true):∃x p,e= .Name x p/\N[i]?=some x/\vZ sc x/\aiC/\ana:=by
 cases e with
 |Name x p=>
  unfold dC at h;simp only[aak,decide_eq_true_eq]at h;exact⟨x,p,rfl,h.1.1,jo h.1.2,(bK h.2).1,(bK h.2).2⟩
 |_=>cases h
section
variable {X:Cx}{a b c e k:Expr}{pos p px:Pos}{m:Bool}{i:Nat}{x:Str}{f:Env->Option D}
def M7(hu:af1)(ho:aBT)(hk:PE X k (akr f))(hs:GV k):PE X (ayZ k) (tV X.K m λρ=>(gz ρ i).bind λd=>((f ρ).bind azQ).bind λx=>find d.2.1 d.2.2 x):=
 (GY ati ho hk hs).weak λσ H Q zz=>by
  refine cx zz λO ρ d hx hd q=>aa aa5 λdd e1 hd=>aa aa5 λxx e2 hd=>aa (aks e2) λdy e3 e4=>kM (hx.bx e1) λa vs g1 g2 g3 g4 g5=>⟨ab_,g1,O,ρ,dy,hx,e3,λv H1 s1 r1=>?_⟩;refine aa ((oO (x:=xx) g3 (g5.mono s1)).1 d hd) λv' h1 h2=>?_;have hg:=zo (nh s1 g2) g4 r1.own e4;rw[h1]at hg;exact⟨a,v',rfl,hg,q v' H1 s1 (akN h2)⟩
def RI{neg:Bool}(hu:af1)(hk:PE X k (akr f))(ho:aBT):PC X (if neg then .NotIn else .In) k a (tV X.K m λρ=>((f ρ).bind λy=>(gz ρ i).bind λd=>(c_ d.1 y).map λx=> .bl (if neg then !decide anu else decide anu))):=by
 have key:∀σ H (Q:VK),tV X.K m (λρ=>((f ρ).bind λy=>(gz ρ i).bind λd=>(c_ d.1 y).map λx=>D.bl (if neg then !decide anu else decide anu))) σ H Q->
   tV X.K false f σ H λy H1=>dn i σ H1 λx H2=>∃a o,akb/\aFL/\Q (.bl (if neg then !o.isSome else o.isSome)) H2:=λσ H Q zz=>by
  refine cx zz λO ρ d hx hd q=>aa aa5 λdy e1 hd=>aa aa5 λdd e2 hd=>aa ae4 λxx e3 ai=>?_;subst ai;refine⟨O,ρ,dy,hx,e1,λv H1 s1 r1=>?_⟩;refine kM ((hx.mono s1).bx e2) λa vs g1 g2 g3 g4 g5=>?_;refine⟨ab_,g1,a,_,rfl,zo g2 g4 r1.own e3,?_⟩;rw[(oO (x:=xx) g3 g5).2.2];exact q _ H1 s1 aoA
 cases neg with
 |true=>exact λU s σ H Q I q=>AO ati hk ho U s σ H Q I (key σ H Q q)
 |false=>exact λU s σ H Q I q=>Mb ati hk ho U s σ H Q I (key σ H Q q)
theorem insI_perm(x:Int):∀l,(insI x l).Perm (x::l)
 |[]=> .refl _
 |y::r=>by
  unfold insI;split
  .exact .refl _
  .exact((insI_perm x r).cons y).trans (.swap x y r)
theorem sortI_perm:∀l,(sortI l).Perm l
 |[]=> .refl _
 |x::r=>(insI_perm x (sortI r)).trans ((sortI_perm r).cons x)
theorem zp(x:Int):∀l:aa0,l.Pairwise (· <= ·)->(insI x l).Pairwise (· <= ·)
 |[],_=>aeD _ _
 |y::r,h=>by
  unfold insI;rw[abV]at h;split
  .rename_i wa;refine abV.mpr ⟨λz hz=>?_,abV.mpr h⟩;rcases aat.mp hz with e|hz
   .rw[e];exact wa
   .exact aes wa (h.1 z hz)
  .rename_i wa;refine abV.mpr ⟨λz hz=>?_,zp x r h.2⟩;rcases aat.mp ((insI_perm x r).mem_iff.mp hz)with e|hz
   .rw[e];exact aeq (adi wa)
   .exact h.1 z hz
theorem oP:∀l:aa0,(sortI l).Pairwise (· <= ·)
 |[]=> .nil
 |x::r=>zp x _ (oP r)
def Ec{l m:aa0}(hp:l.Perm m)(hs:l.Pairwise (· <= ·)):l=sortI m:=
 (hp.trans (sortI_perm m).symm).eq_of_pairwise (λa b _ _ h1 h2=>Int.le_antisymm h1 h2) hs (oP m)
def HZ(hc:af6)(ho:aBT)(hg:Gl X "sorted")(hm:X.mg "sorted"=none)(hs:starEach [a] X.env=ad1::starEach [] X.env):PE X (alv (.Name "sorted" p)) (tV X.K m λρ=>(gz ρ i).bind λd=>if d.1=0 then(if d.2.1.length<64 then some (akx ((sortI (d.2.1.map λk=>aim)).map .int)) else none)
   else if []∈d.2.1 then none else some awH):=
 (c9 ((sH hc).or (sD hc)) hg hm boot_sorted (aX ho b_ hs) aa1 aa1 hs rfl).weak λσ H Q zz=>by
  refine cx zz λO ρ d hx hd q=>aa aa5 λdd e1 hd=>kM (hx.bx e1) λb vs g1 g2 g3 g4 g5=>⟨ajV,g1,?_⟩;unfold gG at g2;by_cases h0:dd.1=0
  .rw[aaB h0]at hd g2;split at hd
   .rename_i Kf;cases hd;refine .inl ⟨b,_,dd.2.1.map λk=>aim,rfl,g2,?_,by rw[aap];exact Kf,λnR p1 p2 l hl=>?_⟩
    .rw[List.map_fst_zip (by rw[aap];exact aaw g3),abc];rfl
    .rw[Ec p1 p2];exact q _ _ aoZ (akN (aCk (fJ _)))
   .cases hd
  .rw[aaF h0]at hd g2;split at hd
   .cases hd
   .rename_i eJ;cases hd;refine .inr ⟨b,_,dd.2.1,rfl,g2,?_,λk hk e=>eJ (e▸hk),λl us hl pw=>ako⟩;rw[List.map_fst_zip (by rw[aap];exact aaw g3)]
end
section
variable {G:GT}{F:FT}
def H_(h:b9 e=true):GV e:=by
 intro o i;cases e<;>first|rfl|exact absurd h aan
def Ed(hk:cn G F k):cn G F aB7:=by
 have aM:∀X,ahF->∀x,bE G aB7 X.N X.env.scope x=true->(∃v s p,aFz)/\∀m,PE X x (alj (awn aB7)):=λX hC x h=>by
  cases x with
  |Subscript v s p=>
   change (dC X.N X.env.scope i v&&bE G k X.N X.env.scope s&&b9 s)=true at h;simp only[aak]at h;refine kM (bY h.1.1) λx q ai n1 n2 n3 n4=>?_;subst ai;exact⟨⟨_,_,_,rfl⟩,λm=>M7 hC.units aik (hk.e X hC s h.1.2 false) (H_ h.2)⟩
  |_=>exact ff h
 refine .fX (λX hC x h m=>aqU) (λX hC x h _=>?_) (λX hC x h z=>ff z);obtain⟨⟨v,s,p,rfl⟩,q⟩:=aM X hC x h;exact dh (q false) λ_=>rfl
def Ia(hk:cn G F k):cn G F aAn:=by
 have aM:∀X,ahF->∀x,bE G aAn X.N X.env.scope x=true->∃l r p,x= .Compare l [if neg then .NotIn else .In] [r] p/\(∀m,PC X (if neg then .NotIn else .In) l r (alj (awn aAn)))/\behindInMarks (if neg then .NotIn else .In) r=false:=λX hC x h=>by
  refine mV (zk (e:=x) h) λl op r p zr cO=>?_;subst zr;simp only[aak,decide_eq_true_eq]at cO;obtain⟨⟨rfl,h1⟩,h2⟩:=cO;refine kM (bY h2) λx q ai n1 n2 n3 n4=>?_;subst ai;exact⟨l,_,p,rfl,λm=>RI hC.units (hk.e X hC l h1 false) aik,qZ rfl⟩
 refine .fX (λX hC x h m=>?_) (λX hC x h _=>?_) (λX hC x h z=>ff z)
 .refine cx af7 λl r p aK q1 q2=>?_;subst aK;exact K_ (q1 m) q2
 .refine cx af7 λl r p cL q1 q2=>?_;subst cL;refine(K' (q1 false) q2).weak λσ H Q zz=>cx zz λO ρ kk hx hd q=>aa aa5 λd e1 e2=>?_;cases fK e2;exact⟨O,ρ,_,hx,e1,λv H1 s1 r1=>⟨kk,r1.bl,azz⟩⟩
def Bk:cn G F (.iW i):=by
 have aM:∀X,ahF->∀x,bE G (.iW i) X.N X.env.scope x=true->(∃fn args wz p,alG)/\∀m,PE X x (alj (awn (.iW i))):=λX hC x h=>by
  obtain⟨y,py,a0,p,rfl,g⟩:=eC (e:=x) h;replace h:=g;refine⟨alR,?_⟩;simp only[aak,decide_eq_true_eq]at h;obtain⟨⟨rfl,h1⟩,h2⟩:=h;refine kM (bY h2) λx q ai n1 n2 n3 n4=>?_;subst ai;exact λm=>HZ hC.calm aik aDB (apS (by simp[gn])) (bM rfl)
 refine .fX (λX hC x h m=>aqU) (λX hC x h _=>?_) (λX hC x h z=>ff z);obtain⟨⟨fn,args,wz,p,rfl⟩,q⟩:=aM X hC x h;exact dh (q false) λ_=>rfl
def cn.Wm(i:∀X,ahF->∀tg x,awY->∀m,PI X tg x aAC)
  (n0:∀N sc x,bE G e' N sc x=false:=by intro _ _ _;rfl) (n1:∀N sc xs,dJ G e' N sc xs=false:=by intro _ _ _;rfl) (n2:∀N sc xs,oM G e' N sc xs=false:=by intro _ _ _;rfl) (n3:∀N sc xs,Kq G e' N sc xs=false:=by intro _ _ _;rfl):aDu:=
 ⟨λX _ x h=>absurd h (by rw[n0];exact aan),λX _ x h=>absurd h (by rw[n0];exact aan),λX _ x h=>absurd h (by rw[n0];exact aan),λX _ xs h=>absurd h (by rw[n1];exact aan),λX _ xs h=>absurd h (by rw[n2];exact aan),λX _ xs h=>absurd h (by rw[n3];exact aan),i⟩
def M8:cn G F (.dk i):= .Wm λX hC tg x h m=>by
 refine kM (bY (show dC X.N X.env.scope i x=true from h)) λy q ai n1 n2 n3 n4=>?_;subst ai;exact Wf aik
def M9:cn G F (.dv i):= .Wm λX hC tg x h m=>by
 refine KZ (et (e:=x) h) λoe nm ap as p zr cO=>?_;subst zr;simp only[aak,decide_eq_true_eq,aeo]at cO;obtain⟨⟨⟨rfl,rfl⟩,h1⟩,h2⟩:=cO;refine kM (bY h1) λy q ai n1 n2 n3 n4=>?_;subst ai;exact Wg aik rfl h2
def Ib(ha:ap0):cn G F (.OC a):= .Wm λX hC tg x h m=>by
 obtain⟨y,py,a0,p,rfl,g⟩:=eC (e:=x) h;replace h:=g;simp only[aak,decide_eq_true_eq]at h;obtain⟨⟨⟨rfl,h1⟩,h2⟩,h3⟩:=h;exact RB aDB (apS (by simp[gn])) (ha.e X hC a0 h2 false) aDC
end
def Ic(hc:af6)(hu:af1)(hg:Gl X "sorted")(hm:X.mg "sorted"=none)(hg2:Gl X "set")(VV:X.mg "set"=none)(ha:PE X a (aos f))(hn:ahJ):
  PE X (.Call (.Name "sorted" p1) [.Call (.Name "set" p2) [a] [] q2] [] q1) (tF X.K λρ=>(f ρ).bind ux):=by
 refine PE.weak (c9 (S2.vg hc) hg hm boot_sorted (aAs (dO (S2.xw hc hu) hg2 VV boot_set (aX ha b_ hn) aa1 aa1 hn rfl)) aa1 aa1 rfl rfl) λσ H Q zz=>?_;obtain⟨O,ρ,ds,hx,hd,q⟩:=zz;obtain⟨y,e3,e4⟩:=bind_some hd;cases y with
 |lst ys=>
  obtain⟨ks,e5,e6⟩:=bind_some (show(dw ys).bind _=_ from e4);by_cases h7:(S2.jS ks).length <=720
  .have e6:=aaQ ((aaB h7).symm.trans e6);refine⟨O,ρ,.lst ys,hx,e3,λv H1 s1 r1=>?_⟩;obtain⟨p,us,rfl,h8,h9⟩:=r1.lst;obtain⟨pt,eJ⟩:=nk h9 e5;refine⟨p,us,ks,rfl,h8,pt,h7,λl ys hl pm F5=>⟨l,ys,rfl,ag,by rw[<-aap (f:=(·.2)),pm.length_eq];exact h7,λy hy=>⟨eJ _ (S2.nc.mp (aEu (amZ ⟨y,hy,rfl⟩))),ah.upd hl _ _ (F5 y hy)⟩,λl2 us Tv pd=>?_⟩⟩;rw[<-e6,<-bN.xf pm]at q;exact q l2 _ _ (s1.trans aoZ) Tv (oK pd)
  .exact nS ((aaF h7).symm.trans e6)
 |_=>exact nS e4
section
variable {G:GT}{F:FT}
def M_(n0:∀N sc x,bE G e' N sc x=false:=by intro _ _ _;rfl)(n1:∀N sc xs,dJ G e' N sc xs=false:=by intro _ _ _;rfl)(n2:∀N sc xs,oM G e' N sc xs=false:=by intro _ _ _;rfl)(n3:∀N sc xs,Kq G e' N sc xs=false:=by intro _ _ _;rfl)(n4:∀N sc xs,HJ G e' N sc xs=false:=by intro _ _ _;rfl):aDu:=
 .fX (λX hC x h=>absurd h (by rw[n0];exact aan)) (λX hC x h=>absurd h (by rw[n0];exact aan)) (λX hC x h=>absurd h (by rw[n0];exact aan)) n1 n2 n3 n4
def Ie(he:aqE):cn G F aFs where
 e:=λX hC x h=>ff h
 t:=λX hC x h=>ff h
 f:=λX hC x h=>ff h
 es:=λX hC x h=>ff h
 ts:=λX hC x h=>ff h
 o:=λX hC x h=>ff h
 i:=λX hC tg x h m=>by
  refine mV (gY (e:=x) h) λn pn as p zr cO=>?_;subst zr;simp only[aak,decide_eq_true_eq]at cO;obtain⟨⟨⟨rfl,h1⟩,h2⟩,h3⟩:=cO;exact RG aDB (apS (by simp[gn])) (awl h3) (λρ ds hd=>s_ h3 hd) h2 (ku h3)
def M'(ha:ap0):cn G F (.it a) where
 e:=λX hC x h=>ff h
 t:=λX hC x h=>ff h
 f:=λX hC x h=>ff h
 es:=λX hC x h=>ff h
 ts:=λX hC x h=>ff h
 o:=λX hC x h=>ff h
 i:=λX hC tg x h m=>We (ha.e X hC x h m)
def oQ(hC:ahF)(hi:cn G F it)(hf:cn G F ifs)(he:cn G F eV)(h4:Bi X.N X.env.scope iD [n] fr=true)(h5:HJ G it X.N X.env.scope iter=true)
  (h6:oM G ifs arV aC7 fs=true) (h7:bE G eV arV aC7 el=true):
  ∀cl C U s H ex,PG ahv awk (cI 0)/\Az ahv fs (aG4 (k7 F true ifs))/\PE ahv el (akr (amj eV)):=λcl C U s H ex=>by
 refine c6 (sZ h4) λS QX nd=>have hl:=QX _ aaq;?_;have OQ:=hC.inner iD cl C arV U s H ex;exact⟨aw_,(hf.ts _ OQ fs h6).1,he.e _ OQ el h7 false⟩
def q_(h:bE G aje N sc x=true):∃el n q iter fs iD p,x= .ListComp el [⟨awk,iter,fs,0⟩] iD p/\tg=0/\gW iter=true/\Bi N sc iD [n] fr=true/\HJ G it N sc iter=true/\oM G ifs (arz N) ash fs=true/\bE G eV (arz N) ash el=true:=by
 refine mV (zi (e:=x) h) λel gs iD p zr h=>aa (bQ h) λg aK cO=>?_;obtain⟨tX,iter,fs,kk⟩:=g;refine eU (cE cO) λn q cL Ig=>?_;change tX=_ at cL;subst zr aK cL;simp only[aak,decide_eq_true_eq]at Ig;obtain⟨⟨⟨⟨⟨⟨rfl,rfl⟩,h3⟩,h4⟩,h5⟩,h6⟩,h7⟩:=Ig;exact⟨el,n,q,iter,fs,iD,p,rfl,rfl,h3,h4,h5,h6,h7⟩
def zq(ρ:Env):ev F false (arG it) ρ=((n9 F true it ρ).bind λxs=>if xs.length<=bW then walk asq xs else none).map .lst :=by
 show(n9 F true it ρ).bind _=_;cases n9 F true it ρ with
 |none=>rfl
 |some xs=>
  show(if xs.length<=bW then _ else _)=Option.map _ (if xs.length<=bW then _ else _);by_cases h:xs.length<=bW
  .rw[aaB h,aaB h];rfl
  .rw[aaF h,aaF h];rfl
def Ee{g:alZ}(h:e=g.map D.lst):e.bind eX=g:=by rw[h];cases g<;>rfl
def zu{K:ay}{it ifs eV:E}(σ:St)(H:Hp)(Q:VK)(h:tF K (λρ=>(ev F false (arG it) ρ).bind eX) σ H Q):
  tF K (λρ=>(n9 F true it ρ).bind λxs=>if xs.length<=bW then walk asq xs else none) σ H Q:=by
 rwa [D6 λρ=>Ee (zq ρ)]at h
def Ef(hi:cn G F it)(hf:cn G F ifs)(he:cn G F eV):cn G F aje:=by
 have aM:∀X,ahF->∀x,bE G aje X.N X.env.scope x=true->(∃el gs s p,x= .ListComp el gs s p)/\tg=0/\PE X x (tF X.K λρ=>(ev F false aje ρ).bind eX):=λX hC x h=>by
  refine Xv (q_ h) λel n q iter fs iD p ai aK h3 h4 h5 h6 h7=>?_;subst ai;subst aK;exact⟨alR,rfl,(M0 (hi.i X hC _ iter h5 true) (sZ h4).1 hC.calm (oQ hC hi hf he h4 h5 h6 h7) (dR h3)).weak λσ H Q z=>zu σ H Q z⟩
 have F4:tg=0->∀ρ d,ev F false aje ρ=some d->∃ds,apc:=λht ρ d hd=>by
  subst ht;rw[zq]at hd;refine aa ae4 λxs h1 cL=>?_;subst cL;exact⟨_,rfl⟩
 refine .fX (λX hC x h m=>?_) (λX hC x h _=>?_) (λX hC x h z=>?_)
 .exact c6 af7 λ_ hq k=>jq m k (F4 hq)
 .obtain⟨⟨el,gs,s,p,rfl⟩,hq,k⟩:=aM X hC x h;exact dh (jq false k (F4 hq)) λ_=>rfl
 .exact(aM X hC x h).2.2
def Eg(ha:ap0):cn G F axF:=by
 have aM:∀X,ahF->∀x,bE G axF X.N X.env.scope x=true->(∃fn args wz p,alG)/\PE X x (tF X.K λρ=>(ev F false axF ρ).bind eX):=λX hC x h=>by
  refine mV (eC (e:=x) h) λn1 p1 a1 q1 zr h=>mV (eC h) λn2 p2 a2 q2 aK h=>?_;subst zr aK;refine⟨alR,?_⟩;change (decide (n1="sorted")&&decide (n2="set")&&dj X.env.scope n1&&dj X.env.scope n2&&bE G a X.N X.env.scope a2&&bc a2)=true at h;simp only[aak,decide_eq_true_eq]at h;obtain⟨⟨⟨⟨⟨rfl,rfl⟩,h3⟩,h4⟩,h5⟩,h6⟩:=h;refine(Ic hC.calm hC.units (bX h3) (apS (by simp[gn])) (bX h4) (apS (by simp[gn])) (ha.e X hC _ h5 true) (bM h6)).weak λσ H Q zz=>?_;refine cx zz λO ρ ds hx hd q=>aa aa5 λd e1 e2=>aa (alk (show((ev F true a ρ).bind ux).map D.lst=some d from e1)) λxs e3 e4=>?_;subst e4;cases (show some xs=some ds from e2);exact⟨O,ρ,ds,hx,e3,q⟩
 have F4:∀ρ d,ev F false axF ρ=some d->∃ds,apc:=λρ d hd=>aa (alk (show((ev F true a ρ).bind ux).map D.lst=some d from hd)) λxs _ e=>⟨xs,e.symm⟩;refine .fX (λX hC x h m=>jq m (aM X hC x h).2 F4) (λX hC x h _=>?_) (λX hC x h z=>ff z);obtain⟨⟨fn,args,wz,p,rfl⟩,k⟩:=aM X hC x h;exact dh (jq false k F4) λ_=>rfl
def snd(e':E):aDu:=by
 induction e' with
 |nil=>exact HL
 |cons a r ha hr=>exact D9 ha hr
 |var i=>exact HM
 |c d=>exact RH
 |bin o a b ha hb=>exact HN ha hb
 |cmp o a b ha hb=>exact HP ha hb
 |tup es he=>exact HU he
 |lst es he=>exact HV he
 |idx a i ha hi=>exact HW ha hi
 |sl a lo hi ha hl hh=>exact M6 ha hl hh
 |call f es he=>exact D_ he
 |prim q es he=>exact Ea he
 |uw q es he=>exact HX he
 |comp fr tg it ifs eV hi hf he=>exact Ef hi hf he
 |iO es he=>exact Ie he
 |it a ha=>exact M' ha
 |fj mm o es ho he=>exact Eb ho he
 |GI a _=>exact M_
 |nY i k hk=>exact Ed hk
 |AD neg k i hk=>exact Ia hk
 |iW i=>exact Bk
 |dk i=>exact M8
 |dv i=>exact M9
 |CK k es he=>exact HS he
 |not a ha=>exact HR ha
 |sset a ha=>exact Eg ha
 |neg a ha=>exact HQ ha
 |OC a ha=>exact Ib ha
end
def Os(ae:Addr->Prop)(ow:Nat->ahQ):Addr->Prop:=λa=>ae a\/∃i,ow i=some a
noncomputable def rf(ow:Nat->ahQ)(i:Nat)(o:ahQ):Nat->ahQ:=λj=>if j=i then o else ow j
def aL:rf ow i o i=o:=aaB rfl
def aP(h:¬j=i):rf ow i o j=ow j:=aaF h
structure SX(K:ay)(H₀:Hp)(ae Z:Addr->Prop)(kv:ad5)(kd:ac1)(ow:Nat->ahQ)(σ:St)(H:Hp)(ρ:Env):Prop where
 ex:EX K ae8 σ H ρ
 own:∀(i:Nat) (d:D),ρ[i]?=some (aku (true,d))->∃a,σ[i]?=some aiz/\((nX d=false/\ajs)\/(nX d=true/\Z a/\ae a))
 inj:∀i j a,ajs->ow j=some a->i=j
 new:∀i a,ajs->H₀ a=none
 same:ah H₀ H
 kp:aq K ae8 H kv kd
 o0:∀a,ae a->∃o,H₀ a=some o
 len:ρ.length=σ.length
section
variable {K:ay}{H₀:Hp}{ae Z:Addr->Prop}{kv:ad5}{kd:ac1}{ow:Nat->Option Addr}{σ:St}{H H1:Hp}{ρ:Env}
theorem SX.mono(h:aa9)(s:asC):SX K H₀ ae Z kv kd ow σ H1 ρ:=⟨h.ex.mono s,h.own,h.inj,h.new,h.same.trans s,h.kp.mono s,h.o0,h.len⟩
theorem SX.put(h:aa9)(r:aqb)(i:Nat):SX K H₀ ae Z kv kd ak7 asX H (Py.put ρ i false d):=by
 have sub:∀a,Os ae ak7 a->awg:=λa z=>by
  rcases z with z|⟨j,z⟩
  .exact .inl z
  .by_cases hj:j=i
   .rw[hj,aL]at z;cases z
   .rw[aP hj]at z;exact .inr ⟨j,z⟩
 refine⟨⟨λa ha=>h.ex.live a (sub a ha),λj o d' hj=>?_⟩,λj d' hj=>?_,λj k a hj hk=>?_,λj a hj=>?_,h.same,h.kp.weak sub,h.o0,by unfold Py.put;rw[abO,abO];exact h.len⟩
 .by_cases eZ:j=i
  .subst eZ;unfold Py.put at hj;by_cases hl:j<ρ.length
   .rw[aaR hl]at hj;cases hj;exact⟨v,aaR (by rw[<-h.len];exact hl),r.weak sub⟩
   .rw[aaS (by rw[abO];exact aaV hl)]at hj;cases hj
  .unfold Py.put at hj;rw[aaT alp]at hj;refine aa amn λw h1 h2=>⟨w,by rw[aaT alp];exact h1,?_⟩;cases o with
   |true=>
    refine bH h2 λa e1 e2 c=>aa aiU λa' o2 o1=>?_;rw[h1]at o2;cases o2;cases e1;exact⟨a,rfl,o1.elim (λo1=> .inr ⟨j,by rw[aP eZ];exact o1.2⟩) (λo1=> .inl o1.2.2),c.weak sub⟩
   |false=>exact bu.weak h2 sub
 .by_cases eZ:j=i
  .subst eZ;unfold Py.put at hj;by_cases hl:j<ρ.length
   .rw[aaR hl]at hj;cases hj
   .rw[aaS (by rw[abO];exact aaV hl)]at hj;cases hj
  .unfold Py.put at hj;rw[aaT alp]at hj;exact aa aiU λa o2 o1=>⟨a,by rw[aaT alp];exact o2,o1.imp (λo1=>⟨o1.1,by rw[aP eZ];exact o1.2⟩) id⟩
 .by_cases h1:j=i
  .rw[h1,aL]at hj;cases hj
  .by_cases h2:k=i
   .rw[h2,aL]at hk;cases hk
   .rw[aP h1]at hj;rw[aP h2]at hk;exact h.inj j k a hj hk
 .by_cases h1:j=i
  .rw[h1,aL]at hj;cases hj
  .rw[aP h1]at hj;exact h.new j a hj
def Eh:∀a,Os ae aiZ a->awg\/a=p:=λa z=>by
 rcases z with z|⟨j,z⟩
 .exact .inl aDL
 .by_cases hj:j=i
  .rw[hj,aL]at z;cases z;exact .inr rfl
  .rw[aP hj]at z;exact .inl ar2
def oU(hp:alM)(r:aqF):aq K axz azS vs ds:=((r.own hp).mono ah8).weak Eh
def SX.RJ(h:aa9)(s:asC)(hp:alM)(hu:tW u)(i:Nat)(hi:i<ρ.length)(TQ:nX d0=false)(c:eO K axz azS p d0):
  SX K H₀ ae Z kv kd aiZ aow azS (amO d0):=by
 have h1:=h.mono s;have Na:H₀ p=none:=by
  cases z:H₀ p with
  |none=>rfl
  |some o=>rw[h1.same _ _ z]at hp;cases hp
 have sub:∀a,Os ae aiZ a->(λa=>awg\/a=p) a:=λa z=>by
  rcases z with z|⟨j,z⟩
  .exact .inl aDL
  .by_cases hj:j=i
   .rw[hj,aL]at z;cases z;exact .inr rfl
   .rw[aP hj]at z;exact .inl ar2
 have up:ah H1 azS:=ah.upd hp;have mv:∀{v d},bu K ae8 H1 v d->bu K axz azS v d:=λq=>((q.own hp).mono up).weak sub;have mvs:∀{v d},aq K ae8 H1 v d->aq K axz azS v d:=λq=>((q.own hp).mono up).weak sub;have Yt:∀j,ow j≠some p:=λj z=>by
  refine aa (h1.ex.live p ar2) λus q _=>?_;rw[q]at hp;cases hp
 refine⟨⟨λa ha=>?_,λj o d' hj=>?_⟩,λj d' hj=>?_,λj k a hj hk=>?_,λj a hj=>?_,h1.same.trans up,mvs h1.kp,h.o0,by unfold Py.put;rw[abO,abO];exact h.len⟩
 .rcases sub a ha with z|z
  .exact aa (h1.ex.live a z) λus q qo=>⟨us,up _ _ q,qo⟩
  .subst z;exact⟨u,ag,hu⟩
 .by_cases eZ:j=i
  .subst eZ;unfold Py.put at hj;rw[aaR hi]at hj;cases hj;exact⟨ahG,aaR (by rw[<-h.len];exact hi),p,rfl,.inr ⟨j,aL⟩,c⟩
  .unfold Py.put at hj;rw[aaT alp]at hj;refine aa (h1.ex.kO j o d' hj) λw q1 q2=>⟨w,by rw[aaT alp];exact q1,?_⟩;cases o with
   |true=>
    refine bH q2 λa e1 e2 c'=>aa aiU λa' o2 o1=>?_;rw[q1]at o2;cases o2;cases e1;exact⟨a,rfl,o1.elim (λo1=> .inr ⟨j,by rw[aP eZ];exact o1.2⟩) (λo1=> .inl o1.2.2),((c'.own hp).mono up).weak sub⟩
   |false=>exact mv q2
 .by_cases eZ:j=i
  .subst eZ;unfold Py.put at hj;rw[aaR hi]at hj;cases hj;exact⟨p,aaR (by rw[<-h.len];exact hi),.inl ⟨TQ,aL⟩⟩
  .unfold Py.put at hj;rw[aaT alp]at hj;exact aa aiU λa o2 o1=>⟨a,by rw[aaT alp];exact o2,o1.imp (λo1=>⟨o1.1,by rw[aP eZ];exact o1.2⟩) id⟩
 .by_cases q1:j=i
  .rw[q1,aL]at hj;cases hj;by_cases q2:k=i
   .rw[q1,q2]
   .rw[aP q2]at hk;exact absurd hk (Yt k)
  .rw[aP q1]at hj;by_cases q2:k=i
   .rw[q2,aL]at hk;cases hk;exact absurd hj (Yt j)
   .rw[aP q2]at hk;exact h.inj j k a hj hk
 .by_cases q1:j=i
  .rw[q1,aL]at hj;cases hj;exact Na
  .rw[aP q1]at hj;exact h.new j a hj
def SX.Lu(h:aa9)(s:asC)(hp:alM)(r:aqF)(i:Nat)(hi:i<ρ.length):
  SX K H₀ ae Z kv kd aiZ aow (alm ah2) (amO apD):=h.RJ (u:= .lst vs) s hp trivial i hi rfl (akN ⟨vs,ds,rfl,ag,oU hp r⟩)
def SX.Wn(h:aa9)(ha:ajs)(hs:σ[i]?=some aiz)(hH:al1)(hu:tW u)(xg:tW u')(hz:nX d0=false)(c:eO K ae8 (aou u') a d0):
  SX K H₀ ae Z kv kd ow σ (aou u') (amO d0):=by
 have oa:awg:= .inr ⟨i,ha⟩;have sm:ah H₀ (aou u'):=λb o e=>by
  have hb:b≠a:=λz=>by rw[z,h.new i a ha]at e;cases e
  rw[ak hb];exact h.same _ _ e
 refine⟨⟨λb hb=>?_,λj o d' hj=>?_⟩,λj d' hj=>?_,h.inj,h.new,sm,h.kp.upd oa hH hu,h.o0,by unfold Py.put;rw[abO];exact h.len⟩
 .by_cases qL:b=a
  .subst qL;exact⟨u',ag,xg⟩
  .exact aa (avD hb) λus q qo=>⟨us,by rw[ak qL];exact q,qo⟩
 .by_cases eZ:j=i
  .subst eZ;unfold Py.put at hj;by_cases hl:j<ρ.length
   .rw[aaR hl]at hj;cases hj;exact⟨ab_,hs,a,rfl,oa,c⟩
   .rw[aaS (by rw[abO];exact aaV hl)]at hj;cases hj
  .unfold Py.put at hj;rw[aaT alp]at hj;refine aa amn λw q1 q2=>⟨w,q1,?_⟩;cases o with
   |true=>
    refine bH q2 λb e1 e2 c'=>aa aiU λb' o2 o1=>?_;rw[q1]at o2;cases o2;cases e1;have qL:b≠a:=λz=>by
     rcases o1 with o1|o1
     .exact eZ (h.inj j i b o1.2 (by rw[z];exact ha))
     .obtain⟨w,hw⟩:=h.o0 b o1.2.2;rw[z,h.new i a ha]at hw;cases hw
    exact⟨b,rfl,e2,c'.upd qL oa hH hu⟩
   |false=>exact bu.upd q2 oa hH hu
 .by_cases eZ:j=i
  .subst eZ;unfold Py.put at hj;by_cases hl:j<ρ.length
   .rw[aaR hl]at hj;cases hj;exact⟨a,hs,.inl ⟨hz,ha⟩⟩
   .rw[aaS (by rw[abO];exact aaV hl)]at hj;cases hj
  .unfold Py.put at hj;rw[aaT alp]at hj;exact h.own j d' hj
def SX.wr(h:aa9)(ha:ajs)(hs:σ[i]?=some aiz)(hH:amM)(r:aq K ae8 H F6 Rj):
  SX K H₀ ae Z kv kd ow σ (aou (akx F6)) (amO (akx Rj)):=h.Wn (u':= .lst F6) ha hs hH trivial trivial rfl (akN ⟨F6,Rj,rfl,ag,r.upd (ant ⟨i,ha⟩) hH trivial⟩)
def SX.freeze(h:aa9)(hd:ρ[i]?=some (aku (true,.lst ds))):SX K H₀ ae Z kv kd ak7 σ H (ρ.set i (aku (false,.lst ds))):=by
 refine aa (h.own i _ hd) λa o2 o1=>?_;have o1:ajs:=o1.elim (λz=>z.2) λz=>nomatch z.1;refine aa (h.ex.kO i true _ hd) λw q1 q2=>bH q2 λa' e1 e3 c=>aa c.lst λvs e4 e5=>?_;rw[q1]at o2;cases o2;cases e1;have e6:¬Os ae ak7 a:=λz=>by
  rcases z with z|⟨j,z⟩
  .obtain⟨o,q⟩:=h.o0 a z;rw[h.new i a o1]at q;cases q
  .by_cases hj:j=i
   .rw[hj,aL]at z;cases z
   .rw[aP hj]at z;exact hj (h.inj j i a z o1)
 have hσ:σ=σ.set i aiz:=by
  apply acC;intro j;by_cases hj:i=j
  .subst hj;have hl:i<σ.length:=(aax.mp q1).1;rw[aaR hl,q1]
  .rw[aaT hj]
 have sub:∀b,Os ae ak7 b->awf:=λb z=>by
  rcases z with z|⟨j,z⟩
  .exact .inl z
  .by_cases hj:j=i
   .rw[hj,aL]at z;cases z
   .rw[aP hj]at z;exact .inr ⟨j,z⟩
 have r:bu K (Os ae ak7) H ab_ apD:= .lst (akN e4) e6 (e5.weak sub);refine⟨⟨λb hb=>h.ex.live b (sub b hb),λj o d' hj=>?_⟩,λj d' hj=>?_,λj k b hj hk=>?_,λj b hj=>?_,h.same,h.kp.weak sub,h.o0,by rw[abO];exact h.len⟩
 .by_cases eZ:j=i
  .subst eZ;have hl:aF7:=(aax.mp hd).1;rw[aaR hl]at hj;cases hj;exact⟨ab_,q1,r⟩
  .rw[aaT alp]at hj;refine aa amn λw p1 p2=>⟨w,p1,?_⟩;cases o with
   |true=>
    refine bH p2 λb f1 f2 c'=>aa aiU λb' g2 g1=>?_;rw[p1]at g2;cases g2;cases f1;exact⟨b,rfl,g1.elim (λg1=> .inr ⟨j,by rw[aP eZ];exact g1.2⟩) (λg1=> .inl g1.2.2),c'.weak sub⟩
   |false=>exact bu.weak p2 sub
 .by_cases eZ:j=i
  .subst eZ;have hl:aF7:=(aax.mp hd).1;rw[aaR hl]at hj;cases hj
  .rw[aaT alp]at hj;exact aa aiU λb g2 g1=>⟨b,g2,g1.imp (λg1=>⟨g1.1,by rw[aP eZ];exact g1.2⟩) id⟩
 .by_cases h1:j=i
  .rw[h1,aL]at hj;cases hj
  .by_cases h2:k=i
   .rw[h2,aL]at hk;cases hk
   .rw[aP h1]at hj;rw[aP h2]at hk;exact h.inj j k b hj hk
 .by_cases h1:j=i
  .rw[h1,aL]at hj;cases hj
  .rw[aP h1]at hj;exact h.new j b hj
def SX.keep(h:aa9)(r:aqb):alu:=⟨h.ex,h.own,h.inj,h.new,h.same,.cons r h.kp,h.o0,h.len⟩
def SX.drop(h:alu):aa9:=⟨h.ex,h.own,h.inj,h.new,h.same,by cases h.kp with|cons _ t=>exact t,h.o0,h.len⟩
def SX.kept(h:alu):aqb:=by cases h.kp with|cons r _=>exact r
end
def post(K:ay)(H₀:Hp)(ae Z:Addr->Prop)(kv:ad5)(kd:ac1)(D':Cb):mh->Prop
 | .next ρ=>∀ow σ H,aa9->D'.nx σ H
 | .brk ρ=>∀ow σ H,aa9->D'.bk σ H
 | .cont ρ=>∀ow σ H,aa9->D'.ct σ H
 | .ret d=>∀v H,ah H₀ H->bu K ae H v d->D'.rt v H
def tC(K:ay)(f:Env->asH):TS:=λD' σ H=>∃H₀ ae Z kv kd ow ρ out,aa9/\f ρ=some out/\post K H₀ ae Z kv kd D' out
def _root_.L2.PS.weak{st:Stmt}(h:PS X st t)(w:∀D' σ H,t' D' σ H->t D' σ H):PS X st t':=λU s σ H D' I q=>h U s σ H D' I (w D' σ H q)
def _root_.L2.jE.weak{st:alh}(h:jE X st t)(w:∀D' σ H,t' D' σ H->t D' σ H):jE X st t':=λU s σ H D' I q=>h U s σ H D' I (w D' σ H q)
noncomputable def gp:Expr->Bool
 | .ListComp _ _ _ _=>true
 | .SetComp _ _ _ _=>true
 | .DictComp _ _ _ _ _=>true
 |_=>false
noncomputable def isC:E->Bool
 | .comp _ _ _ _ _=>true
 |_=>false
noncomputable def mT(sc:Scope)(x:Str):Bool:=match sc.names.lookup x with|some .local =>true|some .cell =>true|_=>false
noncomputable def Ei:Expr->Bool
 | .Tuple _ _ _=>false
 |_=>true
noncomputable def c5(N:ac_)(sc:Scope):ahW->ahA->Bool
 |[],es=>es.isEmpty
 |i::is,es=>match es with
  |e::es=>(match e with| .Name x _=>decide (N[i]?=some x)&&mT sc x|_=>false)&&c5 N sc is es
  |[]=>false
noncomputable def Nb(N:ac_)(sc:Scope)(is:ahW)(tg:Nat)(e:Expr):Bool:=
 match e with
 | .Name _ _=>decide (tg=0)&&c5 N sc is [e]&&decide (is.length=1)
 | .Tuple es _ _=>decide (tg=is.length)&&!es.isEmpty&&c5 N sc is es
 |_=>false
noncomputable def Nc(G:GT)(it:E)(N:ac_)(sc:Scope)(tX iter:Expr):Bool:=
 match it with
 | .GI a=>match tX with
  | .Tuple _ _ _=>mB iter λx a0=>decide (x="enumerate")&&dj sc x&&bE G a N sc a0&&bc a0
  |_=>false
 |it=>HJ G it N sc iter
noncomputable def Ej(N:ac_)(sc:Scope)(y:Nat)(e:Expr):Bool:=mz e λe2 nm as b=>as.isEmpty&&decide (nm="pop")&&dC N sc y e2&&b
noncomputable def Ih(G:GT)(x f:Nat)(N:ac_)(sc:Scope)(e:Expr)(ok:Expr->Bool):Bool:=
 qX e λn as=>Ys as λe1 w=>decide (G.1[f]?=some n)&&dj sc n&&wc n&&dC N sc x e1&&ok w&&bc w
noncomputable def RK(G:GT)(x:Nat)(fr:ahW)(it k v:E)(N:ac_)(sc:Scope)(st:Stmt):Bool:=
 sX st λa e=>decide (N[x]?=some a)&&mT sc a&&M3 e λel gs iD=>sW el λks vs=>pX ks λko=>xH ko λke=>pX vs λve=>pX gs λg=>gm g.target λn=>g.ifs.isEmpty&&decide (g.is_async=0)&&gW g.iter&&Bi N sc iD [n] fr&&HJ G it N sc g.iter&&bE G k (arz N) ash ke&&bE G v (arz N) ash ve
noncomputable def Wo(G:GT)(x y r f:Nat)(N:ac_)(sc:Scope)(st:Stmt):Bool:=sX st λa e=>decide (N[r]?=some a)&&mT sc a&&Ih G x f N sc e (Ej N sc y)
noncomputable def Kr(G:GT)(x:Nat)(p q u:E)(N:ac_)(sc:Scope)(st:Stmt):Bool:=
 qW st λEk e=>pX Ek λo=>vp o λo2 qe=>vp o2 λe1 pe=>dC N sc x e1&&bE G p N sc pe&&b9 pe&&bE G q N sc qe&&b9 qe&&bE G u N sc e&&!gp e
noncomputable def RL(G:GT)(x y g:Nat)(w:E)(N:ac_)(sc:Scope)(st:Stmt):Bool:=
 lJ st λe=>mz e λe2 m as b=>pX as λv=>dC N sc y e2&&decide (m="extend")&&b&&bc v&&Ih G x g N sc v (bE G w N sc)
noncomputable def Yu(f g h k:Stmt->Bool)(l:alh):Bool:=
 match l with
 |[]=>false
 |s1::l=>match l with
  |[]=>false
  |s2::l=>match l with
   |[]=>false
   |s3::l=>match l with
    |[]=>false
    |s4::l=>match l with
     |[]=>f s1&&g s2&&h s3&&k s4
     |_::_=>false
def Nd(e:Yu f g h k l=true):∃s1 s2 s3 s4,l=[s1,s2,s3,s4]/\aDq/\aDm/\aDk/\k s4=true:=by
 cases l with
 |nil=>cases e
 |cons s1 l=>cases l with
  |nil=>cases e
  |cons s2 l=>cases l with
   |nil=>cases e
   |cons s3 l=>cases l with
    |nil=>cases e
    |cons s4 l=>cases l with
     |cons _ _=>cases e
     |nil=>
      change (f s1&&g s2&&h s3&&k s4)=true at e;simp only[aak]at e;exact⟨s1,s2,s3,s4,rfl,e.1.1.1,e.1.1.2,e.1.2,e.2⟩
noncomputable def RM(f g h:Stmt->Bool)(l:alh):Bool:=
 match l with
 |[]=>false
 |s1::l=>match l with
  |[]=>false
  |s2::l=>match l with
   |[]=>false
   |s3::l=>match l with
    |[]=>f s1&&g s2&&h s3
    |_::_=>false
def El(e:RM f g h l=true):∃s1 s2 s3,l=[s1,s2,s3]/\aDq/\aDm/\aDk:=by
 cases l with
 |nil=>cases e
 |cons s1 l=>cases l with
  |nil=>cases e
  |cons s2 l=>cases l with
   |nil=>cases e
   |cons s3 l=>cases l with
    |cons _ _=>cases e
    |nil=>
     change (f s1&&g s2&&h s3)=true at e;simp only[aak]at e;exact⟨s1,s2,s3,rfl,e.1.1,e.1.2,e.2⟩
noncomputable def RN(N:ac_)(sc:Scope)(m:Nat)(f g h:Stmt->Bool)(st:Stmt):Bool:=
 match st with
 | .If em a b _=>dC N sc m em&&b.isEmpty&&RM f g h a
 |_=>false
noncomputable def RO(N:ac_)(sc:Scope)(y:Nat)(f g h:Stmt->Bool)(st:Stmt):Bool:=
 match st with
 | .While e2 a b _=>dC N sc y e2&&b.isEmpty&&RM f g h a
 |_=>false
noncomputable def RP(N:ac_)(sc:Scope)(x:Nat)(st:Stmt):Bool:=
 match st with
 | .Return o _=>match o with
  |some e=>dC N sc x e
  |none=>false
 |_=>false
def Ii{st:Stmt}(e:RN N sc m f g h st=true):∃em s1 s2 s3 p,st= .If em [s1,s2,s3] [] p/\dC N sc m em=true/\aDq/\aDm/\aDk:=by
 cases st with
 |If em a b p=>
  change (dC N sc m em&&b.isEmpty&&RM f g h a)=true at e;simp only[aak]at e;refine kP (El e.2) λs1 s2 s3 ai q=>?_;subst ai;cases b with
  |nil=>exact⟨em,s1,s2,s3,p,rfl,e.1.1,q⟩
  |cons _ _=>cases e.1.2
 |_=>cases e
def Ij{st:Stmt}(e:RO N sc m f g h st=true):∃em s1 s2 s3 p,st= .While em [s1,s2,s3] [] p/\dC N sc m em=true/\aDq/\aDm/\aDk:=by
 cases st with
 |While em a b p=>
  change (dC N sc m em&&b.isEmpty&&RM f g h a)=true at e;simp only[aak]at e;refine kP (El e.2) λs1 s2 s3 ai q=>?_;subst ai;cases b with
  |nil=>exact⟨em,s1,s2,s3,p,rfl,e.1.1,q⟩
  |cons _ _=>cases e.1.2
 |_=>cases e
def Ik{st:Stmt}(e:RP N sc x st=true):∃e1 p,st= .Return (aku e1) p/\dC N sc x e1=true:=by
 cases st with
 |Return o p=>
  cases o with
  |none=>cases e
  |some e1=>
   exact⟨e1,p,rfl,e⟩
 |_=>cases e
mutual
noncomputable def Nf(G:GT):C->ac_->Scope->Stmt->Bool
 | .asg i e,N,sc,st=>sX st λx v=>decide (N[i]?=some x)&&mT sc x&&bE G e N sc v&&!gp v
 | .fm i e,N,sc,st=>sX st λx v=>decide (N[i]?=some x)&&mT sc x&&bE G e N sc v&&fresh e&&(!gp v||isC e)
 | .wL is e,N,sc,st=>qW st λEk v=>pX Ek λtg=>match tg with
  | .Tuple es _ _=>!is.isEmpty&&c5 N sc is es&&bE G e N sc v&&Ei v
  |_=>false
 | .Qi i j,N,sc,st=>sX st λx v=>decide (N[i]?=some x)&&mT sc x&&dC N sc j v
 | .CN i,N,sc,st=>sX st λx v=>decide (N[i]?=some x)&&mT sc x&&sW v λks vs=>ks.isEmpty&&vs.isEmpty
 | .upd i e,N,sc,st=>lJ st λex=>mz ex λo m as b=>pX as λv=>gm o λx=>decide (N[i]?=some x)&&qi sc x&&wc x&&decide (m="update")&&b&&bE G e N sc v&&bc v
 | .uz i ix e,N,sc,st=>qW st λEk v=>pX Ek λo=>vp o λn k=>gm n λx=>decide (N[i]?=some x)&&qi sc x&&wc x&&bE G ix N sc k&&b9 k&&bE G e N sc v
 | .app i e,N,sc,st=>lJ st λex=>mz ex λo m as b=>pX as λv=>gm o λx=>decide (N[i]?=some x)&&qi sc x&&wc x&&decide (m="append")&&b&&bE G e N sc v&&bc v
 | .ret e,N,sc,st=>match st with
  | .Return o _=>match o with
   |some v=>bE G e N sc v
   |none=>false
  |_=>false
 | .ifs c t u,N,sc,st=>match st with
  | .If x a b _=>bE G c N sc x&&D1 c&&iU G t N sc a&&iU G u N sc b
  |_=>false
 | .while c b,N,sc,st=>match st with
  | .While x a o _=>o.isEmpty&&bE G c N sc x&&D1 c&&iU G b N sc a
  |_=>false
 | .for is tg it b,N,sc,st=>match st with
  | .For tX iter a o _=>o.isEmpty&&gW iter&&iU G b N sc a&&Nb N sc is tg tX&&Nc G it N sc tX iter
  |_=>false
 | .wM i t es,N,sc,st=>sX st λx v=>decide (N[i]?=some x)&&mT sc x&&sW v λks vs=>pX ks λko=>xH ko λk=>pX vs λw=>decide (t≠0)&&dJ G es N sc [k,w]
 | .AF i k e,N,sc,st=>qW st λEk v=>pX Ek λt=>vp t λo ix=>dC N sc i o&&bE G k N sc ix&&b9 ix&&bE G e N sc v&&!gp v
 | .pop i j,N,sc,st=>sX st λx v=>decide (N[i]?=some x)&&mT sc x&&Ej N sc j v
 | .ext i e,N,sc,st=>lJ st λex=>mz ex λo m as b=>pX as λv=>gm o λx=>decide (N[i]?=some x)&&qi sc x&&wc x&&decide (m="extend")&&b&&bE G e N sc v&&bc v
 | .expr e,N,sc,st=>lJ st λx=>sV x λ_ _ _=>bE G e N sc x
 | .raise _,_,_,st=>match st with| .Raise _ _ _=>true|_=>false
 |_,_,_,_=>false
noncomputable def iU(G:GT):C->ac_->Scope->alh->Bool
 | .skip,_,_,wd=>wd.isEmpty
 | .seq a b,N,sc,wd=>match wd with
  |s::r=>Nf G a N sc s&&iU G b N sc r
  |[]=>false
 | .fst x fr it k v c1 y r f c2 m c3 p q u g w,N,sc,wd=>Yu (RK G x fr it k v N sc) (Nf G c1 N sc) (RO N sc y (Wo G x y r f N sc) (Nf G c2 N sc) (RN N sc m (Nf G c3 N sc) (Kr G x p q u N sc) (RL G x y g w N sc))) (RP N sc x) wd
 |_,_,_,_=>false
end
def fA(h:mT sc x=true):Loc sc x:=by
 unfold mT at h;split at h
 .rename_i e;exact .inl e
 .rename_i e;exact .inr e
 .cases h
def oV(h:gp v=false):swapsWith v (aku t) l env=pure false:=by
 cases v<;>first|rfl|exact absurd h Bool.noConfusion
section
variable {K:ay}{H₀:Hp}{ae Z:Addr->Prop}{kv:ad5}{kd:ac1}{ow:Nat->Option Addr}{σ:St}{H H1:Hp}{ρ:Env}{a:Addr}{o:Obj}{u:HO}
def SX.base(h:aa9)(e:aD_):aqn:=by
 refine⟨h.ex,h.own,h.inj,λi b hb=>?_,λb w hb=>?_,h.kp,λb hb=>?_,h.len⟩
 .have eJ:b≠a:=λz=>by
   refine aa avO λw q1 q2=>?_;rw[z,e]at q1;cases q1;exact q2
  rw[ak eJ];exact h.new i b hb
 .by_cases qL:b=a
  .subst qL;rw[ag]at hb;cases hb;exact e
  .rw[ak qL]at hb;exact h.same _ _ hb
 .by_cases qL:b=a
  .subst qL;exact⟨_,ag⟩
  .obtain⟨w,q⟩:=h.o0 b hb;exact⟨w,by rw[ak qL];exact q⟩
def rg(s0:aGI\/H₀ a=some aih):ah H₀ (L2.upd H₀ a aih):=λb w hb=>by
 by_cases qL:b=a
 .subst qL;rcases s0 with z|z
  .rw[z]at hb;cases hb
  .rw[z]at hb;cases hb;exact ag
 .rw[ak qL];exact hb
def SX.Ng(h:aqn)(s0:aGI\/H₀ a=some aih)(o0:∀b,ae b->∃w,H₀ b=some w):aa9:=by
 refine⟨h.ex,h.own,h.inj,λi b hb=>?_,(rg s0).trans h.same,h.kp,o0,h.len⟩;have:=h.new i b hb;by_cases qL:b=a
 .subst qL;rw[ag]at this;cases this
 .rw[ak qL]at this;exact this
end
def Il(h1:ag4)(h2:ks.length=us.length)(e:gG 0 ks vs=gG 0 ks us):vs=us:=by
 rw[kn,kn]at e;have e:=HO.dK.inj e;have:=congrArg (List.map Prod.snd) e;rwa [agl (by rw[aap];exact aaw (abl h1)),agl (by rw[aap];exact aaw (abl h2))]at this
section
variable {X:Cx}{c e:Expr}{st:Stmt}{aT:alh}{pos px:Pos}{x:Str}{i:Nat}
def Nh:jE X [] (tC X.K λρ=>some awN):=ir.weak λD' σ H zz=>by
 refine mW zz λH₀ ae Z kv kd ow ρ out hx hd k=>?_;cases hd;exact k ow σ H hx
def RQ(h1:PS X st (atH f))(h2:jE X aT (atH g)):jE X (st::aT) (tC X.K λρ=>(f ρ).bind λo=>match o with
  | .next ρ'=>g ρ'
  |o=>some o):=
 (bA h1 h2).weak λD' σ H zz=>by
  refine mW zz λH₀ ae Z kv kd ow ρ out hx hd k=>aa aa5 λo e1 hd=>⟨H₀,ae,Z,kv,kd,ow,ρ,o,hx,e1,?_⟩;cases o with
  |next ρ'=>exact λow σ H h=>⟨H₀,ae,Z,kv,kd,ow,ρ',out,h,hd,k⟩
  |brk ρ'=>cases hd;exact k
  |cont ρ'=>cases hd;exact k
  |ret d=>cases hd;exact k
def RS(hN:akh)(hi:X.N[i]?=some x)(hx:aiQ)(hf:aju)(he:ag_)(hs:swapsWith e aut pos.line X.env=pure false):
  PS X (aov e) (tC X.K λρ=>(f ρ).map λd=> .next ajG):=
 (fZ hN hi hx he hs azW).weak λD' σ H zz=>by
  refine mW zz λH₀ ae Z kv kd ow ρ out hx hd k=>aa ae4 λd e1 ai=>?_;subst ai;refine⟨ae8,ρ,d,hx.ex,e1,λv H1 s1 r1=>?_⟩;exact k ak7 _ _ ((hx.mono s1).put r1.own i)
def Em{K:ay}(h:aa9)(s:asC)(hp:alM)(r:aqF)(i:Nat):
  ∃jz,SX K H₀ ae Z kv kd jz aow (alm ah2) (amO apD):=by
 by_cases hi:i<ρ.length
 .exact⟨_,h.Lu s hp r i hi⟩
 .have e1:σ.set i aBI=σ:=adA (by rw[<-h.len];exact aaV hi);have e2:Py.put ρ i true apD=ρ:=adA az4;rw[e1,e2];exact⟨ow,aEU⟩
def rh{f:Env->Option D}(hP:PS X st (p6 te (cI i)))(ht:∀σ H Q,tF X.K (λρ=>(f ρ).bind eX) σ H Q->te σ H Q):
  PS X st (tC X.K λρ=>(f ρ).bind λd=>match d with
   | .lst xs=>some ar5
   |_=>none):=
 hP.weak λD' σ H zz=>by
  refine mW zz λH₀ ae Z kv kd ow ρ out hx hd k=>aa aa5 λd e1 hd=>?_;cases d with
  |lst ds=>
   cases hd;refine ht σ H _ ⟨ae8,ρ,ds,hx.ex,by show(f ρ).bind eX=_;rw[e1];rfl,λp vs H1 s1 hp r=>?_⟩;obtain⟨jz,h'⟩:=Em hx s1 hp r i;exact k jz _ _ h'
  |_=>cases hd
def Ni(hi:X.N[i]?=some x)(hv:aiK)(En:aiC)(nT:ana)(hk:PE X ke (akr fi))(dq:b9 ke=true)(he:ag_):
  PS X axm (tC X.K λρ=>(f ρ).bind λd=>((fi ρ).bind FW).bind λk=>match ρ[i]? with
   |some (some (true,.lst xs))=>(place xs.length k).map λj=> .next apJ
   |_=>none):=
 (Cg he (Li aml hk Cy (by intro v;cases ke<;>first|rfl|exact absurd dq aan)) (by cases e<;>rfl) (by cases e<;>rfl) rfl).weak λD' σ H zz=>by
  refine mW zz λH₀ ae Z kv kd ow ρ out hx hd k=>aa aa5 λd e1 hd=>aa aa5 λkk e2 hd=>aa (aks e2) λdk e3 e4=>?_;have Mg:dk= .int kk:=by cases dk<;>first|(cases e4;rfl)|cases e4
  subst Mg;split at hd
  .rename_i xs Ks;refine aa ae4 λj e5 ai=>?_;subst ai;refine⟨ae8,ρ,d,hx.ex,e1,λv H1 s1 r1=>?_⟩;refine aa axb λa o2 o1=>?_;have o1:ajs:=o1.elim (λz=>z.2) λz=>nomatch z.1;refine⟨ab_,o2,ae8,ρ,aGS,(hx.mono s1).ex,e3,λw H2 s2 r2=>?_⟩;have F5:=(hx.mono s1).mono s2;refine aa (F5.ex.kO i true _ Ks) λw' q1 q2=>bH q2 λa' e6 e8 c0=>aa c0.lst λvs e9 zw=>?_;rw[o2]at q1;cases q1;cases e6;refine⟨a,vs,kk,j,rfl,aAI,e9,?_,?_⟩
   .rw[<-oH,zw.length];exact e5
   .exact k ow _ _ (F5.wr o1 o2 e9 (zw.set av4 j))
  .cases hd
def RT(he:ag_):PS X aCc (tC X.K λρ=>(f ρ).map .ret):=
 (rD he).weak λD' σ H zz=>by
  refine mW zz λH₀ ae Z kv kd ow ρ out hx hd k=>aa ae4 λd e1 ai=>?_;subst ai;refine⟨ae8,ρ,d,hx.ex,e1,λv H1 s1 r1=>?_⟩;exact k v H1 (hx.same.trans s1) (r1.own.weak λa z=> .inl z)
def Nj(hi:X.N[i]?=some x)(hv:aiK)(En:aiC)(nT:ana):PS X (.Return aut pos) (tC X.K λρ=>(rd true ρ i).map .ret):=
 (rD aml).weak λD' σ H zz=>by
  refine mW zz λH₀ ae Z kv kd ow ρ out hx hd k=>aa ae4 λd e1 ai=>?_;subst ai;have e1:rd true ρ i=some d:=e1;unfold rd at e1;split at e1
  .rename_i o d' Ks;refine aa (hx.ex.kO i o d' Ks) λw q1 q2=>?_;cases o with
   |true=>
    refine bH q2 λa e6 e8 c0=>aa axb λa' o2 o1=>?_;rw[o2]at q1;cases q1;cases e6;rcases c0 with⟨vs,ds,rfl,e9,zw⟩|⟨t,ks,vs,ds,rfl,_⟩|⟨rfl,_⟩
    .cases e1;have o1:ajs:=o1.elim (λz=>z.2) λz=>nomatch z.1;refine⟨_,o2,k _ H hx.same (.lst (akN e9) (λz=>?_) (zw.weak λa z=> .inl z))⟩;obtain⟨u,hu⟩:=hx.o0 a z;rw[hx.new i a o1]at hu;cases hu
    .cases e1
    .cases e1
   |false=>
    cases e1;exact⟨w,q1,k _ H hx.same (bu.weak q2 λa z=> .inl z)⟩
  .cases e1
def Wq{f:Env->Option D}(hc:PT X c (tB X.K λρ=>amx))(ha:jE X a (atH g))(hb:jE X b (atH h)):
  PS X (.If c a b pos) (tC X.K λρ=>((f ρ).bind eI).bind λk=>if k then g ρ else h ρ):=
 (ug hc ha hb).weak λD' σ H zz=>by
  refine mW zz λH₀ ae Z kv kd ow ρ out hx hd k=>aa aa5 λkk e1 hd=>⟨ae8,ρ,kk,hx.ex,e1,λH1 s1=>?_⟩;cases kk with
  |true=>exact jP ⟨H₀,ae,Z,kv,kd,ow,ρ,out,ahV,hd,k⟩
  |false=>exact mO ⟨H₀,ae,Z,kv,kd,ow,ρ,out,ahV,hd,k⟩
def Im{f:Env->Option D}(hp:ajg)(hc:PT X c (tB X.K λρ=>amx))(hb:jE X body (atH b))(n:Nat):
  PS X aA7 (tC X.K λρ=>jT (λρ=>amx) b n ρ):=
 (uh hp hc hb).weak λD' σ H zz=>by
  refine mW zz λH₀ ae Z kv kd ow ρ out hx hd k=>⟨λm σ H=>∃ow ρ,SX X.K H₀ ae Z kv kd ow σ H ρ/\jT (λρ=>amx) b m ρ=some out,⟨n,ow,ρ,hx,hd⟩,?_⟩;rintro m σ H ⟨ow,ρ,hx,hd⟩;cases m with
  |zero=>cases hd
  |succ m=>
   rw[jT]at hd;refine aa aa5 λkk e1 hd=>⟨ae8,ρ,kk,hx.ex,e1,λH1 s1=>?_⟩;cases kk with
   |false=>
    rw[aaF aan]at hd;cases hd;exact mO (k ow σ H1 ahV)
   |true=>
    rw[aaB rfl]at hd;refine aa aa5 λo e2 hd=>jP ⟨λbU H'=>∃ow ρ,SX X.K H₀ ae Z kv kd ow bU H' ρ/\jT (λρ=>amx) b m ρ=some out,λbU H' h=>⟨m,abY m,h⟩,H₀,ae,Z,kv,kd,ow,ρ,o,ahV,e2,?_⟩;cases o with
    |next ρ'=>exact λow σ H h=>⟨ow,ρ',h,hd⟩
    |cont ρ'=>exact λow σ H h=>⟨ow,ρ',h,hd⟩
    |brk ρ'=>cases hd;exact λow σ H h=>k ow σ H h
    |ret d=>cases hd;exact λv H s r=>k v H s r
def Nk(K:ay)(g:TG)(setT:Env->D->Option Env):Prop:=
 ∀(H₀:Hp) (ae Z:Addr->Prop) (kv:ad5) (kd:ac1) (ow:Nat->ahQ) (σ:St) (H:Hp) (ρ ρ':Env) (v:V) (d:D) (Q:St->Hp->Prop),aa9->aqb->setT ρ d=some ρ'->
  (∀jz bU,avT->Q bU H)->g v σ H Q
def Io{K:ay}:Nk K (cI j) (λρ d=>some (put ρ j false d)):=λH₀ ae Z kv kd ow σ H ρ ρ' v d Q hx r e q=>by
 cases e;exact q _ _ (hx.put r j)
def tm:ahW->Lf
 |[]=>PB
 |i::is=>JK (cI i) (tm is)
theorem lP(hN:akh)(hf:∀x,aju):∀{is:ahW}{es:ahA},axi->Oy X es (tm is)/\(assignEach es X.env).length =is.length/\(assignEach es X.env).findIdx? (·.1)=none
 |[],es,h=>by
  cases es with
  |nil=>exact⟨Gj,rfl,rfl⟩
  |cons _ _=>cases h
 |i::is,es,h=>by
  cases es with
  |nil=>cases h
  |cons e es=>
   cases e with
   |Name x p=>
    have h:=acn.mp (show(decide (X.N[i]?=some x)&&mT X.env.scope x&&c5 X.N X.env.scope is es)=true from h);have h1:=acn.mp h.1;refine c6 (lP hN hf h.2) λq1 q2 q3=>?_;refine⟨Cf (mY hN (arA h1.1) (fA h1.2) (akN (hf _))) q1 rfl,congrArg (· + 1) q2,?_⟩;show List.findIdx? _ ((false,_)::assignEach es X.env)=none;rw[List.findIdx?_cons];simp[q3]
   |_=>exact nomatch (show false=true from h)
theorem vt{K:ay}:∀{is:ahW}{xs:ad5}{ys:ac1}{ow:Nat->Option Addr}{σ:St}{H:Hp}{ρ ρ':Env}{Q:St->Hp->Prop},aq K ae8 H xs ys->aa9->de ρ is ys=some ρ'->
  (∀jz bU,avT->Q bU H)->tm is xs σ H Q
 |[],xs,ys,ow,σ,H,ρ,ρ',Q,r,hx,e,q=>by
  cases ys with
  |nil=>cases e;cases r;exact⟨rfl,q _ _ hx⟩
  |cons _ _=>cases e
 |i::is,xs,ys,ow,σ,H,ρ,ρ',Q,r,hx,e,q=>by
  cases ys with
  |nil=>cases e
  |cons d ds=>
   cases r with
   |cons r1 r2=>
    have sub:∀a,Os ae ak7 a->awg:=λa z=>by
     rcases z with z|⟨j,z⟩
     .exact .inl z
     .by_cases hj:j=i
      .rw[hj,aL]at z;cases z
      .rw[aP hj]at z;exact .inr ⟨j,z⟩
    exact⟨_,_,rfl,vt (r2.weak sub) (hx.put r1 i) e q⟩
def Eo{K:ay}(h:aGR):Nk K (Qt K is.length (tm is)) (λρ d=>(aH is.length d).bind aqa):=λH₀ ae Z kv kd ow σ H ρ ρ' v d Q hx r e q=>by
 refine aa (aks e) λys e1 e2=>?_;obtain⟨n,hn⟩:∃n,is.length=n+1:=⟨is.length-1,(abl (acF h))⟩;rw[hn]at e1⊢;cases d with
 |tup zs=>
  simp only[aH]at e1;split at e1
  .rename_i hz;cases e1;refine ba r.gh λa xs ai q1 p1=>?_;subst ai;exact⟨a,xs,rfl,.inr q1,by rw[p1.length];exact hz,vt p1 hx e2 q⟩
  .cases e1
 |_=>cases e1
def Nl{es:ahA}{k0:Nat}{tp:Pos}{is:ahW}{f:Env->Option D}(hc:af6)(hN:akh)(hf:∀x,aju)(hn:axi)(he:ag_)(ht:Ei e=true)(hp:aGR):
  PS X (asd [.Tuple es k0 tp]) (tC X.K λρ=>(f ρ).bind λd=>((aH is.length d).bind aqa).map .next):=by
 refine c6 (lP hN hf hn) λq1 q2 q3=>?_;refine(Cg he (CS hc q1 q2 q3) (by cases e<;>rfl) (by cases e<;>first|rfl|exact absurd ht aan) rfl).weak λD' σ H zz=>mW zz λH₀ ae Z kv kd ow ρ out hx hd k=>?_;refine aa aa5 λd e1 hd=>aa ae4 λρ' e2 zr=>?_;subst zr;exact⟨ae8,ρ,d,hx.ex,e1,λv H1 s1 r1=>Eo hp H₀ ae Z kv kd ow σ H1 ρ ρ' v d _ ahV r1.own e2 λjz bU h=>k jz bU H1 h⟩
def Kt(hp:ajg)(hc:af6)(hg:PG X tX g)(hS:Nk X.K g setT)
  (hI:PI X tX iter (tI X.K false fi)) (hb:jE X body (atH b)) (hs:∀x,ai_):
  PS X (aHh tX) (tC X.K λρ=>(fi ρ).bind λxs=>a_ (λy ρ=>avA) xs ρ):=
 (Lk hp hc hI hg hb hs).weak λD' σ H zz=>by
  refine mW zz λH₀ ae Z kv kd ow ρ out hx hd k=>aa aa5 λxs e1 hd=>⟨ae8,ρ,xs,hx.ex,e1,λJ iz H1 s1 DX vn=>?_⟩;have qV:=hx.mono s1;obtain⟨bJ,Ku,Kv,sm,yK,hk,qC⟩:∃bJ Ku Kv,ah H₀ bJ/\SX X.K bJ ae Z Ku Kv ow σ H1 ρ/\(∀ow σ H ρ,SX X.K bJ ae Z Ku Kv ow σ H ρ->SX X.K H₀ ae Z kv kd ow σ H ρ)/\(∀ow σ H ρ,SX X.K bJ ae Z Ku Kv ow σ H ρ->fM X.K (Os ae ow) H iz):=by
   rcases iz with _|⟨_|_|⟨o,ks,vs⟩,v,ds⟩
   .exact⟨H₀,kv,kd,ad2,qV,λ_ _ _ _ h=>h,λ_ _ _ _ _=>trivial⟩
   .exact⟨H₀,v::kv,.tup ds::kd,ad2,aFM,λ_ _ _ _ h=>h.drop,λ_ _ _ _ h=>h.kept.gh⟩
   .exact⟨H₀,v::kv,.lst ds::kd,ad2,aFM,λ_ _ _ _ h=>h.drop,λ_ _ _ _ h=>h.kept.lst_inv⟩
   .refine Ou vn λa ai g1 g2 g3 g4=>?_
    try clear vn
    subst ai;have s0:aGI\/H₀ a=some aEi:=by
     cases z:H₀ a with
     |none=>exact .inl rfl
     |some w=>have:=qV.same _ _ z;rw[g1]at this;cases this;exact .inr rfl
    have o0:=hx.o0;refine⟨_,.ref a::kv,.bx 0 ks ds::kd,rg s0,(qV.base g1).keep (.bx g1 g2 g3 g4),λ_ _ _ _ h=>h.drop.Ng s0 o0,λ_ _ H' _ h=>?_⟩;have e:=h.same _ _ (ag (H:=H₀) (a:=a));have r:=h.kept;cases r with
    |bx f1 f2 f3 f4=>
     rw[e]at f1;have f1':=HO.dF.inj (aaQ f1);rw[<-Il g2 f2 f1'.2]at f4;exact⟨a,rfl,e,g2,g3,f4⟩
  refine⟨λi m σ H=>aBi/\aDh/\∃ow ρ,awd/\a_ (λy ρ=>avA) aCS ρ=some out,⟨xs.length,rfl,abn _,ow,ρ,yK,hd⟩,?_⟩;rintro t m σ H ⟨rfl,hi,ow,ρ,hx,hd⟩;refine c6 (DX _ H (qC _ _ _ _ hx)) λgo Ci stop=>?_;by_cases aU:t<xs.length
  .refine .inr ⟨go t aU,λσ H=>∃ow ρ,awd/\a_ (λy ρ=>avA) (xs.drop (t+1)) ρ=some out,λbU H' h=>⟨xs.length-(t+1),as8,rfl,aU,h⟩,λx H3 hy=>?_⟩;obtain⟨s3,rx⟩:=Ci t x H3 xs[t] hy (by simp[aU]);rw[abH aU,a_]at hd;refine aa aa5 λo e2 hd=>aa (aks e2) λF7 e2 e3=>hS bJ ae Z Ku Kv ow σ H3 ρ F7 x xs[t] _ (hx.mono s3) rx e2 λjz bU yK=>⟨bJ,ae,Z,Ku,Kv,jz,F7,o,yK,e3,?_⟩;cases o with
   |next ρ'=>exact λow σ H h=>⟨ow,ρ',h,hd⟩
   |cont ρ'=>exact λow σ H h=>⟨ow,ρ',h,hd⟩
   |brk ρ'=>cases hd;exact λow σ H h=>k ow σ H (hk _ _ _ _ h)
   |ret d=>cases hd;exact λv H s r=>k v H (sm.trans s) r
  .have e:t=xs.length:=avg;subst e;rw[afj,a_]at hd;cases hd;exact .inl ⟨stop,k ow σ H (hk _ _ _ _ hx)⟩
def Ep(h:PS X st (atH g)):PS X st (tC X.K λρ=>g ap9):=
 h.weak λD' σ H zz=>by
  refine mW zz λH₀ ae Z kv kd ow ρ out hx hd k=>?_;have key:∃jz,SX X.K H₀ ae Z kv kd jz σ H ap9:=by
   have one:∀i:Nat,∃jz,SX X.K H₀ ae Z kv kd jz σ H (match ρ[i]? with
     |some (some (true,D.lst xs))=>ρ.set i (aku (false,D.lst xs))
     |_=>ρ):=λi=>by
    cases e:ρ[i]? with
    |none=>exact⟨ow,hx⟩
    |some o=>cases o with
     |none=>exact⟨ow,hx⟩
     |some t=>
      obtain⟨b,d⟩:=t;cases b with
      |false=>exact⟨ow,hx⟩
      |true=>cases d with
       |lst=>exact⟨_,hx.freeze e⟩
       |_=>exact⟨ow,hx⟩
   cases it with
   |it a=>cases a with
    |var i=>exact one i
    |_=>exact⟨ow,hx⟩
   |GI a=>cases a with
    |var i=>exact one i
    |_=>exact⟨ow,hx⟩
   |_=>exact⟨ow,hx⟩
  obtain⟨jz,h'⟩:=key;exact⟨H₀,ae,Z,kv,kd,jz,_,out,h',hd,k⟩
end
def Ip(h:wN ρ i=some d):ρ[i]?=some (aku (true,aEk))/\d.1≠2:=by
 unfold wN at h;refine slot (ρ:=ρ) (i:=i) (λe=>?_) (λe=>?_) λo d e=>?_<;>rw[e]at h
 .cases h
 .cases h
 cases o with
 |false=>cases h
 |true=>cases d with
  |bx t ks vs=>
   by_cases ht:t=2
   .exact nS ((aaB ht).symm.trans h)
   .cases (aaF ht).symm.trans h;exact⟨e,ht⟩
  |_=>cases h
def nu(h:gD ρ i=some xs):ρ[i]?=some (aku (true,ag8)):=by
 unfold gD at h;split at h
 .rename_i xs e;cases h;exact e
 .cases h
section
variable {K:ay}{H₀:Hp}{ae Z:Addr->Prop}{kv:ad5}{kd:ac1}{ow:Nat->Option Addr}{σ:St}{H H1:Hp}{ρ:Env}
def SX.RU(hx:aa9)(h:wN ρ i=some d):∃a vs,ajs/\σ[i]?=some aiz/\d.1≠2/\H a=some aGg/\aCw/\oG d.1 d.2.1/\aq K ae8 H vs d.2.2:=by
 obtain⟨e,h2⟩:=Ip h;have hp:nX aEk=false:=by show(d.1==2)=false;simp[h2]
 refine aa (hx.own i _ e) λa o2 o1=>?_;have o1:ajs:=o1.elim (λz=>z.2) λz=>by rw[hp]at z;exact nomatch z.1
 refine aa (axL e) λw q1 q2=>bH q2 λa' e6 e8 c=>?_;rw[o2]at q1;cases q1;cases e6;exact F_ (c.bx h2) λvs c1 c2 c3 c4=>⟨a,vs,o1,o2,h2,c1,c2,c3,c4⟩
def SX.Nm(hx:aa9)(h:gD ρ i=some xs):∃a vs,ajs/\σ[i]?=some aiz/\amM/\aq K ae8 H vs xs:=by
 have e:=nu h;refine aa (hx.own i _ e) λa o2 o1=>?_;have o1:ajs:=o1.elim (λz=>z.2) λz=>nomatch z.1;refine aa (axL e) λw q1 q2=>bH q2 λa' e6 e8 c=>?_;rw[o2]at q1;cases q1;cases e6;exact aa c.lst λvs c1 c2=>⟨a,vs,o1,o2,c1,c2⟩
end
def nv[DecidableEq κ](f:aa0->κ)(hl:ag4)(hf:∀k∈ks,f k=f x->k=x)(hx:x∉ks):fq aEr (f x) v=((ks++[x]).map f).zip anR:=by
 have e:((((ks.map f).zip vs).any λkv=>decide (kv.1=f x))=true)=False:=by
  rw[eq_iff_iff,iff_false,agj];rintro⟨p,hp,hq⟩;have h1:=(afu (show(p.1,p.2)∈_ from hp)).1;refine aa (akZ h1) λk k1 k2=>?_;have:=hf k k1 (by rw[k2];exact of_decide_eq_true hq);exact hx (this▸k1)
 unfold fq;rw[aaF (by rw[e];exact id),abd,List.zip_append (by rw[aap];exact hl)];rfl
section
variable {X:Cx}{c e ke:Expr}{st:Stmt}{aT:alh}{pos px o:Pos}{x:Str}{i j:Nat}{f fk:Env->Option D}
def Nn(hu:af1)(hi:X.N[i]?=some x)(hv:aiK)(En:aiC)(nT:ana)(hk:PE X ke (akr fk))(he:ag_)(hs:∀t,swapsWith e (aku t) pos.line X.env=pure false):
  PS X axm (tC X.K λρ=>(f ρ).bind λy=>(wN ρ i).bind λd=>((fk ρ).bind azQ).bind λx=>
   if d.2.1.length<bW/\x∉d.2.1 then some apM else none):=
 (yv ati aml hk he (hs _)).weak λD' σ H zz=>by
  refine mW zz λH₀ ae Z kv kd ow ρ out hx hd k=>aa aa5 λy e1 hd=>aa aa5 λd e2 hd=>aa aa5 λxx e3 hd=>aa (aks e3) λdk e4 e5=>?_;split at hd
  .rename_i hz;cases hd;refine⟨ae8,ρ,y,hx.ex,e1,λv H1 s1 r1=>?_⟩;refine Ul ((hx.mono s1).RU e2) λa vs o1 o2 o3 c1 c2 c3 c4=>?_;refine⟨ab_,o2,ae8,ρ,dk,(hx.mono s1).ex,e4,λw H2 s2 r2=>?_⟩;have F5:=(hx.mono s1).mono s2;have v_:=s2 _ _ c1;have aG:vs.length<sizeLine:=by rw[cB,<-c2];exact hz.1
   have Wr:aq X.K ae8 (L2.upd H2 a (gG d.1 azP anR)) anR (d.2.2++[y]):=((c4.mono s2).append (akA av4)).upd (ant ⟨i,o1⟩) v_ gR;have Ws:oG d.1 azP:=by
    refine⟨?_,λh0 q hq=>?_⟩
    .rw[abL];exact⟨c3.1,by simp,λa ha b hb e=>hz.2 (by rw[aar.mp hb]at e;exact e▸ha)⟩
    .rcases aaH.mp hq with hq|hq
     .exact c3.2 h0 q hq
     .rw[aar.mp hq];rcases iE r2.own e5 with⟨_,n,rfl,_⟩|⟨h1,_⟩
      .exact⟨n,rfl⟩
      .exact absurd h0 h1
   refine⟨a,_,rfl,?_,k ow _ _ (F5.Wn (d0:= .bx d.1 azP (d.2.2++[y])) o1 o2 v_ gR gR (by show(d.1==2)=false;simp[o3]) (ant (akN ⟨_,_,anR,_,rfl,ag,by simp[c2],Ws,Wr⟩)))⟩;rcases iE r2.own e5 with⟨h0,n,rfl,rfl⟩|⟨h0,b,rfl,hb⟩
   .refine .inl ⟨_,Sum.inl n,by rw[v_];unfold gG;rw[aaB h0],rfl,by rw[adz,aap,c2,aev];exact aG,?_⟩;unfold gG;rw[aaB h0,<-nv (λk:List Int=>(Sum.inl aim:cz)) c2 (λq hm e=>?_) hz.2]
    .rfl
    .obtain⟨j,rfl⟩:=c3.2 h0 q hm;have:j=n:=afY e;rw[this]
   .refine .inr ⟨_,azs,b,by rw[v_];unfold gG;rw[aaF h0],rfl,hb,by rw[adz,aap,c2,aev];exact aG,?_⟩;unfold gG;rw[aaF h0,<-nv (λk:List Int=>k.map (Sum.inl:Int->cz)) c2 (λq _ e=>nr e) hz.2]
  .cases hd
def vw{K:ay}(h:aa9)(s:asC)(hp:alM)(r:aqF)(h2:t≠2)(hl:ag4)(hk:aFT)(i:Nat):
  ∃jz,SX K H₀ ae Z kv kd jz aow (alm anY) (amO aoH):=by
 by_cases hi:i<ρ.length
 .exact⟨_,h.RJ (u:=gG t ks vs) s hp gR i hi (by show(t==2)=false;simp[h2]) (ant (akN ⟨t,ks,vs,ds,rfl,ag,hl,hk,oU hp r⟩))⟩
 .have e1:σ.set i aBI=σ:=adA (by rw[<-h.len];exact aaV hi);have e2:Py.put ρ i true aoH=ρ:=adA az4;rw[e1,e2];exact⟨ow,aEU⟩
def Np(hN:akh)(hi:X.N[i]?=some x)(hx:aiQ)(hf:aju):
  PS X (aov (.Dict [] [] dp)) (tC X.K λρ=>some ayx):=by
 refine(fZ hN hi hx C5 rfl azW).weak λD' σ H zz=>OY λnO=>mW zz λH₀ ae Z kv kd ow ρ out hx hd k=>nO ?_;cases hd;intro p hp;exact(vw (t:=1) (ks:=[]) (vs:=[]) (ds:=[]) hx ad2 hp .nil aa1 rfl ⟨adL,λ_ _ z=>nomatch z⟩ i).elim λjz h=>k jz _ _ h
def Iq{t:Nat}(hu:af1)(hN:akh)(hi:X.N[i]?=some x)(hx:aiQ)(hf:aju)(h0:t≠0)(hk:PE X ke (akr fk))(he:ag_):
  PS X (aov (awv [e])) (tC X.K λρ=>if t=2 then none else((fk ρ).bind λa=>(f ρ).bind λb=>(c_ t a).map λx=>D.bx t [x] [b]).map λd=> .next aDJ):=by
 refine(fZ hN hi hx (G6 ati hk he) rfl azW).weak λD' σ H zz=>mW zz λH₀ ae Z kv kd ow ρ out hx hd k=>?_;split at hd
 .cases hd
 .rename_i h2;refine aa ae4 λd F8 sq=>aa (aks F8) λda e1 F8=>aa (aks F8) λdb e2 F8=>aa (alk F8) λxx e3 F8=>?_;subst F8;subst sq;intro p hp;have Yv:=hx.ex.mono (ah.upd (o:= .dT []) hp);refine⟨ae8,ρ,da,Yv,e1,λv H1 s1 r1=>⟨ae8,ρ,db,Yv.mono s1,e2,λw H2 s2 r2=>?_⟩⟩;have CW:H2 p=some aw2:=s2 _ _ (s1 _ _ ag);rcases iE av4 e3 with⟨z,_⟩|⟨_,b,rfl,hb⟩
  .exact absurd z h0
  .refine⟨b,azs,rfl,hb,CW,?_⟩
   let H3:Hp:=λq=>if q=p then none else H2 q
   have k3:∀q,q≠p->H3 q=H2 q:=λq hq=>aaF hq;have e4:L2.upd H2 p (.dT [(azs,w)])=L2.upd H3 p (gG t [xx] [w]):=by
    funext q;unfold L2.upd;by_cases hq:q=p
    .rw[aaB hq,aaB hq];unfold gG;rw[aaF h0];rfl
    .rw[aaF hq,aaF hq,k3 q hq]
   have s3:ah H H3:=λq u hq=>by
    have Yw:q≠p:=λz=>by rw[z,hp]at hq;cases hq
    rw[k3 q Yw];exact s2 _ _ (s1 _ _ (by rw[ak Yw];exact hq))
   have rep3:bu X.K ae8 H3 w db:=iC (λq us hq=>by
     have Yx:H2 q=some amS:=hq;show H3 q=some amS;rw[k3 q (c7 Yx CW (by intro z;cases z))];exact Yx) (λq us hq nq=>⟨by
     rcases hq with hq|⟨ob,hq⟩
     .exact .inl (by rw[k3 q (c7 hq CW (by intro z;cases z))];exact hq)
     .exact .inr ⟨ob,by rw[k3 q (c7 hq CW (by intro z;cases z))];exact hq⟩,nq⟩) (λq ob u hq=>by rw[k3 q (c7 hq CW (by intro z;cases z))];exact hq) r2.own
   obtain⟨jz,h'⟩:=vw (t:=t) (ks:=[xx]) (ds:=[db]) hx s3 aDQ (akA rep3) h2 rfl ⟨by simp,λz=>absurd z h0⟩ i;rw[e4];exact k jz _ _ h'
def Er(h:mf ρ j=some xs):∃o,ρ[j]?=some (aku (o,ag8)):=by
 unfold mf at h;refine slot (ρ:=ρ) (i:=j) (λe=>?_) (λe=>?_) λo d e=>?_<;>rw[e]at h
 .cases h
 .cases h
 cases d with
 |lst=>cases h;exact⟨_,e⟩
 |_=>cases h
def popped{K:ay}(hx:aa9)(e1:gD ρ j=some l)(e2:l.getLast?=some z):
  ∃a vs v,σ[j]?=some aiz/\amM/\vs[vs.length-1]?=some v/\SX K H₀ ae Z kv kd ow σ aj5 (alF j)/\bu K ae8 aj5 v z:=by
 refine iq (hx.Nm e1) λa vs o1 o2 o3 o4=>?_;have ll:=o4.length;have GG:l[vs.length-1]?=some z:=by rw[ll,<-afK];exact e2
 refine aa (o4.get GG) λv g1 g2=>?_;have rd:aq K ae8 H vs.dropLast l.dropLast:=by
  rw[adY,adY,ll];exact o4.take _
 exact⟨a,vs,v,o2,o3,g1,hx.wr o1 o2 o3 rd,g2.upd (ant ⟨j,o1⟩) o3 trivial⟩
def Es(hv:PE X y (dn j))(hb:attributeBase y "pop" X.env (aky y)=eval y X.env)(hl:ap1):
  PE X (auX (.Attribute y "pop" ap)) (λσ H Q=>∃a vs v,σ[j]?=some aiz/\amM/\vs[vs.length-1]?=some v/\Q v aj5):=
 (LD acY PySem.F.slot_list_pop PySem.F.type_list_pop LJ hv hb hl).weak λσ H Q ⟨a,vs,v,h1,h2,h3,q⟩=>⟨ab_,h1,.inl ⟨rfl,vs,cK.of h2⟩,a,vs,v,rfl,rfl,h2,h3,q⟩
def RV(hN:akh)(hi:X.N[i]?=some x)(hx:aiQ)(hf:aju){y:Expr}(hv:PE X y (dn j))(hb:attributeBase y "pop" X.env (aky y)=eval y X.env)(hl:ap1):
  PS X (aov (auX (.Attribute y "pop" ap))) (tC X.K λρ=>(gD ρ j).bind λl=>(l.getLast?).map λz=> .next azA):=
 (fZ hN hi hx (Es hv hb hl) rfl azW).weak λD' σ H zz=>by
  refine mW zz λH₀ ae Z kv kd ow ρ out hx hd k=>aa aa5 λl e1 hd=>aa ae4 λz e2 ai=>?_;subst ai;exact vY (popped hx e1 e2) λa vs v h1 h2 h3 h4 h5=>⟨a,vs,v,h1,h2,h3,k _ _ _ (h4.put h5 i)⟩
def RW(hi:X.N[i]?=some x)(hv:aiK)(En:aiC)(nT:ana)(hl:ap1)(he:ag_)(hn:ayt):
  PS X (aHi (aAw (.Attribute ah6 "extend" ap))) (tC X.K λρ=>(f ρ).bind λd=>match d with
   | .lst zs=>(gD ρ i).bind λws=>if ws.length+zs.length<=bW then some aiW else none
   |_=>none):=
 (iu (ym acY afV afW Dw aml aFi rfl (by rw[bM hn];rfl) hl (bM hn) rfl) rfl).weak λD' σ H zz=>by
  refine mW zz λH₀ ae Z kv kd ow ρ out hx hd k=>aa aa5 λd e1 hd=>?_;cases d with
  |lst zs=>
   refine aa aa5 λws e2 hd=>?_;split at hd
   .rename_i hz;cases hd;refine iq (hx.Nm e2) λa vs o1 o2 o3 o4=>⟨ab_,o2,.inl ⟨rfl,vs,cK.of o3⟩,ae8,ρ,.lst zs,hx.ex,e1,λv H1 s1 r1=>?_⟩;have qV:=hx.mono s1;have RX:=s1 _ _ o3;refine ba r1.lst λb us ai h1 h2=>?_;subst ai;refine⟨a,b,vs,us,rfl,rfl,RX,h1,?_,?_⟩
    .rw[cB,o4.length,h2.length];exact hz
    .exact k ow _ _ (qV.wr o1 o2 RX ((o4.mono s1).append h2))
   .cases hd
  |_=>cases hd
def RY(hN:akh)(hi:X.N[i]?=some x)(hx:aiQ)(hf:aju)(hv:PE X als (dn j)):PS X (aov als) (tC X.K λρ=>(gD ρ j).map λxs=> .next apX):=
 (fZ hN hi hx hv rfl azW).weak λD' σ H zz=>by
  refine mW zz λH₀ ae Z kv kd ow ρ out hx hd k=>aa ae4 λxs e1 ai=>?_;subst ai;have h':=hx.freeze (nu e1);obtain⟨v,q1,q2⟩:=h'.ex.kO j false ag8 (by
   have hl:aF7:=(aax.mp (nu e1)).1;exact aaR hl)
  exact⟨v,q1,k _ _ _ (h'.put (show bu X.K _ H v ag8 from q2) i)⟩
theorem Et{K:ay}:∀{ps:ac1}{kvs:auC}{us:ad5},n8 ps=some kvs->aq K O H us ps->∃rs:ad5,us.length=kvs.length/\aEK/\aq K O H rs (kvs.map (·.2))/\∀(j:Nat) z p,us[j]?=some z->((kvs.map λq=>q.1.map Sum.inl).zip rs)[j]?=some p->PR H z p
 |[],kvs,_,h,.nil =>by cases h;exact⟨[],rfl,rfl,.nil,λj z p h=>nomatch h⟩
 |d::ps,kvs,_,h,.cons (vs:=us) (v:=u) r t=>by
  cases d with
  |tup l=>
   match l,h,r with
   |[.tup xs,v],h,r=>
    obtain⟨k,h1,h⟩:=bind_some h;obtain⟨kr,h2,rfl⟩:=map_some h;obtain⟨rs,a1,a2,a3,a4⟩:=Et h2 t;obtain⟨a,vs,rfl,g1,g2⟩:=r.gh
    match vs,g2 with
    |[_,w],.cons q1 (.cons q2 .nil)=>
     obtain⟨b,ws,rfl,q3,q4⟩:=q1.gh;rw[g_ h1]at q4;have e:=lO q4;subst e;refine⟨w::rs,by simp[a1],by simp[a2],.cons q2 a3,λj z p e1 e2=>?_⟩;cases j with
     |zero=>cases e1;cases e2;exact⟨a,b,rfl,g1,by rw[abc];exact q3⟩
     |succ j=>exact a4 j z p e1 e2
  |_=>cases h
theorem zx:∀{kvs:auC}{rs:ad5}{ks:ab3}{vs:ad5},(ks++kvs.map (·.1)).Nodup ->ag4->aEK->
  ((kvs.map λq=>q.1.map (Sum.inl:Int->cz)).zip rs).foldl (λm p=>awE) ((ks.map λk=>aBm).zip vs)=((ks++kvs.map (·.1)).map λk=>aBm).zip (vs++rs)
 |[],[],ks,vs,_,_,_=>by simp
 |q::kvs,r::rs,ks,vs,hn,hl,h=>by
  have e:ks++(q::kvs).map (·.1)=(ks++[q.1])++kvs.map (·.1):=by simp
  rw[e]at hn⊢;have hx:q.1∉ks:=λz=>by
   rw[aaZ,abL]at hn;exact hn.2.2 _ z _ (axN aj3) rfl
  show List.foldl _ (fq _ (q.1.map Sum.inl) r) _=_;rw[nv (λk:List Int=>k.map (Sum.inl:Int->cz)) hl (λq _ e=>nr e) hx];exact(zx hn (by simp[hl]) (agC h)).trans ab1
def RZ(hu:af1)(hc:af6)(hi:X.N[i]?=some x)(hv:aiK)(En:aiC)(nT:ana)(hl:ap1)(he:ag_)(hn:ayt):
  PS X (aHi (aAw (.Attribute ah6 "update" ap))) (tC X.K λρ=>((f ρ).bind eX).bind λps=>(wN ρ i).bind λq=>(n8 ps).bind λkvs=>if q.1=1/\(q.2.1++kvs.map (·.1)).Nodup /\q.2.1.length+kvs.length<=bW then some (akC (akR (.bx 1 (q.2.1++kvs.map (·.1)) (q.2.2++kvs.map (·.2))))) else none):=
 (iu (Mw hu hc aml he ⟨rfl,by rw[bM hn];rfl,hl,by rw[bM hn];rfl⟩) rfl).weak λD' σ H zz=>by
  refine mW zz λH₀ ae Z kv kd ow ρ out hx hd k=>aa aa5 λps e1 hd=>aa aa5 λd e2 hd=>aa aa5 λkvs e3 hd=>aa (aks e1) λy e4 e5=>?_;split at hd
  .rename_i hz;cases hd;cases y with
   |lst ys=>
    cases e5;obtain⟨h1,Ig,Wt⟩:=hz;refine Ul (hx.RU e2) λa vs o1 o2 o3 c1 c2 c3 c4=>?_;rw[h1]at c1 c3;refine⟨ab_,o2,a,rfl,.inr ⟨_,.inl c1⟩,ae8,ρ,.lst ps,hx.ex,e4,λv H1 s1 r1=>?_⟩;obtain⟨b,us,rfl,g1,g2⟩:=r1.lst;obtain⟨rs,a1,a2,a3,a4⟩:=Et e3 g2;have v_:=s1 _ _ c1;have qV:=hx.mono s1;have lz:((d.2.1.map λk:List Int=>k.map (Sum.inl:Int->cz)).zip vs).length =d.2.1.length:=by rw[adz,aap,c2,aev]
    have lp:((kvs.map λq=>q.1.map (Sum.inl:Int->cz)).zip rs).length =kvs.length:=by rw[adz,aap,a2,aev]
    refine⟨a,b,us,_,_,rfl,rfl,v_,g1,a1.trans lp.symm,a4,by rw[lz,lp,cB];exact Wt,?_⟩;rw[zx Ig c2 a2];refine k ow _ (L2.upd H1 a (gG 1 (d.2.1++kvs.map (·.1)) (vs++rs))) (qV.Wn (d0:= .bx 1 (d.2.1++kvs.map (·.1)) (d.2.2++kvs.map (·.2))) o1 o2 v_ gR gR rfl (.inr (.inl ⟨1,_,vs++rs,_,rfl,ag,by simp[c2,a2],⟨Ig,λz=>nomatch z⟩,?_⟩)));exact((c4.mono s1).append a3).upd (ant ⟨i,o1⟩) v_ gR
   |_=>cases e5
  .cases hd
end
section
variable {K:ay}{O O':Addr->Prop}{H H' H1 H2 H3:Hp}{a b:Addr}{as:ae_}{T:ac1}
def jr(H H':Hp):Prop:=∀b us,H b=some amS->H' b=some amS
def jr.trans(h1:jr H H1)(h2:jr H1 H2):jr H H2:=λb us e=>h2 b us (h1 b us e)
def rj(s:aiX):aF6:=λb us e=>s _ _ e
def hJ(e:al1)(hu:tW u):jr H aDF:=λb us h=>by
 rw[ak (c7 h e (by intro z;rw[<-z]at hu;exact hu))];exact h
def eE(ht:aF6)(h:ajj):asE->aqc:=
 bu.rec (motive_1:=λv d _=>asE->aqc) (motive_2:=λvs ds _=>aY ds=true->arM) (λ_=> .cq) (λb _=> .bl b) (λi _=> ahH)
  (λh _ ih n=> .tup aF_ (ih (by simpa[aF]using n))) (λ_ _ _ _ n=>absurd n (by simp[aF])) (λ_ _ _ n=>absurd n (by simp[aF])) (λ_ _ _ _ _ n=>absurd n (by simp[aF])) (λ_=> .nil)
  (λ_ _ i1 i2 n=>by
   simp only[aY,aak]at n;exact .cons (i1 n.1) (i2 n.2)) h
theorem fP(ht:aF6):∀{vs:ad5}{ds:ac1},ac5->aY ds=true->aq K O' H' vs ds
 |_,_,.nil,_=> .nil
 |_,_,.cons r t,n=>by
  simp only[aY,aak]at n;exact .cons (eE ht r n.1) (fP ht t n.2)
theorem i6:∀{xs ys:ac1},aY azt=(aY xs&&aY ys)
 |[],ys=>by simp[aY]
 |x::xs,ys=>by simp[aY,i6 (xs:=xs),Bool.and_assoc]
def oX(K:ay)(H:Hp)(b:Addr)(d:D):Prop:=∃ks vs xs,d= .bx 0 ks xs/\H b=some arZ/\ag4/\oG 0 ks/\aY xs=true/\aq K (λ_=>False) H vs xs
def oX.keep(h:oX K H b d)(ht:aF6)(e:H' b=H b):oX K H' b d:=by
 exact Ov h λks vs xs h1 h2 h3 h4 h5 h6=>⟨ks,vs,xs,h1,by rw[e];exact h2,h3,h4,h5,fP ht h6 h5⟩
def lQ:∀{l:ahB}{m:apt},asF->(∀x y,x∈l->R x y->R' x y)->Paired R' l m:=λ{l m} h=>by
 induction h with
 |nil=>exact λ_=> .nil
 |cons r t ih=>exact λk=> .cons (k _ _ aaq r) (ih λx y hx=>k x y (akQ hx))
def Ir:∀{l:ahB}{m:apt}{i:Nat}{y:β},asF->m[i]?=some y->∃x,l[i]?=some x/\R x y:=λ{l m i y} h=>by
 induction h generalizing i with
 |nil=>intro e;simp at e
 |cons r t ih=>
  intro e;cases i with
  |zero=>simp at e;subst e;exact⟨_,rfl,r⟩
  |succ i=>exact aa (ih (i:=i) (by simpa using e)) λx h1 h2=>⟨x,by simpa using h1,h2⟩
def Bl{α β:Type}{R:α->β->Prop}{x:α}{y:β}(h:R x y):∀{l:ahB}{m:apt},asF->Paired R (l++[x]) (m++[y]):=λ{l m} p=>by
 induction p with
 |nil=>exact .cons h .nil
 |cons r t ih=>exact .cons r ih
def ky:∀{l:ahB}{m:apt},asF->x∈l->∃y,R x y:=λ{l m} p=>by
 induction p with
 |nil=>exact λh=>nomatch h
 |cons r t ih=>exact λh=>(aat.mp h).elim (λe=>by subst e;exact⟨_,r⟩) ih
structure tY(K:ay)(H:Hp)(a:Addr)(as:ae_)(T:ac1):Prop where
 lst:H a=some aBG
 bx:Paired (oX K H) as T
 nd:(a::as).Nodup
theorem tY.keep(h:aoO)(ht:aF6)(e:∀b,ave->H' b=H b):azu:=
 ⟨by rw[e a aaq];exact h.lst,lQ h.bx λb d hb hd=>hd.keep ht (e b aqJ),h.nd⟩
def tY.there(h:aoO):∀b,ave->∃u,apd/\tW u:=λb hb=>by
 rcases aat.mp hb with e|hb
 .subst e;exact⟨_,h.lst,trivial⟩
 .exact KY aBl λd ks vs xs _ h2 _=>⟨_,h2,gR⟩
def tY.mut(h:aoO):∀b,b∈as->ou H b:=λb hb=>by
 exact KY aBl λd ks vs xs _ h2 _=>⟨_,h2,HY⟩
def tY.zy(h:aoO)(s:aiX):azu:=
 h.keep (rj s) λb hb=>by
  refine aa (h.there b hb) λu e _=>?_;rw[e];exact s _ _ e
def vx(f:arq):jr H1 H2:=λb us e=>by
 rw[f.out b λhb=>?_]
 .exact e
 .refine ba (f.at_ b hb) λo u e1 mu _=>?_;rw[e]at e1;cases e1;exact mu
def tY.rep(h:tY K H1 a as T)(f:arq):bu K O H2 ab_ (akx T)\/O a:=by
 by_cases ho:O a
 .exact .inr ho
 .refine .inl (.lst (.inl (by rw[f.out a (abo.mp h.nd).1];exact h.lst)) ho ?_);have all:∀{bs:ae_}{S:ac1},(∀b∈bs,b∈as)->Paired (oX K H1) bs S->aq K O H2 (bs.map V.ref) S:=by
   intro bs S hs p;induction p with
   |nil=>exact .nil
   |@cons b d bs S hd _ ih=>
    refine Ov hd λks vs xs ai h2 h3 h4 h5 h6=>?_
    try clear hd
    subst ai;refine ba (f.at_ b (hs b aaq)) λo u e1 mu e2=>?_;rw[h2]at e1;cases e1;exact .cons (.bx e2 h3 h4 (fP (vx f) h6 h5)) (ih λc hc=>hs c (akQ hc))
  exact all (λb hb=>hb) h.bx
def Bm(f:arq)(s:ah H2 H3):aq6/\ah H1 alH/\jr H3 alH:=by
 have c:aq6:=λb hb=>by
  exact ba (f.at_ b hb) λo u e1 mu e2=>⟨o,u,e1,mu,s _ _ e2⟩
 refine⟨c,λb u e=>?_,λb us e=>?_⟩
 .by_cases hb:b∈as
  .rw[ka hb];exact e
  .rw[bT hb];exact s _ _ (by rw[f.out b hb];exact e)
 .rw[bT λhb=>?_]
  .exact e
  .refine ba (c b hb) λo u _ _ e2=>?_;rw[e]at e2;cases e2
def Eu(c:aq6)(hd:∀b∈as,∀zs,H1 b≠some (akx zs))(h:cK K H3 p us):cK K alH p us:=by
 rcases h with h|h
 .refine .inl ?_;have hp:p∉as:=λhb=>by
   refine ba (c p hb) λo u e1 mu e2=>?_;rcases h with h|⟨o',h⟩
   .rw[h]at e2;cases e2
   .rw[h]at e2;cases e2;exact hd p hb us e1
  rcases h with h|⟨o',h⟩
  .exact .inl (by rw[bT hp];exact h)
  .exact .inr ⟨o',by rw[bT hp];exact h⟩
 .exact .inr h
def Nq:∀us,gG t ks vs≠ .lst us:=by
 intro us h;unfold gG at h;split at h<;>cases h
def tY.R1(h:aoO):∀b∈as,∀zs,H b≠some (akx zs):=λb hb zs e=>by
 refine KY aBl λd ks vs xs _ h2 _=>?_;rw[h2]at e;exact Nq _ (aaQ e)
end
section
variable {K:ay}{H₀ bJ:Hp}{ae Z:Addr->Prop}{kv:ad5}{kd:ac1}{ow:Nat->Option Addr}{σ:St}{H H1 H':Hp}{ρ:Env}{a b:Addr}{as:ae_}{T:ac1}{x y:Nat}
def OT(ae:Addr->Prop)(a:Addr)(as:ae_):Addr->Prop:=λb=>ae b\/b∈a::as
def bu.Bn{l:ae_}(h:aqb)(hp:∀p∈l,aj_):bu K (λb=>awf\/b∈l) H v d:=
 iC (λ_ _ h=>h) (λb us h n=>⟨h,λz=>z.elim n λe=>ni (hp b e) h⟩) (λ_ _ _ h=>h) h
def aq.Bn{l:ae_}(h:aq K ae8 H v d)(hp:∀p∈l,aj_):aq K (λb=>awf\/b∈l) H v d:=
 fI (λ_ _ h=>h) (λb us h n=>⟨h,λz=>z.elim n λe=>ni (hp b e) h⟩) (λ_ _ _ h=>h) h
theorem eO.Bn{l:ae_}(h:eO K ae8 H b d)(hp:∀p∈l,aj_):eO K (λb=>awf\/b∈l) H b d:=by
 rcases h with⟨vs,ds,e1,e2,e3⟩|⟨t,ks,vs,ds,e1,e2,e3,e4,e5⟩|⟨e1,u',e2,e3⟩
 .exact .inl ⟨vs,ds,e1,e2,e3.Bn hp⟩
 .exact .inr (akN ⟨t,ks,vs,ds,e1,e2,e3,e4,e5.Bn hp⟩)
 .exact .inr aqG
noncomputable def oY(a:Addr)(as:ae_)(H₀ H:Hp):Hp:=gF (a::as) H H₀
def Wu:∀b,Os avU (rf ow x none) b->awf\/ave:=λb z=>by
 rcases z with (z|z)|⟨j,z⟩
 .exact .inl aDL
 .exact .inr z
 .by_cases hj:j=x
  .rw[hj,aL]at z;cases z
  .rw[aP hj]at z;exact .inl ar2
def SX.tab(h:aa9)(s:aiX)(t:azu)(hn:∀b∈a::as,ajQ)(nt:uA ρ=true)(hx:aFA):
  ah H₀ au4/\SX K au4 avU (λb=>b=a) [] [] (rf ow x none) (σ.set x aiz) H' (Py.put ρ x true wO):=by
 have h0n:∀b∈a::as,auD:=λb hb=>by
  cases z:H₀ b with
  |none=>rfl
  |some w=>have:=h.same _ _ z;rw[hn b hb]at this;cases this
 have sb:ah H₀ au4:=λb u e=>by
  unfold oY;rw[bT λhb=>by rw[h0n b hb]at e;cases e];exact e
 have Kw:∀(j:Nat) (o:Bool) (d:D),ρ[j]?=some axq->nX d=false:=λj o d e=>by
  unfold uA at nt;have:=abZ.mp nt _ (abb e);simpa using this
 refine⟨sb,⟨⟨λb hb=>?_,λj o d' hj=>?_⟩,λj d' hj=>?_,λj k b hj hk=>?_,λj b hj=>?_,λb u e=>?_,.nil,λb hb=>?_,by unfold Py.put;rw[abO,abO];exact h.len⟩⟩
 .rcases Wu b hb with z|z
  .exact aa (avD z) λu e q=>⟨u,s _ _ e,q⟩
  .exact t.there b z
 .by_cases eZ:j=x
  .subst eZ;unfold Py.put at hj;rw[aaR hx]at hj;cases hj;exact aa (t.there a aaq) λu e q=>⟨ab_,aaR (by rw[<-h.len];exact hx),a,rfl,.inl (ant aaq),.inr (ant ⟨rfl,u,e,q⟩)⟩
  .unfold Py.put at hj;rw[aaT alp]at hj;refine aa amn λw h1 h2=>⟨w,by rw[aaT alp];exact h1,?_⟩;cases o with
   |true=>
    refine bH h2 λb e1 e2 c=>aa aiU λb' o2 o1=>?_;rw[h1]at o2;cases o2;cases e1;refine⟨b,rfl,o1.elim (λo1=> .inr ⟨j,by rw[aP eZ];exact o1.2⟩) (λo1=> .inl (akN o1.2.2)),((c.Bn hn).mono s).weak Wu⟩
   |false=>exact((bu.Bn h2 hn).mono s).weak Wu
 .by_cases eZ:j=x
  .subst eZ;unfold Py.put at hj;rw[aaR hx]at hj;cases hj;exact⟨a,aaR (by rw[<-h.len];exact hx),.inr ⟨rfl,rfl,.inr aaq⟩⟩
  .unfold Py.put at hj;rw[aaT alp]at hj;refine aa aiU λb o2 o1=>⟨b,by rw[aaT alp];exact o2,.inl ⟨Kw j true d' hj,?_⟩⟩;rw[aP eZ];exact o1.elim (λo1=>o1.2) λo1=>by rw[Kw j true d' hj]at o1;exact nomatch o1.1
 .by_cases h1:j=x
  .rw[h1,aL]at hj;cases hj
  .by_cases h2:k=x
   .rw[h2,aL]at hk;cases hk
   .rw[aP h1]at hj;rw[aP h2]at hk;exact h.inj j k b hj hk
 .by_cases h1:j=x
  .rw[h1,aL]at hj;cases hj
  .rw[aP h1]at hj;refine aa (avD (ant ⟨j,hj⟩)) λu e _=>?_;unfold oY;rw[bT λhb=>by rw[hn b hb]at e;cases e];exact h.new j b hj
 .unfold oY at e;by_cases hb:b∈a::as
  .rw[ka hb]at e;exact e
  .rw[bT hb]at e;exact s _ _ (h.same _ _ e)
 .unfold oY;by_cases jd:b∈a::as
  .exact aa (t.there b jd) λu e _=>⟨u,by rw[ka jd];exact e⟩
  .rw[bT jd];exact h.o0 b (hb.resolve_right jd)
noncomputable def i7(bJ H:Hp):Hp:=λb=>match H b with
 |some (.tup us)=>some amS
 |_=>bJ b
def iF(e:H b=some amS):i7 bJ H b=some amS:=by unfold i7;rw[e]
def fQ(e:∀us,H b≠some amS):i7 bJ H b=bJ b:=by
 unfold i7;split
 .rename_i us z;exact absurd z (e us)
 .rfl
theorem SX.i7(h:SX K bJ ae Z kv kd ow σ H ρ):SX K (i7 bJ H) ae Z kv kd ow σ H ρ:=by
 refine⟨h.ex,h.own,h.inj,λi b hb=>?_,λb u e=>?_,h.kp,λb hb=>?_,h.len⟩
 .refine aa avO λu e q=>?_;rw[fQ λus z=>by rw[e]at z;cases z;exact q];exact h.new i b hb
 .by_cases hb:∃us,H b=some amS
  .obtain⟨us,z⟩:=hb;rw[iF z]at e;cases e;exact z
  .rw[fQ λus z=>hb ⟨us,z⟩]at e;exact h.same _ _ e
 .by_cases jd:∃us,H b=some amS
  .obtain⟨us,z⟩:=jd;exact⟨_,iF z⟩
  .rw[fQ λus z=>jd ⟨us,z⟩];exact h.o0 b hb
def LS(K:ay)(H₀:Hp)(ae:Addr->Prop)(a:Addr)(as:ae_)(T:ac1)(σ:St)(H:Hp)(ρ:Env):Prop:=
 ∃bJ ow,ah H₀ bJ/\SX K bJ avU (λb=>b=a) [] [] ow σ H ρ/\(∀b,ave->bJ b=H b)/\tY K H a as T
def SX.vy(hx:SX K bJ avU (λb=>b=a) [] [] ow σ H ρ)(t:aoO)(s:aiX)(e:∀b,ave->bJ b=H b):∀b,ave->bJ b=H' b:=λb hb=>by
 refine aa (t.there b hb) λu eu _=>?_;rw[e b hb,eu];exact(s _ _ eu).symm
theorem LS.mono(h:af2)(s:aiX):LS K H₀ ae a as T σ H' ρ:=by
 exact iq h λbJ ow h1 h2 h3 h4=>⟨bJ,ow,h1,h2.mono s,h2.vy h4 s h3,h4.zy s⟩
def LS.run(h:af2)(e:f ρ=some ar4)(k:∀bU H',LS K H₀ ae a as T bU H' ρ'->D'.nx bU H'):tC K f D' σ H:=by
 refine iq h λbJ ow h1 h2 h3 h4=>⟨i7 bJ H,_,_,[],[],ow,ρ,.next ρ',h2.i7,e,λjz bU H' hx=>k bU H' ⟨_,jz,λb u eb=>?_,hx,λb hb=>?_,?_⟩⟩
 .have:=h1 _ _ eb;by_cases hb:∃us,H b=some amS
  .obtain⟨us,z⟩:=hb;rw[iF z,<-z];exact h2.same _ _ this
  .rw[fQ λus z=>hb ⟨us,z⟩];exact this
 .refine aa (h4.there b hb) λu eu q=>?_;have e1:i7 bJ H b=some u:=by
   rw[fQ λus z=>by rw[eu]at z;cases z;exact q,h3 b hb];exact eu
  rw[e1];exact(hx.same _ _ e1).symm
 .refine h4.keep (λb us z=>hx.same _ _ (iF z)) λb hb=>aa (h4.there b hb) λu eu q=>?_;have e1:i7 bJ H b=some u:=by
   rw[fQ λus z=>by rw[eu]at z;cases z;exact q,h3 b hb];exact eu
  rw[eu];exact hx.same _ _ e1
def Iu(h:apZ):ρ[x]?=some (aku (true,wO)):=by
 unfold jU at h;refine slot (ρ:=ρ) (i:=x) (λe=>?_) (λe=>?_) λo d e=>?_<;>rw[e]at h
 .cases h
 .cases h
 cases o with
 |false=>cases h
 |true=>cases d with
  |bx t ks vs=>cases ks with
   |nil=>cases vs with
    |nil=>cases eq_of_beq h;exact e
    |cons=>cases h
   |cons=>cases h
  |_=>cases h
def LS.at(h:af2)(ht:apZ):σ[x]?=some aiz:=by
 refine iq h λbJ ow _ h2 _ _=>aa (h2.own x _ (Iu ht)) λb o2 o1=>?_;rcases o1 with o1|o1
 .exact nomatch o1.1
 .rw[o2,o1.2.1]
theorem LS.lst(h:af2)(e:atN):∃b vs,σ[y]?=some (aku ajV)/\cK K H b vs/\vs.length=l.length:=by
 refine iq h λbJ ow _ h2 _ _=>?_;obtain⟨o,e2⟩:=Er e;refine aa (h2.ex.kO y o _ e2) λu q1 q2=>?_;cases o with
 |true=>
  refine bH q2 λb f1 f2 c=>aa c.lst λvs c1 c2=>?_;subst f1;exact⟨b,vs,q1,cK.of c1,c2.length⟩
 |false=>
  refine ba (bu.lst_inv q2) λb vs f1 f2 f3=>?_;subst f1;exact⟨b,vs,q1,f2,f3.length⟩
def Bo(e:azL):atN:=by
 have:=nu e;unfold mf;rw[this]
end
def R3(h:c_ 0 d=some k):∃i,d= .int i/\k=[i]:=by
 cases d with
 |int i=>cases h;exact⟨i,rfl,rfl⟩
 |tup xs=>cases h
 |_=>cases h
def Bp{K:ay}(hx:aiB)(e1:fi ρ=some xs)(hz:am3)(hd:walk av2 xs=some T)
  (q:∀p as H',aiX->tY K H' p as T->(∀b∈p::as,ajQ)->Q ahG H'):qA 1 fr (aCN K) (cI 0) (tB K λ_=>au2) (u5 (ary fk) (ary fv)) σ H Q:=by
 refine⟨O,ρ,xs,hx,e1,λJ iz H1 s1 DX vn p hp=>?_⟩;have qV:=hx.mono s1;have MY:fM K (λa=>O a\/a=p) H1 iz:=vn.ok.own hp;refine⟨λi m H'=>aBi/\aDh/\ah H1 H'/\∃as S aT,H' p=some aBG/\Paired (oX K H') as S/\(p::as).Nodup /\(∀b∈as,H1 b=none)/\as.length=i/\walk av2 aCS=some aT/\T=S++aT,
  ⟨xs.length,rfl,abn _,ah8,[],[],T,ag,.nil,by simp,λ_ z=>(nomatch z),rfl,hd,rfl⟩,?_⟩
 rintro i mm H2 ⟨rfl,hi,s2,as,S,aT,ep,pd,nd,hn,hl,hw,ho⟩;refine c6 aA6 λgo Ci stop=>?_;by_cases aU:i<xs.length
 .refine .inr ⟨go i aU,λx H3 hy=>?_⟩;have Wh:xs[i]?=some xs[i]:=by simp[aU]
  obtain⟨s3,rx⟩:=Ci i x H3 _ hy Wh;have RD:H3 p=some aBG:=s3 _ _ ep;have Wi:EX K (λa=>O a\/a=p) σ H3 ρ:=qV.ext hp aua RD;have dr:xs.drop i=xs[i]::xs.drop (i+1):=(abH aU);rw[dr,walk]at hw;show tB K (λ_=>au2) ((List.replicate 1 none++jQ fr σ).set 0 (aku x)) H3 _;have eσ:(List.replicate 1 none++jQ fr σ).set 0 (aku x)=some x::jQ fr σ:=rfl;rw[eσ];have RE:=Wi.inner (akA rx) fr;refine⟨_,_,true,RE,rfl,λH4 s4=>jP λKx TR=>?_⟩;cases en:uB fk fv fr ρ xs[i]with
  |none=>rw[en]at hw;cases hw
  |some o=>
  have Ky:=en;unfold uB at Ky;refine aa (aks Ky) λkk g0 Ky=>aa (aks g0) λdk g1 g2=>aa (aks Ky) λd g3 Ky=>?_;split at Ky
  .rename_i yh;cases Ky;rw[en]at hw;refine aa (alk hw) λDY zh MZ=>aa (R3 g2) λki ai aK=>?_;subst ai;subst aK;have Yy:=(RE.mono s4).mono (ah.upd (o:= .dK []) TR);refine⟨_,_,_,Yy,g1,λkv H5 s5 r5=>⟨_,_,d,Yy.mono s5,g3,λv H6 s6 r6=>?_⟩⟩;have Nr:H6 Kx=some aAl:=s6 _ _ (s5 _ _ ag);have TU:ah H4 H6:=((ah.upd (o:= .dK []) TR).trans s5).trans s6;have Wv:H6 p=some aBG:=TU _ _ (s4 _ _ RD);have TV:p≠Kx:=c7 Wv Nr (by intro z;cases z);have s26:ah H2 H6:=(s3.trans s4).trans TU;have Nt:∀b u,H4 b=some u->b≠Kx:=λb u e z=>by rw[z,TR]at e;cases e
   refine⟨ki,r5.int,Nr,an_,ax_,by rw[ak TV];exact Wv,by rw[aap,hl,cB];exact aaj aU hz,as8,rfl,aU,λbb oo eb=>?_,as++[Kx],S++[.bx 0 [[ki]] [d]],DY,?_,?_,?_,?_,?_,zh,?_⟩
   .have e4:H4 bb=some oo:=s4 _ _ (s3 _ _ (s2 _ _ eb));rw[ak (bZ eb hp),ak (Nt _ _ e4)];exact TU _ _ e4
   .rw[abd];exact ag
   .have t6:jr H6 ak9:=(hJ (o:= .dK [(aGx,v)]) Nr trivial).trans (hJ (u:= .lst an_) (by rw[ak TV];exact Wv) trivial);have old:Paired (oX K ak9) as S:=lQ pd λb dd hb F8=>F8.keep ((rj s26).trans t6) (by
     refine cx F8 λks vs ys _ h2 _=>?_;have e4:H4 b=some arZ:=s4 _ _ (s3 _ _ h2);have hbp:b≠p:=λz=>by rw[abo]at nd;exact nd.1 (z▸hb)
     rw[ak hbp,ak (Nt _ _ e4),h2];exact TU _ _ e4)
    refine Bl ⟨[[ki]],[v],[d],rfl,?_,rfl,⟨by simp,λ_ k hk=>⟨ki,by simpa using hk⟩⟩,by simp[aY,yh],.cons (eE t6 r6.own yh) .nil⟩ old;rw[ak (abF TV),ag,kn];rfl
   .rw[<-List.cons_append,abL];refine⟨nd,by simp,λb hb c hc e=>?_⟩;rw[aar]at hc;rw[e,hc]at hb;rcases aat.mp hb with z|z
    .exact TV z.symm
    .exact KY (ky pd z) λdd ks vs ys _ h2 _=>Nt _ _ (s4 _ _ (s3 _ _ h2)) rfl
   .intro b hb;rcases aaH.mp hb with hb|hb
    .exact hn b hb
    .rw[aar]at hb;subst hb;cases z:H1 b with
     |none=>rfl
     |some w=>have:=s4 _ _ (s3 _ _ (s2 _ _ z));rw[TR]at this;cases this
   .rw[aau,abw,hl]
   .rw[ho,<-MZ,aaZ];rfl
  .cases Ky
 .have ei:i=xs.length:=avg;subst ei;refine .inl ⟨stop,?_⟩;rw[afj,walk]at hw;cases hw;rw[abm]at ho;subst ho;refine q p as H2 ag0 ⟨ep,pd,nd⟩ λb hb=>?_;have h1:H1 b=none:=(aat.mp hb).elim (λz=>z▸hp) (hn b);cases z:H b with
  |none=>rfl
  |some w=>have:=s1 _ _ z;rw[h1]at this;cases this
section
variable {K:ay}{H₀ bJ:Hp}{ae Iv Z:Addr->Prop}{kv:ad5}{kd:ac1}{ow:Nat->Option Addr}{σ:St}{H H1 H':Hp}{ρ:Env}{a b:Addr}{as:ae_}{T:ac1}{x y r:Nat}{u u':HO}
def Ew{α β:Type}{R R':α->β->Prop}{x:α}{y':β}(hy:R' x y'):∀{l:ahB}{m:apt}{q:Nat},asF->aBk->l[q]?=some x->(∀z y,z∈l->z≠x->R z y->R' z y)->Paired R' l (m.set q y'):=λ{l m q} p=>by
 induction p generalizing q with
 |nil=>intro _ e;simp at e
 |cons r t ih=>
  intro nd e k;rw[abo]at nd;cases q with
  |zero=>
   simp at e;subst e;exact .cons hy (lQ t λz y hz=>k z y awK λe=>nd.1 (e▸hz))
  |succ q=>
   have e':=by simpa using e
   exact .cons (k _ _ aaq (λe2=>nd.1 (e2▸abb e')) r) (ih nd.2 e' λz y hz=>k z y awK)
def SX.wrO(h:SX K bJ Iv Z kv kd ow σ H ρ)(ob:Iv b)(e:apd)(hu:tW u)(xg:tW u')(hz:∀c,Z c->c≠b):SX K (L2.upd bJ b u') Iv Z kv kd ow σ (aCO u') ρ:=by
 have oa:Os Iv ow b:= .inl ob;obtain⟨w,hw⟩:=h.o0 b ob;have eJ:∀i c,ow i=some c->c≠b:=λi c hc z=>by
  have:=h.new i c hc;rw[z,hw]at this;cases this
 refine⟨⟨λc hc=>?_,λj o d' hj=>?_⟩,h.own,h.inj,λi c hc=>by rw[ak (eJ i c hc)];exact h.new i c hc,λc v hc=>?_,h.kp.upd oa e hu,λc hc=>?_,h.len⟩
 .by_cases tZ:c=b
  .subst tZ;exact⟨u',ag,xg⟩
  .exact aa (h.ex.live c hc) λus q qo=>⟨us,by rw[ak tZ];exact q,qo⟩
 .refine aa amn λw q1 q2=>⟨w,q1,?_⟩;cases o with
  |true=>
   refine bH q2 λc e1 e2 c'=>aa aiU λb' o2 o1=>?_;rw[q1]at o2;cases o2;cases e1;exact⟨c,rfl,e2,c'.upd (o1.elim (λo1=>eJ j c o1.2) λo1=>hz c o1.2.1) oa e hu⟩
  |false=>exact bu.upd q2 oa e hu
 .by_cases tZ:c=b
  .subst tZ;rw[ag]at hc⊢;exact hc
  .rw[ak tZ]at hc⊢;exact h.same _ _ hc
 .by_cases tZ:c=b
  .subst tZ;exact⟨u',ag⟩
  .obtain⟨v,hv⟩:=h.o0 c hc;exact⟨v,by rw[ak tZ];exact hv⟩
theorem LS.put(h:af2)(rp:ari)(n:asE):LS K H₀ ae a as T (σ.set r anB) H (Py.put ρ r false d):=by
 exact iq h λbJ ow h1 h2 h3 h4=>⟨bJ,_,h1,h2.put (eE (λ_ _ e=>e) rp n) r,h3,h4⟩
def LS.own(h:af2)(e:azL):∃b vs O',σ[y]?=some (aku ajV)/\H b=some ah2/\aq K O' H vs l/\
  ∀F6 l' H',aiX->aq K O' H' F6 l'->LS K H₀ ae a as T σ (L2.upd H' b (akx F6)) (Py.put ρ y true (akx l')):=by
 refine iq h λbJ ow h1 h2 h3 h4=>iq (h2.Nm e) λb vs o1 o2 o3 o4=>?_;refine⟨b,vs,_,o2,o3,o4,λF6 l' H' s rr=>?_⟩;have hb:∀c,c∈a::as->c≠b:=λc hc z=>by
  have n:=h2.new y b o1;refine aa (h4.there c hc) λu eu _=>?_;rw[<-z,h3 c hc,eu]at n;cases n
 have RX:=s _ _ o3;refine⟨bJ,ow,h1,(h2.mono s).wr o1 o2 RX rr,λc hc=>?_,(h4.zy s).keep (hJ RX trivial) λc hc=>ak (hb c hc)⟩;rw[ak (hb c hc)];exact h2.vy h4 s h3 c hc
def LS.dput(h:af2){xs:ac1}{ki:Int}(e:T[q]?=some (.bx 0 ks xs))(hk:[ki]∉ks)(hl:ks.length<bW)(rp:ari)(n:asE)(hn:∀b∈a::as,auD):
  ∃b H',as[q]?=some b/\Ma H b (al6 ki) v H'/\LS K H₀ ae a as (T.set q (.bx 0 (ks++[[ki]]) (xs++[d]))) σ H' ρ:=by
 refine iq h λbJ ow h1 h2 h3 h4=>?_;obtain⟨b,e1,ks',vs,Rb,e2,g1,g2,g3,g4,g5⟩:=Ir h4.bx e;cases e2;have hb:b∈as:=abb e1;have nd:=abo.mp h4.nd;have xt:a≠b:=λz=>nd.1 (z▸hb);have Nu:fq ((ks.map λk=>(Sum.inl aim:cz)).zip vs) aGx v=((ks++[[ki]]).map λk=>(Sum.inl aim:cz)).zip anR:=by
  have:=nv (λk:List Int=>(Sum.inl aim:cz)) (x:=[ki]) (v:=v) g2 (λk hm he=>by
   obtain⟨j,rfl⟩:=g3.2 rfl k hm;have:j=ki:=afY he;rw[this]) hk
  exact this
 refine⟨b,L2.upd H b aqA,e1,.inl ⟨_,aGx,by rw[g1,kn],rfl,by rw[adz,aap,g2,aev,cB,<-g2];exact hl,by rw[Nu,kn]⟩,?_⟩;have ts:jr H (aCO aqA):=hJ g1 gR;refine⟨L2.upd bJ b aqA,ow,λc w ec=>?_,h2.wrO (ant aqJ) g1 gR gR (λc hc=>by rw[hc];exact xt),λc hc=>?_,⟨by rw[ak xt];exact h4.lst,?_,h4.nd⟩⟩
 .have tZ:c≠b:=λz=>by rw[z,hn b aqJ]at ec;cases ec
  rw[ak tZ];exact h1 _ _ ec
 .by_cases tZ:c=b
  .subst tZ;rw[ag,ag]
  .rw[ak tZ,ak tZ];exact h3 c hc
 .refine Ew ⟨ks++[[ki]],anR,xs++[d],rfl,ag,by simp[g2],⟨?_,λ_ k hm=>?_⟩,by rw[i6,g4];simp[aY,n],(fP ts g5 g4).append (akA (eE ts rp n))⟩ h4.bx nd.2 e1 λz y hz hzb hd=>hd.keep ts (ak hzb)
  .rw[abL];exact⟨g3.1,by simp,λa ha b hb e=>hk (by rw[aar.mp hb]at e;exact e▸ha)⟩
  .rcases aaH.mp hm with hm|hm
   .exact g3.2 rfl k hm
   .exact⟨ki,aar.mp hm⟩
def LS.call(h:LS K H₀ ae a as T σ H1 ρ){Q:VK}(rz:bu K O' H1 v z)(nz:aF z=true)(fe:f [.lst T,z]=some d)(hn:∀ds d,aGi->ds.length=n)
  (k:∀w H3,ah H1 alH->bu K (λ_=>False) H3 w d->jr H3 alH->aq6->Q w alH):
  ∃R4:ae_,R4.Nodup/\(∀b∈R4,aFS)/\∀H2,Hk R4 H1 H2->xD K n f ([ab_,v]++[]) H2 (λw H3=>u0 R4 H1 H3/\Q w (gF R4 H1 H3)) E0:=by
 refine iq h λbJ ow h1 h2 h3 h4=>⟨as,(abo.mp h4.nd).2,h4.mut,λH2 fz=>⟨λ_=>False,[.lst T,z],d,λ_ z=>aAy,.cons ((h4.rep fz).resolve_right id) (akA (eE (vx fz) rz nz)),fe,hn _ _ fe,λw H3 s Cw=>?_⟩⟩;exact c6 (Bm fz s) λc s' t=>⟨c,k w H3 s' Cw t c⟩
def LS.ret(h:af2)(hn:∀b∈a::as,auD)(o0:∀b,ae b->∃w,H₀ b=some w)(fz:Hk as H H2):ah H₀ H2/\bu K ae H2 ab_ (akx T):=by
 refine iq h λbJ ow h1 h2 h3 h4=>⟨λb u e=>?_,(h4.rep fz).resolve_right λz=>?_⟩
 .rw[fz.out b λhb=>by rw[hn b aqJ]at e;cases e];exact h2.same _ _ (h1 _ _ e)
 .obtain⟨w,hw⟩:=o0 a z;rw[hn a aaq]at hw;cases hw
end
abbrev Nv(K:ay)(n:Nat)(f:ac1->air)(t:TA):TE:=λσ H Q=>t σ H λvs H1=>∃as:ae_,as.Nodup/\(∀b∈as,aFS)/\∀H2,arq->xD K n f aEB H2 (λv H3=>aq6/\Q v alH) E0
abbrev Iw(y:Nat):TE:=λσ H Q=>∃a vs v,σ[y]?=some aiz/\amM/\vs[vs.length-1]?=some v/\Q v aj5
abbrev Ex(K:ay)(y:Nat):TT:=λσ H Q=>dn y σ H λx H'=>∃k,Lr K x H' k/\Q k H'
section
variable {K:ay}{H₀:Hp}{ae:Addr->Prop}{σ:St}{H:Hp}{ρ:Env}{a:Addr}{as:ae_}{T:ac1}{x y:Nat}
def Ey(h:apZ)(ne:x≠y):jU (Py.put ρ y o d) x=true:=by
 unfold jU Py.put at *;rw[aaT (abF ne)];exact h
def LS.Yz(h:af2)(e:atN)(q:Q (!l.isEmpty) H):Ex K y σ H Q:=by
 refine ba (h.lst e) λb vs h1 h2 h3=>?_;have he:(!vs.isEmpty)=!l.isEmpty:=by cases vs<;>cases l<;>simp at h3⊢
 exact⟨ajV,h1,!vs.isEmpty,.inl ⟨vs,h2,rfl⟩,by rw[he];exact q⟩
def Ez(h:t {D' with nx:=u D'} σ H):rC t u D' σ H:=h
def LS.ifs(h:af2)(e:atN)(q:if(!l.isEmpty)=true then t D' σ H else u D' σ H):Gi (Ex K y) t u D' σ H:=by
 unfold Gi;exact h.Yz e q
def LS.turn(h:af2)(hn:∀b∈a::as,auD)(ht:apZ)(wa:x≠y)(el:azL)(R5:∀ds d,arv->aDt)(R6:∀ds d,aB1->aDs)
  (e:jV F x y r f c2 m c3 p q u g w T ρ l=some (T',ρ')) (k:∀bU H',LS K H₀ ae a as T' bU H' ρ'->jU ρ' x=true->D'.nx bU H'):
  rC (p6 (amk K) (cI r)) (rC (tC K c2) (rC (Gi (Ex K m) (rC (tC K c3) (rC (yu (JL (Gy K) (dn x) (ary p)) (ary q) (ary u)) (rC (nI (S7 K "list" (Dv K) (dn y) (cQ (Nv K n2 (F g) (aG9 (cQ (ary w) nM))) nM))) yc))) yc) yc)) D' σ H:=by
 unfold jV at e;obtain⟨z,e1,e⟩:=bind_some e;obtain⟨d,e2,e⟩:=bind_some e;split at e
 .rename_i R7;rw[aak]at R7;obtain⟨o,e3,e⟩:=bind_some e;cases o with
  |next Qj=>
   dsimp only at e;split at e
   .rename_i Ww;obtain⟨ms,e4,e⟩:=bind_some e;obtain⟨b,vs,O',y1,y2,y3,y4⟩:=h.own el;have pU:l[vs.length-1]?=some z:=by rw[y3.length,<-afK];exact e1
    obtain⟨v,z1,z2⟩:=y3.get pU;have yd:aq K O' H vs.dropLast l.dropLast:=by
     rw[adY,adY,y3.length];exact y3.take _
    have h1:=y4 vs.dropLast l.dropLast H ad2 yd;have z2':bu K (λ_=>False) (aCO (akx vs.dropLast)) v z:=eE (hJ y2 trivial) z2 R7.1;refine⟨ab_,h.at ht,b,vs,v,y1,y2,z1,h1.call (Q:=λw H'=>rC (tC K c2) _ D' (σ.set r (aku w)) H') z2' R7.1 e2 R5 λw H3 s3 r3 t3 Wx=>?_⟩;have h2:=(h1.mono s3).put (r:=r) (eE (O':=λ_=>False) t3 r3 R7.2) R7.2;refine h2.run e3 λAj H4 h3=>Ez (h3.ifs e4 ?_);generalize ms.isEmpty=bm at e⊢;cases bm with
    |true=>
     cases e;exact mO (k Aj H4 h3 Ww)
    |false=>
     rw[aaF aan]at e;obtain⟨o,e5,e⟩:=bind_some e;cases o with
     |next B0=>
      dsimp only at e;split at e
      .rename_i Wy;obtain⟨uv,e6,e⟩:=bind_some e;split at e
       .rename_i hu;obtain⟨pi,e70,e⟩:=bind_some e;obtain⟨dp,e7,YA⟩:=bind_some e70;have edp:dp= .int pi:=by cases dp<;>first|(cases YA;rfl)|cases YA
        subst edp;obtain⟨pq,e8,e⟩:=bind_some e;obtain⟨kk,e90,e⟩:=bind_some e;obtain⟨dk,e9,TX⟩:=bind_some e90;obtain⟨ki,rfl,rfl⟩:=R3 TX;obtain⟨T2,zw,e⟩:=bind_some e;obtain⟨wv,e11,e⟩:=bind_some e;split at e
        .rename_i hw;obtain⟨zd,aa,e⟩:=bind_some e;cases zd with
         |lst zs=>
          dsimp only at e;split at e
          .rename_i hzs;obtain⟨ws,bH,e⟩:=bind_some e;split at e
           .rename_i aG;cases e;refine jP (h3.run e5 λσ4 H5 h5=>?_);obtain⟨bJ,ow,b1,b2,b3,b4⟩:=id h5;refine⟨_,B0,uv,b2.ex,e6,λv6 H6 s6 r6=>⟨ab_,(h5.mono s6).at Wy,_,B0,.int pi,(b2.mono s6).ex,e7,λv7 H7 s7 r7=>?_⟩⟩;have h7:=(h5.mono s6).mono s7;have t7:=b4.zy (s6.trans s7);unfold CO at zw;split at zw
            .rename_i ks xs eT;split at zw
             .rename_i F0;cases zw;have lT:as.length=T.length:=adC t7.bx;obtain⟨b8,e8',Wz⟩:∃c,JR (as.map V.ref) pi=some (V.ref c)/\as[pq]?=some c:=by
               have aU:pq<as.length:=by rw[lT];exact(aax.mp eT).1
               refine⟨as[pq],?_,aai aU⟩;unfold JR;rw[aap,lT,<-oH,e8];show(as.map V.ref)[pq]?=_;rw[aaC,aai aU];rfl
              refine⟨a,_,pi,.ref b8,rfl,r7.int,cK.of t7.lst,e8',_,B0,.int ki,((b2.mono s6).mono s7).ex,e9,λv9 H9 s9 r9=>?_⟩;have h9:=h7.mono s9;obtain⟨b',Vl,f1,f2,f3⟩:=h9.dput eT F0.2 F0.1 (r6.own.mono (s7.trans s9)) hu hn;rw[Wz]at f1;cases f1;refine⟨_,Vl,rfl,by rw[r9.int];exact f2,?_⟩;obtain⟨c,us,O2,c1,AS,Wx,c4⟩:=f3.own bH;obtain⟨H₂,ow2,d1,d2,d3,d4⟩:=id f3;refine⟨.ref c,c1,.inl ⟨rfl,us,cK.of AS⟩,ab_,f3.at Wy,_,B0,wv,d2.ex,e11,λv11 Vm Te r11=>?_⟩;refine(f3.mono Te).call (Q:=λw2 H'=>Dv K aoX [w2] H' λ_ Ym=>D'.nx σ4 Ym) r11.own hw aa R6 λw2 H12 s12 r12 t12 c12=>?_;obtain⟨bb,zv,rfl,g1,g2⟩:=r12.lst_inv;have F3:=Te.trans s12;refine⟨c,bb,us,zv,rfl,rfl,F3 _ _ AS,Eu c12 (d4.zy Te).R1 g1,by rw[cB,Wx.length,g2.length];exact aG,?_⟩;exact k _ _ (c4 _ _ _ F3 ((Wx.mono F3).append (fP t12 g2 hzs))) (Ey Wy wa)
             .cases zw
            .cases zw
           .cases e
          .cases e
         |_=>cases e
        .cases e
       .cases e
      .cases e
     |_=>cases e
   .cases e
  |_=>cases e
 .cases e
end
def Nw(h:te σ H λv H1=>g v σ H1 D'.nx):p6 te g D' σ H:=h
section
variable {X:Cx}{s1 s2 sr s5 s6 ss se:Stmt}{e1 e2 em:Expr}{wp ip rp:Pos}{x y r f m g n1 n2:Nat}{fr:ahW}{F:FT}{fi:Env->Option ac1}{fk fv p q u w:Env->Option D}{c1 c2 c3:Env->Option mh}
def R8(hp:ajg)(R5:∀ds d,arv->aDt)(R6:∀ds d,aB1->aDs)
  (P1:PS X s1 (p6 (qA 1 fr (aCN X.K) (cI 0) (tB X.K λ_=>au2) (u5 (akr fk) (akr fv))) (cI x)))
  (P2:PS X s2 (atH c1)) (Py:PT X e2 (Ex X.K y)) (Pr:axx) (P5:PS X s5 (atH c2)) (Pm:PT X em (Ex X.K m)) (P6:PS X s6 (atH c3))
  (Ps:PS X ss (yu (JL (Gy X.K) (dn x) (akr p)) (akr q) (akr u))) (Pe:PS X se (nI (S7 X.K "list" (Dv X.K) (dn y) (cQ (Nv X.K n2 (F g) (aG9 (cQ (akr w) nM))) nM)))) (Pt:PE X e1 (dn x)) (n:Nat):
  jE X [s1,s2,.While e2 [sr,s5,.If em [s6,ss,se] [] ip] [] wp,.Return (aku e1) rp] (tC X.K λρ=>(fi ρ).bind λxs=>if xs.length<=bW/\x≠y/\aFA/\uA ρ=true then(walk av2 xs).bind λT=>
   (c1 auc).bind λo=>match o with
   | .next LR=>if jU LR x then(gL am6 y n T LR).map λT=> .ret (akx T) else none
   |_=>none
  else none):=
 (bA P1 (bA P2 (bA (uh hp Py (bA Pr (bA P5 (bA (ug Pm (bA P6 (bA Ps (bA Pe ir))) ir) ir)))) (bA (rD (Hl Pt)) ir)))).weak λD' σ H zz=>by
  refine mW zz λH₀ ae Z kv kd ow ρ out hx hd k=>aa aa5 λxs pU hd=>?_;split at hd
  .rename_i hc;refine BU hc λhz wa hxl hnt=>aa aa5 λT GG hd=>aa aa5 λo e3 hd=>?_;cases o with
   |next LR=>
    dsimp only at hd;split at hd
    .rename_i VA;refine aa ae4 λT' e4 ai=>?_;subst ai;refine Ez (Nw (Bp hx.ex pU hz GG λa as H' s t hn=>?_));have TQ:∀b∈a::as,auD:=λb hb=>by
      cases z:H₀ b with
      |none=>rfl
      |some w'=>have:=hx.same _ _ z;rw[hn b hb]at this;cases this
     obtain⟨sb,qV⟩:=hx.tab s t hn hnt hxl;have L0:LS X.K H₀ ae a as T (σ.set x aiz) H' auc:=⟨_,_,sb,qV,λb hb=>ka hb,t⟩;refine L0.run e3 λLg H1 L1=>⟨λi σ H=>∃S ρ,LS X.K H₀ ae a as S σ H ρ/\apZ/\aBr,⟨n,T,LR,L1,VA,e4⟩,?_⟩;rintro i BW H2 ⟨S,F7,OR,YB,e5⟩;cases i with
     |zero=>cases e5
     |succ i=>
      rw[gL]at e5;refine aa (aks e5) λl e6 e5=>OR.Yz (Bo e6) ?_;cases hl:l.isEmpty with
      |true=>
       rw[hl,aaB rfl]at e5;cases e5;refine mO ?_;refine⟨ab_,OR.at YB,as,?_,?_,λH3 fz=>?_⟩
       .exact iq OR λ_ _ _ _ _ t4=>(abo.mp t4.nd).2
       .exact iq OR λ_ _ _ _ _ t4=>t4.mut
       .obtain⟨q1,q2⟩:=OR.ret TQ hx.o0 fz;exact k _ _ q1 q2
      |false=>
       rw[hl,aaF aan]at e5;obtain⟨⟨S',ρ'⟩,e7,e5⟩:=bind_some e5;refine jP ⟨λbU H'=>∃S ρ,LS X.K H₀ ae a as S bU H' ρ/\apZ/\aBr,λbU H' h=>⟨i,abY i,h⟩,?_⟩;exact OR.turn TQ YB wa e6 R5 R6 e7 λbU H' L3 Ww=>⟨S',ρ',L3,Ww,e5⟩
    .cases hd
   |_=>cases hd
  .cases hd
end
section
variable {X:Cx}{c e:Expr}{st:Stmt}{pos px:Pos}{x:Str}{i:Nat}
def R9(hi:X.N[i]?=some x)(hv:aiK)(En:aiC)(nT:ana)(hl:ap1)(he:ag_)(hn:ayt):
  PS X (aHi (aAw (.Attribute ah6 "append" ap))) (tC X.K λρ=>(f ρ).bind λd=>match ρ[i]? with
   |some (some (true,.lst xs))=>if xs.length<bW then some aBK else none
   |_=>none):=
 (iu (ym acY PySem.F.slot_list_append PySem.F.type_list_append qy aml aFi rfl (by rw[bM hn];rfl) hl (bM hn) rfl) rfl).weak λD' σ H zz=>by
  refine mW zz λH₀ ae Z kv kd ow ρ out hx hd k=>aa aa5 λd e1 hd=>?_;split at hd
  .rename_i xs Ks;split at hd
   .rename_i hz;cases hd;refine aa axb λa o2 o1=>?_;have o1:ajs:=o1.elim (λz=>z.2) λz=>nomatch z.1;refine aa (axL Ks) λw' q1 q2=>bH q2 λa' e6 e8 c0=>aa c0.lst λvs e9 zw=>?_;rw[o2]at q1;cases q1;cases e6;refine⟨ab_,o2,.inl ⟨rfl,vs,cK.of e9⟩,ae8,ρ,d,hx.ex,e1,λv H1 s1 r1=>?_⟩;have qV:=hx.mono s1;have TX:=s1 _ _ e9;refine⟨a,vs,v,rfl,rfl,TX,?_,?_⟩
    .rw[cB,zw.length];exact hz
    .exact k ow _ _ (qV.wr o1 o2 TX ((zw.mono s1).append (akA r1.own)))
   .cases hd
  .cases hd
end
structure Cs(X:Cx)(G:GT)(F:FT):Prop where
 ct:Ct X G F
 fn:∀x,X.fn x=true
 nd:X.N.Nodup
 pass:PassesOwn aa6 X.A X.env X.xe
structure cb(G:GT)(F:FT)(c:C):Prop where
 s:∀X,Cs X G F->∀st,awU->PS X st ayv
 ss:∀X,Cs X G F->∀wd,iU G c X.N X.env.scope wd=true->jE X wd ayv
section
variable {G:GT}{F:FT}
def cb.fX(s:∀X,Cs X G F->∀st,awU->PS X st ayv)(n:∀N sc wd,iU G c N sc wd=false:=by intro _ _ _;rfl):cb G F c:=⟨s,λX hC wd h=>absurd h (by rw[n];exact aan)⟩
def Iy:cb G F .skip where
 s:=λX hC st h=>ff h
 ss:=λX hC wd h=>by
  cases wd with
  |nil=>exact Nh
  |cons _ _=>exact ff h
def Nx(ha:cb G F a)(hb:cb G F b):cb G F (.seq a b) where
 s:=λX hC st h=>ff h
 ss:=λX hC wd h=>by
  cases wd with
  |nil=>exact ff h
  |cons s r=>
   change (Nf G a X.N X.env.scope s&&iU G b X.N X.env.scope r)=true at h;simp only[aak]at h;exact RQ (ha.s X hC s h.1) (hb.ss X hC r h.2)
def zA{p px pos:Pos}(hs:¬swapsWith arw aut pos.line env=pure false):env.scope.names.lookup x=some .local /\swapsWith arw aut pos.line env=pure true:=by
 have e0:swapsWith arw aut pos.line env=pure (env.blockKind == .function&&env.kindOf x==some .local&&px.line==p.line
   && !(iD.names.any λ(n,k)=>n==x&&(k == .local||k == .cell))):=rfl
 cases eb:(env.blockKind == .function&&env.kindOf x==some .local&&px.line==p.line&&!(iD.names.any λ(n,k)=>n==x&&(k == .local||k == .cell)))with
 |false=>rw[eb]at e0;exact absurd e0 hs
 |true=>
  rw[eb]at e0;simp only[aak]at eb;exact⟨eq_of_beq eb.1.1.2,e0⟩
def Ny:cb G F azn:= .fX λX hC st h=>by
 refine mV (eY (st:=st) h) λx px v pos ai hb=>?_;subst ai;replace h:=hb;simp only[aak,decide_eq_true_eq,aed]at h;obtain⟨⟨⟨h1,h2⟩,h3⟩,h4⟩:=h;exact RS hC.nd h1 aDo aoT ((snd e).e X hC.ct v h3 false) (oV h4)
def Iz:cb G F aB9:= .fX λX hC st h=>by
 refine mV (eY (st:=st) h) λx px v pos ai hb=>?_;subst ai;replace h:=hb;simp only[aak,decide_eq_true_eq]at h;obtain⟨⟨⟨⟨h1,h2⟩,h3⟩,h4⟩,h0⟩:=h;by_cases hs:swapsWith v aut pos.line X.env=pure false
 .exact rh (fZ hC.nd h1 aDo ((snd e).f X hC.ct v h3 h4) hs aBJ) (λσ H Q z=>z)
 .have hv:gp v=true:=by
   cases z:gp v with
   |true=>rfl
   |false=>exact absurd (oV z) hs
  rw[hv]at h0;cases e with
  |comp fr tg it ifs eV=>
   refine Xv (q_ h3) λel n q iter fs iD p cL ot MR TH h5 h6 h7=>?_;subst cL;subst ot;have e0:=zA hs;refine rh (nW amw (sZ TH).1 hC.ct.calm TJ (oQ hC.ct (snd it) (snd ifs) (snd eV) TH h5 h6 h7) (dR MR) hC.nd h1 e0.1 e0.2) (λσ H Q z=>?_);exact qU RC σ H Q (zu σ H Q z)
  |_=>exact ff h0
def IA:cb G F (.uz i ix e):= .fX λX hC st h=>by
 refine kP (gX (st:=st) h) λEk v pos zr h=>aa (bQ h) λo aK h=>kP (kq h) λn k p2 cL h=>eU (cE h) λx px ot cO=>?_;subst zr aK cL ot;simp only[aak,decide_eq_true_eq]at cO;obtain⟨⟨⟨⟨⟨h1,h2⟩,h3⟩,h4⟩,h5⟩,h6⟩:=cO;exact Ni h1 aDd (bK h3).1 (bK h3).2 ((snd ix).e X hC.ct _ h4 false) h5 ((snd e).e X hC.ct v h6 false)
def Nz:cb G F aGX:= .fX λX hC st h=>by
 refine eU (fN (st:=st) h) λex pos zr h=>KZ (et h) λo m ap as cp aK h=>aa (bQ h) λv cL h=>eU (cE h) λx px ot cO=>?_;subst zr aK cL ot;simp only[aak,decide_eq_true_eq]at cO;obtain⟨⟨⟨⟨⟨⟨h1,h2⟩,h3⟩,rfl⟩,h4⟩,h5⟩,h6⟩:=cO;exact R9 h1 aDd (bK h3).1 (bK h3).2 h4 an6 h6
def NA:cb G F aDM:= .fX λX hC st h=>by
 cases st with
 |Return o pos=>
  cases o with
  |none=>exact ff h
  |some v=>
   have h:bE G e X.N X.env.scope v=true:=h;cases e with
   |var i=>
    cases v with
    |Name x px=>
     change (decide (X.N[i]?=some x)&&qi X.env.scope x&&wc x)=true at h;simp only[aak,decide_eq_true_eq]at h;obtain⟨⟨h1,h2⟩,h3⟩:=h;exact Nj h1 aDd (bK h3).1 (bK h3).2
    |_=>exact ff h
   |_=>exact RT ((snd _).e X hC.ct v h false)
 |_=>exact ff h
def NB(ht:cb G F t)(hu:cb G F u):cb G F (.ifs c t u):= .fX λX hC st h=>by
 cases st with
 |If x a b pos=>
  change (bE G c X.N X.env.scope x&&D1 c&&iU G t X.N X.env.scope a&&iU G u X.N X.env.scope b)=true at h;simp only[aak]at h;obtain⟨⟨⟨h1,h2⟩,h3⟩,h4⟩:=h;exact Wq axI (ht.ss X hC a h3) (hu.ss X hC b h4)
 |_=>exact ff h
def EA(hb:cb G F b):cb G F (.while c b):= .fX λX hC st h=>by
 cases st with
 |While x a o pos=>
  change (o.isEmpty&&bE G c X.N X.env.scope x&&D1 c&&iU G b X.N X.env.scope a)=true at h;simp only[aak]at h;obtain⟨⟨⟨h0,h1⟩,h2⟩,h3⟩:=h;cases o with
  |cons _ _=>exact ff h0
  |nil=>exact Im hC.pass axI (hb.ss X hC a h3) iX
 |_=>exact ff h
def YC(hC:ahF)(h:Nc G it X.N X.env.scope tX iter=true):PI X tX iter (tI X.K false (n9 F false it)):=by
 cases it with
 |GI a=>
  cases tX with
  |Tuple es k p=>
   refine mV (eC (e:=iter) h) λx q a0 cp zr cO=>?_;subst zr;simp only[aak,decide_eq_true_eq]at cO;obtain⟨⟨⟨rfl,h1⟩,h2⟩,h3⟩:=cO;exact Rz aDB (apS (by simp[gn])) ((snd a).e X hC _ h2 false) aDC
  |_=>exact ff h
 |_=>exact(snd _).i X hC _ iter h false
def ND:ex F aGU=λρ=>(λρ=>(n9 F false it ρ).bind λxs=>a_ (λy ρ=>auS) xs ρ) ap9:=by
 funext ρ;have e:(λ(x:D) (ρ:Env)=>(aH tg x).bind λys=>(de ρ is ys).bind λρ'=>aAQ)=λy ρ=>((aH tg y).bind aqa).bind (ex F b):=by
  funext y ρ;cases aH tg y<;>rfl
 show(n9 F false it ap9).bind (λxs=>a_ (λx ρ=>(aH tg x).bind λys=>(de ρ is ys).bind λρ'=>aAQ) xs ap9)=_;rw[e]
def NG(hb:cb G F b):cb G F aGU:= .fX λX hC st h=>by
 cases st with
 |For tX iter a o pos=>
  change (o.isEmpty&&gW iter&&iU G b X.N X.env.scope a&&Nb X.N X.env.scope is tg tX&&Nc G it X.N X.env.scope tX iter)=true at h;simp only[aak]at h;obtain⟨⟨⟨⟨h0,h1⟩,h2⟩,h3⟩,h4⟩:=h;cases o with
  |cons _ _=>exact ff h0
  |nil=>
   rw[ND];refine Ep (it:=it) (g:=λρ=>(n9 F false it ρ).bind λxs=>a_ (λy ρ=>auS) xs ρ) ?_;unfold Nb at h3;cases tX with
   |Name x p=>
    simp only[aak,decide_eq_true_eq]at h3;obtain⟨⟨rfl,h5⟩,h6⟩:=h3;obtain⟨i,rfl⟩:∃i,is=[i]:=by
     cases is with
     |nil=>cases h6
     |cons i t=>cases t with|nil=>exact⟨i,rfl⟩|cons _ _=>cases h6
    unfold c5 at h5;simp only[aak,decide_eq_true_eq]at h5;exact Kt (setT:=λρ d=>some ajG) hC.pass hC.ct.calm (mY hC.nd h5.1.1 (fA h5.1.2) aBJ) Io (YC hC.ct h4) aGa (dR h1)
   |Tuple es k p=>
    simp only[aak,decide_eq_true_eq]at h3;obtain⟨⟨rfl,h5⟩,h6⟩:=h3;refine c6 (lP hC.nd hC.fn h6) λq1 q2 q3=>?_;have mS:aGR:=by
     cases is with
     |nil=>
      unfold c5 at h6;rw[h6]at h5;cases h5
     |cons _ _=>exact acM _
    exact Kt hC.pass hC.ct.calm (CS hC.ct.calm q1 q2 q3) (Eo mS) (YC hC.ct h4) aGa (dR h1)
   |_=>exact ff h3
 |_=>exact ff h
def IB:cb G F (.wM i t es):= .fX λX hC st h=>by
 refine mV (eY (st:=st) h) λx px v pos zr cO=>?_;subst zr;rw[aak,aak,decide_eq_true_eq]at cO;obtain⟨⟨h1,h2⟩,Ig⟩:=cO;refine kP (lL Ig) λks vs dp zr h=>aa (bQ h) λko aK h=>aa (qY h) λke cL h=>aa (bQ h) λwe ot h3=>?_;subst zr aK cL ot;simp only[aak,decide_eq_true_eq]at h3;refine kM (D7 (F:=F) h3.2) λa b ai k1 _ k2 _=>?_;subst ai;have e0:ex F (.wM i t aGW)=λρ=>if t=2 then none else((ev F false a ρ).bind λx=>(ev F false b ρ).bind λy=>(c_ t x).map λz=>D.bx t [z] [y]).map λd=> .next aDJ:=by
  funext ρ;show(if t=2 then none else((dU F false aGW ρ).bind (CL t)).map λd=>mh.next aDJ)=_;rw[mP];cases ev F false a ρ with
  |none=>rfl
  |some x=>
   show(if t=2 then none else(((dU F false (akA b) ρ).bind λxs=>some (x::xs)).bind (CL t)).map λd=>mh.next aDJ)=_;rw[mP];cases ev F false b ρ with
   |none=>rfl
   |some y=>rfl
 rw[e0];exact Iq hC.ct.units hC.nd h1 aDo aoT h3.1 ((snd a).e X hC.ct ke k1 false) ((snd b).e X hC.ct we k2 false)
def EB:cb G F (.raise k):= .fX λX hC st h=>λU s σ H D' I zz=>aca λ_=>mW zz λ_ _ _ _ _ _ _ _ _ hd _=>nomatch hd
def IC:cb G F (.wL is e):= .fX λX hC st h=>by
 refine kP (gX (st:=st) h) λEk v pos zr h=>aa (bQ h) λtg aK cO=>?_;subst zr aK;cases tg with
 |Tuple es k0 p=>
  change (!is.isEmpty&&c5 X.N X.env.scope is es&&bE G e X.N X.env.scope v&&Ei v)=true at cO;simp only[aak]at cO;obtain⟨⟨⟨h0,h1⟩,h2⟩,h3⟩:=cO;exact Nl hC.ct.calm hC.nd hC.fn h1 ((snd e).e X hC.ct v h2 false) h3 (by cases is with|nil=>cases h0|cons _ _=>exact acM _)
 |_=>exact ff cO
def NH:cb G F (.Qi i j):= .fX λX hC st h=>by
 refine mV (eY (st:=st) h) λx px v pos ai hb=>?_;subst ai;replace h:=hb;simp only[aak,decide_eq_true_eq]at h;refine kM (bY h.2) λy q cL n1 n2 n3 n4=>?_;subst cL;exact RY hC.nd h.1.1 (fA h.1.2) aoT aik
def ID:cb G F (.CN i):= .fX λX hC st h=>by
 refine mV (eY (st:=st) h) λx px v pos ai hb=>?_;subst ai;rw[aak,aak,decide_eq_true_eq]at hb;obtain⟨⟨h1,h2⟩,h3⟩:=hb;refine kP (lL h3) λks vs p zr h4=>?_;subst zr;rw[aak,aeo,aeo]at h4;obtain⟨rfl,rfl⟩:=h4;exact Np hC.nd h1 aDo aoT
def NI:cb G F (.upd i e):= .fX λX hC st h=>by
 refine eU (fN (st:=st) h) λex pos zr h=>KZ (et h) λo m ap as cp aK h=>aa (bQ h) λv cL h=>eU (cE h) λx px ot cO=>?_;subst zr aK cL ot;simp only[aak,decide_eq_true_eq]at cO;obtain⟨⟨⟨⟨⟨⟨h1,h2⟩,h3⟩,rfl⟩,h4⟩,h5⟩,h6⟩:=cO;exact RZ hC.ct.units hC.ct.calm h1 aDd (bK h3).1 (bK h3).2 h4 an6 h6
def NJ:cb G F aGV:= .fX λX hC st h=>by
 refine eU (fN (st:=st) h) λex pos zr h=>KZ (et h) λo m ap as cp aK h=>aa (bQ h) λv cL h=>eU (cE h) λx px ot cO=>?_;subst zr aK cL ot;simp only[aak,decide_eq_true_eq]at cO;obtain⟨⟨⟨⟨⟨⟨h1,h2⟩,h3⟩,rfl⟩,h4⟩,h5⟩,h6⟩:=cO;exact RW h1 aDd (bK h3).1 (bK h3).2 h4 an6 h6
def IE:cb G F (.expr e):= .fX λX hC st h=>by
 refine eU (fN (st:=st) h) λx pos zr h=>kP (lK h) λf a p aK h=>?_;subst zr aK;refine(iu ((snd e).e X hC.ct _ h true) rfl).weak λD' σ H zz=>mW zz λH₀ ae Z kv kd ow ρ out hx hd k=>aa ae4 λd e1 zr=>?_;subst zr;exact⟨ae8,ρ,d,hx.ex,e1,λv H1 s1 r1=>k ow σ H1 ahV⟩
def IF:cb G F (.AF i k e):= .fX λX hC st h=>by
 refine kP (gX (st:=st) h) λEk v pos zr h=>aa (bQ h) λt aK h=>kP (kq h) λo ix sp cL cO=>?_;subst zr aK cL;simp only[aak,aed]at cO;obtain⟨⟨⟨⟨h1,h2⟩,h3⟩,h4⟩,h5⟩:=cO;refine kM (bY h1) λx q ai n1 n2 n3 n4=>?_;subst ai;exact Nn hC.ct.units n1 n2 n3 n4 ((snd k).e X hC.ct _ h2 false) ((snd e).e X hC.ct v h4 false) (λt=>oV h5)
def EC(h:Ej N sc y e=true):∃x px ap cp,e= .Call (.Attribute ah6 "pop" ap) [] [] cp/\N[y]?=some x/\vZ sc x/\aiC/\ana/\ap1:=by
 refine KZ (et h) λe2 nm ap as cp zr cO=>?_;subst zr;simp only[aak,decide_eq_true_eq,aeo]at cO;obtain⟨⟨⟨rfl,rfl⟩,h1⟩,h2⟩:=cO;refine kM (bY h1) λx q ai n1 n2 n3 n4=>?_;subst ai;exact⟨x,q,_,cp,rfl,n1,n2,n3,n4,h2⟩
def NK:cb G F (.pop i j):= .fX λX hC st h=>by
 refine mV (eY (st:=st) h) λx px v pos ai hb=>?_;subst ai;replace h:=hb;simp only[aak,decide_eq_true_eq]at h;refine Ga (EC h.2) λy q ap cp cL n1 n2 n3 n4 n5=>?_;subst cL;exact RV hC.nd h.1.1 (fA h.1.2) aoT aik rfl n5
def Kz(hC:ahF)(h:Ih G x f X.N X.env.scope e ok=true)(hw:∀w,ok w=true->PE X w tw):∃n:Nat,(∀ds d,arv->ds.length=n)/\PE X e (Nv X.K n (F f) (aG9 (cQ tw nM)))/\gp e=false/\ayt:=by
 refine mV (gY h) λn pn as cp zr h=>eU (M5 h) λe1 w aK cO=>?_;subst zr aK;simp only[aak,decide_eq_true_eq]at cO;obtain⟨⟨⟨⟨⟨h1,h2⟩,h3⟩,h4⟩,h5⟩,h6⟩:=cO;refine kM (bY h4) λy q ai n1 n2 n3 n4=>?_;subst ai;exact Ga (hC.call f n h1) λk fa fd ps g5 g6 g7 g8 g9 QV=>⟨ps.length,QV,Du g5 g6 (bX h2) g7 g8 g9 (aX aik (aX (hw w h5) b_ (bM h6)) rfl) (bK h3).1 rfl (by rw[bM h6];rfl),rfl,rfl⟩
def NL{st:Stmt}(h:Kr G x p q u N sc st=true):∃e1 pe qe e p1 p2 p3,st= .Assign [.Subscript (.Subscript e1 pe p1) qe p2] e p3/\(dC N sc x e1&&bE G p N sc pe&&b9 pe&&bE G q N sc qe&&b9 qe&&bE G u N sc e&&!gp e)=true:=by
 exact kP (gX h) λEk e p3 z h=>aa (bQ h) λo z2 h=>kP (kq h) λo2 qe p2 z3 h=>kP (kq h) λe1 pe p1 z4 h=>⟨e1,pe,qe,e,p1,p2,p3,by rw[z,z2,z3,z4],h⟩
def NM{st:Stmt}(h:RL G x y g w N sc st=true):∃e2 m ap v cp pos,st= .Expr (.Call (.Attribute e2 m ap) [v] [] cp) pos/\(dC N sc y e2&&decide (m="extend")&&af9&&bc v&&Ih G x g N sc v (bE G w N sc))=true:=by
 exact eU (fN h) λe p z h=>KZ (et h) λo m ap as cp z2 h=>aa (bQ h) λv z3 h=>⟨o,m,ap,v,cp,p,by rw[z,z2,z3],h⟩
def R_(hC:Cs X G F){st:Stmt}(h:RK G x fr it k v X.N X.env.scope st=true):PS X st (p6 (qA 1 fr (tI X.K true (n9 F true it)) (cI 0) (tB X.K λ_=>au2) auL) (cI x)):=by
 refine mV (eY h) λa pa e pos zr cO=>?_;subst zr;rw[aak,aak,decide_eq_true_eq]at cO;obtain⟨⟨h1,h2⟩,Ig⟩:=cO;refine mV (zi Ig) λel gs iD lp zr h=>kP (lL h) λks vs dp aK h=>aa (bQ h) λko cL h=>aa (qY h) λke ot h=>aa (bQ h) λve Rx h=>aa (bQ h) λg Ry Wt=>?_;obtain⟨tX,iter,fs,kk⟩:=g;refine eU (cE Wt) λn q OP YD=>?_;change tX=_ at OP;subst zr aK cL ot Rx Ry OP;simp only[aak,decide_eq_true_eq,aeo]at YD;obtain⟨⟨⟨⟨⟨⟨rfl,rfl⟩,h3⟩,h4⟩,h5⟩,h6⟩,h7⟩:=YD;refine c6 (sZ h4) λS QX nd=>have hl:=QX _ aaq;?_;have parts:∀cl C U s H ex,PG ahv awk (cI 0)/\Az ahv [] (tB X.K λ_=>au2)/\PE ahv (awv [ve]) auL:=λcl C U s H ex=>by
  have OQ:=hC.ct.inner iD cl C arV U s H ex;refine⟨aw_,DZ,Hn ?_ ((snd k).e _ OQ ke h6 false) ((snd v).e _ OQ ve h7 false)⟩;have:=OQ.units;exact t_ this aa1
 by_cases hs:swapsWith (.ListComp (awv [ve]) [⟨awk,iter,[],0⟩] iD lp) (aku (.Name a pa)) pos.line X.env=pure false
 .exact fZ hC.nd h1 aDo (yo amw S hC.ct.calm TJ parts (dR h3)) hs aBJ
 .have e0:=zA hs;exact nW amw S hC.ct.calm TJ parts (dR h3) hC.nd h1 e0.1 e0.2
def NN(h1:cb G F c1)(h2:cb G F c2)(h3:cb G F c3):cb G F (.fst x fr it k v c1 y r f c2 m c3 p q u g w) where
 s:=λX hC st h=>ff h
 ss:=λX hC wd h=>by
  refine wk (Nd h) λs1 s2 s3 s4 ai o1 o2 oW oR=>?_;subst ai;refine SW (Ij oW) λe2 sr s5 sI wp aK o3 o4 o5 oI=>?_;subst aK;refine SW (Ii oI) λem s6 ss se ip cL o6 o7 o8 o9=>?_;subst cL;refine eU (Ik oR) λe1 rp ot o10=>?_;subst ot;refine kM (bY o3) λyn yq Rx y1 y2 y3 y4=>?_;subst Rx;refine kM (bY o6) λmn mq Ry m1 m2 m3 m4=>?_;subst Ry;refine kM (bY o10) λxn xq OP x1 x2 x3 x4=>?_;subst OP;have Pr:∃n1,(∀ds d,arv->aDt)/\axx:=by
   refine mV (eY (st:=sr) o4) λxr pr e pos Wa hb=>?_;subst Wa;replace o4:=hb;simp only[aak,decide_eq_true_eq]at o4;obtain⟨n,g1,g2,g3,_⟩:=Kz hC.ct o4.2 (tw:=Iw y) λw hw=>by
    refine Ga (EC hw) λyy q ap cp MP n1 n2 n3 n4 n5=>?_;subst MP;exact Es aik rfl n5
   exact⟨n,g1,fZ hC.nd o4.1.1 (fA o4.1.2) g2 (oV g3) aBJ⟩
  refine aa Pr λn1 R5 Pr=>?_;have Ps:PS X ss (yu (JL (Gy X.K) (dn x) (akr (amj p))) (akr (amj q)) (akr (amj u))):=by
   obtain⟨e1,pe,qe,e,p1,p2,p3,rfl,YE⟩:=NL o8;simp only[aak,aed]at YE;obtain⟨⟨⟨⟨⟨⟨t1,t2⟩,t3⟩,t4⟩,t5⟩,t6⟩,t7⟩:=YE;refine kM (bY t1) λxx q' MQ n1 n2 n3 n4=>?_;subst MQ;exact yv (by have:=hC.ct.units;exact t_ this aa1) (JS yk aik ((snd p).e X hC.ct _ t2 false) (oN t3)) ((snd q).e X hC.ct _ t4 false) ((snd u).e X hC.ct _ t6 false) (oV t7)
  have Pe:∃n2,(∀ds d,aB1->aDs)/\PS X se (nI (S7 X.K "list" (Dv X.K) (dn y) (cQ (Nv X.K n2 (F g) (aG9 (cQ (akr (amj w)) nM))) nM))):=by
   obtain⟨e2,m,ap,v,cp,pos,rfl,YF⟩:=NM o9;simp only[aak,decide_eq_true_eq]at YF;obtain⟨⟨⟨⟨t1,rfl⟩,t3⟩,t4⟩,t5⟩:=YF;refine kM (bY t1) λyy q' MS n1 n2 n3 n4=>?_;subst MS;exact F_ (Kz hC.ct t5 (tw:=tV X.K false (akt w)) λwe hw=>(snd w).e X hC.ct we hw false) λn g1 g2 _ _=>⟨n,g1,iu (ym acY afV afW Dw aik (aX g2 b_ (bM t4)) rfl (by rw[bM t4];rfl) t3 (bM t4) rfl) rfl⟩
  exact aa Pe λn2 R6 Pe=>R8 hC.pass R5 R6 (R_ hC o1) (h1.s X hC s2 o2) (uk (bz y1 y2 y3 y4) λ_=>rfl) Pr (h2.s X hC s5 o5) (uk (bz m1 m2 m3 m4) λ_=>rfl) (h3.s X hC s6 o7) Ps Pe (bz x1 x2 x3 x4) iX
def WA(c:C):cb G F c:=by
 induction c with
 |skip=>exact Iy
 |seq a b ha hb=>exact Nx ha hb
 |asg i e=>exact Ny
 |fm i e=>exact Iz
 |uz i ix e=>exact IA
 |app i e=>exact Nz
 |ret e=>exact NA
 |ifs c t u ht hu=>exact NB ht hu
 |«while» c b hb=>exact EA hb
 |«for» is tg it b hb=>exact NG hb
 |wM i t es=>exact IB
 |AF i k e=>exact IF
 |pop i j=>exact NK
 |raise k=>exact EB
 |wL is e=>exact IC
 |Qi i j=>exact NH
 |CN i=>exact ID
 |upd i e=>exact NI
 |ext i e=>exact NJ
 |expr e=>exact IE
 |fst x fr it k v c1 y r f c2 m c3 p q u g w h1 h2 h3=>exact NN h1 h2 h3
end
structure ED(K:ay)(mg:Str->ae6)(G:GT)(x:Str)(d:Fd):Prop where
 ex:∃(st:Stmt) (fa:Addr) (fd:aka) (N ps:ac_),aqR/\arh/\aoE/\aBh/\awB/\asr/\N.length=d.kO
def kz{K:ay}(hO:∀a,O a->∃u,al1/\tW u)(r:ac5)(h1:ayr)(h2:aBV):SX K H O (λ_=>False) [] [] (λ_=>none) anT H ayw:=by
 have hl:=r.length;have sub:∀a,Os O (λ_=>none) a->O a:=λa z=>z.elim id λ⟨_,z⟩=>nomatch z;have nm:∀(i:Nat) (o:Bool) (dd:D),(ao d ds)[i]?=some (aku (o,dd))->o=false/\ds[i]?=some dd:=λi o dd hi=>by
  unfold ao at hi;by_cases aU:i<ds.length
  .rw[abr (by simpa using aU),aaC]at hi;refine aa (alk hi) λy e1 e2=>?_;cases e2;exact⟨rfl,e1⟩
  .rw[abC (by simpa using aU),aga]at hi;split at hi<;>cases hi
 refine⟨⟨λa ha=>hO a (sub a ha),λi o dd hi=>?_⟩,λi dd hi=>?_,λi j a h _=>(nomatch h),λi a h=>(nomatch h),ad2,.nil,λa ha=>let ⟨us,e,_⟩:=hO a ha;⟨_,e⟩,?_⟩
 .obtain⟨rfl,e⟩:=nm i o dd hi;refine aa (r.get e) λv e1 e2=>⟨v,?_,bu.weak e2 sub⟩;unfold L2.start;have aU:aui:=(aax.mp e1).1;rw[abr (by simpa using aU),aaC,e1];rfl
 .exact absurd (nm i true dd hi).1 aa1
 .unfold ao L2.start;simp only[aau,aap,adP];lia
def oZ(P:ac7)(w:World)(K:ay)(mg:Str->ae6)(base:Heap)(G:GT)(T:aBW)(n:Nat):Prop:=
 ∀(f:Nat) (x:Str),G.1[f]?=some x->∃(fa:Addr) (fd:aka) (ps:ac_),eL P w K mg base rM n fa fd ps (xD K ps.length aw9)/\aBh/\aAd/\aoE/\∀ds d,aFK->ds.length=ps.length
section
variable {P:ac7}{w:World}{K:ay}{mg:Str->Option Value}{base:Heap}{G:GT}{T:aBW}
def hU(hT:T[f]?=some d)(z:run T (n+1) f ds=some r):ayr/\out (ex aiT d.body ayw)=some r:=by
 unfold run at z;rw[hT]at z;dsimp only at z;split at z
 .rename_i q;exact⟨q,z⟩
 .cases z
def EE{st:Stmt}(hb:∀x∈gn,aC9)(qx:∀(x:Str) (i:Int),apb->∃t,al_)(ih:anJ)(F:aqR)(S:arh)(hT:T[f]?=some d)
  (ok:awB) (l1:asr) (l2:aBV):eL P w K mg base rM (n+1) fa fd ps auJ:=by
 refine F.ok S (λvs H Q E z=>?_) (λdu A outer s H vs Q E hr z=>?_)
 .exact vY z λ_ _ _ _ _ _ q _=>q
 .refine vY z λO ds r hO hR MZ hl k=>?_;obtain⟨q1,q2⟩:=hU hT MZ;have hCs:Cs (dH rM P w K mg base N x ah1 fa du A outer s H E).pZ G aiT:=by
   refine⟨⟨rfl,hr.units,hb,qx,λg y hy=>?_⟩,λ_=>rfl,S.nd,PassesOwn.never⟩;exact vY (ih g y hy) λga gd NO G1 G2 G3 G4 G5=>⟨n,ga,gd,NO,G1,hr,G2,G3,G4,G5⟩
  cases eo:ex aiT d.body ayw with
  |none=>rw[eo]at q2;cases q2
  |some o=>
   rw[eo]at q2;refine⟨tC K (ex aiT d.body),(WA d.body).ss _ hCs _ ok,H,O,λ_=>False,[],[],λ_=>none,ayw,o,kz hO hR q1 l2,eo,?_⟩;cases o with
   |ret dd=>cases q2;exact k
   |next ρ'=>cases q2;exact λow σ H' yK=>k .cq H' yK.same .cq
   |brk _=>cases q2
   |cont _=>cases q2
def xI(P:ac7)(w:World)(K:ay)(mg:Str->ae6)(base:Heap)(G:GT)(T:aBW)(f:Nat)(x:Str):Prop:=
 ∃(fa:Addr) (fd:aka) (ps:ac_),aBh/\aAd/\aoE/\(∀n ds d,aFK->aul)/\
  ∀n,(∀m,m<=n->arW)->eL P w K mg base rM (n+1) fa fd ps auJ
def ED.step(hb:∀x∈gn,aC9)(qx:∀(x:Str) (i:Int),apb->∃t,al_)(hT:T[f]?=some d)(h:ED K mg G x d):aAz:=by
 obtain⟨st,fa,fd,N,ps,F,S,B,m,ok,l1,l2⟩:=h;refine⟨fa,fd,ps,m,F.kp,B,λn ds r z=>?_,λn ih=>?_⟩
 .cases n with
  |zero=>exact nomatch z
  |succ n=>exact(hU hT z).1.trans l1.symm
 .exact EE hb qx (ih n ac9) F S hT ok l1 l2
def IG(h:∀(f:Nat) (x:Str),G.1[f]?=some x->aAz)(n:Nat):anJ:=by
 have all:∀n m:Nat,m<=n->arW:=by
  intro n;induction n with
  |zero=>
   intro m hm f x hx;obtain rfl:m=0:=(Nat.eq_zero_of_le_zero hm);refine vY (h f x hx) λfa fd ps mm kp B l _=>?_;have no:∀vs H Q E,¬xD K ps.length (run T 0 f) vs H Q E:=λvs H Q E z=>by
    refine SV z λ_ _ _ _ _ z _=>?_;cases z
   exact⟨fa,fd,ps,⟨λvs H Q E z=>aCC,λA outer s H args us vs Q E _ _ _ _ z=>aCC⟩,mm,kp,B,λds d z=>nomatch z⟩
  |succ n ih=>
   intro m hm;by_cases he:m=n+1
   .subst he;intro f x hx;exact vY (h f x hx) λfa fd ps mm kp B l st=>⟨fa,fd,ps,st n ih,mm,kp,B,l (n+1)⟩
   .exact ih m (aaY (acT hm he))
 exact all n n ac9
end
def NP{K:ay}(h:∀ns:aa0,ns.length<=m->aAH)(H:Hp)(a:Addr)(ns:aa0)(hl:ns.length<=m)(hS:aDv):
  xD K 1 aw9 [ab_] H (λv _=>aya) λ_ _ _=>False:=by
 refine⟨λ_=>False,[ae1],ag3,λ_ z=>aAy,.cons ?_ .nil,h ns hl,rfl,λv H' _ r=>r.xy⟩;rcases hS with hS|hS
 .exact .lst hS id (fJ ns)
 .exact .mod hS (fJ ns)
def Sa{l:ayI}{K:Params->ay}(hn:l.most=some 63)(P8:atq)(hnn:n<=65)
  (hY:∀(w:World) (h:Heap),YP w h->aqV)
  (F:∀(w:World) (mg:Str->ae6) (fa:Addr) (h:Heap),aqV->apj->au6->
   ∃fd:aka,(∀(s:ab5) (u:Value),ank)/\∀base:Heap,aFu->anK->eL l.prog w ar7 mg base rM n fa fd [x] (xD ar7 1 aw9))
  (hT:∀ns:aa0,ns.length<=63->aAH):
  PySem.W.WalkO q loose XP YP l.row.toRowW d [] (λf vs=>ayF):=
 L2.GB (n:=63) (k:=n) (x:=x) (CX:=λ_=>rM) (sp:=λw=>xD ar7 1 aw9) hn aa1 P8 (eK.mono (k:=65) ⟨rfl,by decide,by decide⟩ hnn) hY F (λw H a ns hl _ hS=>NP hT H a ns hl hS) λ_ _ _ _ _ z=>z
def Sb(h:l.length=1):∃a,l=[a]:=by
 cases l with
 |nil=>cases h
 |cons a l=>cases l with
  |nil=>exact⟨a,rfl⟩
  |cons _ _=>cases h
def NQ(h:l.length=2):∃a b,l=[a,b]:=by
 cases l with
 |nil=>cases h
 |cons a l=>
  obtain⟨b,rfl⟩:=Sb (agC h);exact⟨a,b,rfl⟩
def Sd(h:l.length=3):∃a b c,l=[a,b,c]:=by
 cases l with
 |nil=>cases h
 |cons a l=>
  refine O0 (NQ (agC h)) λb c ai=>?_;subst ai;exact⟨a,b,c,rfl⟩
end Py
namespace Py
noncomputable abbrev vf(d:D):ab4:=some (false,d)
noncomputable abbrev E.ci(i:Int):E:=.c ahH
noncomputable abbrev E.o(a:E):E:=.cons a .nil
noncomputable def hZ:Fd:=⟨2,2,(.seq (.ifs axH (akq (ak6 ayR)) .skip) (akq (ak6 al3)))⟩
noncomputable def o_(g:Nat):Fd:=⟨2,3,(.seq (ax9 aiy) (akq (ak6 (aBa (.bin .Add (.bin .Add (auW ajc) (auW (.ci 7))) ad_)))))⟩
noncomputable def iG:Fd:=⟨2,3,(.seq (ax9 aiI) (akq (ak6 (aBa (.bin .Add (.bin .Add (auW ajc) (auW avx)) ad_)))))⟩
noncomputable def gq(ns:aa0):D:= .lst azC
noncomputable def cell(ns:aa0)(k:Nat):Int:=ns[k]?.getD 0
noncomputable def IH(c k:Int):Int:=(c+7919*k+1)*48271%2147483647
noncomputable def wj(ns:aa0)(k:Nat):Int:=(IH amo k*IH amo k+7*IH amo k+k)%2147483629
noncomputable def tq(a k:Int):Int:=(a+104729*k+17)*69621%2147483647
noncomputable def drawn(a k:Int):Int:=(tq a k*tq a k+3*tq a k+k)%2147483629
def EF(a k:Int):0<=drawn a k:=acH _ aa1
def cV(h:T[f]?=some d)(hl:xs.length=d.par):run T (n+1) f xs=out (ex aiT d.body (ao d xs)):=by
 rw[run,h];exact aaB hl
def cJ(h:ar0):ex F azn ρ=some (akC ajG):=by
 rw[Vu,h];rfl
def av(h1:arf)(h2:F f xs=some d)(h3:asE):aEW:=by
 rw[Qm,h1];show(F f xs).bind _=_;rw[h2];show(if(rR ρ es&&!aF d)=true then none else some d)=_;rw[h3];rw[Bool.and_comm];rfl
section
variable {F:FT}{ρ:Env}{b:Bool}
def t8(h:ex F a ρ=some ar4):ex F (aAv a) ρ=ex F c ρ':=by
 rw[rV,h];rfl
def NR(h:ex F a ρ=some atv):ex F (aAv a) ρ=some atv:=by
 rw[rV,h];rfl
def EG(h1:aoh)(h2:aDr):ev F b (aEx o) ρ=bin o x y:=by
 rw[Vp,h1,h2];rfl
def Bq(h1:am8)(h2:apk)(hj:0<j):ev F b (aEx .Mod) ρ=some (al6 (i%j)):=(EG h1 h2).trans (aaB hj)
def TY(h0:ev F true ac6 ρ=some ahH)(h1:ev F true ad_ ρ=some (al6 j))(hj:0<j)(hk:0<k/\k<1073741824):ev F b (aln (anI (.ci k))) ρ=some (al6 (i/k%j)):=Bq ((EG h0 (y:= .int k) rfl).trans (aaB hk)) h1 hj
def EH(h1:am8)(h2:apk):ev F b (aEx .Add) ρ=some aDG:=EG h1 h2
def EI(h1:am8)(h2:apk)(m:ayk):ev F b (aEx .Mult) ρ=some (al6 (i*j)):=(EG h1 h2).trans (aaB m)
def B7(h1:aoh)(h2:aDr)(h3:cmp o x y=some k):ev F b (.cmp o a c) ρ=some (.bl k):=by
 rw[LU,h1,h2];show(cmp o x y).map D.bl=_;rw[h3];rfl
def kA(h:asy):out (ex F (.seq aDM t) ρ)=some d:=by
 rw[rV,LZ,h];rfl
def lR(h:k<n):place n k=some k:=(aaB alB).trans (aaB aGr)
def pb(h:aAR):ex F aB9 ρ=some ar5:=by
 rw[LY,h];rfl
def xA(h:ar0)(k:ex F c ajG=r):ex F (aAv azn) ρ=r:=(t8 (cJ h)).trans k
def xB(h:aAR)(k:ex F c (akv ag8)=r):ex F (aAv aB9) ρ=r:=(t8 (pb h)).trans k
def xG(h:ex F a ρ=some ar4)(k:ex F c ρ'=r):ex F (aAv a) ρ=r:=(t8 h).trans k
def xN(h:ev F false e ρ=some ami)(k:ex F c ρ=r):ex F (aAv (.ifs e t .skip)) ρ=r:=xG (by rw[k9,h];rfl) k
def xY(h:aAS)(k:ex F t ρ=some ar4)(k':ex F c ρ'=r):ex F aFj ρ=r:=xG (by rw[k9,h];exact k) k'
def xZ(h:aAS)(k:ex F t ρ=some atv):ex F aFj ρ=some atv:=NR (by rw[k9,h];exact k)
def xR(h:asy):ex F (aAv aDM) ρ=some atv:=NR (by rw[LZ,h];rfl)
def xO(h:T[f]?=some fd)(hl:xs.length=fd.par)(k:ex aiT fd.body (ao fd xs)=some atv):run T (n+1) f xs=some d:=by
 rw[cV h hl,k];rfl
def ntv(h:axV):ev F b aFr ρ=some (.bl !k):=by
 rw[Ql,h];rfl
def YG(h1:am8)(h2:ev F true c ρ=some af_)(hk:0<k/\k<1073741824):ev F b (aEx .FloorDiv) ρ=some (al6 (i/k)):=(EG h1 h2).trans (aaB hk)
def mtv(h1:ev F true o ρ=some x)(h2:arf)(h3:fj m x xs=v):ev F b (.fj m o es) ρ=v:=by
 rw[Vq,h1,h2];exact h3
def ixv(h1:aoh)(h2:ev F false e ρ=some y)(h3:item x y=v):ev F b (.idx a e) ρ=v:=by
 rw[LW,h1,h2];exact h3
def KA(h1:aoh)(h3:prim p [x]=v):ev F b (.prim p (.o a)) ρ=v:=by
 rw[GJ,mP,h1];exact h3
def tp2(h:aCu)(h2:ev F false c ρ=some y):ev F b (akJ (.cons a (.o c))) ρ=some (akJ [x,y]):=by
 rw[LV,mP,h,mP,h2];rfl
def YH(h1:gz ρ i=some q)(h2:aCu)(h3:(c_ q.1 x).bind (find q.2.1 q.2.2)=v):ev F b (.nY i a) ρ=v:=by
 rw[Vt,h1,h2];exact h3
def mC(h:ex F c aEO=some ar4):a_ (λx ρ=>(aH 0 x).bind λys=>(de ρ [i] ys).bind λρ'=>ex F c ρ') (x::r) ρ=a_ (λx ρ=>(aH 0 x).bind λys=>(de ρ [i] ys).bind λρ'=>ex F c ρ') r ρ':=by
 rw[a_];show(ex F c aEO).bind _=_;rw[h];rfl
def tp1(h:ev F false a ρ=some d):ev F b (akJ (.o a)) ρ=some (akJ [d]):=by
 rw[LV,mP,h];rfl
def YI(h:ev F false a ρ=some (.bl !k)):ev F b (.CK k apa) ρ=some (.bl !k):=by
 rw[Qk,GK,h];cases k<;>rfl
def Se(h:axV)(h2:ev F b (.CK k r) ρ=v):ev F b (.CK k apa) ρ=v:=by
 rw[Qk,GK,h];exact(congrArg (axO D.bl) aDQ).trans h2
end
def II(ns:aa0)(k:Nat):out (ex F hZ.body (aoy hZ))=some aBF:=by
 have hl:(ns.map D.int).length =ns.length:=aap ..;have t:ev F false axH (aoy hZ)=some (.bl (aG8 ((k:Int)<((ns.map D.int).length :Nat)))):=B7 (x:= .int k) (y:= .int ((ns.map D.int).length :Nat)) rfl rfl rfl;rw[hl]at t;by_cases h:k<ns.length
 .rw[decide_eq_true aGr]at t;refine congrArg out (NR (d:= .int amo) ?_);rw[k9,t];have i:ev F true ayR (aoy hZ)=some aBF:=by
   show(place (ns.map D.int).length k).bind (λj=>(ns.map D.int)[j]?)=_;rw[lR (hl.symm▸h)];show(ns.map D.int)[k]?=_;rw[aaC,cell,aai h];rfl
  show ex F (akq (.ret _)) _=_;rw[rV,LZ,i];rfl
 .rw[decide_eq_false λz=>h (adB.mp z)]at t;refine(congrArg out (t8 (ρ':=ao hZ [gq ns,af_]) ?_)).trans ?_
  .rw[k9,t];rfl
  .rw[cell,aaS (aaV h)];rfl
def gr(i:Int)(h1: -(2 ^ 64)<j)(h2:j<2 ^ 64):ayk:=agY.mpr (ant ao0)
def nA(j:Int)(h1: -(2 ^ 64)<i)(h2:i<2 ^ 64):ayk:=agY.mpr (akN ao0)
def KC(hm:0<m/\m<2 ^ 64):nZ (n%m) (n%m)=true:=gr _ (Int.lt_of_lt_of_le aa1 (acH _ (aeX hm.1))) (Int.lt_trans (acI _ hm.1) hm.2)
def NS(ns:aa0)(k:Nat)(hk:k<1000)(hF:F g [gq ns,af_]=some aBF):out (ex F (o_ g).body aBA)=some axp:=by
 have c1:ev F true (anH g) aBA=some aBF:=av (xs:=[gq ns,af_]) rfl hF rfl;have a2:ev F false aiy aBA=some (al6 (IH amo k)):=
  Bq (aHa (EH (ala c1) rfl)) rfl aa1
 exact(congrArg out (t8 (cJ a2))).trans ak1
def EJ(a k:Int):out (ex F iG.body aGo)=some aBE:=by
 have a2:ev F false aiI aGo=some (al6 (tq a k)):=
  Bq (aHa (EH (ala rfl) rfl)) rfl aa1
 exact(congrArg out (t8 (cJ a2))).trans ak1
noncomputable def perms:Nat->List aa0
 |0=>[[]]
 |n+1=>(perms n).flatMap λp=>(List.range (n+1)).map λk=>p.take k++(n:Int)::p.drop k
def rk(h:aid)(hk:k<=n):p.take k++(n:Int)::p.drop k∈perms (n+1):=
 abB.mpr ⟨p,h,aaz.mpr ⟨k,abe.mpr (abK hk),rfl⟩⟩
theorem aR:∀{n:Nat}{p:aa0},aid->p.length=n
 |0,p,h=>by
  cases aar.mp h;rfl
 |n+1,p,h=>by
  refine aa (abB.mp h) λq hq h=>aa azV λk hk ai=>?_;subst ai;have:=aR hq;have xj:=abe.mp hk;rw[aau,aci,aaL,adH];exact O6 this xj
noncomputable def tp(p:aa0):D:= .tup anV
def xJ{xs:ac1}:∀{p:aa0},aI xs=some p->xs=p.map .int :=by
 induction xs with
 |nil=>intro p h;cases h;rfl
 |cons x r ih=>
  intro p h;cases x with
  |int i=>
   have h:(aI r).map (i:: ·)=some p:=h;cases e:aI r with
   |none=>rw[e]at h;cases h
   |some q=>
    rw[e]at h;cases h;rw[ih e];rfl
  |_=>cases h
noncomputable def NT(n:Nat):air->Bool
 |some (.tup xs)=>match aI xs with
  |some p=>(perms n).contains p
  |none=>false
 |_=>false
def zB(h:NT n o=true):∃p∈perms n,o=some (tp p):=by
 cases o with
 |none=>cases h
 |some d=>cases d with
  |tup xs=>
   cases e:aI xs with
   |none=>
    have h:(match aI xs with|some p=>(perms n).contains p|none=>false)=true:=h;rw[e]at h;cases h
   |some p=>
    have h:(match aI xs with|some p=>(perms n).contains p|none=>false)=true:=h;rw[e]at h;exact⟨p,List.contains_iff_mem.mp h,by rw[xJ e];rfl⟩
  |_=>cases h
noncomputable def EK:C:=(.seq (.uz 2 alq aqK) (ayY (.uz 2 aqK alq)))
noncomputable def NU:C:=(ayY (.for [7] 0 (.iO (.u 5)) (akq (.uz 2 (aln (.bin .Add (.var 6) (.var 7))) (aln (.bin .Add (.var 6) (.bin .Mod (awu (.var 7)) (.var 5))))))))
noncomputable def IJ(g:Nat):C:=(.seq (.asg 9 amN) (akq (.fm 8 aEm)))
noncomputable def lU(g:Nat):Fd:=⟨2,10,(.seq ax3 (.seq (.ifs (akB al3) (.seq (.asg 3 (aln (anI avx))) (.seq (aCl 4) EK)) .skip)
 (.seq (.ifs (akB aii) (.seq (.asg 5 (.bin .Add aii (aln (anI avx)))) (.seq (aCl 6) NU)) .skip)
 (.seq (.fm 8 aqd) (.seq (.for [7] 0 ar_ (IJ g)) (akq (ak6 (akM (.u 8)))))))))⟩
noncomputable abbrev vi(i:Int):ab4:=vf ahH
noncomputable abbrev vo(xs:ac1):ab4:=some (true,ag8)
noncomputable def zC(a:Int)(s o1 o2:Nat):Env:=[vi a,vi s,vo apB,vi o1,vi o2,none,none,none,none,none]
noncomputable def EL(a:Int)(s m o:Nat):Env:=[vi a,vi s,vo apB,none,none,vi m,vi o,none,none,none]
set_option maxHeartbeats 0 in
def EM(F:FT)(a:Int):(List.range 6).all (λs=>(List.range (s+1)).all λo1=>(List.range (s+1)).all λo2=>NT (s+1) (out (ex F EK (zC a (s+1) o1 o2))))=true:=by kernel_rfl
set_option maxHeartbeats 0 in
def IK(F:FT)(a:Int):(List.range 6).all (λs=>(List.range (s+1)).all λm=>(List.range (s+1)).all λo=>NT (s+1) (out (ex F NU (EL a (s+1) (m+1) o))))=true:=by kernel_rfl
def all_range(h:(List.range n).all f=true){k:Nat}(hk:k<n):f k=true:=abZ.mp h k (abe.mpr hk)
def IL(F:FT)(a:Int)(h0:1<=s)(h6:s<=6)(h1:o1<s)(h2:o2<s):∃p∈perms s,out (ex F EK (zC a s o1 o2))=some (tp p):=by
 obtain⟨t,rfl⟩:∃t,s=t+1:=⟨s-1,(abl (acF h0))⟩;exact zB (all_range (all_range (all_range (EM F a) (k:=t) (h6)) h1) h2)
def NV(F:FT)(a:Int)(h0:1<=s)(h6:s<=6)(h1:m<s)(h2:o<s):∃p∈perms s,out (ex F NU (EL a s (m+1) o))=some (tp p):=by
 obtain⟨t,rfl⟩:∃t,s=t+1:=⟨s-1,(abl (acF h0))⟩;exact zB (all_range (all_range (all_range (IK F a) (k:=t) (h6)) h1) h2)
def EN(h:out o=some (tp p)):o=some aBL:=by
 cases o with
 |none=>cases h
 |some o=>cases o<;>cases h;rfl
noncomputable def h_(a s:Int)(x2:ab4)(made:aa0)(x7 x9:ab4):Env:=[vi a,vi s,x2,none,none,none,none,x7,vo (made.map .int),x9]
def EO(xs:ac1)(k:Nat)(h:k<=xs.length):v5 xs none (aku (k:Int))=xs.take k:=by
 unfold v5 bound;simp only[adK,ahn];congr 1;rw[aaF axs];exact O7 h
def vA(xs:ac1)(k:Nat)(h:k<=xs.length):v5 xs (aku (k:Int)) none=xs.drop k:=by
 unfold v5 bound;simp only;have e:(if(k:Int)<0 then max ((k:Int)+(xs.length:Int)) 0 else min (k:Int) (xs.length:Int)).toNat =k:=by
  rw[aaF axs];exact O7 h
 rw[e,abP ab1]
def ER(hF:aoC)(hm:made∈perms k)(hk:k<=1000):
  ∃at'≤k,ex F (IJ g) aBg=some (akC (h_ a s x2 (made.take at'++(k:Int)::made.drop at') (vi k) (vi at'))):=by
 have Bg:apo:=rfl;have hl:=aR hm;have qq:(made.map D.int).length =k:=(aap ..).trans hl;have mS:(0:Int)<(k:Int)+1:=Int.add_le_add alB aa1;obtain⟨t,ht⟩:=aeH (acH y (aeX mS));have WB:t<=k:=aaY (adB.mp (ht▸acI y mS));refine⟨t,WB,?_⟩
 let M:List D:=made.map .int
 let YJ:Env:=[vi a,vi s,x2,none,none,none,none,vi k,vo M,x9]
 let OS:Env:=[vi a,vi s,x2,none,none,none,none,vi k,vo M,vi t]
 have a9:ev F false amN YJ=some (al6 t):=by
  have l1:ev F true (awu (akF (.u 8))) YJ=some (al6 ((k:Int)+1)):=(EG (x:= .int M.length) (y:= .int 1) rfl rfl).trans (congrArg (λn:Nat=>some (D.int ((n:Int)+1))) qq);rw[Bq (av (xs:=[at0,af_]) rfl hF rfl) l1 mS,ht]
 have c1:ev F true (.sl (ak5 8) .nil (.u 9)) OS=some (akx (M.take t)):=congrArg (λz=>some (D.lst z)) (EO M t (qq.symm▸WB));have c2:ev F true apP OS=some (akx (M.drop t)):=congrArg (λz=>some (D.lst z)) (vA M t (qq.symm▸WB));have z1:(M.take t).length+1<=k+1:=adJ (aam (agO t M) (aaw qq));have b1:ev F true aji OS=some (akx (M.take t++[af_])):=(EG c1 (y:= .lst [af_]) rfl).trans (aaB (aam z1 (akH (adJ hk))));have b2:ev F false aEm OS=some aur:=(EG b1 c2).trans (aaB (by
  rw[aau];exact aam (aek z1 (aam (acb t M).length_le (aaw qq))) (akH (aek (adJ hk) hk))))
 have e:h_ a s x2 (made.take t++(k:Int)::made.drop t) (vi k) (vi t)=put OS 8 true aur:=by
  show _=[vi a,vi s,x2,none,none,none,none,vi k,vo _,vi t];rw[h_,abd,aaX,aeF,ahi,aaZ];rfl
 rw[e];exact(t8 (ρ':=OS) (cJ a9)).trans (t8 (pb b2))
theorem vB(hF:∀k:Nat,∃y,aoC):
  ∀(m k:Nat) (made:aa0) (x7 x9:ab4),made∈perms k->k+m<=1000->∃p∈perms (k+m),∃WC WD,a_ (λx ρ=>(aH 0 x).bind λys=>(de ρ [7] ys).bind λρ'=>ex F (IJ g) ρ') (bS k m) arc=some (akC (h_ a s x2 p WC WD))
 |0,k,made,x7,x9,hm,_=>⟨made,hm,x7,x9,rfl⟩
 |m+1,k,made,x7,x9,hm,hk=>by
  obtain⟨y,hy⟩:=hF k;refine aa (ER (s:=s) (x2:=x2) (x7:=x7) (x9:=x9) hy hm (aam aiD hk)) λt ht e=>?_;obtain⟨p,hp,WC,WD,e2⟩:=vB (s:=s) (x2:=x2) hF m (k+1) _ (vi k) (vi t) (rk hm ht) (by lia);refine⟨p,by rw[show k+(m+1)=k+1+m by exact abl alA];exact hp,WC,WD,?_⟩;rw[bS,a_];show(ex F (IJ g) aBg).bind _=_;rw[e];exact e2
def IM(ha:0<=a)(h1:1<=s)(h6:s<=6)(hF:∀k:Nat,∃y,aoC):∃p∈perms s,out (ex F (lU g).body aBB)=some (tp p):=by
 have hr:eM [ahz]=some apB:=by
  show(if -(2 ^ 62)<=(s:Int)/\(s:Int)<=bW then some (bS 0 (s:Int).toNat) else none)=_;exact aaB ⟨aaW _,Int.ofNat_le.mpr awM⟩
 have KD:(0:Int)<s:=adB.mpr h1;obtain⟨o1,e1⟩:=aeH (acH (a/3) (aeX KD));obtain⟨o2,e2⟩:=aeH (acH (a/18) (aeX KD));have q1:o1<s:=adB.mp (e1▸acI (a/3) KD);have q2:o2<s:=adB.mp (e2▸acI (a/18) KD)
 let F7:Env:=[vi a,vi s,vo apB,none,none,none,none,none,none,none]
 have s2:ex F ax3 aBB=some (akC F7):=by
  rw[LY,Qn];show((eM [ahz]).bind aFD).bind _=_;rw[hr];rfl
 have t2:∀c:Int,ev F false (akB (.ci c)) F7=some (.bl (a%3==c)):=λc=>by
  rw[LU,Bq (i:=a) (j:=3) rfl rfl aa1];rfl
 have go:∀{p:aa0}{c:Int}{t w:C},a%3=c->ex F t F7=some aBL->ex F asT F7=some aBL:=λ{p c t w} e h=>by
  refine NR ?_;rw[k9,t2,beq_iff_eq.mpr e];exact h
 have no:∀{c:Int}{t w:C},¬a%3=c->ex F asT F7=ex F w F7:=λ{c t w} e=>by
  refine t8 ?_;rw[k9,t2,beq_eq_false_iff_ne.mpr e];rfl
 by_cases c0:a%3=0
 .refine aa (IL F a h1 h6 (o1:=o1) (o2:=o2) q1 q2) λp hp e=>⟨p,hp,congrArg out ((t8 s2).trans (go c0 ?_))⟩;exact(t8 (cJ ((TY rfl rfl KD aa1).trans (congrArg (λz=>an7) e1)))).trans ((t8 (cJ ((TY rfl rfl KD aa1).trans (congrArg (λz=>an7) e2)))).trans (EN e))
 .by_cases c1:a%3=1
  .refine aa (NV F a h1 h6 (m:=o1) (o:=o2) q1 q2) λp hp e=>⟨p,hp,congrArg out ((t8 s2).trans ((no c0).trans (go c1 ?_)))⟩;refine(t8 (cJ (d:= .int ((o1+1:Nat):Int)) ?_)).trans ((t8 (cJ ((TY rfl rfl KD aa1).trans (congrArg (λz=>an7) e2)))).trans (EN e));exact(EG (x:= .int 1) rfl ((TY rfl rfl KD aa1).trans (congrArg (λz=>an7) e1))).trans (congrArg (λz=>an7) (Int.add_comm 1 (o1:Int)))
  .obtain⟨p,hp,x7,x9,e⟩:=vB (a:=a) (s:=s) (x2:=vo apB) hF s 0 [] none none aj3 (aam (aaw (abI s)) awM);rw[abI]at hp;refine⟨p,hp,congrArg out ((t8 s2).trans ((no c0).trans ((no c1).trans ((t8 (pb (xs:=[]) rfl)).trans ((t8 (ρ':=h_ a s (vo apB) p x7 x9) ?_).trans (NR ?_))))))⟩
   .rw[L4];show(eM [ahz]).bind _=_;rw[hr];exact e
   .rfl
theorem tu:∀(n:Nat) (p:aa0),p.Nodup->(∀x∈p,0<=x/\x<n)->p.length<=n
 |0,p,_,h=>by
  cases p with
  |nil=>exact aas _
  |cons x r=>have:=h x aaq;exact absurd this.2 (acx this.1)
 |n+1,p,nd,h=>by
  have h1:(p.erase (n:Int)).length <=n:=tu n _ (nd.sublist List.erase_sublist) λx hx=>by
   have h2:=h x (List.mem_of_mem_erase hx);have h3:x≠n:=λe=>by
    subst e;exact(List.Nodup.mem_erase_iff nd).mp hx |>.1 rfl
   exact K1 (And.intro h2.1 h2.2) h3
  by_cases hm:(n:Int)∈p
  .rw[afX hm]at h1;exact Zn (abK h1)
  .rw[List.erase_of_not_mem hm]at h1;exact afT h1
theorem az:∀{n:Nat}{p:aa0},p∈perms n↔p.length=n/\p.Nodup/\∀x∈p,0<=x/\x<n
 |0,p=>by
  simp only[perms,aar];constructor
  .rintro rfl;exact⟨rfl,adL,λx h=>nomatch h⟩
  .rintro⟨h,_⟩;exact agf.mp h
 |n+1,p=>by
  constructor
  .intro h;refine aa (abB.mp h) λq hq h=>aa azV λk hk ai=>?_;subst ai;refine c6 aze λl nd bd=>?_;have xj:=abe.mp hk;have TZ:(q.take k++q.drop k).Nodup :=by rw[ach];exact nd
   have hn:(n:Int)∉q:=λz=>by have:=bd _ z;exact acx (aeq this.2) this.2
   have nt:(n:Int)∉q.take k:=λz=>hn (abS z);have ndr:(n:Int)∉q.drop k:=λz=>hn (acW z);refine⟨by simp;exact O6 l xj,?_,λx hx=>?_⟩
   .rw[abL]at TZ⊢;refine⟨TZ.1,abo.mpr ⟨ndr,TZ.2.1⟩,λa ha b hb=>?_⟩;rcases aat.mp hb with rfl|hb
    .exact λe=>nt (e▸ha)
    .exact TZ.2.2 a ha b hb
   .rcases aaH.mp hx with z|z
    .have:=bd x (abS z);exact And.intro this.1 (adn (aeq this.2) (agg _))
    .rcases aat.mp z with rfl|z
     .exact And.intro (aaW _) (agg _)
     .have:=bd x (acW z);exact And.intro this.1 (adn (aeq this.2) (agg _))
  .rintro⟨l,nd,bd⟩;have hm:(n:Int)∈p:=by
    by_cases hm:(n:Int)∈p
    .exact hm
    .have:=tu n p nd λx hx=>by
      have h2:=bd x hx;have h3:x≠n:=λe=>hm (e▸hx);exact K1 (And.intro h2.1 h2.2) h3
     exact absurd l (aaN (abK this))
   refine O0 (List.append_of_mem hm) λu v aK=>?_;subst aK;rw[abL,abo]at nd;have hq:u++v∈perms n:=by
    refine az.mpr ⟨by simp at l⊢;exact agC l,?_,λx hx=>?_⟩
    .rw[abL];exact⟨nd.1,nd.2.1.2,λa ha b hb=>nd.2.2 a ha b aqJ⟩
    .have yK:x∈u++(n:Int)::v:=by
      rcases aaH.mp hx with z|z
      .exact aaO _ z
      .exact aaJ _ (akQ z)
     have h2:=bd x yK;have h3:x≠n:=λe=>by
      subst e;rcases aaH.mp hx with z|z
      .exact nd.2.2 _ z _ aaq rfl
      .exact nd.2.1.1 z
     exact K1 (And.intro h2.1 h2.2) h3
   have:=rk hq (k:=u.length) (by simp at l;exact B8 (agL l) aiD);rw[List.take_left,List.drop_left]at this;exact this
noncomputable def comp(p q:aa0):aa0:=p.map λi=>q.getD i.toNat 0
def getD_mem{q:aa0}(h:k<q.length):q.getD k 0∈q:=by
 rw[aaD,aai h];exact acL h
def cZ{n:Nat}(hp:aid)(hq:ayh):comp p q∈perms n:=by
 refine c6 alJ λlp np bp=>c6 aze λlq nq bq=>az.mpr ⟨by simp[comp,lp],?_,λx hx=>?_⟩
 .unfold comp;rw[abD]at np⊢;rw[abz];refine np.imp_of_mem λ{a b} ha hb xt e=>xt ?_;have h1:=bp a ha;have h2:=bp b hb;have l1:a.toNat<q.length:=aoF;have l2:b.toNat<q.length:=(B8 (abl lq) (K0 h2.1 h2.2));rw[aaD,aaD,aai l1,aai l2]at e;have e':q[a.toNat]=q[b.toNat]:=e;have:=(List.getElem?_inj (j:=b.toNat) l1 nq).mp (by rw[aai l1,aai l2,e']);exact Xy h1.1 h2.1 this
 .refine aa awJ λi hi ai=>?_;subst ai;have h1:=bp i hi;exact bq _ (getD_mem aoF)
def js(hp:aid)(hq:ayh):comp avd r=comp p (comp q r):=by
 refine c6 alJ λlp np bp=>c6 aze λlq nq bq=>?_;unfold comp;rw[abc];refine ade λi hi=>?_;have h1:=bp i hi;have l1:i.toNat<q.length:=aoF;show r.getD (q.getD i.toNat 0).toNat 0=_;rw[aaD (l:=List.map _ q),aaC,aaD (l:=q),aai l1];rfl
noncomputable def inv:aa0->Nat
 |[]=>0
 |x::r=>(r.filter λy=>decide (y<x)).length+inv r
noncomputable def odd(p:aa0):Bool:=inv p%2==1
noncomputable def bR(n:Nat):aa0:=(List.range n).map λ(k:Nat)=>Int.ofNat k
def kB(hp:aid):comp p (bR n)=p:=by
 refine c6 alJ λlp np bp=>?_;unfold comp;rw[ade (g:=id),agh];intro i hi;have h1:=bp i hi;have l1:i.toNat<n:=(K0 h1.1 h1.2);simp[bR,aaC,acQ l1];lia
theorem fR(h:α->D)(g:α->D)(f:D->as_):∀xs:ahB,(∀x∈xs,f (h x)=some (aku (g x)))->walk f ase=some (xs.map g)
 |[],_=>rfl
 |x::r,e=>by
  rw[aaX,walk,e x aaq];show(walk f (r.map h)).map _=_;rw[fR h g f r λy hy=>e y asi];rfl
noncomputable def e_:Fd:=⟨2,2,(akq (ak6 (akM (.o (.comp [1] 0 auG .nil anN)))))⟩
def zD(h0:0<=i)(h1:i<q.length):item (tp q) ahH=some (al6 aEN):=by
 show(place (q.map D.int).length i).bind _=_;unfold place;rw[aaB h0,aaB (by rw[aap];exact h1)];show(q.map D.int)[i.toNat]?=_;rw[aaC,aaD,aai (K0 h0 h1)];rfl
def vD(hn:aFY)(hp:aid)(hq:ayh):out (ex F e_.body (ao e_ [tp p,tp q]))=some (tp avd):=by
 refine c6 alJ λlp np bp=>c6 aze λlq nq bq=>?_;have w:=fR (α:=Int) D.int (λi=> .int aEN) (λx=>(aH 0 x).bind λys=>(k7 F true .nil avM).bind λk=>if k then(ev F false anN avM).map some else some none) p (λx hx=>by
  have h1:=bp x hx;show(item (tp q) (al6 x)).map some=_;rw[zD h1.1 (aes h1.2 (Int.le_of_eq (congrArg _ (abl lq))))];rfl)
 have hl:(p.map D.int).length <=bW:=by rw[aap,lp];unfold bW;exact aam hn aa1
 have e:ev F true akX [aqq,vf (tp q)]=some (akx ((comp p q).map .int)):=by
  show(if(p.map D.int).length <=bW then _ else _)=_;rw[aaB hl];show(walk _ (p.map D.int)).map D.lst=_;rw[w];simp[comp]<;>rfl
 show out ((((ev F true akX [aqq,vf (tp q)]).bind _).bind _ |>.map _).bind _)=_;rw[e];rfl
theorem vE:∀a b:aa0,BZ (a.map .int) (b.map .int)=decide (a=b)
 |[],[]=>rfl
 |[],_::_=>rfl
 |_::_,[]=>rfl
 |x::a,y::b=>by
  show(pV (al6 x) (al6 y)&&BZ (a.map .int) (b.map .int))=_;rw[vE a b];show((x==y)&&decide (a=b))=_;by_cases h1:x=y
  .subst h1;simp
  .simp[h1]
def ES(a b:aa0):pV (tp a) (tp b)=decide (a=b):=vE a b
def ET(a:aa0)(n:Nat):gH (tp a) (n+1)=true:=kZ n a
def EU(a:aa0):gH (tp a) 60=true:=ET a 59
theorem vF:∀(n k:Nat),bS (k:Int) n=(List.range' k n).map λ(j:Nat)=>D.int (j:Int)
 |0,k=>rfl
 |n+1,k=>by
  rw[bS,aff,aaX];have e:(k:Int)+1=((k+1:Nat):Int):=by push_cast;rfl
  rw[e,vF n (k+1)]
def fS(n:Nat):bS 0 n=(bR n).map .int :=by
 have:=vF n 0;rw[show((0:Nat):Int)=0 from rfl]at this;rw[this,bR,abc,afo];rfl
def eF{n:Nat}(h:aFY):eM [.int n]=some (bS 0 n):=by
 show(if -(2 ^ 62)<=(n:Int)/\(n:Int)<=bW then some (bS 0 (n:Int).toNat) else none)=_;rw[aaB ⟨alB,by unfold bW;lia⟩];rfl
noncomputable def kC:Fd:=⟨1,1,(akq (ak6 (.uw .tuple (.u 0))))⟩
def EV{n:Nat}(h:aFY):out (ex F kC.body (ao kC [.int n]))=some (tp (bR n)):=by
 refine kA ?_;rw[Qn];show(eM [.int n]).bind aCW=_;rw[eF h];show some (D.tup (bS 0 n))=_;rw[fS];rfl
def ic(n:Nat):bR n∈perms n:=by
 refine az.mpr ⟨by simp[bR],?_,λx hx=>?_⟩
 .unfold bR;rw[abD,abz];exact(abD.mp agn).imp λ{a b} h e=>h (adF e)
 .refine aa awJ λk hk ai=>?_;subst ai;have:=abe.mp hk;exact⟨aaW k,by show(k:Int)<n;lia⟩
def ph(hp:aid):comp (bR n) p=p:=by
 refine c6 alJ λlp np bp=>?_;apply acC;intro i;unfold comp bR;rw[abc,aaC];by_cases hi:i<n
 .rw[acQ hi];show some (p.getD i 0)=_;rw[aaD,aai amT];rfl
 .rw[aaS (by simp;exact aaV hi),aaS (aam az2 az4)];rfl
def Br(hp:aid){k:Int}(h0:0<=k)(h1:k<n):k∈p:=by
 refine c6 alJ λlp np bp=>?_;by_cases hm:k∈p
 .exact hm
 .have:=tu n (k::p) (abo.mpr ⟨hm,np⟩) λx hx=>by
   rcases aat.mp hx with rfl|hx
   .exact⟨h0,h1⟩
   .exact bp x hx
  rw[aaL]at this;exact absurd lp (aaN this)
theorem pj:∀{p:aa0},k∈p->∃j,dz k p=some j
 |[],h=>nomatch h
 |n::r,h=>by
  unfold dz;by_cases e:n=k
  .exact⟨0,aaB e⟩
  .rw[aaF e];obtain⟨j,hj⟩:=pj (List.mem_of_ne_of_mem (abF e) h);exact⟨j+1,by rw[hj];rfl⟩
theorem pv:∀{p:aa0}{j:Nat},dz k p=some j->p[j]?=some k
 |[],_,h=>by cases h
 |n::r,j,h=>by
  unfold dz at h;split at h
  .rename_i e;cases h;subst e;rfl
  .cases e:dz k r with
   |none=>rw[e]at h;cases h
   |some i=>rw[e]at h;cases h;simpa using pv e
theorem tD:∀{p:aa0}{j:Nat}{k:Int},p.Nodup->p[j]?=some k->dz k p=some j
 |[],_,_,_,h=>by simp at h
 |n::r,0,k,_,h=>by
  simp at h;unfold dz;rw[aaB h]
 |n::r,j+1,k,nd,h=>by
  have h':r[j]?=some k:=by simpa using h
  have hn:n≠k:=λe=>(abo.mp nd).1 (e▸abb h');unfold dz;rw[aaF hn,tD (abo.mp nd).2 h'];rfl
noncomputable def ip(p:aa0):aa0:=(List.range p.length).map λ(k:Nat)=>(((dz (k:Int) p).getD 0:Nat):Int)
def lV(hp:aid){k:Nat}(hk:k<n):∃j:Nat,dz (k:Int) p=some j/\(ip p)[k]?=some (j:Int)/\j<n/\p[j]?=some (k:Int):=by
 refine c6 alJ λlp np bp=>?_;obtain⟨j,hj⟩:=pj (Br hp (k:=(k:Int)) alB (by lia));have hg:=pv hj;refine⟨j,hj,?_,by have:=(aax.mp hg).1;exact aaj this az2,hg⟩;unfold ip;rw[aaC,acQ (atI (aaw (abl lp)))];simp[hj]
def tE:(ip p).length =p.length:=by simp[ip]
def IP(hp:aid):comp p (ip p)=bR n:=by
 refine c6 alJ λlp np bp=>?_;apply acC;intro i;unfold comp bR;rw[aaC,aaC];by_cases hi:i<n
 .have hb:=bp p[i] (acL amT);rw[acQ hi,aai amT];obtain⟨k,hk⟩:∃k:Nat,p[i]=(k:Int):=⟨p[i].toNat,(abl (acz hb.1))⟩;have FZ:k<n:=by lia
  refine F_ (lV hp FZ) λj h1 h2 h3 h4=>?_;have v8:dz (k:Int) p=some i:=tD np (by rw[aai amT,hk]);rw[h1]at v8;have e:=aaQ v8;subst e;show some ((ip p).getD (p[j].toNat) 0)=some (Int.ofNat j);rw[hk,abU,aaD,h2];rfl
 .have l1:(List.range n)[i]?=none:=aaS (by simp;exact aaV hi);have l2:p[i]?=none:=aaS (aam az2 az4);rw[l1,l2];rfl
def zE(hp:aid):comp (ip p) p=bR n:=by
 refine c6 alJ λlp np bp=>?_;apply acC;intro i;unfold comp bR;rw[aaC,aaC];by_cases hi:i<n
 .refine F_ (lV hp hi) λj h1 h2 h3 h4=>?_;rw[h2,acQ hi];show some (p.getD ((j:Int).toNat) 0)=some (Int.ofNat i);rw[abU,aaD,h4];rfl
 .have l1:(List.range n)[i]?=none:=aaS (by simp;exact aaV hi);have l2:(ip p)[i]?=none:=aaS (by rw[tE];exact aam az2 az4);rw[l1,l2];rfl
def gu(hp:aid):ip p∈perms n:=by
 refine c6 alJ λlp np bp=>az.mpr ⟨by rw[tE,lp],?_,λx hx=>?_⟩
 .rw[abD,acu];intro i j hi hj v8 e;rw[tE,lp]at hi hj;refine F_ (lV hp hi) λa a1 a2 a3 a4=>F_ (lV hp hj) λb b1 b2 b3 b4=>?_;rw[aai (by rw[tE];lia)]at a2 b2;have ea:=aaQ a2;have eb:=aaQ b2;rw[ea,eb]at e;have:a=b:=(adF e);subst this;rw[a4]at b4;have:=aaQ b4;lia
 .refine aa awJ λk hk ai=>?_;subst ai;have xj:=abe.mp hk;refine F_ (lV hp (k:=k) (aaj xj az2)) λj h1 _ h3 _=>?_;rw[h1];exact⟨aaW _,by show(j:Int)<n;lia⟩
def Bs(hp:aid)(hq:ayh)(h:comp p q=bR n):q=ip p:=by
 have e:comp (comp (ip p) p) q=comp (ip p) avd:=js (gu hp) hp;rw[zE hp,ph hq,h,kB (gu hp)]at e;exact e
noncomputable def pz:Fd:=⟨1,1,(akq (ak6 (akM (.o ah_))))⟩
theorem cF:∀p:aa0,aI anV=some p
 |[]=>rfl
 |x::p=>by
  show(aI anV).map (x:: ·)=_;rw[cF p];rfl
def IQ{n:Nat}(hn:aFY)(hp:aid):out (ex F pz.body (ao pz [tp p]))=some (tp (ip p)):=by
 refine c6 alJ λlp np bp=>?_;have w:=fR (α:=Nat) (λk=>D.int (k:Int)) (λ(k:Nat)=> .int (((dz (k:Int) p).getD 0:Nat):Int)) (λx=>(aH 0 x).bind λys=>(k7 F true .nil aCt).bind λk=>if k then(ev F false (.fj .index ad_ (.u 0)) aCt).map some else some none) (List.range n) (λk hk=>by
  have xj:=abe.mp hk;refine aa (lV hp xj) λj h1 _=>?_;show(fj .index (tp p) [.int (k:Int)]).map some=_;show(((aI anV).bind λns=>(dz (k:Int) ns).map λ(i:Nat)=>D.int (i:Int))).map some=_;rw[cF];show((dz (k:Int) p).map λ(i:Nat)=>D.int (i:Int)).map some=_;rw[h1];rfl)
 have hr:eM [.int ((p.map D.int).length :Nat)]=some ((List.range n).map λ(k:Nat)=>D.int (k:Int)):=by
  rw[aap,lp,eF hn,fS,bR,abc];rfl
 have hl:((List.range n).map λ(k:Nat)=>D.int (k:Int)).length <=bW:=by rw[aap,aeT];unfold bW;exact aam hn aa1
 have e:ev F true ah_ [aqq]=some (akx ((ip p).map .int)):=by
  show(eM [.int ((p.map D.int).length :Nat)]).bind _=_;rw[hr];show(if((List.range n).map λ(k:Nat)=>D.int (k:Int)).length <=bW then _ else _)=_;rw[aaB hl];show(walk _ ((List.range n).map λ(k:Nat)=>D.int (k:Int))).map D.lst=_;rw[w];simp[ip,lp]<;>rfl
 show out ((((ev F true ah_ [aqq]).bind _).bind _ |>.map _).bind _)=_;rw[e];rfl
theorem pA:∀p:aa0,aY anV=true
 |[]=>rfl
 |x::p=>by show(aF (al6 x)&&aY anV)=true;rw[pA p];rfl
def aw(p:aa0):aF (tp p)=true:=pA p
noncomputable def pw(p:aa0):Nat->List Int
 |0=>bR p.length
 |m+1=>comp (pw p m) p
theorem kD(hp:aid):∀m,pw p m∈perms n
 |0=>by rw[pw,aR hp];exact ic n
 |m+1=>cZ (kD hp m) hp
theorem EW(hp:aid)(a:Nat):∀b,pw p (a+b)=comp (pw p a) (pw p b)
 |0=>by rw[aet,pw,aR hp,kB (kD hp a)]
 |b+1=>by
  show comp (pw p (a+b)) p=comp (pw p a) (comp (pw p b) p);rw[EW hp a b,js (kD hp a) (kD hp b)]
def NW(hp:aid):pw p 1=p:=by
 show comp (bR p.length) p=p;rw[aR hp,ph hp]
noncomputable def Bt(p:aa0):Nat:=(((List.range 6).find? λm=>pw p (m+1)==bR p.length).getD 0)+1
noncomputable def KG(n:Nat)(p:aa0):Bool:=decide (pw p (Bt p)=bR n)&&decide (Bt p<=6)&&(List.range (Bt p)).all λk=>k==0||decide (pw p k≠bR n)
set_option maxHeartbeats 0 in
def IS:(List.range 7).all (λn=>(perms n).all (KG n))=true:=by decide +kernel
def EY(hn:n<=6)(hp:aid):pw p (Bt p)=bR n/\1<=Bt p/\Bt p<=6/\∀k,1<=k->k<Bt p->pw p k≠bR n:=by
 have h:=abZ.mp (all_range IS (k:=n) (aaU hn aa1)) p hp;unfold KG at h;simp only[aak,decide_eq_true_eq,abZ,abe,adV,beq_iff_eq]at h;refine⟨h.1.1,by unfold Bt;exact adU _ _,h.1.2,λk h1 h2=>?_⟩;rcases h.2 k h2 with z|z
 .exact absurd z (adj h1)
 .exact z
def cf(h1:avc)(h2:ev F b c ρ=some y):dU F b (.cons a (.o c)) ρ=some [x,y]:=by
 rw[mP,h1,mP,h2];rfl
def ie(h1:avc):dU F b (.o a) ρ=some [x]:=by
 rw[mP,h1];rfl
noncomputable def vG(F:FT)(fr:ahW)(ifs eV:E)(ρ:Env)(x:D):as_:=(k7 F true ifs aBH).bind λk=>if k then(ev F false eV aBH).map some else some none
def IT(h1:alI)(h2:seq d=some xs)(h3:am3):ev F b (arG (.it a)) ρ=(walk aCU xs).map .lst :=by
 rw[LX,XQ,h1,abM,h2,abM,aaB h3];rfl
def pB(h1:(dU F false es ρ).bind eM=some xs)(h3:am3):ev F b (arG aFs) ρ=(walk aCU xs).map .lst :=by
 rw[LX,Vs,h1,abM,aaB h3];rfl
theorem mD:∀xs:ac1,(∀x∈xs,f x=some (if p x then some x else none))->walk f xs=some (xs.filter p)
 |[],_=>rfl
 |x::r,h=>by
  rw[walk,h x aaq,afl];have ih:=mD r λy hy=>h y asi;cases p x with
  |true=>show(walk f r).map _=_;rw[ih];rfl
  |false=>exact ih
theorem zF(h g:α->D)(c:α->Bool)(f:D->as_):∀xs:ahB,(∀x∈xs,f (h x)=some (if c x then some (g x) else none))->walk f ase=some aCe
 |[],_=>rfl
 |x::xs,H=>by
  rw[aaX,walk,H x aaq,afl];have ih:=zF h g c f xs λy hy=>H y asi;cases c x with
  |true=>show(walk f ase).map (g x:: ·)=_;rw[ih];rfl
  |false=>exact ih
def vH{xs:ahB}{h g:α->D}{c:α->Bool}(h1:alI)(h2:azw)(hl:am3)(hi:∀x∈xs,k7 F true ifs aqH=some (c x))(hc:∀x∈xs,axU):ev F b (aoI ifs) ρ=some (akx aCe):=by
 rw[IT h1 h2 (by rw[aap];exact hl),zF h g c _ _ λx hx=>?_]
 .rfl
 .show((k7 F true ifs aqH).bind λk=>if k then(ev F false el aqH).map some else some none)=_;rw[hi x hx,hc x hx];cases c x<;>rfl
def fT{xs:ahB}{h g:α->D}(h1:alI)(h2:azw)(hl:am3)(hc:∀x∈xs,axU):ev F b aoG ρ=some (akx (xs.map g)):=by
 rw[vH (c:=λ_=>true) h1 h2 hl (λ_ _=>rfl) hc,List.filter_eq_self.mpr λ_ _=>rfl]
def WE(h:ev F false a ρ=some (.bl j)):k7 F true (.o a) ρ=some j:=by
 rw[GK,h];cases j<;>rfl
theorem zG{P:D->Prop}:∀xs:ac1,(∀x∈xs,∃y,P y/\f x=some (aku y))->∃ys,walk f xs=some ys/\ys.length=xs.length/\∀y∈ys,P y
 |[],_=>⟨[],rfl,rfl,λ_ h=>nomatch h⟩
 |x::r,h=>by
  refine aa (h x aaq) λy hy e=>bH (zG r λz hz=>h z awK) λys e2 hl hP=>⟨y::ys,?_,by rw[aaL,aaL,hl],λz hz=>?_⟩
  .rw[walk,e];show(walk f r).map _=_;rw[e2];rfl
  .rcases aat.mp hz with rfl|hz
   .exact hy
   .exact hP z hz
def vI(hx:x∈bS 0 n):∃k:Nat,k<n/\x= .int k:=by
 rw[fS]at hx;refine aa awJ λi hi ai=>?_;subst ai;refine aa (akZ hi) λj hj aK=>?_;subst aK;exact⟨j,ayy,rfl⟩
def ig(n:Nat):(bS 0 n).length =n:=by
 rw[fS,aap,bR,aap,aeT]
noncomputable def i8(ft fd:Nat):Fd:=⟨2,2,(akq (ak6 (akM (.o (.comp [0,1] 0 (.iO (.o (.idx af5 (.bin .Mod ac6 (.ci 7))))) .nil at1)))))⟩
def NX(s:Nat)(y:D):Prop:=∃p∈perms s,y=tp p
def vJ{k:Nat}(h:xs[k]?=some x):item ajJ af_=some x:=by
 show(place xs.length k).bind _=_;have hk:k<xs.length:=(aax.mp h).1;unfold place;rw[aaB alB,aaB (by lia)];show xs[((k:Int)).toNat]?=_;rw[abU];exact h
def NY{a:Int}(hd:∀k:Nat,F fd [at0,af_]=some aBE)(ht:∀b:Int,0<=b->∃p∈perms s,F ft [.int b,ahz]=some (tp p)):
  ∃ys,out (ex F (i8 ft fd).body aiq)=some awL/\ys.length<=6/\∀y∈ys,NX s y:=by
 have g0:0<=a%7:=acH _ aa1;have g1:a%7<7:=acI _ aa1;obtain⟨j,hj⟩:∃j:Nat,a%7=j:=⟨(a%7).toNat,(abl (acz g0))⟩;have hj7:j<7:=adB.mp (hj▸g1);have key:∀j,j<7->∃n:Nat,n<=6/\[D.int 1,.int 1,.int 2,.int 2,.int 3,.int 0,.int 6][j]?=some (al6 n):=λj hj=>
  ⟨[1,1,2,2,3,0,6][j],(show∀x∈[1,1,2,2,3,0,6],x<=6 by decide) _ (acL _),by rw[show [D.int 1,.int 1,.int 2,.int 2,.int 3,.int 0,.int 6]=[1,1,2,2,3,0,6].map λn:Nat=>D.int n from rfl,aaC,aai hj];rfl⟩
 refine aa (key j hj7) λn hn hg=>?_;have e1:ev F false (.idx af5 (akK (.ci 7))) aiq=some (al6 n):=by
  have q1:ev F true af5 aiq=some (akJ [D.int 1,.int 1,.int 2,.int 2,.int 3,.int 0,.int 6]):=rfl;have q2:ev F false (akK (.ci 7)) aiq=some (al6 j):=(Bq rfl rfl aa1).trans (congrArg (λz=>an7) hj);rw[LW,q1,abM,q2,abM];exact vJ hg
 obtain⟨ys,w,hl,hP⟩:=zG (f:=vG F [0,1] .nil at1 aiq) (P:=NX s) (bS 0 n) λx hx=>by
  refine aa (vI hx) λk hk ai=>?_;subst ai;refine aa (ht apn (EF _ _)) λp hp e=>⟨tp p,⟨p,hp,rfl⟩,?_⟩;show(ev F false _ (inner [.int (k:Int)] _ [0,1])).map some=_;have i1:ev F true (am0 fd) (inner [.int (k:Int)] aiq [0,1])=some aBE:=
   av (xs:=[at0,af_]) af8 (hd k) rfl
  rw[av (xs:=[.int apn,ahz]) (d:=tp p) (cf i1 rfl) e (aw _)];rfl
 refine⟨ys,kA ?_,by rw[hl,ig];exact hn,hP⟩;rw[GJ,ie (x:= .lst ys)]
 .rfl
 .rw[pB (xs:=bS 0 n) (by rw[ie e1,abM,eF (akH hn)]) (by rw[ig];unfold bW;exact aam hn aa1),w];rfl
section
variable {s:Nat}{ps:ab3}(tG:∀p∈ps,aio)
include tG
end
def cG(h1:arf)(h2:F f xs=some d)(h3:rR ρ es=false):aEW:=by
 rw[Qm,h1];show(F f xs).bind _=_;rw[h2];simp[h3]
def Sf(h1:avc)(h2:ev F b c ρ=some y)(h3:ev F b e ρ=some z):dU F b (.cons a (.cons c (.o e))) ρ=some [x,y,z]:=by
 rw[mP,h1,mP,h2,mP,h3];rfl
theorem EZ:∀{s:Nat} (ys:ac1),(∀y∈ys,NX s y)->∃ps:ab3,ys=ps.map tp/\∀p∈ps,p∈perms s
 |_,[],_=>⟨[],rfl,λ_ h=>nomatch h⟩
 |s,y::r,h=>by
  refine aa (h y aaq) λp hp ai=>?_;subst ai;refine aa (EZ r λz hz=>h z awK) λps aK tG=>?_;subst aK;exact⟨p::ps,rfl,λq hq=>(aat.mp hq).elim (λe=>e▸hp) (tG q)⟩
end Py
namespace iH
structure Pg(α:Type) where
 n:Nat
 S:α->Prop
 mul:α->α->α
 inv:α->α
 one:α
 im:α->Nat->Nat
structure gI{α:Type}(Y:Pg α):Prop where
 s1:Y.S Y.one
 sm:∀{a b},Y.S a->Y.S b->Y.S aqM
 si:∀{a},Y.S a->Y.S auw
 assoc:∀{a b c},Y.S a->Y.S b->Y.S c->Y.mul aqM c=Y.mul a (Y.mul b c)
 mul_one:∀{a},Y.S a->Y.mul a Y.one=a
 one_mul:∀{a},Y.S a->Y.mul Y.one a=a
 dM:∀{a},Y.S a->Y.mul a auw=Y.one
 inv_mul:∀{a},Y.S a->Y.mul auw a=Y.one
 bL:∀{k},k<Y.n->Y.im Y.one k=k
 aV:∀{a b k},Y.S a->Y.S b->k<Y.n->Y.im aqM k=Y.im b (Y.im a k)
 kE:∀{a k},Y.S a->k<Y.n->Y.im a k<Y.n
 ext:∀{a b},Y.S a->Y.S b->(∀k,k<Y.n->Y.im a k=Y.im b k)->a=b
section
variable {α:Type}{Y:Pg α}
def gI.inj(L:gI Y)(ha:Y.S a)(hk:k<Y.n)(hl:l<Y.n)(h:Y.im a k=Y.im a l):k=l:=by
 have e:∀j,j<Y.n->Y.im auw (Y.im a j)=j:=λj hj=>by
  rw[<-L.aV ha (L.si ha) hj,L.dM ha,L.bL hj]
 rw[<-e k hk,<-e l hl,h]
def jA(Y:Pg α)(t:α)(i:Nat):Prop:=∀k,k<i->Y.im t k=k
abbrev Rg(α:Type):=List (Nat×α)
structure V(Y:Pg α)(i:Nat)(R:Rg α):Prop where
 st:∀p u,apz->Y.S u/\jA Y u i/\Y.im u i=p
 one:(i,Y.one)∈R
 nd:(R.map (·.1)).Nodup
def VL(Y:Pg α):ad7->Nat->Prop
 |[],i=>i=Y.n
 |R::l,i=>V Y i R/\i<Y.n/\VL Y l (i+1)
def H(Y:Pg α):ad7->α->Prop
 |[],t=>t=Y.one
 |R::l,t=>∃p u w,apz/\aGK/\t=Y.mul w u
def iI{R:Rg α}(h:(R.map (·.1)).Nodup)(h1:apz)(h2:(p,v)∈R):u=v:=by
 induction R with
 |nil=>cases h1
 |cons e R ih=>
  rw[aaX,abo]at h;rcases aat.mp h1 with a|a
  .rcases aat.mp h2 with b|b
   .exact(agZ (a.trans b.symm)).2
   .exact absurd (amZ ⟨_,b,by rw[<-a]⟩) h.1
  .rcases aat.mp h2 with b|b
   .exact absurd (amZ ⟨_,a,by rw[<-b]⟩) h.1
   .exact ih h.2 a b
theorem H.good(L:gI Y):∀{l:ad7}{i:Nat}{t:α},alY->auE->Y.S t/\jA Y t i
 |[],i,t,hv,h=>by
  have h':t=Y.one:=h;have IU:i=Y.n:=hv;subst h';exact⟨L.s1,λk hk=>L.bL (atI (aaw IU))⟩
 |R::l,i,t,⟨hv,hi,hl⟩,⟨p,u,w,hu,hw,e⟩=>by
  obtain⟨s1,f1⟩:=H.good L hl hw;refine c6 (hv.st p u hu) λs2 f2 _=>?_;subst e;refine⟨L.sm s1 s2,λk hk=>?_⟩;rw[L.aV s1 s2 aj4,f1 k amb,f2 k hk]
theorem H.one(L:gI Y):∀{l:ad7}{i:Nat},alY->H Y l Y.one
 |[],_,_=>rfl
 |R::l,i,⟨hv,hi,hl⟩=>⟨i,Y.one,Y.one,hv.one,H.one L hl,(L.one_mul L.s1).symm⟩
def St(l:ad7)(u:α):Prop:=∃R∈l,∃p,(p,u)∈R
theorem St.good(L:gI Y):∀{l:ad7}{i:Nat}{u:α},alY->awT->Y.S u/\jA Y u i
 |[],_,_,_,⟨_,h,_⟩=>by cases h
 |R::l,i,u,⟨hv,hi,hl⟩,⟨R',hR,p,hp⟩=>by
  rcases aat.mp hR with e|e
  .rw[e]at hp;exact⟨(hv.st p u hp).1,(hv.st p u hp).2.1⟩
  .obtain⟨a,b⟩:=St.good L hl ⟨R',e,p,hp⟩;exact⟨a,λk hk=>b k amb⟩
def H.drop(L:gI Y){R:Rg α}(hv:aBR)(h:H Y (R::l) t)(hf:Y.im t i=i):auE:=by
 refine c6 hv λhV hi hl=>cx h λp u w hu hw e=>?_;obtain⟨s1,f1⟩:=H.good L hl hw;refine c6 (hV.st p u hu) λs2 f2 f3=>?_;have:p=i:=by
  rw[e,L.aV s1 s2 hi,f1 i ac9,f3]at hf;exact hf
 subst this;have:u=Y.one:=iI hV.nd hu hV.one;rw[this,L.mul_one s1]at e;rw[e];exact hw
def H.IV(L:gI Y)(hv:aBR)(h:auE):H Y (R::l) t:=⟨i,Y.one,t,hv.1.one,h,(L.mul_one (H.good L hv.2.2 h).1).symm⟩
inductive Gen(Y:Pg α)(G:α->Prop):α->Prop
 |one:Gen Y G Y.one
 |mul {t u:α}:Gen Y G t->G u->Gen Y G (Y.mul t u)
theorem Gen.S(L:gI Y)(hG:∀u,G u->Y.S u):∀{t:α},Gen Y G t->Y.S t
 |_,.one =>L.s1
 |_,.mul h hu=>L.sm (aCP h) (hG _ hu)
theorem Gen.mono(h:∀u,G u->G' u):∀{t:α},Gen Y G t->Gen Y G' t
 |_,.one => .one
 |_,.mul a hu=> .mul (Gen.mono h a) (h _ hu)
theorem Gen.app(L:gI Y)(hG:∀u,G u->Y.S u)(ha:Gen Y G a):∀{b:α},Gen Y G b->Gen Y G aqM
 |_,.one =>by rw[L.mul_one (aCP ha)];exact ha
 |_,.mul (t:=t) (u:=u) h hu=>by
  rw[<-L.assoc (aCP ha) (aCP h) (hG _ hu)];exact .mul (Gen.app L hG ha h) hu
def Gen.of(L:gI Y)(hs:Y.S u)(h:G u):Gen Y G u:=by
 have:=Gen.mul (Gen.one (Y:=Y) (G:=G)) h;rwa [L.one_mul hs]at this
theorem H.gen(L:gI Y):∀{l:ad7}{i:Nat}{t:α},alY->auE->Gen Y (St l) t
 |[],_,t,_,h=>by
  have h':t=Y.one:=h;rw[h'];exact .one
 |R::l,i,t,⟨hV,hi,hl⟩,⟨p,u,w,hu,hw,e⟩=>by
  rw[e];exact .mul (Gen.mono (λx ⟨R',h,q⟩=>⟨R',aal _ h,q⟩) (H.gen L hl hw)) ⟨R,aaq,p,hu⟩
theorem H.closed(L:gI Y):∀{l:ad7}{i:Nat},alY->(∀u v,awT->St l v->awi)->∀t v,auE->St l v->H Y l (Y.mul t v)
 |[],_,_,_,_,_,_,⟨_,h,_⟩=>by cases h
 |R::l,i,hv,hp,t,v,⟨p,u,w,hu,hw,e⟩,mI=>by
  have hl:=hv.2.2;have sub:∀x,St l x->St (R::l) x:=λx ⟨R',h,q⟩=>⟨R',aal _ h,q⟩;have ih:=H.closed L hl λx y hx hy=>by
   obtain⟨s1,f1⟩:=St.good L hl hx;obtain⟨s2,f2⟩:=St.good L hl hy;refine(hp x y (sub x hx) (sub y hy)).drop L hv ?_;rw[L.aV s1 s2 hv.2.1,f1 i ac9,f2 i ac9]
  have all:∀{x:α},aAg->H Y l (Y.mul w x):=λ{x} hx=>by
   induction hx with
   |one=>rw[L.mul_one (H.good L hl hw).1];exact hw
   |mul h hu Qq=>
    rw[<-L.assoc (H.good L hl hw).1 (Gen.S L (λu hu=>(St.good L hl hu).1) h) (St.good L hl hu).1];exact ih _ _ Qq hu
  have su:St (R::l) u:=⟨R,aaq,p,hu⟩;refine cx (hp u v su mI) λp' u' w' xg zh e'=>?_;obtain⟨sw,_⟩:=H.good L hl hw;obtain⟨NZ,_⟩:=H.good L hl zh;have su1:=(St.good L hv su).1;have sv1:=(St.good L hv mI).1;have su':=(hv.1.st p' u' xg).1;refine⟨p',u',Y.mul w w',xg,all (H.gen L hl zh),?_⟩;rw[e,L.assoc sw su1 sv1,e',<-L.assoc sw NZ su']
def H.all(L:gI Y)(hv:alY)(hp:∀u v,awT->St l v->awi)(ht:auE)(hx:aAg):H Y l (Y.mul t x):=by
 induction hx with
 |one=>rw[L.mul_one (H.good L hv ht).1];exact ht
 |mul h hu ih=>
  rw[<-L.assoc (H.good L hv ht).1 (Gen.S L (λu hu=>(St.good L hv hu).1) h) (St.good L hv hu).1];exact H.closed L hv hp _ _ ih hu
def H.row(L:gI Y)(hv:VL Y l 0)(hG:∀u,G u->Y.S u)(hp:∀u v,awT->St l v->awi)(hr:∀g,G g->H Y l g)(hs:∀u,awT->Gen Y G u)(t:α):H Y l t↔Gen Y G t:=by
 constructor
 .intro h;have:∀{x:α},aAg->Gen Y G x:=λ{x} hx=>by
   induction hx with
   |one=>exact .one
   |mul h hu ih=>exact Gen.app L hG ih (hs _ hu)
  exact this (H.gen L hv h)
 .intro h;induction h with
  |one=>exact H.one L hv
  |mul h hu ih=>exact H.all L hv hp ih (H.gen L hv (hr _ hu))
noncomputable def dm(R:Rg α)(p:Nat):ayM:=(R.find? λe=>e.1==p).map (·.2)
def b6(h:dm R p=some u):apz:=by
 unfold dm at h;cases e:R.find? (λe=>e.1==p)with
 |none=>rw[e]at h;cases h
 |some x=>
  rw[e]at h;cases h;have h1:=List.find?_some e;have h2:=List.mem_of_find?_eq_some e;have:x.1=p:=by simpa using h1
  rw[<-this];exact h2
def iJ{R:Rg α}(h:dm R p=none):p∉R.map (·.1):=λhm=>by
 unfold dm at h;rw[Option.map_eq_none_iff,ahh]at h;exact aa (akZ hm) λe he hp=>h e he (by simp[hp])
def zH{R:Rg α}(nd:(R.map (·.1)).Nodup)(h:apz):dm R p=some u:=by
 cases e:dm R p with
 |none=>exact absurd (amZ ⟨_,h,rfl⟩) (iJ e)
 |some v=>rw[iI nd h (b6 e)]
noncomputable def dD(Y:Pg α):ad7->Nat->α->α
 |[],_,t=>t
 |R::l,i,t=>match dm R al7 with
  |some u=>dD Y l (i+1) akU
  |none=>t
noncomputable def add:ad7->Nat->Nat×α->List (Rg α)
 |[],_,_=>[]
 |R::l,0,x=>(R++[x])::l
 |R::l,k+1,x=>R::add l k x
theorem H.add:∀{l:ad7}{k:Nat}{t:α},auE->H Y (iH.add l k x) t
 |[],_,_,h=>h
 |R::l,0,t,⟨p,u,w,hu,hw,e⟩=>⟨p,u,w,aaO _ hu,hw,e⟩
 |R::l,k+1,t,⟨p,u,w,hu,hw,e⟩=>⟨p,u,w,hu,H.add hw,e⟩
theorem St.add:∀{l:ad7}{k:Nat},St (iH.add l k x) v->St l v\/v=x.2
 |[],_,⟨_,h,_⟩=>by cases h
 |R::l,0,⟨R',hR,p,hp⟩=>by
  rcases aat.mp hR with e|e
  .rw[e]at hp;rcases aaH.mp hp with z|z
   .exact .inl ⟨R,aaq,p,z⟩
   .rw[aar]at z;exact .inr (by rw[<-z])
  .exact .inl ⟨R',aal _ e,p,hp⟩
 |R::l,k+1,⟨R',hR,p,hp⟩=>by
  rcases aat.mp hR with e|e
  .exact .inl ⟨R,aaq,p,by rw[<-e];exact hp⟩
  .rcases St.add (l:=l) (k:=k) ⟨R',e,p,hp⟩with⟨R2,h2,q⟩|z
   .exact .inl ⟨R2,aal _ h2,q⟩
   .exact .inr z
theorem rm(L:gI Y):∀{l:ad7}{i:Nat}{t:α},alY->Y.S t->au_->
  (dD Y l i t=Y.one/\auE)\/∃k R,l[k]?=some R/\i+k<Y.n/\Y.S alV/\jA Y alV (i+k)/\Y.im alV (i+k)∉R.map (·.1)/\Y.im alV (i+k)≠i+k/\
   H Y axX t/\VL Y axX i
 |[],i,t,hv,hs,hf=>by
  have IU:i=Y.n:=hv;have:t=Y.one:=L.ext hs L.s1 λk hk=>by rw[hf k (atI (aaw (abl IU))),L.bL hk]
  exact .inl ⟨this,this⟩
 |R::l,i,t,hv,hs,hf=>by
  refine c6 hv λhV hi hl=>?_;unfold dD;cases e:dm R al7 with
  |none=>
   have hn:=iJ e;have eJ:Y.im t i≠i:=λz=>hn (amZ ⟨_,hV.one,z.symm⟩);refine .inr ⟨0,R,rfl,hi,hs,hf,hn,eJ,?_,?_⟩
   .exact⟨al7,t,Y.one,ayA,H.one L hl,aG3⟩
   .refine⟨⟨λp u hu=>?_,aaO _ hV.one,?_⟩,hi,hl⟩
    .rcases aaH.mp hu with z|z
     .exact hV.st p u z
     .rw[aar]at z;cases z;exact⟨hs,hf,rfl⟩
    .rw[abd,abL];refine⟨hV.nd,by simp,λa ha b hb z=>?_⟩;have:b=Y.im t i:=by simpa using hb
     exact hn (by rw[<-this,<-z];exact ha)
  |some u=>
   have hu:=b6 e;refine c6 (hV.st _ u hu) λs2 f2 f3=>?_;have sI:=L.si s2;have s3:Y.S akU:=L.sm hs sI;have back:Y.mul akU u=t:=by rw[L.assoc hs sI s2,L.inv_mul s2,L.mul_one hs]
   have E1:∀k,k<Y.n->ayC:=λk hk=>by rw[<-L.aV s2 sI hk,L.dM s2,L.bL hk]
   have f4:jA Y akU (i+1):=λk hk=>by
    rw[L.aV hs sI atx];rcases abx k i with z|z
    .rw[hf k z];have:=E1 k (aaj z az6);rwa [f2 k z]at this
    .have e2:k=i:=(aeI z hk);rw[e2];have:=E1 i hi;rwa [f3]at this
   dsimp only;rcases rm L hl s3 f4 with⟨a,b⟩|⟨k,R',a1,a2,a3,a4,a5,a6,a7,a8⟩
   .exact .inl ⟨a,_,u,_,hu,b,back.symm⟩
   .have ek:i+1+k=i+(k+1):=alA;rw[ek]at a2 a4 a5 a6 a7 a8;exact .inr ⟨k+1,R',a1,a2,a3,a4,a5,a6,⟨_,u,_,hu,a7,back.symm⟩,hV,hi,a8⟩
structure Fd(Y:Pg α)(G:α->Prop)(l:ad7)(W:ahB):Prop where
 v:VL Y l 0
 g:∀u,awT->Gen Y G u
 wg:∀t∈W,Gen Y G t
 row:∀t,G t->t∈W\/H Y l t
 Sg:∀u v,awT->St l v->Y.mul u v∈W\/H Y l (Y.mul u v)
def Fd.done(L:gI Y)(hG:∀u,G u->Y.S u)(h:Fd Y G l [])(t:α):H Y l t↔Gen Y G t:=
 H.row L h.v hG (λu v hu hv=>(h.Sg u v hu hv).resolve_left ab1) (λg hg=>(h.row g hg).resolve_left ab1) h.g t
def Fd.none(h:Fd Y G l az_)(ht:auE):Fd Y G l W where
 v:=h.v
 g:=h.g
 wg:=λx hx=>h.wg x (axN hx)
 row:=λx hx=>by
  rcases h.row x hx with z|z
  .rcases aaH.mp z with z|z
   .exact .inl z
   .rw[aar.mp z];exact .inr ht
  .exact .inr z
 Sg:=λu v hu hv=>by
  rcases h.Sg u v hu hv with z|z
  .rcases aaH.mp z with z|z
   .exact .inl z
   .rw[aar.mp z];exact .inr ht
  .exact .inr z
def Fd.more(L:gI Y)(h:Fd Y G l az_)(hv:VL Y axn 0)(ht:H Y axn t)(hr:Gen Y G r)(tG:∀x∈Ps,Gen Y G x)
  (hP:∀u,St axn u->Y.mul u r∈Ps/\Y.mul r u∈Ps):Fd Y G axn (W++Ps) where
 v:=hv
 g:=λu hu=>by
  rcases hu.add with z|z
  .exact h.g u z
  .rw[z];exact hr
 wg:=λx hx=>(aaH.mp hx).elim (λz=>h.wg x (axN z)) (tG x)
 row:=λx hx=>by
  rcases h.row x hx with z|z
  .rcases aaH.mp z with z|z
   .exact .inl (axN z)
   .rw[aar.mp z];exact .inr ht
  .exact .inr z.add
 Sg:=λu v hu IU=>by
  rcases hu.add with z1|z1
  .rcases IU.add with z2|z2
   .rcases h.Sg u v z1 z2 with z|z
    .rcases aaH.mp z with z|z
     .exact .inl (axN z)
     .rw[aar.mp z];exact .inr ht
    .exact .inr z.add
   .rw[z2];exact .inl (aaJ _ (hP u hu).1)
  .rw[z1];exact .inl (aaJ _ (hP v IU).2)
theorem jA.mul(L:gI Y)(ha:Y.S a)(hb:Y.S b)(hi:i<=Y.n)(h1:jA Y a i)(h2:jA Y b i):jA Y aqM i:=λk hk=>by rw[L.aV ha hb atx,h1 k hk,h2 k hk]
theorem jA.inv(L:gI Y)(ha:Y.S a)(hi:i<=Y.n)(h1:jA Y a i):jA Y auw i:=λk hk=>by
 have:=L.aV ha (L.si ha) (k:=k) atx;rw[L.dM ha,L.bL atx,h1 k hk]at this;exact this.symm
structure jt(Y:Pg α)(M:α->Prop):Prop where
 s:∀t,M t->Y.S t
 one:M Y.one
 mul:∀a b,M a->M b->M aqM
 inv:∀a,M a->M auw
def Hm(Y:Pg α)(M:α->Prop)(l:ad7)(i:Nat):Prop:=VL Y l i/\∀t,H Y l t↔M t/\jA Y t i
def Hm.tail(L:gI Y)(h:asK):Hm Y M l (i+1):=by
 refine⟨h.1.2.2,λt=>⟨λht=>?_,λ⟨h1,h2⟩=>?_⟩⟩
 .exact⟨((h.2 t).mp (ht.IV L h.1)).1,(H.good L h.1.2.2 ht).2⟩
 .exact((h.2 t).mpr ⟨h1,λk hk=>h2 k amb⟩).drop L h.1 (h2 i ac9)
def Hm.step(L:gI Y)(h:asK)(hu:apz):M u/\jA Y u i/\Y.im u i=p:=by
 refine c6 aGf λs1 f1 f2=>?_;have:H Y (R::l) u:=⟨p,u,Y.one,hu,H.one L h.1.2.2,(L.one_mul s1).symm⟩;exact⟨((h.2 u).mp this).1,f1,f2⟩
def Hm.split(L:gI Y)(h:asK)(hM:M t)(hf:au_):∃u w,(al7,u)∈R/\aGK/\t=Y.mul w u:=by
 refine cx ((h.2 t).mpr ⟨hM,hf⟩) λp u w hu hw e=>?_;obtain⟨s1,f1⟩:=H.good L h.1.2.2 hw;refine c6 aGf λs2 f2 f3=>?_;have:Y.im t i=p:=by rw[e,L.aV s1 s2 h.1.2.1,f1 i ac9,f3]
 exact⟨u,w,by rw[this];exact hu,hw,e⟩
def Lt(Y:Pg α)(a b:α):Prop:=∃i,i<Y.n/\(∀k,k<i->Y.im a k=Y.im b k)/\Y.im a i<Y.im b i
def Lt.Tn(h:Lt Y a b)(h':Lt Y b a):False:=by
 refine bH h λi i1 i2 i3=>bH h' λj j1 j2 j3=>?_;rcases acm i j with z|z|z
 .have:=j2 i z;exact aaN i3 aqf
 .subst z;exact ago i3 (aaE j3)
 .have:=i2 j z;exact aaN j3 aqf
inductive LM(Y:Pg α):ad7->α->α->Prop
 |nil {u:α}:LM Y [] u u
 |cons {R:Rg α}{l:ad7}{u x:α}{p:Nat}{v:α}:(p,v)∈R->(∀q,q∈R.map (·.1)->Y.im u p<=Y.im u q)->LM Y l (Y.mul v u) x->LM Y (R::l) u x
theorem LM.least(L:gI Y):∀{l:ad7}{i:Nat}{u x:α},alY->Y.S u->LM Y l u x->(∃w,aGK/\x=Y.mul w u)/\∀w,aGK->x=Y.mul w u\/Lt Y x (Y.mul w u)
 |[],i,u,x,hv,hs,h=>by
  cases h;refine⟨⟨Y.one,rfl,aG3⟩,λw hw=>?_⟩;have zh:w=Y.one:=hw;rw[zh,L.one_mul hs];exact .inl rfl
 |R::l,i,u,x,hv,hs,h=>by
  cases h;rename_i p v hp WG hl;refine c6 hv λhV hi WH=>c6 (hV.st p v hp) λs2 f2 f3=>?_;obtain⟨⟨w',zh,ex⟩,ih⟩:=LM.least L WH (L.sm s2 hs) hl;obtain⟨NZ,YK⟩:=H.good L WH zh;have hx:x=Y.mul (Y.mul w' v) u:=by rw[ex,L.assoc NZ s2 hs]
  refine⟨⟨Y.mul w' v,⟨p,v,w',hp,zh,rfl⟩,hx⟩,?_⟩;rintro w ⟨p2,v2,w2,CW,YL,ew⟩;refine c6 (hV.st p2 v2 CW) λs3 g2 g3=>?_;obtain⟨Sh,YM⟩:=H.good L WH YL;by_cases e:p2=p
  .subst e;have:v2=v:=iI hV.nd CW hp;subst this;rw[ew,L.assoc Sh s3 hs];exact ih w2 YL
  .refine .inr ⟨i,hi,λk hk=>?_,?_⟩
   .rw[hx,ew,L.aV (L.sm NZ s2) hs aj4,L.aV (L.sm Sh s3) hs aj4,L.aV NZ s2 aj4,L.aV Sh s3 aj4,YK k amb,YM k amb,f2 k hk,g2 k hk]
   .rw[hx,ew,L.aV (L.sm NZ s2) hs hi,L.aV (L.sm Sh s3) hs hi,L.aV NZ s2 hi,L.aV Sh s3 hi,YK i ac9,YM i ac9,f3,g3];have h1:=WG p2 (amZ ⟨_,CW,rfl⟩);have JX:p<Y.n:=by rw[<-f3];exact L.kE s2 hi
    have WI:p2<Y.n:=by rw[<-g3];exact L.kE s3 hi
    have h2:Y.im u p≠Y.im u p2:=λz=>e (L.inj hs JX WI z).symm;exact acT h1 h2
def iV(Y:Pg α)(M:α->Prop)(i p:Nat)(x:α):Prop:=M x/\jA Y x i/\Y.im x i=p/\∀t,M t->au_->Y.im t i=p->x=t\/Lt Y x t
def iV.Si(h:amJ)(h':iV Y M i p y):x=y:=by
 rcases h.2.2.2 y h'.1 h'.2.1 h'.2.2.1 with z|z
 .exact z
 .rcases h'.2.2.2 x h.1 h.2.1 h.2.2.1 with z'|z'
  .exact z'.symm
  .exact(z.Tn z').elim
def Hm.best(L:gI Y)(hM:aDc)(h:asK)(hu:apz)(hx:LM Y l u x):amJ:=by
 refine c6 (h.step L hu) λm1 f1 f2=>?_;have hs:=hM.s u m1;obtain⟨⟨w,hw,ex⟩,least⟩:=LM.least L h.1.2.2 hs hx;obtain⟨mw,fw⟩:=((h.tail L).2 w).mp hw;have sw:=hM.s w mw;have hi:=h.1.2.1;refine⟨by rw[ex];exact hM.mul _ _ mw m1,?_,?_,λt ht hf hp=>?_⟩
 .rw[ex];exact jA.mul L sw hs az6 (λk hk=>fw k amb) f1
 .rw[ex,L.aV sw hs hi,fw i ac9,f2]
 .refine ba (h.split L ht hf) λu' w' h1 h2 e=>?_;rw[hp]at h1;have:u'=u:=iI h.1.1.nd h1 hu;rw[e,this];exact least w' h2
def E2(L:gI Y)(hM:aDc)(hi:i<Y.n):iV Y M i i Y.one:=by
 refine⟨hM.one,λk hk=>L.bL aj4,L.bL hi,λt ht hf hp=>?_⟩;have hs:=hM.s t ht;by_cases all:∀k,k<Y.n->Y.im t k=k
 .exact .inl (L.ext L.s1 hs λk hk=>by rw[L.bL hk,all k hk])
 .
  have ex:∃j,j<Y.n/\Y.im t j≠j/\∀k,k<j->Y.im t k=k:=by
   have key:∀m,m<=Y.n->(∀k,k<m->Y.im t k=k)\/∃j,j<m/\Y.im t j≠j/\∀k,k<j->Y.im t k=k:=λm=>by
    induction m with
    |zero=>intro _;exact .inl λk hk=>apN
    |succ m ih=>
     intro hm;rcases ih (aaE hm)with z|⟨j,z1,z2,z3⟩
     .by_cases e:Y.im t m=m
      .exact .inl λk hk=>by
        rcases abx k m with y|y
        .exact z k y
        .rw[show k=m by exact aeI y hk];exact e
      .exact .inr ⟨m,ac9,e,z⟩
     .exact .inr ⟨j,(abK (aaE z1)),z2,z3⟩
   rcases key Y.n ac9 with z|⟨j,z1,z2,z3⟩
   .exact absurd z all
   .exact⟨j,z1,z2,z3⟩
  refine bH ex λj j1 j2 j3=> .inr ⟨j,j1,λk hk=>by rw[L.bL (atI (aaE j1)),j3 k hk],?_⟩;rw[L.bL j1];rcases acm (Y.im t j) j with z|z|z
  .have:=L.inj hs (L.kE hs j1) j1 (j3 _ z);exact absurd this (aaN z)
  .exact absurd z j2
  .exact z
def IW(Y:Pg α)(M:α->Prop):ad7->Nat->Prop
 |[],i=>i=Y.n
 |R::l,i=>i<Y.n/\(∀p x,(p,x)∈R->amJ)/\(∀t,M t->au_->∃x,(al7,x)∈R)/\(R.map (·.1)).Nodup /\IW Y M l (i+1)
theorem IW.hm(L:gI Y)(hM:aDc):∀{l:ad7}{i:Nat},IW Y M l i->Hm Y M l i
 |[],i,h=>by
  have h':i=Y.n:=h;refine⟨h,λt=>⟨λht=>?_,λ⟨h1,h2⟩=>?_⟩⟩
  .have e:t=Y.one:=ht;rw[e];exact⟨hM.one,λk hk=>L.bL (atI (aaw h'))⟩
  .exact L.ext (hM.s t h1) L.s1 λk hk=>by rw[h2 k (atI (aaw (abl h'))),L.bL hk]
 |R::l,i,⟨hi,hb,ha,nd,hl⟩=>by
  have ih:=IW.hm L hM hl;have N0:(i,Y.one)∈R:=by
   obtain⟨x,hx⟩:=ha Y.one hM.one λk hk=>L.bL aj4;rw[L.bL hi]at hx;have:=(hb i x hx).Si (E2 L hM hi);rw[this]at hx;exact hx
  have hV:aBR:=⟨⟨λp u hu=>by
   exact BU (hb p u hu) λb1 b2 b3 _=>⟨hM.s u b1,b2,b3⟩,N0,nd⟩,hi,ih.1⟩
  refine⟨hV,λt=>⟨?_,λ⟨h1,h2⟩=>?_⟩⟩
  .rintro⟨p,u,w,hu,hw,e⟩;refine BU (hb p u hu) λb1 b2 b3 _=>?_;obtain⟨mw,fw⟩:=(ih.2 w).mp hw;rw[e];exact⟨hM.mul _ _ mw b1,jA.mul L (hM.s w mw) (hM.s u b1) az6 (λk hk=>fw k amb) b2⟩
  .obtain⟨x,hx⟩:=ha t h1 h2;refine BU (hb _ x hx) λb1 b2 b3 _=>?_;have st:=hM.s t h1;have sx:=hM.s x b1;have sI:=L.si sx;refine⟨_,x,Y.mul t (Y.inv x),hx,(ih.2 _).mpr ⟨hM.mul _ _ h1 (hM.inv _ b1),λk hk=>?_⟩,by rw[L.assoc st sI sx,L.inv_mul sx,L.mul_one st]⟩;rw[L.aV st sI atx];rcases abx k i with z|z
   .rw[h2 k z];exact jA.inv L sx az6 b2 k z
   .have e:k=i:=(aeI z hk);rw[e,<-b3,<-L.aV sx sI hi,L.dM sx,L.bL hi]
noncomputable def TL(Y:Pg α):ad7->List α
 |[]=>[Y.one]
 |R::l=>R.flatMap λe=>(TL Y l).map λw=>Y.mul w e.2
theorem ju:∀{l:ad7}{t:α},t∈TL Y l↔H Y l t
 |[],t=>aar
 |R::l,t=>by
  unfold TL;simp only[abB,aaz];constructor
  .rintro⟨e,he,w,hw,rfl⟩;exact⟨e.1,e.2,w,he,ju.mp hw,rfl⟩
  .rintro⟨p,u,w,hu,hw,e⟩;exact⟨(p,u),hu,w,ju.mpr hw,e.symm⟩
theorem pC(L:gI Y):∀{l:ad7}{i:Nat},alY->(TL Y l).Nodup
 |[],_,_=>by simp[TL]
 |R::l,i,⟨hV,hi,hl⟩=>by
  have ih:=pC L hl;have good:∀w,w∈TL Y l->Y.S w/\jA Y w (i+1):=λw hw=>H.good L hl (ju.mp hw);have key:∀{R':Rg α},(∀p u,(p,u)∈R'->Y.S u/\Y.im u i=p)->(R'.map (·.1)).Nodup ->(R'.flatMap λe=>(TL Y l).map λw=>Y.mul w e.2).Nodup :=λ{R'}=>by
   induction R' with
   |nil=>intro _ _;simp
   |cons e R' Qq=>
    intro hs nd;rw[aaX,abo]at nd;obtain⟨se,pe⟩:=hs e.1 e.2 aaq;rw[aee,abL];refine⟨?_,Qq (λp u h=>hs p u (akQ h)) nd.2,λa ha b hb z=>?_⟩
    .refine abz.mpr (ih.imp_of_mem λ{a b} ha hb eJ xt=>eJ ?_);have sa:=(good a ha).1;have sb:=(good b hb).1;have sI:=L.si se;have:Y.mul (Y.mul a e.2) aDV=Y.mul (Y.mul b e.2) aDV:=congrArg (λx=>Y.mul x aDV) xt;rwa [L.assoc sa se sI,L.assoc sb se sI,L.dM se,L.mul_one sa,L.mul_one sb]at this
    .refine aa (akZ ha) λw hw ai=>?_;subst ai;refine aa (abB.mp hb) λe' xu jd=>aa (akZ jd) λw' zh aK=>?_;subst aK;obtain⟨se',pe'⟩:=hs e'.1 e'.2 (akQ xu);have h1:Y.im (Y.mul w e.2) i=e.1:=by rw[L.aV (good w hw).1 se hi,(good w hw).2 i ac9,pe]
     have h2:Y.im (Y.mul w' e'.2) i=e'.1:=by rw[L.aV (good w' zh).1 se' hi,(good w' zh).2 i ac9,pe']
     rw[z,h2]at h1;exact nd.1 (amZ ⟨e',xu,h1⟩)
  exact key (λp u h=>⟨(hV.st p u h).1,(hV.st p u h).2.2⟩) hV.nd
end
open Py
noncomputable def pg(s:Nat):Pg aa0 where
 n:=s
 S:=λp=>p∈perms s
 mul:=comp
 inv:=ip
 one:=bR s
 im:=λp k=>(p.getD k 0).toNat
section
variable {s:Nat}
def N1(hp:aio)(hk:k<s):p.getD k 0∈p:=getD_mem (by rw[aR hp];exact hk)
def KH(hp:aio)(hk:k<s):0<=p.getD k 0/\p.getD k 0<s:=(az.mp hp).2.2 _ (N1 hp hk)
def zI(hp:aio)(hk:k<s):p.getD k 0=(((pg s).im p k:Nat):Int):=by
 have:=KH hp hk;show _=(((p.getD k 0).toNat :Nat):Int);exact abl (acz this.1)
def IX(hp:aio)(hk:k<s):(comp p q).getD k 0=q.getD (p.getD k 0).toNat 0:=by
 have hl:k<p.length:=by rw[aR hp];exact hk
 unfold comp;rw[aaD,aaC,aai hl,aaD (l:=p),aai hl];rfl
def N2(hk:k<s):(bR s).getD k 0=(k:Int):=by
 unfold bR;rw[aaD,aaC,acQ hk];rfl
def aE:gI (pg s) where
 s1:=ic s
 sm:=λha hb=>cZ ha hb
 si:=λha=>gu ha
 assoc:=λha hb _=>js ha hb
 mul_one:=λha=>kB ha
 one_mul:=λha=>ph ha
 dM:=λha=>IP ha
 inv_mul:=λha=>zE ha
 bL:=λ{k} hk=>by
  show((bR s).getD k 0).toNat =k;rw[N2 (s:=s) hk];exact aet _
 aV:=λ{a b k} ha hb hk=>by
  show((comp a b).getD k 0).toNat =(b.getD (a.getD k 0).toNat 0).toNat;rw[IX ha hk]
 kE:=λ{a k} ha hk=>by
  have:=KH ha hk;show(a.getD k 0).toNat<s;exact K0 this.1 this.2
 ext:=λ{a b} ha hb h=>by
  apply acC;intro k;rcases abx k s with z|z
  .have h1:=zI ha z;have h2:=zI hb z;have h3:=h k z;rw[h3]at h1;have e:a.getD k 0=b.getD k 0:=h1.trans h2.symm;rw[aaD,aaD]at e;have la:k<a.length:=by rw[aR ha];exact z
   have lb:k<b.length:=by rw[aR hb];exact z
   rw[aai la,aai lb]at e⊢;simpa using e
  .rw[aaS (by rw[aR ha];exact z),aaS (by rw[aR hb];exact z)]
theorem E3(L:gI (pg s))(hG:∀u,G u->ajr)(hu:Gen (pg s) G u):∀m,Gen (pg s) G (pw u m)
 |0=>by
  have hp:ajr:=Gen.S L hG hu;have:pw u 0=bR s:=by show bR u.length=bR s;rw[aR hp]
  rw[this];exact .one
 |m+1=>by
  have:=Gen.app L hG (E3 L hG hu m) hu;exact this
def kF(h6:s<=6)(hG:∀u,G u->ajr):jt (pg s) (Gen (pg s) G) where
 s:=λt ht=>Gen.S aE hG ht
 one:= .one
 mul:=λa b ha hb=>Gen.app aE hG ha hb
 inv:=λa ha=>by
  have hp:a∈perms s:=Gen.S aE hG ha;refine BU (EY h6 hp) λo1 o2 o3 _=>?_;have e:comp a (pw a (Bt a-1))=bR s:=by
   have:=EW hp 1 (Bt a-1);rw[NW hp,show 1+(Bt a-1)=Bt a by exact aep _ _,o1]at this;exact this.symm
  have:ip a=pw a (Bt a-1):=(Bs hp (kD hp _) e).symm;show Gen (pg s) G (ip a);rw[this];exact E3 aE hG ha _
end
end iH
namespace iH
section
variable {α:Type}{Y:Pg α}
open Classical in
noncomputable def gw(Y:Pg α)(M:α->Prop)(i p:Nat):α:=@Classical.epsilon α ⟨Y.one⟩ (iV Y M i p)
def iK(h:amJ):gw Y M i p=x:=(@ags α (iV Y M i p) ⟨x,h⟩).Si h
open Classical in
noncomputable def ij(Y:Pg α)(M:α->Prop)(i:Nat):Rg α:=((List.range Y.n).filter λp=>decide (∃x,amJ)).map λp=>aAo
def pD{l:ahW}(h:l.Pairwise (· < ·)):aBk:=h.imp λz e=>(ago z (aaw (abl e)))
def Sj{l m:ahW}(h1:l.Pairwise (· < ·))(h2:m.Pairwise (· < ·))(h:∀a,a∈l↔a∈m):l=m:=
 ((acN (pD h1) (pD h2)).mpr h).eq_of_pairwise (λa b _ _ x y=>(acv (aaE x) (aaE y))) h1 h2
def E4(L:gI Y){i:Nat}(hi:i<Y.n)(hM:∀t,M t->Y.S t)(hb:∀p x,(p,x)∈R->amJ)(ha:∀t,M t->au_->∃x,(al7,x)∈R)(hs:(R.map (·.1)).Pairwise (· < ·)):R=ij Y M i:=by
 have keys:R.map (·.1)=(List.range Y.n).filter λp=>@decide (∃x,amJ) ajp:=by
  refine Sj hs (aeL.sublist (adG)) λp=>?_;rw[abE,abe,aaz];constructor
  .rintro⟨⟨q,x⟩,h1,h2⟩;have Q7:q=p:=h2;subst Q7;have b:=hb q x h1;exact⟨by rw[<-b.2.2.1];exact L.kE (hM x b.1) hi,@decide_eq_true _ ajp ⟨x,b⟩⟩
  .rintro⟨h1,h2⟩;obtain⟨x,b⟩:=@of_decide_eq_true _ ajp h2;obtain⟨y,hy⟩:=ha x b.1 b.2.1;rw[b.2.2.1]at hy;exact⟨(p,y),hy,rfl⟩
 unfold ij;rw[<-keys,abc];have:R=R.map id:=(agh R).symm
 conv=>lhs;rw[this]
 refine ade λe he=>?_;show e=(e.1,gw Y M i e.1);rw[iK (hb e.1 e.2 he)]
def E5:((ij Y M i).map (·.1)).Pairwise (· < ·):=by
 unfold ij;rw[abc];have:((λx:Nat×α=>x.1) ∘ λp=>aAo)=id:=rfl;rw[this,agh];exact aeL.sublist adG
def pE:∀p x,(p,x)∈ij Y M i->amJ:=λp x h=>by
 refine aa azV λq hq e=>?_;cases e;obtain⟨y,hy⟩:=@of_decide_eq_true _ ajp (abE.mp hq).2;rw[iK hy];exact hy
noncomputable def aS(Y:Pg α)(M:α->Prop)(i:Nat):ad7:=(List.range' i (Y.n-i)).map (ij Y M)
theorem vK(L:gI Y)(hM:aDc)(KI:∀i t,i<Y.n->M t->au_->∃x,iV Y M i al7 x):∀(m i:Nat),i+m=Y.n->IW Y M ((List.range' i m).map (ij Y M)) i
 |0,i,h=>by
  show i=Y.n;exact h
 |m+1,i,h=>by
  rw[aff,aaX];have hi:i<Y.n:=(Xx (aaw h) aiD);refine⟨hi,pE,λt ht hf=>?_,pD E5,vK L hM KI m (i+1) (afF alA h)⟩;obtain⟨x,hx⟩:=KI i t hi ht hf;have hp:Y.im t i<Y.n:=L.kE (hM.s t ht) hi;exact⟨gw Y M i al7,aaz.mpr ⟨al7,abE.mpr ⟨abe.mpr hp,@decide_eq_true _ ajp ⟨x,hx⟩⟩,rfl⟩⟩
theorem E6(f:β->Nat):∀{l:apt},l≠[]->∃e∈l,∀e'∈l,f e<=f e'
 |[],h=>absurd rfl h
 |[x],_=>⟨x,aj3,λy hy=>by rw[aar.mp hy];exact aas _⟩
 |x::y::l,_=>by
  refine aa (E6 f (l:=y::l) ab1) λe h1 h2=>?_;by_cases c:f x<=f e
  .refine⟨x,aaq,λz hz=>?_⟩;rcases aat.mp hz with rfl|hz
   .exact aas _
   .exact aam c (h2 z hz)
  .refine⟨e,aal _ h1,λz hz=>?_⟩;rcases aat.mp hz with rfl|hz
   .exact aaE (adI c)
   .exact h2 z hz
theorem LM.ex:∀{l:ad7}{i:Nat},alY->∀u,∃x,LM Y l u x
 |[],_,_,u=>⟨u,.nil⟩
 |R::l,i,⟨hV,_,hl⟩,u=>by
  refine aa (E6 (λe:Nat×α=>Y.im u e.1) (l:=R) (λz=>by have:=hV.one;rw[z]at this;cases this)) λe h1 h2=>?_;obtain⟨x,hx⟩:=LM.ex hl (Y.mul e.2 u);refine⟨x,.cons (p:=e.1) (v:=e.2) h1 (λq hq=>?_) hx⟩;refine aa (akZ hq) λe' xu ai=>?_;subst ai;exact h2 e' xu
theorem Hm.zJ(L:gI Y)(hM:aDc):∀{l:ad7}{i:Nat},Hm Y M l i->∀j t,i<=j->j<Y.n->M t->jA Y t j->∃x,iV Y M j (Y.im t j) x
 |[],i,h,j,t,h1,h2,_,_=>by
  have:i=Y.n:=h.1;exact absurd h1 (ago (aaj h2 aBO))
 |R::l,i,h,j,t,h1,h2,ht,hf=>by
  rcases abx i j with z|z
  .exact Hm.zJ L hM (h.tail L) j t (z) h2 ht hf
  .have e:j=i:=(acv z h1);subst e;refine ba (h.split L ht hf) λu w hu _ _=>?_;obtain⟨x,hx⟩:=LM.ex h.1.2.2 u;exact⟨x,h.best L hM hu hx⟩
def E7(L:gI Y)(hM:aDc)(h:Hm Y M l 0):IW Y M azj 0/\(∀t,t∈TL Y azj↔M t)/\(TL Y azj).Nodup :=by
 have hl:IW Y M azj 0:=vK L hM (λi t hi ht hf=>h.zJ L hM i t ao3 hi ht hf) _ 0 az1;have hm:=hl.hm L hM;refine⟨hl,λt=>?_,pC L hm.1⟩;rw[ju,hm.2 t];exact⟨λz=>z.1,λz=>⟨z,λk hk=>apN⟩⟩
def Fd.hm(L:gI Y)(hG:∀u,G u->Y.S u)(h:Fd Y G l []):Hm Y (Gen Y G) l 0:=
 ⟨h.v,λt=>⟨λz=>⟨(h.done L hG t).mp z,λk hk=>apN⟩,λz=>(h.done L hG t).mpr z.1⟩⟩
end
section
variable {α β:Type}{act:β->α->β}{b t:β}{G D:ahB}{B W:apt}
inductive F2(act:β->α->β)(b:β)(G:ahB):β->Prop
 |one:F2 act b G b
 |mul:F2 act b G x->g∈G->F2 act b G (act x g)
structure Al(act:β->α->β)(b:β)(G:ahB)(B W:apt):Prop where
 one:b∈B
 nd:B.Nodup
 wb:∀x∈W,x∈B
 gen:∀x∈B,F2 act b G x
 out:∀x∈B,x∉W->∀g∈G,act x g∈B
def al0:Al act b G [b] [b] where
 one:=aar.mpr rfl
 nd:=by simp
 wb:=λ_ h=>h
 gen:=λx hx=>by rw[aar.mp hx];exact .one
 out:=λx hx h=>absurd hx h
structure Am(act:β->α->β)(b:β)(G:ahB)(t:β)(D:ahB)(B W:apt):Prop where
 one:b∈B
 nd:B.Nodup
 wb:∀x∈W,x∈B
 gen:∀x∈B,F2 act b G x
 tb:t∈B
 out:∀x∈B,x∉W->x≠t->∀g∈G,act x g∈B
 now:∀g∈D,act t g∈B
def Al.start(h:Al act b G B az_):Am act b G t [] B W where
 one:=h.one
 nd:=h.nd
 wb:=λx hx=>h.wb x (axN hx)
 gen:=h.gen
 tb:=h.wb t ayA
 out:=λx hx h1 h2=>h.out x hx λz=>(aaH.mp z).elim h1 λz=>h2 aGt
 now:=λ_ h=>nomatch h
def Am.old(h:avs)(hg:act t g∈B):Am act b G t (D++[g]) B W:=
 ⟨h.one,h.nd,h.wb,h.gen,h.tb,h.out,λx hx=>(aaH.mp hx).elim (h.now x) λz=>by rw[aar.mp z];exact hg⟩
def Am.new(h:avs)(hG:g∈G)(hg:act t g∉B):Am act b G t (D++[g]) (B++[act t g]) (W++[act t g]) where
 one:=aaO _ h.one
 nd:=by
  rw[abL];exact⟨h.nd,by simp,λa ha b hb e=>hg (by rw[<-aar.mp hb,<-e];exact ha)⟩
 wb:=λx hx=>(aaH.mp hx).elim (λz=>aaO _ (h.wb x z)) λz=>aaJ _ z
 gen:=λx hx=>(aaH.mp hx).elim (h.gen x) λz=>by
  rw[aar.mp z];exact .mul (h.gen t h.tb) hG
 tb:=aaO _ h.tb
 out:=λx hx h1 h2 g' F1=>by
  rcases aaH.mp hx with z|z
  .exact aaO _ (h.out x z (λy=>h1 (axN y)) h2 g' F1)
  .exact absurd (aaJ _ z) h1
 now:=λx hx=>(aaH.mp hx).elim (λz=>aaO _ (h.now x z)) λz=>by
  rw[aar.mp z];exact aaJ _ aj3
def Am.fin[DecidableEq β](h:avs)(hD:∀g∈G,g∈D):Al act b G B W where
 one:=h.one
 nd:=h.nd
 wb:=h.wb
 gen:=h.gen
 out:=λx hx hw g hg=>by
  by_cases e:x=t
  .rw[e];exact h.now g (hD g hg)
  .exact h.out x hx hw e g hg
def Al.done(h:Al act b G B [])(t:β):t∈B↔F2 act b G t:=by
 refine⟨h.gen t,λz=>?_⟩;induction z with
 |one=>exact h.one
 |mul _ hu ih=>exact h.out _ ih ab1 _ hu
end
def zK:F2 Py.comp (Py.bR s) G t↔Gen (pg s) (· ∈G) t:=by
 constructor
 .intro h;induction h with
  |one=>exact .one
  |mul _ hu ih=>exact .mul ih hu
 .intro h;induction h with
  |one=>exact .one
  |mul _ hu ih=>exact .mul ih hu
def E8(hG:∀u∈G,u∈Py.perms s)(h:F2 Py.comp (Py.bR s) G t):t∈Py.perms s:=Gen.S aE hG (zK.mp h)
end iH
namespace eQ
open Py
noncomputable abbrev lo1:C:=(.seq (.ifs (aCR atb) ar3 .skip) (akq (ax9 (aEv (.w 2 (.o (.call 2 (.o (.nY 4 atb)))))))))
noncomputable abbrev WJ:C:=(.seq (.app 2 (aEv (.w 1 (.u 4)))) (akq (.app 2 (aEv (.w 4 (.u 1))))))
noncomputable abbrev WK:C:=(akq (.for [4] 0 (.dv 3) WJ))
noncomputable abbrev WL:C:=(.seq (.asg 5 (.prim .min (.o avY))) (akq (.asg 3 (aEv (.cons (.nY 4 (.fj .index alq (.u 5))) (.u 3))))))
noncomputable abbrev oT:E:= .it (.sl ac6 (.o (awu ad_)) .nil)
noncomputable abbrev oR:E:= .call 6 (.w 1 (.w 2 (.o (.nY 3 ac6))))
noncomputable abbrev oS:E:= .tup (.w 0 (.o oR))
noncomputable abbrev T3:C:=(.seq (.asg 7 (.call 22 (.w 5 (.u 6)))) (akq (.ifs (.AD true atw 3) (.seq aCK (.seq (.app 4 atw) .skip)) .skip)))
noncomputable abbrev Sl:C:=(.seq (.pop 5 4) (akq aEg))
noncomputable abbrev T4:E:= .comp [] 0 (.it ajc) .nil (.idx ac6 aii)
noncomputable abbrev Sn:C:=(.seq (.fm 6 aq1) (.seq (.ifs atc (akq (ak6 (.c .cq))) .skip) (.seq (.asg 7 (.fj .rP (ak5 6) (.o (.idx alq aqK)))) (.seq (ax9 (.bin .Add (.bin .Mult ajc (akF (.u 5))) atw)) (akq (.asg 3 (aEv (.w 3 (.o (.call 2 (.o (.idx (.idx aoY atw) aii))))))))))))
noncomputable abbrev YN:E:=(.comp [4] 0 (.it ad_) .nil (aEv (.w 0 (.o (.idx ad_ aii)))))
noncomputable abbrev YO:C:=(akq (.ext 3 YN))
noncomputable abbrev YQ:C:=(.seq (.fm 3 aqd) (.seq (.for [4] 0 (.it ajc) YO) (akq (.Qi 1 3))))
noncomputable abbrev YR:C:=(.seq (.ifs (.CK true (.cons (ax7 avy) (.o aw3))) (akq (.asg 4 (akJ (.o (.call 22 (.cons (.idx alq al3) (.o (.idx alq (.neg aii))))))))) .skip) (akq (ak6 (akJ (.w 2 (.w 3 (.u 4)))))))
noncomputable abbrev Sr:E:=(.cmp .Eq ajc al3)
noncomputable abbrev IY:E:=(ax8 ajc)
noncomputable abbrev Bu:E:=(.not (anH 13))
noncomputable abbrev YS:C:=(akq (aHg (.bin .Mult ad_ (akF (.u 2)))))
noncomputable abbrev WM:E:=(.comp [5] 0 (.it ajc) .nil (akJ (.cons (anH 1) (.o (.c ag3)))))
noncomputable abbrev WN:C:=(akq (.ifs (aCR aoY) (.seq (.app 3 aoY) (.seq (.upd 4 WM) .skip)) .skip))
noncomputable abbrev mi1:E:=(.comp [0] 0 (.it ad_) .nil (anH 22))
noncomputable abbrev miE:E:=(.comp [8] 0 (.it atw) .nil (.prim .min (.o mi1)))
noncomputable abbrev WO:C:=(.seq (.asg 5 (.call 8 (aHc 3))) (.seq (.asg 6 (.call 8 (aHc 4))) (.seq (.asg 7 (.call 23 (aHc 3))) (.seq (.asg 8 (.call 23 (aHc 4))) (.seq (.ifs (.cmp .NotEq (.comp [7] 0 (.it (ak5 8)) (.o (.cmp .NotIn ac6 ad_)) ac6) aqd) (akq (ak6 (.prim .all (.o (.comp [6,5] 0 (.iO (.o avx)) .nil (.call 25 (.w 1 (.w 2 (.u 0))))))))) .skip) (.seq (.asg 9 (.sset miE)) (.seq (.asg 10 (.call 16 (.w 6 (.u 5)))) (.seq (.ifs (.CK false (.cons (.cmp .NotEq (ak5 10) (akM (.u 9))) (.o (.cmp .NotEq (aCQ (akF (.u 8))) (akF (.u 7)))))) (akq (ak6 (.c ami))) .skip) (akq (ak6 (.cmp .Eq (aCQ (.call 14 (.u 6))) (.call 14 (.u 5)))))))))))))
noncomputable def d3:Fd:=⟨2,5,(.seq (ax9 ad_) (.seq (.for [3,4] 2 (.GI ac6) lo1) ar3))⟩
noncomputable def d4:Fd:=⟨2,5,(.seq (.fm 2 aqd) (.seq (.for [3] 0 auG WK) ar3))⟩
noncomputable def d5:Fd:=⟨2,7,(.fst 2 [1] ar_ ac6 aoo (.fm 3 (.prim .list (.u 0))) 3 4 3 (.fm 5 alC) 5 (.asg 6 ayQ) (ak5 6) anr aqK 4 aqK)⟩
noncomputable def d6:Fd:=⟨3,6,(.seq (.asg 3 ajc) (.seq (.for [4] 0 oT WL) (akq (ak6 (.var 3)))))⟩
noncomputable def d7:Fd:=⟨2,3,(.seq (ax9 ayR) (akq (ak6 (akM (.o (.comp [0,1,2] 0 (.it (.iW 2)) .nil oS))))))⟩
noncomputable def d8:Fd:=⟨2,3,(.seq (ax9 (anH 5)) (akq (ak6 (akM (.o (.comp [2] 0 ar_ .nil (am0 7)))))))⟩
noncomputable def d9:Fd:=⟨1,5,(.seq (.fm 1 (akx (.o (.call 0 (.o (.prim .len (.u 0))))))) (.seq (.for [2] 0 (.OC ac6) YQ) (akq (ak6 (akM (.o (.prim .sorted (.u 1))))))))⟩
noncomputable def Ss:Fd:=⟨1,3,(.seq (.fm 1 aqd) (.seq (.for [2] 0 auG (akq aEh)) (akq (ak6 (akM (.u 1))))))⟩
noncomputable def Su:Fd:=⟨2,2,(akq (ak6 (.cmp .IsNot (anH 12) (.c .cq))))⟩
noncomputable def Sv:Fd:=⟨2,8,(.seq (ax9 al3) (.seq (.asg 3 ad_) (.seq (.for [4,5] 2 (.GI ac6) Sn) ar3)))⟩
noncomputable def Sw:Fd:=⟨2,2,(akq (ak6 (.prim .all (.o (.comp [1] 0 (.it (.call 10 (.u 0))) .nil (am0 11))))))⟩
noncomputable def WQ:Fd:=⟨1,3,(.seq (aHg aii) (.seq (.for [2] 0 auG YS) (akq (ak6 ad_))))⟩
noncomputable def rn:Fd:=⟨2,2,(akq (.ifs Bu (.seq (.raise 3) .skip) .skip))⟩
noncomputable def T5:Fd:=⟨2,6,(.seq (.expr (anH 15)) (.seq (ax9 (.call 9 (.u 0))) (.seq (.fm 3 aqd) (.seq (.CN 4) (.seq (.for [5] 0 (.it (aoJ 9)) WN) (akq (ak6 (akM (.u 3)))))))))⟩
noncomputable def OU:Fd:=⟨2,8,(.seq (ax9 aEb) (.seq avX (.seq (.fm 4 (akx (.u 2))) (.seq (.while ajw Sl) (akq (ak6 (.iW 3)))))))⟩
noncomputable def OV:Fd:=⟨2,6,(anQ (am1 (amD (aoa (.seq (.ifs (ax8 aoY) (.seq (.asg 4 (.sl aqK .nil (.o aii))) (akq (.asg 3 (.sl (.bin .Add alq aqK) .nil (.o (.ci 6)))))) .skip) YR)))))⟩
noncomputable def ql:Fd:=⟨3,5,(.seq aEf aj6)⟩
noncomputable def N3:Fd:=⟨1,2,(.seq (aHg (.tup (.cons (akJ (.cons ajy (.o (.tup (aHl (awt (.cons avx (.cons avy (.cons apQ (.o aEj)))))))))) (.cons (akJ (.cons (.tup (awt (aHj (aq3 al3)))) (.o (.tup (aHk (.cons aEj (.cons apQ (.cons al3 (awt (.o avy)))))))))) (.o (akJ (.o ajx))))))) (.seq (aHg (.bin .Add ad_ (akJ (.o (.tup (.cons ajx (.o (.tup (.cons apQ (.cons aEj (aHk (.cons avy (awt (.o al3)))))))))))))) (.seq (aHg (.bin .Add ad_ (akJ (.o (.tup (.cons (.tup (awt (aHj (.cons al3 (.cons avx (.cons aEj (.o apQ))))))) (.cons (.tup (aHl (awt (aq3 avy)))) (.o ajy)))))))) auP)))⟩
noncomputable def Sx:Fd:=⟨1,11,(.seq (aHg aEj) (.seq (.ifs (ax8 ah5) (akq (aHg apQ)) .skip) akl))⟩
noncomputable def WR:Fd:=⟨2,2,.skip⟩
noncomputable def WS:Fd:=⟨2,8,.skip⟩
noncomputable def WT:Fd:=⟨2,2,(akq (ak6 (anH 31)))⟩
noncomputable def WU:Fd:=⟨2,2,(akq (ak6 Bu))⟩
noncomputable def T:aBW:=[kC,e_,pz,d3,d4,d5,d6,d7,d8,d9,Ss,Su,Sv,Sw,WQ,rn,T5,hZ,o_ 17,iG,lU 19,i8 20 19,e_,OU,OV,ql,N3,Sx,WR,WS,WT,WU]
open iH
noncomputable abbrev kR(R:arO):ab3:=R.map λe=>[(e.1:Int)]
noncomputable abbrev vR(R:arO):ac1:=R.map λe=>tp e.2
noncomputable def aC(R:arO):D:= .bx 0 (kR R) (vR R)
theorem iL:∀(R:arO) (k:Nat),find (kR R) (vR R) [(k:Int)]=(dm R k).map tp
 |[],k=>rfl
 |e::R,k=>by
  show find ([(e.1:Int)]::kR R) (tp e.2::vR R) [(k:Int)]=_;rw[find];unfold dm;rw[ada];by_cases h:e.1=k
  .subst h;rw[aaB rfl];simp
  .have h':¬([(e.1:Int)]=[(k:Int)]):=λz=>h (by injection z with z _;exact adF z);rw[aaF h',iL R k];have:(e.1==k)=false:=by simp[h]
   rw[this];rfl
def E9{k:Nat}:[(k:Int)]∈kR R↔dm R k≠none:=by
 constructor
 .intro h z;refine aa azV λe he hk=>?_;have:e.1=k:=by injection hk with hk _;exact adF hk
  exact iJ z aBD
 .intro h;cases z:dm R k with
  |none=>exact absurd z h
  |some u=>exact aaz.mpr ⟨_,b6 z,rfl⟩
section
variable {s:Nat}{F:FT}
def jv(ht:ahu)(hk:k<s):item (tp t) af_=some (al6 ((pg s).im t k:Nat)):=by
 rw[zD alB (by rw[aR ht];lia)];show some (D.int (t.getD (k:Int).toNat 0))=_;rw[abU,zI ht hk]
def zL(a b:Nat):((a:Int)==(b:Int))=decide (a=b):=by
 by_cases h:a=b
 .rw[h,decide_eq_true rfl];exact beq_self_eq_true _
 .rw[decide_eq_false h];exact beq_eq_false_iff_ne.mpr λz=>h (adF z)
theorem VL.len:∀{l:ag2}{i:Nat},alY->i+l.length=Y.n
 |[],i,h=>h
 |R::l,i,h=>by
  have:=VL.len h.2.2;rw[aaL];lia
noncomputable abbrev LE(x0 x1:ab4)(t:aa0)(x3 x4:ab4):Env:=[x0,x1,aht,x3,x4]
def IZ(ht:∀p∈perms s,∀q∈perms s,ab7)(hb:∀p∈perms s,aiE){x0 x1 x3 x4:ab4}(hi:i<s)(hv:awR)(hp:ahu):
  ex F lo1 ajI=match dm R alD with
   |some u=>some (akC (LE x0 x1 (comp t (ip u)) (vf ahH) aFC))
   |none=>some (ak6 (tp t)):=by
 have I_:ev F false (aCR atb) ajI=some (.bl (!decide ([((pg s).im t i:Int)]∈kR R))):=by
  rw[Qo,show ev F false atb ajI=_ from jv hp hi];rfl
 cases e:dm R alD with
 |none=>
  rw[decide_eq_false λz=>E9.mp z e]at I_;exact xZ I_ rfl
 |some u=>
  rw[decide_eq_true (E9.mpr (by rw[e];simp))]at I_;have hu:ajr:=(hv.st _ _ (b6 e)).1;refine xN I_ (xA (av (cf rfl (av (ie (YH (q:=(0,kR R,vR R)) rfl aF5 ?_)) (hb u hu) (aw _))) (ht t hp _ (gu hu)) (aw _)) rfl);show find (kR R) (vR R) [((pg s).im t i:Int)]=_;rw[iL,e];rfl
theorem zM(ht:∀p∈perms s,∀q∈perms s,ab7)(hb:∀p∈perms s,aiE){x0 x1:ab4}:∀{l:ag2}{i:Nat}{t:aa0}{x3 x4:ab4},arj->ahu->
  ∃o,a_ (λx ρ=>(aH 2 x).bind λys=>(de ρ [3,4] ys).bind λρ'=>ex F lo1 ρ') (bI i ake) (LE x0 x1 t x3 x4)=some o/\(o= .ret (tp aGj)\/∃y3 y4,o= .next (LE x0 x1 aGj y3 y4))
 |[],i,t,x3,x4,_,_=>⟨_,rfl,.inr ⟨x3,x4,rfl⟩⟩
 |R::l,i,t,x3,x4,hv,hp=>by
  have hi:i<s:=hv.2.1;have h1:=IZ (x0:=x0) (x1:=x1) (x3:=x3) (x4:=x4) ht hb hi hv.1 hp;show∃o,a_ _ (.tup [ahH,aC R]::bI ((i:Int)+1) ake) _=some o/\_;rw[a_];show∃o,(ex F lo1 ajI).bind _=some o/\_;rw[h1];unfold dD;cases e:dm R alD with
  |none=>exact⟨_,rfl,ahq⟩
  |some u=>
   have hu:ajr:=(hv.1.st _ _ (b6 e)).1;have:=zM ht hb (x0:=x0) (x1:=x1) (l:=l) (i:=i+1) (t:=comp t (ip u)) (x3:=vf ahH) (x4:=vf (aC R)) hv.2.2 (cZ hp (gu hu));rw[show(((i+1:Nat):Int))=(i:Int)+1 by exact Int.natCast_add _ _]at this;exact this
def Ja(ht:∀p∈perms s,∀q∈perms s,ab7)(hb:∀p∈perms s,aiE)(hv:ajP)(hp:ahu):
  ex F d3.body (ao d3 [ac8,tp t])=some (ak6 (tp aiV)):=by
 refine aa (zM ht hb (x0:=vf ac8) (x1:=vf (tp t)) (x3:=none) (x4:=none) hv hp) λo h1 h2=>?_;rcases h2 with rfl|⟨y3,y4,rfl⟩
 .exact xA rfl (NR h1)
 .exact xA rfl aod
noncomputable def vL(r:aa0)(R:arO):ab3:=R.flatMap λe=>[comp r e.2,comp e.2 r]
noncomputable def bG(r:aa0)(l:ag2):ab3:=l.flatMap (vL r)
theorem kG(r:aa0):∀R:arO,(vL r R).length =2*R.length
 |[]=>rfl
 |e::R=>by
  show([comp r e.2,comp e.2 r]++vL r R).length =_;rw[aau,kG r R,aaL];simp;exact aep _ _
noncomputable abbrev PE(x0:ab4)(r:aa0)(acc:ab3)(x3 x4:ab4):Env:=[x0,aiM,alc,x3,x4]
def kH(h:ar0)(hi:ρ[i]?=some (aku (true,ag8)))(hl:xs.length<bW):ex F aGX ρ=some aBK:=by
 rw[Vv,h];show(match ρ[i]? with
  |some (some (true,.lst xs))=>if xs.length<bW then some (mh.next aiJ) else none
  |_=>none)=_
 rw[hi];exact aaB hl
def Jb(ht:∀p∈perms s,∀q∈perms s,ab7)(hr:amG)(hu:ajr)(hl:acc.length+2<=10000):
  ex F WJ (aCj aq4)=some (akC (PE x0 r (acc++[ays,aEY]) x3 aq4)):=by
 have e2:acc.map tp++[tp ays]++[tp aEY]=(acc++[ays,aEY]).map tp:=by rw[abd,aaZ];rfl
 refine xG (kH (awp (ht r hr u hu)) (xs:=acc.map tp) rfl ?_) (xG (kH (awp (ht u hu r hr)) (xs:=acc.map tp++[tp ays]) rfl ?_) (by rw[e2];rfl))
 .rw[aap];exact aaj (aaE hl) aa1
 .rw[aau,aap];exact aaj hl aa1
theorem KJ(ht:∀p∈perms s,∀q∈perms s,ab7)(hr:amG):∀{R:arO}{acc:ab3}{x4:ab4},(∀e∈R,ard)->acc.length+2*R.length<=10000->
  ∃y4,a_ (λx ρ=>(aH 0 x).bind λys=>(de ρ [4] ys).bind λρ'=>ex F WJ ρ') (vR R) (aCj x4)=some (akC (PE x0 r (acc++vL r R) x3 y4))
 |[],acc,x4,_,_=>⟨x4,by show some aC8=_;rw[show vL r []=[] from rfl,abm]⟩
 |e::R,acc,x4,h,hl=>by
  rw[aaL]at hl;have hu:=h e aaq;obtain⟨y4,ih⟩:=KJ ht (x0:=x0) (x3:=x3) hr (R:=R) (acc:=acc++[comp r e.2,comp e.2 r]) (x4:=vf (tp e.2)) (λe' xu=>h e' (akQ xu)) (by rw[aau];simp;exact O5 alA hl);refine⟨y4,?_⟩;exact(mC (Jb ht hr hu (t_ hl aBN))).trans (by rw[ih,aaZ];rfl)
theorem E_(ht:∀p∈perms s,∀q∈perms s,ab7)(hr:amG):∀{l:ag2}{acc:ab3}{x3 x4:ab4},(∀R∈l,∀e∈R,ard)->acc.length+(bG r l).length <=10000->
  ∃y3 y4,a_ (λx ρ=>(aH 0 x).bind λys=>(de ρ [3] ys).bind λρ'=>ex F WK ρ') ake (aCj x4)=some (akC (PE x0 r (acc++bG r l) y3 y4))
 |[],acc,x3,x4,_,_=>⟨x3,x4,by show some aC8=_;rw[show bG r []=[] from rfl,abm]⟩
 |R::l,acc,x3,x4,h,hl=>by
  have e0:bG r (R::l)=vL r R++bG r l:=rfl;rw[e0,aau,kG]at hl;obtain⟨z4,i1⟩:=KJ ht (x0:=x0) (x3:=vf (aC R)) hr (R:=R) (acc:=acc) (x4:=x4) (h R aaq) (O4 hl (abj aiD _));refine O0 (E_ ht (x0:=x0) hr (l:=l) (acc:=acc++vL r R) (x3:=vf (aC R)) (x4:=z4) (λR' WV=>h R' (akQ WV)) (by rw[aau,kG];exact O5 (acw _ _ _) hl)) λy3 y4 ih=>⟨y3,y4,?_⟩;refine afF (mC (c:=WK) (xG i1 rfl)) ?_;rw[ih,e0,aaZ]
def Jc(ht:∀p∈perms s,∀q∈perms s,ab7)(hr:amG)(h:∀R∈l,∀e∈R,ard)(hl:(bG r l).length <=10000):
  ex F d4.body (ao d4 [ac8,tp r])=some (ak6 amR):=
 O0 (E_ ht (x0:=vf ac8) hr (l:=l) (acc:=[]) (x3:=none) (x4:=none) h (by simpa using hl)) λy3 y4 h1=>xB (xs:=[]) rfl aod
end
end eQ
namespace iH
section
variable {α:Type}{Y:Pg α}
theorem nB(hM:aDc):∀{l:ad7}{i:Nat}{t:α},(∀u,awT->M u)->M t->M alV
 |[],_,_,_,h=>h
 |R::l,i,t,hs,h=>by
  unfold dD;cases e:dm R al7 with
  |none=>exact h
  |some u=>exact nB hM (λv ⟨R',hR,q⟩=>hs v ⟨R',aal _ hR,q⟩) (hM.mul _ _ h (hM.inv _ (hs u ⟨R,aaq,_,b6 e⟩)))
theorem zN:∀{l:ad7}{k:Nat}{R:Rg α},l[k]?=some R->add l k x=l.set k (R++[x])
 |[],_,_,h=>by simp at h
 |R::l,0,_,h=>by simp at h;subst h;rfl
 |R::l,k+1,R',h=>by
  show R::add l k x=R::l.set k (R'++[x]);rw[zN (by simpa using h)]
noncomputable def cnt:ad7->Nat
 |[]=>0
 |R::l=>R.length+cnt l
theorem zO:∀{l:ad7}{k:Nat}{R:Rg α},l[k]?=some R->cnt (aot x)=cnt l+1
 |[],_,_,h=>by simp at h
 |R::l,0,_,h=>by
  show(R++[x]).length+cnt l=R.length+cnt l+1;rw[aau,abw];exact abk _ _ _
 |R::l,k+1,R',h=>by
  show R.length+cnt (aot x)=R.length+cnt l+1;rw[zO (by simpa using h)];exact aet _
def Fb{l:ahW}(nd:aBk)(h:∀k∈l,k<n):l.length<=n:=by
 have:(l.map λk:Nat=>(k:Int)).length <=n:=Py.tu n _ (by
  rw[abD,abz];exact nd.imp λh e=>h (adF e)) λx hx=>by
   refine aa awJ λk hk ai=>?_;subst ai;have:=h k hk;lia
 rwa [aap]at this
theorem tH(L:gI Y):∀{l:ad7}{i:Nat},alY->cnt l<=l.length*Y.n
 |[],_,_=>by simp[cnt]
 |R::l,i,⟨hv,hi,hl⟩=>by
  have h1:R.length<=Y.n:=by
   have:=Fb hv.nd (n:=Y.n) λp hp=>by
    refine aa (akZ hp) λe he ai=>?_;subst ai;refine c6 auj λs1 _ s3=>?_;rw[<-s3];exact L.kE s1 hi
   rwa [aap]at this
  have:=tH L hl;show R.length+cnt l<=(l.length+1)*Y.n;rw[Nat.add_mul];lia
end
end iH
namespace eQ
open Py iH
section
variable {s:Nat}{F:FT}
theorem lW(r:aa0):∀l:ag2,(bG r l).length =2*cnt l
 |[]=>rfl
 |R::l=>by
  show(vL r R++bG r l).length =2*(R.length+cnt l);rw[aau,kG,lW r l];lia
def Bv(h:awT):comp u r∈bG r l/\comp r u∈bG r l:=by
 obtain⟨R,hR,p,hp⟩:=h;have h1:∀x,x∈[ays,aEY]->x∈bG r l:=λx hx=>abB.mpr ⟨R,hR,abB.mpr ⟨(p,u),hp,hx⟩⟩;exact⟨h1 _ ab1,h1 _ ab1⟩
def Fc(hM:arb)(hr:M r)(hs:∀u,awT->M u):∀x∈bG r l,M x:=λx hx=>by
 refine aa (abB.mp hx) λR hR hx=>aa (abB.mp hx) λe he hx=>?_;have hu:=hs e.2 ⟨R,hR,e.1,he⟩;rcases aat.mp hx with z|z
 .rw[z];exact hM.mul _ _ hr hu
 .rw[aar.mp z];exact hM.mul _ _ hu hr
noncomputable def lX(s:Nat)(r:aa0):ahW:=(List.range s).filter λk=>decide ajz
noncomputable abbrev FE(x0:ab4)(s:Nat)(W:ab3)(x4 x5 x6:ab4):Env:=[x0,avF,some (true,wO),aEF,x4,x5,x6]
noncomputable abbrev T6:C:=(.fm 5 alC)
def jw(n:Nat):bS 0 n=(List.range n).map λ(k:Nat)=>D.int (k:Int):=by
 rw[fS];unfold bR;rw[abc];rfl
def zP{n:Nat}{g:Nat->D}(h1:dU F false es ρ=some [.int n])(hn:aFY)(hc:∀k<n,ev F false el (akw [.int (k:Nat)])=some (g k)):ev F b (.comp fr 0 aFs .nil el) ρ=some (akx ((List.range n).map g)):=by
 rw[pB (by rw[h1];exact eF hn) (by rw[ig];exact aam hn aa1),jw,fR (λk:Nat=>D.int (k:Int)) g _ _ λk hk=>congrArg (axO some) (hc k (abe.mp hk))];rfl
def KL(h6:s<=6)(hr:amG):ex F T6 azY=some (akC (FE x0 s W aiM (some (true,.lst ((lX s r).map λ(k:Nat)=>D.int (k:Int)))) x6)):=by
 have hc:ev F false alC azY=some (akx ((lX s r).map λ(k:Nat)=>D.int (k:Int))):=by
  have Bg:apo:=rfl;have hr1:(dU F false (.u 1) azY).bind eM=some apB:=eF awM;rw[pB hr1 (by rw[ig];exact aam h6 aa1)];have hw:walk (vG F [4] (.o ahZ) ac6 azY) apB=some ((bS 0 s).filter λd=>match d with
    | .int k=>decide ((pg s).im r k.toNat≠k.toNat)
    |_=>false):=by
   refine mD _ λx hx=>aa (vI hx) λk hk ai=>?_;subst ai;have hi:ev F true anN [aoK,aiM]=some (al6 ((pg s).im r k:Nat)):=jv hr hk;have hcm:ev F false ahZ [aoK,aiM]=some (.bl (aG8 ajz)):=by
    rw[LU,hi];show some (D.bl (!(((pg s).im r k:Nat):Int)==(k:Int)))=_;rw[zL,<-decide_not]
   show((k7 F true (.o ahZ) [aoK,aiM]).bind λk'=>if k' then some (aku (D.int k)) else some none)=_;rw[GK,hcm];show((if decide ajz=true then k7 F true .nil _ else some (aG8 ajz)).bind _)=some (if decide ((pg s).im r (k:Int).toNat ≠(k:Int).toNat)=true then some (D.int k) else none);rw[abU];cases decide ajz<;>rfl
  rw[hw,jw,List.filter_map];rfl
 rw[LY,hc];rfl
def vM(hk:k<s)(hf:jA (pg s) r k)(hm:ajz):∃aT,lX s r=k::aT:=by
 unfold lX;obtain⟨m,hs⟩:∃m,s=k+(m+1):=⟨s-k-1,(Uy hk)⟩;have e:List.range s=List.range k++k::(List.range m).map λj=>k+(j+1):=by
  rw[hs,List.range_add,agu,aaX,abc];rfl
 have e1:(List.range k).filter (λj=>decide ((pg s).im r j≠j))=[]:=by
  rw[aeM];intro j hj;have:=hf j ayy;simp[this]
 rw[e,ahj,e1,afy,afl,aaB (by simp[hm])];exact⟨_,rfl⟩
def xK(hs:0<=s):lX s (bR s)=[]:=by
 unfold lX;rw[aeM];intro j hj;have:(pg s).im (bR s) j=j:=aE.bL (Y:=pg s) ayy;simp[this]
end
noncomputable abbrev WW:C:=(.asg 6 ayQ)
section
variable {s:Nat}{F:FT}
noncomputable abbrev Jd(F:FT):ac1->Env->ac1->atz:=jV F 2 3 4 3 (ex F T6) 5 (ex F WW) (akt (ak5 6)) (akt anr) (akt aqK) 4 (akt aqK)
def Je(h:l[k]?=some R):(l.map aC).set k (.bx 0 (kR R++[[(x.1:Int)]]) (vR R++[tp x.2]))=(add l k x).map aC:=by
 rw[zN h,List.map_set];congr 1;unfold aC kR vR;rw[abd,abd];rfl
def Bw(h6:s<=6){l:ag2}(hl:F 3 [ac8,tp t]=some ahR):
  Jd F ake (asl az_) aG2=some (ake,FE x0 s W aAA aCA x6):=by
 have e1:((W++[t]).map tp).getLast? =some (tp t):=by rw[abd];simp
 have e2:((W++[t]).map tp).dropLast =W.map tp:=by rw[abd];simp
 have hc:=KL (F:=F) h6 (x0:=x0) (x5:=x5) (x6:=x6) (W:=W) (ic s);rw[xK ao3]at hc;unfold Jd jV;rw[e1,e2];show ayW=_;rw[hl];show(if(aF (tp t)&&aF ahR)=true then(ex F T6 (FE x0 s W aAA x5 x6)).bind _ else none)=_;rw[aw,aw,Bool.and_self,aaB rfl,hc];rfl
def Bx(h6:s<=6)(hl:F 3 [ac8,tp t]=some (tp r))(hr:amG)(hk:k<s)(hR:l[k]?=some R)(hf:jA (pg s) r k)(hm:ajz)(hn:(pg s).im r k∉R.map (·.1))(hls:R.length<=6)
  (hg:F 4 [.lst anP,tp r]=some (akx aor)) (hW:W.length+(bG r (aot aib)).length <=10000):
  ∃y4 y5 y6,Jd F ake (asl az_) aG2=some (anP,FE x0 s (W++bG r (aot aib)) y4 y5 y6):=by
 have e1:((W++[t]).map tp).getLast? =some (tp t):=by rw[abd];simp
 have e2:((W++[t]).map tp).dropLast =W.map tp:=by rw[abd];simp
 have hc:=KL (F:=F) h6 (x0:=x0) (x5:=x5) (x6:=x6) (W:=W) hr;obtain⟨aT,WX⟩:=vM hk hf hm;rw[WX]at hc;have Bg:apo:=rfl;have T7:k<l.length:=(aax.mp hR).1;have Nu:CO ake k [((pg s).im r k:Int)] (tp r)=some anP:=by
  unfold CO;rw[aaC,hR];show(if(kR R).length<bW/\[((pg s).im r k:Int)]∉kR R then some ((l.map aC).set k (.bx 0 (kR R++[[((pg s).im r k:Int)]]) (vR R++[tp r]))) else none)=_;have hnk:[((pg s).im r k:Int)]∉kR R:=λz=>by
   refine aa (akZ z) λe he hq=>?_;have:e.1=(pg s).im r k:=by injection hq with hq _;exact adF hq
   exact hn aBD
  rw[aaB ⟨by rw[aap];exact aaU hls aa1,hnk⟩];exact congrArg some (Je (x:=aib) hR)
 have dq:place (l.map aC).length (k:Int)=some k:=by
  unfold place;rw[aap,aaB alB,aaB (by lia)];rfl
 have hix:∀YT,ev F false anr (axQ YT)=some (al6 ((pg s).im r k:Nat)):=λYT=>jv hr hk;have hc3:ex F WW (akI (some (true,.lst ((k::aT).map λ(k:Nat)=>D.int (k:Int)))))=some (akC (axQ (some (true,.lst ((k::aT).map λ(k:Nat)=>D.int (k:Int)))))):=by
  have hi:ev F false ayQ (akI (some (true,.lst ((k::aT).map λ(k:Nat)=>D.int (k:Int)))))=some af_:=by
   show((place ((k::aT).map λ(k:Nat)=>D.int (k:Int)).length 0).bind λj=>((k::aT).map λ(k:Nat)=>D.int (k:Int))[j]?)=_;unfold place;rw[aaB aa1,aaB (by rw[aap,aaL];exact adn alB (agg _))];rfl
  rw[cJ hi];rfl
 refine⟨some (false,tp r),some (true,.lst ((k::aT).map λ(k:Nat)=>D.int (k:Int))),aoK,?_⟩;unfold Jd jV;rw[e1,e2];show ayW=_;rw[hl];show(if(aF (tp t)&&aF (tp r))=true then(ex F T6 azY).bind _ else none)=_;rw[aw,aw,Bool.and_self,aaB rfl,hc];show((ex F WW (akI (some (true,.lst ((k::aT).map λ(k:Nat)=>D.int (k:Int)))))).bind _)=_;rw[hc3];show(if aF (tp r)=true then _ else none)=_;rw[aw,aaB rfl];show((place (l.map aC).length (k:Int)).bind _)=_;rw[dq];show(((ev F false anr (axQ (aku (true,.lst ((k::aT).map λ(k:Nat)=>D.int (k:Int)))))).bind (c_ 0)).bind _)=_;rw[hix];show((CO ake k [((pg s).im r k:Int)] (tp r)).bind _)=_;rw[Nu];show(if aF (tp r)=true then(F 4 [.lst anP,tp r]).bind _ else none)=_;rw[aw,aaB rfl,hg];have nl:aY aor=true:=by
  have:∀ps:ab3,aY anA=true:=λps=>by
   induction ps with
   |nil=>rfl
   |cons p ps ih=>show(aF (tp p)&&aY anA)=true;rw[aw,ih];rfl
  exact this _
 show(if aY aor=true then(if(W.map tp).length+((bG r (aot aib)).map tp).length <=bW then _ else none) else none)=_;rw[nl,aaB rfl,aaB (by rw[aap,aap];exact aam hW aa1),<-abd];rfl
theorem VL.at:∀{l:ag2}{i k:Nat}{R:arO},alY->l[k]?=some R->V Y (i+k) R
 |[],_,_,_,_,h=>by simp at h
 |R::l,i,0,_,hv,h=>by simp at h;subst h;exact hv.1
 |R::l,i,k+1,R',hv,h=>by
  have:=VL.at hv.2.2 (k:=k) (R:=R') (by simpa using h);rwa [show i+1+k=i+(k+1) by exact abk _ _ _]at this
def pF(hi:i<s)(hv:awR):R.length<=s:=by
 have:=Fb hv.nd (n:=s) λp hp=>by
  refine aa (akZ hp) λe he ai=>?_;subst ai;refine c6 auj λs1 _ s3=>?_;rw[<-s3];exact aE.kE (Y:=pg s) s1 hi
 rwa [aap]at this
def Jf(hv:arj):∀R∈l,∀e∈R,ard:=λR hR e he=>(St.good aE hv ⟨R,hR,e.1,he⟩).1
theorem jx(h6:s<=6)(hG:∀u,G u->ajr)(pG:∀l t,ajP->ahu->ax1)
  (pH:∀l r,ajP->amG->aB2):∀(n:Nat) (l:ag2) (W:ab3) (x4 x5 x6:ab4),Fd (pg s) G l W->(36-cnt l)*100+W.length<n->(36-cnt l)*100+W.length<=5000->
  ∃l',gL (Jd F) 3 n ake (asl W)=some (l'.map aC)/\Fd (pg s) G l' []
 |0,_,_,_,_,_,_,h,_=>absurd h alz
 |n+1,l,W,x4,x5,x6,hd,hn,hm=>by
  have hY:=kF h6 hG;have ss:s*s<=36:=agT h6 h6;have cl:∀{l':ag2},VL (pg s) l' 0->cnt l'<=36:=λ{l'} hv=>by
   have h1:=tH aE hv;have h2:=VL.len hv;have h3:l'.length=s:=by rw[abI]at h2;exact h2
   rw[h3]at h1;exact aam h1 ss
  rw[gL];show∃l':ag2,(if(W.map tp).isEmpty =true then some ake else(Jd F ake (asl W) avi).bind λz=>gL (Jd F) 3 n z.1 z.2)=some (l'.map aC)/\_;rcases agD W with rfl|⟨W0,t,rfl⟩
  .exact⟨l,rfl,hd⟩
  .rw[agE]at hd hn hm⊢;have eJ:((W0++[t]).map tp).isEmpty =false:=by rw[abd];simp
   rw[eJ,aaF aan];rw[aau,abw]at hn hm;have ht:Gen (pg s) G t:=hd.wg t ayA;have YU:ahu:=Gen.S aE hG ht;have hl:=pG l t hd.v YU;rcases rm aE hd.v YU (λk hk=>apN)with⟨e1,e2⟩|⟨k,R,a1,a2,a3,a4,a5,a6,a7,a8⟩
   .rw[e1]at hl;rw[Bw h6 hl];exact jx h6 hG pG pH n l W0 _ _ _ (hd.none e2) (aaY hn) (aaE hm)
   .rw[abI]at a2 a4 a5 a6 a7 a8;have hk:k<s:=a2;have hV:=VL.at hd.v a1;rw[abI]at hV;have KN:=pF hk hV;have hg:=pH _ _ a8 a3;have kN:=cl a8;have hca:=zO (x:=aEt) a1;have dq:=lW aiV (aot aEt);refine SU (Bx h6 hl a3 hk a1 a4 a6 a5 aDP hg (x0:=x0) (x4:=x4) (x5:=x5) (x6:=x6) (W:=W0) (by lia)) λy4 y5 y6 hT=>?_;rw[hT];refine jx h6 hG pG pH n _ _ _ _ _ (hd.more aE a8 a7 (nB hY hd.g ht) (Fc hY (nB hY hd.g ht) λu hu=>?_) λu hu=>Bv hu) ?_ ?_
    .rcases hu.add with z|z
     .exact hd.g u z
     .rw[z];exact nB hY hd.g ht
    .rw[aau];lia
    .rw[aau];lia
noncomputable def zQ(s:Nat):ag2:=(List.range s).map λi=>[(i,bR s)]
theorem VL.zQ:∀(m i:Nat),i+m=s->VL (pg s) ((List.range' i m).map λi=>[(i,bR s)]) i
 |0,i,h=>by show i=s;exact h
 |m+1,i,h=>by
  rw[aff,aaX];have hi:i<s:=(Xx (aaw h) aiD);refine⟨⟨λp u hu=>?_,aj3,by simp⟩,hi,VL.zQ m (i+1) (afF alA h)⟩;rw[aar]at hu;cases hu;exact⟨ic s,λk hk=>aE.bL (Y:=pg s) (show k<s by exact B8 h (afi _ hk)),aE.bL (Y:=pg s) hi⟩
def Fe(tG:∀p∈ps,aio):Fd (pg s) (· ∈ps) (zQ s) ps:=by
 have mI:∀u,St (zQ s) u->u=bR s:=λu zz=>by
  obtain⟨R,hR,p,hp⟩:=zz;refine aa (akZ hR) λi _ ai=>?_;subst ai;rw[aar]at hp;exact(agZ hp).2
 have hv:VL (pg s) (zQ s) 0:=by
  have:=VL.zQ (s:=s) s 0 az1;unfold eQ.zQ;rw[afo];exact this
 refine⟨hv,λu hu=>by rw[mI u hu];exact .one,λt ht=>Gen.of aE (tG t ht) ht,λt ht=> .inl ht,λu v hu IU=> .inr ?_⟩;rw[mI u hu,mI v IU];show H (pg s) (zQ s) (comp (bR s) (bR s));rw[kB (ic s)];exact H.one aE hv
def Ff(h6:s<=6){ps:ab3}(tG:∀p∈ps,aio)(aG:ps.length<=720)(mI:F 0 [ahz]=some ahR)(pG:∀l t,ajP->ahu->ax1)
  (pH:∀l r,ajP->amG->aB2):
  ∃l,out (ex F d5.body aj2)=some ac8/\Fd (pg s) (· ∈ps) l []:=by
 have Bg:apo:=rfl;obtain⟨l,h1,h2⟩:=jx h6 tG pG pH (x0:=vf ac3) iX (zQ s) ps none none none (Fe tG) (by
  have:iX=1000000:=rfl;rw[this];have:(36-cnt (zQ s))*100<=3600:=by lia
  lia) (by
  have:(36-cnt (zQ s))*100<=3600:=by lia
  lia)
 refine⟨l,?_,h2⟩;have hr:n9 F true ar_ aj2=some apB:=eF (by lia);have hw:walk auK apB=some ((zQ s).map aC):=by
  rw[jw];unfold zQ;rw[abc];refine fR (λk:Nat=>D.int (k:Int)) _ _ _ λk hk=>?_;have hc:ev F false aoo [aoK,avF]=some ahR:=av auf mI (aw _);show((ev F false aoo [aoK,avF]).bind λd=>if aF d then some (aku (D.bx 0 [[(k:Int)]] [d])) else none)=_;rw[hc];show(if aF ahR=true then _ else none)=_;rw[aw,aaB rfl];rfl
 have hx:ex F d5.body aj2=(n9 F true ar_ aj2).bind λxs=>if xs.length<=bW/\2≠3/\2<(ao d5 [ac3,ahz]).length /\uA aj2=true then
   (walk auK xs).bind λS=>(gL (Jd F) 3 iX S auF).map λS=> .ret (akx S) else none:=rfl
 rw[hx,hr];show out (if _ then _ else none)=_;rw[aaB ⟨by rw[ig];lia,by decide,(by decide:2<7),rfl⟩,hw];show out ((gL (Jd F) 3 iX ((zQ s).map aC) auF).map λS=> .ret (akx S))=_;rw[h1];rfl
end
end eQ
namespace Py
theorem rq:∀(r:aa0) (a:Int),iR a r∈a::r/\∀x∈a::r,iR a r<=x
 |[],a=>⟨aj3,λx hx=>by rw[aar.mp hx];exact agg _⟩
 |b::r,a=>by
  rw[iR];obtain⟨h1,h2⟩:=rq r (if b<a then b else a);have h0:=h2 _ aaq;have wV:(if b<a then b else a)<=a/\(if b<a then b else a)<=b:=by split<;>lia
  refine⟨?_,λx hx=>?_⟩
  .rcases aat.mp h1 with z|z
   .rw[z];split
    .exact aal _ aaq
    .exact aaq
   .exact aal _ (akQ z)
  .rcases aat.mp hx with z|hx
   .rw[z];exact aes h0 wV.1
   .rcases aat.mp hx with z|hx
    .rw[z];exact aes h0 wV.2
    .exact h2 x (akQ hx)
end Py
namespace eQ
open Py iH
section
variable {s:Nat}{F:FT}
noncomputable abbrev TE(x0 x1 x2:ab4)(u:aa0)(x4 x5:ab4):Env:=[x0,x1,x2,aq4,x4,x5]
def Jg(h6:s<=6)(ht:∀p∈perms s,∀q∈perms s,ab7)(hi:i<s)(hv:awR)(hu:ajr):
  ∃e∈R,(∀q,q∈R.map (·.1)->(pg s).im u e.1<=(pg s).im u q)/\∃y5,ex F WL akm=some (akC (TE x0 x1 x2 (comp e.2 u) aFC y5)):=by
 have kb:∀e∈R,e.1<s:=λe he=>by
  refine c6 auj λs1 _ s3=>?_;rw[<-s3];exact aE.kE (Y:=pg s) s1 hi
 have KN:=pF hi hv;have hc:ev F true avY akm=some (akx ((R.map λe=>(((pg s).im u e.1:Nat):Int)).map .int)):=by
  have hk:n9 F true (.dk 4) akm=some (R.map λe=>D.int (e.1:Int)):=by
   show some ((kR R).map λk=>D.int aim)=_;rw[abc];rfl
  have hw:walk (vG F [3] .nil anN akm) (R.map λe=>D.int (e.1:Int))=some (R.map λe=>D.int (((pg s).im u e.1:Nat):Int)):=
   fR (λe:Nat×List Int=>D.int (e.1:Int)) _ _ _ λe he=>congrArg (axO some) (jv hu (kb e he))
  rw[LX,hk,abM,aaB (by rw[aap];exact aam KN awM)];exact(congrArg (axO D.lst) hw).trans (by rw[abc];rfl)
 obtain⟨e0,R0,hR⟩:∃e0 R0,R=e0::R0:=by
  cases R with
  |nil=>exact absurd hv.one ab1
  |cons e R=>exact⟨e,R,rfl⟩
 obtain⟨m1,m2⟩:=rq (R0.map λe=>(((pg s).im u e.1:Nat):Int)) (((pg s).im u e0.1:Nat):Int);have Sy:R.map (λe=>(((pg s).im u e.1:Nat):Int))=(((pg s).im u e0.1:Nat):Int)::R0.map λe=>(((pg s).im u e.1:Nat):Int):=by rw[hR];rfl
 generalize hmn:iR (((pg s).im u e0.1:Nat):Int) (R0.map λe=>(((pg s).im u e.1:Nat):Int))=mn at m1 m2;rw[<-Sy]at m1 m2;refine aa (akZ m1) λe he hem=>⟨e,he,λq hq=>?_,vf (al6 mn),?_⟩
 .refine aa (akZ hq) λe' xu ai=>?_;subst ai;have:=m2 _ (amZ ⟨e',xu,rfl⟩);lia
 .refine xA (d:= .int mn) (KA hc ?_) (xA (av (cf (YH (q:=(0,kR R,vR R)) rfl (x:= .int (e.1:Nat)) ?_ ?_) rfl) (ht _ (hv.st _ _ (show(e.1,e.2)∈R from he)).1 u hu) (aw _)) rfl)
  .show(match aI ((R.map λe=>(((pg s).im u e.1:Nat):Int)).map .int)with
    |some ns=>match ns with|[]=>none|a::r=>some (D.int (iR a r))
    |none=>_)=_
   rw[cF,Sy];show some (D.int (iR _ _))=_;rw[hmn]
  .have hue:u[e.1]?=some mn:=by
    have aU:e.1<u.length:=by rw[aR hu];exact kb e he
    rw[aai aU];have h1:=zI hu (kb e he);rw[aaD,aai aU]at h1;have h2:u[e.1]=(((pg s).im u e.1:Nat):Int):=h1;rw[h2,hem]
   show(aI (u.map .int)).bind (λns=>(dz mn ns).map λ(i:Nat)=>D.int (i:Int))=_;rw[cF,abM,tD (az.mp hu).2.1 hue];rfl
  .show find (kR R) (vR R) [(e.1:Int)]=_;rw[iL,zH hv.nd (show(e.1,e.2)∈R from he)];rfl
theorem zR(h6:s<=6)(ht:∀p∈perms s,∀q∈perms s,ab7):∀{l:ag2}{i:Nat}{u:aa0}{x4 x5:ab4},arj->ajr->
  ∃x y4 y5,a_ (λx ρ=>(aH 0 x).bind λys=>(de ρ [4] ys).bind λρ'=>ex F WL ρ') ake (TE x0 x1 x2 u x4 x5)=some (akC (TE x0 x1 x2 x y4 y5))/\LM (pg s) l u x
 |[],_,u,x4,x5,_,_=>⟨u,x4,x5,rfl,.nil⟩
 |R::l,i,u,x4,x5,hv,hu=>by
  obtain⟨e,he,hm,z5,h1⟩:=Jg (x0:=x0) (x1:=x1) (x2:=x2) (x5:=x5) h6 ht hv.2.1 hv.1 hu;have hs:=(hv.1.st e.1 e.2 he).1;refine kP (zR h6 ht (x0:=x0) (x1:=x1) (x2:=x2) (l:=l) (i:=i+1) (u:=comp e.2 u) (x4:=vf (aC R)) (x5:=z5) hv.2.2 (cZ hs hu)) λx y4 y5 h2 h3=>?_;refine⟨x,y4,y5,?_,.cons (p:=e.1) (v:=e.2) he hm h3⟩;rw[aaX,mC h1];exact h2
theorem VL.drop:∀{l:ag2}{i:Nat} (k:Nat),alY->k<=l.length->VL Y (l.drop k) (i+k)
 |l,i,0,h,_=>h
 |[],i,k+1,h,hk=>absurd hk ab1
 |R::l,i,k+1,h,hk=>by
  have:=VL.drop k h.2.2 (by simpa using hk);rwa [show i+1+k=i+(k+1) by exact abk _ _ _]at this
def Fg(h6:s<=6)(ht:∀p∈perms s,∀q∈perms s,ab7)(hv:ajP)(hk:k<s)(hu:ajr):
  ∃x,ex F d6.body (ao d6 [ac8,af_,tp u])=some (ak6 (tp x))/\axZ:=by
 have hl:l.length=s:=by have:=VL.len hv;rw[abI]at this;exact this
 refine kP (zR h6 ht (x0:=vf ac8) (x1:=vf af_) (x2:=vf (tp u)) (l:=l.drop (k+1)) (u:=u) (x4:=none) (x5:=none) (VL.drop (k+1) hv (atI ajf)) hu) λx y4 y5 h1 h2=>⟨x,?_,h2⟩;have S_:n9 F false oT auz=some ((l.drop (k+1)).map aC):=by
  show seq (akx (v5 ake (some ((k:Int)+1)) none))=_;rw[show(k:Int)+1=((k+1:Nat):Int) by exact Int.natCast_add _ _,vA _ _ (by rw[aap];exact aaj hk ajf),<-ahi];rfl
 refine xA rfl (xG (ρ':=TE (vf ac8) aoK aq4 x y4 y5) ?_ (xR rfl));show(n9 F false oT auz).bind _=_;rw[S_];exact h1
end
noncomputable def pairD(e:Nat×List Int):D:= .tup [.int (e.1:Int),tp e.2]
noncomputable def br(R:arO):D:= .tup auB
noncomputable def aQ(l:ag2):D:= .tup au7
section
variable {s:Nat}{F:FT}
noncomputable def qm(R:arO):ahW:=(sortI (R.map λe=>(e.1:Int))).map Int.toNat
def pI(R:arO):sortI (R.map λe=>(e.1:Int))=(qm R).map λ(k:Nat)=>(k:Int):=by
 unfold qm;rw[abc];have:∀x∈sortI (R.map λe=>(e.1:Int)),((λ(k:Nat)=>(k:Int))∘Int.toNat) x=x:=λx hx=>by
  refine aa as7 λe _ ai=>?_;subst ai;show((e.1:Int).toNat :Int)=_;exact acz alB
 rw[ade this,List.map_id']
def tJ:k∈qm R↔k∈R.map (·.1):=by
 unfold qm;constructor
 .intro h;refine aa azV λx hx ai=>?_;subst ai;refine aa as7 λe he aK=>?_;subst aK;exact aaz.mpr ⟨e,he,by simp⟩
 .intro h;refine aa azV λe he cL=>?_;subst cL;exact aaz.mpr ⟨(e.1:Int),(sortI_perm _).mem_iff.mpr (amZ ⟨e,he,rfl⟩),by simp⟩
def N4(nd:(R.map (·.1)).Nodup):(qm R).Pairwise (· < ·):=by
 have h1:=oP (R.map λe=>(e.1:Int));have h2:(sortI (R.map λe=>(e.1:Int))).Nodup :=by
  rw[(sortI_perm _).nodup_iff];rw[abD,abz]at nd⊢;exact nd.imp λh e=>h (adF e)
 rw[pI,abz]at h1;rw[pI,abD,abz]at h2;exact(h1.and h2).imp λh=>by lia
theorem Hm.drop:∀{l:ag2}{i:Nat} (k:Nat),Hm (pg s) M l i->k<=l.length->Hm (pg s) M (l.drop k) (i+k)
 |l,i,0,h,_=>h
 |[],i,k+1,h,hk=>absurd hk ab1
 |R::l,i,k+1,h,hk=>by
  have:=Hm.drop k (h.tail aE) (by simpa using hk);rwa [show i+1+k=i+(k+1) by exact abk _ _ _]at this
def Jh(h6:s<=6)(hM:arb)(hl:Hm (pg s) M l 0)(hk:k<s)
  (N5:∀u∈perms s,∃x,aw1/\axZ):
  ex F d7.body (ao d7 [ac8,af_])=some (ak6 ats):=by
 have aG:l.length=s:=by have:=VL.len hl.1;rw[abI]at this;exact this
 have T7:k<l.length:=(atI anL);obtain⟨R,hR⟩:∃R,l[k]?=some R:=⟨l[k],aai T7⟩;have hdr:l.drop k=R::l.drop (k+1):=by
  rw[abH T7];rw[aai T7]at hR;cases hR;rfl
 have hm:=Hm.drop k hl (aam (aaE hk) anL);rw[abI,hdr]at hm;have hV:=hm.1.1;have KN:=pF hk hV;have best:∀p u,apz->∃x,aw1/\iV (pg s) M k p x:=λp u hu=>by
  exact aa (N5 u (hV.st p u hu).1) λx h1 h2=>⟨x,h1,hm.best aE hM hu h2⟩
 have mI:item ac8 af_=some (aC R):=by
  show((place (l.map aC).length (k:Int)).bind λj=>(l.map aC)[j]?)=_;unfold place;rw[aap,aaB alB,aaB (by lia)];show(l.map aC)[k]?=_;rw[aaC,hR];rfl
 have w_:ev F true (.iW 2) [vf ac8,aoK,aFC]=some (akx ((qm R).map λ(k:Nat)=>D.int (k:Int))):=by
  show(if(kR R).length<64 then some (D.lst ((sortI ((kR R).map λk=>aim)).map .int)) else none)=_;rw[aaB (by rw[aap];exact aaU KN (aaU h6 aa1)),abc];show some (D.lst ((sortI (R.map λe=>(e.1:Int))).map .int))=_;rw[pI,abc];rfl
 have N0:(qm R).map (λp=>ak4)=ij (pg s) M k:=by
  refine E4 aE hk hM.s (λp x hx=>?_) (λt ht hf=>?_) ?_
  .refine aa awJ λq hq e=>?_;rw[<-(agZ e).1,<-(agZ e).2];refine aa (akZ (tJ.mp hq)) λe he WY=>aa (best q e.2 (by rw[<-WY];exact he)) λy _ hy=>?_;rw[iK hy];exact hy
  .exact ba (hm.split aE ht hf) λu w hu _ _=>⟨_,aaz.mpr ⟨_,tJ.mpr (amZ ⟨_,hu,rfl⟩),rfl⟩⟩
  .rw[abc];have:((λx:Nat×List Int=>x.1) ∘ λp=>ak4)=id:=rfl;rw[this,agh];exact N4 hV.nd
 refine xA mI (xR (KA (x:= .lst ((qm R).map λp=>pairD ak4)) (fT w_ rfl ?_ λp hp=>?_) ?_))
 .unfold qm;rw[aap,(sortI_perm _).length_eq,aap];exact aam aDP aa1
 .refine aa (akZ (tJ.mp hp)) λe he WY=>?_;have xu:(p,e.2)∈R:=by rw[<-WY];exact he
  refine aa (best p e.2 xu) λx qV F5=>?_;rw[iK F5];refine tp2 (x:= .int p) rfl (av (Sf rfl rfl ?_) qV (aw _));show find (kR R) (vR R) [(p:Int)]=_;rw[iL,zH hV.nd xu];rfl
 .show some (D.tup ((qm R).map λp=>pairD ak4))=_;rw[<-N0];unfold br;rw[abc];rfl
def Ji(R:arO):aF (br R)=true:=by
 show aY auB=true;induction R with
 |nil=>rfl
 |cons e R ih=>
  show(aF (pairD e)&&aY auB)=true;rw[ih];show((aF (al6 (e.1:Int))&&(aF (tp e.2)&&true))&&true)=true;rw[aw];rfl
def By(h6:s<=6){l:ag2}(hf:F 5 [row,ahz]=some ac8)(N6:aF row=true)(hr:∀k,k<s->F 7 [ac8,af_]=some ats):
  ex F d8.body (ao d8 [row,ahz])=some (ak6 amr):=by
 refine xA (axM hf) (xR (KA (zP auf awM λk hk=>av af8 (hr k hk) (Ji _)) ?_));show some (D.tup ((List.range s).map λk=>ats))=_;unfold aQ aS;rw[abc,afo];rfl
end
def Bz:(List.range 7).all (λn=>decide ((perms n).length <=720))=true:=by decide +kernel
section
variable {s:Nat}{F:FT}
def fU(h6:s<=6):(perms s).length <=720:=of_decide_eq_true (all_range Bz (show s<7 by exact aaU h6 aa1))
theorem gx[DecidableEq α]:∀(l m:ahB),aBk->(∀x∈l,x∈m)->l.length<=m.length
 |[],_,_,_=>abn _
 |x::l,m,nd,h=>by
  rw[abo]at nd;have hx:=h x aaq;have:=gx l (m.erase x) nd.2 λy hy=>(List.mem_erase_of_ne (λe:y=x=>nd.1 (e▸hy))).mpr (h y asi);rw[afX hx]at this;have:0<m.length:=List.length_pos_of_mem hx;rw[aaL];lia
def Fh(h6:s<=6)(hv:arj):(TL (pg s) l).length <=720:=
 aam (gx _ _ (pC aE hv) λx hx=>(H.good aE hv (ju.mp hx)).1) azM
theorem iM:∀{ks:ab3},(∀k∈ks,k≠[])->dw (ks.map tp)=some ks
 |[],_=>rfl
 |k::ks,h=>by
  show(aI (k.map .int)).bind _=_;rw[cF];show(if k=[] then none else(dw (ks.map tp)).map (k:: ·))=_;rw[aaF (h k aaq),iM λx hx=>h x (akQ hx)];rfl
def tK(h1:1<=s)(h:ahu):t≠[]:=λz=>by
 have:=aR h;rw[z]at this;simp at this;exact aaN h1 this
noncomputable abbrev mv(B:ab3):ac1:=B.map λ_=>D.bl true
noncomputable abbrev AE(x0 x1 x2:ab4)(B W:ab3)(x5 x6 x7:ab4):Env:=[x0,x1,x2,some (true,.bx 1 B (mv B)),aEF,x5,x6,x7]
def nC(h:t≠0)(p:aa0):c_ t (tp p)=some p:=by
 show(if t=0 then none else aI anV)=some p;rw[aaF h];exact cF p
def Jj(aU:∀p∈perms s,∀q∈perms s,ahE)(ht:ahu)(hg:ayn)(hB:B.length<=1000)(hW:W.length<=10000):
  ex F T3 (aFv akn)=some (akC (if comp t g∈B then AE x0 x1 x2 B W aht akn awx else AE x0 x1 x2 asj aGw aht akn awx)):=by
 have h2:ev F false (.AD true atw 3) (akD B)=some (.bl (!decide (comp t g∈B))):=by
  show((c_ 1 ahI).map λx=>D.bl (!decide (x∈B)))=_;rw[nC aa1];rfl
 refine xA (awp (aU t ht g hg)) ?_;by_cases hm:comp t g∈B
 .rw[decide_eq_true hm]at h2;rw[aaB hm];exact xN h2 rfl
 rw[decide_eq_false hm]at h2;rw[aaF hm];have s1:ex F aCK (akD B)=some (akC (aAu W)):=by
  show((c_ 1 ahI).bind λx=>if B.length<bW/\x∉B then some (mh.next (put (akD B) 3 true (.bx 1 (B++[x]) (mv B++[ag3])))) else none)=_;rw[nC aa1];show(if B.length<bW/\comp t g∉B then _ else none)=_;have:mv B++[D.bl true]=mv asj:=by unfold mv;rw[abd];rfl
  rw[aaB ⟨aaU hB aa1,hm⟩,this];rfl
 have s2:ex F (.app 4 atw) (akD asj)=some (akC (aAu aGw)):=by
  rw[kH (d:=tp amQ) (xs:=W.map tp) rfl rfl (by rw[aap];exact aaU hW aa1)];have:W.map tp++[ahI]=(W++[amQ]).map tp:=by rw[abd];rfl
  rw[this];rfl
 exact xY h2 (xG s1 (xG s2 rfl)) rfl
theorem Fi(h6:s<=6)(aU:∀p∈perms s,∀q∈perms s,ahE)(hG:∀g∈G,ayn)(ht:ahu):∀{gs done B W:ab3}{x6 x7:ab4},(∀g∈gs,g∈G)->Am comp (bR s) G t done B W->W.length+gs.length<=5000->
  ∃B' W' y6 y7,a_ (λx ρ=>(aH 0 x).bind λys=>(de ρ [6] ys).bind λρ'=>ex F T3 ρ') (gs.map tp) (aFv x6)=some (akC (arE x0))/\Am comp (bR s) G t (done++gs) B' W'/\B.length<=B'.length/\B'.length+W.length=B.length+W'.length
 |[],done,B,W,x6,x7,_,h,_=>⟨B,W,x6,x7,rfl,by rw[abm];exact h,aas _,rfl⟩
 |g::gs,done,B,W,x6,x7,WZ,h,hn=>by
  rw[aaL]at hn;have YV:=WZ g aaq;have hg:=hG g YV;have hB:B.length<=720:=aam (gx _ _ h.nd λx hx=>E8 hG (h.gen x hx)) azM;have h1:=Jj aU (x0:=x0) (x1:=x1) (x2:=x2) (x7:=x7) (B:=B) (W:=W) ht hg (akH hB) (by lia);have e0:done++g::gs=(done++[g])++gs:=by rw[aaZ];rfl
  by_cases hm:comp t g∈B
  .rw[aaB hm]at h1;refine O1 (Fi h6 aU hG (x0:=x0) (x1:=x1) (x2:=x2) ht (gs:=gs) (done:=done++[g]) (B:=B) (W:=W) (x6:=vf (tp g)) (x7:=vf ahI) (λq hq=>WZ q (akQ hq)) (h.old hm) (aaE hn)) λB' W' y6 y7 i1 i2 i3 i4=>⟨B',W',y6,y7,?_,by rw[e0];exact i2,i3,i4⟩;rw[aaX,mC (ρ':=AE x0 x1 x2 B W aht akn awx) h1];exact i1
  .rw[aaF hm]at h1;refine O1 (Fi h6 aU hG (x0:=x0) (x1:=x1) (x2:=x2) ht (gs:=gs) (done:=done++[g]) (B:=B++[amQ]) (W:=W++[amQ]) (x6:=vf (tp g)) (x7:=vf ahI) (λq hq=>WZ q (akQ hq)) (h.new YV hm) (by rw[aau,abw];exact O5 alA hn)) λB' W' y6 y7 i1 i2 i3 i4=>?_;rw[aau,abw]at i3;rw[aau,abw,aau,abw]at i4;refine⟨B',W',y6,y7,?_,by rw[e0];exact i2,(aaE i3),by lia⟩;rw[aaX,mC (ρ':=AE x0 x1 x2 asj aGw aht akn awx) h1];exact i1
theorem fV(n:Nat):∀W:ab3,kY avi (n+1)=true
 |[]=>rfl
 |t::W=>by
  show(gH (tp t) (n+1)&&kY avi (n+1))=true;rw[ET,fV n W];rfl
theorem zS:∀xs ys:ab3,BZ anx (ys.map tp)=decide (xs=ys)
 |[],[]=>rfl
 |[],_::_=>rfl
 |_::_,[]=>rfl
 |x::xs,y::ys=>by
  show(pV (tp x) (tp y)&&BZ anx (ys.map tp))=_;rw[ES,zS xs ys,afw,aak,decide_eq_true_eq,decide_eq_true_eq,decide_eq_true_eq,List.cons.injEq]
def Fj{A B:ab3}:cmp .NotEq aq0 aqZ=some (!decide (A=B)):=by
 show(if(gH aq0 60&&gH aqZ 60)=true then some (!BZ (A.map tp) (B.map tp)) else none)=_;rw[show gH aq0 60=true from fV 58 A,show gH aqZ 60=true from fV 58 B,zS];rfl
def Jk:ev F false ajw (aHb x0)=some (.bl (!decide (W=[]))):=B7 (a:= .var 4) (c:= .lst .nil) (y:= .lst (([]:ab3).map tp)) rfl rfl Fj
theorem zT(h6:s<=6)(aU:∀p∈perms s,∀q∈perms s,ahE)(hG:∀g∈G,ayn)(W2:G.length<=1000)(he:aCY):∀(n:Nat) {B W:ab3}{x5 x6 x7:ab4},Al comp (bR s) G B W->2*(720-B.length)+W.length<n->2*(720-B.length)+W.length<=2000->
  ∃B' y5 y6 y7,jT (λρ=>(ev F false ajw ρ).bind eI) (ex F Sl) n (aHb (vf e))=some (akC (AE (vf e) x1 x2 B' [] y5 y6 y7))/\Al comp (bR s) G B' []
 |0,_,_,_,_,_,_,h,_=>absurd h alz
 |n+1,B,W,x5,x6,x7,h,hn,hb=>by
  rw[jT,Jk];rcases agD W with rfl|⟨W0,t,rfl⟩
  .exact⟨B,x5,x6,x7,rfl,h⟩
  .rw[agE]at h hn hb⊢;rw[aau,abw]at hn hb;rw[decide_eq_false (by simp:W0++[t]≠[])];have htB:t∈B:=h.wb t ayA;have ht:ahu:=E8 hG (h.gen t htB);refine O1 (Fi h6 aU hG (x0:=vf e) (x1:=x1) (x2:=x2) ht (gs:=G) (done:=[]) (B:=B) (W:=W0) (x6:=x6) (x7:=x7) (λ_ z=>z) h.start (by lia)) λB' W' y6 y7 i1 i2 i3 i4=>?_;rw[afy]at i2;have hA:=i2.fin λg hg=>hg;have Kb:B'.length<=720:=aam (gx _ _ hA.nd λx hx=>E8 hG (hA.gen x hx)) azM;refine mV (zT h6 aU hG W2 he (x1:=x1) (x2:=x2) n (B:=B') (W:=W') (x5:=vf (tp t)) (x6:=y6) (x7:=y7) hA (by lia) (O4 (aaE hb) (Uv i3 i4 Kb))) λB2 z5 z6 z7 j1 j2=>?_;refine⟨B2,z5,z6,z7,?_,j2⟩;have p1:ex F (.pop 5 4) ai0=some (akC auR):=by
    have e1:((W0++[t]).map tp).getLast? =some (tp t):=by rw[abd];simp
    have e2:((W0++[t]).map tp).dropLast =W0.map tp:=by rw[abd];simp
    show(((W0++[t]).map tp).getLast?.map λz=>mh.next (put (put ai0 4 true (.lst ((W0++[t]).map tp).dropLast)) 5 false z))=_;rw[e1,e2];rfl
   have p2:ex F aEg auR=some aFc:=by
    show(seq e).bind (λxs=>a_ _ xs _)=_;rw[he];exact i1
   have p3:ex F Sl ai0=some aFc:=xG p1 (xG p2 rfl);show((ex F Sl ai0).bind _)=_;rw[p3];exact j1
def N7(h1:1<=s)(h6:s<=6)(aU:∀p∈perms s,∀q∈perms s,ahE)(hG:∀g∈G,ayn)(W2:G.length<=1000)(he:aCY):
  ∃B,ex F OU.body (ao OU [e,ahz])=some (ak6 azh)/\Al comp (bR s) G B []:=by
 obtain⟨B,y5,y6,y7,i1,i2⟩:=zT h6 aU hG W2 he (x1:=vf ahz) (x2:=vf ahR) iX (B:=[bR s]) (W:=[bR s]) (x5:=none) (x6:=none) (x7:=none) al0 (by
  have:iX=1000000:=rfl;rw[this,abw];exact by decide) (by rw[abw];exact by decide)
 refine⟨B,?_,i2⟩;have a1:ev F false aEb (ao OU [e,ahz])=some ahR:=by
  show(eM [ahz]).bind aCW=_;rw[eF awM,fS];rfl
 have a2:ex F avX [vf e,avF,aAA,none,none,none,none,none]=some (akC [vf e,avF,aAA,some (true,.bx 1 [bR s] [ag3]),none,none,none,none]):=by
  show(((c_ 1 ahR).map λx=>D.bx 1 [x] [ag3]).map λd=>mh.next (put [vf e,avF,aAA,none,none,none,none,none] 3 true d))=_;rw[nC aa1];rfl
 have a3:ex F (.while ajw Sl) (AE (vf e) avF aAA [bR s] [bR s] none none none)=some (akC aqT):=i1;have a4:ev F true (.iW 3) aqT=some azh:=by
  show(if []∈B then none else some (D.lst ((bN.bB B).map n6)))=_;rw[aaF λz=>tK h1 (E8 hG (i2.gen _ z)) rfl];rfl
 exact xA a1 (xG a2 (xB (xs:=[ahR]) rfl (xG a3 (xR a4))))
end
end eQ
namespace iH
section
variable {α:Type}{Y:Pg α}
noncomputable def pJ(Y:Pg α):ad7->Nat->α->Bool
 |[],_,_=>true
 |R::l,i,t=>match dm R al7 with
  |some u=>pJ Y l (i+1) akU
  |none=>false
theorem vN(L:gI Y):∀{l:ad7}{i:Nat}{t:α},alY->Y.S t->au_->(pJ Y l i t=true↔H Y l t)
 |[],i,t,hv,hs,hf=>by
  have IU:i=Y.n:=hv;exact⟨λ_=>L.ext hs L.s1 λk hk=>by rw[hf k (by lia),L.bL hk],λ_=>rfl⟩
 |R::l,i,t,hv,hs,hf=>by
  refine c6 hv λhV hi hl=>?_;have at':∀p u w,apz->aGK->t=Y.mul w u->p=Y.im t i:=λp u w hu hw e=>by
   obtain⟨s1,f1⟩:=H.good L hl hw;refine c6 (hV.st p u hu) λs2 f2 f3=>?_;rw[e,L.aV s1 s2 hi,f1 i (by lia),f3]
  unfold pJ;cases e:dm R al7 with
  |none=>
   refine⟨λz=>awP,λh=>cx h λp u w hu hw ew=>?_⟩;exact absurd (amZ ⟨_,hu,at' p u w hu hw ew⟩) (iJ e)
  |some u=>
   have hu:=b6 e;refine c6 (hV.st _ u hu) λs2 f2 f3=>?_;have back:∀k,k<Y.n->ayC:=λk hk=>by rw[<-L.aV s2 axB hk,L.dM s2,L.bL hk]
   have Tr:jA Y akU (i+1):=λk hk=>by
    rw[L.aV hs axB (by lia)];rcases abx k i with z|z
    .rw[hf k z];have:=back k (by lia);rwa [f2 k z]at this
    .have:k=i:=by lia
     subst this;rw[<-f3];exact back k hi
   have ih:=vN L hl (L.sm hs axB) Tr;refine Iff.trans ih ⟨λh=>⟨_,u,_,hu,h,?_⟩,λh=>cx h λp u' w xg hw ew=>?_⟩
   .rw[L.assoc hs axB s2,L.inv_mul s2,L.mul_one hs]
   .have hp:=at' p u' w xg hw ew;subst hp;have hu2:u'=u:=iI hV.nd xg hu;subst hu2;rw[ew,L.assoc (H.good L hl hw).1 s2 axB,L.dM s2,L.mul_one (H.good L hl hw).1];exact hw
end
end iH
namespace eQ
open Py iH
section
variable {s:Nat}{F:FT}{M:aa0->Prop}{G:ab3}
noncomputable def t9(l:ag2):ab3:=l.flatMap λR=>R.map (·.2)
theorem zU:∀{l:ag2}{acc:ab3}{x2:ab4},acc.length+(t9 l).length <=10000->
  ∃y2,a_ (λx ρ=>(aH 0 x).bind λys=>(de ρ [2] ys).bind λρ'=>ex F (akq aEh) ρ') au7 [x0,alc,x2]=some (akC [x0,some (true,.lst ((acc++t9 l).map tp)),y2])
 |[],acc,x2,_=>⟨x2,by show some aC8=_;rw[show t9 []=[] from rfl,abm]⟩
 |R::l,acc,x2,h=>by
  have e0:t9 (R::l)=R.map (·.2)++t9 l:=rfl;rw[e0,aau,aap]at h;obtain⟨y2,ih⟩:=zU (l:=l) (acc:=acc++R.map (·.2)) (x0:=x0) (x2:=vf (br R)) (by rw[aau,aap];lia);refine⟨y2,?_⟩;have hc:ev F false T4 [x0,alc,aq5]=some (akx ((R.map (·.2)).map tp)):=by
   rw[abc];exact fT (d:=br R) (xs:=R) (h:=pairD) rfl rfl (akH (show R.length<=10000 by omega)) λe _=>rfl
  have hb:ex F aEh [x0,alc,aq5]=some (akC [x0,some (true,.lst ((acc++R.map (·.2)).map tp)),aq5]):=by
   rw[Qp,hc];show(if(acc.map tp).length+((R.map (·.2)).map tp).length <=bW then _ else none)=_;rw[aaB (by simp only[aap];exact aam (show acc.length+R.length<=10000 by omega) aa1),<-abd];rfl
  rw[aaX,mC (xG hb rfl),ih,e0,aaZ]
def BA(h:(t9 l).length <=10000):ex F Ss.body (ao Ss [aQ l])=some (ak6 (akJ ((t9 l).map tp))):=by
 obtain⟨y2,h1⟩:=zU (F:=F) (x0:=vf (aQ l)) (l:=l) (acc:=[]) (x2:=none) (by rw[adv];omega);exact xB (xs:=[]) rfl aod
theorem zV(k:Nat):∀R:arO,((R.map λe=>D.int (e.1:Int)).any λz=>pV z af_)=(dm R k).isSome
 |[]=>rfl
 |e::R=>by
  rw[aaX,aea,zV k R];show(((e.1:Int)==(k:Int))||_)=_;rw[zL];unfold dm;rw[ada];by_cases h:e.1=k
  .rw[decide_eq_true h,show(e.1==k)=true by simp[h]];rfl
  .rw[decide_eq_false h,show(e.1==k)=false by simp[h]];rfl
noncomputable abbrev NE(x0 x1:ab4)(c:Int)(t:aa0)(x4 x5 x6 x7:ab4):Env:=[x0,x1,vf (al6 c),aht,x4,x5,x6,x7]
def Jl(h6:s<=6)(ht:∀p∈perms s,∀q∈perms s,ab7)(hb:∀p∈perms s,aiE)(hi:i<s)(hv:awR)(hp:ahu):
  (dm R alD=none->ex F Sn aiL=some (ak6 .cq))/\
  ∀u,dm R alD=some u->∃c' y6 y7,ex F Sn aiL=some (akC (NE x0 x1 c' (comp t (ip u)) (vf ahH) aq5 y6 y7)):=by
 have KN:R.length<=s:=pF hi hv
 let P:List D:=R.map λe=>D.int (e.1:Int)
 have hP:P=(R.map λe=>(e.1:Int)).map D.int:=by rw[abc];rfl
 have a6:ev F false aq1 aiL=some (akx P):=fT (d:=br R) (xs:=R) (h:=pairD) rfl rfl (akH aDP) λe _=>rfl;have Jm:ev F false atc (NE x0 x1 c t (vf ahH) aq5 (aku (true,.lst P)) x7)=some (.bl (!(dm R alD).isSome)):=by
  refine B7 aF5 (c:= .var 6) (y:= .lst P) rfl ?_;show(if(true&&kY P 59)=true then some (!P.any λz=>pV z (al6 ((pg s).im t i:Nat))) else none)=_;rw[zV,hP,kZ];rfl
 constructor
 .intro e;rw[e]at Jm;exact xB a6 (xZ Jm rfl)
 .intro u e;rw[e]at Jm;have hk:((pg s).im t i:Int)∈R.map λe=>(e.1:Int):=aaz.mpr ⟨_,b6 e,rfl⟩;obtain⟨j,hj⟩:=pj hk;have hg:=pv hj;rw[aaC]at hg;refine aa (acq.mp hg) λe' N8 OG=>?_;have hu:e'.2=u:=iI hv.nd (p:=(pg s).im t i) (by
   have:e'.1=(pg s).im t i:=by omega
   rw[<-this];exact abb N8) (b6 e)
  subst hu;have YW:e'.2∈perms s:=(hv.st _ _ (b6 e)).1;refine⟨c*R.length+j,some (true,.lst P),vf (al6 (j:Nat)),xB a6 (xN Jm (xA (d:= .int (j:Nat)) ?_ (xA (d:= .int (c*R.length+j)) ?_ (xA (d:=tp (comp t (ip e'.2))) (av (cf (x:=tp t) rfl (av (ie ?_) (hb e'.2 YW) (aw _))) (ht t hp _ (gu YW)) (aw _)) rfl))))⟩
  .refine mtv (x:= .lst P) rfl (ie aF5) ?_;show(aI P).bind (λns=>(dz ((pg s).im t i:Nat) ns).map λ(i:Nat)=>D.int (i:Int))=_;rw[hP,cF,abM,hj];rfl
  .refine EH (i:=c*R.length) (j:=(j:Nat)) ?_ rfl;rw[EG (a:= .var 2) (x:= .int c) (c:= .prim .len (.u 5)) (y:= .int ((R.map pairD).length :Nat)) rfl rfl,aap];exact aaB (gr c aa3 aa3)
  .exact ixv (x:=pairD e') (vJ (by rw[aaC,N8];rfl)) rfl rfl
theorem zW(h6:s<=6)(ht:∀p∈perms s,∀q∈perms s,ab7)(hb:∀p∈perms s,aiE):∀{l:ag2}{i:Nat}{c:Int}{t:aa0}{x4 x5 x6 x7:ab4},arj->ahu->
  ∃o,a_ (λx ρ=>(aH 2 x).bind λys=>(de ρ [4,5] ys).bind λρ'=>ex F Sn ρ') (bI i au7) (NE x0 x1 c t x4 x5 x6 x7)=some o/\if pJ (pg s) l i t then∃c' t' y4 y5 y6 y7,o= .next (NE x0 x1 c' t' y4 y5 y6 y7) else o= .ret .cq
 |[],i,c,t,x4,x5,x6,x7,_,_=>⟨_,rfl,c,t,x4,x5,x6,x7,rfl⟩
 |R::l,i,c,t,x4,x5,x6,x7,hv,hp=>by
  have hi:i<s:=hv.2.1;obtain⟨t1,t2⟩:=Jl (x0:=x0) (x1:=x1) (x6:=x6) (x7:=x7) (c:=c) h6 ht hb hi hv.1 hp;show∃o,a_ _ (.tup [ahH,br R]::bI ((i:Int)+1) au7) _=some o/\_;rw[a_];show∃o,(ex F Sn aiL).bind _=some o/\_;unfold pJ;cases e:dm R alD with
  |none=>rw[t1 e];exact⟨_,rfl,rfl⟩
  |some u=>
   have hu:ajr:=(hv.1.st _ _ (b6 e)).1;refine SU (t2 u e) λc' y6 y7 e2=>?_;rw[e2];have:=zW h6 ht hb (x0:=x0) (x1:=x1) (l:=l) (i:=i+1) (c:=c') (t:=comp t (ip u)) (x4:=vf ahH) (x5:=vf (br R)) (x6:=y6) (x7:=y7) hv.2.2 (cZ hp (gu hu));rw[show(((i+1:Nat):Int))=(i:Int)+1 by lia]at this;exact this
def BB(h6:s<=6)(ht:∀p∈perms s,∀q∈perms s,ab7)(hb:∀p∈perms s,aiE)(hv:ajP)(hp:ahu):
  ∃d,ex F Sv.body (ao Sv [aQ l,tp t])=some atv/\if pJ (pg s) l 0 t then∃c,d= .int c else d= .cq :=by
 refine aa (zW h6 ht hb (x0:=vf (aQ l)) (x1:=vf (tp t)) (c:=0) (x4:=none) (x5:=none) (x6:=none) (x7:=none) hv hp) λo h1 h2=>?_;cases hh:pJ (pg s) l 0 t with
 |true=>
  rw[hh]at h2;obtain⟨c',t',y4,y5,y6,y7,rfl⟩:=h2;exact⟨_,xA rfl (xA rfl aod),c',rfl⟩
 |false=>
  rw[hh]at h2;have h2:o= .ret .cq :=h2;subst h2;exact⟨_,xA rfl (xA rfl (NR h1)),rfl⟩
def N9(hn:F 12 [aQ l,tp t]=some d)(h:if pJ (pg s) l 0 t then∃c,d= .int c else d= .cq):
  ex F Su.body (ao Su [aQ l,tp t])=some (ak6 (.bl (pJ (pg s) l 0 t))):=by
 cases hh:pJ (pg s) l 0 t with
 |true=>
  rw[hh]at h;obtain⟨c,rfl⟩:=h;exact xR (B7 (c:= .c .cq) (y:= .cq) (arD hn) rfl rfl)
 |false=>
  rw[hh]at h;have h:d= .cq :=h;subst h;exact xR (B7 (c:= .c .cq) (y:= .cq) (arD hn) rfl rfl)
def zX:u∈t9 l↔St l u:=by
 unfold t9;rw[abB];constructor
 .rintro⟨R,hR,h⟩;obtain⟨e,he,rfl⟩:=aaz.mp h;exact⟨R,hR,e.1,he⟩
 .rintro⟨R,hR,p,h⟩;exact⟨R,hR,aaz.mpr ⟨_,h,rfl⟩⟩
def Fl(h:u∈t9 ac0):M u:=by
 obtain⟨R,hR,p,hp⟩:=zX.mp h;obtain⟨i,_,rfl⟩:=aaz.mp hR;exact(pE p u hp).1
def Fm(hM:arb)(hG:∀u∈G,M u)(h:Gen (pg s) (· ∈G) t):M t:=by
 induction h with
 |one=>exact hM.one
 |mul _ hu ih=>exact hM.mul _ _ ih (hG _ hu)
def N_(hM:arb)(hl:IW (pg s) M ac0 0):Gen (pg s) (· ∈t9 ac0) t↔M t:=by
 refine⟨Fm hM λu=>Fl,λh=>?_⟩;have hm:=hl.hm aE hM;exact(H.gen aE hm.1 ((hm.2 t).mpr ⟨h,λk hk=>by lia⟩)).mono λu hu=>zX.mpr hu
def Jn{P:α->Prop}{a b:ahB}(ha:∀u∈a,P u)(hb:∀u∈b,P u):∀u∈a++b,P u:=λu h=>(aaH.mp h).elim (ha u) (hb u)
end
section
variable {s:Nat}{F:FT}{l m:ag2}
theorem KO:∀bs:amX,eW (bs.map .bl)=some bs
 |[]=>rfl
 |b::bs=>by show(eW (bs.map .bl)).map (b:: ·)=_;rw[KO bs];rfl
def Fn{xs:ahB}{h:α->D}{c:α->Bool}(h1:alI)(h2:azw)(hl:am3)(hc:∀x∈xs,ev F false el aqH=some (.bl (c x))):ev F b (.prim .all (.o aoG)) ρ=some (.bl (xs.all c)):=by
 rw[GJ,ie (fT (g:=λx=> .bl (c x)) h1 h2 hl hc),show xs.map (λx=>D.bl (c x))=(xs.map c).map .bl by rw[abc];rfl];show(eW ((xs.map c).map .bl)).map (λbs=>D.bl atr)=_;rw[KO];show some (D.bl ((xs.map c).all id))=_;rw[List.all_map];rfl
def BC{a:ab3}{c:aa0->Bool}(hal:a.length<=bW)(h9:F 10 [aQ l]=some (akJ (a.map tp)))(Wl:∀t∈a,F 11 [aQ m,tp t]=some (.bl (c t))):
  out (ex F Sw.body (ao Sw [aQ l,aQ m]))=some (.bl (a.all c)):=
 kA (Fn (cG auf h9 rfl) rfl hal λt ht=>av af8 (Wl t ht) rfl)
def BD(h:F 13 [aQ l,aQ m]=some ag3):out (ex F rn.body atu)=some .cq :=by
 have c:ev F false (.not (anH 13)) atu=some ami:=by
  rw[Ql,av (b:=false) af8 h rfl];rfl
 show out (ex F (akq (.ifs _ _ _)) atu)=_;rw[rV,k9,c];rfl
def BE(h:asy):ex F (.expr e) ρ=some awN:=by
 show(ev F true e ρ).map _=_;rw[h];rfl
def Jo(h:∀t∈xs,t≠[])(h1:axh):ev F b (.prim .sorted (.o a)) ρ=some (akx ((bN.bB xs).map tp)):=by
 rw[GJ,ie h1];show(dw anx).map (λks=>D.lst atG)=_;rw[iM h];rfl
end
end eQ
namespace Py
mutual
theorem pK:∀d:D,pV d d=true
 | .cq =>rfl
 | .bl b=>by show(b==b)=true;simp
 | .int i=>by show(i==i)=true;simp
 | .tup xs=>pL xs
 | .lst xs=>pL xs
 | .bx _ _ _=>rfl
theorem pL:∀l:ac1,BZ l l=true
 |[]=>rfl
 |x::l=>by show(pV x x&&BZ l l)=true;rw[pK x,pL l];rfl
end
end Py
namespace eQ
open Py iH
section
variable {n s:Nat}
def Fo(h:s<=6):run T (n+1) 0 [ahz]=some ahR:=by
 rw[cV (d:=kC) rfl rfl];exact EV (by lia)
def lZ(h:s<=6):∀p∈perms s,∀q∈perms s,run T (n+1) 1 [tp p,tp q]=some (tp avd):=λp hp q hq=>by
 rw[cV (d:=e_) rfl rfl];exact vD (by lia) hp hq
def tL(h:s<=6):∀p∈perms s,∀q∈perms s,run T (n+1) 22 [tp p,tp q]=some (tp avd):=λp hp q hq=>by
 rw[cV (d:=e_) rfl rfl];exact vD (by lia) hp hq
def KP(h:s<=6):∀p∈perms s,run T (n+1) 2 [tp p]=some (tp (ip p)):=λp hp=>by
 rw[cV (d:=pz) rfl rfl];exact IQ (by lia) hp
def Sz(ns:aa0){k:Nat}(hk:k<1000):run T (n+2) 18 [ae1,af_]=some axp:=by
 rw[cV (d:=o_ 17) rfl rfl];refine NS ns k hk ?_;rw[cV (d:=hZ) rfl rfl];exact II ns k
def Fp(a k:Int):run T (n+1) 19 [at0,af_]=some aBE:=by
 rw[cV (d:=iG) rfl rfl];exact EJ a k
def SA(ha:0<=a)(h1:1<=s)(h6:s<=6):∃p∈perms s,run T (n+2) 20 [at0,ahz]=some (tp p):=by
 rw[cV (d:=lU 19) rfl rfl];exact IM ha h1 h6 λk=>⟨apn,Fp a k⟩
def N6(a:Int)(h1:1<=s)(h6:s<=6):∃ps:ab3,run T (n+3) 21 [at0,ahz]=some ac3/\anU/\∀p∈ps,aio:=by
 rw[cV (d:=i8 20 19) rfl rfl];refine bH (NY (F:=run T (n+2)) (ft:=20) (fd:=19) (s:=s) (a:=a) (λk=>Fp a k) λb hb=>SA hb h1 h6) λys e hl hP=>aa (EZ ys hP) λps ai tG=>?_;subst ai;exact⟨ps,e,by rwa [aap]at hl,tG⟩
theorem dS:∀ps:ab3,aF ac3=true
 |[]=>rfl
 |p::ps=>by
  show(aF (tp p)&&aF ac3)=true;rw[aw,dS ps];rfl
def pG(h6:s<=6):∀l t,ajP->ahu->run T (n+2) 3 [ac8,tp t]=some (tp aiV):=λl t hv ht=>by
 exact xO (fd:=d3) rfl rfl (Ja aC_ (KP h6) hv ht)
def pH(h6:s<=6):∀l r,ajP->amG->run T (n+2) 4 [ac8,tp r]=some amR:=λl r hv hr=>by
 refine xO (fd:=d4) rfl rfl (Jc aC_ hr (Jf hv) ?_);have h1:=tH aE hv;have h2:=VL.len hv;rw[abI]at h2;have h3:l.length*(pg s).n <=6*6:=agT (by rw[h2];exact h6) h6;rw[lW];lia
def Jp(h6:s<=6){ps:ab3}(tG:∀p∈ps,aio)(hl:ps.length<=720):
  ∃l,Fd (pg s) (· ∈ps) l []/\∀n,run T (n+4) 8 [ac3,ahz]=some (aQ (aS (pg s) (Gen (pg s) (· ∈ps)) 0)):=by
 have key:∀n,∃l,run T (n+3) 5 [ac3,ahz]=some ac8/\Fd (pg s) (· ∈ps) l []:=λn=>by
  exact aa (Ff (F:=run T (n+2)) h6 tG hl (Fo h6) (pG h6) (pH h6)) λl e hd=>⟨l,by rw[cV (d:=d5) rfl rfl];exact e,hd⟩
 refine aa (key 0) λl0 _ Tj=>⟨l0,Tj,λn=>?_⟩;refine aa (key n) λl e hd=>?_;have hM:=kF h6 tG;have hm:=hd.hm aE tG;refine xO (fd:=d8) rfl rfl (By h6 e (dS ps) λk hk=>xO (fd:=d7) rfl rfl (Jh h6 hM hm hk λu hu=>?_));exact aa (Fg (F:=run T (n+1)) h6 aC_ hm.1 hk hu) λx e1 e2=>⟨x,xO (fd:=d6) rfl rfl e1,e2⟩
def zY(h:gH d 60=true):cmp .NotEq d d=some false:=by
 show(if(gH d 60&&gH d 60)=true then some (!pV d d) else none)=_;rw[h,pK];rfl
def Jq(h:gH d 60=true):cmp .Eq d d=some true:=by
 show(if(gH d 60&&gH d 60)=true then some (pV d d) else none)=_;rw[h,pK];rfl
end
section
variable {n s:Nat}{F:FT}{M N:aa0->Prop}
theorem Fq:∀l:ag2,(t9 l).length =cnt l
 |[]=>rfl
 |R::l=>by
  show(R.map (·.2)++t9 l).length =R.length+cnt l;rw[aau,aap,Fq l]
structure Kn(s:Nat)(M:aa0->Prop):Prop where
 y:jt (pg s) M
 YX:IW (pg s) M ac0 0
 tl:∀t,t∈TL (pg s) ac0↔M t
 nd:(TL (pg s) ac0).Nodup
 v:VL (pg s) ac0 0
 len:(aS (pg s) M 0).length =s
 FY:(t9 ac0).length <=36
 rl:∀R∈aS (pg s) M 0,R.length<=1000
def SD(h6:s<=6)(hM:arb)(h:Hm (pg s) M l 0):apu:=by
 obtain⟨a,b,c⟩:=E7 aE hM h;have v:=(a.hm aE hM).1;have hl:(aS (pg s) M 0).length =s:=by have:=VL.len v;rw[abI]at this;exact this
 have h2:=tH aE v;rw[hl]at h2;refine⟨hM,a,b,c,v,hl,by rw[Fq];exact aam h2 (agT h6 h6),λR hR=>?_⟩;obtain⟨i,hi⟩:=List.getElem?_of_mem hR;have:=pF (by have:=(aax.mp hi).1;lia) (VL.at v hi);lia
def Jr(k:apu):run T (n+1) 10 [amr]=some (akJ ((t9 ac0).map tp)):=by
 exact xO (fd:=Ss) rfl rfl (BA (by have:=k.FY;omega))
noncomputable abbrev hB(s:Nat)(M:aa0->Prop)(t:aa0):Bool:=pJ (pg s) ac0 0 t
def zZ(k:apu)(ht:ahu):hB s M t=true↔M t:=by
 have hm:=k.YX.hm aE k.y;exact(vN aE k.v ht λj hj=>absurd hj alz).trans ((hm.2 t).trans ⟨λh=>h.1,λh=>⟨h,λj hj=>absurd hj alz⟩⟩)
def W3(h6:s<=6)(k:apu)(ht:ahu):run T (n+3) 11 [amr,tp t]=some (.bl (hB s M t)):=by
 obtain⟨d,e,q⟩:=BB (F:=run T (n+1)) h6 aC_ (KP h6) k.v ht;exact xO (fd:=Su) rfl rfl (N9 (s:=s) (xO (fd:=Sv) rfl rfl e) q)
def SE(h6:s<=6){G:ab3}(hG:∀u∈G,ajr)(hl:G.length<=720)(hM:arb)(e:Gen (pg s) (· ∈G)=M):apu/\∀n,run T (n+4) 8 [.tup (G.map tp),ahz]=some amr:=by
 obtain⟨l,hd,f⟩:=Jp h6 hG hl;have hm:=hd.hm aE hG;rw[e]at hm f;exact⟨SD h6 hM hm,f⟩
def Oa(k:apu):∀u∈t9 ac0,ajr:=λu h=>k.y.s u (Fl h)
structure YY(s:Nat)(M:aa0->Prop)(Ts:ab3):Prop where
 mem:∀t,t∈Ts↔M t
 FY:Ts.length<=1000
 nd:Ts.Nodup
 up:Ts.Pairwise bN.Kc
def mM(h1:1<=s)(h6:s<=6){ps:ab3}(tG:∀p∈ps,aio)(hl:ps.length<=1000)(he:seq e=some anA):∃Ts,run T (n+2) 23 [e,ahz]=some aqe/\YY s (Gen (pg s) (· ∈ps)) Ts:=by
 obtain⟨B,eB,hB⟩:=N7 (F:=run T (n+1)) h1 h6 (tL h6) tG hl he;have hBl:B.length<=720:=aam (gx _ _ hB.nd λx hx=>E8 tG (hB.gen x hx)) azM;exact⟨_,xO (fd:=OU) rfl rfl eB,λt=>((bN.aN B).mem_iff).trans ((hB.done t).trans zK),by rw[(bN.aN B).length_eq];lia,(bN.aN B).nodup_iff.mpr hB.nd,bN.gO B⟩
def z9(h6:s<=6)(k:apu)(j:aD3):run T (n+4) 13 [amr,ahD]=some (.bl ((t9 ac0).all (hB s N))):=by
 rw[cV (d:=Sw) rfl rfl];exact BC (akH k.FY) (Jr k) λt ht=>W3 h6 j (Oa k t ht)
def Fs(k:apu)(j:aD3):(t9 ac0).all (hB s N)=true↔ ∀t,M t->N t:=by
 rw[abZ];exact⟨λh t ht=>Fm j.y (λu hu=>(zZ j (Oa k u hu)).mp (h u hu)) ((N_ k.y k.YX).mpr ht),λh u hu=>(zZ j (Oa k u hu)).mpr (h u (Fl hu))⟩
def Js(h6:s<=6)(k:apu)(j:aD3)(h:∀t,M t->N t):run T (n+5) 15 [amr,ahD]=some .cq :=by
 rw[cV (d:=rn) rfl rfl];refine BD ?_;rw[z9 h6 k j,(Fs k j).mpr h]
end
end eQ
namespace PySem
inductive NC:{α:Type}->Sem α->Prop
 |pure {α:Type} (a:α):NC (.pure a)
 |BF {α:Type} (w:apr):NC (α:=α) (.unsupported w)
 |load {α:Type}{a:Addr}{p:ae6}{k:Obj->Sem α} (h:∀o,NC (k o)):NC (.load a p k)
 |upd {α:Type}{a:Addr}{p:ae6}{f:Obj->Obj}{k:Unit->Sem α} (h:∀o,NC (k o)):NC (.update a p f k)
 |alloc {α:Type}{o:Obj}{k:Addr->Sem α} (h:∀o,NC (k o)):NC (.alloc o k)
 |stack {α:Type}{k:List (Code×Pos)->Sem α} (h:∀o,NC (k o)):NC (.stack k)
def NC.bind{α β:Type}{t:Sem α}{f:α->Sem β}(h:NC t)(hf:∀a,NC (f a)):NC (t >>= f):=by
 induction h with
 |pure a=>exact hf a
 |BF w=>exact .BF w
 |load _ ih=>exact .load λo=>ih o
 |upd _ ih=>exact .upd λo=>ih o
 |alloc _ ih=>exact .alloc λo=>ih o
 |stack _ ih=>exact .stack λo=>ih o
def ik{α:Type}{M:Model}{A:ahp}{t:Sem α}{Q Q':α->Shared->Prop}{E E':Value->Shared->Prop}{s:ab5}(n:NC t)(h:wpAny M A t Q E s)(h':wpAny M A t Q' E' s):
  wpAny M A t (λa s'=>Q a s'/\Q' a s') (λe s'=>E e s'/\E' e s') s:=by
 have key:∀{Γ:Ctx}{Q Q':α->Pos->Shared->Prop}{E E':Value->Pos->Shared->Prop}{p:Pos}{s:ab5},Sem.wp M Γ t Q E p s->Sem.wp M Γ t Q' E' p s->Sem.wp M Γ t (λa p' s'=>Q a p' s'/\Q' a p' s') (λe p' s'=>E e p' s'/\E' e p' s') p s:=by
  clear h h';intro Γ Q Q' E E' p s;induction n generalizing p s with
  |pure a=>exact λh h'=>⟨h,h'⟩
  |BF _=>exact λh _=>h
  |load _ ih=>exact λh h'=>h.elim λo x=>h'.elim λo' x'=>⟨o,x.1,ih o x.2 ((aaQ (x.1.symm.trans x'.1))▸x'.2)⟩
  |upd _ ih=>exact λh h'=>⟨h.1,ih () h.2 h'.2⟩
  |alloc _ ih=>exact λh h'=>ih _ h h'
  |stack _ ih=>exact λh h'=>ih _ h h'
 exact λΓ p YZ=>key (h Γ p YZ) (h' Γ p YZ)
def NC.ite{α:Type}{p:Prop}[Decidable p]{t u:Sem α}(h:NC t)(h':NC u):NC (if p then t else u):=by
 split
 .exact h
 .exact h'
def kI(v:Value)(i:Nat):NC (field v i):=by
 refine .bind ?_ λa=>?_
 .unfold fieldsOf;split
  .refine .bind (.load λo=> asU) λo=>?_;split
   .exact .pure _
   .exact .BF _
  .exact .BF _
 .split
  .exact .pure _
  .exact .BF _
def il(v:Value)(i:Nat)(x:Value):NC (setField v i x):=by
 unfold setField;split
 .refine .bind (.load λo=> asU) λo=>?_;split
  .exact .ite (.upd λo=> asU) (.BF _)
  .exact .BF _
 .exact .BF _
def l7(v:Value):NC (setFlight v none):= .bind (kI v 1) λtb=> .ite (il tb 3 _) an4
theorem vO:∀l,NC (readyFrames l)
 |[]=> .pure _
 |env::outer=>by
  unfold readyFrames;split
  .refine .bind (.load λo=> asU) λo=> .ite an4 (.bind ?_ λb=> .bind ?_ λv=> .bind (.upd λo=> asU) λ_=>vO outer)
   .unfold behindIsImport;exact .ite an4 (.ite an4 (.bind (kI _ _) λ_=> an4))
   .unfold keptBack;split
    .exact .ite an4 (.bind (.bind (.stack λo=> asU) λ_=> an4) λ_=> an4)
    .exact .pure _
  .exact .BF _
def Ob(ty:apr)(vs:ab0):NC (newFields ty vs):=by
 unfold newFields newObj newObjAsIs;exact .ite (.bind (.BF _) λ_=> .bind (.alloc λo=> asU) λa=> an4) (.bind (.alloc λo=> asU) λa=> an4)
def z_(e:Value)(env:Env):NC (noteFrame e env):=by
 have key:∀f head,NC (do setField e 1 (<-EntryCells.newEntry head (<-frameOf env) .none (auU f) .none (<-entryPlaceOf f (head != .none)))):=λf head=>by
  refine .bind (.bind (.bind (.stack λo=> asU) λ_=> an4) λl=> .bind ?_ λo=>?_) λfr=> .bind (.bind (.stack λo=> asU) λa=>?_) λpl=> .bind (Ob _ _) λb=>il _ _ _
  .unfold frameObject;split
   .exact .pure _
   .exact .bind (vO _) λ_=> .pure _
  .split
   .exact .pure _
   .exact .BF _
  .split
   .exact .pure _
   .exact .pure _
 unfold noteFrame;split
 .exact .bind (kI _ _) λhead=> .ite (.bind (kI _ _) λx=> .ite an4 (.bind (il _ _ _) λ_=>key _ head)) (key _ head)
 .exact .BF _
def pM(e:Value)(env:Env):NC (leaving env e):= .bind (z_ e env) λ_=>l7 e
end PySem
namespace L2
open PySem PySem.Spec PyProof.Rows
structure fW(C:Addr)(o:Obj)(vs:ae2):Prop where
 cls:o.cls= .ref C
 dict:o.dict=none
 data:o.data= .fields vs
 sz:1<vs.size
 ctx:vs[2]?=some .none
noncomputable def mE(h:Heap)(e C:Addr):Prop:=∃o vs T oT ts,h.get? e=some o/\aDn/\vs[1]?=some (akE T)/\T≠e/\h.get? T=some oT/\oT.data= .fields ts/\3<ts.size
def fW.trace(x:aDn)(v:Value):fW C (Obj.mapFields (·.setIfInBounds 1 v) o) (vs.setIfInBounds 1 v):=by
 obtain⟨c,d,e,f,g⟩:=x;obtain⟨oc,od,dt,sl⟩:=o;dsimp only at c d e;subst c d e;exact⟨rfl,rfl,rfl,by simpa using f,by rw[aeS aa1];exact g⟩
section
variable {M:Model}{A:ahp}{E:Value->Shared->Prop}{s:ab5}{e C:Addr}
def pN(wU:al8)(hl:ajA)(hf:arJ)
  (he:aEH) (ho:aDn):
  wpAny M A (do let a<-frameOf env;let pl<-entryPlaceOf L hn;let b<-EntryCells.newEntry head a .none (auU L) .none pl;setField ajd 1 b) (λ_ s'=>atO) E s:=by
 have nfr:e∉(env::outer).filterMap (·.frame):=λhm=>by
  obtain⟨_,o',q,n⟩:=hl.mem hm;rw[he]at q;cases q;exact n vs ho.data
 refine aag (wpAny_frameOf_fun wU hl hf λh1 k1=>?_);refine aag (wpAny_entryPlaceOf λpl dq=>?_);unfold EntryCells.newEntry newFields;refine aag (abf ?_ (dq.sizeOk5 _ _ _ _ _));have e1:h1.get? e=some o:=(k1.2.1 e nfr).trans he;have e2:(h1.push {cls:= .type "traceback",dict:=none,data:= .fields ([head,.ref L,.none,rawInt L,.none]++(if pl.isEmpty then List.replicate 6 Value.none else pl)).toArray}).get? e=some o:=aah _ e1;refine abR e2 ho.data ho.sz ?_;have ne:h1.objs.size≠e:=adj (aaA e1);have x:=ho.trace aix;refine⟨_,_,h1.objs.size,{cls:= .type "traceback",dict:=none,data:= .fields ([head,.ref L,.none,rawInt L,.none]++(if pl.isEmpty then List.replicate 6 Value.none else pl)).toArray},_,abu _ e2 (acf x.data),x,?_,ne,?_,rfl,?_⟩
 .rw[aeE,aaB ho.sz]
 .rw[aaP _ _ (abF ne)];exact aav h1 rfl
 .simp only[aay,aau,aaL,adv];exact afi _ aa1
def fc(x:mE s.heap e C):wpAny M A (setFlight ajd none) (λ_ s'=>atO) E s:=by
 obtain⟨o,vs,T,oT,ts,h1,h2,h3,h4,h5,h6,h7⟩:=x;unfold setFlight;refine aag (ace h1 h2.data h3 ?_);rw[aaB (show(Value.ref T !=Value.none)=true from by simp)];refine abR h5 h6 h7 ?_;refine⟨o,vs,T,_,_,?_,h2,h3,h4,abu _ h5 (acf (aby h6 _)),aby h6 _,by simpa using h7⟩;rw[aaP _ _ h4];exact h1
def xM(wU:al8)(hl:ajA)(hf:arJ)
  (he:aEH) (ho:aDn) (h1:vs[1]?=some .none):wpAny M A aF0 (λ_ s'=>atO) E s:=by
 unfold leaving noteFrame;simp only[hf];refine aag (aag (ace he ho.data h1 ?_));rw[aaF aa1];exact abJ (pN wU hl hf he ho) (λ_ s' x=>fc x) λ_ _ z=>z
def rA(wU:al8)(hl:ajA)(hf:arJ)(x:mE s.heap e C):
  wpAny M A (noteFrame ajd env) (λ_ s'=>atO) E s:=by
 have x0:=x;obtain⟨o,vs,T,oT,ts,h1,h2,h3,h4,h5,h6,h7⟩:=x;obtain⟨t3,h8⟩:∃t3,ts[3]?=some t3:=⟨_,aaG h7⟩;unfold noteFrame;simp only[hf];refine aag (ace h1 h2.data h3 ?_);rw[aaB (show(Value.ref T !=Value.none)=true from by simp)];refine aag (ace h5 h6 h8 ?_);split
 .exact aao x0
 .refine aag (abR h5 h6 h7 ?_);have noR:∀b o,ab2->(∀vs,o.data≠ .fields vs)->T≠b:=λb o hb Ft q=>by
   rw[<-q,h5]at hb;cases hb;exact Ft ts h6
  refine pN (base:=base) wU (hl.of_keeps λb o hb Ft=>⟨o,?_,rfl⟩) hf ?_ h2
  .dsimp only;rw[aaP _ _ (noR b o hb Ft)];exact hb
  .dsimp only;rw[aaP _ _ h4];exact h1
end
end L2
namespace L2
open PySem PyProof.Rows
noncomputable def pO(S:ae_)(h:Heap):Heap:=⟨h.objs.mapIdx λi o=>if i∈S then {o with data:= .freed} else o,h.life⟩
def bV(S:ae_)(h:Heap)(b:Addr):(pO S h).get? b=if b∈S then none else h.get? b:=by
 unfold pO Heap.get?;simp only[Array.getElem?_mapIdx];cases h.objs[b]? with
 |none=>by_cases hb:b∈S<;>simp[hb]
 |some o=>
  by_cases hb:b∈S
  .simp[hb]
  .simp[hb]
def mF(S:ae_)(h:Heap):(pO S h).StaysIn h:=λb o q=>by
 rw[bV]at q;split at q
 .cases q
 .exact q
theorem l9{h base:Heap}:∀{l:amB},h.FunFrames base l->(∀b∈eG l,b∈S)->h.FunFrames (pO S h) l
 |[],_,_=>trivial
 |env::aT,⟨hk,⟨L,o,hf,hn,ho,hd⟩,hr⟩,hS=>by
  have hm:eG (env::aT)=L::eG aT:=by unfold eG;rw[adD,hf]
  rw[hm]at hS;exact⟨hk,⟨L,o,hf,by rw[bV,aaB (hS L aaq)],ho,hd⟩,l9 hr λb hb=>hS b aqJ⟩
structure Kept(l:amB)(e:Addr)(h h':Heap):Prop where
 keep:∀b o,b∉eG l->b≠e->ah4->h'.get? b=some o
 slot:∀b o,b∈eG l->ah4->∃sl,h'.get? b=some {o with slots:=sl}
def vP{M:Model}
  (wU:al8) (hl:ajA) (hf:arJ) (he:aC1) (hd:oe.data= .fields vs) (h1:vs[1]?=some .none) (h0:vs[0]?=some a0)
  (h:∀h',Kept (env::outer) e s.heap h'->Heap.FlyingW (pO (e::eG (env::outer)) s.heap) outer e oe.cls a0 h'->Q () {s with heap:=h'}):wpAny M A aF0 Q E s:=by
 refine wpAny_leaving_firstW (base:=pO (e::eG (env::outer)) s.heap) wU (l9 hl λb hb=>aal _ hb) hf he (mF _ _) (by rw[bV,aaB aaq]) hd h1 h0 λh' hL=>?_;obtain⟨x1,x2,x3,x4⟩:=hL;refine h h' ⟨λb o hb BV q=>x1 b o ?_,λb o hb q=>x4 b o q ?_⟩ ⟨x1,by rw[bV,aaB aaq],x2.2.2,x3⟩
 .rw[bV,aaF]
  .exact q
  .intro z;rcases aat.mp z with z|z
   .exact BV z
   .exact hb z
 .obtain⟨_,o',xX,Ft⟩:=hl.mem hb;rw[q]at xX;cases xX;exact Ft
noncomputable def W4(P:ac7)(w:World)(C:Addr):Ap:=λouter H s E e s'=>∃(a:Addr) (a0:Value) (H':Hp) (B:Heap),e= .ref a/\aAG/\alP/\atV/\gC P w H' s'.heap/\
 Heap.FlyingW B outer a ai1 a0 s'.heap/\H' a=none/\s.heap.get? a=none/\E ab_ none H'/\
 (∀b o,aog->b∉eG outer->(aGJ\/aEI)->B.get? b=some o)
noncomputable def kJ(P:ac7)(w:World)(C:Addr):Ap:=λouter H s E e s'=>W4 P w C outer H s E e s'/\∀a,e= .ref a->mE s'.heap a C
def gC.off(x:akg)(k:∀b u,H b≠none->akf->ain):gC P w H h':=λa o e=>
 (x a o e).mG (λb u hb q=>k b u (by rcases hb with rfl|hb<;>simp_all) q) (λ_ q=>q) λ_ _ q=>q
def aO.obj(x:az7):∃ob,h.get? a=some ob:=by
 cases o with
 |lst xs=>obtain⟨_,_,_,_,e⟩:=x;exact⟨_,e⟩
 |tup xs=>obtain⟨_,_,_,ob,e,_⟩:=x;exact⟨_,e⟩
 |dK kvs=>obtain⟨_,_,_,_,o,_,_,e,_⟩:=x;exact⟨_,e⟩
 |dT kvs=>obtain⟨_,_,_,_,o,_,_,e,_⟩:=x;exact⟨_,e⟩
 |set S n=>obtain⟨o,_,_,_,e,_⟩:=x;exact⟨_,e⟩
 |ins C dx fs=>obtain⟨_,_,_,e,_⟩:=x;exact⟨_,e⟩
 |own y=>obtain⟨_,e⟩:=x;exact⟨_,e⟩
 |xd fs=>obtain⟨_,⟨_,_,_,e,_⟩,_⟩:=x;exact⟨_,e⟩
 |iO lo hi=>obtain⟨_,_,_,e⟩:=x;exact⟨_,e⟩
 |dF ob u=>obtain⟨e,_⟩:=x;exact⟨_,e⟩
 |JE ps=>exact⟨_,(show h.get? a=some _ from x)⟩
 |met f y=>exact⟨_,(show h.get? a=some _ from x)⟩
 |ext φ=>obtain⟨_,⟨_,e⟩,_⟩:=x;exact⟨_,e⟩
section
variable {P:ac7}{w:World}{K:ay}{mg:Str->Option Value}{base:Heap}{N:ac_}{qual:Str}{scope:Scope}{f C:Addr}{cd:Value}{A:ahp}{outer:amB}{s0:ab5}{H0:Hp}{E:XK}
def xP(I:Inv af0 U σ H s)(hm:Heap.MadeExcOf s.heap h' e ai1 us)(hE:E ajd none H):
  (dH ak8 P w K mg base N qual scope f cd A outer s0 H0 E).xe ajd {s with heap:=h'}:=by
 have I':=I.kept (t':=s.toks) hm.keeps;have Tw:H e=none:=by
  cases q:H e with
  |none=>rfl
  |some o=>
   obtain⟨ob,OW⟩:=(I.aJ e o q).obj;rw[hm.new]at OW;cases OW
 have old:∀b o,aof->b≠e:=λb o q z=>by
  obtain⟨o',h1⟩:=I.base.there b o q (λz=>nomatch z);rw[z,hm.new]at h1;cases h1
 have OX:alo:=rfl;have xQ:∀b o,aof->b∉eG outer->b∉eG (envOfC qual scope s0.heap.objs.size f cd::outer):=λb o q hb z=>by
  rw[OX]at z;rcases aat.mp z with z|z
  .exact absurd aDR (by rw[z];exact abi _)
  .exact hb z
 have Ah:∀b,H b≠none->b∉eG (envOfC qual scope s0.heap.objs.size f cd::outer)/\b≠e:=λb hb=>⟨λz=>hb (I'.jD b z),λz=>hb (by rw[z];exact Tw)⟩;obtain⟨t,ht,_,_⟩:=hm.there;show wpAny akp (aws af3) (leaving af3 ajd) (λ_ mJ=>kJ P w C outer H0 s0 E ajd mJ) (λe' mJ=>alw) {s with heap:=h'};refine abJ (ik (pM _ _) (E:=λe' mJ=>alw) (E':=λ_ _=>True) (Q:=λ_ mJ=>W4 P w C outer H0 s0 E ajd mJ) ?_ (xM (base:=base) (C:=C) (L:=s0.heap.objs.size) I.ok.frames I'.stack rfl ht ⟨rfl,rfl,rfl,by simp,rfl⟩ rfl)) (λ_ mJ x=>⟨x.1,λa q=>by cases q;exact x.2⟩) λ_ _ x=>x.1;refine vP (base:=base) (L:=s0.heap.objs.size) I.ok.frames I'.stack rfl ht rfl rfl rfl λFX hk T8=>?_;refine⟨e,_,H,_,rfl,I.os,arQ,⟨λb o q n hb hx=>?_,λb o q n hb hx=>?_,I'.base.free,λb o q hx=>?_,I'.base.kQ,I'.base.fY,I'.base.kS⟩,I'.aJ.off λb u hb q=>hk.keep b u (Ah b hb).1 (Ah b hb).2 q,T8,Tw,?_,hE,λb o q hb uW=>?_⟩
 .exact hk.keep b o at5 atn awX
 .obtain⟨sl,h1⟩:=I'.base.slot b o q n hb hx;obtain⟨Gf,h2⟩:=hk.slot b _ (by rw[OX];exact aal _ hb) h1;exact⟨Gf,h2⟩
 .obtain⟨o',h1⟩:=I'.base.there b o q hx;by_cases hb:b∈eG outer
  .obtain⟨Gf,h2⟩:=hk.slot b _ (by rw[OX];exact aal _ hb) h1;exact⟨_,h2⟩
  .exact⟨o',hk.keep b o' at5 atn h1⟩
 .cases q:s0.heap.get? e with
  |none=>rfl
  |some o=>exact absurd rfl (old e o q)
 .obtain⟨o1,h1,n1,n2⟩:∃o1,h'.get? b=some o1/\b∉eG (envOfC qual scope s0.heap.objs.size f cd::outer)/\b≠e:=by
   rcases uW with uW|uW
   .cases z:H b with
    |none=>exact absurd z uW
    |some u=>
     obtain⟨ob,OW⟩:=(I'.aJ b u z).obj;exact⟨ob,OW,Ah b uW⟩
   .cases z:s0.heap.get? b with
    |none=>exact absurd z uW
    |some u=>
     obtain⟨o',h1⟩:=I'.base.there b u z (λz=>nomatch z);exact⟨o',h1,xQ b u z hb,old b u z⟩
  have h2:=hk.keep b o1 n1 n2 h1;have h3:arR:=q;rw[h2]at h3;cases h3;rw[bV,aaF]
  .exact h1
  .intro z;rcases aat.mp z with z|z
   .exact n2 z
   .exact n1 z
def Fu(O:OwnCls x C bm newId mg base)(FB:azl)(hg:Gl af0 x)(yf:aiC):
  PS af0 (.Raise (aku (atL (.Name x np))) none pos) (λ_ _ H=>∀e,E ajd none H):=by
 intro U s σ H D I hE;obtain⟨tl,N',nm,q,bs,hdct,sn,sub,ab,col,dd,k0,k1,k2,k3,k5,mN,hC,hN,hni,T⟩:=O.obj;refine wpAny_Raise_call_subT (C:=C) (nm:=nm) (q:=q) (N:=N') (bs:=bs) (bm:=tl) (hdct:=hdct) (sn:=sn) (sub:=sub) (ab:=ab) (col:=col) (dd:=dd) (k0:=k0) (k1:=k1) (k2:=k2) (k3:=k3) (k5:=k5)
  FB (mN:=mN) (T.hasType FB.hasBase) (I.ok.hd rfl) rfl hni (mX I hg O.bound ⟨rfl,?_⟩ yf)
 have hA:=(aX (X:=dH ak8 P w K mg base N qual scope f cd A outer s0 H0 E) (K9 (x:=msg) (j:=j) (pos:=p')) b_) cM U s σ H (λvs H1=>vs.length=1/\∀e,E ajd none H1) I ⟨rfl,hE⟩;refine aei (bF hA λus s1 hs=>?_);obtain⟨vs,H1,I1,rv,hv⟩:=hs;refine⟨rfl,?_,I1.bk _ _ hC,hN.keeps I1.bk,T.keeps I1.bk,λh' e hm=>xP I1 hm (hv.2 e)⟩;show us.length<=sizeLine;rw[<-rv.length,hv.1];decide
end
def vQ{s s':ab5}(I:aa4)(As:aAG)(vS:alP)(un:Un aBt [] H H' s.heap s'.heap)(aJ:aAO)
  (T8:s'.heap.FunFrames B X.stack) (Jt:∀b o,aog->b∉eG X.stack->(aGJ\/aEI)->B.get? b=some o) (stays:B.StaysIn h3) (up:aEJ) {t':Nat}:Inv X U σ H' {s' with heap:=h3,toks:=t'}:=by
 have frl:∀b,b∈eG X.stack->aol:=λb hb=>by
  obtain⟨_,o,ho,_⟩:=I.stack.mem hb;exact un.free b o ho (I.jD b hb) (λz=>nomatch z)
 refine I.JJ (s':={s' with heap:=h3,toks:=t'}) (ch:=[]) As ⟨λb o q n hb hx=>?_,λb o q n hb hx=>?_,un.free,λb o q hx=>?_,un.kQ,un.fY,un.kS⟩ (aJ.off λb u hb q=>?_) vS (λb z=>nomatch z)
 .exact stays b o (Jt b o (un.keep b o q n hb hx) hb (.inr (by rw[q];intro z;cases z)))
 .obtain⟨sl,h1⟩:=un.slot b o q n hb hx;obtain⟨_,o',h2,Ft⟩:=T8.mem hb;rw[h1]at h2;cases h2;obtain⟨Gf,MR⟩:=up b _ h1 Ft;exact⟨Gf,MR⟩
 .obtain⟨o',h1⟩:=un.there b o q hx;by_cases hb:b∈eG X.stack
  .obtain⟨_,o'',h2,Ft⟩:=T8.mem hb;rw[h1]at h2;cases h2;obtain⟨Gf,MR⟩:=up b _ h1 Ft;exact⟨_,MR⟩
  .exact⟨o',stays b o' (Jt b o' h1 hb (.inr (by rw[q];intro z;cases z)))⟩
 .exact stays b u (Jt b u q (λz=>hb (frl b z)) (akN hb))
open PySem.Spec
def qp:entryFor table "proto.unchain"=some Builtin.«proto.unchain»:=entryFor_of_tree (by kernel_rfl)
section
variable {prog:ac7}{w:World}{A:ahp}{E:Value->Shared->Prop}{s:ab5}
noncomputable def Ju(h:Heap)(e:Addr):Prop:=∃oe fs,h.get? e=some oe/\oe.data= .fields fs/\fs[2]?=some .none
def BG{α:Type}{e a:Addr}{o:Obj}{vs:ae2}{Q:α->Shared->Prop}(hh:ap6)(he:aGF)(ho:aj7)(hd:o.data= .fields vs)(hz:2<vs.size)(eJ:e≠a)
  (h:E ab_ {s with heap:=s.heap.update a (apA (·.setIfInBounds 2 ajd))}):wpAny aa2 A (raiseNew ab_:Sem α) Q E s:=by
 obtain⟨oe,fs,N8,OG,W5⟩:=he;simp only[raiseNew];refine aag (afq ?_);rw[hh];dsimp only;have hb:(Value.ref e !=Value.ref a)=true:=by simpa using eJ
 rw[aaB hb];refine aag (abq (agQ (acg qp ?_)));unfold Builtin.«proto.unchain»;dsimp only;refine aag (ace N8 OG W5 ?_);show wpAny _ _ (if(Value.none==Value.none)=true then _ else _) _ _ _;rw[aaB aa1];refine aao ?_;dsimp only;have q:wpAny aa2 A (setField ab_ 2 ajd) (λ_ s'=>wpAny aa2 A (throw (aG_ a):Sem α) Q E s') E s:=abR (i:=2) ho hd hz (agc h);exact aag q
def pP(hh:ap6)(he:aGF)(hie:it≠e)
  (qa:aAF) (hl:s.heap.IsList l items) (hx:items[i]?=none)
  (hQ:∀h',akk->Q none {s with heap:=h'}):aie:=by
 obtain⟨o,ho,hc,hd⟩:=id qa;obtain⟨ol,J3,_,nl,J_⟩:=hl;obtain⟨oe,fs,N8,OG,W5⟩:=he;unfold pyNext;refine aag (adl (abG (name:=Str.ofString "__next__") qa.typeIs slot_listiter_next
  (abt slot_listiter_next qa.typeIs entry_listiter_next ?_ (args_listiter_next _))))
 show wpAny _ _ (field ad8 0 >>= _) _ _ s;refine aag (ace ho hd (x:= .ref l) rfl ?_);show wpAny _ _ (if aiP=true then _ else _) _ _ s;rw[aaF (show¬aGq from aan)];show wpAny _ _ (field ad8 1 >>= _) _ _ s;refine aag (ace ho hd (x:= .int i 0) rfl ?_);show wpAny _ _ (seqItems? aic >>= _) _ _ s;refine aag (ado J3 J_ ?_);simp only[abU,hx];refine aag (adx (aag (abR ho hd ab1 ?_)));show wpAny _ _ (newExc (.type "StopIteration") [] >>= _) _ _ _;refine aag ?_;simp only[newExc,newTuple];refine aag (abf ?_ (by size_fits));refine aag (m:=firstArgMember _ _) (aeP (a:=Value.none) (by first|rfl|(simp only[firstArgMember];rfl)) ?_);refine abf ?_ (by size_fits);have eh:=((abA s.heap it (apA (·.setIfInBounds 0 .none))).extBut);refine BG (e:=e) hh ⟨oe,fs,?_,OG,W5⟩ ag6 rfl (by simp;exact by decide) ?_ ?_
 .exact aah _ (aAr (eh e oe (λz=>hie z.symm) N8))
 .intro z;have:=aaA N8;rw[z]at this;simp only[acj,Heap.size_after_update]at this;exact absurd (Nat.lt_of_succ_lt this) alW
 dsimp only;refine aag (aem (T:="StopIteration") (b:=true) ⟨_,abu _ ag6 rfl,rfl⟩ isSubtype_stop ?_);refine aao (hQ _ λb o' hb q=>?_);have aU:=aaA q;rw[aaP]
 .exact aah _ (aAr (eh b o' hb q))
 .intro z;rw[<-z]at aU;simp only[acj,Heap.size_after_update]at aU;exact absurd (Nat.lt_of_succ_lt aU) alW
def vT(hh:ap6)(I ax:Addr)(eJ:ax≠I)(SF:I≠e)(items:ae2):
  Walks prog w A I [I,ax,e] [I] items.size (λi v=>items[i]?=some v) (λi h=>h.IsListIter I ax i/\h.IsList ax items/\Ju h e) where
 sub:=λb hb=>by simp at hb;simp[hb]
 frame:=λ_ _ _ st hk=>⟨st.1.at λo e=>hk I ab1 o e,st.2.1.at λo e=>hk ax ab1 o e,let ⟨oe,fs,q,r⟩:=st.2.2;⟨oe,fs,hk e ab1 _ q,r⟩⟩
 item:=λi s Q E hi st hQ=>by
  refine adM st.1 st.2.1 (x:=items[i]) (by simp[hi]) λh' L6 qC=>?_;obtain⟨oe,fs,q,r⟩:=st.2.2;exact hQ _ h' s.toks (by simp[hi]) ⟨L6,st.2.1.extBut qC.extBut eJ,oe,fs,qC.extBut _ _ (λz=>SF z.symm) q,r⟩ λb o hb e=>qC.extBut b o (λh=>hb (by simp[h])) e
 done:=λs Q E st hQ=>pP hh st.2.2 SF st.1 st.2.1 ab1 λh' xu=>hQ h' s.toks λb o hb e=>xu b o (λh=>hb (by simp[h])) e
 self:=λ_ _ _ _ st hQ=>wpAny_pyIter_listiter st.1 hQ
def BH{bs:amX}(hh:ap6)(he:aGF)(hl:aq_)
  (h:∀h' tk,(∀b o,ab2->ad4)->Q (aEw (bs.any id)) {s with heap:=h',toks:=tk}):wpAny aa2 A (arC (.builtin "any")) Q E s:=by
 have aU:am4:=by obtain⟨_,e,_⟩:=hl;exact aaA e
 have wV:s.heap.objs.size≠e:=by obtain⟨_,_,q,_⟩:=he;exact adj aDR
 refine call_any_walk (acO hl ?_);refine⟨_,[_,l,e],[_],_,_,_,_,rfl,vT (A:=A.in1) hh s.heap.objs.size l az5 wV _,⟨ah3,hl.push _,let ⟨oe,fs,q,r⟩:=he;⟨oe,fs,awc,r⟩⟩,mj _ bs,λh' tk hk=>?_⟩;have e:(bs.map Value.bool).toArray.size =bs.length:=by simp
 rw[e,any_range];refine h h' tk λb o z=>hk b o (λhm=>?_) (aAr z);rw[aar.mp hm]at z;exact absurd (aaA z) alW
end
open PySem.W (Frag findIn specialIn takesIn mroIn clsIn InstAt findObj KitX looks_findIn looks_mroIn looks_find looks_typeIn)
noncomputable def excIn(K:Frag)(D:Addr):Bool:=
 (findIn K ajZ "__getattribute__" == some (aku (.builtin "BaseException.__getattribute__")))&&(findIn K ajZ "__getattr__" == some none)&&(clsIn K D).isSome &&
 (findIn K ajZ "__class__" == some (aku (.builtin "object.__class__")))&&(specialIn K (.builtin "object.__class__") "__get__" == some (aku (.builtin "getset_descriptor.__get__"))) &&
 (takesIn K (.builtin "object.__class__")==some true)&&(mroIn K D (.type "object")==some true)&&(mroIn K D (.type "BaseException")==some true)
structure kK(K:Frag)(D:Addr):Prop where
 ga:findIn K ajZ "__getattribute__"=some (aku (.builtin "BaseException.__getattribute__"))
 gt:findIn K ajZ "__getattr__"=some none
 cl:(clsIn K D).isSome =true
 ca:findIn K ajZ "__class__"=some (aku (.builtin "object.__class__"))
 sp:specialIn K (.builtin "object.__class__") "__get__"=some (aku (.builtin "getset_descriptor.__get__"))
 tk:takesIn K (.builtin "object.__class__")=some true
 mo:mroIn K D (.type "object")=some true
 mb:mroIn K D (.type "BaseException")=some true
def kK.of{K:Frag}(h:excIn K D=true):aDb:=by
 unfold excIn at h;simp only[aak,beq_iff_eq]at h;obtain⟨⟨⟨⟨⟨⟨⟨a,b⟩,c⟩,d⟩,e⟩,f⟩,g⟩,k⟩:=h;exact⟨a,b,c,d,e,f,g,k⟩
def kK.find{K:Frag}(x:aDb):findObj K D none "__class__"=some (.bind (.builtin "getset_descriptor.__get__") (.builtin "object.__class__")):=by
 obtain⟨cd,hc⟩:=adu.mp x.cl;unfold findObj;rw[hc,abM,x.ca,abM];simp[x.sp,x.tk]
section
variable {prog:ac7}{w:World}{A:ahp}{E:Value->Shared->Prop}{s:ab5}{K:Frag}{a D:Addr}{o:Obj}
def BI(x:aDb)(X:aro)(I:amL)(hq:Q () s):
  wpAny M A (checkBuiltinCall "BaseException.__getattribute__" ⟨[ab_,nameV],[]⟩) Q E s:=by
 have hk:builtinKind "BaseException.__getattribute__"=some .slot :=by decide +kernel
 have Od:splitId "BaseException.__getattribute__"=some ("BaseException","__getattribute__"):=by decide +kernel
 have L0:=I.type (M:=M);have L1:=looks_mroIn (M:=M) X x.mb;have L2:PySem.W.Looks M s.heap (isInstance ab_ (.type "BaseException")) true:=L0.andThen L1;have ha:=F.args_bexc_ga ab_ nameV;obtain⟨h,g,d,t,os⟩:=s;simp only[checkBuiltinCall,hk,Od];refine aag ?_;refine L2.at ?_
 repeat (first|wp_step)
 exact hq
def mU{tk:Tok}(x:aDb)(X:aro)(I:amL)(hq:Q (.done (ak6 ajZ)) s):
  wpAny aa2 A (Builtin.«object.__getattribute__» ⟨[ab_,.str "__class__" tk],[]⟩) Q E s:=by
 have L0:=I.type (M:=model prog w);have L1:=looks_find (M:=model prog w) X I x.find;have cg:=λ(A:Around) (R:Result->Shared->Prop) (h:R (.ok (.ret (.ref D))) s)=>PySem.W.class_get (prog:=prog) (w:=w) (A:=A) (tp:= .ref D) X I x.mo h;obtain⟨h,g,d,t,os⟩:=s;unfold Builtin.«object.__getattribute__»
 repeat (any_goals (first|assumption|(with_reducible refine wpAny_loadPart_at I.at_ ?_;rw[I.cls])|with_reducible refine L1.at ?_|wp_step))
 refine cg _ _ ?_
 repeat (any_goals (first|assumption|wp_step))
def tM(x:aDb)(X:aro)(I:amL)(hq:Q ajZ s):
  wpAny aa2 A (getAttrBy ab_ (.str "__class__" tk) false) Q E s:=by
 have LG:=looks_findIn (M:=model prog w) X x.ga;have LT:=looks_findIn (M:=model prog w) X x.gt;have f3:=F.attrBase_ValueError.ga.bind ab_;have F5:(Value.builtin "BaseException.__getattribute__" == Value.builtin "object.__getattribute__")=false:=by decide +kernel
 have qV:(onTheHeap (aG_ D)&&Value.builtin "BaseException.__getattribute__" == Value.builtin "object.__getattribute__")=false:=by rw[F5];rfl
 have cc:=λ(A:Around) (R:Result->Shared->Prop) (h:R (.ok (.ret (.ref D))) s)=>afn (prog:=prog) (w:=w) (A:=A) (R:=R) F.attrBase_ValueError.ga.plain F.entry_bexc_ga (BI (nameV:= .str "__class__" tk) x X I (mU (tk:=tk) x X I h));obtain⟨h,g,d,t,os⟩:=s
 repeat (any_goals (first|assumption|(with_reducible refine wpAny_loadPart_at I.at_ ?_;rw[I.cls])|with_reducible refine LG.at ?_|with_reducible refine LT.at ?_|wp_step))
 refine cc _ _ ?_
 repeat (any_goals (first|assumption|wp_step))
def pQ(x:aDb)(X:aro)(I:amL)(hq:Q (aku ajZ) {s with toks:=s.toks+1}):
  wpAny aa2 A (getAttr? (.ref a) "__class__") Q E s:=by
 unfold getAttr? getAttrBy?;exact aag (wpAny_mkText (aag (adl (tM x X I (aao hq)))))
def Fv(x:aDb):KitX K ab_ ajZ (λh=>InstAt h a o D none) where
 ty:=λ_ _ _ I=>I.type
 it:=λ_ _ X _=>by
  obtain⟨cdD,Oe⟩:=adu.mp x.cl;unfold clsIn at Oe;split at Oe
  .rename_i c' d' cd' Gf ho;intro A' Q' E' s' k q;unfold isType loadHead;exact aag (wpAny_loadPart (k _ _ (X _ _ ho)) (aao q))
  .cases Oe
 ne:=λh tp dd its n sl X htp=>by
  obtain⟨cdD,Oe⟩:=adu.mp x.cl;refine Bool.eq_false_iff.mpr λq=>?_;have e:D=tp:=Value.ref.inj (beq_iff_eq.mp q);subst e;unfold clsIn at Oe;split at Oe
  .rename_i c' d' cd' Gf ho;have z:=(X _ _ ho).symm.trans htp;cases z
  .cases Oe
 ca:=λX I k=>pQ x X I k
end
noncomputable def Cx.vU(X:Cx)(e:Addr)(oe:Obj):Cx:={X with A:=X.A.mark (aku ajd),calm:=false,pn:=(e,oe)::X.pn,xe:=λ_ _=>False}
section
variable {X:Cx}{U:aa7}{σ:St}{H:Hp}{s:ab5}{e:Addr}{oe:Obj}
def Of(o:X.Ok):(X.vU e oe).Ok :=⟨o.mod,o.kind,o.glob,o.blt,o.above,o.inj,o.has,o.JG,λz=>Bool.noConfusion z,o.frames,o.K6,o.Pb,o.bs,o.xW,o.ud,o.wm,o.i_,o.Ge⟩
def Jv(I:aa4)(h:aC1/\H e=none/\e≠X.env.locals/\e∉X.fs/\∀v,oe.data≠ .cell v):aA1:=
 ⟨Of I.ok,I.os,arQ,aA3,I.loc,ayO,atZ,I.c8,λp hp=>by
  rcases aat.mp hp with rfl|hp
  .exact h
  .exact I.pin p hp,I.aJ,I.len⟩
def BJ(o:X.Ok)(I:aA1):aa4:=
 ⟨o,I.os,arQ,aA3,I.loc,ayO,atZ,I.c8,λp hp=>I.pin p (akQ hp),I.aJ,I.len⟩
def BK(I:aa4)(hN:akh)(hi:X.N[i]?=some x)(hx:X.env.scope.names.lookup x=some .local)
  (h:∀s',Inv X U (σ.set i none) H s'->Q () s'):wpAny M A (do bindName X.env x .none;unbindBehindTheSuite X.env x pos) Q E s:=by
 obtain⟨m,hn,hl⟩:=id I.loc;refine wpAny_nameGoes_keeps hx hn (by rw[I.ok.kind];rfl) λh' v Pk hs=>?_;obtain⟨oL,_,_,x_,_⟩:=id hn;have Ca:=I.Ca;have old:∀b o,ams->X.env.locals≠b:=λb o q z=>absurd (aaj aDR I.ok.above) (by rw[z];exact abi _);have SG:∀b,X.env.locals≠b->h'.get? b=s.heap.get? b:=λb z=>hs.2 b (abF z);have aJ:gC X.prog X.w H h':=λb ob q=>by
  refine(I.aJ b ob q).mG (λc w' hc z=>(SG c ?_).trans z) (λ_ z=>z) λ_ _ z=>z;rintro rfl;rcases hc with rfl|hc
  .rw[I.free]at q;cases q
  .rw[I.free]at hc;cases hc
 refine h _ ⟨I.ok,I.os,arQ,⟨λb o q n hb hx=>?_,λb o q n hb hx=>?_,aGH,λb o q hx=>?_,I.base.kQ,I.base.fY,I.base.kS⟩,⟨_,Pk,λj y v' e1 e2 e3=>?_⟩,λy c q=>?_,atZ,I.c8,λp hp=>?_,aJ,by simpa using I.len⟩
 .exact(SG b atn).trans (anG q)
 .obtain⟨sl,z⟩:=I.base.slot b o q n hb hx;exact⟨sl,(SG b atn).trans z⟩
 .obtain⟨o',z⟩:=I.base.there b o q hx;exact⟨o',(SG b atn).trans z⟩
 .by_cases hj:j=i
  .subst hj;rw[List.getElem?_set]at e2;simp at e2
  .rw[aaT (abF hj)]at e2;obtain⟨u',r',q⟩:=hl j y v' e1 e2 e3;refine⟨u',r',?_⟩;rcases q with⟨k,q⟩|⟨k,c,q,z⟩
   .have ny:y≠x:=λz=>hj (nF hN e1 (z▸hi));exact .inl ⟨k,by simp[ny,q]⟩
   .exact .inr ⟨k,c,q,aBb⟩
 .obtain⟨w',z⟩:=I.cell y c q;exact⟨w',aBb⟩
 .obtain⟨q,n,ne,nf,d⟩:=I.pin p hp;exact⟨(SG p.1 (abF ne)).trans q,n,ne,nf,d⟩
end
noncomputable def Cx.BL(X:Cx)(C:Addr)(U:aa7)(E:XK):Cx:={X with pn:=X.pn++U,xe:=λe s'=>∃σ H1 s1,Inv X U σ H1 s1/\kJ X.prog X.w C X.stack H1 s1 E e s'}
section
variable {X:Cx}{U:aa7}{C:Addr}{E:XK}
def Fw(I:aa4):Inv aBQ [] σ H s:=
 ⟨ahO,I.os,arQ,aA3,I.loc,ayO,atZ,I.c8,λp hp=>I.pin p (by rwa [abm]at hp),I.aJ,I.len⟩
def xS:nN au8 aBQ E:=λqs σ H s e s' I h=>⟨σ,H,s,
 ⟨ahO,I.os,arQ,aA3,I.loc,ayO,atZ,I.c8,λp hp=>I.pin p (axN hp),I.aJ,I.len⟩,h⟩
end
def Fx{ts:Addr->TS}{tb:XK->TS}{body:alh}
  (W6:∀U E,jE aBQ body (tb E)) (SH:aCE) (SI:axu)
  (tZ:X.mg xb=some aE8) (hex:PySem.W.exmOne X.K ai1 aE8=some true) (W7:Gl X xb) (hdx:(xb==("__debug__":Str))=false)
  (hN:akh) (hi:X.N[i]?=some n) (Og:X.env.scope.names.lookup n=some .local)
  (hs:∀a oe vs,as2->jE anC (b0::SJ) (ts a)):
  PS X (.Try body [.ExceptHandler (aku (.Name xb xp)) (aku n) (b0::SJ) hp] [] [] tp)
   (λD σ H=>tb (λev _ H2=>∃a,ev= .ref a/\∀τ:St,τ.length=X.N.length->ts a ⟨λ_ _=>False,D.rt,λ_ _=>False,λ_ _=>False⟩ (τ.set i aiz) H2) ⟨λ_ _=>False,λ_ _=>False,λ_ _=>False,λ_ _=>False⟩ σ H):=by
 intro U s σ H D I h;refine wpAny_Try_except (abJ (W6 U _ [] s σ H _ (Fw I) h) (λf s1 q=>?_) λee s' hq=>?_)
 .cases f with
  |next=>obtain⟨_,_,_,z⟩:=q;exact z.elim
  |brk=>obtain⟨_,_,_,z⟩:=q;exact z.elim
  |cont=>obtain⟨_,_,_,z⟩:=q;exact z.elim
  |ret u=>obtain⟨_,_,_,_,_,z⟩:=q;exact z.elim
 .obtain⟨σ,H1,s1,I1,⟨a,a0,H',B,rfl,As,vS,un,aJ,Jw,T9,Y0,W8,Jt⟩,Fy⟩:=hq;obtain⟨_,ea,SK⟩:=W8;cases ea;have SK:=SK σ I1.len;have l0:=Fy a rfl;have back:∀h3:Heap,B.StaysIn h3->aEJ->Inv X U σ H' {s' with heap:=h3}:=λh3 st up=>vQ (t':=s'.toks) I1 As vS un aJ Jw.2.2.1 Jt st up;rw[SH]at Jw;have wU:X.A.frames=some (X.env::X.outer):=by rw[I.ok.frames,SH]
  show wpAny _ _ (noteFrame ab_ X.env) _ _ s';refine abJ (ik (z_ _ _) (E:=X.xe) (E':=λ_ _=>True) (Q:=λ_ s4=>∃h4,s4={s' with heap:=h4}/\Heap.HeldW B (X.env::X.outer) a ai1 a0 X.env.locals h4/\s'.heap.UpToSlots h4)
   (wpAny_looks_onW wU SI Jw λh4 Fz T_=>⟨h4,rfl,Fz,T_⟩) (rA wU Jw.2.2.1 SI l0)) (λ_ s4 x4=>?_) λ_ _ x=>x.1
  obtain⟨⟨h4,rfl,Fz,T_⟩,l4⟩:=x4;refine abJ (ik (l7 _) (E:=X.xe) (E':=λ_ _=>True) (Q:=λ_ s5=>∃h5,s5={s' with heap:=h5}/\Heap.FlyingW B (X.env::X.outer) a ai1 a0 h5/\h4.UpToSlots h5)
   (wpAny_landsW Fz λh5 Jx Ua=>⟨h5,rfl,Jx,Ua⟩) (fc l4)) (λ_ s5 x5=>?_) λ_ _ x=>x.1
  obtain⟨⟨h5,rfl,Jx,Ua⟩,l5⟩:=x5;have I5:=back h5 Jx.1 (T_.trans Ua);refine wpAny_handleBy_cons (codeAny_handlers_test ?_) (by intro z;cases z);refine aef I.ok.kind W7 (Calls.loadGlobal_global (by rw[I.ok.glob];exact I.mod.glob.keeps I5.bk) tZ ?_) hdx;have LT:PySem.W.Looks aa6 h5 (typeOf ab_) ai1:=by
   obtain⟨o,F6,_,_,_,q1,q2,_⟩:=l5;exact q2.cls▸(PySem.W.Looks.ld q1).andThen .now
  refine(PySem.W.exm_one I5.FO LT hex).here ?_;refine codeAny_handlers_suite_as ?_;refine abJ (ik (l7 _) (E':=λ_ _=>True) (Q:=λ_ s6=>∃h6,s6={s' with heap:=h6}/\Heap.FlyingW B (X.env::X.outer) a ai1 a0 h6/\h5.UpToSlots h6)
   (lands_againW Jx λh6 Oh W9=>⟨h6,rfl,Oh,W9⟩) (fc l5)) (λ_ s6 x6=>?_) λ_ _ x=>x.1
  obtain⟨⟨h6,rfl,Oh,W9⟩,l6⟩:=x6;have I6:=back h6 Oh.1 ((T_.trans Ua).trans W9);obtain⟨oe,F6,_,_,_,q1,q2,_⟩:=l6;have W_:h6.get? a=some oe/\H' a=none/\a≠X.env.locals/\a∉X.fs/\∀v,oe.data≠ .cell v:=by
   refine⟨q1,T9,λz=>?_,λz=>?_,λv z=>by rw[q2.data]at z;cases z⟩
   .obtain⟨m,⟨o',wo,JH,xX,jC,_⟩,_⟩:=I6.loc;have:h6.get? a=some o':=by rw[z];exact xX
    rw[q1]at this;cases this;rw[q2.data]at jC;cases jC
   .obtain⟨_,o',xX,Ft⟩:=I6.i_.mem z;have:h6.get? a=some o':=xX;rw[q1]at this;cases this;exact Ft _ q2.data
  refine kT (X:=X.vU a oe) (Jv I6 W_) hN hi (akN Og) (v:= .ref a) rfl (λs7 I7 _=>?_) (ant Og);refine abJ (hs a oe F6 q2 U s7 _ H' _ I7 SK) (λf s8 hf=>?_) λ_ _ z=>z.elim;cases f with
  |ret u=>
   obtain⟨v,Qg,H8,I8,rv,W8⟩:=hf;exact BK (BJ I.ok I8) hN hi Og λs9 I9=>⟨v,_,H8,I9,rv,W8⟩
  |next=>obtain⟨_,_,_,z⟩:=hf;exact z.elim
  |brk=>obtain⟨_,_,_,z⟩:=hf;exact z.elim
  |cont=>obtain⟨_,_,_,z⟩:=hf;exact z.elim
section
variable {P:ac7}{w:World}{K:ay}{mg:Str->Option Value}{base:Heap}{N:ac_}{qual:Str}{scope:Scope}{f C:Addr}{cd:Value}{A:ahp}{outer:amB}{s0:ab5}{H0:Hp}{E:XK}
def BM{U:aa7}{σ:St}{H1:Hp}{s1 s':ab5}{ee:Value}(I1:Inv af0 U σ H1 s1)
  (hq:kJ P w C (dH ak8 P w K mg base N qual scope f cd A outer s0 H0 E).stack H1 s1 E ee s'):(dH ak8 P w K mg base N qual scope f cd A outer s0 H0 E).xe ee s':=by
 obtain⟨⟨a,a0,H',B,rfl,As,vS,un,aJ,Jw,T9,Y0,hE,Jt⟩,Fy⟩:=hq;have I':Inv af0 U σ H' s':=vQ (t':=s'.toks) I1 As vS un aJ Jw.2.2.1 Jt Jw.1 (Heap.UpToSlots.refl _);have mI:(dH ak8 P w K mg base N qual scope f cd A outer s0 H0 E).stack =envOfC qual scope s0.heap.objs.size f cd::outer:=rfl;rw[mI]at Jw;obtain⟨f1,f2,f3,oe,vs,T,oT,ts,he,⟨hc,h0⟩,hd,h1,Y1,hTe,hT,Y2,h3⟩:=Jw;have OX:alo:=rfl;have Y3:T∉eG (envOfC qual scope s0.heap.objs.size f cd::outer):=λz=>by
  obtain⟨_,o',q,n⟩:=f3.mem z;rw[hT]at q;cases q;exact n ts Y2
 have HT:H' T=none:=by
  cases q:H' T with
  |none=>rfl
  |some u=>
   have z:=Jt T oT hT Y3 (.inl (by rw[q];intro z;cases z));rw[Y1]at z;cases z
 have sT:s1.heap.get? T=none:=by
  cases q:s1.heap.get? T with
  |none=>rfl
  |some u=>
   have z:=Jt T oT hT Y3 (.inr (by rw[q];intro z;cases z));rw[Y1]at z;cases z
 have old:∀b o,aof->b≠a/\b≠T:=λb o q=>by
  obtain⟨o',z⟩:=I1.base.there b o q (λz=>nomatch z);refine⟨λy=>?_,λy=>?_⟩
  .rw[y,Y0]at z;cases z
  .rw[y,sT]at z;cases z
 have xQ:∀b o,aof->b∉eG outer->b∉eG (envOfC qual scope s0.heap.objs.size f cd::outer):=λb o q hb z=>by
  rw[OX]at z;rcases aat.mp z with z|z
  .exact absurd aDR (by rw[z];exact abi _)
  .exact hb z
 have Ah:∀b,aGJ->b∉eG (envOfC qual scope s0.heap.objs.size f cd::outer)/\b≠a/\b≠T:=λb hb=>⟨λz=>hb (I'.jD b z),λz=>hb (by rw[z];exact T9),λz=>hb (by rw[z];exact HT)⟩;have out:∀{b:Addr},b∉eG (envOfC qual scope s0.heap.objs.size f cd::outer)->b≠a->b≠T->b∉a::T::eG (envOfC qual scope s0.heap.objs.size f cd::outer):=λh1 h2 h3 z=>by
  rcases aat.mp z with z|z
  .exact h2 z
  .rcases aat.mp z with z|z
   .exact h3 z
   .exact h1 z
 have Xa:Heap.FlyingW (pO (a::T::eG (envOfC qual scope s0.heap.objs.size f cd::outer)) s'.heap) (envOfC qual scope s0.heap.objs.size f cd::outer) a ai1 a0 s'.heap:=
  ⟨mF _ _,by rw[bV,aaB aaq],l9 f3 λb hb=>aal _ aqJ,oe,vs,T,oT,ts,he,⟨hc,h0⟩,hd,h1,by rw[bV,aaB (akQ aaq)],hTe,hT,Y2,h3⟩
 have wU:(A.deeper af3).frames =some (envOfC qual scope s0.heap.objs.size f cd::outer):=I1.ok.frames;show wpAny akp (aws af3) aF1 (λ_ mJ=>kJ P w C outer H0 s0 E ab_ mJ) (λe' mJ=>alw) s';have hl:wpAny akp (aws af3) aF1 (λ_ mJ=>mE mJ.heap a C) (λ_ _=>True) s':=by
  unfold leaving;exact aag (abJ (rA wU f3 rfl (Fy a rfl)) (λ_ _ x=>fc x) λ_ _ z=>z)
 refine abJ (ik (pM _ _) (E:=λe' mJ=>alw) (E':=λ_ _=>True) (Q:=λ_ mJ=>W4 P w C outer H0 s0 E ab_ mJ) ?_ hl) (λ_ mJ x=>⟨x.1,λb q=>by cases q;exact x.2⟩) λ_ _ x=>x.1;refine wpAny_leaves_onW wU rfl Xa λFX fl up=>?_;have kp:∀b o,b∉eG (envOfC qual scope s0.heap.objs.size f cd::outer)->b≠a->b≠T->aog->arR:=λb o n1 n2 n3 q=>fl.1 b o (by rw[bV,aaF (out n1 n2 n3)];exact q);have sl:∀b o,b∈eG outer->aog->∃sl,FX.get? b=some {o with slots:=sl}:=λb o hb q=>up b o q (by
  have jd:b∈eG (envOfC qual scope s0.heap.objs.size f cd::outer):=by rw[OX];exact aal _ hb
  obtain⟨_,o',z,n⟩:=f3.mem jd;rw[q]at z;cases z;exact n)
 refine⟨a,a0,H',_,rfl,I'.os,I'.bare,⟨λb o q n hb hx=>?_,λb o q n hb hx=>?_,I'.base.free,λb o q hx=>?_,I'.base.kQ,I'.base.fY,I'.base.kS⟩,I'.aJ.off λb u hb q=>kp b u (Ah b hb).1 (Ah b hb).2.1 (Ah b hb).2.2 q,fl,T9,?_,hE,λb o q hb uW=>?_⟩
 .exact kp b o at5 (old b o q).1 (old b o q).2 awX
 .obtain⟨s1',z⟩:=I'.base.slot b o q n hb hx;obtain⟨Y4,z'⟩:=sl b _ hb z;exact⟨Y4,z'⟩
 .obtain⟨o',z⟩:=I'.base.there b o q hx;by_cases hb:b∈eG outer
  .obtain⟨Y4,z'⟩:=sl b _ hb z;exact⟨_,z'⟩
  .exact⟨o',kp b o' at5 (old b o q).1 (old b o q).2 z⟩
 .cases q:s0.heap.get? a with
  |none=>rfl
  |some o=>exact absurd rfl (old a o q).1
 .obtain⟨o1,q1,n1,n2,n3⟩:∃o1,s'.heap.get? b=some o1/\b∉eG (envOfC qual scope s0.heap.objs.size f cd::outer)/\b≠a/\b≠T:=by
   rcases uW with uW|uW
   .cases z:H' b with
    |none=>exact absurd z uW
    |some u=>
     obtain⟨ob,OW⟩:=(I'.aJ b u z).obj;exact⟨ob,OW,Ah b uW⟩
   .cases z:s0.heap.get? b with
    |none=>exact absurd z uW
    |some u=>
     obtain⟨o',y⟩:=I'.base.there b u z (λz=>nomatch z);exact⟨o',y,xQ b u z hb,(old b u z).1,(old b u z).2⟩
  have q2:arR:=q;rw[kp b o1 n1 n2 n3 q1]at q2;cases q2;rw[bV,aaF (out n1 n2 n3)];exact q1
end
end L2
namespace Py
open PySem L2 PyProof.Rows
noncomputable def F9(K:ay)(n:Nat)(d:Fd)(F:FT)(c:E):Sp:=λvs H Q E=>∃(O:Addr->Prop) (ds:ac1),(∀a,O a->∃u,al1/\tW u)/\ac5/\ayr/\vs.length=n/\(ev F false c ayw).bind eI=some true/\∀e H',aiX->E ajd none H'
section
variable {P:ac7}{w:World}{K:ay}{mg:Str->Option Value}{base:Heap}{G:GT}{T:aBW}
def BN{st:Stmt}{fa C:Addr}{aT:alh}
  (hb:∀x∈gn,aC9) (qx:∀(x:Str) (i:Int),apb->∃t,al_) (ih:anJ) (F:aqR) (S:arh)
  (jI:bD st= .If ce [.Raise (aku (atL (.Name xc np))) none rp] [] ipz::aT) (okc:bE G c N ah1 ce=true) (tc:D1 c=true)
  (O:OwnCls xc C bm newId mg base) (FB:azl) (hg:∀X:Cx,X.env.scope=af st->Gl X xc) (yf:(xc==("__debug__":Str))=false) (l1:asr) (l2:aBV):
  eL P w K mg base ak8 (n+1) fa fd ps (F9 K ps.length d aiT c):=by
 obtain⟨oc,od,kV,gJ,pm,an,du,ct,Cq,rfl,lk,nG⟩:=F.ex;refine Cp lk nG S (λvs H Q E ⟨_,_,_,_,_,q,_⟩=>q) λA outer s H vs Q E hr BX=>?_;obtain⟨O',ds,hO,hR,q1,_,Xb,hE⟩:=BX;have KQ:anq:=by
  refine⟨rfl,hr.units,hb,qx,λg y hy=>?_⟩;obtain⟨ga,gd,NO,G1,G2,G3,G4,G5⟩:=ih g y hy;exact⟨n,ga,gd,NO,G1,hr,G2,G3,G4,G5⟩
 have hT:=((snd c).t _ KQ ce okc tc).pZ;have hx:=kz (K:=K) (N:=N) (d:=d) hO hR q1 l2;rw[jI];refine⟨_,bA (u:=λ_ _ _=>False) (ug hT (jF (Fu O FB (hg _ rfl) yf)) ir) (λ_ _ _ _ _ _ z=>aAy),?_⟩;exact⟨_,_,true,hx.ex,Xb,λH' s1=>jP λe=>hE e H' s1⟩
end
end Py
namespace eQ
open Py iH
section
variable {s:Nat}{F:FT}
def xT(xs:ac1)(k:Nat):v5 xs none (aku (k:Int))=xs.take k:=by
 unfold v5 bound;simp only[adK,ahn];rw[aaF (by lia),show(min (k:Int) (xs.length:Int)).toNat =min k xs.length by lia];exact List.take_eq_take_min.symm
noncomputable abbrev TW(m:Int)(sc:ab4)(s:Nat)(ps qs:ab3)(k:Int):Env:=[sc,aAB,avF,vf ac3,awy,aoK]
noncomputable def Y5(s:Nat)(o:asH):Prop:=∃ps qs:ab3,o=some (ak6 (akJ [ahz,ac3,.tup anz]))/\anU/\awz/\(∀p∈ps,aio)/\∀p∈qs,p∈perms s
def Aa{ps:ab3}{i:Int}{j:Nat}(h:place (ps.map tp).length i=some j)(hj:j<ps.length):∃q∈ps,item ac3 ahH=some (tp q):=by
 refine⟨ps[j],acL hj,?_⟩;show(place (ps.map tp).length i).bind (λj=>(ps.map tp)[j]?)=_;rw[h];show(ps.map tp)[j]?=_;rw[aaC,aai hj];rfl
def FA{ps qs:ab3}(Ub:∀p∈perms s,∀q∈perms s,ahE)(dq:anU)(Jy:awz)(hp:∀p∈ps,aio)(hq:∀p∈qs,aio):Y5 s (ex F YR aty):=by
 have e1:ev F false (ax7 avy) aty=some (.bl (k==2)):=rfl;have e2:ev F false aw3 aty=some (.bl (!ps.isEmpty)):=by
  refine B7 (a:= .var 3) (x:= .tup anA) (c:= .tup .nil) (y:= .tup []) rfl rfl ?_;show(if(gH ac3 60&&gH (akJ []) 60)=true then some (!pV ac3 (akJ [])) else none)=_;rw[show gH ac3 60=true from fV 58 ps];cases ps<;>rfl
 cases hb:k==2 with
 |false=>rw[hb]at e1;exact⟨ps,qs,xN (YI e1) rfl,dq,Jy,hp,hq⟩
 |true=>
  rw[hb]at e1;cases ps with
  |nil=>exact⟨[],qs,xN (Se e1 (YI e2)) rfl,dq,Jy,hp,hq⟩
  |cons p r=>
   obtain⟨p1,h1,i1⟩:=Aa (ps:=p::r) (i:=0) (lR (k:=0) ab1) ab1;obtain⟨q,h2,i2⟩:=Aa (ps:=p::r) (i:= -1) (j:=r.length) (by unfold place;rw[aap,aaL,aaF aa1,aaB aa3];congr 1;omega) ab1;exact⟨p::r,[comp p1 q],xY (Se e1 (Se e2 rfl)) (xA (tp1 (av (cf i1 i2) (Ub p1 (hp p1 h1) q (hp q h2)) (aw _))) rfl) rfl,dq,by simp,hp,λu hu=>by rw[aar.mp hu];exact cZ (hp p1 h1) (hp q h2)⟩
def Oi{ns:aa0}{ps qs:ab3}(Uc:∀k:Nat,k<1000->F 18 [ae1,af_]=some axp){m:Int}(hm:0<m)(hs:1+wj ns 0%m=(s:Int))(a1:F 21 [.int (wj ns 1),ahz]=some ac3)(a2:F 21 [.int (wj ns 2),ahz]=some (akJ anz))
  (nl:∀ps:ab3,aF ac3=true) (Ub:∀p∈perms s,∀q∈perms s,ahE) (dq:anU) (Jy:awz) (hp:∀p∈ps,aio) (hq:∀p∈qs,aio):Y5 s (ex F OV.body aCz):=by
 have go:∀{c r},ex F c (TW m aFB s ps qs (wj ns 3%3))=r->ex F (anQ (am1 (amD (aoa c)))) aCz=r:=λ{c r} h=>
  xA (d:= .int s) (by rw[<-hs];exact EH rfl (Bq (arD (Uc 0 aa1)) rfl hm)) (xA (av (cf (arD (Uc 1 aa1)) rfl) a1 (nl ps)) (xA (av (cf (arD (Uc 2 aa1)) rfl) a2 (nl qs)) (xA (Bq (arD (Uc 3 aa1)) rfl aa1) h)))
 generalize wj ns 3%3=k at go;have s5:ev F false (ax8 aoY) (TW m aFB s ps qs k)=some (.bl (k==1)):=rfl;cases hb:k==1 with
 |false=>
  rw[hb]at s5;obtain⟨SN,Xc,e,q⟩:=FA (m:=m) (sc:=vf ae1) (k:=k) Ub dq Jy hp hq;exact⟨SN,Xc,go (xN s5 e),q⟩
 |true=>
  rw[hb]at s5;obtain⟨SN,Xc,e,q⟩:=FA (m:=m) (sc:=vf ae1) (k:=k) (ps:=(ps++qs.take 1).take 6) (qs:=qs.take 1) Ub (afA _ _) (akH (afA _ _)) (λp h=>Jn hp (λu hu=>hq u (abS hu)) p (abS h)) λp h=>hq p (abS h);refine⟨SN,Xc,go (xY s5 (xA (d:= .tup aCM) ?_ (xA (d:= .tup (((ps++qs.take 1).take 6).map tp)) ?_ rfl)) e),q⟩
  .show some (D.tup (v5 anz none (aku ((1:Nat):Int))))=_;rw[xT,aeF]
  .rw[XO,EG (x:= .tup anA) (y:= .tup aCM) rfl rfl];show(if(ps.map tp).length+((qs.take 1).map tp).length <=bW then some (D.tup (ps.map tp++(qs.take 1).map tp)) else none).bind _=_;rw[aaB (by rw[aap,aap];exact aam (aek dq (afA _ _)) aa1),<-abd];show some (D.tup (v5 ((ps++qs.take 1).map tp) none (aku ((6:Nat):Int))))=_;rw[xT,aeF]
noncomputable def pR:List ab3:=[[[1,0,2,3,4,5],[0,1,3,2,5,4]],[[1,2,0,4,5,3],[3,4,5,0,1,2]],[[1,2,3,4,5,0]],[[1,2,3,4,5,0],[5,4,3,2,1,0]],[[1,2,0,3,4,5],[0,1,2,4,5,3],[1,0,2,3,4,5]]]
def Oj:pR.all (λps=>decide anU&&ps.all λp=>decide (p∈perms 6))=true:=by decide +kernel
noncomputable abbrev BO(ps:ab3):D:= .tup anA
def Ol(a:Int):∃ps:ab3,ex F N3.body (ao N3 [at0])=some (ak6 ac3)/\anU/\∀p∈ps,p∈perms 6:=by
 have g0:0<=a%5:=acH _ aa1;have g1:a%5<5:=acI _ aa1;obtain⟨j,hj⟩:∃j:Nat,a%5=j:=⟨(a%5).toNat,(acz g0).symm⟩;have aU:j<5:=by omega
 have hr:pR[j]?=some pR[j]:=aai aU;have hm:=abZ.mp Oj _ (acL (l:=pR) (n:=j) aU);rw[aak,decide_eq_true_eq,abZ]at hm;refine⟨pR[j],?_,hm.1,λp hp=>of_decide_eq_true (hm.2 p hp)⟩;have e:ex F N3.body (ao N3 [at0])=(ex F auP [vf (al6 a),aED]):=rfl;rw[e];have m1:ev F false (akK apQ) [vf (al6 a),aED]=some (al6 j):=by
  rw[<-hj];exact Bq (i:=a) rfl rfl aa1
 refine xR ?_;rw[LW,m1];show(place (pR.map BO).length (j:Int)).bind (λj=>(pR.map BO)[j]?)=_;rw[lR (show j<(pR.map BO).length from aU)];show(pR.map BO)[j]?=_;rw[aaC,hr];rfl
end
section
variable {s n:Nat}{F:FT}
theorem kL{α γ:Type}{c:C}{i:Nat}{h:α->D}{E:ahB->γ->Env}{all:ahB}(step:∀pre x post y,axo->∃y',ex F c (put (E pre y) i false (h x))=some (akC (E (pre++[x]) y'))):∀{pre post:ahB} (y:γ),all=pre++post->
  ∃y',a_ (λx ρ=>(aH 0 x).bind λys=>(de ρ [i] ys).bind λρ'=>ex F c ρ') (post.map h) (E pre y)=some (akC (E all y'))
 |pre,[],y,e=>⟨y,by rw[e,abm];rfl⟩
 |pre,x::post,y,e=>by
  obtain⟨y1,s1⟩:=step pre x post y e;obtain⟨y2,s2⟩:=kL step (pre:=pre++[x]) (post:=post) y1 (by rw[e,aaZ];rfl);exact⟨y2,(mC s1).trans s2⟩
def FC(h:ev F false e ρ=some (akx zs))(h2:gD ρ i=some ws)(hl:ws.length+zs.length<=bW):ex F aGV ρ=some aiW:=by
 rw[Qp,h];show(gD ρ i).bind _=_;rw[h2];exact aaB hl
def tN{xs:ab3}{g:aa0->List Int}(h1:alI)(h2:seq d=some anx)(hl:am3)(hc:∀x∈xs,ev F false el (akw [tp x])=some (tp (g x))):ev F b aoG ρ=some (akx ((xs.map g).map tp)):=by
 rw[fT h1 h2 hl hc,abc];rfl
def FD{f:α->List β}{all pre post:ahB}{x:α}(e:axo)(h:(all.flatMap f).length <=k):(pre.flatMap f).length+(f x).length <=k:=by
 rw[e,aha,aee,aau,aau]at h;omega
def BP{f:α->List β}{pre:ahB}{x:α}:(pre++[x]).flatMap f=pre.flatMap f++f x:=by
 rw[aha,aee,List.flatMap_nil,abm]
def xU{all pre post:ahB}{x:α}(e:axo):x∈all:=e▸aaJ _ aaq
noncomputable abbrev OE(x0:ab4)(o:Bool)(ts:ab3)(x2 x3 x4:ab4):Env:=[x0,some (o,.lst (ts.map tp)),x2,x3,x4]
def SO(ht:∀p∈perms s,∀q∈perms s,ab7)(SK:∀t∈ts,ahu)(hl:ts.length<=1000){R:arO}(hR:∀e∈R,ard)(hb:(R.flatMap λe=>ts.map λw=>av9).length <=10000):
  ∃y4,a_ (λx ρ=>(aH 0 x).bind λys=>(de ρ [4] ys).bind λρ'=>ex F YO ρ') auB (OE x0 o ts x2 aCA x4)=some (akC (OE x0 o ts x2 (some (true,.lst ((R.flatMap λe=>ts.map λw=>av9).map tp))) y4)):=by
 refine kL (E:=λ(pre:Rg (List Int)) y=>OE x0 o ts x2 (aku (true,.lst ((pre.flatMap λe=>ts.map λw=>av9).map tp))) y) (λpre e post y h=>?_) (pre:=[]) x4 rfl;have hf:=FD h hb;have hc:ev F false YN (OE x0 o ts x2 (aku (true,.lst ((pre.flatMap λe=>ts.map λw=>av9).map tp))) (vf (pairD e)))=some (akx ((ts.map λw=>av9).map tp)):=
  tN (d:= .lst (ts.map tp)) (by cases o<;>rfl) rfl (akH hl) λw hw=>av af8 (ht w (SK w hw) _ (hR e (xU h))) (aw _)
 refine⟨some (false,pairD e),xG (FC hc rfl ?_) ?_⟩
 .rw[aap,aap];exact aam hf aa1
 .rw[BP,abd];rfl
def FF(h1:1<=s)(h6:s<=6)(mI:F 0 [ahz]=some ahR)(ht:∀p∈perms s,∀q∈perms s,ab7)(hv:ajP):
  ex F d9.body (ao d9 [aQ l])=some (ak6 (akJ ((bN.bB (aAt l)).map tp))):=by
 have aG:l.length=s:=by have:=VL.len hv;rw[abI]at this;exact this
 have e1:ev F false (.call 0 (.o (akF (.u 0)))) (ao d9 [aQ l])=some ahR:=by
  refine av (ie (x:= .int s) ?_) mI (aw _);show some (D.int ((l.map br).length :Nat))=_;rw[aap,aG]
 obtain⟨⟨o,y2,y3,y4⟩,h2⟩:=kL (F:=F) (c:=YQ) (i:=2) (h:=br) (all:=l.reverse) (E:=λ(pre:List (Rg (List Int))) (y:Bool×Option (Bool×D)×Option (Bool×D)×Option (Bool×D))=>OE (vf (aQ l)) y.1 (aAt pre.reverse) y.2.1 y.2.2.1 y.2.2.2) (λpre R post y h=>by
  have e0:l=post.reverse++R::pre.reverse:=by rw[<-agP l,h,ahb,List.reverse_cons,aaZ];rfl
  have Xd:VL (pg s) (R::pre.reverse) (0+post.reverse.length):=by
   have:=VL.drop post.reverse.length hv (by rw[e0,aau];exact aaM _ _);rwa [e0,List.drop_left]at this
  have hl:=Xd.2.2;obtain⟨z4,i1⟩:=SO ht (x0:=vf (aQ l)) (x2:=vf (br R)) (x4:=y.2.2.2) (o:=y.1) (λt h=>(H.good aE hl (ju.mp h)).1) (akH (Fh h6 hl)) (R:=R) (λe he=>(Xd.1.st e.1 e.2 he).1) (akH (Fh h6 Xd));refine⟨amH,xB (xs:=[]) rfl (xG i1 ?_)⟩;show _=some (mh.next (OE _ _ (TL (pg s) (pre++[R]).reverse) _ _ _));rw[ahb];rfl) (pre:=[]) (true,none,none,none) rfl
 rw[agP]at h2;refine xB (xs:=[ahR]) (by rw[Vr,ie e1];rfl) (xG (ρ':=OE (vf (aQ l)) o (aAt l) y2 y3 y4) ?_ (xR (KA (Jo (λt h=>tK h1 (H.good aE hv (ju.mp h)).1) (by cases o<;>rfl)) rfl)));rw[L4];show a_ _ ((l.map br).reverse) _=_;rw[<-List.map_reverse];exact h2
def FG(h1:1<=s)(h6:s<=6)(k:apu):run T (n+2) 9 [amr]=some (akJ ((bN.bB (aAt ac0)).map tp)):=xO (fd:=d9) rfl rfl (FF h1 h6 (Fo h6) aC_ k.v)
end
end eQ
namespace L2
open PySem PySem.Spec PyProof.Rows
section
variable {X:Cx}{a C:Addr}{oe:Obj}{vs:ae2}
def Ab(I:Inv anC U σ H s)(lo:as2):PySem.W.InstAt s.heap a oe C none:=by
 obtain⟨q,_⟩:=I.pin (a,oe) (axN aaq);refine⟨q,lo.cls,?_,by rw[lo.dict];trivial⟩;unfold PySem.W.notCls;rw[lo.data]
def FH(lo:as2)(x:kK X.K C)(hy:∀u,amz->u=c)(hk:awe):cu anC (.builtin "isinstance") (λxs H Q=>xs=[ab_,y]/\Q aAm H):=by
 intro U s σ H xs us Q I r ⟨e,q⟩;subst e;obtain⟨u,u',rfl,rx,rt⟩:=vals2 r;have e1:u= .ref a:=rx;have e2:=hy _ rt;subst e1 e2;exact PySem.W.kia_one (Fv (o:=oe) x) I.FO (Ab I lo) hk (λz=>nomatch z) λtk=>⟨.bl b,H,I.kept (t':=tk) λ_ _ z=>z,rfl,q⟩
noncomputable def Xe(i:Nat)(a:Addr)(b:Bool):TE:=λσ H Q=>σ[i]?=some aiz/\Q aAm H
def pT(lo:as2)(x:kK X.K C)(hy:∀u,amz->u=c)(hk:awe)(hi:X.N[i]?=some n)(hv:vZ X.env.scope n)
  (hd:(n==("__debug__":Str))=false) (nG:(n==("__classdict__":Str))=false) (hg:Gl X "isinstance") (hm:X.mg "isinstance"=none) (hce:PE anC ce (tC y))
  (hs:∀env:Env,starEach [ce] env=(false,eval ce env)::starEach [] env):PE anC (.Call (.Name "isinstance" p) [awk,ce] [] pos) (Xe i a b):=by
 refine PE.weak (c9 (FH (y:=y) lo x hy hk) hg hm boot_isinstance (aX (bz (X:=X.vU a oe) hi hv hd nG) (aX hce b_ (hs _)) rfl) aa1 aa1 rfl (by rw[hs];rfl)) λσ H Q ⟨h1,h2⟩=>?_;exact⟨_,h1,rfl,h2⟩
def BQ(lo:as2):cu anC (.builtin "any") (λxs H Q=>∃(p:Addr) (bs:amX),am2/\cK X.K H p azR/\Q (.bl (bs.any id)) H):=by
 intro U s σ H xs us Q I r ⟨p,bs,e,hq,q⟩;subst e;obtain⟨u,rfl,rx⟩:=vals1 r;cases rx;obtain⟨its,rv,pl,hz⟩:=I.list hq;rw[rX rv]at pl;refine BH (e:=a) rfl ?_ pl.isList λh' tk hk=>⟨.bl _,H,I.kept (t':=tk) hk,rfl,q⟩;exact⟨oe,vs,(Ab I lo).at_,lo.data,lo.ctx⟩
end
def Jz:bootBuiltins "ValueError"=some (.type "ValueError"):=by decide +kernel
section
variable {X:Cx}{a C C1 C2 C3 C4:Addr}{oe:Obj}{vs:ae2}{i j:Nat}{n y c1 c2 c3 c4:Str}
def BR(lo:as2)(x:kK X.K C)(hN:akh)(hi:X.N[i]?=some n)(hv:vZ X.env.scope n)(hd:(n==("__debug__":Str))=false)(nG:(n==("__classdict__":Str))=false)
  (hj:X.N[j]?=some y) (hy:as9) (hyd:(y==("__debug__":Str))=false) (Xf:(y==("__classdict__":Str))=false) (v8:i≠j)
  (hg:Gl X "isinstance") (hm:X.mg "isinstance"=none) (hga:Gl X "any") (hma:X.mg "any"=none) (hgv:Gl X "ValueError") (WX:X.mg "ValueError"=none)
  (g1:Gl X c1) (m1:X.mg c1=some aFb) (d1:(c1==("__debug__":Str))=false) (k1:PySem.W.kitOne X.K ai1 aFb=some false)
  (g2:Gl X c2) (m2:X.mg c2=some aFa) (d2:(c2==("__debug__":Str))=false) (k2:PySem.W.kitOne X.K ai1 aFa=some false)
  (g3:Gl X c3) (m3:X.mg c3=some aE_) (d3:(c3==("__debug__":Str))=false) (k3:PySem.W.kitOne X.K ai1 aE_=some false)
  (g4:Gl X c4) (m4:X.mg c4=some aE9) (d4:(c4==("__debug__":Str))=false) (k4:PySem.W.kitOne X.K ai1 aE9=some true)
  (k5:PySem.W.kitOne X.K ai1 (.type "ValueError")=some true):
  jE anC [.Assign [als] (.List [.Call (.Name "isinstance" p1) [.Name n q1,.Name c1 r1] [] z1,.Call (.Name "isinstance" p2) [.Name n q2,.Name c2 r2] [] z2,.Call (.Name "isinstance" p3) [.Name n q3,.Name c3 r3] [] z3] lp) ap,
    .Return (aku (.BoolOp .And [.Call (.Name "isinstance" p4) [.Name n q4,.Name c4 r4] [] z4,.Call (.Name "isinstance" p5) [.Name n q5,.Name "ValueError" r5] [] z5,.UnaryOp .Not (aCm (.Name "any" anp)) np] bp)) rp]
   (λD σ H=>σ[i]?=some aiz/\∀p H',aj_->H'=upd H p aDI->D.rt ag3 H'):=by
 have own:∀{c:Str}{D:Addr}{r:Pos},Gl X c->X.mg c=some ajZ->(c==("__debug__":Str))=false->PE anC aGY (tC ajZ):=λg m d=>yb (X:=X.vU a oe) g m rfl d;have ry:∀{D:Addr} (u:Value),RelV ajZ u->u= .ref D:=λu z=>z;have rt:∀(u:Value),RelV (.ty "ValueError") u->u= .type "ValueError":=λu z=>z;have st:∀{c:Str}{r:Pos} (env:Env),starEach [aGY] env=(false,eval aGY env)::starEach [] env:=λ_=>rfl;have e1:=pT (p:=p1) (q:=q1) (pos:=z1) lo x ry k1 hi hv hd nG hg hm (own (r:=r1) g1 m1 d1) st;have e2:=pT (p:=p2) (q:=q2) (pos:=z2) lo x ry k2 hi hv hd nG hg hm (own (r:=r2) g2 m2 d2) st;have e3:=pT (p:=p3) (q:=q3) (pos:=z3) lo x ry k3 hi hv hd nG hg hm (own (r:=r3) g3 m3 d3) st;have e4:=pT (p:=p4) (q:=q4) (pos:=z4) lo x ry k4 hi hv hd nG hg hm (own (r:=r4) g4 m4 d4) st;have e5:=pT (p:=p5) (q:=q5) (pos:=z5) lo x rt k5 hi hv hd nG hg hm (Gg (X:=X.vU a oe) (v:= .ty "ValueError") (pos:=r5) hgv WX Jz rfl aa1 aa1) st;have e6:=c9 (p:=anp) (pos:=acp) (BQ (X:=X) (a:=a) lo) hga hma boot_any (aAs (bz (X:=X.vU a oe) (pos:=yp) hj (akN hy) hyd Xf)) aa1 aa1 rfl rfl;have s1:=fZ (X:=X.vU a oe) (pos:=ap) (pos':=py) hN hj (akN hy) (Cn (pos:=lp) (aX e1 (aX e2 (aAs e3) rfl) rfl)) rfl (ant hy);have s2:=rD (pos:=rp) (wq (pos:=bp) e4 (wq e5 (Cd (Ce (pos:=np) e6))));intro U s σ H D I h;refine bA s1 (jF s2) U s σ H D I ?_;obtain⟨h1,h2⟩:=h;have hl:j<σ.length:=by rw[I.len];exact(aax.mp hj).1
 have TK:∀p,(σ.set j aBI)[i]?=some aiz:=λp=>by rw[aaT (abF v8)];exact h1
 refine⟨h1,h1,h1,by decide,λp hp=>?_⟩;refine⟨TK p,true,rfl,?_⟩;rw[aaB rfl];refine⟨TK p,true,rfl,?_⟩;rw[aaB rfl];refine⟨ahG,by rw[aaR hl],p,[false,false,false],rfl,.inl (akN ag),false,rfl,h2 p _ hp rfl⟩
end
end L2
namespace Py
open PySem L2 PyProof.Rows
def Om{K:ay}{C:Addr}(X:K.In h)(hm:mg x=some ai1)(q:PySem.W.excIn K C bm nid=true):OwnCls x C bm nid mg h:=by
 refine⟨hm,?_⟩;unfold PySem.W.excIn at q;split at q
 rotate_left
 .cases q
 rename_i od cdt sls dm;split at q
 rotate_left
 .cases q
 rename_i Cz tl t0 t1 t2 t3 nn t5 SQ Y6;simp only[aak,beq_iff_eq,aed]at q;obtain⟨⟨⟨⟨⟨a1,a2⟩,a3⟩,a4⟩,a5⟩,a6⟩:=q;subst a1;subst a2;obtain⟨f1,f2,f3,f4,f5,f6,f7,f8,f9,f10,f11⟩:=cdt;dsimp only at SQ a3 a5 a6;subst SQ;subst a3;obtain⟨ll⟩:=sls;dsimp only at Y6;subst Y6;exact⟨tl,f4,f1,f5,f2,f6,f7,f8,f9,f10,od,t0,t1,t2,t3,t5,_,X _ _ dm,.of_isNs (PySem.W.isNs_of_in X a5),PySem.W.nsMap_none_of_in X a5 a6,PySem.W.tail_of_in X a4⟩
def JA{ps:ac_}(hT:T[f]?=some d)(l:asr)(ds:ac1)(r:D)(z:run T n f ds=some r):aul:=by
 cases n with
 |zero=>exact nomatch z
 |succ n=>exact(hU hT z).1.trans l.symm
end Py
namespace L2
open PySem PyProof.Rows
theorem PA.pZ{X:Cx}(h:PA X.pZ es t):aD2:=λpos U s σ H Q I hw=>
 abJ (h pos U s σ H Q (I.mH _) hw) (λ_ _ zz=>ba zz λv H' I' r q=>⟨v,H',I'.fg,r,q⟩) λ_ _ z=>False.elim z
end L2
namespace eQ
open PySem L2 PyProof.Rows Py
def FI{F:FT}:ev F b (anH f) (vf x::some (false,y)::ρ)=F f [x,y]:=by
 show(F f [x,y]).bind (λd=>if(false&&!aF d)=true then none else some d)=_;cases F f [x,y]<;>rfl
def KR(hT:T[f]?=some ⟨2,2,.seq aDM .skip⟩)(h:run T n f [x,y]=some r):∃m,n=m+1/\ev arU true e [vf x,vf y]=some r:=by
 cases n with
 |zero=>cases h
 |succ m=>
  have q:out (((ev arU true e [vf x,vf y]).map mh.ret).bind _)=some r:=(hU hT h).2;cases hv:ev arU true e [vf x,vf y]with
  |none=>rw[hv]at q;cases q
  |some v=>rw[hv]at q;exact⟨m,rfl,hv.trans q⟩
def JB(h:run T (n+1) 25 ds=some r):∃m x y z b,n=m+2/\ds=[x,y,z]/\(ev aiT false Sr (ao ql ds)).bind eI=some b/\(b=false->∃b1,(ev aiT false IY (ao ql ds)).bind eI=some b1)/\
  (ev arU false Bu (ao rn [x,y])).bind eI=some true/\r= .bl true:=by
 obtain⟨l,q⟩:=hU (d:=ql) rfl h;obtain⟨x,y,z,rfl⟩:=Sd l;have key:out (ex aiT aj6 aj1)=some r->∃m,n=m+2/\(ev arU false Bu (ao rn [x,y])).bind eI=some true/\r= .bl true:=λq=>by
  rw[rV,k9,show ev aiT false (anH 30) aj1=_ from FI]at q;cases e:run T n 30 [x,y]with
  |none=>rw[e]at q;cases q
  |some d=>
   rw[e]at q;cases d with
   |bl b=>
    cases b with
    |false=>cases q
    |true=>
     obtain⟨k,rfl,e1⟩:=KR rfl e;rw[FI]at e1;obtain⟨m,rfl,e2⟩:=KR rfl e1;exact⟨m,rfl,congrArg (Option.bind · eI) e2,(aaQ q).symm⟩
   |_=>cases q
 rw[show ql.body= .seq aEf _ from rfl,rV,k9]at q;cases e0:(ev aiT false Sr aj1).bind eI with
 |none=>rw[e0]at q;cases q
 |some b=>
  rw[e0]at q;cases b with
  |true=>
   obtain⟨m,a1,a2,a3⟩:=key q;exact⟨m,x,y,z,true,a1,rfl,rfl,λz=>Bool.noConfusion z,a2,a3⟩
  |false=>
   cases e1:(ev aiT false IY aj1).bind eI with
   |none=>
    rw[show(some false).bind (λk=>if k=true then _ else ex aiT ahS aj1)=ex aiT ahS aj1 from rfl,rV,k9,e1]at q;cases q
   |some b1=>
    rw[show(some false).bind (λk=>if k=true then _ else ex aiT ahS aj1)=ex aiT ahS aj1 from rfl,rV,k9,e1]at q;obtain⟨m,a1,a2,a3⟩:=key (by cases b1<;>exact q);exact⟨m,x,y,z,false,a1,rfl,rfl,λ_=>⟨b1,rfl⟩,a2,a3⟩
structure Cs(G:GT)(sc:Scope)(N:ac_)(s:Stmt)(fx:Str):Prop where
 g:dj sc fx=true
 d:(fx==("__debug__":Str))=false
 s:∃fp e0 el cp ep,s= .Expr atd ep/\dJ G ag1 N sc (e0::el)=true/\∀env:PySem.Env,starEach (e0::el) env=(false,eval e0 env)::starEach el env/\(backTo cp (starEach el env)).any (·.1)=false/\swapsWith atd none ep.line env=pure false
structure Cl(G:GT)(mg:Str->ae6)(K:ay)(sc:Scope)(N:ac_)(s:Stmt)(fa:Addr)(fd:aka)(ps:ac_)(fx:Str):Prop where
 m:mg fx=some ai7
 k:PySem.W.keepIn K ai7=true
 b:Binds K fd ps []
 c:Cs G sc N s fx
def KS{X:Cx}{sp:Sp}{C:Addr}{E:XK}(c:Cl G X.mg X.K X.env.scope X.N s fa fd ps fx)(fn:eL X.prog X.w X.K X.mg X.base au8 n fa fd ps sp)(hr:eK n X.A)(KQ:Ct X.pZ G F)(hp:nN au8 X E):
  PS X s (nI (ye sp [] E (sU X.K false (dU F false ag1)))):=by
 obtain⟨fp,e0,el,cp,ep,rfl,oka,he⟩:=c.c.s;exact iu (rF fn hr (bX c.c.g) c.m c.k c.b .nil hp ((snd ag1).es _ KQ (e0::el) oka false).pZ c.c.d (he _).1 (he _).2.1) (he _).2.2
section
variable {P:ac7}{w:World}{K:ay}{mg:Str->Option Value}{base:Heap}{G:GT}{n m:Nat}{C:Addr}(hb:∀x∈gn,aC9)(qx:∀(x:Str) (i:Int),apb->∃t,al_)
include hb qx
def SR{st:Stmt}(ih:anJ)(fn:eL P w K mg base ak8 n JC Y7 SN aip)(F:aqR)(S:arh)(l1:ps.length=2)(c:Cl G mg K ah1 N s0 JC Y7 SN fx)(jI:bD st=s0::Ud):
  eL P w K mg base ak8 (n+1) fa fd ps aip:=by
 obtain⟨oc,od,kV,gJ,pm,an,du,ct,Cq,rfl,lk,nG⟩:=F.ex;refine Cp lk nG S (λvs H Q E ⟨_,_,_,_,_,q,_⟩=>q.trans l1.symm) λA outer s H vs Q E hr BX=>?_;obtain⟨O',ds,hO,hR,q1,q2,Xb,hE⟩:=BX;obtain⟨u,v,rfl⟩:=NQ q1;have KQ:anq:=by
  refine⟨rfl,hr.units,hb,qx,λg y hy=>?_⟩;obtain⟨ga,gd,NO,G1,G2,G3,G4,G5⟩:=ih g y hy;exact⟨n,ga,gd,NO,G1,hr,G2,G3,G4,G5⟩
 have hx:=kz (K:=K) (N:=N) (d:=⟨2,N.length,.skip⟩) hO hR rfl rfl;rw[jI];refine⟨_,bA (u:=λ_ _ _=>False) (KS c fn hr KQ λ_ _ _ _ _ _ I z=>BM I z) (λ_ _ _ _ _ _ z=>aAy),?_⟩;refine⟨_,_,[u,v],hx.ex,rfl,λus H1 s1 r1=>?_⟩;have nj:=eg r1;show F9 K 2 rn arU Bu (us++[]) H1 _ E;rw[abm];exact⟨_,[u,v],(hx.ex.mono s1).live,nj,rfl,nj.length,Xb,λe H2 s2=>hE e H2 ag0⟩
def Xg{st s0 s1 s2:Stmt}{iN jN:Nat}(ih:∀m,m<=n->arW)(F:CG K x x st JC fd)(S:arh)(l1:ps.length=3)(l2:N.length=5)
  (fn:∀m,n=m+2->∀s∈[s0,s1,s2],∃fa fd ps fx,axE/\eL P w K mg base ak8 n fa fd ps aip)
  (ok0:bE G Sr N ah1 t0=true) (ok1:bE G IY N ah1 t1=true)
  (jI:bD st= .Try [.If t0 [s0] [.If t1 [s1] [s2] i1] i0] [.ExceptHandler (aku (.Name xh xp)) (aku nm) [.Assign [als] (.List [.Call (.Name "isinstance" p1) [.Name nm q1,.Name c1 r1] [] z1,.Call (.Name "isinstance" p2) [.Name nm q2,.Name c2 r2] [] z2,.Call (.Name "isinstance" p3) [.Name nm q3,.Name c3 r3] [] z3] lp) ap,
    .Return (aku (.BoolOp .And [.Call (.Name "isinstance" p4) [.Name nm q4,.Name c4 r4] [] z4,.Call (.Name "isinstance" p5) [.Name nm q5,.Name "ValueError" r5] [] z5,.UnaryOp .Not (aCm (.Name "any" anp)) np'] bp)) rp2] hp] [] [] tpp::Ud)
  (tZ:mg xh=some aE8) (hex:PySem.W.exmOne K ai1 aE8=some true) (hdh:(xh==("__debug__":Str))=false) (W7:dj ah1 xh=true)
  (ek:kK K C) (Xh:N[iN]?=some nm) (hjN:N[jN]?=some y) (v8:iN≠jN) (lN:(af st).names.lookup nm=some .local) (lY:(af st).names.lookup y=some .local) (dN:wc nm=true) (dY:wc y=true)
  (gi:dj ah1 "isinstance"=true) (ga:dj ah1 "any"=true) (gv:dj ah1 "ValueError"=true) (mv:mg "ValueError"=none)
  (g1:dj ah1 c1=true) (m1:mg c1=some aFb) (d1:(c1==("__debug__":Str))=false) (k1:PySem.W.kitOne K ai1 aFb=some false)
  (g2:dj ah1 c2=true) (m2:mg c2=some aFa) (d2:(c2==("__debug__":Str))=false) (k2:PySem.W.kitOne K ai1 aFa=some false)
  (g3:dj ah1 c3=true) (m3:mg c3=some aE_) (d3:(c3==("__debug__":Str))=false) (k3:PySem.W.kitOne K ai1 aE_=some false)
  (g4:dj ah1 c4=true) (m4:mg c4=some aE9) (d4:(c4==("__debug__":Str))=false) (k4:PySem.W.kitOne K ai1 aE9=some true)
  (k5:PySem.W.kitOne K ai1 (.type "ValueError")=some true):
  eL P w K mg base rM (n+1) JC fd ps (xD K ps.length (run T (n+1) 25)):=by
 refine F.ok S (λvs H Q E z=>?_) (λdu A outer s' H vs Q E hr z=>?_)
 .obtain⟨_,_,_,_,_,_,q,_⟩:=z;exact q
 .obtain⟨O',ds,r,hO,hR,MZ,hl,kk⟩:=z;obtain⟨m,x1,x2,x3,b,rfl,rfl,e0,e1,e3,rfl⟩:=JB MZ;have KQ:∀U E',Ct ((dH rM P w K mg base N x ah1 JC du A outer s' H E).pZ.BL C U E').pZ G (run T (m+2)):=λ_ _=>by
   refine⟨rfl,hr.units,hb,qx,λg y hy=>?_⟩;obtain⟨ga,gd,NO,G1,G2,G3,G4,G5⟩:=ih (m+2) ac9 g y hy;exact⟨m+2,ga,gd,NO,G1,hr,G2,G3,G4,G5⟩
  obtain⟨_,_,_,_,a0,f0⟩:=fn m rfl s0 (.head _);obtain⟨_,_,_,_,a1,f1⟩:=fn m rfl s1 aEc;obtain⟨_,_,_,_,a2,f2⟩:=fn m rfl s2 (.tail _ aEc);have hx:=kz (K:=K) (N:=N) (d:=ql) hO hR rfl l2;rw[jI];have hsu:=λ(a:Addr) (oe:Obj) (vs:Array Value) (lo:fW C oe vs)=>BR (X:=(dH rM P w K mg base N x ah1 JC du A outer s' H E).pZ) (a:=a) (p1:=p1) (q1:=q1) (r1:=r1) (z1:=z1) (p2:=p2) (q2:=q2) (r2:=r2) (z2:=z2) (p3:=p3) (q3:=q3) (r3:=r3) (z3:=z3) (p4:=p4) (q4:=q4) (r4:=r4) (z4:=z4) (p5:=p5) (q5:=q5) (r5:=r5) (z5:=z5) (py:=py) (lp:=lp) (ap:=ap) (anp:=anp) (yp:=yp) (acp:=acp) (np:=np') (bp:=bp) (rp:=rp2)
   lo ek S.nd Xh (akN lN) (bK dN).1 (bK dN).2 hjN lY (bK dY).1 (bK dY).2 v8 (bX gi) (hb _ (by simp[gn])) (bX ga) (hb _ (by simp[gn])) (bX gv) mv (bX g1) m1 d1 k1 (bX g2) m2 d2 k2 (bX g3) m3 d3 k3 (bX g4) m4 d4 k4 k5
  have cl:∀{s fa fd ps fx},axE->eL P w K mg base ak8 (m+2) fa fd ps aip->∀U E',jE amI [s] (nI (apR E')):=λa f U E'=>jF (KS a f hr (KQ U E') xS);have ts:∀{c t},bE G c N ah1 t=true->D1 c=true->∀U E',PT amI t (tB K λρ=>(ev (run T (m+2)) false c ρ).bind eI):=λ{c t} o i U E'=>((snd c).t _ (KQ U E') t o i).pZ;refine⟨_,bA (u:=λ_ _ _=>False) (Fx (X:=(dH rM P w K mg base N x ah1 JC du A outer s' H E).pZ) (C:=C) (λU E'=>jF (ug (ts ok0 rfl U E') (cl a0 f0 U E') (jF (ug (ts ok1 rfl U E') (cl a1 f1 U E') (cl a2 f2 U E')))))
   rfl rfl tZ hex (bX W7) hdh S.nd Xh lN hsu) (λ_ _ _ _ _ _ z=>aAy),?_⟩
  have fin:∀H1,asC->nI (apR (λev _ H2=>∃a,ev=Value.ref a/\∀τ:L2.St,τ.length=N.length->(τ.set iN (aku (V.ref a)))[iN]?=some (aku (V.ref a))/\∀p H',H2 p=none->H'=L2.upd H2 p aDI->Q ag3 H')) ⟨λ_ _=>False,λ_ _=>False,λ_ _=>False,λ_ _=>False⟩ anT H1:=λH1 s1=>by
   refine⟨_,_,[x1,x2],(hx.ex.mono s1),rfl,λus H2 s2 r2=>?_⟩;have Y8:=eg r2;show F9 K 2 rn arU Bu (us++[]) H2 _ _;rw[abm];refine⟨_,[x1,x2],((hx.ex.mono s1).mono s2).live,Y8,rfl,Y8.length,e3,λe H3 s3=>⟨e,rfl,λτ hτ=>⟨?_,λp H4 hp h4=>kk ag3 H4 (((s1.trans s2).trans s3).trans (by rw[h4];exact ah.upd hp)) (.bl _)⟩⟩⟩;rw[aaR (by rw[hτ];exact(aax.mp Xh).1)]
  refine⟨_,_,b,hx.ex,e0,λH1 s1=>?_⟩;cases b with
  |true=>exact jP (fin H1 s1)
  |false=>
   obtain⟨b1,e1⟩:=e1 rfl;refine mO ⟨_,_,b1,hx.ex.mono s1,e1,λH2 s2=>?_⟩;cases b1 with
   |true=>exact jP (fin H2 ag0)
   |false=>exact mO (fin H2 ag0)
end
end eQ
namespace eQ
open Py iH
theorem vV{f:α->List β}:∀{l:ahB},aBk->(∀x∈l,(f x).Nodup)->(∀x∈l,∀y∈l,∀z,z∈f x->z∈f y->x=y)->(l.flatMap f).Nodup
 |[],_,_,_=>adL
 |x::l,nd,h1,h2=>by
  obtain⟨n1,n2⟩:=abo.mp nd;rw[aee,abL];refine⟨h1 x aaq,vV n2 (λy hy=>h1 y asi) λa ha b hb=>h2 a (akQ ha) b aqJ,λa ha b hb e=>?_⟩;obtain⟨y,hy,q⟩:=abB.mp hb;exact n1 (h2 x aaq y asi a ha (e▸q)▸hy)
theorem xV{f:α->List β}{c:Nat}:∀{l:ahB},(∀x∈l,(f x).length =c)->(l.flatMap f).length =l.length*c
 |[],_=>(Nat.zero_mul c).symm
 |x::l,h=>by
  rw[aee,aau,aaL,Nat.add_mul,xV λy hy=>h y asi,h x aaq];omega
structure Kd(A:ab3)(cl:aa0->ab3)(m:aa0->aa0):Prop where
 up:A.Pairwise bN.Kc
 nd:A.Nodup
 c0:∀t∈A,t∈cl t
 c1:∀t∈A,∀u∈cl t,u∈A
 c3:∀t∈A,(cl t).Nodup
 c4:∀t∈A,∀u∈cl t,∀x,x∈cl u↔x∈cl t
 m0:∀t∈A,m t∈cl t
 m1:∀t∈A,∀u∈cl t,bN.Kc (m t) u
noncomputable abbrev fB(m:aa0->aa0)(t:aa0):Bool:=decide (m t=t)
section
variable {A pre post:ab3}{cl:aa0->List aa0}{m:aa0->List Int}{t:aa0}(k:Kd A cl m)
include k
def Kd.mm(h:t∈A)(hu:u∈cl t):m u=m t:=
 have ua:=k.c1 t h u hu
 bN.iA _ _ (k.m1 t h _ ((k.c4 t h u hu _).mp (k.m0 u ua))) (k.m1 u ua _ ((k.c4 t h u hu _).mpr ay6))
def Kd.one(hu:u∈A)(hv:v∈A)(fu:fB m u=true)(fv:fB m v=true)(hx:x∈cl u)(hy:x∈cl v):u=v:=
 (of_decide_eq_true fu).symm.trans ((k.mm hu hx).symm.trans ((k.mm hv hy).trans (arA fv)))
def Kd.mt(h:t∈A):m t∈A/\fB m (m t)=true/\t∈cl (m t):=
 ⟨k.c1 t h _ ay6,decide_eq_true (k.mm h ay6),(k.c4 t h _ ay6 t).mpr (k.c0 t h)⟩
def Kd.new(e:A=pre++t::post):(!decide (t∈(pre.filter (fB m)).flatMap cl))=fB m t:=by
 have ht:=xU e;have ip:∀u∈pre,u∈A:=λu hu=>e▸aaO _ hu;cases ft:fB m t with
 |true=>
  rw[decide_eq_false]
  .rfl
  .intro z;obtain⟨u,hu,q⟩:=abB.mp z;obtain⟨hu,fu⟩:=abE.mp hu;have:=k.one (ip u hu) ht fu ft q (k.c0 t ht);subst this;have nd:=k.nd;rw[e,abL]at nd;exact nd.2.2 u hu u aaq rfl
 |false=>
  rw[decide_eq_true]
  .rfl
  obtain⟨hx,fx,tx⟩:=k.mt ht;have ne:=of_decide_eq_false ft;have up:=k.up;rw[e]at hx up;refine abB.mpr ⟨m t,abE.mpr ⟨?_,fx⟩,tx⟩;rcases aaH.mp hx with z|z
  .exact z
  .rcases aat.mp z with z|z
   .exact absurd z ne
   .exact absurd (bN.iA _ _ ((abV.mp (abg.mp up).2.1).1 _ z) (k.m1 t ht t (k.c0 t ht))) ne
def Kd.nodup(e:A=pre++post):((pre.filter (fB m)).flatMap cl).Nodup :=by
 have ip:∀u∈pre,u∈A:=λu hu=>e▸aaO _ hu;have nd:=k.nd;rw[e]at nd;exact vV ((abL.mp nd).1.sublist adG) (λx hx=>k.c3 x aCr) λx hx y hy z h1 h2=>k.one aCr (ip y (abE.mp hy).1) (abE.mp hx).2 (abE.mp hy).2 h1 h2
def Kd.due:bN.bB (S2.jS (A.map m))=A.filter (fB m):=by
 refine(bN.fF ((acN (k.nd.sublist adG) (S2.qQ _)).mpr λx=>?_) (k.up.sublist adG)).symm;rw[S2.nc,abE,aaz];exact⟨λ⟨h,f⟩=>⟨x,h,of_decide_eq_true f⟩,λ⟨t,h,e⟩=>e▸⟨(k.mt h).1,(k.mt h).2.1⟩⟩
def Kd.cnt(h:∀t∈A,(cl t).length =c):(A.filter (fB m)).length*c=A.length:=by
 rw[<-xV λt ht=>h t (abE.mp ht).1];refine((acN (k.nodup (post:=[]) (abm A).symm) k.nd).mpr λx=>⟨λz=>?_,λz=>?_⟩).length_eq
 .obtain⟨u,hu,q⟩:=abB.mp z;exact k.c1 u (abE.mp hu).1 x q
 .exact abB.mpr ⟨m x,abE.mpr ⟨(k.mt z).1,(k.mt z).2.1⟩,(k.mt z).2.2⟩
end
section
variable {s n:Nat}{F:FT}{M N:aa0->Prop}
noncomputable abbrev AL(s:Nat)(M:aa0->Prop):ab3:=bN.bB (aAt ac0)
def cj(k:apu):t∈AL s M↔M t:=(bN.aN _).mem_iff.trans (k.tl t)
def Ac(h6:s<=6)(k:apu):(AL s M).length <=720:=by rw[(bN.aN _).length_eq];exact Fh h6 k.v
def Ad(k:apu)(h:YY s M A):A=AL s M:=bN.fF ((acN h.nd k.nd).mpr λt=>(h.mem t).trans (k.tl t).symm) h.up
noncomputable abbrev tP(s:Nat)(N:aa0->Prop)(t:aa0):ab3:=(AL s N).map λg=>comp g t
noncomputable def mL(s:Nat)(N:aa0->Prop)(t:aa0):aa0:=bN.jR ((tP s N t).headD []) (tP s N t).tail
def tQ(j:aD3):tP s N t=(tP s N t).headD []::(tP s N t).tail :=by
 cases e:tP s N t with
 |nil=>exact absurd (amZ ⟨_,(cj j).mpr j.y.one,rfl⟩) (e▸afk)
 |cons x r=>rfl
def KU(k:apu)(j:aD3)(sub:∀t,N t->M t):Kd aAj (tP s N) aqt:=by
 have pS:∀{t},t∈AL s M->ahu:=λh=>k.y.s _ ((cj k).mp h);have hc:∀{t x},x∈tP s N t↔ ∃g,N g/\x=comp g t:=λ{t x}=>aaz.trans ⟨λ⟨g,h,e⟩=>⟨g,(cj j).mp h,e.symm⟩,λ⟨g,h,e⟩=>⟨g,(cj j).mpr h,e.symm⟩⟩;have L:=aE (s:=s);refine⟨bN.gO _,(bN.aN _).nodup_iff.mpr k.nd,λt ht=>hc.mpr ⟨_,j.y.one,(L.one_mul au3).symm⟩,λt ht u hu=>?_,λt ht=>?_,λt ht u hu x=>?_,λt ht=>?_,λt ht u hu=>?_⟩
 .obtain⟨g,hg,rfl⟩:=hc.mp hu;exact(cj k).mpr (k.y.mul _ _ (sub g hg) ayU)
 .refine abz.mpr (List.Pairwise.imp_of_mem (λ{a b} ha hb ne e=>ne ?_) ((bN.aN _).nodup_iff.mpr j.nd));have sa:=j.y.s a ((cj j).mp ha);have sb:=j.y.s b ((cj j).mp hb);have e':=congrArg (λz=>comp z (ip t)) e;rw[show comp (comp a t) (ip t)=comp a (comp t (ip t)) from L.assoc sa au3 (L.si au3),show comp (comp b t) (ip t)=comp b (comp t (ip t)) from L.assoc sb au3 (L.si au3),show comp t (ip t)=bR s from L.dM au3,show comp a (bR s)=a from L.mul_one sa,show comp b (bR s)=b from L.mul_one sb]at e';exact e'
 .obtain⟨h,hh,rfl⟩:=hc.mp hu;have sh:=j.y.s h hh;refine hc.trans (Iff.trans ⟨λ⟨g,hg,e⟩=>⟨comp g h,j.y.mul _ _ hg hh,?_⟩,λ⟨g,hg,e⟩=>⟨asz,j.y.mul _ _ hg (j.y.inv _ hh),?_⟩⟩ hc.symm)
  .rw[e];exact(L.assoc avL sh au3).symm
  .rw[e,<-show comp (comp asz h) t=comp asz (comp h t) from L.assoc (L.sm avL (L.si sh)) sh au3,show comp asz h=comp g (comp (ip h) h) from L.assoc avL (L.si sh) sh,show comp (ip h) h=bR s from L.inv_mul sh,show comp g (bR s)=g from L.mul_one avL]
 .rw[tQ j];exact bN.uY _ _
 .rw[tQ j]at hu;exact bN.yI _ _ u hu
theorem FJ:∀c:ab3,n8 (c.map λx=> asS)=some (c.map λx=>(x,ag3))
 |[]=>rfl
 |x::c=>by
  show(aI (x.map .int)).bind (λk=>(n8 (c.map λx=> asS)).map ((k,ag3):: ·))=_;rw[cF,FJ c];rfl
noncomputable abbrev BS(s:Nat)(N:aa0->Prop)(pre:ab3):ab3:=pre.filter (fB aqt)
noncomputable abbrev dE(s:Nat)(N:aa0->Prop)(pre:ab3):ab3:=(BS s N pre).flatMap (tP s N)
def tR:BS s N aoL=if fB aqt t then BS s N pre++[t] else BS s N pre:=by
 unfold BS;rw[ahj,afl];cases fB aqt t<;>simp
def l_:dE s N aoL=if fB aqt t then dE s N pre++tP s N t else dE s N pre:=by
 unfold dE;rw[tR];cases fB aqt t<;>simp
noncomputable abbrev KE(s:Nat)(M N:aa0->Prop)(pre:ab3)(x5:ab4):Env:=[vf ahD,vf amr,aCT,some (true,.lst ((BS s N pre).map tp)),ajM,x5]
def JD(h1:1<=s)(h6:s<=6)(k:apu)(j:aD3)(sub:∀t,N t->M t):run T (n+6) 16 [ahD,amr]=some (akJ ((BS s N aAj).map tp)):=by
 have kd:=KU k j sub;have hS:∀t∈AL s M,ahu:=λt ht=>k.y.s t ayU;have hT:∀t∈AL s N,ahu:=λt ht=>j.y.s t ayV;obtain⟨y,h2⟩:=kL (F:=run T (n+5)) (c:=WN) (i:=5) (h:=tp) (all:=AL s M) (E:=λpre y=>KE s M N pre y) (λpre t post y h=>by
  have ht:=hS t (xU h);have hd:ev aqs false (aCR aoY) aFm=some (.bl (fB aqt t)):=by
   rw[<-kd.new h,Qo];show((c_ 1 (tp t)).map λx=>D.bl (!decide (x∈dE s N pre)))=_;rw[nC aa1];rfl
  have nd:(dE s N aoL).Nodup :=kd.nodup (show AL s M=aoL++post by rw[h,aaZ];rfl);have sub:∀x∈dE s N aoL,x∈perms s:=λx hx=>by
   obtain⟨u,hu,q⟩:=abB.mp hx;refine hS x (kd.c1 u ?_ x q);rw[h];rcases aaH.mp (abE.mp hu).1 with z|z
   .exact aaO _ z
   .rw[aar.mp z];exact aaJ _ aaq
  have FY:(dE s N aoL).length <=720:=aam (gx _ _ nd sub) azM;show∃y',ex aqs WN aFm=_;cases ft:fB aqt t with
  |false=>
   rw[ft]at hd;refine⟨some (false,tp t),xN hd ?_⟩;show _=some (mh.next (KE s M N aoL _));unfold KE;rw[tR,l_,ft];rfl
  |true=>
   rw[ft]at hd;rw[l_,ft,aaB rfl]at nd FY;have l1:(BS s N pre).length <=720:=by
    refine aam (agF ..) (aam ?_ (Ac h6 k));rw[h,aau];exact aaM _ _
   refine⟨some (false,tp t),xY hd (xG (kH (d:=tp t) (xs:=(BS s N pre).map tp) rfl rfl (by rw[aap];exact aaU l1 aa1)) (xG (ρ':=KE s M N aoL aht) ?_ rfl)) rfl⟩;have e2:ev aqs false WM [vf ahD,vf amr,aCT,aqm,ajM,aht]=some (akx ((tP s N t).map λx=> asS)):=by
    rw[abc];refine fT (d:= .tup anE) rfl rfl (akH (Ac h6 j)) λx hx=>?_;rw[LV,cf (awp (lZ h6 x (hT x hx) t ht)) rfl];rfl
   show((ev aqs false WM [vf ahD,vf amr,aCT,aqm,ajM,aht]).bind eX).bind _=_;rw[e2];show(n8 ((tP s N t).map λx=> asS)).bind _=_;rw[FJ];have m1:((tP s N t).map λx=>al4).map (·.1)=tP s N t:=by rw[abc];exact agh _
   have m2:((tP s N t).map λx=>al4).map (·.2)=mv (tP s N t):=abc ..;show(if(1:Nat)=1/\(dE s N pre++((tP s N t).map λx=>al4).map (·.1)).Nodup /\(dE s N pre).length+((tP s N t).map λx=>al4).length <=bW then _ else none)=_;rw[m1,m2,aaB ⟨rfl,nd,by rw[aap,<-aau];exact aam FY aa1⟩];unfold KE;rw[tR,l_,ft,aaB rfl,aaB rfl,abd,mv,mv,mv,<-abd];rfl) (pre:=[]) none rfl
 refine xO (fd:=T5) rfl rfl (xG (BE (arD (Js h6 j k sub))) (xA (av auf (FG h1 h6 j) (dS _)) (xB (xs:=[]) rfl (xG (ρ':=KE s M N [] none) rfl (xG (ρ':=KE s M N aAj y) ?_ (xR rfl))))));rw[L4,XQ];show((ev aqs false (aoJ 9) _).bind seq).bind _=_;rw[av auf (FG h1 h6 k) (dS _)];exact h2
theorem count_loop:∀{l:ag2}{c:Nat}{x2:ab4},(∀R∈l,R.length<=1000)->
  ∃y2,a_ (λx ρ=>(aH 0 x).bind λys=>(de ρ [2] ys).bind λρ'=>ex F YS ρ') au7 [x0,vf (al6 c),x2]=some (akC [x0,vf (al6 (c*(TL (pg s) l).length :Nat)),y2])
 |[],c,x2,_=>⟨x2,by rw[show(TL (pg s) []).length =1 from rfl,Nat.mul_one];rfl⟩
 |R::l,c,x2,h=>by
  obtain⟨y2,ih⟩:=count_loop (x0:=x0) (l:=l) (c:=c*R.length) (x2:=vf (br R)) λR' WV=>h R' (akQ WV);have hR:=h R aaq;have aG:ev F true (akF (.u 2)) [x0,vf (al6 c),aq5]=some (al6 (R.length:Nat)):=by
   show some (D.int ((R.map pairD).length :Nat))=_;rw[aap]
  refine⟨y2,(mC (ρ':=[x0,vf (al6 (c*R.length:Nat)),aq5]) (xA (d:= .int (c*R.length:Nat)) ?_ rfl)).trans (ih.trans ?_)⟩
  .rw[Int.natCast_mul];exact EI rfl aG ayp
  .rw[show(TL (pg s) (R::l)).length =R.length*(TL (pg s) l).length from xV λe _=>aap ..,Nat.mul_assoc]
def FK(k:apu):run T (n+1) 14 [amr]=some (al6 ((AL s M).length :Nat)):=by
 obtain⟨y2,h1⟩:=count_loop (s:=s) (F:=run T n) (x0:=vf amr) (c:=1) (x2:=none) k.rl;rw[Nat.one_mul,<-(bN.aN _).length_eq]at h1;exact xO (fd:=WQ) rfl rfl (xA (d:= .int (1:Nat)) rfl aod)
def Oo{Ts:ab3}:cmp .NotIn (tp t) aqe=some (!decide (t∈Ts)):=by
 have e:∀l:ab3,((l.map tp).any λz=>pV z (tp t))=decide (t∈l):=λl=>by
  induction l with
  |nil=>rfl
  |cons a l ih=>
   rw[aaX,aea,ih,ES,afw,adV,decide_eq_true_eq,decide_eq_true_eq,decide_eq_true_eq,aat];exact⟨λz=>z.imp (λz=>z.symm) id,λz=>z.imp (λz=>z.symm) id⟩
 show(if(gH (tp t) 60&&gH aqe 60)=true then some (!(Ts.map tp).any λz=>pV z (tp t)) else none)=_;rw[EU,show gH aqe 60=true from fV 58 Ts,e];rfl
def FL{A B:ab3}(hB:B.length<=1000)(h1:ev F true axr ρ=some aqZ)(h2:ρ[j]?=some (vf aq0))(h:(∀t∈B,t∈A)↔k=false):
  ev F b (.cmp .NotEq anO aqd) ρ=some (.bl k):=by
 have c:ev F true anO ρ=some (akx ((B.filter λt=>!decide (t∈A)).map tp)):=
  vH h1 rfl (akH hB) (λt _=>WE (B7 (a:= .var 0) (c:= .var 1) rfl (y:= .lst (A.map tp)) (by show rd true [aht,(ρ[j]?).join] 1=_;rw[h2];rfl) Oo)) λ_ _=>rfl
 refine B7 c (y:= .lst (([]:ab3).map tp)) rfl (Fj.trans (congrArg some ?_));have:B.filter (λt=>!decide (t∈A))=[]↔ ∀t∈B,t∈A:=by
  rw[aeM];exact forall_congr' λt=>forall_congr' λ_=>by simp
 cases k with
 |false=>rw[decide_eq_true (this.mpr (h.mpr rfl))];rfl
 |true=>rw[decide_eq_false λz=>nomatch h.mp (this.mp z)];rfl
def FN(h1:1<=s)(h6:s<=6)(h:∀t∈xs,ahu):(∀{a ρ b},axh->ev F b axF ρ=some (akx ((bN.bB aGz).map tp)))/\(bN.bB aGz).length <=720/\∀t,t∈bN.bB aGz↔t∈xs:=by
 have hl:(S2.jS xs).length <=720:=aam (gx _ _ (S2.qQ xs) λt ht=>h t (S2.nc.mp ht)) azM;refine⟨λ{a ρ b} e=>?_,by rw[(bN.aN _).length_eq];exact hl,λt=>(bN.aN _).mem_iff.trans S2.nc⟩;show((ev F true a ρ).bind ux).map D.lst=_;rw[e];show((dw anx).bind λks=>if(S2.jS ks).length <=720 then some axJ else none).map D.lst=_;rw[iM λt ht=>tK h1 (h t ht),abM,aaB hl];rfl
def Oq(h:∀t∈a::r,t≠[]):prim .min [.lst ((a::r).map tp)]=some (tp (bN.jR a r)):=by
 show(dw ((a::r).map tp)).bind _=_;rw[iM h];rfl
def tS{xs:ab3}(h:ev F true axr ρ=some d)(h2:seq d=some anx):ev F b (akF (.u i)) ρ=some (al6 (xs.length:Nat)):=KA h (by
 show(seq d).map _=_;rw[h2];show some (D.int ((xs.map tp).length :Nat))=_;rw[aap])
def Xi(h6:s<=6)(k:apu)(j:aD3)(h:¬ ∀t,N t->M t)(z:Nat):run T (n+7) 25 [ahD,amr,.int z]=some ag3:=by
 have e1:run T (n+5) 31 [ahD,amr]=some ag3:=xO (fd:=WU) rfl rfl (xR ((ntv (FI.trans (z9 h6 j k))).trans (by rw[Bool.eq_false_iff.mpr λz=>h ((Fs j k).mp z)];rfl)));have e2:run T (n+6) 30 [ahD,amr]=some ag3:=xO (fd:=WT) rfl rfl (xR (FI.trans e1));refine xO (fd:=ql) rfl rfl (xG (ρ':=ao ql [ahD,amr,.int z]) ?_ (xZ (FI.trans e2) rfl));rw[k9];show(if((z:Int)==0)=true then _ else((if((z:Int)==1)=true then some atM else some atM).bind _))=_;rw[ite_self];split<;>rfl
def Ae(h1:1<=s)(h6:s<=6){ps qs:ab3}(dq:anU)(Jy:awz)(hp:∀p∈ps,aio)(hq:∀p∈qs,aio){sc x1:ab4}:
  ex aub WO [sc,x1,avF,vf ac3,awy,none,none,none,none,none,none]=some (ak6 ag3):=by
 obtain⟨k,e1⟩:=SE h6 hp (akH dq) (kF h6 hp) rfl;obtain⟨j,e2⟩:=SE h6 hq (akH Jy) (kF h6 hq) rfl;obtain⟨A,eA,aA⟩:=mM (n:=5) h1 h6 hp (akH dq) (e:= .tup anA) rfl;obtain⟨B,eB,aB⟩:=mM (n:=5) h1 h6 hq (akH Jy) (e:= .tup anz) rfl;obtain rfl:=Ad k aA;obtain rfl:=Ad j aB;generalize Gen (pg s) (· ∈ps)=M at k e1 eA aA;generalize Gen (pg s) (· ∈qs)=N at j e2 eB aB;refine xA (axM (e1 3)) (xA (axM (e2 3)) (xA (axM eA) (xA (axM eB) ?_)));by_cases BY:∀t∈AL s N,t∈AL s M
 case neg=>exact xZ (FL aB.FY rfl rfl ⟨λz=>absurd z BY,λz=>nomatch z⟩) (xR (KA (zP (n:=3) (g:=λ_=> ag3) rfl aa1 λz _=>av (Sf rfl rfl rfl) (Xi h6 k j (λz=>BY λt ht=>(cj k).mpr (z t ayV)) z) rfl) rfl))
 have sub:∀t,N t->M t:=λt ht=>(cj k).mp (BY t ((cj j).mpr ht));have kd:=KU k j sub;have hA:∀t∈AL s M,ahu:=λt ht=>k.y.s t ayU;have hB:∀t∈AL s N,ahu:=λt ht=>j.y.s t ayV;have lA:=Ac h6 k;have lB:=Ac h6 j;have lS:(BS s N aAj).length <=720:=aam (agF ..) lA;have mul:((BS s N aAj).length :Int)*((AL s N).length :Nat)=((AL s M).length :Nat):=by rw[<-Int.natCast_mul,kd.cnt λt _=>aap ..]
 obtain⟨s9,_,_⟩:=FN (F:=run T 7) h1 h6 (xs:=(AL s M).map aqt) λx hx=>by
  obtain⟨t,ht,rfl⟩:=aaz.mp hx;exact hA _ (kd.mt ht).1
 rw[kd.due]at s9;refine xN (FL aB.FY rfl rfl ⟨λ_=>rfl,λ_=>BY⟩) (xA (s9 (tN (d:= .lst ((AL s M).map tp)) rfl rfl (akH lA) λt ht=>KA (x:= .lst ((tP s N t).map tp)) (tN (d:= .lst anE) rfl rfl (akH lB) λg hg=>av af8 (tL (n:=6) h6 g (hB g hg) t (hA t ht)) (aw _)) ?_)) (xA (av af8 (JD (n:=1) h1 h6 k j sub) (dS _)) (xN (Se (B7 rfl (KA rfl rfl) (zY (fV 58 _))) (Se (B7 (x:= .int ((AL s M).length :Nat)) ?_ avG (zY rfl)) rfl)) (xR (B7 (x:= .int ((AL s M).length :Nat)) ?_ (av auf (FK (n:=6) k) rfl) (Jq rfl))))))
 .rw[tQ j];refine Oq λx hx=>tK h1 ?_;rw[<-tQ j]at hx;obtain⟨g,hg,rfl⟩:=aaz.mp hx;exact cZ (hB g hg) (hA t ht)
 .rw[<-mul];exact EI avG avG ayp
 .rw[<-mul];exact EI avG (av auf (FK (n:=6) j) rfl) ayp
end
def holds(ns:aa0)(hl:ns.length<=63):run T (7+1) 27 [ae1]=some ag3:=by
 have mx:∀{b:Bool}{r:Env},ev aub b ax4 (vf ae1::r)=some (al6 (wj ns 5)):=av af8 (Sz (n:=5) ns (k:=5) aa1) rfl;generalize wj ns 5=z at mx;have Ue:∀(k:Int) {r:Env},ev aub false (.cmp .Eq ah5 (.ci k)) (vf ae1::r)=some (.bl (z%5==k)):=λk r=>B7 (Bq mx (j:=5) rfl aa1) (c:= .ci k) (y:= .int k) rfl rfl;refine xO (fd:=Sx) rfl rfl (xA (d:= .int 4) rfl ?_);have go:∀m:Int,0<m->m<=5->ex aub akl [aFB,aAB,none,none,none,none,none,none,none,none,none]=some (ak6 ag3):=λm m0 m5=>by
  have g0:0<=wj ns 0%m:=acH _ aa3;have g1:wj ns 0%m<m:=acI _ m0;obtain⟨s,hs⟩:∃s:Nat,1+wj ns 0%m=s:=⟨(1+wj ns 0%m).toNat,by omega⟩;have h1:1<=s:=by omega
  have h6:s<=6:=by omega
  obtain⟨ps0,er1,Xj,Xk⟩:=N6 (n:=3) (wj ns 1) h1 h6;obtain⟨qs0,er2,Xl,Xm⟩:=N6 (n:=3) (wj ns 2) h1 h6;obtain⟨ps,qs,Um,dq,Jy,hp,hq⟩:=Oi (F:=run T 6) (s:=s) (λk hk=>Sz (n:=4) ns hk) m0 hs er1 er2 dS (tL (n:=5) h6) Xj Xl Xk Xm;refine xG (ρ':=[aFB,aAB,avF,vf ac3,awy,none,none,none,none,none,none]) (by rw[Vw,cG af8 (xO (n:=6) (fd:=OV) rfl rfl Um) rfl];rfl) ?_;cases hb:(z%5==2)with
  |false=>exact xN ((Ue 2).trans (by rw[hb])) (Ae h1 h6 dq Jy hp hq)
  |true=>
   obtain⟨ps,e30,dq,hp⟩:=Ol (F:=run T 6) (z/5);have g2:0<=z/25%((ps.length:Int)+1):=acH _ aa3;obtain⟨k,hk⟩:∃k:Nat,z/25%((ps.length:Int)+1)=k:=⟨_,(acz g2).symm⟩;refine xY ((Ue 2).trans (by rw[hb])) (xA (d:= .int 6) rfl (xA (cG (ie (YG mx (k:=5) rfl aa1)) (xO (n:=6) (fd:=N3) rfl rfl e30) rfl) (xA (d:= .tup ((ps.take k).map tp)) ?_ rfl))) (Ae (s:=6) (qs:=ps.take k) aa1 aa1 dq (aam (agO k ps) dq) hp λp h=>hp p (abS h));have b2:ev aub false (.bin .Mod (.bin .FloorDiv ax4 (.ci 25)) (awu (akF (.u 3)))) [aFB,aAB,vf (al6 6),vf ac3,awy,none,none,none,none,none,none]=some af_:=by
    rw[<-hk];exact Bq (YG mx (k:=25) rfl aa1) (by rw[EH (i:=((ps.map tp).length :Nat)) (c:= .ci 1) (j:=1) rfl rfl,aap]) aa3
   rw[XO];show(((ev aub false (.bin .Mod _ _) _).bind FW).map some).bind _=_;erw[b2];show some (D.tup (v5 anA none (aku (k:Int))))=_;rw[xT,aeF]
 cases hb:(z%5==1)with
 |true=>exact xY ((Ue 1).trans (by rw[hb])) (xA (d:= .int 5) rfl rfl) (go 5 aa1 aa1)
 |false=>exact xN ((Ue 1).trans (by rw[hb])) (go 4 aa1 aa1)
end eQ
namespace eQ
open PySem L2 Py
def i9(i:Nat):Stmt:=PySem.Challenge.pw_turnyard_k22_whole_shares.main.body.getD i (.Pass ⟨0,0,0,0⟩)
abbrev Row:=Str×Nat×Fd×List Str
noncomputable def tb:avm:=("still",7,kC,["size"])::
 ("times",8,e_,["one","other"])::
 ("back",9,pz,["turn"])::
 ("left_over",11,d3,["found","turn","rest","place","steps"])::
 ("products_with",12,d4,["found","turn","made","steps","step"])::
 ("found_steps",13,d5,["row","size","found","waiting","rest","moved","place"])::
 ("least_turn",14,d6,["found","place","turn","least","steps","part"])::
 ("rung_at",15,d7,["found","place","steps"])::
 ("ladder",16,d8,["row","size","found"])::
 ("turns_of",18,d9,["yard","turns","rung","longer","pair"])::
 ("makers",19,Ss,["yard","turns","rung"])::
 ("has",20,Su,["yard","turn"])::
 ("number_of",21,Sv,["yard","turn","number","rest","place","rung","points","chosen"])::
 ("within",23,Sw,["one","other"])::
 ("count_of",17,WQ,["yard","count","rung"])::
 ("refuse_unless_within",26,rn,["inner","outer"])::
 ("shares",27,T5,["inner","outer","inner_turns","least_ones","seen","turn"])::
 ("_law_cell_at",32,hZ,["_law_script","_law_k"])::
 ("_law_mixed",33,o_ 17,["_law_script","_law_k","_law_drawn_here"])::
 ("_law_drawn",34,iG,["_law_number","_law_k","_law_drawn_here"])::
 ("_law_turn",35,lU 19,["_law_number","_law_size","_law_found","_law_one","_law_other","_law_many","_law_shift","_law_k","_law_made","_law_at"])::
 ("_law_row",36,i8 20 19,["_law_number","_law_size"])::
 ("_law_times",37,e_,["_law_one","_law_other"])::
 ("_law_all",39,OU,["_law_row_here","_law_size","_law_start","_law_met","_law_todo","_law_turn_here","_law_other","_law_goal"])::
 ("_law_two",40,OV,["_law_script","_law_most","_law_size","_law_one","_law_other","_law_kind"])::
 ("_law_refused",41,ql,["_law_inner","_law_outer","_law_which","e","_law_some"])::
 ("_law_six",42,N3,["_law_number","_law_rows"])::
 ("law",43,Sx,["_law_script","_law_most","_law_size","_law_one","_law_other","_law_outer","_law_inner","_law_ones","_law_others","_law_due","_law_found"])::
 ("is_even",29,WR,["inner","outer"])::
 ("around",30,WS,["inner","outer","carriers","yard","waiting","turn","carrier","made"])::[]
noncomputable def G:GT:=((tb.take 28).map λr=>r.1,[])
noncomputable def Y9(r:Row):Bool:=
 decide ((af ajl).kind = .function)&&!(af ajl).isCoroutine&&!(af ajl).isGenerator&&decide r.2.2.2.Nodup&&decide ((r.2.2.2.take r.2.2.1.par).length =r.2.2.1.par) &&
 (r.2.2.2.take r.2.2.1.par).all (λx=>decide ((af ajl).names.lookup x=some .local \/(af ajl).names.lookup x=some .cell))&&(af ajl).names.all (λy=>decide (y.2≠ .free)) &&
 (decide (r.1∈(["_law_refused","is_even","around"]:ac_))||iU G r.2.2.1.body r.2.2.2 aFd (bD ajl))&&decide ayg
def ck:tb.all Y9=true:=by decide +kernel
def Bd(r:Row):Prop:=∀(kV gJ pm:Value) (an:ahQ) (du ct:Value) (us:ab0),us.length=(r.2.2.2.take r.2.2.1.par).length ->bindArgs ad9 ⟨us,[]⟩=pure ((r.2.2.2.take r.2.2.1.par).zip us)
def Ot:avm->Prop
 |[]=>True
 |r::l=>Bd r/\Ot l
section
variable {r:Row}{l:avm}{p q o:Str}(H:Ot l)
include H
def bd1(e:r.2.2.2.take r.2.2.1.par=[p])(h:∀(kV gJ pm:Value) (an:ahQ) (du ct u:Value),bindArgs ad9 ⟨[u],[]⟩=pure [(p,u)]):Ot (r::l):=
 ⟨λkV gJ pm an du ct us hl=>by rw[e]at hl⊢;obtain⟨u,rfl⟩:=Sb hl;exact h kV gJ pm an du ct u,H⟩
def bd2(e:r.2.2.2.take r.2.2.1.par=[p,q])(h:∀(kV gJ pm:Value) (an:ahQ) (du ct u v:Value),bindArgs ad9 ⟨[u,v],[]⟩=pure [(p,u),(q,v)]):Ot (r::l):=
 ⟨λkV gJ pm an du ct us hl=>by rw[e]at hl⊢;obtain⟨u,v,rfl⟩:=NQ hl;exact h kV gJ pm an du ct u v,H⟩
def bd3(e:r.2.2.2.take r.2.2.1.par=[p,q,o])(h:∀(kV gJ pm:Value) (an:ahQ) (du ct u v w:Value),bindArgs ad9 ⟨[u,v,w],[]⟩=pure [(p,u),(q,v),(o,w)]):Ot (r::l):=
 ⟨λkV gJ pm an du ct us hl=>by rw[e]at hl⊢;obtain⟨u,v,w,rfl⟩:=Sd hl;exact h kV gJ pm an du ct u v w,H⟩
end
def Ug:Ot tb:=by
 repeat first
  |refine bd1 ?_ rfl λ_ _ _ _ _ _ _=>rfl
  |refine bd2 ?_ rfl λ_ _ _ _ _ _ _ _=>rfl
  |refine bd3 ?_ rfl λ_ _ _ _ _ _ _ _ _=>rfl
 exact trivial
theorem vW:∀{l:avm},Ot l->∀r∈l,Bd r
 |_::_,h,_,.head _=>h.1
 |_::_,h,r,.tail _ m=>vW h.2 r m
def Dh(K:ay)(r:Row):Prop:=∃(f:Addr) (fd:aka),CG K r.1 r.1 ajl f fd/\PySem.W.nsIn K mainGlobals r.1=some (aku (.ref f))
def SS(K:ay):avm->Prop
 |[]=>True
 |r::l=>Dh K r/\SS K l
theorem vX{K:ay}:∀{l:avm},SS K l->∀r∈l,Dh K r
 |_::_,h,_,.head _=>h.1
 |_::_,h,r,.tail _ m=>vX h.2 r m
def dhs{K:ay}{r:avm}{x:Str}{i:Nat}{d:Fd}{N:ac_}{f:Addr}{oc:Value}{od an:ahQ}{sl:apw}{kV dc pm cd ct:Value}(a:PySem.W.nsIn K mainGlobals x=some (aku (.ref f)))
  (l:K.lookup f=some ⟨oc,od,.func (PySem.W.fnOf x x (dI (i9 i)) (bD (i9 i)) (af (i9 i)) .none kV dc pm an cd ct),sl⟩) (c:PySem.W.codeIn K cd x=true) (k:aAc) (h:SS K r):SS K ((x,i,d,N)::r):=
 ⟨⟨f,_,LN l c k,a⟩,h⟩
def Zs(K:ay):ac_->Prop
 |[]=>True
 |x::l=>PySem.W.nsIn K mainGlobals x=some none/\Zs K l
def zs{K:ay}(a:PySem.W.nsIn K mainGlobals x=some none)(h:Zs K l):Zs K (x::l):=⟨a,h⟩
theorem KW{K:ay}(X:K.In h)(GM:apj):∀{l:ac_},Zs K l->∀x∈l,mg x=none
 |_::_,z,_,.head _=>ahk X GM z.1
 |_::_,z,x,.tail _ m=>KW X GM z.2 x m
def all_mk{l:ayI}{w:World}{K:ay}{h:Heap}{mg:Str->Option Value}{fa cN cT cX cW cY:Addr}(X:K.In h)(GM:apj)(hfa:mg "law"=some ai7)(D:SS K tb)(Z:Zs K gn)
  (Xn:PySem.W.nsIn K mainGlobals "NoNumber"=some (aku (.ref cN))) (Xo:PySem.W.nsIn K mainGlobals "NoTurn"=some (aku (.ref cT))) (Xp:PySem.W.nsIn K mainGlobals "NoText"=some (aku (.ref cX))) (Uh:PySem.W.nsIn K mainGlobals "NotWithin"=some (aku (.ref cW))) (Xq:PySem.W.nsIn K mainGlobals "YardError"=some (aku (.ref cY)))
  (xi:PySem.W.excIn K cW [.type "ValueError",.type "Exception",.type "BaseException",.type "object"] "ValueError.__new__"=true) (xk:L2.excIn K cW=true) (kv:PySem.W.kitOne K auv (.type "ValueError")=some true) (xm:PySem.W.exmOne K auv auv=some true)
  (k1:PySem.W.kitOne K auv (akE cT)=some false) (k2:PySem.W.kitOne K auv (akE cX)=some false) (k3:PySem.W.kitOne K auv (akE cN)=some false) (k4:PySem.W.kitOne K auv (akE cY)=some true) (zv:PySem.W.nsIn K mainGlobals "ValueError"=some none):
  ∃fd:aka,(∀(s:ab5) (v:Value),BindsTo s fd ⟨[v],[]⟩ [("_law_script",v)])/\∀base:Heap,K.In base->anK->eL l.prog w K mg base rM (7+1) fa fd ["_law_script"] (xD K 1 (run T (7+1) 27)):=by
 have hb:=KW X GM Z;have qx:∀(x:Str) (i:Int),apb->∃t,al_:=λx i hx=>nomatch hx;have cr:∀r∈tb,dG r.2.2.2 (r.2.2.2.take r.2.2.1.par) aFd/\(r.1∈(["_law_refused","is_even","around"]:ac_)\/iU G r.2.2.1.body r.2.2.2 aFd (bD ajl)=true)/\(r.2.2.2.take r.2.2.1.par).length =r.2.2.1.par/\ayg:=λr hr=>by
  have h:=abZ.mp ck r hr;unfold Y9 at h;simp only[aak,adV,decide_eq_true_eq,abZ,aed]at h;obtain⟨⟨⟨⟨⟨⟨⟨⟨h1,h2⟩,h3⟩,h4⟩,h5⟩,h6⟩,h7⟩,h8⟩,h9⟩:=h;exact⟨⟨h1,h2,h3,h4,by rw[h5],h6,h7⟩,h8,h5,h9⟩
 have rd:tb[25]?=some (("_law_refused",41,ql,["_law_inner","_law_outer","_law_which","e","_law_some"]):Row):=rfl;have rw:tb[15]?=some (("refuse_unless_within",26,rn,["inner","outer"]):Row):=rfl;have mI:∀(base:Heap),K.In base->∀(f:Nat) (x:Str),G.1[f]?=some x->xI l.prog w K mg base G T f x:=λbase KB f x hf=>by
  obtain⟨r,hr,rfl⟩:=acq.mp ((aaC ..).symm.trans hf);obtain⟨aU,hr⟩:f<28/\tb[f]?=some r:=by
   rw[aeB]at hr;split at hr
   .exact⟨‹_›,hr⟩
   .cases hr
  have hm:=abb hr;obtain⟨fa,fd,F,a⟩:=vX D r hm;obtain⟨S,ok,l1,l2⟩:=cr r hm;by_cases hf:f=25
  .subst hf;cases hr.symm.trans rd;obtain⟨JC,Y7,F',a'⟩:=vX D _ (abb rw);obtain⟨S',_,l1',l2'⟩:=cr _ (abb rw);have B':=F'.binds (vW Ug _ (abb rw));refine⟨_,_,_,acR X GM a,F.kp,F.binds (vW Ug _ hm),λn ds r z=>JA (d:=ql) rfl l1 ds r z,λn ih=>?_⟩
   have mid:∀(m:Nat),n=m+2->∀(r:Row) (t s0:Stmt) (Ud:alh),r∈tb->r.2.2.1.par=2->bD ajl=s0::Ud->Cs G aFd r.2.2.2 s0 "refuse_unless_within"->Cs G (af (i9 41)) ["_law_inner","_law_outer","_law_which","e","_law_some"] t r.1->
     ∃fa fd ps fx,Cl G mg K (af (i9 41)) ["_law_inner","_law_outer","_law_which","e","_law_some"] t fa fd ps fx/\eL l.prog w K mg base (kJ l.prog w cW) n fa fd ps aip:=λm e r t s0 Ud hm p2 W6 c1 c2=>by
    subst e;obtain⟨fa,fd,F,a⟩:=vX D r hm;obtain⟨S,_,l1,_⟩:=cr r hm;exact⟨fa,fd,_,_,⟨acR X GM a,F.kp,aFp,c2⟩,SR hb qx (ih (m+1) (aho _)) (BN (C:=cW) (d:=rn) hb qx (ih m aiD) F' S' rfl aa8 rfl (Om KB (awr Uh) xi) PySem.F.excBase_ValueError (λX hX=>bX (by rw[hX];decide +kernel)) aa1 l1' l2') F S (l1.trans p2) ⟨acR X GM a',F'.kp,B',c1⟩ W6⟩
   refine Xg (iN:=3) (jN:=4) hb qx ih F S l1 rfl ?fn aa8 aa8 rfl (awr Uh) xm aa1 aa8 (kK.of xk) rfl rfl aa1 rfl rfl aa1 aa1 aa8 aa8 aa8 (ahk X GM zv)
    (by decide +kernel) (awr Xo) aa1 k1 aa8 (awr Xp) aa1 k2 aa8 (awr Xn) aa1 k3 aa8 (awr Xq) aa1 k4 kv
   intro m e s hs;rcases aat.mp hs with rfl|hs
   .exact mid m e ("shares",27,T5,["inner","outer","inner_turns","least_ones","seen","turn"]) _ _ _ (abb (i:=16) rfl) rfl rfl ⟨by decide +kernel,by decide,_,_,_,_,_,rfl,by decide +kernel,λ_=>ajk⟩ ⟨by decide +kernel,by decide,_,_,_,_,_,rfl,by decide +kernel,λ_=>ajk⟩
   rcases aat.mp hs with rfl|hs
   .exact mid m e ("is_even",29,WR,["inner","outer"]) _ _ _ (abb (i:=28) rfl) rfl rfl ⟨by decide +kernel,by decide,_,_,_,_,_,rfl,by decide +kernel,λ_=>ajk⟩ ⟨by decide +kernel,by decide,_,_,_,_,_,rfl,by decide +kernel,λ_=>ajk⟩
   cases aar.mp hs;exact mid m e ("around",30,WS,["inner","outer","carriers","yard","waiting","turn","carrier","made"]) _ _ _ (abb (i:=29) rfl) rfl rfl ⟨by decide +kernel,by decide,_,_,_,_,_,rfl,by decide +kernel,λ_=>ajk⟩ ⟨by decide +kernel,by decide,_,_,_,_,_,rfl,by decide +kernel,λ_=>ajk⟩
  .refine ED.step hb qx (d:=r.2.2.1) ?_ ⟨ajl,fa,fd,_,_,F,S,aFp,acR X GM a,ok.resolve_left λz=>hf ?_,l1,l2⟩
   .show((tb.map λr=>r.2.2.1)++[WT,WU])[f]?=_;rw[abr (by rw[aap];exact(aax.mp hr).1),aaC,hr];rfl
   .have nd:(tb.map λr=>r.1).Nodup :=by decide +kernel
    have e1:(tb.map λr=>r.1)[f]?=some r.1:=by rw[aaC,hr];rfl
    have at_:∀{i:Nat}{y:Str},(tb.map λr=>r.1)[i]?=some y->r.1=y->f=i:=λe2 q=>(List.getElem?_inj (by rw[aap];exact(aax.mp hr).1) nd).mp (e1.trans (q▸e2.symm));rcases aat.mp z with z|z
    .exact at_ (i:=25) rfl z
    .rcases aat.mp z with z|z
     .exact absurd (at_ (i:=28) rfl z▸aU) aa1
     .exact absurd (at_ (i:=29) rfl aGt▸aU) aa1
 have hl:tb[27]?=some (("law",43,Sx,["_law_script","_law_most","_law_size","_law_one","_law_other","_law_outer","_law_inner","_law_ones","_law_others","_law_due","_law_found"]):Row):=rfl;have hm:=abb hl;obtain⟨f,fd,F,a⟩:=vX D _ hm;cases hfa.symm.trans (awr a);obtain⟨S,ok,l1,l2⟩:=cr _ hm;obtain⟨oc,od,kV,gJ,pm,an,du,ct,Cq,rfl,_⟩:=id F.ex;exact⟨_,λs v=> .of_eq rfl,λbase KB _=>EE (n:=7) (f:=27) (d:=Sx) (ps:=["_law_script"]) hb qx (IG (mI base KB) 7) F S rfl (ok.resolve_left aa1) l1 l2⟩
end eQ
namespace PySem.W.Fast
def tw5663411396846448287:=()
def tw18395908915246511760:=()
def tw11796579029852259375:=()
def tw11444316628721035555:=()
def tw6587708578188651961:=()
def tw6684572681221926005:=()
def tw17456757521698081625:=()
def tw6441793281376735525:=()
def tw18272148903019646271:=()
def tw2827772663302289131:=()
def tw10072039883580905484:=()
def tw14352726483814617311:=()
def tw13503273204052534329:=()
def tw6063817233388468603:=()
def tw13274361570703771588:=()
def tw2263304705382993512:=()
def tw9118329798434440765:=()
def tw12005286856235530419:=()
def tw2462052343001724814:=()
def tw11013936048815091660:=()
def tw2653905060148955507:=()
def tw11555461750685622382:=()
def tw18103741573866937280:=()
def tw8755374063885493070:=()
def tw2916561414600159076:=()
def tw17365048384303458652:=()
def tw1762422135359061085:=()
def tw8311839249479726044:=()
def tw17636134849586491823:=()
def tw14553693286637305110:=()
def tw17191697908708525332:=()
def tw17143840345582965292:=()
def tw12819734853195802878:=()
def tw10050604033761223674:=()
def tw7278374287647582009:=()
def tw3026655794520621369:=()
def tw16053255319135590823:=()
def tw15231220351750586089:=()
def tw3361553742913947317:=()
def tw8156361949017239137:=()
def tw829110453752742331:=()
def tw15292645299480434213:=()
def tw12050278365322831636:=()
def tw4215475966278651939:=()
def tw15840839901731866157:=()
def tw16519805495992906781:=()
def tw10103885530852708599:=()
def tw7986230509772099367:=()
def tw8288716663848370239:=()
def tw9607071134312240162:=()
def tw14868880645558612588:=()
def tw15773303723277350989:=()
def tw8676369435274813704:=()
def tw18155157797374988116:=()
def tw14091515272435114536:=()
def tw10954055024559084036:=()
def tw3046229935301918304:=()
def tw4975802545761100082:=()
def tw5734954497710218515:=()
def tw8280602788778902876:=()
def tw13384126757167826605:=()
def tw10493351121456776109:=()
def tw5675521690984029963:=()
def tw171311960617593447:=()
def tw17190198078816703877:=()
def tw1654936323392750227:=()
def tw17250377354653960826:=()
def tw11419273322816568619:=()
def tw5991948092250168270:=()
def tw16841402571111766159:=()
def tw1279623303066137439:=()
def tw848191972515643163:=()
def tw1568062921624401120:=()
def tw13508531009672340241:=()
def tw5136852997866728048:=()
def tw1102592291041662902:=()
def tw10037390589413210187:=()
def tw10736279940279660032:=()
def tw16852451737468679286:=()
def tw1234624876146876050:=()
def tw2439515630125077511:=()
def tw3785547190093113797:=()
def tw13822027119024984741:=()
def tw17034870925578135103:=()
def tw13484240465979044032:=()
def tw734921388073555401:=()
def tw16121355262377592551:=()
def tw13169613484920849614:=()
def tw11645340996608549242:=()
def tw15890032890537834570:=()
def tw4613605607144627033:=()
def tw9845306965709997061:=()
def tw11501617672154604069:=()
def tw14500422287250966779:=()
def tw14689616258084679309:=()
def tw9990307534501014722:=()
def tw17725224367463764492:=()
def tw8709287425872914849:=()
def tw554708342432629452:=()
def tw4319627041153880268:=()
def tw2790278743270985769:=()
def tw10183578376675146949:=()
def tw12685331482454205028:=()
def tw2072470108639128564:=()
def tw5178834859709347622:=()
def tw7096248520937126789:=()
def tw3265143688312862072:=()
def tw4273403014730562612:=()
def tw15321941739481446304:=()
def tw18134597156053015821:=()
end PySem.W.Fast
open PySem PySem.W PyProof.Rows
set_option maxRecDepth 100000 in
set_option maxHeartbeats 0 in
theorem PySem.Challenge.cw_turnyard_k22_whole_shares_holds : PySem.Challenge.rw_turnyard_k22_whole_shares.Holds := by
 w_on;o_law;k_head;(case hw=>w_witness2)
 k_fill
 refine Py.Sa (x:="_law_script") (l:=PySem.Challenge.rw_turnyard_k22_whole_shares) (T:=eQ.T) (n:=7+1) (f:=27) rfl rfl (by decide) (λw h Y=>PySem.W.kIn_of Y) ?F eQ.holds
 case F=>
  intro w mg fa h KX G P9;refine' eQ.all_mk KX G P9 ?D ?Z ?Xn ?Xo ?Xp ?Uh ?Xq ?xi ?xk ?kv ?xm ?k1 ?k2 ?k3 ?k4 ?zv
  (case D=>
   iterate 30 (apply eQ.dhs;(case a=>k_is);(case l=>k_is);(case c=>k_is);(case k=>k_is))
   exact trivial)
  (case Z=>
   iterate 12 (apply eQ.zs;(case a=>k_is))
   exact trivial)
  (case Xn=>k_is)
  (case Xo=>k_is)
  (case Xp=>k_is)
  (case Uh=>k_is)
  (case Xq=>k_is)
  (case xi=>kernel_rfl)
  (case xk=>kernel_rfl)
  (case kv=>kernel_rfl)
  (case xm=>kernel_rfl)
  (case k1=>kernel_rfl)
  (case k2=>kernel_rfl)
  (case k3=>kernel_rfl)
  (case k4=>kernel_rfl)
  (case zv=>k_is)
