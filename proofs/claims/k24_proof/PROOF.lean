import PyProof.Rows.All
import Wide.All
import OpenK.AllK
import Wide.FinOn
import Lean
import PyProof.EqAt
import PyProof.EqKinds
import PyProof.TupleCall
import PyProof.CompFree
import PyProof.WalkInts
import PyProof.StrBlockI
import PyProof.StrBlockL
import PyProof.MeetsSeq
import PyProof.Rows.StrJoinMade
import PyProof.ZipIter
import KE.KRevSl
import PyProof.Rows.StrSplitAre
import PyProof.StrBlockH
import PyProof.Rows.SortRuns
import KE.KSortTup
import KE.KDictSum
import PyProof.DictValues
import PyProof.AttrMissHeap
import PyProof.Rows.SetFrom
import PySem.SetOps
import PyProof.SetScanFacts
import PyProof.SetKind
import PyProof.TupleKey
import PyProof.IsRules
import PyProof.TableCode
import PySem.Challenge.RW_turnyard_k24_whole_kinds
set_option linter.all false
set_option hygiene false
local macro_rules
|`(aa1)=>`((by omega))
|`(aa2)=>`((by decide))
|`(aa5)=>`((Gen (pg s) (· ∈ps)))
|`(ab3)=>`((by decide +kernel))
|`(ab5)=>`((by simp))
|`(ac5)=>`((x==("__debug__":Str)))
|`(ad3)=>`(((cJ items.size 0 lo:Nat):Int)==0&&(1:Int)==1&&(cJ items.size items.size hi-cJ items.size 0 lo)==items.size)
|`(ae_)=>`((setArr av (out.toList.zipIdx.foldl (λa (p,j)=>a.setIfInBounds (sa+k+j) p) (arrOf av))))
namespace Lean
def zn(k:Name)(a:Array Syntax):Syntax:=.node .none k a
def zt(s:String):Syntax:=.atom .none s
def za(c:Array Syntax):Syntax:=if c.size<2 then c.getD 0 .missing else zn ``Parser.Term.app #[c[0]!,zn `null (c.extract 1 c.size)]
def zo:String->Nat×Name
|"->"=>(51,``Parser.Term.arrow)
|"/\\"=>(71,`«term_∧_»)
|"×"=>(71,`«term_×_»)
|"="=>(100,`«term_=_»)
|"=="=>(100,`«term_==_»)
|"<"=>(100,`«term_<_»)
|"<="=>(100,`«term_≤_»)
|"≠"=>(100,`«term_≠_»)
|"∈"=>(100,`«term_∈_»)
|"::"=>(135,`«term_::_»)
|"++"=>(130,`«term_++_»)
|"+"=>(130,`«term_+_»)
|"-"=>(130,`«term_-_»)
|_=>(0,`null)
def zr:List (Syntax×String)->Nat->Syntax->List (Syntax×String)×Syntax
|(l,o)::t,p,x=>if p+p%2<(zo o).1+1 then zr t p (zn (zo o).2 #[l,zt o,x]) else ((l,o)::t,x)
|t,_,x=>(t,x)
def zi(s:List Char):String×List Char:=((.ofList (s.span isIdRest).1),(s.span isIdRest).2)
def zd:Nat->List Char->String×List Char
|n+1,s=>match zi s with
 |(w,'.'::c::r)=>if isIdFirst c then (zd n (c::r)).map (w++"."++·) id else (w,'.'::c::r)
 |x=>x
|_,s=>("",s)
def zp(y:Syntax):Nat->List Char->Bool->List (Array Syntax×Array Syntax×List (Syntax×String))->Syntax
|n+1,s,g,(d,c,q)::r=>let e:=(zr q 0 (za c)).2;match s with
 |[]=>e
 |' '::s=>zp y n s false ((d,c,q)::r)
 |','::s=>zp y n s false ((d++#[e,zt ","],#[],[])::r)
 |h::t=>
  if "(⟨[".contains h then zp y n t false ((#[],#[],[])::(d,c,q)::r) else
  if ")⟩]".contains h then match r with
   |(d',c',q')::r=>let x:=if c.isEmpty then d else d.push e;zp y n t true ((d',c'.push (if h==')' then if d.isEmpty then e else x.pop.foldr (fun a r=>if a.isAtom then r else za #[mkIdent ``Prod.mk,a,r]) x.back! else if h==']' then zn `«term[_]» #[zt "[",zn `null x,zt "]"] else zn ``Parser.Term.anonymousCtor #[zt "⟨",zn `null x,zt "⟩"]),q')::r)
   |_=>e else
  if h=='.' then if g then if t.head!.isDigit then zp y n (zi t).2 true ((d,c.pop.push (zn ``Parser.Term.proj #[c.back!,zt ".",zn `fieldIdx #[zt (zi t).1]]),q)::r)
    else zp y n (zd 9 t).2 true ((d,c.pop.push (zn ``Parser.Term.proj #[c.back!,zt ".",mkIdent (zd 9 t).1.toName]),q)::r)
   else zp y n (zd 9 t).2 true ((d,c.push (zn ``Parser.Term.dotIdent #[zt ".",mkIdent (zd 9 t).1.toName]),q)::r) else
  if isIdRest h then let (w,t):=zd 9 s;zp y n t true ((d,c.push (if w=="_" then zn ``Parser.Term.hole #[zt "_"] else if h.isDigit then Syntax.mkNumLit w else mkIdent w.toName),q)::r) else
  if h=='#' then zp y n t true ((d,c.push y,q)::r) else
  let o:=s.span ("->=/\\×<≠∈:+".contains ·);let w:=String.ofList o.1;let (q,x):=zr q (zo w).1 (za c);zp y n o.2 false ((d,#[],(x,w)::q)::r)
|_,_,_,_=>y
def zz(s:String)(y:Syntax):Syntax:=zp y 999 s.toList false [(#[],#[],[])]
def zb:="
aa0 List Int
aa3 Inv X U σ H s
aa4 model prog w
aa6 bind_some hd
aa7 model X.prog X.w
aa8 List (Addr×Obj)
aa9 Option (Bool×D)
aa_ List aa0
ab0 SX K H₀ ab Z kv kd ow σ H ρ
ab1 starEach (e::es) X.env=(false,eval e X.env)::starEach es X.env
ab2 List Value
ab4 s.heap.get? b=some o
ab6 F 1 [tp p,tp q]=some (tp (comp p q))
ab7 .ref s.heap.objs.size
ab8 Array Keyed
ab9 X.env.cells.lookup x=some c
ab_ Shared
ac0 ax (pg s) M 0
ac1 List D
ac2 arrOf st
ac3 .var 0
ac4 t∈perms s
ac6 ax (pg s) (Gen (pg s) Q) 0
ac7 au K O H vs ds
ac8 .lst (l.map aD)
ac9 cj (pg s) t g
ac_ .ref a
ad0 aam _
ad1 ag.refl _
ad2 Program
ad4 (false,eval a X.env)
ad5 ax (pg s) (Gen (pg s) P) 0
ad6 (x,NameKind.free)∈sc.names
ad7 List V
ad8 iS X sc cl s3.heap.objs.size N' U s3 H3 fp
ad9 List (Rg α)
ad_ vf (tp t)
ae0 h'.get? b=some o
ae1 List Str
ae2 .seq (.asg 2 (.call 26 (.cons (.call 23 (.w 0 (.o (.ci 1)))) (.u 1)))) (.seq (.ifs (.cmp .Eq (.bin .Mod (.call 23 (.w 0 (.o (.ci 2)))) (.ci 5)) (.ci 2)) (.seq (.asg 1 (.ci 6)) (.seq (.asg 2 (.call 32 (.o (.bin .FloorDiv (.call 23 (.w 0 (.o (.ci 2)))) (.ci 5))))) .skip)) .skip) Vl)
ae3 PySem.W.fnOf r.1 r.1 (dG (kM r.2.1)) (bW (kM r.2.1)) (az (kM r.2.1)) .none kV iQ pm an fA ct
ae4 a_ rfl rfl
ae5 .ref it
ae6 .var 1
ae7 iS X sc cl C N' U s H ex
ae8 a.toList.Pairwise (le r)
ae9 .tup (ps.map tp)
af0 Os ab ow
af1 AL s M
af2 X.A.units+64<cLine
af3 LS K H₀ ab a as T σ H ρ
af4 map_some hd
af5 A.handled=none
af6 List (Rg aa0)
af7 List Addr
af8 .tup (.cons (.ci 1) (.cons (.ci 1) (.cons (.ci 2) (.cons (.ci 2) (.cons (.ci 3) (.cons (.ci 0) (.o (.ci 6))))))))
af9 Option Value
af_ aS X hC x h
agF .int i
agG ap.endLine==cp.line
agH X.calm=true
agI Array Value
agJ ks.length=vs.length
agK Option Int
agL a.toList++b.toList
agM List α
agN .lst xs
agO .ListComp eQ [⟨tg,iter,ifs,0⟩] sc pos
agP .int k
agQ .int s
agR .inl rfl
agS b.toList.Pairwise (le r)
agT (cellsFrom (s3.heap.objs.size+1) sc.names []++cl).lookup x=some c
agU aas _ rfl
agV s1.trans s2
agW iS X iD cl C (pT X.N [n] fr) U s H ex
agX List.replicate k none++jL fr σ
agY I.ok.hd hc
agZ PE X e (tV X.K false f)
ag0 Around
ag1 arrOf av
ag2 .seq (.jM 1 (.var 3) (.var 2)) .skip
ag3 nM prog w A E s κ P r
ag4 .bl true
ag5 tp (comp t g)
ag6 starEach [a] X.env=[ad4]
ag7 List Expr
ag8 SetTable
ag9 Ct X G F
ag_ starEach es X.env
aha Option Nat
ahb .prim .len (.u 0)
ahc (a==sysModules)=false
ahd PE X a (tV X.K true fa)
ahe Option Addr
ahf tp (bR s)
ahg .ref p
ahh t.mask+1
ahi .dJ o (.dK kvs)
ahj List Nat
ahk p∈perms n
ahl ji prog w x
ahm cl.lookup x=some c
ahn .cmp .NotEq (.idx ae6 ac3) ac3
aho hx.mono s1
ahp .lst vs
ahq bD n1 n2 n3 n4
ahr F 2 [tp p]=some (tp (ip p))
ahs .Name x px
aht ha pos U s σ H _ I h
ahu ag.upd hp
ahv I1.aR.fresh ad0
ahw s1.heap.objs.size
ahx ((pg s).im r k,r)
ahy vf (tp g)
ahz .bin .Mod (.bin .Mult (.bin .Add (.bin .Add (.call g (.w 0 (.u 1))) (.bin .Mult (.ci 7919) ae6)) (.ci 1)) (.ci 48271)) (.ci 2147483647)
ahA bM G e' X.N X.env.scope x=true
ahB RE s x0 x1 Cr Z (W0++[t]) x5 x6 x7
ahC PySem.W.fnOf x qual (dG st) (bW st) (az st) .none kV iQ pm an fA ct
ahD .dJ o u
ahE intKind prog w
ahF bB (bx s.heap y) (bx s.heap x)=false
ahG k.headD 0
ahH ha U s σ H _ I h
ahI .ref l
ahJ .lst .nil
ahK cj Y t c
ahL ⟨_,agU,rfl,rfl⟩
ahM aw (jc ft fd) [.int a,agQ]
ahN Option D
ahO (x,NameKind.cell)∈sc.names
ahP List (Addr×List Int)
ahQ .Call (.Name x p) (e::es) [] pos
ahR Classical.propDecidable _
ahS arrOf gy
ahT EX K O σ H ρ
ahU h.get? b=some o
ahV SortSt
ahW Array (Int×Value)
ahX .bin .Mod (.bin .Mult (.bin .Add (.bin .Add ac3 (.bin .Mult (.ci 104729) ae6)) (.ci 17)) (.ci 69621)) (.ci 2147483647)
ahY put ρ i true (.lst (xs++[d]))
ahZ .lst (Ts.map tp)
ah0 wX X.env.scope x
ah1 h'.get? b=some u
ah2 NE x0 x1 c t (vf agF) (vf (aP R)) x6 x7
ah3 .seq (.ret (.prim .tuple (.u 2))) .skip
ah4 .comp [] 0 (.it (.var 5)) .nil (.tup (.w 0 (.o (.c ag4))))
ah5 vf (tp r)
ah6 xs.length<=sizeLine
ah7 ns.map V.int
ah8 Loc X.env.scope x
ah9 List (List cD×V)
ah_ EP X U σ Q
aia .var 4
aib .var 2
aic .Compare a [op] [b] pos
aid .lst (ns.map .int)
aie h.own j d' hj
aif dB (pg s) l 0 t
aih .next (put ρ i true (.lst (ws++zs)))
aii .comp [0] 0 (.gJ (.o ahb)) .nil (.fj .index ae6 (.u 0))
aij wpAny aa4 A (pyNext ae5) Q E s
aik ac5=false
ail aab _ e
aim qC ow i (some p)
ain AE (vf e) x1 x2 B (W0++[t]) x5 x6 x7
aio aak.mpr rfl
aip .ref h1.objs.size
aiq o.toList.Pairwise (le r)
air behindInMarks op b=false
ais u∈perms s
ait ag H H'
aiu KA X.N X.env.scope sc N' k fr
aiv Inv X U σ H' s'
aiw B a b c d e
aix A a b c d e
aiy vO CX P w K mg base N qual scope f fA A outer s H E
aiz kvs.length<=sizeLine
aiA foldedSetIterable iter X.env x=pure x
aiB cy rfl
aiC attributeBase o name X.env (eval o X.env)=eval o X.env
aiD F 27 [tp p,tp q]=some (tp (comp p q))
aiE .w 1 (.u 0)
aiF .comp fr tg it ifs eQ
aiG p.map .int
aiH aap (abc hl)
aiI .seq (.ret (.c (.bl false))) .skip
aiJ PassesOwn aa7 X.A X.env X.xe
aiK PE X b (tV X.K true fb)
aiL .bin .Add (.sl (.var 8) .nil (.u 9)) (.lst (.u 7))
aiM bz K O H v d
aiN bx s.heap
aiO arr prog w xs
aiP HT.cJ xs.length xs.length hi-HT.cJ xs.length 0 lo
aiQ .tup (.cons (.ci 1) (.cons (.ci 2) (.cons (.ci 3) (.cons (.ci 4) (.cons (.ci 5) (.o (.ci 0)))))))
aiR .tup (.cons (.ci 1) (.cons (.ci 0) (.cons (.ci 2) (.cons (.ci 3) (.cons (.ci 4) (.o (.ci 5)))))))
aiS aH (ax (pg s) aa5 0)
aiT ow i=some a
aiU o.data= .dict es ep
aiV dC (pg s) M
aiW Array DictEntry
aiX (pg s).im r k≠k
aiY some ac_
aiZ done out na nb
ai0 done out ia ib
ai1 H b=some (.tup (List.map V.int k))
ai2 s3.heap.objs.size+1
ai3 put ρ i false d
ai4 cJ items.size items.size hi-cJ items.size 0 lo
ai5 LE x0 x1 t (vf agF) (vf (aD R))
ai6 .tup xs
ai7 .ref fa
ai8 b≠X.env.locals
ai9 Inv X U bV H' s'
ai_ some (true,.bA 1 (dF s M pre) (mv (dF s M pre)))
aja pairD (p,cU (pg s) M i p)
ajb hf it ab5
ajc aaz e
ajd VL (pg s) l 0
aje H b=none
ajf Bf r κ a₀ av lo
ajg A a b c d
ajh .ref b
aji cP K H a xs
ajj X.fn x=true
ajk Heap.SameBut it s.heap h'
ajl C a b c d e
ajm vf (.lst ((f6 s af1 t).map tp))
ajn ay.mp hp
ajo aw d5 [ae9,agQ]
ajp arrOf cW
ajq aah hk (aaE hi)
ajr L2.upd H a (.lst vs.dropLast)
ajs .inl (.int _)
ajt (AL s M).map tp
aju Sm st av
ajv List (Nat×Nat×Nat)
ajw x= .ref a
ajx wpAny aa7 X.A (f (.int i t) (.int j u)) Q E s
ajy v= .ref a
ajz s.heap.IsSliceOf sl vl vu .none
ajA l.map aD
ajB kM r.2.1
ajC Heap.SameBut a s.heap h'
ajD TE x0 x1 x2 u (vf (aD R)) x5
ajE .gJ (.u 1)
ajF q _ _ (ag.upd hl) (.inl (.lst (.inl ah) (hx.free ad1 hl) ((om pw).mono (ag.upd hl))))
ajG inner [h x] ρ fr
ajH ho U s σ H _ I h
ajI aaj ⟨_,rfl,aaj h⟩
ajJ Y.mul t (Y.inv u)
ajK Y.mul a b
ajL List (Str×Addr)
ajM I.list hq
ajN .w 0 (.u 1)
ajO .comp [1] 0 (.it ac3) .nil (.idx ae6 ac3)
ajP .seq # .skip
ajQ tV X.K false #
ajR bind_some #
ajS put ρ i true #
ajT ev F false #
ajU some #
ajV Gen (pg s) #
ajW .next #
ajX aaf # aa2
ajY eval # X.env
ajZ ForInStep.yield #
aj0 .prim .tuple #
aj1 .lst #
aj2 .cons # .nil
aj3 .cmp .Eq (.bin .Mod ac3 (.ci 3)) #
aj4 AE x0 x1 x2 # W ad_ ahy (vf ag5)
aj5 .BoolOp (bo k) # pos
aj6 FE x0 s W ah5 # x6
aj7 ZE Ts s x2 (vf agF) acc (vf (.int p)) #
aj8 ae ae4 # (af _)
aj9 .bin .Mod ac3 #
aj_ envOfC qual scope s.heap.objs.size f #
aka .call # (.u 1)
akb .tup #
akc inner # ρ fr
akd ax (pg s) # 0
ake aag _ #
akf .inl #
akg put ρ i true #
akh f6 s af1
aki .builtin id
akj aao.mp #
akk List (κ×V)
akl p∈perms s
akm k _ _ agR e
akn ji prog w x.2
ako iH (DK (EU (EU (Jj rfl rfl (Jk aa2)) (Jj rfl rfl (mT _ aa2 aa2))) rfl) rfl aa2)
akp H p=none
akq FuncData
akr (p,cU (pg s) M k p)
aks .comp [] 0 (.it (.var 5)) # (.idx ac3 (.ci 0))
akt qC ow i none
aku L2.upd (L2.upd H6 Jg (.dK [(Sum.inl ki,v)])) p (aj1 (as.map V.ref++[.ref Jg]))
akv At t x K
akw AL s aa5
akx EU # (Jj rfl rfl (mT _ aa2 aa2))
aky some (true,.lst (acc.map tp))
akz bB ((k::ks).getD i []) ((k::ks).getD j [])
akA absurd hk (abl _)
akB Option PySem.Fin×Unit
akC Ms r a b out i j
akD Mh r a b out i j
akE B a b c d
akF tV X.K m #
akG map_some #
akH L2.upd H1 p #
akI jf P w H h
akJ abD e_
akK .bool true
akL .ret #
akM SX K H₀ ab Z (v::kv) (d::kd) ow σ H ρ
akN I.tok _
akO .Call # [a] [] pos
akP some (true,.lst (W.map tp))
akQ ajU hs.length
akR adK _ (acz _)
akS aaZ _ _ _
akT aaP _
akU .ci 1
akV (pg s).im t i
akW upd H s.heap.objs.size #
akX .ref #
akY put ρ # true (aj1 l.dropLast)
akZ aah # (aap (abc lp))
ak0 x= .Call fn args vN p
ak1 vf (tp p)
ak2 run T (n+5)
ak3 kindOf st=κ
ak4 h.get? b=some u
ak5 gE as H1 H3
ak6 ev F true a ρ=some d
ak7 List (List cD×Addr×Value)
ak8 KV kvs vs
ak9 H1 p=none
ak_ D a b c d e
ala Bg t.mask x
alb .var 6
alc (true,.lst ((a::r).map tp))
ald wpS_bind (wpS_modify (wpS_bind (wpS_get (wpS_pure (Pw out av rH wx hS)))))
ale ⟨_,_,_,_,rfl⟩
alf s.heap.objs.size+1
alg o.toList.Perm agL
alh gD s.heap d es ep
ali dB Y l i t
alj X.A.units+1<cLine
alk VL Y l i
alm Option ac1
aln C a b c d e f
alo B a b c d e f
alp A a b c d e f
alq (x,D.bl true)
alr t.probeStart #
als Y.im t i
alu s.heap.get? a=some o
alv runEnd t.mask x.1-x.1+1
alw abr (aaE hk)
alx aba _ _
aly aaw _ (aaw _ (f7 hb e))
alz .bin .Mod (.call g (.w 0 (.u 7))) (.bin .Add (.prim .len (.u 8)) akU)
alA X.base.get? b=some o
alB Value.ref l==Value.none
alC Value.ref d==Value.none
alD .dT kvs
alE .dK kvs
alF (cu k).mp ht
alG Mr # n1 (F f) (cX (c9 x) (cX (Ha y) ni))
alH bD hi hv Dt nu
alI .var 7
alJ xs.map tp
alK he U s σ H _ I h
alL h.ex.kK j o d' hj
alM cell ns k
alN aaJ (aah ajc (I.ok.NU x c SR hc))
alO PA X (e::es) t
alP Option Bool
alQ C a b c d
alR At t x l∈t.place.toList
alS (snd it).i X hC.ct _ iter h5 true
alT (f ρ).bind fE
alU .Subscript # (.Slice lo hi none p2) pos
alV pre++[t]
alW I.base.free b o e n hx
alX s1.heap.objs.size+1
alY r∈perms s
alZ g∈perms s
al0 (false,vf (aP R),vf (aj1 ((TL (pg s) (R::pre.reverse)).map tp)),z4)
al1 fX Y M i p x
al2 f6 s af1 t
al3 aH ac0
al4 X.s₀.heap.objs.size<=b
al5 Heap.ExtBut it s.heap h'
al6 H a=some u
al7 H a=some ahp
al8 .Name y py
al9 Py.put ρ i true #
al_ tupleKind_room_in1 hu
ama comp t g
amb akb us
amc aj1 ((bE r l).map tp)
amd TupAt H
ame R.map pairD
amf PySem.W.fnOf name qual params body scope dV kV iQ pm an fA ct
amg Nat×Nat
amh .int #
ami .bY # (.prim .list (.u 0))
amj xs.length<=bX
amk jz.setG
aml jO F x y r f c2 m c3 p q u g w
amm h.get? a=some o
amn ev F true a ρ=some agF
amo es.size=kvs.length
amq decide (kv.1=k)
amr X.N.Nodup
ams Walks prog w A.in1 I fp wr n P St
amt So r ag1 lo (lo+n)
amu RelV v u
amv Ms r a b out ia ib
amw Mh r a b out ia ib
amx List Stmt
amy Kn s M
amz IntsAre items.toList ns
amA H s.heap.objs.size=none
amB C a b c d e f g
amC BindsTo s fd ⟨[u],[]⟩ [(x,u)]
amD B a b c d e f g
amE A a b c d e f g
amF .int (drawn a k)
amG .Call (.Attribute o name jF) # [] dq
amH x∈d.2.1
amI model P w
amJ ajU v
amK abo _
amL .ci 0
amM hp.mem_iff.mp #
amN aao.mpr #
amO .cmp .NotEq # ahJ
amP .call # aiE
amQ .bin .Mod # ae6
amR A a b c
amS .bin .FloorDiv ac3 #
amT base.Ns mainGlobals mg
amU aap (abc aI)
amV ItemsOf (OZ a c) acc n
amW .var 3
amX (add l k ahx).map aD
amY .inr #
amZ vs++[v]
am0 vals1 r
am1 jF.endLine==dq.line
am2 gF t ks vs
am3 cP K H a vs
am4 cO K H a xs
am5 Y.inv a
am6 I.tuple hq
am7 E a b c d e
am8 Builtin.Range.rangeSize a b c=n
am9 .comp [4] 0 ajE (.o ahn) ac3
am_ .UnaryOp .Not a pos
ana (snd e).e X hC.ct _ h5 false
anb (eN s M pre).map kD
anc xs=[ahg]
ane some (D.int z)
anf le r y x
ang le r x y
anh as.map V.ref
ani aF xs us
anj RelV y u
ank .BoolOp # (a::b::ba) pos
anl vD X.K false g
anm ev F true a ρ=some x
ano akX f
anp abl _
anq aF xs its
anr PE X a ta
ans List Keyword
ant I.aR.fresh ad0
anu D a b c d
anv Builtin.Range.small a b c=true
anw (false,eval a0 X.env)
anx (d==sysModules)=false
anz (bE r (add l k ahx)).map tp
anA tV X.K true #
anB cN (pg s) M #
anC add l k #
anD L2.upd H a #
anE .cmp .Eq (.bin .Mod (.call 23 (.w 0 (.o (.ci 2)))) (.ci 5)) #
anF .Assign [ahs] # pos
anG σ.set i (ajU ahg)
anH aah ajc I.ok.above
anI aw # [gn ns,agP]
anJ t.advance p
anK akf (.bl _)
anL abD hb
anM F g [.int a,agP]=some (amh y)
anN Bm (abc lq) (Jy h1.1 h1.2)
anO Binds K fd ps []
anP B a b c
anQ .for [2,3] 2 (.Ba ac3) ag2
anR .comp fr 0 (.it a) .nil el
anS .bA t ks ds
anT .Name x pos
anU .comp fr 0 (.it a) # el
anV .call # (.u 0)
anW wpS aa4 A E s x Q zt
anY wpS aa4 A E s x Q st
anZ gt ac2 j
an0 List (Str×NameKind)
an1 vD X.K true g
an2 tp ac9
an3 tV X.K true (ev F true a)
an4 sc.names.lookup x=some .cell
an5 sZ K H a as T
an6 pR 0 hi.toNat
an7 hi U s σ H _ I h
an8 hS.k.trans hk
an9 hC.fn _
an_ h U s σ H _ I hw
aoa cj (pg s) w g
aob binaryOp .Add
aoc akb (k.map V.int)
aod akX c
aoe ag.upd hl
aof abW.mpr ⟨decide_eq_true h1,decide_eq_true h2⟩
aog abV _ _
aoh abO _ _
aoi aV X.prog X.w
aoj NameKind.cell
aok L.si ha
aol IsRange s.heap r a b c t u v
aom IntsAre vs ns
aon I.base.keep b o e n hb hx
aoo H b=some (akb (kv.1.map kV))
aop E a b c d e f
aoq D a b c d e f
aor .cons a r
aos d= .lst ds
aot H b=some u
aou At t x k
aov .ListComp eQ [⟨target,iter,ifs,0⟩] scope pos
aow ⟨_,rfl⟩
aox ys.length<=sizeLine
aoy vf agP
aoz vf (tp u)
aoA v= .ref b
aoB plainId_quiet abZ _
aoC h.Ns mainGlobals mg
aoD ev F true c ρ=some (amh j)
aoE env.cells.lookup y.1=some c
aoF eb b o hb e
aoG bX=16777216
aoH b=s1.heap.objs.size
aoI Ts.length<=1000
aoJ Option V
aoK List β
aoL H' b=none
aoM At gy av lo (lo+fq)
aoN Array af9
aoO AllBare s'.gens
aoP .sl (.var 8) (.u 9) .nil
aoQ .call ai7 ⟨[ac_],[]⟩
aoR (sb.2 b hb).trans e
aoS (p,u)∈R
aoT start N vs
aoU bT 0 s
aoV args_list_sort _
aoW aj1 ds
aoX aV P w
aoY NJ Y P (Gen Y Q)
aoZ At t ahl K
ao0 .call f es
ao1 wpAny aa4 A (Builtin.SmallTypes.nextOf ae5) Q E s
ao2 out.toList.Pairwise (le r)
ao3 akX t
ao4 ajW (akg (.bA d.1 (d.2.1++[x]) (d.2.2++[y])))
ao5 ajS (.lst (xs.set j d))
ao6 abk _
ao7 abC _
ao8 .idx ae6 ac3
ao9 hC.mg _ #
ao_ .tup (cP.of ah) #
apa .int # t
apb .call 1 #
apc .call # ajN
apd .BoolOp # (b::ba) pos
ape wpS aa4 A E s (cb left key arr base n hint) Q st
apf vf agQ
apg some (true,.lst ((eN s M pre).map kD++[kD al2]))
aph put (ρ.set j (ajU (false,agN))) i false agN
api l<s.heap.objs.size
apj jN ρ x=true
apk agG=true
apl SortKind
apm O.refl _
apn List Env
apo List (cD×V)
apq H a=some ahi
apr .cons # (.cons (.ci 4) (.cons (.ci 5) (.o (.ci 3))))
aps tU (ajT ac3) (ajT (.call 0 (.u 1))) [1] ajo
apt r= .ok (akL (.bool true))
apu pP prog w t xs
apv f9 it ρ
apw env.cells.lookup x=some c
apx bz K af0 H v d
apy bz K O' H' v d
apz aah zM (aap (abc len))
apA X.s₀.heap.get? b=some o
apB List Bool
apC H b=some (akb (k.map kV))
apD C a b c
apE Array.replicate ahh none
apF .sX q es
apG (true,.lst [])
apH (s1.trans s2).trans s'
apI SX K (L2.upd H₀ a ahD) ab Z kv kd ow σ H ρ
apJ gt ahS #
apK y.2= .free
apL some (true,.lst ((Bk s pre (eM ac6)).map tp))
apM runEnd t.mask x.1-x.1
apN run T (n+2)
apO ps.map tp
apP jE X.prog X.w X.K X.mg X.base CX k f fd ps sp
apQ i<=a.size
apR i+1+ia+ib<=a.size+b.size
apS ho U s1 σ H1 _ I1 q1
apT he.es X hC xs h false
apU h1.get? b=some o'
apV h'.get? b=some o'
apW gF 0 (ks++[[ki]]) amZ
apX g i j
apY f i=false
apZ cB G F es
ap0 au K af0 H1 vs ds
ap1 amY ⟨e1,u',e2,e3⟩
ap2 ake hy
ap3 ajU i
ap4 ace.mp hy
ap5 String
ap6 Rg aa0
ap7 Q ahI (upd H l (aj1 us))
ap8 PE X e te
ap9 Option Expr
ap_ E a b c d
aqa Array Nat
aqb (aS X hC x h).2 m
aqc (K w.params).In h
aqd upd H # (aj1 us)
aqe xs.getD i (0,[])
aqf xG h1 (xR rfl)
aqg args_sorted1 _
aqh aj1 (A.map tp)
aqi aap (abc this)
aqj (n::ns).getD i 0
aqk uz as H1 H3
aql t σ H Q
aqm sp vs H Q E
aqn rJ r xs s l e
aqo keywordEach [] X.env
aqp ie a s x2 made x7 x9
aqq e.2∈perms s
aqr dQ F true es ρ=some xs
aqs cB G F a
aqt bz K O' H v d
aqu aaw _ aio
aqv VL (pg s) l i
aqw S.dr X.prog X.w X.A.in1 its.toArray agY
aqx KT H kvs xs
aqy J.Bw i H x H'
aqz HT.cJ xs.length 0 lo
aqA H l=none
aqB Gen Y Z ahK
aqC F8 as H1 H2
aqD F f ds=some d
aqE F a b c d e
aqF .ListComp el gs iD p
aqG (hf b hb).1
aqH tV K false #
aqI put # 4 true (.lst ((W0++[t]).map tp).dropLast)
aqJ pT # [n] fr
aqK of_decide_eq_true #
aqL compareOp #
aqM bH aiB # rfl
aqN AE # x1 x2 B' W' ad_ y6 y7
aqO .comp fr 0 # ifs eQ
aqP h1.get? b=some o
aqQ h.get? it=some o
aqR decide ((n::ns).getD i 0<(n::ns).getD j 0)
aqS b≠h1.objs.size
aqT au K O' H' vs ds
aqU Value.ref c∈vs
aqV Paired amd us ks
aqW sb+pC
aqX s.heap.IsTuple l items
aqY hx.mono agV
aqZ gF 0 ks vs
aq0 ev F false e ρ=some d
aq1 amY ⟨j,z⟩
aq2 ajX (pj h6 k)
aq3 ajW ρ'
aq4 ajW (akg agN)
aq5 ajW (AE (vf e) x1 x2 B' W' ad_ y6 y7)
aq6 ajP (akL aib)
aq7 L.si hg
aq8 L.si hb
aq9 K w.params
aq_ Ip r ta tb
ara .ref s1.heap.objs.size
arb .bool (lexLt ns ms)
arc .Tuple elts k0 tpos
ard ((aB tg y).bind (cF ρ is)).bind (ex F b)
arf ae aiB # (cq _)
arh .bY # ahJ
ari xs.map h
arj wpAny aa4 A (getItem ao3 (akX sl)) Q E s
ark lZ iD sc
arl l9 s i p
arn l.map aP
aro ajW [ak1,vo ((ip p).map .int),x2,x3]
arp B++[ama]
arq AE (vf e) apf (vf ahf) B [] y5 y6 y7
ars FE x0 s # x4 x5 x6
art ⟨_,agU,rfl⟩
aru y= .ref b
arv s.heap.get? b=some o'
arw s.heap.IsList t items
arx qw 0 (kT F true ifs) (ajT eQ) fr ρ
ary o.data= .set aiO ep t
arz intsAre_of rv
arA ib<b.size
arB i<kvs.length
arC gD h d es ep
arD ev F true e ρ=some d
arE cJ items.size 0 lo
arF akb (.w 5 (.o (.prim .min (.u 6))))
arG ajW (RE s x0 x1 Cr Z' W' ad_ y6 y7)
arH aj1 (nr.map V.int)
arI absurd z aa2
arJ aG d=true
arK Paired R l m
arL KE s M pre ad_ y.2
arM IsT prog w s.heap x c
arN IsT prog w s.heap k b
arO Hm Y M (R::l) i
arP H l=some agN
arQ G a b c d e f g
arR F a b c d e f g
arS E a b c d e f g
arT D a b c d e f g
arU Array aha
arV A.units+1<cLine
arW .tup [tp x,ag4]
arX .seq (.ifs (aj3 (.ci c)) t .skip) w
arY .Subscript o i pos
arZ .Assign [.Subscript ahs ke o] e pos
ar0 (true,.lst ((cN (pg s) M i).map pairD))
ar1 (fa ρ).bind fE
ar2 σ.set i amJ
ar3 vf agF
ar4 mE out ia ib
ar5 D a b c
ar6 jU out na nb
ar7 ib<=b.size
ar8 ia<=a.size
ar9 f i=true
ar_ ex F b ρ'
asa cJ items.size items.size hi=items.size
asb c.1=some o
asd beq_eq_false_iff_ne.mpr (abD (aaJ hb))
ase akj ((sortI_perm _).mem_iff.mp hx)
asf ajP (akL (.idx ae6 (aj9 (.ci 5))))
ash agt (adG bj)
asi RelV x v
asj Option ahN
asl Heap.ExtBut s.heap.objs.size s.heap h'
asm .idx aib amW
asn .idx aia alb
aso .idx ac3 ae6
asp (aaT _ _ (abD b2)).trans (k2 b o b1 e)
asq wpAny M A (storeName X.env x u) Q E s
asr upd H1 s2.heap.objs.size (aj1 [])
ass upd H a o
asu small_one aa2 aa2 LL (acW hl aa2)
asv s_ hu aa2
asw s.heap.get? b=some u
asx rv.seq h1
asy ps.zip us
asz o.data= .set es ep t
asA kU.next _
asB d.params.defaults=[]
asC bs.all id
asD br.iT a r
asE az st
asF aw MW [aH l,aH m]
asG aw MV [tp t,tp g]
asH akL d
asI aah hk hi
asJ Option (List D×Env)
asK OldK aY.heap s'.heap
asL IsTup s.heap t items
asM IsTup s.heap l items
asN .sX .tuple (.u 1)
asO .lst (hl _ _ h n).1 (hl _ _ h n).2 ih
asP .idx (.var 5) amL
asQ (x,i)∈G.2
asR (false,eval e X.env)
asS (br.aZ ks).map md
asT tC X.K #
asU PySem.W.methodObj ano #
asV .Constant # j pos
asW gw ρ y=some l
asX c=(none,lo,hi)
asY bN K O b H v d
asZ au K O H xs us
as0 a.toList.take i++b.toList.take j
as1 Pt a b out i j
as2 Ph a b out i j
as3 PE X e (akF f)
as4 .int a
as5 .call ft (.cons (amP fd) (.u 2))
as6 call # [ahI]
as7 argBest bt #
as8 ⟨ahL,hl.push _⟩
as9 vs.length=ps.length
as_ vs.length<=sizeLine
ata tP xs lo hi
atb s2.trans s3
atc run T n
atd r0 d t es ep s.heap
ate put ρ x true v_
atf l.Nodup
atg j∈(insertAt t.place p akv).toList
ath jm s.heap v
ati jf X.prog X.w H' h'
atj ia+1<a.size
atk i<vs.length
atl hv.st e.1 e.2 he
atm cO K H a vs
atn bubble ajp (lo+k) (lo+k-(lo+l))
ato b<s2.heap.objs.size
atp assign al8 X.env
atq ake hb
atr akc ys
ats akb (p.1.map kV)
att ajU ahs
atu aj1 (M.take t++[agP]++M.drop t)
atv ag H H1
atw aap lp
atx TP X U σ Q
aty TE (vf ac8) aoy aoz u none none
atz Rz b o e hx
atA List (List Int×D)
atB H₀ b=none
atD H Y l t
atE FE (vf ae9) s ps none none none
atF .var i
atG .it aib
atH .it ae6
atI .bA o ks vs
atJ .Name x q
atL (fr (tp b),fr (tp (cm (pg s) b a)))
atM yr K ps.length (run T (n+1) f)
atN uA (ajQ (ajT k)) (ajQ (ajT v))
atO layClean t.mask hs.toArray=some ow
atP ks.getD i []
atQ ho U s2 σ H2 x y v u Q I2 rx ry q
atR Shared.heap ⟨hp,g,d,tk,os⟩
atU Option (Bool×D)×Option (Bool×D)
atV AE (vf e) x1 x2 B W0 ad_ x6 x7
atW .cmp .NotIn (.idx amW aia) alb
atX (dQ F false es ρ).bind dw=some xs
atY starEach # X.env
atZ Py.inner # ρ fr
at0 .ifs # aiI .skip
at1 .bin .Mult # aib
at3 .Call # [] [] cp
at4 .BinOp a # b pos
at5 xs.length<sizeLine
at6 x= .ref l
at7 truthy v
at8 some true
at9 oC a as H₀ H'
aua mg d.name=some ai7
aub k _ _ ad1 ajs
auc j<=b.size
aud it t k0 (alr x)
aue iX Y t i
auf hE (Gen.of L (hK _ hk) hk) ih
auh ev F b a ρ=some x
aui comp p q
auj b∈a::as
auk arrOf zt
aul akb (ks.map kV)
aum adD hi (aaS bj)
aun absurd hl anp
auo Z++[ac9]
aup RelV x u
auq Q' (ajU k) av
aur PE X b tb
aus Option kU
aut List Row
auu List (Str×V)
auv Gen Y Q c
auw G a b c d e f
auy F a b c d e f
auz Binds X.K fd ps []
auA At st av lo (lo+n)
auB An t.mask
auC Am act b G t D B W
auD .not (.call 11 (.w 3 (.u 7)))
auE .int lo t
auF .int hi u
auG .gJ 0 hi
auH .Tuple es k pos
auI (setT ρ y).bind b
auJ (eM ac6).map tp
auK (eM ac0).map tp
auL (a.toList.drop i).Pairwise (le r)
auM upd H p #
auN h.ex.live b #
auO F a b c d
auP L.sm hh #
auQ L.sm # ht
auR r1.mono s2
auS ps.length<=6
auT out++(b.extract k j).reverse
auU out++(a.extract k i).reverse
auV jl I.aR eb
auW inner ys [ak1,vf (tp q)] [1]
auX h1.trans z
auY b.extract 0 j++a.extract 0 i
auZ apJ (lo+k)
au0 apJ (lo+i)
au1 a.extract 0 i++b.extract 0 j
au2 SX K H₀ ab Z kv kd kL bV H ρ'
au3 RE s x0 x1 Cr Z W ad_ ahy x7
au4 OT ab a as
au5 L.sm ha hb
au6 I.gu x c e
au7 H y.1=some (akb (y.2.map V.int))
au8 720-nT s Z
au9 .v5 3 1 (.w 2 (.o (.c ag4)))
au_ .comp [3] 0 (.dk 4) .nil ao8
ava (ow.getD (x.1+k) (ajU 0)).isNone
avb xs.length<=t.mask
avc wpS aa4 A E s (mergeAt' i) Q st
avd vf (aP R)
ave tU fk fv fr ρ
avf r1.own.mono s2
avg qV X.prog X.w X.K tg J fp it tn
avh pyNext (akX I)
avi mg x=some (apa i)
avj kP X U H b
avk iZ ((List.range i).map val)
avl hs.length<=t.mask
avm fr (tp t)
avn fX (pg s) M i p x
avo comp w e.2
avp bM G apF X.N X.env.scope x=true
avq aj1 (B.map tp)
avr acy (abG hd _)
avs absurd z (no i j)
avt SX X.K bI ab Z Jd Je ow σ H ρ
avu Os ab ow b
avv Os ab ow a
avw H e=some (.own x)
avx H Y l (Y.mul u v)
avy E a b c
avz .cons a (.o c)
avA .cmp .Eq (.idx alI amL) alb
avB he.es X hC _ # false
avC eval # env
avD ev F m #
avE es.toList.map #
avF ae aiB # (af _)
avG Obj.mapFields #
avH .cons akU #
avI .cons (.ci 3) #
avJ .cons (.ci 2) #
avK .call 27 #
avL .Dict [some ke] # dp
avM wpAny aa4 A (pyIter ae5) Q E s
avN vf ag5
avO vf (akb ajt)
avP ns.length<=n
avQ hc U s1 σ H1 vs us Q I1 r1 q1
avR h.DictOfH (tupleKind aoX) a xs
avS gH G d.body N asE (bW st)=true
avT fm m p.1 p.2
avU eM ad5
avV eL K O H a d
avW dQ F false es ρ=some [.int n]
avX c=(none,l,o)
avY akj hx
avZ ake hz
av0 akb ys
av1 ajX h6
av2 ajW ρ
av3 aj1 ((br.aZ d.2.1).map md)
av4 acT h0
av5 .cons (.ci 2) #
av6 absurd z aai
av7 a.setIfInBounds (sa+k+p.2) p.1
av8 W++[t]
av9 V (pg s) i R
av_ TupIs h v ns
awa St l u
awb Mc G c X.N X.env.scope st=true
awc IsPart vu hi
awd IsPart vl lo
awe Gy G e' X.N X.env.scope x=true
awf F 6 [ac8,agP,tp u]=some (tp x)
awg EL.names.lookup y.1=some .cell
awh .gJ es
awi .dT []
awj xs.length+zs.length<=sizeLine
awk wpAny aa7 X.A (ajY anT) Q E s
awl vs.toArray.zip vs.toArray
awm uy s.heap it l i
awn tp (ip p)
awo sc.names.lookup x=some .local
awp run T n f
awq run T 7
awr rm .tuple
aws ml k u hu
awt mC nd rfl (sk hl).1 (sk hl).2
awu hx.own i _ Jb
awv hp b hb
aww hk U _ σ _ _ I0 (h _ hn)
awx hS t ht
awy hS g hg
awz h'.get? e=some u
awA gt ajp (lo+k)
awB failedOf av=none
awC ev F true a ρ=some (aj1 alJ)
awD bs.getD i false
awE base+n<=arr.size
awF bZ q hn
awG bL ns.1
awH arrOf s
awI anC (p,r)
awJ amh (Bi ns k)
awK all=pre++x::post
awL ajV Q
awM ajU (o,d)
awN acd akT
awO aaU akR
awP R6 prog w
awQ PySem.W.codeIn K fA qual=true
awR PS X sr (pG (alG X.K) (cQ r))
awS PA X (e::es) an1
awT Os ab aim
awU List (κ×Value)
awV L.si sa
awW L.si s2
awX L.si hc
awY IsT prog w h k c
awZ EX X.K O σ H ρ
aw0 .sset a
aw1 .it ac3
aw2 .inl ah
aw3 (snd c).t X hC.ct x h1 h2
aw4 (br.aZ (S2.iZ ks)).map md
aw5 upd H l #
aw6 hx.ex.kK i true _ #
aw7 ae ae4 # rfl
aw8 aaA _ #
aw9 Option.map #
aw_ O.of_lt #
axa Gen (pg s) #
axb FE x0 s W ah5 # aoy
axc .comp # 0 (.it aia) .nil (amP 31)
axd upd H4 p (aj1 (xs++[v]))
axe t.slot (it t k p).j = .empty
axf letOwnedTupleGo tg ae5 u
axg ev F false el ajG=some (g x)
axh ev F false a ρ=some (.bl k)
axi c=some o
axj anC (Y.im ali (i+k),ali)
axk aF vs us
axl LM (pg s) (l.drop (k+1)) u x
axm Gen.of ai (qk v h) (aaw _ h)
axn Fc P w K mg base A outer s H
axo F 3 [ac8,tp t]=some (tp aif)
axp .int 1 v
axq .bY 2 (.sX .list (.u 1))
axr (intKind prog w).is k v=true
axs yj # t.place i
axt rawInt #
axu hb.ss X hC a #
axv .seq (arh 2) #
axw .for is tg # b
axx .cons # (.u 1)
axy .cons # (.u 0)
axz .call # (.u 3)
axA .asg 2 #
axB xs.length-(i+1)
axC x= .int i
axD v= .bl true
axE upd H1 a ahD
axF turns t.mask
axG s1.trans ahu
axH runEnd t.mask x.1+1-x.1
axI r.2.2.2.length=r.2.2.1.kK
axJ q∈perms n
axK qS aY.heap H
axL out++b.extract j b.size
axM out++a.extract i a.size
axN nE i j=true
axO lR X (aqL op) r
axP h.get? d=some o
axQ gt ys i=gt xs i
axR fQ K O H iw
axS dC Y M
axT comp r u
axU bc e=true
axV aw gp [tp p]
axW asT (ex F c)
axX ajW (akg (.bA 1 [] []))
axY aab _ q
axZ aaY.mp hj
ax0 aaJ ajc
ax1 a.setIfInBounds (o+p.2) p.1
ax2 Y.im (Y.inv u) (Y.im u k)=k
ax3 Wk w t es
ax4 PySem.call f vs
ax5 PySem.W.keepIn X.K ano=true
ax6 PySem.W.keepIn X.K ai7=true
ax7 PySem.W.OpenLaw
ax8 PT X a tA
ax9 PI X tg iter wi
ax_ PE X o to
aya PE X a (ajQ fa)
ayb Option α
ayc L.sm aq8 aok
ayd Inv X U σ H s'
aye Gl X x
ayf Gen Y Z t
ayg G a b c d e
ayh .bl false
ayi (true,.lst acc)
ayj (p1.append p2).mono ahu
ayk (hs.2 b (aaJ anH)).trans e1
ayl (F 3 [ac8,tp t]).bind _
aym gt xs #
ayn .seq # (ajP (akL (aj0 (.u 1))))
ayo .Subscript a # pos
ayp s.heap.IsList l vs.toArray
ayq p2 v (e2.mem_iff.mp m)
ayr out++b.extract j (j+k)
ays out++a.extract i (i+k)
ayt lo+(n+1)
ayu its.toArray.size=xs.length
ayv hp _ ao7
ayw hb _ ao7
ayx ha _ ao7
ayy gt ag1 k
ayz f_ left key arr base i
ayA cm Y a b
ayB bits x
ayC bits h
ayD ay.mp hq
ayE ax Y M 0
ayF auM (aj1 (xs.set j v))
ayG args_tuple_getitem _ _
ayH aj1 ((br.aZ B).map tp)
ayI ace.mp z
ayJ PE X r (anA (ev F true b))
ayK .pop 5 4
ayL .idx a i
ayM .asg i e
ayN .Dict [some k] [v] pos
ayO (ev F false e' ρ).bind fE
ayP (ev F false e' ρ).bind eV
ayQ (List.range n).map val
ayR xx.map Sum.inl
ayS xs++ys
ayT starEach [a0] X.env=[anw]
ayU seq d=some ari
ayV sb+nb
ayW sZ K H' a as T
ayX s.heap.IsTupleIter it l i
ayY run T (n+3)
ayZ q H1 s1
ay0 put (akY j) i false z
ay1 o.data= .seq xs.toArray n
ay2 ns.map .int
ay3 lp t.mask x
ay4 lo+n'
ay5 lo+hi
ay6 hv U s1 σ H1 _ I1 q1
ay7 hi U s1 σ H1 _ I1 q1
ay8 hb U s1 σ H1 _ I1 q1
ay9 h.objs.size<=a
ay_ h pos U s σ H _ I hq
aza gC ρ y=some l
azb fZ h6
azc es.all bc=true
azd eE h6
aze dg xs
azf d.2.1++[xx]
azg c_ d.1
azh akj h
azi akf hf
azj ake hx
azk akb [agF,x]
azl akX d
azm akH u
azn ajU u
azo ajR mz
azp aj6 x5
azq aj1 ys
azr aj1 es
azs acc.toList.length=es.size
azt abw _
azu aap hl
azv aaS hi
azw aaE hi
azx X.env.kindOf x=some .free
azy X.env.kindOf x=some .cell
azz W 0 m (upd H1 p (aj1 []))
azA Sum.inl i
azB PySem.W.keepIn K ano=true
azC PySem.W.keepIn K ai7=true
azD PG agW (.Name n q) (cQ 0)
azE Iz xs i=some v
azF H1 s1.heap.objs.size=none
azG Gen Y (St l) x
azH Gen (pg s) Q c
azI At.mirror aa1 aa1 aa1
azJ Array GenState
azK .zO neg k i
azL .fj mm o es
azM .dK []
azN .ci 5
azO (p,cU Y M i p)
azP ha U s σ H # I h
azQ gt ac2 #
azR a_ # rfl
azS TL (pg s) #
azT NC (pg s) # Q
azU AE x0 x1 x2 arp # ad_ ahy avN
azV .seq # c
azW .int # s.toks
azX .Call # [e] [] cp
azY .BoolOp # [a] pos
azZ wK P w K mg base G T f x
az0 vf ahf
az1 tI X.K m (nG F m e')
az2 s.heap.get? p.1=some p.2
az3 s.heap.Ns X.env.locals m
az4 run T n f [aid]=some ag4
az5 r2.int
az6 q n _ n1 n2 .rfl' s1
az7 ow.setIfInBounds j akQ
az8 jA.new _ _
az9 ho.e X hC oe h5 true
az_ he.es X hC _ h6 true
aAa fin its r' hz h' c' kp e
aAb ev F false e ρ=some agN
aAc ev F false e ρ=some ag4
aAd c=(none,out,ia,ib,g,n,m)
aAe c=(none,ia,ib,out,g,n,m)
aAf auN (amY ⟨i,hb⟩)
aAg aah hi (aap (abc l))
aAh aP (anB i)
aAi Reads s.heap u (gG d) as
aAj Rd H a alE
aAk Rd H a alD
aAl Ow t ow hs
aAm J.stop i H
aAn IntsAre items2.toList ms
aAo I.bare
aAp H a=some o
aAq FZ prog w A.in1 T g P bt
aAr C2 _ H2 (LR.mono s2)
aAs .While c body [] pos
aAt (oj h2 l h).mono ahu
aAu (List.range n).map v
aAv (List.range i).map v
aAw .bin .Mod # (.ci 2147483629)
aAx zL ae7 ifs tt
aAy z.sameBut hs (JF y c e)
aAz x.above y c (abz h)
aAA up x o (eG v m x e') g1
aAB q v H2 agV (akf r2.own)
aAC put aqp 7 false agP
aAD n<=1000
aAE mg x=some ai7
aAF m=xs.length-i
aAG lP k.y k.M7
aAH l.most=some n
aAI kj h.bA hb
aAJ k.map Sum.inl
aAK k false
aAL intBits_le_64 h1 h2
aAM h'.elim
aAN h x aal
aAO grown n
aAP gO aml y i S ρ=some T'
aAQ fg k X.A
aAR de I hb
aAS cP X.K H p ys
aAT cP X.K H a xs
aAU cO X.K H p ys
aAV cO X.K H a xs
aAW below xs j
aAX aw (lI g) [as4,agQ]
aAY aqJ X.N
aAZ anI (oD g)
aA0 amh alM
aA1 amY rfl
aA2 amO aia
aA3 amN ⟨e,he,this⟩
aA4 akf an9
aA5 akc [x]
aA6 akL (tp p)
aA7 ajW ahY
aA8 aj1 anh
aA9 agf _ _
aA_ a<h.objs.size
aBa VL Y (R::l) i
aBb PE X a (c9 i)
aBc Option (Array aha×Nat)
aBd Nat.sub_pos_of_lt h
aBe L.sm ht hu
aBf KU s.heap.objs.size
aBg J.go i H
aBh IsT prog w s.heap atP c
aBi F g ds=some d
aBj F a b c
aBk F 4 [ac8,tp r]=some amc
aBl DL rfl rfl
aBm Cm T g s.heap
aBn A.units<cLine
aBo .type T
aBp .nD i k
aBq .int 0 0
aBr .cmp o a b
aBs .bin o a b
aBt .bY i e
aBu .bA (hz _ _ _ h) l z ih
aBv .app 4 alI
aBw .Return (ajU e) pos
aBx .BoolOp (bo k) vs p
aBy (xs.filter c).map g
aBz (sa,na+nb,pw)
aBA (eN s M af1).map kD
aBB qw # fs fe fr ρ
aBC hr _ _ _ _ z e #
aBD T.obj _ _ # b hb
aBE PE x0 r acc x3 #
aBF .lst aw2 (hx.free ad1 hl) #
aBG .asg # (amQ (amS (.ci 18)))
aBH yM P w K mg base G T n
aBI yM P w K mg base G T m
aBJ x.2==NameKind.free
aBK t.place.size=xs.length
aBL sysModules<h.objs.size
aBM p9 k fr wi g tt te
aBN intKind_is _ _ _ _
aBO inner ys [ak1] [0]
aBP ev F false a ρ=some x
aBQ dt= .seq its.toArray n
aBR d.2.1.length=vs.length
aBS c=(none,out,ia,ib,n,m)
aBT c=(none,ia,ib,out,n,m)
aBU ajU (ow,hs.length)
aBV absurd z (no vs H Q E)
aBW R (.ok (akL .none)) s'
aBX PySem.W.mg_of X GM a
aBY PE X x (akF (avD apF))
aBZ Nat.succ_ne_self _
aB0 IsT prog w s.heap ks c
aB1 Inv.jg as I1 nd R3
aB2 .zQ 3 alI (.c ag4)
aB3 (qS h H).get? b=some o
aB4 tI # true fi
aB5 decide #
aB6 L2.upd H b #
aB7 Gen.S L hG #
aB8 .zO true # 3
aB9 .seq # .skip
aB_ .asg 3 #
aCa .asg 1 #
aCb σ.set i (ajU ahg)=σ
aCc ys.map tp
aCd xs.drop i
aCe v= .ref c
aCf upd H x o
aCg u9 F fr ifs eQ ρ
aCh seq e=some (G.map tp)
aCi s2.heap.get? b=some o
aCj s1.heap.get? a=some o
aCk s.heap.get? b=some ob
aCl rv.get hx
aCm r x y H Q
aCn qb ry
aCo lZ iD X.env.scope
aCp k x.1
aCq js h2
aCr items.toList
aCs i<its.length
aCt i<items.size
aCu i<=xs.length
aCv hl U s σ H _ I h
aCw h.a.mem_iff.mp hx
aCx h s3=true
aCy h U s σ H Q I hw
aCz g ρ=some ds
aCA g s2=true
aCB fx h2
aCC f ρ=some ds
aCD f s1=true
aCE ex F ag2 ρ'
aCF ev F true c ρ=some y
aCG eY h1
aCH ds.length=n2
aCI ds.length=n1
aCJ cP K H1 a xs
aCK cP K H' a vs
aCL cO K H a ah7
aCM cB G F e'
aCN b≠s1.heap.objs.size
aCO below t.place akv
aCP bL h3
aCQ b.size-ib
aCR aw d ds
aCS anD o
aCT amh (i+j)
aCU amQ (amS (.ci 3))
aCV akf z
aCW akX D
aCX ajZ r
aCY ajU (.tup,ajh,xs)
aCZ ajS d
aC0 absurd z ab5
aC1 aav rfl
aC2 aaj h
aC3 aaf Jq h6
aC4 aY.heap.get? b=some o
aC5 aP (anB k)
aC6 aH ac6
aC7 a.size-ia
aC8 a.getD k 0=b.getD k 0
aC9 [.ref I,.none,.ref S]
aC_ Y.mul t u
aDa Y.inv e.2
aDb W.sub _ z
aDc RelV (kV kv.1) en.key
aDd Paired amd us (aZ ks)
aDe PE ae7 eQ te
aDf PE X o td
aDg PE X i ty
aDh Inv (X.pF E) U σ H s
aDi I.free
aDj H p=some alE
aDk H p=some agN
aDl H d=some alD
aDm H b=some ai6
aDn H a=some ahD
aDo Gen Y Q t
aDp Ge t.mask
aDq G a b c d
aDr .ref d
aDs .ok .next
aDt .for [6] 0 aw1 Sj
aDu .ext 1 Sl
aDv .dJ o aqZ
aDw .ci 4
aDx .bin .Add aiL aoP
aDy .bA d.1 d.2.1 d.2.2
aDz (x,NameKind.free)∈l
aDA (r.drop aqz).take aiP
aDB (n::ns).map V.int
aDC (ks.map f).zip vs
aDD (hs.2 b alN).trans e1
aDE ((pg s).im aif k,aif)
aDF pm.mem_iff.mp #
aDG f.set g.toNat #
aDH .bool #
aDI .bin .Add ae6 #
aDJ .bin .Add # akU
aDK .bin # a c
"
def zl(n:Name)(y:Syntax):MacroM Syntax:=let w:=n.toString;if w.length==3&&w.front<'c' then match zb.splitOn ("\n"++w++" ") with
|[_,b]=>pure (zz ((b.splitOn "\n").headD "") y)
|_=>Macro.throwUnsupported else Macro.throwUnsupported
end Lean
local macro_rules
|`($x:ident)=>Lean.zl x.getId x
|`($x:ident $y)=>Lean.zl x.getId y
set_option hygiene true
def aaa:=@PySem.wpAny_bind
def aab:=@PySem.Heap.get?_push_of_some
def aac:=@List.getElem?_eq_getElem
def aad:=@List.length_map
def aae:=@Bool.and_eq_true
def aaf:=@Nat.le_trans
def aag:=@List.mem_cons_of_mem
def aah:=@Nat.lt_of_lt_of_le
def aai:=@Bool.false_ne_true
def aaj:=@PySem.wpAny_pure
def aak:=@List.mem_singleton
def aal:=@List.mem_cons_self
def aam:=@Nat.le_refl
def aan:=@List.length_append
def aao:=@List.mem_map
def aap:=@Nat.le_of_eq
def aaq:=@List.size_toArray
def aar:=@List.getD_eq_getElem?_getD
def aas:=@PySem.Heap.get?_push_size
def aat:=@List.mem_cons
def aau:=@List.getElem?_map
def aav:=@if_pos
def aaw:=@List.mem_append_right
def aax:=@List.getElem?_eq_some_iff
def aay:=@List.mem_append
def aaz:=@PySem.Heap.lt_size
def aaA:=@List.mem_append_left
def aaB:=@Array.getElem?_eq_getElem
def aaC:=@if_neg
def aaD:=@Array.toList_append
def aaE:=@Nat.le_of_lt
def aaF:=@List.length_cons
def aaG:=@Array.length_toList
def aaH:=@List.getElem?_eq_none
def aaI:=@Option.some.inj
def aaJ:=@Nat.ne_of_lt
def aaK:=@List.map_cons
def aaL:=@List.append_assoc
def aaM:=@List.map_append
def aaN:=@List.getElem?_set_self
def aaO:=@Nat.lt_of_le_of_lt
def aaP:=@Int.natCast_nonneg
def aaQ:=@List.getElem?_set_ne
def aaR:=@Array.getElem?_toList
def aaS:=@Nat.le_of_not_lt
def aaT:=@PySem.Heap.get?_update_other
def aaU:=@Nat.le_of_lt_succ
def aaV:=@List.map_map
def aaW:=@List.nodup_cons
def aaX:=@List.pairwise_append
def aaY:=@List.mem_range
def aaZ:=@Nat.add_right_comm
def aba:=@Nat.le_add_right
def abb:=@List.length_singleton
def abc:=@Eq.symm
def abd:=@List.mem_of_getElem?
def abe:=@List.mem_filter
def abf:=@List.append_nil
def abg:=@PySem.wpAny_newObj_type
def abh:=@PySem.wpAny_ite_split
def abi:=@PySem.wpAny_holding
def abj:=@List.length_set
def abk:=@Nat.zero_le
def abl:=@Nat.not_lt_zero
def abm:=@PySem.wpAny_call_entry
def abn:=@List.mem_flatMap
def abo:=@Nat.lt_irrefl
def abp:=@List.getElem?_append_left
def abq:=@Nat.lt_or_ge
def abr:=@Nat.lt_succ_of_le
def abt:=@List.getElem?_append_right
def abu:=@List.nodup_iff_pairwise_ne
def abv:=@List.drop_eq_getElem_cons
def abw:=@Nat.zero_add
def abx:=@List.pairwise_map
def aby:=@List.nodup_append
def abz:=@PySem.mem_of_lookup
def abA:=@PySem.Heap.SameBut.update
def abB:=@List.take_of_length_le
def abC:=@Array.getElem_mem
def abD:=@Ne.symm
def abE:=@PySem.wpAny_callSpecial?_slot
def abF:=@PySem.Heap.get?_update_self
def abG:=@PySem.Obj.data_mapFields
def abH:=@List.pairwise_cons
def abI:=@List.all_eq_true
def abJ:=@Option.bind_some
def abK:=@PyProof.Rows.slot_tuple_getitem
def abL:=@Array.getElem?_eq_some_iff
def abM:=@Classical.byContradiction
def abN:=@Int.toNat_natCast
def abO:=@List.drop_sublist
def abP:=@List.ext_getElem?
def abQ:=@Array.toList_reverse
def abR:=@List.take_append_drop
def abS:=@List.length_take
def abT:=@Nat.lt_succ_self
def abU:=@Nat.add_sub_cancel_left
def abV:=@List.take_sublist
def abW:=@Bool.and_eq_true_iff
def abX:=@Bool.false_eq_true
def abY:=@Option.map_eq_some_iff
def abZ:=@PySem.F.plain_min_loop
def aca:=@PySem.codeAny_builtin
def acb:=@List.pairwise_iff_getElem
def acd:=@Int.not_lt_of_ge
def ace:=@List.mem_reverse
def acf:=@PySem.wpAny_truthy_bool
def acg:=@Nat.lt_succ_of_lt
def ach:=@List.mem_iff_getElem?
def aci:=@PySem.F.slot_dict_keyiterator_next
def acj:=@PySem.Heap.size_push
def ack:=@PySem.wpAny_setField
def acm:=@PyProof.Rows.callWith_type1
def acn:=@Int.emod_lt_of_pos
def aco:=@PySem.wpAny_mono
def acp:=@PySem.Around.under_plainId
def acq:=@Array.mem_toList_iff
def acr:=@Int.toNat_of_nonneg
def acs:=@Nat.add_sub_of_le
def acu:=@Nat.lt_trichotomy
def acv:=@PySem.wpAny_setState_of
def acw:=@List.getElem?_range
def acx:=@PySem.wpAny_loadPart'
def acy:=@PySem.Obj.isFreed_of_fields
def acz:=@Nat.succ_pos
def acA:=@Int.emod_nonneg
def acB:=@Nat.lt_of_le_of_ne
def acC:=@PySem.wpAny_typeNameOfWhole_keyiter
def acD:=@Nat.succ_le_succ
def acE:=@Array.toList_extract
def acF:=@List.mem_of_mem_drop
def acG:=@List.mem_of_mem_take
def acH:=@Nat.add_assoc
def acI:=@PySem.F.plainAttrs_list
def acJ:=@PySem.wpAny_pyIter_list
def acK:=@Array.toList_push
def acL:=@List.length_nil
def acM:=@PySem.wpAny_field
def acN:=@List.find?_cons
def acO:=@List.map_congr_left
def acP:=@PySem.Calls.callWith_builtin
def acQ:=@PySem.F.slot_tuple_iterator_next
def acR:=@List.perm_ext_iff_of_nodup
def acS:=@Nat.not_lt_of_le
def acT:=@Int.lt_of_not_ge
def acU:=@List.getElem_mem
def acV:=@List.Perm.append_left
def acW:=@Int.lt_of_le_of_lt
def acX:=@List.length_filter_le
def acY:=@PySem.Calls.call_function_entry
def acZ:=@PySem.wpAny_passesOwn
def ada:=@List.forIn_cons
def adb:=@PySem.wpAny_typeNameOf_keyiter
def ade:=@List.length_range
def adf:=@List.length_zip
def adg:=@List.set_eq_of_length_le
def adh:=@Int.ofNat_lt
def adi:=@Nat.lt_trans
def adj:=@Nat.exists_eq_add_of_le
def adk:=@PySem.Paired.length
def adl:=@List.getElem_of_mem
def adm:=@Int.ofNat.inj
def adn:=@List.length_drop
def ado:=@List.filter_cons
def adp:=@PySem.wpAny_seqItems
def adq:=@PySem.wpAny_rule
def ads:=@List.nodup_nil
def adt:=@Array.getElem?_eq_none
def adu:=@Nat.sub_add_cancel
def adv:=@PySem.wpAny_pyIter_tuple
def adw:=@List.getElem?_take
def adx:=@Nat.lt_or_eq_of_le
def ady:=@Nat.min_eq_left
def adz:=@List.length_replicate
def adA:=@PySem.wpAny_typeOf
def adB:=@Option.map_some
def adC:=@List.pairwise_reverse
def adD:=@Nat.le_antisymm
def adE:=@Nat.le_add_left
def adF:=@PySem.F.called_set
def adG:=@Nat.sub_ne_zero_of_lt
def adH:=@List.dropLast_eq_take
def adI:=@PySem.Obj.cls_mapFields
def adJ:=@PySem.wpAny_attempt
def adK:=@Nat.mod_lt
def adL:=@List.all_cons
def adM:=@List.flatMap_cons
def adN:=@Array.toList_setIfInBounds
def adO:=@PySem.Around.under_plainId
def adP:=@List.range_eq_range'
def adQ:=@List.drop_zero
def adR:=@List.lookup_cons
def adS:=@PySem.wpAny_askSetting
def adT:=@List.isEmpty_iff
def adU:=@Nat.add_le_add_left
def adV:=@List.filterMap_cons
def adW:=@Int.le_of_lt
def adX:=@PySem.F.args_tuple_add_2
def adY:=@Int.le_trans
def adZ:=@PySem.F.slot_list_getattribute
def aea:=@Nat.min_self
def aeb:=@List.length_erase_of_mem
def aec:=@PySem.wpAny_Call_Name_kw
def aed:=@List.zip_cons_cons
def aee:=@PySem.F.entry_tuple_add
def aef:=@PySem.wpAny_specialOf
def aeg:=@List.any_cons
def aeh:=@List.foldl_cons
def aei:=@List.nil_append
def aej:=@List.getElem?_drop
def aek:=@List.pairwise_singleton
def ael:=@PyProof.Rows.F.plain_set_update_loop
def aem:=@Int.eq_ofNat_of_zero_le
def aen:=@Nat.eq_of_le_of_lt_succ
def aeo:=@PySem.wpAny_pyNext_list_item
def aep:=@PySem.F.slot_tuple_add
def aeq:=@PySem.F.entry_min_loop
def aer:=@Nat.lt_of_succ_lt_succ
def aes:=@List.pairwise_lt_range
def aet:=@PySem.wpAny_pyIter_slot
def aeu:=@Array.toList_eraseIdxIfInBounds
def aev:=@Bool.not_eq_true'
def aew:=@PySem.wpAny_fieldsOf
def aex:=@PySem.wpAny_tryCatch
def aey:=@Nat.add_comm
def aez:=@PySem.wpAny_pyNext_list_end
def aeA:=@Int.ne_of_gt
def aeB:=@PySem.codeAny_mono
def aeC:=@List.perm_append_comm
def aeD:=@PySem.F.args_dict_keyiterator_next_1
def aeE:=@PySem.wpAny_isOneOf_keyiter
def aeF:=@List.eq_nil_or_concat
def aeG:=@List.concat_eq_append
def aeH:=@PySem.wpAny_eqBool_int
def aeI:=@List.getElem?_replicate_of_lt
def aeJ:=@List.range'_succ
def aeK:=@Array.toList_map
def aeL:=@PySem.F.entry_dict_keyiterator_next
def aeM:=@PySem.wpAny_isInstance
def aeN:=@List.drop_length
def aeO:=@List.not_mem_nil
def aeP:=@PySem.Calls.evalArgs_plain
def aeQ:=@PySem.F.args_object_init_2
def aeR:=@PySem.F.args_tuple_iterator_next_1
def aeS:=@PySem.wpAny_newList
def aeT:=@List.of_mem_zip
def aeU:=@PySem.F.entry_tuple_iterator_next
def aeV:=@PySem.wpAny_of_eq
def aeW:=@Array.Perm.refl
def aeX:=@Bool.or_eq_true
def aeY:=@List.filter_sublist
def aeZ:=@List.flatMap_append
def afa:=@PySem.Calls.Name_function_global
def afb:=@Array.perm_iff_toList_perm
def afc:=@List.length_eraseIdx_of_lt
def afd:=@List.mem_filterMap
def afe:=@List.map_nil
def aff:=@List.lookup_append
def afg:=@Eq.trans
def afh:=@Nat.add_zero
def afi:=@List.filter_append
def afj:=@List.drop_drop
def afk:=@List.mem_take_iff_getElem
def afl:=@List.mem_drop_iff_getElem
def afm:=@Nat.add_le_add
def afn:=@List.getElem?_zip_eq_some
def afo:=@List.getLast?_eq_getElem?
def afp:=@PySem.wpAny_comprehension_free
def afq:=@PySem.wpAny_pyIter_enum
def afr:=@PySem.F.slot_tuple_index
def afs:=@Option.isSome_map
def aft:=@List.reverse_perm
def afu:=@Array.size_setIfInBounds
def afv:=@PySem.wpAny_dictEntries
def afw:=@PySem.F.slot_dict_values
def afx:=@Nat.le_succ_of_le
def afy:=@List.foldl_append
def afz:=@PySem.F.slot_list_extend
def afA:=@PySem.F.type_list_extend
def afB:=@Sum.inl.inj
def afC:=@PySem.wpAny_standAt
def afD:=@List.getElem?_replicate
def afE:=@PySem.wpAny_letGo
def afF:=@PySem.wpAny_handled
def afG:=@PySem.F.plainAttrs_dict
def afH:=@List.map_take
def afI:=@List.length_eq_zero_iff
def afJ:=@Int.le_refl
def afK:=@List.map_id
def afL:=@PySem.wpAny_forIn_list
def afM:=@Array.toList_inj
def afN:=@List.map_snd_zip
def afO:=@Int.le_of_not_gt
def afP:=@List.nodup_range
def afQ:=@Nat.not_le_of_lt
def afR:=@PySem.W.cellsFrom_some
def afS:=@List.drop_eq_nil_of_le
def afT:=@List.reverse_singleton
def afU:=@Classical.epsilon_spec
def afV:=@List.range_succ_eq_map
def afW:=@List.filter_eq_nil_iff
def afX:=@List.length_pos_of_mem
def afY:=@PySem.wpAny_execs_nil
def afZ:=@Nat.ne_of_gt
def aga:=@List.lookup_cons_self
def agb:=@Array.mem_iff_getElem
def agc:=@PySem.wpAny_dictEpoch
def agd:=@PySem.wpAny_updateSeq
def age:=@Nat.succ.inj
def agf:=@Nat.sub_le
def agg:=@Nat.add_le_add_right
def agh:=@Int.le_of_lt_add_one
def agi:=@Array.toArray_toList
def agj:=@Nat.sub_eq_of_eq_add
def agk:=@Bool.or_eq_false_iff
def agl:=@List.mem_erase_of_ne
def agm:=@List.reverse_reverse
def agn:=@List.take_take
def ago:=@Nat.mul_le_mul
def agp:=@Nat.add_left_cancel
def agq:=@PyProof.Rows.lt_int
def agr:=@PySem.evalArgs_none
def ags:=@PySem.wpAny_throw
def agt:=@Nat.pred_lt
def agu:=@Bool.or_eq_true_iff
def agv:=@Prod.mk.inj
def agw:=@List.reverse_append
def agx:=@PySem.W.callWith_K
def agy:=@List.zip_nil_right
def agz:=@Option.isSome_some
def agA:=@Array.size_extract
def agB:=@List.find?_eq_none
def agC:=@List.map_drop
def agD:=@PySem.Walks.list
def agE:=@Nat.sub_self
def NK(h:¬p->False):p:=abM h
section
variable {q:Prop}{α β γ δ ε ζ η θ ι κ:Sort _}
def cY(x:A/\B/\C)(k:A->B->C->q):q:=k x.1 x.2.1 x.2.2
def Bl(x:A/\B/\C/\D)(k:A->B->C->D->q):q:=cY x.2 aCp
def NL(x:A/\B/\C/\D/\E)(k:A->B->C->D->E->q):q:=Bl x.2 aCp
def sW(x:A/\B/\C/\D/\E/\F)(k:A->B->C->D->E->F->q):q:=NL x.2 aCp
def VF(x:A/\B/\C/\D/\E/\F/\G)(k:A->B->C->D->E->F->G->q):q:=sW x.2 aCp
def Xv(x:A/\B/\C/\D/\E/\F/\G/\H)(k:A->B->C->D->E->F->G->H->q):q:=VF x.2 aCp
variable {A B C D E F G H I J:α->Prop}
def aa(x:∃a,A a/\B a)(k:∀a,A a->B a->q):q:=x.elim λa x=>k a x.1 x.2
def bF(x:∃a,A a/\B a/\C a)(k:∀a,A a->B a->C a->q):q:=x.elim λa x=>cY x (k a)
def ED(x:∃a,A a/\B a/\C a/\D a)(k:∀a,A a->B a->C a->D a->q):q:=x.elim λa x=>Bl x (k a)
def Nd(x:∃a,A a/\B a/\C a/\D a/\E a)(k:∀a,A a->B a->C a->D a->E a->q):q:=x.elim λa x=>NL x (k a)
def Xw(x:∃a,A a/\B a/\C a/\D a/\E a/\F a)(k:∀a,A a->B a->C a->D a->E a->F a->q):q:=x.elim λa x=>sW x (k a)
def Xx(x:∃a,A a/\B a/\C a/\D a/\E a/\F a/\G a)(k:∀a,A a->B a->C a->D a->E a->F a->G a->q):q:=x.elim λa x=>VF x (k a)
def Xy(x:∃a,A a/\B a/\C a/\D a/\E a/\F a/\G a/\H a)(k:∀a,A a->B a->C a->D a->E a->F a->G a->H a->q):q:=x.elim λa x=>Xv x (k a)
variable {A B C D E F G H I J:α->β->Prop}
def EW(x:∃a b,A a b)(k:∀a b,A a b->q):q:=x.elim λa x=>x.elim (k a)
def eO(x:∃a b,A a b/\B a b)(k:∀a b,A a b->B a b->q):q:=x.elim λa x=>aa x (k a)
def bg(x:∃a b,A a b/\B a b/\C a b)(k:∀a b,A a b->B a b->C a b->q):q:=x.elim λa x=>bF x (k a)
def il(x:∃a b,A a b/\B a b/\C a b/\D a b)(k:∀a b,A a b->B a b->C a b->D a b->q):q:=x.elim λa x=>ED x (k a)
def kH(x:∃a b,A a b/\B a b/\C a b/\D a b/\E a b)(k:∀a b,A a b->B a b->C a b->D a b->E a b->q):q:=x.elim λa x=>Nd x (k a)
def Sy(x:∃a b,A a b/\B a b/\C a b/\D a b/\E a b/\F a b)(k:∀a b,A a b->B a b->C a b->D a b->E a b->F a b->q):q:=x.elim λa x=>Xw x (k a)
def Sz(x:∃a b,A a b/\B a b/\C a b/\D a b/\E a b/\F a b/\G a b)(k:∀a b,A a b->B a b->C a b->D a b->E a b->F a b->G a b->q):q:=x.elim λa x=>Xx x (k a)
def Xz(x:∃a b,A a b/\B a b/\C a b/\D a b/\E a b/\F a b/\G a b/\H a b)(k:∀a b,A a b->B a b->C a b->D a b->E a b->F a b->G a b->H a b->q):q:=x.elim λa x=>Xy x (k a)
variable {A B C D E F G H I J:α->β->γ->Prop}
def NM(x:∃a b c,amR)(k:∀a b c,amR->q):q:=x.elim λa x=>EW x (k a)
def kI(x:∃a b c,amR/\anP)(k:∀a b c,amR->anP->q):q:=x.elim λa x=>eO x (k a)
def cC(x:∃a b c,amR/\anP/\apD)(k:∀a b c,amR->anP->apD->q):q:=x.elim λa x=>bg x (k a)
def Ru(x:∃a b c,amR/\anP/\apD/\ar5)(k:∀a b c,amR->anP->apD->ar5->q):q:=x.elim λa x=>il x (k a)
def vx(x:∃a b c,amR/\anP/\apD/\ar5/\avy)(k:∀a b c,amR->anP->apD->ar5->avy->q):q:=x.elim λa x=>kH x (k a)
def Nf(x:∃a b c,amR/\anP/\apD/\ar5/\avy/\aBj)(k:∀a b c,amR->anP->apD->ar5->avy->aBj->q):q:=x.elim λa x=>Sy x (k a)
def XA(x:∃a b c,amR/\anP/\apD/\ar5/\avy/\aBj/\G a b c)(k:∀a b c,amR->anP->apD->ar5->avy->aBj->G a b c->q):q:=x.elim λa x=>Sz x (k a)
def XB(x:∃a b c,amR/\anP/\apD/\ar5/\avy/\aBj/\G a b c/\H a b c)(k:∀a b c,amR->anP->apD->ar5->avy->aBj->G a b c->H a b c->q):q:=x.elim λa x=>Xz x (k a)
variable {A B C D E F G H I J:α->β->γ->δ->Prop}
def VG(x:∃a b c d,ajg)(k:∀a b c d,ajg->q):q:=x.elim λa x=>NM x (k a)
def mr(x:∃a b c d,ajg/\akE)(k:∀a b c d,ajg->akE->q):q:=x.elim λa x=>kI x (k a)
def Jw(x:∃a b c d,ajg/\akE/\alQ)(k:∀a b c d,ajg->akE->alQ->q):q:=x.elim λa x=>cC x (k a)
def NN(x:∃a b c d,ajg/\akE/\alQ/\anu)(k:∀a b c d,ajg->akE->alQ->anu->q):q:=x.elim λa x=>Ru x (k a)
def vG(x:∃a b c d,ajg/\akE/\alQ/\anu/\ap_)(k:∀a b c d,ajg->akE->alQ->anu->ap_->q):q:=x.elim λa x=>vx x (k a)
def EY(x:∃a b c d,ajg/\akE/\alQ/\anu/\ap_/\auO)(k:∀a b c d,ajg->akE->alQ->anu->ap_->auO->q):q:=x.elim λa x=>Nf x (k a)
def XC(x:∃a b c d,ajg/\akE/\alQ/\anu/\ap_/\auO/\aDq)(k:∀a b c d,ajg->akE->alQ->anu->ap_->auO->aDq->q):q:=x.elim λa x=>XA x (k a)
def VH(x:∃a b c d,ajg/\akE/\alQ/\anu/\ap_/\auO/\aDq/\H a b c d)(k:∀a b c d,ajg->akE->alQ->anu->ap_->auO->aDq->H a b c d->q):q:=x.elim λa x=>XB x (k a)
variable {A B C D E F G H I J:α->β->γ->δ->ε->Prop}
def Jx(x:∃a b c d e,aix/\aiw)(k:∀a b c d e,aix->aiw->q):q:=x.elim λa x=>mr x (k a)
def XD(x:∃a b c d e,aix/\aiw/\ajl)(k:∀a b c d e,aix->aiw->ajl->q):q:=x.elim λa x=>Jw x (k a)
def SA(x:∃a b c d e,aix/\aiw/\ajl/\ak_)(k:∀a b c d e,aix->aiw->ajl->ak_->q):q:=x.elim λa x=>NN x (k a)
def Rv(x:∃a b c d e,aix/\aiw/\ajl/\ak_/\am7)(k:∀a b c d e,aix->aiw->ajl->ak_->am7->q):q:=x.elim λa x=>vG x (k a)
def VI(x:∃a b c d e,aix/\aiw/\ajl/\ak_/\am7/\aqE)(k:∀a b c d e,aix->aiw->ajl->ak_->am7->aqE->q):q:=x.elim λa x=>EY x (k a)
def XE(x:∃a b c d e,aix/\aiw/\ajl/\ak_/\am7/\aqE/\ayg)(k:∀a b c d e,aix->aiw->ajl->ak_->am7->aqE->ayg->q):q:=x.elim λa x=>XC x (k a)
def XF(x:∃a b c d e,aix/\aiw/\ajl/\ak_/\am7/\aqE/\ayg/\H a b c d e)(k:∀a b c d e,aix->aiw->ajl->ak_->am7->aqE->ayg->H a b c d e->q):q:=x.elim λa x=>VH x (k a)
variable {A B C D E F G H I J:α->β->γ->δ->ε->ζ->Prop}
def XG(x:∃a b c d e f,alp/\alo/\aln)(k:∀a b c d e f,alp->alo->aln->q):q:=x.elim λa x=>XD x (k a)
def Ng(x:∃a b c d e f,alp/\alo/\aln/\aoq/\aop)(k:∀a b c d e f,alp->alo->aln->aoq->aop->q):q:=x.elim λa x=>Rv x (k a)
def XH(x:∃a b c d e f,alp/\alo/\aln/\aoq/\aop/\auy/\auw)(k:∀a b c d e f,alp->alo->aln->aoq->aop->auy->auw->q):q:=x.elim λa x=>XE x (k a)
def XI(x:∃a b c d e f,alp/\alo/\aln/\aoq/\aop/\auy/\auw/\H a b c d e f)(k:∀a b c d e f,alp->alo->aln->aoq->aop->auy->auw->H a b c d e f->q):q:=x.elim λa x=>XF x (k a)
variable {A B C D E F G H I J:α->β->γ->δ->ε->ζ->η->Prop}
def XJ(x:∃a b c d e f g,amE/\amD/\amB)(k:∀a b c d e f g,amE->amD->amB->q):q:=x.elim λa x=>XG x (k a)
def VJ(x:∃a b c d e f g,amE/\amD/\amB/\arT/\arS/\arR/\arQ)(k:∀a b c d e f g,amE->amD->amB->arT->arS->arR->arQ->q):q:=x.elim λa x=>XH x (k a)
def XM(x:∃a b c d e f g,amE/\amD/\amB/\arT/\arS/\arR/\arQ/\H a b c d e f g)(k:∀a b c d e f g,amE->amD->amB->arT->arS->arR->arQ->H a b c d e f g->q):q:=x.elim λa x=>XI x (k a)
variable {A B C D E F G H I J:α->β->γ->δ->ε->ζ->η->θ->Prop}
def mY(x:∃a b c d e f g h,A a b c d e f g h/\B a b c d e f g h/\C a b c d e f g h)(k:∀a b c d e f g h,A a b c d e f g h->B a b c d e f g h->C a b c d e f g h->q):q:=x.elim λa x=>XJ x (k a)
variable {A B C D E F G H I J:α->β->γ->δ->ε->ζ->η->θ->ι->Prop}
def VM(x:∃a b c d e f g h i,A a b c d e f g h i/\B a b c d e f g h i/\C a b c d e f g h i)(k:∀a b c d e f g h i,A a b c d e f g h i->B a b c d e f g h i->C a b c d e f g h i->q):q:=x.elim λa x=>mY x (k a)
end
def VN{a b c:Nat}(h:b<=c)(k:a<=b):a<=c:=aaf k h
def VO{a b c:Nat}(h:b<c)(k:a<=b):a<c:=aaO k h
def Bm{a b c:Nat}(h:b=c)(k:a<=b):a<=c:=h▸k
def NO{a b c:Nat}(h:a=b)(k:b<=c):a<=c:=h▸k
def VP{a b c:Nat}(h:a=b)(k:b<c):a<c:=h▸k
def XN(h:j-1<n):j<=n:=Nat.le_of_pred_lt h
def XO(h:i<n):n-1-i<n:=aaO aA9 (Nat.sub_lt (Nat.zero_lt_of_lt h) Nat.one_pos)
def Jy{i:Int}{n:Nat}(h:0<=i)(k:i<n):i.toNat<n:=(Int.toNat_lt h).mpr k
def VQ{a b:Int}(h:0<=a)(k:0<=b)(e:a.toNat=b.toNat):a=b:=(acr h).symm.trans ((congrArg Int.ofNat e).trans (acr k))
def NP(e:l=n)(h:k<n+1):min k l+(l-k+1)=n+1:=by
 subst e;rw[ady (aaU h),<-acH,acs (aaU h)]
def NQ{k n:Nat}(h:k<=n):(min (k:Int) n).toNat =k:=by
 rw[Int.min_eq_left (Int.ofNat_le.mpr h)];rfl
def SD(h:b<=c)(e:c+v=b+w)(k:c<=n):2*(n-c)+w<=2*(n-b)+v:=by
 obtain⟨d,rfl⟩:=adj h;obtain⟨x,rfl⟩:=adj k;have e:w=d+v:=agp (e.symm.trans (acH _ _ _));rw[e,abU,acH b d x,abU,Nat.mul_add,<-acH,aey _ d];exact agg (agg (Nat.le_mul_of_pos_left d Nat.two_pos) _) _
def SE{i n:Nat}(h:i<n):(n:Int)-1-i=((n-1-i:Nat):Int):=by
 rw[Nat.sub_sub,Int.ofNat_sub (Nat.one_add_le_iff.mpr h),Int.sub_sub];rfl
def SF(h:k<n):n=k+(n-k-1+1):=by
 rw[adu aBd,acs (aaE h)]
def s_{u c d z:Nat}(h:u+c<z)(k:d<=c):u+d<z:=aaO (adU k u) h
def Jz(h:0<=x/\x<((n+1:Nat):Int))(e:x≠n):0<=x/\x<n:=⟨h.1,Int.lt_iff_le_and_ne.mpr ⟨agh h.2,e⟩⟩
def EZ{i:Int}{n:Nat}(h:i<=n):i.toNat<=n:=Int.toNat_le.mpr h
def SG{i n:Nat}(h:i<n):((0<=if(i:Int)<0 then(i:Int)+n else i)/\(if(i:Int)<0 then(i:Int)+n else i)<n)/\(if(i:Int)<0 then(i:Int)+n else i).toNat =i:=by
 rw[aaC (Int.not_lt.mpr (aaP i))];exact⟨⟨aaP i,adh.mpr h⟩,rfl⟩
def SH:o+(j+1)+m-(o+j)=m+1:=by
 show o+j+1+m-(o+j)=m+1;rw[acH (o+j),abU,aey]
set_option bootstrap.genMatcherCode false
set_option genSizeOf false
set_option compiler.extract_closed false
set_option Elab.async false
set_option maxRecDepth 100000
abbrev aE:=PySem.W.Frag
namespace L2
open PySem PySem.Spec PyProof.Rows
abbrev cD:=Sum Int Str
noncomputable def mZ:cD->Value->Bool
 | .inl k,v=>Value.isInt k v
 | .inr x,v=>Value.isStrOf x v
noncomputable def SI(w:World):cD->Int
 | .inl k=>hashInt k
 | .inr x=>hashStr w x
def bh:∀{k:cD}{v:Value},mZ k v=true->(∃i t,k=Sum.inl i/\v=Value.int i t)\/(∃x t,k=Sum.inr x/\v=Value.str x t)
 | .inl i,v,h=>by
  obtain⟨t,e⟩:=Value.isInt_shape (k:=i) (v:=v) h;exact .inl ⟨i,t,rfl,e⟩
 | .inr x,v,h=>by
  obtain⟨t,e⟩:=Value.isStrOf_shape (x:=x) (v:=v) h;exact .inr ⟨x,t,rfl,e⟩
def zw(i:Int)(t:Tok):mZ (akf i) (apa i)=true:=by simp[mZ,Value.isInt]
def zx(x:Str)(t:Tok):mZ (amY x) (.str x t)=true:=by simp[mZ,Value.isStrOf]
def JA(a b:Int):decide ((Sum.inl a:cD)=Sum.inl b)=(a==b):=by
 by_cases e:a=b
 .subst e;simp
 .have h:¬(Sum.inl a:cD)=Sum.inl b:=λq=>e (afB q);rw[decide_eq_false h];exact(beq_eq_false_iff_ne.mpr e).symm
def JB(a b:Str):decide ((Sum.inr a:cD)=Sum.inr b)=decide (a=b):=by
 by_cases e:a=b
 .subst e;simp
 .have h:¬(Sum.inr a:cD)=Sum.inr b:=λq=>e (Sum.inr.inj q);rw[decide_eq_false h,decide_eq_false e]
def JC(a:Int)(b:Str):decide ((Sum.inl a:cD)=Sum.inr b)=false:=decide_eq_false (λq=>nomatch q)
def JD(a:Str)(b:Int):decide ((Sum.inr a:cD)=Sum.inl b)=false:=decide_eq_false (λq=>nomatch q)
noncomputable def aV(prog:ad2)(w:World):PySem.KeyKind prog w cD where
 is:=mZ
 hash:=SI w
 inj:=λv a b ha hb=>by
  rcases bh ha with⟨i,t,rfl,rfl⟩|⟨x,t,rfl,rfl⟩
  .rcases bh hb with⟨j,u,rfl,e⟩|⟨y,u,rfl,e⟩
   .injection e with e1 _;rw[e1]
   .exact nomatch e
  .rcases bh hb with⟨j,u,rfl,e⟩|⟨y,u,rfl,e⟩
   .exact nomatch e
   .injection e with e1 _;rw[e1]
 byValue:=λk v h=>by
  rcases bh h with⟨i,t,rfl,rfl⟩|⟨x,t,rfl,rfl⟩<;>rfl
 pyHash:=λhv h=>by
  rcases bh hv with⟨i,t,rfl,rfl⟩|⟨x,t,rfl,rfl⟩
  .exact wpAny_pyHash_int h
  .exact wpAny_pyHash_str h
 eqBool:=λhu hv h=>by
  rcases bh hu with⟨i,t,rfl,rfl⟩|⟨x,t,rfl,rfl⟩
  .rcases bh hv with⟨j,u,rfl,rfl⟩|⟨y,u,rfl,rfl⟩
   .rw[JA]at h;exact aeH h
   .rw[JC]at h;exact SeqAt.EqAt.int_str i t y u _ _ _ _ h
  .rcases bh hv with⟨j,u,rfl,rfl⟩|⟨y,u,rfl,rfl⟩
   .rw[JD]at h;exact SeqAt.EqAt.str_int x t j u _ _ _ _ h
   .rw[JB]at h;exact wpAny_eqBool_str h
 «strs»:=λk x t v h=>by
  rcases bh h with⟨i,u,rfl,e⟩|⟨y,u,rfl,e⟩
  .exact nomatch e
  .injection e with e1 _;subst e1;cases v<;>rfl
def tf(prog:ad2)(w:World)(i:Int)(t:Tok):(aV prog w).is (akf i) (apa i)=true:=zw i t
def tm(prog:ad2)(w:World)(x:Str)(t:Tok):(aV prog w).is (amY x) (.str x t)=true:=zx x t
inductive V where
 |cv|bl (b:Bool)|int (i:Int)|str (x:Str)|NR (b:Array UInt8)|SJ (b:UInt64)|ref (a:Addr)|ty (n:ap5)
 deriving DecidableEq
def RelV:V->Value->Prop
 | .cv,u=>u=Value.none
 | .bl b,u=>u=Value.bool b
 | .int i,u=>∃t,u=Value.int i t
 | .str x,u=>∃t,u=Value.str x t
 | .NR b,u=>∃t,u=Value.bytes b t
 | .SJ b,u=>∃t,u=Value.float b t
 | .ref a,u=>u=Value.ref a
 | .ty n,u=>u=Value.type n
abbrev aF:ad7->ab2->Prop:=Paired RelV
theorem aF.length(r:ani):xs.length=us.length:=adk r
theorem aF.get:∀{xs:ad7}{us:ab2}{i:Nat}{x:V},ani->xs[i]?=some x->∃u,us[i]?=some u/\RelV x u
 |_,_,_,_,.nil,e=>by simp at e
 |_,_,0,_,.cons r _,e=>by simp at e;subst e;exact⟨_,rfl,r⟩
 |_,_,i+1,x,.cons _ t,e=>by
  exact aa (aF.get (i:=i) (x:=x) t (by simpa using e)) λu h1 h2=>⟨u,by simpa using h1,h2⟩
theorem aF.set(r:aup):∀{xs:ad7}{us:ab2} (i:Nat),ani->aF (xs.set i x) (us.set i u)
 |_,_,_,.nil => .nil
 |_,_,0,.cons _ t=> .cons r t
 |_,_,i+1,.cons q t=> .cons q (aF.set r i t)
def aF.append:∀{xs ys:ad7}{us ws:ab2},ani->aF ys ws->aF ayS (us++ws):=λ{xs ys us ws} h s=>by
 induction h with
 |nil=>exact s
 |cons r t ih=>exact .cons r ih
theorem aF.take:∀{xs:ad7}{us:ab2} (n:Nat),ani->aF (xs.take n) (us.take n)
 |_,_,0,_=> .nil
 |_,_,_+1,.nil => .nil
 |_,_,n+1,.cons r t=> .cons r (aF.take n t)
theorem aF.drop:∀{xs:ad7}{us:ab2} (n:Nat),ani->aF (xs.drop n) (us.drop n)
 |_,_,0,r=>r
 |_,_,_+1,.nil => .nil
 |_,_,n+1,.cons _ t=>aF.drop n t
def pD:aoJ->af9->Prop
 |some v,some u=>RelV v u
 |none,none=>True
 |_,_=>False
def KV{κ:Type}:akk->awU->Prop:=Paired λ(p:κ×V) (q:κ×Value)=>p.1=q.1/\RelV p.2 q.2
noncomputable def kV:cD->V
 | .inl i=> .int i
 | .inr x=> .str x
inductive HO where
  |lst (xs:ad7)
  |tup (xs:ad7)
  |dK (kvs:apo)|dT (kvs:ah9)
  |set (S:Int->Bool) (n:Nat)
  |ins (C dx:Addr) (fs:auu)
  |own (x:Addr)
  |xd (fs:auu)
  |met (f x:Addr)
  |gJ (lo hi:Int)
  |dJ (o:Obj) (u:HO)
  |JE (ps:agI)
  |ext (φ:Heap->Prop)
abbrev Hp:=Addr->Option HO
noncomputable def upd(H:Hp)(a:Addr)(o:HO):Hp:=λb=>if b=a then some o else H b
def ah:upd H a o a=some o:=by unfold upd;rw[aav rfl]
def aq(h:b≠a):upd H a o b=H b:=by unfold upd;rw[aaC h]
def c8{H:Hp}{a b:Addr}{o u:HO}(h:aAp)(h':aot)(d:o≠u):a≠b:=by
 intro e;subst e;rw[h]at h';exact d (aaI h')
def bZ{H:Hp}{a b:Addr}{o:HO}(h:aAp)(h':aje):a≠b:=by
 intro e;subst e;rw[h]at h';cases h'
def jA(h:Heap)(a:Addr)(items:agI):Prop:=∃o,amm/\o.cls= .type "tuple"/\(∃n,o.data= .seq items n)/\o.dict=none
def jA.tup{h:Heap}{a:Addr}{items:agI}(x:jA h a items):IsTup h a items:=let ⟨o,e,c,d,_⟩:=x;⟨o,e,c,d⟩
def jA.lt{h:Heap}{a:Addr}{items:agI}(x:jA h a items):aA_:=let ⟨_,ho,_⟩:=x;aaz ho
def jA.new(h:Heap)(items:agI):jA (h.push {cls:= .type "tuple",data:= .seq items}) h.objs.size items:=⟨_,agU,rfl,aow,rfl⟩
section
variable (P:ad2)(w:World)
def aT(H:Hp)(h:Heap)(a:Addr):HO->Prop
 | .lst xs=>xs.length<=sizeLine/\∃(its:ab2) (n:Nat),anq/\h.get? a=some {cls:= .type "list",data:= .seq its.toArray n}
 | .tup xs=>xs.length<=sizeLine/\∃its:ab2,anq/\jA h a its.toArray
 | .dK kvs=>kvs.length<=sizeLine/\ahc/\∃vs,ak8/\h.DictOf aoX a vs
 | .dT kvs=>kvs.length<=sizeLine/\ahc/\∃xs:ak7,
   Paired (λ(p:List cD×V) (q:List cD×Addr×Value)=>p.1=q.1/\H q.2.1=some ats/\RelV p.2 q.2.2) kvs xs/\
   ∃o es ep,amm/\o.ExactDict/\aiU/\es.toList=xs.map (entryOfKey (tupleKind aoX))/\(xs.map (·.1)).Nodup
 | .set S n=>h.SetOf (intKind P w) a S n
 | .ins C dx fs=>H dx=some (.own a)/\fs.length<=1000/\dx≠a/\h.get? a=some (PySem.W.instObj C dx)/\
   ∃mA,h.Ns1 dx mA/\(∀f,pD (fs.lookup f) (mA f))/\PySem.Within mA (fs.map (·.1))
 | .own _=>∃o,h.get? a=some o
 | .xd fs=>∃mA,h.Ns1 a mA/\∀f,pD (fs.lookup f) (mA f)
 | .gJ lo hi=>∃t u v,h.get? a=some {cls:= .type "range",data:= .fields #[auE,auF,axp]}
 | .dJ o u=>h.get? a=some o/\aT H h a u
 | .JE ps=>h.get? a=some {cls:= .none,data:= .fields ps}
 | .met f x=>h.get? a=some (asU (akX x))
 | .ext φ=>φ h/\(∃o,amm)/\∀h1 h2:Heap,φ h1->(∀o,h1.get? a=some o->h2.get? a=some o)->φ h2
def jf(H:Hp)(h:Heap):Prop:=∀a o,aAp->aT P w H h a o
end
section
variable {P:ad2}{w:World}{H H':Hp}{h h':Heap}{a:Addr}{o:HO}
theorem aT.lt(x:aT P w H h a o):aA_:=by
 cases o with
 |lst xs=>obtain⟨_,_,_,_,e⟩:=x;exact aaz e
 |tup xs=>obtain⟨_,_,_,p⟩:=x;exact p.lt
 |dK kvs=>obtain⟨_,_,_,_,o,_,_,e,_⟩:=x;exact aaz e
 |dT kvs=>obtain⟨_,_,_,_,o,_,_,e,_⟩:=x;exact aaz e
 |set S n=>obtain⟨o,_,_,_,e,_⟩:=x;exact aaz e
 |ins C dx fs=>obtain⟨_,_,_,e,_⟩:=x;exact aaz e
 |own y=>obtain⟨_,e⟩:=x;exact aaz e
 |xd fs=>obtain⟨_,⟨_,_,_,e,_⟩,_⟩:=x;exact aaz e
 |gJ lo hi=>obtain⟨_,_,_,e⟩:=x;exact aaz e
 |dJ ob u=>obtain⟨e,_⟩:=x;exact aaz e
 |JE ps=>exact aaz (show h.get? a=some _ from x)
 |met f y=>exact aaz (show h.get? a=some _ from x)
 |ext φ=>obtain⟨_,⟨_,e⟩,_⟩:=x;exact aaz e
def Paired.NS:∀{l₁:agM}{l₂:aoK},Paired F l₁ l₂->(∀a b,F a b->G a b)->Paired G l₁ l₂:=λ{l₁ l₂} h f=>by
 induction h with
 |nil=>exact .nil
 |cons r t ih=>exact .cons (f _ _ r) ih
def aT.pE(x:aT P w H h a o)(k:∀b u,(b=a\/H b=some (.own a))->ak4->ah1)
  (ho:∀b,H b=some (.own a)->H' b=some (.own a)) (ht:∀b xs,aDm->H' b=some ai6):aT P w H' h' a o:=by
 induction o with
 |lst xs=>obtain⟨z,its,n,r,e⟩:=x;exact⟨z,its,n,r,akm⟩
 |tup xs=>obtain⟨z,its,r,ob,e,c⟩:=x;exact⟨z,its,r,ob,akm,c⟩
 |dK kvs=>obtain⟨z,y,vs,r,ob,es,ep,e,c⟩:=x;exact⟨z,y,vs,r,ob,es,ep,akm,c⟩
 |dT kvs=>
  obtain⟨z,y,xs,r,ob,es,ep,e,c⟩:=x;exact⟨z,y,xs,Paired.NS r λp q z=>⟨z.1,ht _ _ z.2.1,z.2.2⟩,ob,es,ep,akm,c⟩
 |set S n=>obtain⟨ob,es,ep,t,e,c⟩:=x;exact⟨ob,es,ep,t,akm,c⟩
 |ins C dx fs=>
  obtain⟨d,z,ne,e,mA,⟨od,es,ep,e2,c⟩,r⟩:=x;exact⟨ho _ d,z,ne,akm,mA,⟨od,es,ep,k _ _ (amY d) e2,c⟩,r⟩
 |own y=>obtain⟨ob,e⟩:=x;exact⟨ob,akm⟩
 |xd fs=>obtain⟨mA,⟨od,es,ep,e,c⟩,r⟩:=x;exact⟨mA,⟨od,es,ep,akm,c⟩,r⟩
 |gJ lo hi=>obtain⟨t,u,v,e⟩:=x;exact⟨t,u,v,akm⟩
 |dJ ob u ih=>obtain⟨e,q⟩:=x;exact⟨akm,ih q⟩
 |JE ps=>
  have e:h.get? a=some {cls:= .none,data:= .fields ps}:=x;show h'.get? a=some {cls:= .none,data:= .fields ps};exact k a _ agR e
 |met f y=>
  have e:h.get? a=some (asU (akX y)):=x;show h'.get? a=some (asU (akX y));exact k a _ agR e
 |ext φ=>obtain⟨p,⟨o,e⟩,st⟩:=x;exact⟨st _ _ p λo q=>k _ _ agR q,⟨o,akm⟩,st⟩
theorem jf.lt(x:akI)(e:aAp):aA_:=(x a o e).lt
def jf.fresh(x:akI)(e:ay9):H a=none:=by
 cases q:H a with
 |none=>rfl
 |some u=>exact absurd (aah (x.lt q) e) amK
def jf.kept(x:akI)(k:∀b u,ak4->ah1):jf P w H h':=λa o e=>
 (x a o e).pE (λb u _ q=>k b u q) (λ_ q=>q) λ_ _ q=>q
def jf.laid(x:akI)(k:∀b u,ak4->ah1)(hp:ay9)(new:aT P w ass h' a o):jf P w ass h':=λb u e=>by
 have hn:=x.fresh hp;by_cases hb:b=a
 .subst hb;rw[ah]at e;cases e;exact new
 .rw[aq hb]at e;exact(x b u e).pE (λc v _ q=>k c v q) (λc q=>by rw[aq awF];exact q) λc xs q=>by rw[aq awF];exact q
end
def Rd(H:Hp)(a:Addr)(u:HO):Prop:=H a=some u\/∃o,H a=some ahD
def Rd.ok(r:Rd H a u)(x:akI):aT P w H h a u:=by
 rcases r with r|⟨o,r⟩
 .exact x a u r
 .obtain⟨_,q⟩:=x a _ r;exact q
def Bn:Option HO->Prop
 |some (.lst _)=>True
 |some (.dK _)=>True
 |some (.dT _)=>True
 |some (.set _ _)=>True
 |some (.ins _ _ _)=>True
 |some (.ext _)=>True
 |_=>False
section
variable {P:ad2}{w:World}{H:Hp}{h h':Heap}{x e:Addr}{o':HO}
def jf.write(ok:akI)(mu:Bn (H x))(he:e=x\/avw)(k:∀b u,b≠e->ak4->ah1)(Ij:∃u,awz)
  (new:aT P w (upd H x o') h' x o'):jf P w (upd H x o') h':=λb u q=>by
 have NT:∀c y,H c=some (.own y)->c≠x:=λc y r z=>by subst z;rw[r]at mu;exact mu
 have SK:∀c xs,H c=some ai6->c≠x:=λc xs r z=>by subst z;rw[r]at mu;exact mu
 by_cases hb:b=x
 .subst hb;rw[ah]at q;cases q;exact new
 .rw[aq hb]at q;by_cases EE:b=e
  .have q':H b=some (.own x):=by
    rcases he with z|z
    .exact absurd (EE.trans z) hb
    .rw[EE];exact z
   rw[q]at q';cases q';obtain⟨v,hv⟩:=Ij;exact⟨v,by rw[EE];exact hv⟩
  .refine(ok b u q).pE (λc v hc r=>k c v ?_ r) (λc r=>by rw[aq (NT c b r)];exact r) λc xs r=>by rw[aq (SK c xs r)];exact r
   rcases hc with rfl|hc
   .exact EE
   .rintro rfl;rcases he with z|z
    .exact NT c b hc z
    .rw[hc]at z;cases z;exact hb rfl
end
structure Un(fs ex:af7)(H H':Hp)(h h':Heap):Prop where
 keep:∀b o,ahU->aje->b∉fs->b∉ex->h'.get? b=some o
 slot:∀b o,ahU->aje->b∈fs->b∉ex->∃sl,h'.get? b=some {o with slots:=sl}
 free:∀b o,ahU->aje->b∉ex->H' b=none
 there:∀b o,ahU->b∉ex->∃o',h'.get? b=some o'
 qQ:∀b xs,aDm->H' b=some ai6
 jg:∀b o u,H b=some ahD->H' b=some ahD
 qR:∀b ps,H b=some (.JE ps)->∃more,H' b=some (.JE (ps++more))
section
variable {fs XQ ex ex':af7}{H H1 H2:Hp}{h h1 h2 h':Heap}{a x e:Addr}{o:HO}
def Un.any(u:Un fs ex H H1 h h1)(q:h.get? b=some ob)(n:aje)(hx:b∉ex):∃sl,h1.get? b=some {ob with slots:=sl}:=by
 by_cases hb:b∈fs
 .exact u.slot b ob q n hb hx
 .exact⟨ob.slots,u.keep b ob q n hb hx⟩
def Un.kept(k:∀b u,ak4->ah1):Un fs ex H H h h':=
 ⟨λb ob q _ _ _=>k b ob q,λb ob q _ _ _=>⟨ob.slots,k b ob q⟩,λ_ _ _ n _=>n,λb ob q _=>⟨ob,k b ob q⟩,λ_ _ q=>q,λ_ _ _ q=>q,λ_ ps q=>⟨#[],by rw[q];simp⟩⟩
def Un.refl:Un fs ex H H h h:=Un.kept λ_ _ q=>q
def Un.laid(k:∀b u,ak4->ah1)(hp:ay9)(hn:H a=none):Un fs ex H ass h h' where
 keep:=λb u q _ _ _=>k b u q
 slot:=λb u q _ _ _=>⟨u.slots,k b u q⟩
 free:=λb u q n _=>by rw[aq (aaJ (aah (aaz q) hp))];exact n
 there:=λb u q _=>⟨u,k b u q⟩
 qQ:=λb xs q=>by rw[aq awF];exact q
 jg:=λb u xs q=>by rw[aq awF];exact q
 qR:=λb ps q=>⟨#[],by rw[aq awF,q];simp⟩
def Un.write(mu:Bn (H x))(he:e=x\/avw)(k:∀b u,b≠e->ak4->ah1)(Ij:∃u,awz):Un fs ex H aCf h h':=by
 have hx:∀b,aje->b≠x:=λb n z=>by subst z;rw[n]at mu;exact mu
 have hb:∀b,aje->b≠e:=λb n z=>by
  subst z;rcases he with r|r
  .exact hx b n r
  .rw[n]at r;cases r
 have hm:∀b u,aot->¬Bn azn->b≠x:=λb u q nm z=>by subst z;rw[q]at mu;exact nm mu
 refine⟨λb u q n _ _=>k b u (hb b n) q,λb u q n _ _=>⟨u.slots,k b u (hb b n) q⟩,λb u q n _=>by rw[aq (hx b n)];exact n,λb u q _=>?_,
  λb xs q=>by rw[aq (hm b _ q λz=>z)];exact q,λb u xs q=>by rw[aq (hm b _ q λz=>z)];exact q,λb ps q=>⟨#[],by rw[aq (hm b _ q λz=>z),q];simp⟩⟩
 by_cases EE:b=e
 .subst EE;exact Ij
 .exact⟨u,k b u EE q⟩
end
noncomputable def Rw(h:Heap)(H:Hp):af7:=(List.range h.objs.size).filter λa=>(H a).isSome
noncomputable def qS(h:Heap)(H:Hp):Heap:=PySem.W.hideAll h (Rw h H)
def zy(h:Heap)(H:Hp):(qS h H).objs.size =h.objs.size:=PySem.W.hideAll_size _ _
def Bo(e:ahU)(n:aje):aB3:=
 PySem.W.hideAll_get _ e λhm=>by
  have q:(H b).isSome =true:=(abe.mp hm).2;rw[n]at q;simp at q
def E1(e:aB3):ahU/\aje:=by
 have e':ahU:=PySem.W.of_hideAll (Rw h H) e;refine⟨e',?_⟩;cases q:H b with
 |none=>rfl
 |some x=>
  have hm:b∈Rw h H:=abe.mpr ⟨aaY.mpr (aaz e'),by simp[q]⟩;have z:(qS h H).get? b=none:=PySem.W.hideAll_none (Rw h H) hm;rw[z]at e;cases e
structure Mod(K:aE)(mg:Str->af9)(base:Heap):Prop where
 Rx:K.In base
 glob:base.Ns mainGlobals mg
 blt:∃mb,base.Ns builtinsNs mb/\∀x:Str,x≠"__name__"->mb x=bootBuiltins x
 nolimit:base.NoLimit
structure Cx where
 prog:Program
 w:World
 K:aE
 mg:Str->Option Value
 base:Heap
 A:Around
 N:List Str
 s₀:Shared
 H₀:Hp
 env:Env
 outer:List Env
 stack:List Env
 ex:List Addr
 fn:Str->Bool
 calm:Bool
 pn:List (Addr×Obj)
 xe:Value->ab_->Prop
noncomputable def Bp(l:apn):af7:=l.filterMap (·.frame)
noncomputable abbrev Cx.fs(X:Cx):af7:=Bp X.outer
def wX(sc:Scope)(x:Str):Prop:=sc.names.lookup x=some .local \/an4 \/sc.names.lookup x=some .free
def Loc(sc:Scope)(x:Str):Prop:=sc.names.lookup x=some .local \/sc.names.lookup x=some .cell
def Look(env:Env)(h:Heap)(m:Str->af9)(x:Str)(u:Value):Prop:=
 (env.kindOf x=some .local /\m x=some u)\/((env.kindOf x=some .cell \/env.kindOf x=some .free)/\∃c,apw/\h.IsCell c azn)
structure Cx.Ok(X:Cx):Prop where
 mod:Mod X.K X.mg X.base
 kind:X.env.scope.kind= .function
 glob:X.env.globals=mainGlobals
 blt:X.env.builtins=builtinsNs
 above:X.s₀.heap.objs.size<=X.env.locals
 inj:∀x y c,ab9->X.env.cells.lookup y=some c->x=y
 has:∀x,(azy \/azx)->∃c,X.env.cells.lookup x=some c
 NU:∀x c,ajj->ab9->X.s₀.heap.objs.size<=c
 hd:agH->X.A.handled=none
 frames:X.A.frames=some X.stack
 Ry:X.stack=X.outer\/(X.stack=X.env::X.outer/\X.env.frame=some X.env.locals)
 VR:∀b∈X.ex,ai8/\∀x c,ab9->c≠b
 bs:∀b o,alA->apA/\X.H₀ b=none
 Bq:X.base.objs.size<=X.s₀.heap.objs.size
 Br:∀b o,alA->b∉X.ex
 E2:∀b∈X.ex,b∉X.fs
 m5:X.s₀.heap.FunFrames X.base X.outer
 Nh:∀b∈X.fs,X.H₀ b=none
structure Inv(X:Cx)(U:aa8)(σ:List aoJ)(H:Hp)(s:ab_):Prop where
 ok:X.Ok
 os:s.os=X.s₀.os
 bare:AllBare s.gens
 base:Un X.fs X.ex X.H₀ H X.s₀.heap s.heap
 loc:∃m,az3/\∀(i:Nat) (x:Str) (v:V),X.N[i]?=some x->σ[i]?=some amJ->ah0->∃u,amu/\Look X.env s.heap m x u
 cell:∀x c,ab9->∃v,s.heap.IsCell c v
 free:H X.env.locals=none
 gu:∀x c,ab9->H c=none
 pin:∀p∈X.pn++U,az2/\H p.1=none/\p.1≠X.env.locals/\p.1∉X.fs/\∀v,p.2.data≠ .cell v
 aR:jf X.prog X.w H s.heap
 len:σ.length=X.N.length
section
variable {X:Cx}{U:aa8}{σ:List aoJ}{H H':Hp}{s:ab_}{h':Heap}
def Cx.Ok.SN(ok:X.Ok)(e:alA):b∉X.fs:=λhb=>by
 have:=(ok.m5.mem hb).1;rw[e]at this;cases this
theorem Inv.bs(I:aa3):∀b o,alA->ab4/\aje:=λb o e=>
 ⟨I.base.keep b o (I.ok.bs b o e).1 (I.ok.bs b o e).2 (I.ok.SN e) (I.ok.Br b o e),I.base.free b o (I.ok.bs b o e).1 (I.ok.bs b o e).2 (I.ok.Br b o e)⟩
def Inv.bk(I:aa3):∀b o,alA->ab4:=λb o e=>(I.bs b o e).1
theorem Inv.mod(I:aa3):Mod X.K X.mg X.base:=I.ok.mod
def Inv.Ik(I:aa3):X.K.In s.heap:=I.ok.mod.Rx.keeps I.bk
theorem Inv.lt(I:aa3):X.env.locals<s.heap.objs.size:=let ⟨_,hn,_⟩:=I.loc;hn.lt
def Inv.sz(I:aa3):X.s₀.heap.objs.size<=s.heap.objs.size:=aaf I.ok.above (aaE I.lt)
def Inv.SO(I:aa3)(h:s.heap.objs.size<=a):a∉X.fs:=λhb=>by
 obtain⟨_,o,ho,_⟩:=I.ok.m5.mem hb;exact absurd (aah (aaz ho) (aaf I.sz h)) amK
def Inv.JF(I:aa3):∀x c,ab9->c≠X.env.locals:=λx c e z=>by
 refine eO (I.cell x c e) λv o ho hd=>?_;obtain⟨m,⟨o',es,ep,JG,mz,_⟩,_⟩:=I.loc;rw[z,JG]at ho;cases ho;rw[mz]at hd;cases hd
theorem Inv.m5(I:aa3):s.heap.FunFrames X.base X.outer:=by
 have all:∀(l:apn),(∀b∈Bp l,b∈X.fs)->X.s₀.heap.FunFrames X.base l->s.heap.FunFrames X.base l:=by
  intro l;induction l with
  |nil=>intro _ _;trivial
  |cons env r ih=>
   intro hs hl;obtain⟨hk,⟨L,o,hf,hn,ho,hd⟩,hr⟩:=hl;have hL:L∈X.fs:=hs L (by unfold Bp;rw[adV,hf];exact aal);obtain⟨sl,e⟩:=I.base.slot L o ho (I.ok.Nh L hL) hL λz=>I.ok.E2 L z hL;exact⟨hk,⟨L,_,hf,hn,e,hd⟩,ih (λb hb=>hs b (by unfold Bp;rw[adV,hf];exact aag _ hb)) hr⟩
 exact all X.outer (λ_ hb=>hb) I.ok.m5
theorem Inv.stack(I:aa3):s.heap.FunFrames X.base X.stack:=by
 rcases I.ok.Ry with e|⟨e,hf⟩
 .rw[e];exact I.m5
 .rw[e];refine aa I.loc λm hn _=> .cons (by rw[I.ok.kind];decide) hf hn ?_ I.m5;exact Heap.get?_none_of_le (aaf I.ok.Bq I.ok.above)
def Inv.m6(I:aa3):∀b∈Bp X.stack,b∈X.env.locals::X.fs:=λb hb=>by
 rcases I.ok.Ry with e|⟨e,hf⟩
 .rw[e]at hb;exact aag _ hb
 .rw[e]at hb;unfold Bp at hb;rw[adV,hf]at hb;exact hb
def Inv.wY(I:aa3):∀b∈Bp X.stack,aje:=λb hb=>by
 rcases aat.mp (I.m6 b hb)with e|hb
 .rw[e];exact I.free
 .obtain⟨_,o,ho,_⟩:=I.ok.m5.mem hb;exact I.base.free b o ho (I.ok.Nh b hb) λz=>I.ok.E2 b z hb
def Inv.step{g':azJ}{t':Nat}{d':Drawn}{ch:af7}(I:aa3)
  (EF:∀b∈ch,(b∈X.ex\/al4)/\ai8/\(∀x c,ab9->c≠b)/\∀p∈X.pn++U,p.1≠b)
  (keep:∀b o,ai8->b∉X.fs->b∉ch->ab4->aje->ae0)
  (slot:∀b o,ai8->b∈X.fs->b∉ch->ab4->aje->∃sl,h'.get? b=some {o with slots:=sl}) (free:∀b o,b∉ch->ab4->aje->aoL)
  (there:∀b o,b∉ch->ab4->∃o',apV)
  (qQ:∀b xs,aDm->H' b=some ai6) (jg:∀b o u,H b=some ahD->H' b=some ahD) (qR:∀b ps,H b=some (.JE ps)->∃more,H' b=some (.JE (ps++more)))
  (ns:∀m,az3->h'.Ns X.env.locals m) (aR:ati) (hg:AllBare g'):
  Inv X U σ H' {s with heap:=h',gens:=g',drawn:=d',toks:=t'}:=by
 have VS:∀b o,apA->ai8:=λb o e=>aaJ anH;have Rz:∀b o,apA->b∉X.ex->b∉ch:=λb o e hx hb=>by
  rcases (EF b hb).1 with z|z
  .exact hx z
  .exact absurd (aah ajc z) amK
 have cellK:∀x c,ab9->∀v,s.heap.IsCell c v->h'.IsCell c v:=λx c e v zz=>by
  refine aa zz λo ho hd=>?_;have NV:c∉ch:=λz=>(EF c z).2.2.1 x c e rfl;by_cases hc:c∈X.fs
  .obtain⟨sl,q⟩:=slot c o (I.JF x c e) hc NV ho au6;exact⟨_,q,hd⟩
  .exact⟨o,keep c o (I.JF x c e) hc NV ho au6,hd⟩
 refine⟨I.ok,I.os,hg,⟨λb o e n hb hx=>?_,λb o e n hb hx=>?_,λb o e n hx=>?_,λb o e hx=>?_,λb xs e=>qQ b xs (I.base.qQ b xs e),λb o xs e=>jg b o xs (I.base.jg b o xs e),λb ps e=>?_⟩,?_,λx c e=>?_,?_,λx c e=>?_,λp hp=>?_,aR,I.len⟩
 .exact keep b o (VS b o e) hb atz aon alW
 .obtain⟨sl,e1⟩:=I.base.slot b o e n hb hx;obtain⟨XR,e2⟩:=slot b _ (VS b o e) hb atz e1 alW;exact⟨XR,e2⟩
 .obtain⟨o',e1⟩:=I.base.there b o e hx;exact free b o' atz e1 alW
 .obtain⟨o',e1⟩:=I.base.there b o e hx;exact there b o' atz e1
 .obtain⟨m1,e1⟩:=I.base.qR b ps e;obtain⟨m2,e2⟩:=qR b _ e1;exact⟨m1++m2,by rw[e2,Array.append_assoc]⟩
 .refine aa I.loc λm hn hl=>⟨m,ns m hn,λi x v e1 e2 e3=>?_⟩;refine aa (hl i x v e1 e2 e3) λu r l=>⟨u,r,?_⟩;rcases l with l|⟨k,c,e,z⟩
  .exact .inl l
  .exact .inr ⟨k,c,e,cellK x c e _ z⟩
 .obtain⟨v,z⟩:=I.cell x c e;exact⟨v,cellK x c e v z⟩
 .obtain⟨m,⟨o,_,_,ho,_⟩,_⟩:=I.loc;exact free _ o (λz=>(EF _ z).2.1 rfl) ho I.free
 .exact eO (I.cell x c e) λv o ho hd=>free c o (λz=>(EF c z).2.2.1 x c e rfl) ho au6
 .refine NL (I.pin p hp) λe n ne nf d=>?_;have NV:p.1∉ch:=λz=>(EF p.1 z).2.2.2 p hp rfl;exact⟨keep p.1 p.2 ne nf NV e n,free p.1 p.2 NV e n,ne,nf,d⟩
def Inv.un{t':Nat}(I:aa3)(u:Un X.fs [] H H' s.heap h')(aR:ati):Inv X U σ H' {s with heap:=h',toks:=t'}:=by
 obtain⟨m,⟨o,es,ep,ho,r⟩,_⟩:=id I.loc;obtain⟨sl,hL⟩:=u.any ho I.free ab5;exact I.step (g':=s.gens) (d':=s.drawn) (ch:=[]) (λ_ z=>nomatch z) (λb o _ hb _ e n=>u.keep b o e n hb ab5) (λb o _ hb _ e n=>u.slot b o e n hb ab5) (λb o _ e n=>u.free b o e n ab5) (λb o _ e=>u.there b o e ab5) u.qQ u.jg u.qR (λm' hm=>by
  refine kI hm λo' wZ JH JG r'=>?_;rw[ho]at JG;cases JG;exact⟨_,wZ,JH,hL,r'⟩) aR I.bare
def Inv.call{g':azJ}{t':Nat}{d':Drawn}{ch:af7}(I:aa3)(u:Un (Bp X.stack) ch H H' s.heap h')(aR:ati)(hg:AllBare g')
  (EF:∀b∈ch,(b∈X.ex\/al4)/\ai8/\(∀x c,ab9->c≠b)/\∀p∈X.pn++U,p.1≠b):
  Inv X U σ H' {s with heap:=h',gens:=g',drawn:=d',toks:=t'}:=by
 obtain⟨m,⟨o,es,ep,ho,r⟩,_⟩:=id I.loc;obtain⟨sl,hL⟩:=u.any ho I.free λz=>(EF _ z).2.1 rfl;exact I.step (ch:=ch) EF (λb o hL hb hc e n=>u.keep b o e n (λz=>(aat.mp (I.m6 b z)).elim hL hb) hc) (λb o _ _ hc e n=>u.any e n hc) (λb o hc e n=>u.free b o e n hc) (λb o hc e=>u.there b o e hc) u.qQ u.jg u.qR (λm' hm=>by
  refine kI hm λo' wZ JH JG r'=>?_;rw[ho]at JG;cases JG;exact⟨_,wZ,JH,hL,r'⟩) aR hg
def Inv.turned{t':Nat}{it:Addr}(I:aa3)(k:∀b o,b≠it->ab4->ae0)(hn:H it=none)(hL:it≠X.env.locals)
  (h1:it∈X.ex\/X.s₀.heap.objs.size<=it) (h2:∀x c,ab9->c≠it) (h3:∀p∈X.pn++U,p.1≠it):Inv X U σ H {s with heap:=h',toks:=t'}:=by
 have NW:∀b u,aot->b≠it:=λb u e z=>by rw[z,hn]at e;cases e
 refine I.step (g':=s.gens) (d':=s.drawn) (ch:=[it]) (λb hb=>?_) (λb o _ _ hc e _=>k b o (λz=>hc (by simp[z])) e) (λb o _ _ hc e _=>⟨o.slots,k b o (λz=>hc (by simp[z])) e⟩) (λ_ _ _ _ n=>n)
  (λb o hc e=>⟨o,k b o (λz=>hc (by simp[z])) e⟩) (λ_ _ e=>e) (λ_ _ _ e=>e) (λb ps e=>⟨#[],by rw[e];simp⟩) (λm hm=>?_) (λb u e=>?_) I.bare
 .have e:b=it:=by simpa using hb
  subst e;exact⟨h1,hL,h2,h3⟩
 .exact kI hm λo es ep ho r=>⟨o,es,ep,k _ o (abD hL) ho,r⟩
 .refine(I.aR b u e).pE (λc v hc q=>k c v ?_ q) (λ_ q=>q) λ_ _ q=>q;rcases hc with z|z
  .rw[z];exact NW b u e
  .exact NW c _ z
def Inv.tok(I:aa3)(t:Nat):Inv X U σ H {s with toks:=t}:=I.un (h':=s.heap) (t':=t) Un.refl I.aR
theorem Inv.kept(I:aa3)(k:∀b u,asw->ah1):Inv X U σ H {s with heap:=h',toks:=t'}:=I.un (Un.kept k) (I.aR.kept k)
theorem Inv.laid(I:aa3)(k:∀b u,asw->ah1)(hp:s.heap.objs.size<=a)(new:aT X.prog X.w ass h' a o):
  Inv X U σ ass {s with heap:=h',toks:=t'}:=I.un (Un.laid k hp (I.aR.fresh hp)) (I.aR.laid k hp new)
theorem Inv.write(I:aa3)(mu:Bn (H x))(he:e=x\/avw)(k:∀b u,b≠e->asw->ah1)(Ij:∃u,awz)
  (new:aT X.prog X.w aCf h' x o):Inv X U σ aCf {s with heap:=h',toks:=t'}:=I.un (Un.write mu he k Ij) (I.aR.write mu he k Ij new)
def Inv.weak(I:aa3)(hl:bV.length=σ.length)(w:∀(i:Nat) v,bV[i]?=some amJ->σ[i]?=some amJ):Inv X U bV H s:=
 ⟨I.ok,I.os,aAo,I.base,let ⟨m,hn,pW⟩:=I.loc;⟨m,hn,λi x v e1 e2 e3=>pW i x v e1 (w i v e2) e3⟩,I.cell,aDi,I.gu,I.pin,I.aR,hl.trans I.len⟩
def Inv.w4(I:aa3)(h:∀p∈NX,az2/\H p.1=none/\p.1≠X.env.locals/\p.1∉X.fs/\∀v,p.2.data≠ .cell v):Inv X NX σ H s:=
 ⟨I.ok,I.os,aAo,I.base,I.loc,I.cell,aDi,I.gu,λp hp=>(aay.mp hp).elim (λz=>I.pin p (aw8 z)) (h p),I.aR,I.len⟩
def tq{N:ae1}(hN:N.Nodup){i j:Nat}{x:Str}(a:N[i]?=some x)(b:N[j]?=some x):i=j:=by
 obtain⟨h1,e1⟩:=aax.mp a;obtain⟨h2,e2⟩:=aax.mp b;exact(List.getElem_inj hN).mp (e1.trans e2.symm)
def pX{M:Model}{A:ag0}{E:Value->Shared->Prop}{i:Nat}{x:Str}{v:V}{u:Value}{Q:Unit->Shared->Prop}(I:aa3)(hN:amr)(hi:X.N[i]?=some x)(hx:ah8)(r:amu)
  (h:∀s',Inv X U ar2 H s'->(∃a,Heap.SameBut a s.heap s'.heap/\(a=X.env.locals\/X.env.cells.lookup x=some a))->Q () s') (hf:ajj\/X.env.scope.names.lookup x=some .local :=by first|exact .inl rfl|exact .inr rfl|assumption):asq:=by
 obtain⟨m,hn,hl⟩:=id I.loc;have SQ:(X.env.scope.kind == .class||(X.env.scope.kind == .module&&X.env.locals !=X.env.globals))=false:=by rw[I.ok.kind];rfl
 have NY:i<σ.length:=by rw[I.len];exact(aax.mp hi).1
 have JF:=I.JF;have tracked:∀{a:Addr}{h':Heap},(∃o,alu/\H a=none)->ajC->jf X.prog X.w H h':=λ{a h'} ha hs b ob e=>by
  obtain⟨_,_,Il⟩:=ha;refine(I.aR b ob e).pE (λc w' hc q=>(hs.2 c ?_).trans q) (λ_ q=>q) λ_ _ q=>q;rintro rfl;rcases hc with rfl|hc
  .rw[Il]at e;cases e
  .rw[Il]at hc;cases hc
 rcases hx with hk|hk
 .refine wpAny_storeName_local hk hn (λh' NZ hs=>?_) SQ;obtain⟨oL,_,_,zA,_⟩:=id hn;refine h _ ⟨I.ok,I.os,aAo,⟨λb o e n hb hx=>?_,λb o e n hb hx=>?_,I.base.free,λb o e hx=>?_,I.base.qQ,I.base.jg,I.base.qR⟩,⟨_,NZ,λj y v' e1 e2 e3=>?_⟩,λy c e=>?_,aDi,I.gu,λp hp=>?_,tracked ⟨oL,zA,aDi⟩ hs,by simpa using I.len⟩ ⟨_,hs,agR⟩
  .exact(hs.2 b (aaJ anH)).trans aon
  .obtain⟨sl,e1⟩:=I.base.slot b o e n hb hx;exact⟨sl,ayk⟩
  .obtain⟨o',e1⟩:=I.base.there b o e hx;exact⟨o',ayk⟩
  .by_cases hj:j=i
   .subst hj;rw[hi]at e1;cases e1;rw[aaN NY]at e2;cases e2;exact⟨u,r,.inl ⟨hk,by simp⟩⟩
   .rw[aaQ (abD hj)]at e2;obtain⟨u',r',q⟩:=hl j y v' e1 e2 e3;refine⟨u',r',?_⟩;rcases q with⟨k,e⟩|⟨k,c,e,z⟩
    .refine .inl ⟨k,?_⟩;have:y≠x:=λe=>hj (tq hN e1 (e▸hi));simp[this,e]
    .exact .inr ⟨k,c,e,aAy⟩
  .obtain⟨w',z⟩:=I.cell y c e;exact⟨w',aAy⟩
  .obtain⟨e,n,ne,nf,d⟩:=I.pin p hp;exact⟨(hs.2 p.1 ne).trans e,n,ne,nf,d⟩
 .have SR:ajj:=by
   rcases hf with z|z
   .exact z
   .rw[z]at hk;cases hk
  obtain⟨c,hc⟩:=I.ok.has x (akf hk);obtain⟨w',z⟩:=I.cell x c hc;refine wpAny_storeName_cell I.ok.kind hk hc z (λh' kJ hs=>?_);obtain⟨oc,VT,SS⟩:=id z;refine h {s with heap:=h'} ⟨I.ok,I.os,aAo,⟨λb o e n hb hx=>?_,λb o e n hb hx=>?_,I.base.free,λb o e hx=>?_,I.base.qQ,I.base.jg,I.base.qR⟩,⟨m,hn.sameBut hs (abD (JF x c hc)),λj y v' e1 e2 e3=>?_⟩,λy c' e=>?_,aDi,I.gu,λp hp=>?_,tracked ⟨oc,VT,I.gu x c hc⟩ hs,by simpa using I.len⟩ ⟨c,hs,.inr hc⟩
  .exact(hs.2 b alN).trans aon
  .obtain⟨sl,e1⟩:=I.base.slot b o e n hb hx;exact⟨sl,aDD⟩
  .obtain⟨o',e1⟩:=I.base.there b o e hx;exact⟨o',aDD⟩
  .by_cases hj:j=i
   .subst hj;rw[hi]at e1;cases e1;rw[aaN NY]at e2;cases e2;exact⟨u,r,.inr ⟨.inl hk,c,hc,kJ⟩⟩
   .rw[aaQ (abD hj)]at e2;obtain⟨u',r',q⟩:=hl j y v' e1 e2 e3;refine⟨u',r',?_⟩;rcases q with q|⟨k,c',e,z'⟩
    .exact .inl q
    .refine .inr ⟨k,c',e,z'.sameBut hs ?_⟩;rintro rfl;exact hj (tq hN e1 (I.ok.inj _ _ _ e hc▸hi))
  .by_cases VU:c'=c
   .subst VU;exact⟨_,kJ⟩
   .obtain⟨w2,z2⟩:=I.cell y c' e;exact⟨w2,z2.sameBut hs VU⟩
  .obtain⟨e,n,ne,nf,d⟩:=I.pin p hp;refine⟨(hs.2 p.1 ?_).trans e,n,ne,nf,d⟩;intro q;rw[q,VT]at e;have q':oc=p.2:=aaI e;exact d w' (by rw[<-q'];exact SS)
def tD(I:aa3)(hN:amr)(hi:X.N[i]?=some x)(hx:ah8)(r:amu)
  (h:∀s',Inv X U ar2 H s'->Q () s') (hf:ajj\/X.env.scope.names.lookup x=some .local :=by first|exact .inl rfl|exact .inr rfl|assumption):asq:=
 pX I hN hi hx r (λs' I' _=>h s' I') hf
def Inv.N0(I:aa3)(ho:s'.os=s.os)(u:Un (Bp X.stack) ch H H' s.heap s'.heap)(aR:jf X.prog X.w H' s'.heap)(hg:aoO)
  (EF:∀b∈ch,(b∈X.ex\/al4)/\ai8/\(∀x c,ab9->c≠b)/\∀p∈X.pn++U,p.1≠b):aiv:=by
 obtain⟨h',g',d',t',o'⟩:=s';have e:o'=s.os:=ho;subst e;exact I.call (g':=g') (t':=t') (d':=d') u aR hg EF
end
abbrev XK:=Value->ahe->Hp->Prop
abbrev St:=List aoJ
abbrev VK:=V->Hp->Prop
abbrev TE:=St->Hp->VK->Prop
abbrev TT:=St->Hp->(Bool->Hp->Prop)->Prop
abbrev TA:=St->Hp->(ad7->Hp->Prop)->Prop
structure Bs where
 nx:St->Hp->Prop
 rt:VK
 bk:St->Hp->Prop:=λ_ _=>False
 ct:St->Hp->Prop:=λ_ _=>False
abbrev TS:=Bs->St->Hp->Prop
def EP(X:Cx)(U:aa8)(σ:St)(Q:VK)(u:Value)(s':ab_):Prop:=∃v H',aiv/\amu/\Q v H'
def TP(X:Cx)(U:aa8)(σ:St)(Q:Bool->Hp->Prop)(b:Bool)(s':ab_):Prop:=∃H',aiv/\Q b H'
def AP(X:Cx)(U:aa8)(σ:St)(Q:ad7->Hp->Prop)(us:ab2)(s':ab_):Prop:=∃vs H',aiv/\axk/\Q vs H'
def SP(X:Cx)(U:aa8)(D:Bs)(f:Flow)(s':ab_):Prop:=
 match f with
 | .next =>∃bV H',ai9/\D.nx bV H'
 | .brk =>∃bV H',ai9/\D.bk bV H'
 | .cont =>∃bV H',ai9/\D.ct bV H'
 | .ret u=>∃v bV H',ai9/\amu/\D.rt v H'
def PE(X:Cx)(e:Expr)(t:TE):Prop:=
 ∀(U:aa8) (s:ab_) (σ:St) (H:Hp) (Q:VK),aa3->aql->wpAny aa7 X.A (ajY e) ah_ X.xe s
def PT(X:Cx)(e:Expr)(t:TT):Prop:=
 ∀(U:aa8) (s:ab_) (σ:St) (H:Hp) (Q:Bool->Hp->Prop),aa3->aql->wpAny aa7 X.A (isTrue e X.env (ajY e)) atx X.xe s
def PW(X:Cx)(e:Expr)(t:TT):Prop:=
 ∀(whole:Sem Value) (U:aa8) (s:ab_) (σ:St) (H:Hp) (Q:Bool->Hp->Prop),aa3->aql->wpAny aa7 X.A (isTrue e X.env whole) atx X.xe s
def PW.pt(h:PW X e t):PT X e t:=h _
def PA(X:Cx)(es:ag7)(t:TA):Prop:=
 ∀(pos:Pos) (U:aa8) (s:ab_) (σ:St) (H:Hp) (Q:ad7->Hp->Prop),aa3->aql->wpAny aa7 X.A (spliced (backTo pos ag_)) (AP X U σ Q) X.xe s
def PS(X:Cx)(st:Stmt)(t:TS):Prop:=
 ∀(U:aa8) (s:ab_) (σ:St) (H:Hp) (D:Bs),aa3->t D σ H->wpAny aa7 X.A (exec st X.env) (SP X U D) X.xe s
def mB(X:Cx)(st:amx)(t:TS):Prop:=
 ∀(U:aa8) (s:ab_) (σ:St) (H:Hp) (D:Bs),aa3->t D σ H->wpAny aa7 X.A (execs st X.env) (SP X U D) X.xe s
def bG(h:wpAny M A t Q E s)(hQ:∀a s,Q a s->Q' a s):wpAny M A t Q' E s:=aco h hQ λ_ _ x=>x
section
variable {X:Cx}
def c9(i:Nat):TE:=λσ H Q=>∃v,σ[i]?=some amJ/\Q v H
def tC(v:V):TE:=λ_ H Q=>Q v H
def bD(hN:X.N[i]?=some x)(hv:ah0)(hd:aik:=by decide)(Bt:(x==("__classdict__":Str))=false:=by decide):PE X anT (c9 i):=by
 intro U s σ H Q I h;refine aa h λv e h=>aa I.loc λm hn hl=>aa (hl i x v hN e hv) λu r l=>?_;have fin:EP X U σ Q u s:=⟨v,H,I,r,h⟩;rcases l with⟨hk,hm⟩|⟨hk,c,hc,w6⟩
 .exact wpAny_Name (wpAny_loadName_local I.ok.kind hk hn hm fin) hd
 .rcases hk with hk|hk
  .exact wpAny_Name (wpAny_loadName_cell I.ok.kind hk hc w6 fin) hd
  .exact wpAny_Name (wpAny_loadName_free I.ok.kind hk hc w6 fin Bt) hd
def JI:PE X (asV agF) (tC agF):=λ_ _ _ H _ I h=>wpAny_Constant_int ⟨agF,H,akN,aow,h⟩
def N1:PE X (asV (aDH b)) (tC (.bl b)):=λ_ _ _ H _ I h=>Constant_bool ⟨.bl b,H,I,rfl,h⟩
def JJ:PE X (asV .none) (tC .cv):=λ_ _ _ H _ I h=>Constant_none ⟨.cv,H,I,rfl,h⟩
def Gl(X:Cx)(x:Str):Prop:=X.env.kindOf x=some .globalImplicit
def qT(I:aa3)(hg:aye)(hm:X.mg x=some u)(h:Q u s)
  (hd:aik:=by decide):awk:=
 afa I.ok.kind hg (Calls.loadGlobal_global (by rw[I.ok.glob];exact I.mod.glob.keeps I.bk) hm h) hd
def kN(I:aa3)(hg:aye)(hm:X.mg x=none)(hv:bootBuiltins x=some u)(h:Q u s)
  (hn:x≠"__name__":=by decide) (hd:aik:=by decide):awk:=by
 exact aa I.mod.blt λmb h1 h2=>afa I.ok.kind hg (Calls.loadGlobal_builtin (by rw[I.ok.glob];exact I.mod.glob.keeps I.bk) hm (by rw[I.ok.blt];exact h1.keeps I.bk) ((h2 x hn).trans hv) h) hd
def E3(hg:aye)(hm:X.mg x=some u)(r:amu)(hd:aik:=by decide):PE X anT (tC v):=
 λ_ _ _ H _ I h=>qT I hg hm ⟨v,H,I,r,h⟩ hd
variable {a b:Expr}{ta tb:TE}{pos:Pos}
def PC(X:Cx)(op:CmpOp)(a b:Expr)(t:TE):Prop:=
 ∀(U:aa8) (s:ab_) (σ:St) (H:Hp) (Q:VK),aa3->aql->
  wpAny aa7 X.A (ajY a) (λv aY=>wpAny aa7 X.A (ajY b) (λu m7=>wpAny aa7 X.A (compareOp op v u) ah_ X.xe m7) X.xe aY) X.xe s
def tB(t:TE):TT:=λσ H Q=>t σ H λx H1=>∃c,x= .bl c/\Q c H1
def JK(h:PC X op a b t)(h1:air:=by first|exact Bu _ aa2 aa2|rfl):PE X aic t:=λU s σ H Q I hw=>wpAny_Compare1 aCy h1
def JL(h:PC X op a b t)(h1:air:=by first|exact Bu _ aa2 aa2|rfl):PT X aic (tB t):=by
 intro U s σ H Q I hw;refine wpAny_isTrue_Compare1 (bG an_ λv s1 h1=>bG h1 λu s2 h2=>bG h2 λc s3 zz=>bg zz λx H1 I1 r1 q1=>?_) h1;refine aa q1 λd ak q=>?_
 try clear q1
 subst ak;cases r1;exact acf ⟨H1,I1,q⟩
def JM(h:PE X e t)(he:∀whole,isTrue e X.env whole=(do let v<-whole;standAt e.pos;holding [v] at7):=by intro _;rfl):PT X e (tB t):=by
 intro U s σ H Q I hw;refine isTrue_plain (bG an_ λv s1 ⟨x,H1,I1,r1,q1⟩=>?_) (he _);refine aa q1 λd ak q=>?_
 try clear q1
 subst ak;cases r1;exact acf ⟨H1,I1,q⟩
variable {tA RA:TT}{ba:ag7}
def N2(t u:TT):TT:=λσ H Q=>t σ H λc H1=>if c=true then u σ H1 Q else Q false H1
def XS(t u:TT):TT:=λσ H Q=>t σ H λc H1=>if c=true then Q true H1 else u σ H1 Q
def SU(t:TT):TT:=λσ H Q=>t σ H λc H1=>Q (!c) H1
def E4(ha:ax8):PW X (azY .And) tA:=by
 intro wh U s σ H Q I h;refine isTrue_and (bG (azP Q) λc s1 e=>?_);cases c with
 |true=>exact isTrue_and_nil e
 |false=>exact e
def JN(ha:ax8):PW X (azY .Or) tA:=by
 intro wh U s σ H Q I h;refine isTrue_or (bG (azP Q) λc s1 e=>?_);cases c with
 |false=>exact isTrue_or_nil e
 |true=>exact e
def JO(ha:ax8)(hb:PW X (apd .And) RA):PW X (ank .And) (N2 tA RA):=by
 intro wh U s σ H Q I h;refine isTrue_and (bG ahH λc s1 zz=>?_);refine aa zz λH1 I1 q1=>?_;cases c with
 |true=>exact hb wh U s1 σ H1 Q I1 q1
 |false=>exact⟨H1,I1,q1⟩
def N3(ha:ax8)(hb:PW X (apd .Or) RA):PW X (ank .Or) (XS tA RA):=by
 intro wh U s σ H Q I h;refine isTrue_or (bG ahH λc s1 zz=>?_);refine aa zz λH1 I1 q1=>?_;cases c with
 |true=>exact⟨H1,I1,q1⟩
 |false=>exact hb wh U s1 σ H1 Q I1 q1
def JP(ha:ax8):PT X am_ (SU tA):=by
 intro U s σ H Q I h;exact isTrue_not (azP (λc H1=>Q (!c) H1))
def N4(ta tb:TE):TE:=λσ H Q=>ta σ H λx H1=>∃c,x= .bl c/\if c=true then tb σ H1 Q else Q ayh H1
def SV(ta tb:TE):TE:=λσ H Q=>ta σ H λx H1=>∃c,x= .bl c/\if c=true then Q ag4 H1 else tb σ H1 Q
def N5(ta:TE):TE:=λσ H Q=>ta σ H λx H1=>∃c,x= .bl c/\Q (.bl (!c)) H1
def JQ(h:PE X a t):PE X (azY op) t:=λU s σ H Q I hw=>BoolOp_one aCy
def JR(ha:anr)(hb:PE X (apd .And) tb):PE X (ank .And) (N4 ta tb):=by
 intro U s σ H Q I h;refine BoolOp_and (bG ahH λv s1 zz=>?_);obtain⟨x,H1,I1,r1,q1⟩:=zz;obtain⟨c,rfl,q1⟩:=q1;cases r1;refine acf ?_;cases c with
 |true=>exact hb U s1 σ H1 Q I1 q1
 |false=>exact⟨ayh,H1,I1,rfl,q1⟩
def N6(ha:anr)(hb:PE X (apd .Or) tb):PE X (ank .Or) (SV ta tb):=by
 intro U s σ H Q I h;refine BoolOp_or (bG ahH λv s1 zz=>?_);obtain⟨x,H1,I1,r1,q1⟩:=zz;obtain⟨c,rfl,q1⟩:=q1;cases r1;refine acf ?_;cases c with
 |false=>exact hb U s1 σ H1 Q I1 q1
 |true=>exact⟨ag4,H1,I1,rfl,q1⟩
def JS(ha:anr):PE X am_ (N5 ta):=by
 intro U s σ H Q I h;refine UnaryOp_ (bG ahH λv s1 zz=>?_);obtain⟨x,H1,I1,r1,q1⟩:=zz;obtain⟨c,rfl,q1⟩:=q1;cases r1;exact not_of (acf ⟨.bl (!c),H1,I1,rfl,q1⟩)
end
def cO(K:aE)(H:Hp)(a:Addr)(xs:ad7):Prop:=
 Rd H a agN\/
  ∃(o:Obj) (its:agI) (n:Nat),K.lookup a=some o/\o.cls= .type "list"/\o.dict=none/\o.data= .seq its n/\its.size<=sizeLine/\aF xs its.toList/\o.slots=#[]
def cP(K:aE)(H:Hp)(a:Addr)(xs:ad7):Prop:=H a=some ai6
noncomputable def SW:Value->Option V
 | .none =>some .cv
 | .bool b=>some (.bl b)
 | .int i _=>some agF
 | .str x _=>some (.str x)
 | .bytes b _=>some (.NR b)
 | .float b _=>some (.SJ b)
 | .ref a=>some ac_
 | .type n=>some (.ty n)
 |_=>none
def RelV.abs(r:aup):SW u=some x:=by
 cases x with
 |cv=>cases r;rfl
 |bl _=>cases r;rfl
 |int _=>obtain⟨t,rfl⟩:=r;rfl
 |str _=>obtain⟨t,rfl⟩:=r;rfl
 |NR _=>obtain⟨t,rfl⟩:=r;rfl
 |SJ _=>obtain⟨t,rfl⟩:=r;rfl
 |ref _=>cases r;rfl
 |ty _=>cases r;rfl
theorem RelV.inj(r:aup)(q:anj):x=y:=aaI (r.abs.symm.trans q.abs)
theorem aF.inj:∀{xs ys:ad7}{us:ab2},ani->aF ys us->xs=ys:=λ{xs ys us} h=>by
 induction h generalizing ys with
 |nil=>intro h;cases h;rfl
 |cons r t ih=>intro h;cases h with|cons r' t'=>rw[r.inj r',ih t']
section
variable {X:Cx}{U:aa8}{σ:St}{H:Hp}{s:ab_}{a:Addr}{xs ys:ad7}
def cO.of{K:aE}(h:H a=some agN):am4:= .inl (akf h)
def cP.of{K:aE}(h:H a=some ai6):aji:=h
def Inv.list(I:aa3)(h:aAV):∃its:ab2,anq/\PlainL s.heap a its.toArray/\ah6:=by
 rcases h with h|⟨o,its,n,hk,hc,hd,hs,hz,r,_⟩
 .obtain⟨z,its,n,r,e⟩:=h.ok I.aR;exact⟨its,r,⟨_,n,e,rfl,rfl,rfl⟩,z⟩
 .refine⟨its.toList,r,⟨o,n,I.Ik a o hk,hc,hd,by simpa using hs⟩,?_⟩;have e:=r.length;simp only[aaG]at e;exact aaf (aap e) hz
def Inv.tuple(I:aa3)(h:aAT):∃its:ab2,anq/\IsTup s.heap a its.toArray/\ah6:=by
 obtain⟨z,its,r,p⟩:=I.aR a _ h;exact⟨its,r,p.tup,z⟩
def Inv.JT(I:aa3)(h:aAT):∃its:ab2,anq/\jA s.heap a its.toArray/\ah6:=by
 obtain⟨z,its,r,p⟩:=I.aR a _ h;exact⟨its,r,p,z⟩
def Inv.tE(I:aa3)(h:aAV)(h':cO X.K H a ys):xs=ys:=by
 obtain⟨its,r,⟨o,n,e,_,_,d⟩,_⟩:=I.list h;obtain⟨its',r',⟨o',n',e',_,_,d'⟩,_⟩:=I.list h';rw[e]at e';cases e';rw[d]at d';injection d' with d1 _;have:its=its':=by simpa using congrArg Array.toList d1
 subst this;exact r.inj r'
def Inv.kO(I:aa3)(h:aAT)(h':cP X.K H a ys):xs=ys:=by
 obtain⟨its,r,⟨o,e,_,n,d⟩,_⟩:=I.tuple h;obtain⟨its',r',⟨o',e',_,n',d'⟩,_⟩:=I.tuple h';rw[e]at e';cases e';rw[d]at d';injection d' with d1 _;have:its=its':=by simpa using congrArg Array.toList d1
 subst this;exact r.inj r'
end
noncomputable abbrev Cx.pF(X:Cx)(E:Value->ab_->Prop):Cx:={X with xe:=E}
noncomputable abbrev Cx.N7(X:Cx):Cx:=X.pF λ_ _=>False
theorem Cx.Ok.pF{X:Cx}(ok:X.Ok)(E:Value->ab_->Prop):(X.pF E).Ok :=
 ⟨ok.mod,ok.kind,ok.glob,ok.blt,ok.above,ok.inj,ok.has,ok.NU,ok.hd,ok.frames,ok.Ry,ok.VR,ok.bs,ok.Bq,ok.Br,ok.E2,ok.m5,ok.Nh⟩
def Cx.Ok.gK{X:Cx}{E:Value->Shared->Prop}(ok:(X.pF E).Ok):X.Ok:=
 ⟨ok.mod,ok.kind,ok.glob,ok.blt,ok.above,ok.inj,ok.has,ok.NU,ok.hd,ok.frames,ok.Ry,ok.VR,ok.bs,ok.Bq,ok.Br,ok.E2,ok.m5,ok.Nh⟩
section
variable {X:Cx}{U:aa8}{σ:St}{H:Hp}{s:ab_}{E:Value->Shared->Prop}
theorem Inv.pF(I:aa3)(E:Value->ab_->Prop):aDh:=⟨I.ok.pF E,I.os,aAo,I.base,I.loc,I.cell,aDi,I.gu,I.pin,I.aR,I.len⟩
theorem Inv.gK(I:aDh):aa3:=⟨I.ok.gK,I.os,aAo,I.base,I.loc,I.cell,aDi,I.gu,I.pin,I.aR,I.len⟩
theorem SP.gK(h:SP (X.pF E) U D f s'):SP X U D f s':=by
 cases f with
 |next=>obtain⟨bV,H',I,q⟩:=h;exact⟨bV,H',I.gK,q⟩
 |brk=>obtain⟨bV,H',I,q⟩:=h;exact⟨bV,H',I.gK,q⟩
 |cont=>obtain⟨bV,H',I,q⟩:=h;exact⟨bV,H',I.gK,q⟩
 |ret u=>obtain⟨v,bV,H',I,r,q⟩:=h;exact⟨v,bV,H',I.gK,r,q⟩
theorem mB.N7{st:amx}{t:TS}(h:mB X.N7 st t):mB X st t:=λU s σ H D I hw=>
 aco (h U s σ H D (I.pF _) hw) (λ_ _ q=>q.gK) λ_ _ z=>False.elim z
end
section
variable {X:Cx}{st:Stmt}{ba:amx}{t u:TS}{e:Expr}{te:TE}{pos:Pos}
def w8:TS:=λD σ H=>D.nx σ H
def qU(t u:TS):TS:=λD σ H=>t {D with nx:=u D} σ H
def jB:mB X [] w8:=λ_ _ σ H _ I h=>afY ⟨σ,H,I,h⟩
def b6(h1:PS X st t)(h2:mB X ba u):mB X (st::ba) (qU t u):=by
 intro U s σ H D I h;refine wpAny_execs_cons (bG (h1 U s σ H {D with nx:=u D} I h) λf s1 q=>?_);cases f with
 |next=>
  exact eO q λbV H' I' q=>h2 U s1 bV H' D I' q
 |ret v=>exact q
 |brk=>exact q
 |cont=>exact q
def Inv.quiet(I:aa3):interactive X.env=false:=by simp[interactive,I.ok.kind]
def w_(te:TE):TS:=λD σ H=>te σ H λ_ H1=>D.nx σ H1
def jC(he:ap8)(hs:swapsWith e none pos.line X.env=pure false:=by rfl):PS X (.Expr e pos) (w_ te):=by
 intro U s σ H D I h;exact wpAny_Expr_any (bG alK λv s1 zz=>bg zz λx H1 I1 r1 q1=>⟨σ,H1,I1,q1⟩) I.quiet hs
def SY(te:TE):TS:=λD σ H=>te σ H D.rt
def vH(he:ap8):PS X aBw (SY te):=by
 intro U s σ H D I h;exact wpAny_Return_some (bG alK λv s1 zz=>bg zz λx H1 I1 r1 q1=>⟨x,σ,H1,I1,r1,q1⟩)
def E5(c:TT)(t u:TS):TS:=λD σ H=>c σ H λb H1=>if b=true then t D σ H1 else u D σ H1
def Im(hc:PT X c tc)(ha:mB X a t)(hb:mB X b u):PS X (.If c a b pos) (E5 tc t u):=by
 intro U s σ H D I h;refine wpAny_If (bG (hc U s σ H _ I h) λd s1 zz=>?_);refine aa zz λH1 I1 q1=>?_;cases d with
 |true=>exact ha U s1 σ H1 D I1 q1
 |false=>exact hb U s1 σ H1 D I1 q1
end
abbrev TG:=V->St->Hp->(St->Hp->Prop)->Prop
abbrev JU:=List V->St->Hp->(St->Hp->Prop)->Prop
def PG(X:Cx)(target:Expr)(t:TG):Prop:=
 ∀(U:aa8) (s:ab_) (σ:St) (H:Hp) (v:V) (u:Value) (Q:St->Hp->Prop),aa3->amu->t v σ H Q->
  wpAny aa7 X.A (assign target X.env u) (λ_ s'=>∃bV H',ai9/\Q bV H') X.xe s
def Ni(X:Cx)(ts:ag7)(t:JU):Prop:=
 ∀(U:aa8) (s:ab_) (σ:St) (H:Hp) (vs:ad7) (us:ab2) (Q:St->Hp->Prop),aa3->axk->t vs σ H Q->
  wpAny aa7 X.A (assignInOrder ((assignEach ts X.env).map (·.2)) us) (λ_ s'=>∃bV H',ai9/\Q bV H') X.xe s
abbrev N8:=V->V->V->Hp->(Hp->Prop)->Prop
def N9(X:Cx)(t:N8):Prop:=
 ∀(U:aa8) (s:ab_) (σ:St) (H:Hp) (o i v:V) (ov iv u:Value) (Q:Hp->Prop),aa3->RelV o ov->RelV i iv->amu->t o i v H Q->
  wpAny aa7 X.A (setItem ov iv u) (λ_ s'=>∃H',aiv/\Q H') X.xe s
section
variable {X:Cx}{pos:Pos}
def cQ(i:Nat):TG:=λv σ H Q=>Q ar2 H
def mC(hN:amr)(hi:X.N[i]?=some x)(hx:ah8)(hf:ajj\/X.env.scope.names.lookup x=some .local :=by first|exact .inl rfl|exact .inr rfl|assumption):PG X anT (cQ i):=by
 intro U s σ H v u Q I r h;exact wpAny_assign_Name (tD I hN hi hx r (λs' I'=>⟨_,H,I',h⟩) hf)
def N_:JU:=λvs σ H Q=>vs=[]/\Q σ H
def Io(t:TG)(u:JU):JU:=λvs σ H Q=>∃v r,vs=v::r/\t v σ H λbV H'=>u r bV H' Q
def E6:Ni X [] N_:=by
 intro U s σ H vs us Q I r h;obtain⟨e,h⟩:=h;subst e;cases r;exact assignInOrder_nil ⟨σ,H,I,h⟩
def Bv(h1:PG X e t)(h2:Ni X es u)
  (hs:(assignEach (e::es) X.env).map (·.2)=assign e X.env::(assignEach es X.env).map (·.2):=by rfl):Ni X (e::es) (Io t u):=by
 intro U s σ H vs us Q I r h;obtain⟨v,vr,e1,h⟩:=h;subst e1;cases r with
 |cons r rr=>
  rw[hs];refine assignInOrder_cons (bG (h1 U s σ H _ _ _ I r h) λ_ s1 zz=>?_);obtain⟨JV,H1,I1,q1⟩:=zz;exact h2 U s1 JV H1 _ _ Q I1 rr q1
def S0(K:aE)(n:Nat)(t:JU):TG:=λv σ H Q=>∃a xs,ajy/\aji/\xs.length=n/\t xs σ H Q
def JW(hc:agH)(h:Ni X es t)
  (hn:(assignEach es X.env).length =n:=by rfl) (m8:(assignEach es X.env).findIdx? (·.1)=none:=by rfl):PG X auH (S0 X.K n t):=by
 intro U s σ H v u Q I r hw;obtain⟨a,xs,e1,hq,hl,hw⟩:=hw;subst e1;cases r;obtain⟨its,rv,ht,hz⟩:=I.tuple hq;refine assign_Tuple_tuple agY ht (by simp[hn,<-hl,rv.length]) m8 λh' hx=>?_;have I1:Inv X U σ H {s with heap:=h'}:=I.kept (t':=s.toks) λb o e=>hx b o ax0 e;exact h U _ σ H xs _ Q I1 (by simpa using rv) hw
def S1(to ti:TE)(t:N8):TG:=λv σ H Q=>to σ H λo H1=>ti σ H1 λi H2=>t o i v H2 λH3=>Q σ H3
def JX(ho:ax_)(hi:PE X i ti)(hs:N9 X t)
  (ha:∀v,assign arY X.env v=(do
   let ov<-holding [v] (ajY o)
   let iv<-holding [v,ov] (ajY i)
   standAt pos
   holding [v,ov,iv] (setItem ov iv v)
   release [v,ov,iv] []):=by intro _;rfl):PG X arY (S1 to ti t):=by
 intro U s σ H v u Q I r h;rw[ha];refine aaa (abi (bG ajH λov s1 zz=>?_));refine bg zz λx H1 I1 r1 q1=>aaa (abi (bG ay7 λiv s2 zz=>?_));refine bg zz λy H2 I2 r2 q2=>aaa (afC (aaa (abi (bG (hs U s2 σ H2 x y v ov iv u _ I2 r1 r2 r q2) λ_ s3 zz=>?_))));exact aa zz λH3 I3 q3=>wpAny_release ⟨σ,H3,I3,q3⟩
def pG(te:TE)(g:TG):TS:=λD σ H=>te σ H λx H1=>g x σ H1 D.nx
def JY(he:ap8)(hg:PG X tg g)(hs:swapsWithSole [tg] e pos.line X.env=pure false:=by rfl)(hw:swappedStores [tg] e X.env=pure none:=by rfl)
  (h1:(assignEach [tg] X.env).map (·.2)=[assign tg X.env]:=by rfl):PS X (.Assign [tg] e pos) (pG te g):=by
 intro U s σ H D I h;refine wpAny_Assign_stores (bG alK λv s1 zz=>bg zz λx H1 I1 r1 q1=>?_) hs hw;rw[h1];exact bG (hg U s1 σ H1 x v _ I1 r1 q1) λ_ s2 q=>q
def gL(hN:amr)(hi:X.N[i]?=some x)(hx:ah8)(he:ap8)(hs:swapsWith e (ajU (.Name x tG)) pos.line X.env=pure false:=by rfl)(hf:ajj\/X.env.scope.names.lookup x=some .local :=by first|exact .inl rfl|exact .inr rfl|assumption):
  PS X (.Assign [.Name x tG] e pos) (pG te (cQ i)):=by
 intro U s σ H D I h;refine wpAny_Assign_Name (bG alK λv s1 zz=>bg zz λy H1 I1 r1 q1=>?_) hs;exact tD I1 hN hi hx r1 (λs2 I2=>⟨_,H1,I2,q1⟩) hf
def JZ(c:TT)(tb:TS):TS:=λD σ H=>∃W:Nat->St->Hp->Prop,(∃m,W m σ H)/\∀m σ H,W m σ H->
 c σ H λb H1=>if b=true then∃N:St->Hp->Prop,(∀bV H',N bV H'->∃m',m'<m/\W m' bV H')/\tb {D with nx:=N,ct:=N,bk:=D.nx} σ H1 else D.nx σ H1
def tH(hp:aiJ)(hc:PT X c tc)(hb:mB X body tb):PS X aAs (JZ tc tb):=by
 intro U s σ H D I h;obtain⟨W,⟨m0,w0⟩,turn⟩:=h;refine wpAny_While (codeAny_whileLoop (λn s'=>∃bV H',ai9/\W n bV H') ?_ m0 ⟨σ,H,I,w0⟩);rintro n s1 ⟨JV,H1,I1,w1⟩;refine acZ hp (bG (hc U s1 JV H1 _ I1 (turn n JV H1 w1)) λb s2 zz=>?_);refine aa zz λH2 I2 q2=>?_;cases b with
 |true=>
  refine aa q2 λN hN q2=>?_;rw[aav rfl];refine acZ hp (bG (hb U s2 JV H2 _ I2 q2) λf s3 q3=>?_);cases f with
  |next=>
   exact eO q3 λzB H3 I3 n3=>aa (hN zB H3 n3) λm' hm w3=>⟨m',hm,zB,H3,I3,w3⟩
  |cont=>
   exact eO q3 λzB H3 I3 n3=>aa (hN zB H3 n3) λm' hm w3=>⟨m',hm,zB,H3,I3,w3⟩
  |brk=>exact q3
  |ret v=>exact q3
 |false=>
  rw[aaC aai];exact afY ⟨JV,H2,I2,q2⟩
end
structure It where
 go:Nat->Hp->Prop
 Bw:Nat->Hp->V->Hp->Prop
 stop:Nat->Hp->Prop
def kP(X:Cx)(U:aa8)(H:Hp)(b:Addr):Prop:=
 H b=none/\ai8/\b∉X.fs/\(b∈X.ex\/al4)/\(∀x c,ab9->c≠b)/\∀p∈X.pn++U,p.1≠b
def Inv.tJ(I:aa3)(hb:s.heap.objs.size<=b)(hn:aoL):kP X U H' b:=by
 refine⟨hn,afZ (aah I.lt hb),I.SO hb,.inr (aaf I.sz hb),λx c e z=>?_,λp hp z=>?_⟩
 .obtain⟨v,q⟩:=I.cell x c e;exact absurd (aah q.lt (by rw[z];exact hb)) amK
 .exact absurd (aah (aaz (I.pin p hp).1) (by rw[z];exact hb)) amK
structure qV(P:ad2)(w:World)(K:aE)(tg:Expr)(J:It)(fp:af7)(it:Addr)(tn:Nat->Heap->Prop):Prop where
 mem:it∈fp
 obj:∀i h,tn i h->∀b∈fp,∃o,ahU/\∀v,o.data≠ .cell v
 keep:∀i h h',tn i h->(∀b∈fp,∀o,ahU->ae0)->tn i h'
 item:∀(X:Cx),X.prog=P->X.w=w->X.K=K->agH->∀(i:Nat) (U:aa8) (s:ab_) (σ:St) (H:Hp) (E:Value->ab_->Prop),aa3->(∀b∈fp,avj)->tn i s.heap->aBg->
  wpAny amI X.A (pyNext ae5) (λr s1=>∃u,r=some u/\
   wpAny amI X.A axf (λ_ s2=>∃x H',Inv X U σ H' s2/\aup/\aqy/\tn (i+1) s2.heap/\∀b∈fp,aoL) E s1) E s
 done:∀(X:Cx),X.prog=P->X.w=w->X.K=K->agH->∀(i:Nat) (U:aa8) (s:ab_) (σ:St) (H:Hp) (E:Value->ab_->Prop),aa3->(∀b∈fp,avj)->tn i s.heap->aAm->
  wpAny amI X.A (pyNext ae5) (λr s1=>r=none/\Inv X U σ H s1) E s
 self:∀(A:ag0) (i:Nat) (s:ab_) (Q:Value->ab_->Prop) (E:Value->ab_->Prop),tn i s.heap->Q ae5 s->wpAny amI A (pyIter ae5) Q E s
abbrev TI:=St->Hp->(It->Hp->Prop)->Prop
def VV(X:Cx)(U:aa8)(σ:St)(tg:Expr)(R:It->Hp->Prop)(RB:Value)(s2:ab_):Prop:=
 ∃(it:Addr) (fp:af7) (tn:Nat->Heap->Prop) (J:It) (H':Hp),RB= .ref it/\Inv X U σ H' s2/\avg/\tn 0 s2.heap/\(∀b∈fp,kP X U H' b)/\R J H'
def PI(X:Cx)(tg iter:Expr)(wi:TI):Prop:=
 ∀(U:aa8) (s:ab_) (σ:St) (H:Hp) (R:It->Hp->Prop),aa3->wi σ H R->
  wpAny aa7 X.A (ajY iter) (λv s1=>wpAny aa7 X.A (pyIter v) (VV X U σ tg R) X.xe s1) X.xe s
def pY(ho:s.heap.get? it=some o)(hc:o.cls= .type n)(hd:o.data= .fields vs)
  (hn:["enumerate","zip","dict_itemiterator","dict_reverseitemiterator","odict_iterator","itertools.zip_longest","itertools.pairwise"].contains n=false) (hQ:Q () s):wpAny M A axf Q E s:=by
 unfold letOwnedTupleGo;cases tg<;>first
  |exact aaj hQ
  |(cases u<;>first
    |exact aaj hQ
    |(refine aaa (wpAny_load ho ?_);rw[hc,hd];show wpAny M A (if(["enumerate","zip","dict_itemiterator","dict_reverseitemiterator","odict_iterator","itertools.zip_longest","itertools.pairwise"].contains n&&vs[0]? == some (rawInt _))=true then _ else _) Q E s;rw[aaC (by intro h;rw[hn,Bool.false_and]at h;cases h)];exact aaj hQ))
noncomputable def S3(K:aE)(a:Addr):It:=
 ⟨λi H=>∃xs x,am4/\xs[i]?=some x,λi H x H'=>H'=H/\∀xs,am4->xs[i]?=some x,λi H=>∃xs,am4/\xs.length<=i⟩
noncomputable def S4(K:aE)(a:Addr):It:=
 ⟨λi H=>∃xs x,aji/\xs[i]?=some x,λi H x H'=>H'=H/\∀xs,aji->xs[i]?=some x,λi H=>∃xs,aji/\xs.length<=i⟩
noncomputable def RC(lo:Int)(n:Nat):It:=⟨λi _=>i<n,λi H x H'=>H'=H/\x= .int (lo+i),λi _=>n<=i⟩
def zC{P:ad2}{w:World}{K:aE}{tg:Expr}(a it:Addr):qV P w K tg (S3 K a) [it] it (λi h=>h.IsListIter it a i) where
 mem:=by simp
 obj:=λi h st b hb=>by
  have e:b=it:=by simpa using hb
  subst e;exact bF st λo e c d=>⟨o,e,λv z=>by rw[d]at z;cases z⟩
 keep:=λi h h' st k=>st.at λo e=>k it ab5 o e
 item:=by
  intro X hP hw hK hc i U s σ H E I hf st hg;subst hP hw hK;refine eO hg λxs x hq hx=>bF ajM λits rv p hz=>aa aCl λu hu ru=>sW ajb λf0 f1 f2 f3 f4 f5=>aeo st p.isList (x:=u) (by simpa using hu) λh' av sb=>?_;have I1:Inv X U σ H {s with heap:=h'}:=I.turned (t':=s.toks) (λb o hb e=>aoR) f0 f1 f3 f4 f5;exact bF (id av) λo e c d=>⟨u,rfl,pY (s:={s with heap:=h'}) e c d aa2 ⟨x,H,I1,ru,⟨rfl,λys hy=>by rw[I.tE hy hq];exact hx⟩,av,λb hb=>aqG⟩⟩
 done:=by
  intro X hP hw hK hc i U s σ H E I hf st hg;subst hP hw hK;refine aa hg λxs hq hx=>bF ajM λits rv p hz=>sW ajb λf0 f1 f2 f3 f4 f5=>?_;have hl:=rv.length;exact aez agY st p.isList (by simp;exact aaf aiH hx) λh' eb=>⟨rfl,I.turned (t':=s.toks) (λb o hb e=>aoF) f0 f1 f3 f4 f5⟩
 self:=λ_ _ _ _ _ st h=>wpAny_pyIter_listiter st h
def vI{P:ad2}{w:World}{K:aE}{tg:Expr}(a it:Addr):qV P w K tg (S4 K a) [it] it (λi h=>h.IsTupleIter it a i) where
 mem:=by simp
 obj:=λi h st b hb=>by
  have e:b=it:=by simpa using hb
  subst e;exact bF st λo e c d=>⟨o,e,λv z=>by rw[d]at z;cases z⟩
 keep:=λi h h' st k=>st.at λo e=>k it ab5 o e
 item:=by
  intro X hP hw hK hc i U s σ H E I hf st hg;subst hP hw hK;refine eO hg λxs x hq hx=>bF am6 λits rv p hz=>aa aCl λu hu ru=>sW ajb λf0 f1 f2 f3 f4 f5=>wpAny_pyNext_tuple_item st (show s.heap.IsTuple a its.toArray from p) (x:=u) (by simpa using hu) λh' av sb=>?_;have I1:Inv X U σ H {s with heap:=h'}:=I.turned (t':=s.toks) (λb o hb e=>aoR) f0 f1 f3 f4 f5;exact bF (id av) λo e c d=>⟨u,rfl,pY (s:={s with heap:=h'}) e c d aa2 ⟨x,H,I1,ru,⟨rfl,λys hy=>by rw[I.kO hy hq];exact hx⟩,av,λb hb=>aqG⟩⟩
 done:=by
  intro X hP hw hK hc i U s σ H E I hf st hg;subst hP hw hK;refine aa hg λxs hq hx=>bF am6 λits rv p hz=>sW ajb λf0 f1 f2 f3 f4 f5=>?_;have hl:=rv.length;exact wpAny_pyNext_tuple_end agY st (show s.heap.IsTuple a its.toArray from p) (by simp;exact aaf aiH hx) λh' eb=>⟨rfl,I.turned (t':=s.toks) (λb o hb e=>aoF) f0 f1 f3 f4 f5⟩
 self:=λ_ _ _ _ _ st h=>wpAny_pyIter_tupleiter st h
def vJ{P:ad2}{w:World}{K:aE}{tg:Expr}(it:Addr)(lo:Int)(n:Nat):qV P w K tg (RC lo n) [it] it (λi h=>IsRangeIter h it (lo+(i:Nat)*1) ((n:Int)-(i:Nat)) 1) where
 mem:=by simp
 obj:=λi h st b hb=>by
  have e:b=it:=by simpa using hb
  subst e;exact⟨_,st,λv z=>by
   have z':Data.fields _=Data.cell v:=z;cases z'⟩
 keep:=λi h h' st k=>k it ab5 _ st
 item:=by
  intro X hP hw hK hc i U s σ H E I hf st hg;subst hP hw hK;refine sW ajb λf0 f1 f2 f3 f4 f5=>?_;have W:=Walks.range (prog:=X.prog) (w:=X.w) agY it lo 1 n;refine W.item i s _ _ hg st λv h' tk hv av kk=>?_;obtain⟨t,rfl⟩:=hv;have I1:Inv X U σ H {s with heap:=h',toks:=tk}:=I.turned (λb o hb e=>kk b o (by simpa using hb) e) f0 f1 f3 f4 f5;refine⟨_,rfl,pY (s:={s with heap:=h',toks:=tk}) (n:="range_iterator") av rfl rfl aa2 ⟨.int (lo+i),H,I1,⟨t,?_⟩,⟨rfl,rfl⟩,av,λb hb=>aqG⟩⟩;rw[Int.mul_one]
 done:=by
  intro X hP hw hK hc i U s σ H E I hf st hg;subst hP hw hK;exact sW ajb λf0 f1 f2 f3 f4 f5=>wpAny_pyNext_range_end agY st (by have:n<=i:=hg;lia) λh' eb=>⟨rfl,I.turned (t':=s.toks) (λb o hb e=>aoF) f0 f1 f3 f4 f5⟩
 self:=λ_ _ _ _ _ st h=>wpAny_pyIter_rangeiter st h
section
variable {X:Cx}{tg:Expr}
def Bx{U:aa8}{σ:St}{H:Hp}{s:ab_}{R:It->Hp->Prop}{E:Value->Shared->Prop}{lo hi:Int}{t u v:Tok}{tk:Nat}(I:aa3)(h1: -(2 ^ 62)<=lo)(h2:lo<2 ^ 62)(h3: -(2 ^ 62)<=hi)(h4:hi<2 ^ 62)
  (q:R (RC lo (hi-lo).toNat) H):wpAny aa7 X.A (pyIter ab7) (VV X U σ tg R) E {s with heap:=s.heap.push {cls:= .type "range",data:= .fields #[auE,auF,axp]},toks:=tk}:=by
 refine wpAny_pyIter_range (IsRange.new ..) (small_one h1 h2 h3 h4) ?_;have I1:Inv X U σ H {s with heap:=s.heap.push {cls:= .type "range",data:= .fields #[auE,auF,axp]},toks:=tk}:=I.kept λb o e=>aab _ e;refine⟨(s.heap.push {cls:= .type "range",data:= .fields #[auE,auF,axp]}).objs.size,[(s.heap.push {cls:= .type "range",data:= .fields #[auE,auF,axp]}).objs.size],_,_,H,rfl,
  I1.kept (t':=tk) λb o e=>ail,vJ _ lo (hi-lo).toNat,?_,λb hb=>?_,q⟩
 .have e1:lo+((0:Nat):Int)*1=lo:=by simp
  have e2:(((hi-lo).toNat :Nat):Int)-((0:Nat):Int)=Builtin.Range.rangeSize lo hi 1:=by rw[rangeSize_one];split<;>lia
  show IsRangeIter _ _ (lo+((0:Nat):Int)*1) ((((hi-lo).toNat :Nat):Int)-((0:Nat):Int)) 1;rw[e1,e2];exact aas _ rfl
 .have e:b=(s.heap.push {cls:= .type "range",data:= .fields #[auE,auF,axp]}).objs.size :=by simpa using hb
  subst e;exact I1.tJ ad0 ahv
def Oa(ta:TA):TI:=λσ H R=>ta σ H λvs H1=>∃j:Int,vs=[.int j]/\ -(2 ^ 62)<=j/\j<2 ^ 62/\R (RC 0 j.toNat) H1
def zD{a:Expr}{ta:TA}{p pos:Pos}(hg:Gl X "range")(hm:X.mg "range"=none)(ha:PA X [a] ta)(hs:ag6:=by rfl):PI X tg (akO (.Name "range" p)) (Oa ta):=by
 intro U s σ H R I h;refine Call_ (kN I hg hm boot_range (acm (bG aht λus s1 zz=>bg zz λvs H1 I1 r1 q1=>?_) hs rfl));obtain⟨j,e,q1,q2,q⟩:=q1;subst e;cases r1 with
 |cons r rr=>
  cases rr;obtain⟨t,rfl⟩:=r;exact call_range_1 (Bx I1 aa2 aa2 q1 q2 (by simpa using q))
def S5(wi:TI)(g:TG)(tb:TS):TS:=λD σ H=>wi σ H λJ H1=>∃W:Nat->Nat->St->Hp->Prop,(∃m,W 0 m σ H1)/\∀i m σ H,W i m σ H->
 (aAm/\D.nx σ H)\/(aBg/\∃N:St->Hp->Prop,(∀bV H',N bV H'->∃m',m'<m/\W (i+1) m' bV H')/\∀x H',aqy->g x σ H' λA_ H2=>tb {D with nx:=N,ct:=N,bk:=D.nx} A_ H2)
noncomputable def m9(fp:af7)(h:Heap):aa8:=fp.filterMap λb=>(h.get? b).map λo=>(b,o)
def f7(hb:b∈fp)(e:ahU):(b,o)∈m9 fp h:=afd.mpr ⟨b,hb,by rw[e];rfl⟩
def zE(hp:p∈m9 fp h):p.1∈fp/\h.get? p.1=some p.2:=by
 refine aa (afd.mp hp) λb hb e=>?_;cases q:h.get? b with
 |none=>rw[q]at e;cases e
 |some o=>
  rw[q]at e;have e':(b,o)=p:=aaI e;subst e';exact⟨hb,q⟩
def Inv.pinned(I:aa3)(hf:∀b∈fp,avj)(ho:∀b∈fp,∃o,ab4/\∀v,o.data≠ .cell v):Inv X (U++m9 fp s.heap) σ H s:=
 I.w4 λp hp=>(aay.mp hp).elim (λz=>I.pin p (aaw _ z)) λz=>by
  obtain⟨hb,e⟩:=zE z;refine Bl (hf p.1 hb) λf0 f1 f2 _=>aa (ho p.1 hb) λo e' d=>?_;rw[e]at e';cases e';exact⟨e,f0,f1,f2,d⟩
def Inv.jD(I:Inv X (U++pl) σ H s):aa3:=I.w4 λp hp=>I.pin p (aaw _ (aw8 hp))
def J0(hp:aiJ)(hc:agH)(hi:ax9)(hg:PG X tg g)(hb:mB X body tb)
  (hs:∀x,foldedSetIterable iter X.env x=pure x:=by intro _;rfl):PS X (.For tg iter body [] pos) (S5 wi g tb):=by
 intro U s σ H D I h;refine wpAny_For (bG an7 λv s1 h1=>bG h1 λRB s2 h2=>?_) hs;obtain⟨it,fp,tn,J,H2,e,I2,T,cW,f2,W,⟨m0,w0⟩,turn⟩:=h2;subst e;have vK:∀{H':Hp},(∀b∈fp,aoL)->∀b∈fp,kP X U H' b:=λhn b hb=>⟨hn b hb,(f2 b hb).2⟩;refine codeAny_forLoop_any (λn s'=>∃i bV H',ai9/\tn i s'.heap/\(∀b∈fp,aoL)/\W i n bV H') ?_ m0 ⟨0,σ,H2,I2,cW,λb hb=>(f2 b hb).1,w0⟩;rintro n s3 ⟨i,zB,H3,I3,kQ,VW,w3⟩;rcases turn i n zB H3 w3 with⟨stop,qn⟩|⟨go,N,hN,step⟩
 .refine acZ hp (bG (T.done X rfl rfl rfl hc i U s3 zB H3 X.xe I3 (vK VW) kQ stop) λr s4 zz=>?_);obtain⟨hr,I4⟩:=zz;subst hr;exact afY ⟨zB,H3,I4,qn⟩
 .refine acZ hp (bG (T.item X rfl rfl rfl hc i U s3 zB H3 X.xe I3 (vK VW) kQ go) λr s4 zz=>?_);refine aa zz λu hr h4=>?_;subst hr;refine acZ hp (bG h4 λ_ s5 zz=>?_);refine kH zz λx H5 I5 r5 y5 By RD=>?_;have XT:=I5.pinned (vK RD) (T.obj _ _ By);refine acZ hp (bG (hg _ s5 zB H5 x u _ XT r5 (step x H5 y5)) λ_ s6 zz=>?_);refine eO zz λXU H6 I6 q6=>?_;refine acZ hp (bG (hb _ s6 XU H6 _ I6 q6) λf s7 q7=>?_);have again:∀{Bz:St}{H7:Hp},Inv X (U++m9 fp s5.heap) Bz H7 s7->N Bz H7->∃m,m<n/\∃i bV H',Inv X U bV H' s7/\tn i s7.heap/\(∀b∈fp,aoL)/\W i m bV H':=λ{Bz H7} I7 n7=>by
   refine aa (hN Bz H7 n7) λm' hm w7=>⟨m',hm,i+1,Bz,H7,I7.jD,T.keep _ _ _ By λb hb o e=>(I7.pin (b,o) aly).1,λb hb=>?_,w7⟩;exact aa (aBD By) λo e d=>(I7.pin (b,o) aly).2.1
  cases f with
  |next=>obtain⟨Bz,H7,I7,n7⟩:=q7;exact again I7 n7
  |cont=>obtain⟨Bz,H7,I7,n7⟩:=q7;exact again I7 n7
  |brk=>obtain⟨Bz,H7,I7,q7⟩:=q7;exact⟨Bz,H7,I7.jD,q7⟩
  |ret v=>obtain⟨x7,Bz,H7,I7,r7,q7⟩:=q7;exact⟨x7,Bz,H7,I7.jD,r7,q7⟩
end
abbrev R2:=V->V->Hp->VK->Prop
def lR(X:Cx)(f:Value->Value->Sem Value)(r:R2):Prop:=
 ∀(U:aa8) (s:ab_) (σ:St) (H:Hp) (x y:V) (v u:Value) (Q:VK),aa3->asi->anj->aCm->
  wpAny aa7 X.A (f v u) ah_ X.xe s
def cR(X:Cx)(f:Value)(r:ad7->Hp->VK->Prop):Prop:=
 ∀(U:aa8) (s:ab_) (σ:St) (H:Hp) (xs:ad7) (us:ab2) (Q:VK),aa3->ani->r xs H Q->
  wpAny aa7 X.A (call f us) ah_ X.xe s
def S6(X:Cx)(r:V->Hp->(Bool->Hp->Prop)->Prop):Prop:=
 ∀(U:aa8) (s:ab_) (σ:St) (H:Hp) (x:V) (v:Value) (Q:Bool->Hp->Prop),aa3->asi->r x H Q->
  wpAny aa7 X.A at7 atx X.xe s
def Ip(r:R2)(ta tb:TE):TE:=λσ H Q=>ta σ H λx H1=>tb σ H1 λy H2=>r x y H2 Q
def rI(C:Int->Int->Prop)(g:Int->Int->V):R2:=λx y H Q=>∃i j,axC/\y= .int j/\C i j/\Q apX H
def Ob(g:Int->Int->V):R2:=λx y H Q=>∃i j,axC/\y= .int j/\Q apX H
section
variable {X:Cx}{a b c:Expr}{ta tb tc:TE}{pos:Pos}
def J3(ha:anr)(hb:aur){U:aa8}{s:ab_}{σ:St}{H:Hp}{R:V->V->Hp->Prop}(I:aa3)
  (h:ta σ H λx H1=>tb σ H1 λy H2=>R x y H2) {Q:Value->Shared->Prop}{f:Value->Value->Sem Value}
  (hf:∀v u s2 x y H2,Inv X U σ H2 s2->asi->anj->R x y H2->wpAny aa7 X.A (f v u) Q X.xe s2):
  wpAny aa7 X.A (ajY a) (λv aY=>wpAny aa7 X.A (ajY b) (λu m7=>wpAny aa7 X.A (f v u) Q X.xe m7) X.xe aY) X.xe s:=by
 exact bG ahH λv s1 zz=>bg zz λx H1 I1 r1 q1=>bG ay8 λu s2 zz=>bg zz λy H2 I2 r2 q2=>hf v u s2 x y H2 I2 r1 r2 q2
def tK{op:Operator}{r:R2}(ho:lR X (binaryOp op) r)(ha:anr)(hb:aur):PE X (at4 op) aq_:=by
 intro U s σ H Q I h;exact wpAny_BinOp (J3 ha hb I h λv u s2 x y H2 I2 rx ry q=>atQ)
def S7{f:Value->Value->Sem Value}{C:Int->Int->Prop}{g:Int->Int->Int}
  (rule:∀(i j:Int) (t u:Tok) (s:ab_) (Q:Value->ab_->Prop) (E:Value->ab_->Prop),C i j->Q (azW apX) {s with toks:=s.toks+1}->ajx):
  lR X f (rI C λi j=> .int apX):=by
 intro U s σ H x y v u Q I rx ry h;refine il h λi j ak aN hc q=>?_
 try clear h
 subst ak;subst aN;obtain⟨t,rfl⟩:=rx;obtain⟨t',rfl⟩:=ry;exact rule i j t t' s _ _ hc ⟨.int apX,H,akN,aow,q⟩
def S8{f:Value->Value->Sem Value}{g:Int->Int->Int}
  (rule:∀(i j:Int) (t u:Tok) (s:ab_) (Q:Value->ab_->Prop) (E:Value->ab_->Prop),Q (azW apX) {s with toks:=s.toks+1}->ajx):
  lR X f (Ob λi j=> .int apX):=by
 intro U s σ H x y v u Q I rx ry h;refine bg h λi j ak aN q=>?_
 try clear h
 subst ak;subst aN;obtain⟨t,rfl⟩:=rx;obtain⟨t',rfl⟩:=ry;exact rule i j t t' s _ _ ⟨.int apX,H,akN,aow,q⟩
def S9{f:Value->Value->Sem Value}{g:Int->Int->Bool}
  (rule:∀(i j:Int) (t u:Tok) (s:ab_) (Q:Value->ab_->Prop) (E:Value->ab_->Prop),Q (aDH apX) s->ajx):
  lR X f (Ob λi j=> .bl apX):=by
 intro U s σ H x y v u Q I rx ry h;refine bg h λi j ak aN q=>?_
 try clear h
 subst ak;subst aN;obtain⟨t,rfl⟩:=rx;obtain⟨t',rfl⟩:=ry;exact rule i j t t' s _ _ ⟨.bl apX,H,I,rfl,q⟩
def S_(i j:Int):Prop:=0<j/\j<1073741824
def E7(i j:Int):Prop:=(-(2 ^ 64)<i/\i<2 ^ 64)\/(-(2 ^ 64)<j/\j<2 ^ 64)
def E7.ok(h:E7 i j):IntMulOk i j:=by
 rcases h with⟨h1,h2⟩|⟨h1,h2⟩
 .exact .of_left aAL
 .exact .of_right aAL
def J_:lR X aob (Ob λi j=> .int (i+j)):=S8 λ_ _ _ _ _ _ _ q=>add_int q
def J':lR X (binaryOp .Mult) (rI E7 λi j=> .int (i*j)):=S7 λ_ _ _ _ _ _ _ hc q=>mul_int q hc.ok
def E8:lR X (binaryOp .FloorDiv) (rI S_ λi j=> .int (i/j)):=S7 λi j _ _ _ _ _ hc q=>by
 have h1:(0:Int)<j:=hc.1;have h2:j<1073741824:=hc.2;exact floordiv_int (aeA h1) (by rw[Int.fdiv_eq_ediv_of_nonneg i (adW h1)];exact q) (akf (PyProof.noPylong_small (by lia)))
def Ka:lR X (binaryOp .Mod) (rI (λ_ j=>0<j) λi j=> .int (i%j)):=S7 λi j _ _ _ _ _ hc q=>by
 have h1:(0:Int)<j:=hc;exact mod_int' (aeA hc) (by rw[Int.fmod_eq_emod_of_nonneg i (adW hc)];exact q)
def Kb(I:aa3)(q:Q (.bl k) H)(e:k=k'):EP X U σ Q (aDH k') s:=by
 subst e;exact⟨.bl k,H,I,rfl,q⟩
def Oc:lR X (aqL .Lt) (Ob λi j=> .bl (aB5 (i<j))):=S9 λ_ _ _ _ _ _ _ q=>lt_int q
def E9:lR X (aqL .IsNot) (λx y H Q=>y= .cv /\Q (.bl (!decide (x= .cv))) H):=by
 intro U s σ H x y v u Q I rx ry h;obtain⟨rfl,q⟩:=h;cases ry;refine isnot_none_gen (Kb I q ?_);cases x<;>first
  |(cases rx;rfl)
  |(obtain⟨t,rfl⟩:=rx;rfl)
def lR.or(h:lR X f r)(h':lR X f r'):lR X f (λx y H Q=>aCm\/r' x y H Q):=by
 intro U s σ H x y v u Q I rx ry q;rcases q with q|q
 .exact h U s σ H x y v u Q I rx ry q
 .exact h' U s σ H x y v u Q I rx ry q
def E_{op:CmpOp}{r:R2}(ho:axO)(ha:anr)(hb:aur)(hm:air):PE X aic aq_:=by
 intro U s σ H Q I h;exact wpAny_Compare1 (J3 ha hb I h λv u s2 x y H2 I2 rx ry q=>atQ) hm
def Od(t:TE):TT:=λσ H Q=>t σ H λx H'=>∃k,x= .bl k/\Q k H'
def Fb(ho:axO)(ha:anr)(hb:aur)(hm:air):PT X aic (Od aq_):=by
 intro U s σ H Q I h;refine wpAny_isTrue_Compare1 (bG ahH λv s1 ⟨x,H1,I1,r1,q1⟩=>bG ay8 λu s2 ⟨y,H2,I2,r2,q2⟩=>
  bG (ho U s2 σ H2 x y v u _ I2 r1 r2 q2) λc s3 ⟨z,H3,I3,r3,k,e,q3⟩=>?_) hm
 subst e;cases r3;exact acf ⟨H3,I3,q3⟩
def Kc(K:aE)(x:V)(H:Hp)(k:Bool):Prop:=
 match x with
 | .cv =>k=false
 | .bl b=>k=b
 | .int i=>k=(i !=0)
 | .str y=>y.length<=sizeLine/\k=((y.length:Int) !=0)
 | .NR y=>y.size<=sizeLine/\k=((y.size:Int) !=0)
 | .ref p=>(∃xs,cO K H p xs/\k=!xs.isEmpty)\/(∃xs,cP K H p xs/\k=!xs.isEmpty)\/∃kvs,aDj/\k=!kvs.isEmpty
 |_=>False
def vL(r:ak8):(!vs.isEmpty)=!kvs.isEmpty:=by
 cases r<;>rfl
def m_(r:anq):(!its.toArray.isEmpty)=!xs.isEmpty:=by
 cases r<;>simp
def ng:(sizeLine:Nat)<2 ^ 63:=by rw[sizeLine_eq];decide
def Ke:S6 X (λx H Q=>∃k,Kc X.K x H k/\Q k H):=by
 intro U s σ H x v Q I rx h;obtain⟨k,e,q⟩:=h;have hl:=ng;have hs:sizeLine=16777216:=sizeLine_eq;cases x with
 |cv=>
  cases rx;have e':k=false:=e;subst e';exact truthy_none ⟨H,I,q⟩
 |bl b=>
  cases rx;have e':k=b:=e;subst e';exact acf ⟨H,I,q⟩
 |int i=>
  obtain⟨t,rfl⟩:=rx;have e':k=(i !=0):=e;subst e';exact PySem.P.truthy_int ⟨H,I,q⟩
 |str y=>
  obtain⟨t,rfl⟩:=rx;obtain⟨hy,e'⟩:y.length<=sizeLine/\k=((y.length:Int) !=0):=e;subst e';exact PySem.P.truthy_str (by lia) ⟨H,akN,q⟩
 |NR y=>
  obtain⟨t,rfl⟩:=rx;obtain⟨hy,e'⟩:y.size<=sizeLine/\k=((y.size:Int) !=0):=e;subst e';exact PySem.W.truthy_bytes (ajX hy) ⟨H,akN,q⟩
 |ref p=>
  cases rx;have e':(∃xs,cO X.K H p xs/\k=!xs.isEmpty)\/(∃xs,cP X.K H p xs/\k=!xs.isEmpty)\/∃kvs,aDj/\k=!kvs.isEmpty:=e;rcases e' with⟨xs,hx,e'⟩|⟨xs,hx,e'⟩|⟨kvs,hx,e'⟩
  .subst e';obtain⟨its,r,pl,hz⟩:=I.list hx;have aI:=r.length;exact wpAny_truthy_list pl.isList (by simp only[aaq];lia) ⟨H,akN,by rw[m_ r];exact q⟩
  .subst e';obtain⟨its,r,pl,hz⟩:=I.tuple hx;have aI:=r.length;exact truthy_tuple pl (by simp only[aaq];lia) ⟨H,akN,by rw[m_ r];exact q⟩
  .subst e';obtain⟨hz,hS,vs,r,m⟩:kvs.length<=sizeLine/\(p==sysModules)=false/\∃vs,KV kvs vs/\s.heap.DictOf (aV X.prog X.w) p vs:=I.aR p _ hx;have aI:kvs.length=vs.length:=adk r;exact wpAny_truthy_dict hS m (by lia) ⟨H,akN,by rw[vL r];exact q⟩
 |_=>exact(show False from e).elim
def nh(ha:anr)(he:∀whole,isTrue a X.env whole=(do let v<-whole;standAt a.pos;holding [v] at7)):
  PT X a (λσ H Q=>ta σ H λx H'=>∃k,Kc X.K x H' k/\Q k H'):=by
 intro U s σ H Q I h;exact isTrue_plain (bG ahH λv s1 zz=>bg zz λx H1 I1 r1 q1=>Ke U s1 σ H1 x v Q I1 r1 q1) (he _)
def vals1(r:aF [x] us):∃u,us=[u]/\aup:=by
 cases r with
 |cons r1 r2=>cases r2;exact⟨_,rfl,r1⟩
def vals2(r:aF [x,y] us):∃u w',us=[u,w']/\aup/\RelV y w':=by
 cases r with
 |cons r1 r2=>
  cases r2 with
  |cons r3 r4=>cases r4;exact⟨_,_,rfl,r1,r3⟩
end
section
variable {prog:ad2}{w:World}{A:ag0}{E:Value->Shared->Prop}{s:ab_}{K:aE}{x dx C f:Addr}{mA:Str->Option Value}{name:Str}{v:Value}
end
noncomputable def Kf(f:Str)(v:V):auu->List (Str×V)
 |[]=>[(f,v)]
 |(g,x)::r=>if g=f then(g,v)::r else(g,x)::Kf f v r
def pD.some_of(r:pD amJ o):∃u,o=some u/\amu:=by
 cases o with
 |none=>exact(show False from r).elim
 |some u=>exact⟨u,rfl,r⟩
section
variable {P:ad2}{w:World}{H H':Hp}{h h':Heap}{a C dx:Addr}{fs XQ:auu}{X:Cx}{U:aa8}{σ:St}{s:ab_}{f:Str}{v:V}{A:ag0}{E:Value->Shared->Prop}
end
section
variable {X:Cx}{o e value:Expr}{f:Str}{pos tG tpos:Pos}{ta tv:TE}
def Kg:V->V->Hp->VK->Prop:=λx y H Q=>∃i j,axC/\y= .int j/\Q aCT H
end
section
variable {X:Cx}{U:aa8}{σ:St}{H:Hp}{s:ab_}{A:ag0}{E:Value->Shared->Prop}{Q:Value->Shared->Prop}{c:Value}{b:Bool}
end
structure fg(k:Nat)(A:ag0):Prop where
 hd:A.handled=none
 dp:A.depth+3*k+5<recursionLimit
 un:A.units+16*k+200<cLine
def fg.mono(r:fg k A)(h:j<=k):fg j A:=⟨r.hd,by have:=r.dp;lia,by have:=r.un;lia⟩
theorem fg.deeper(r:fg (k+1) A)(env:Env):fg k (A.deeper env):=
 ⟨r.hd,by have:=r.dp;show A.depth+1+3*k+5<_;lia,by have:=r.un;show A.units+3+16*k+200<_;lia⟩
theorem fg.depth(r:fg k A):A.depth<recursionLimit:=by have:=r.dp;lia
theorem fg.units(r:fg k A):A.units+64<cLine:=by have:=r.un;lia
def ni:TA:=λ_ H Q=>Q [] H
def cX(ta:TE)(tr:TA):TA:=λσ H Q=>ta σ H λx H1=>tr σ H1 λxs H2=>Q (x::xs) H2
section
variable {X:Cx}{e:Expr}{es:ag7}{te:TE}{t:TA}{pos:Pos}
def dm:PA X [] ni:=λ_ _ _ _ H Q I h=>Calls.spliced_nil ⟨[],H,I,.nil,h⟩
def b_(ha:ap8)(hr:PA X es t)(hs:ab1:=by rfl):PA X (e::es) (cX te t):=by
 intro pos U s σ H Q I h;rw[hs];show wpAny _ _ (spliced (asR::backTo pos ag_)) _ _ s;refine Calls.spliced_cons (bG ahH λu s1 zz=>?_);exact bg zz λx H1 I1 r1 q1=>bG (hr pos U s1 σ H1 _ I1 q1) λus s2 zz=>bg zz λxs H2 I2 r2 q2=>⟨x::xs,H2,I2,.cons r1 r2,q2⟩
def Ta(t:TA):TE:=λσ H Q=>t σ H λxs H1=>xs.length<=sizeLine/\∀p,ak9->Q ahg (upd H1 p ai6)
def Tc(t:TA):TE:=λσ H Q=>t σ H λxs H1=>xs.length<=sizeLine/\∀p,ak9->Q ahg (upd H1 p agN)
def Kh(h:PA X es t):PE X (.Tuple es x1 pos) (Ta t):=by
 intro U s σ H Q I hq;refine wpAny_Tuple_spliced (bG ay_ λus s1 ⟨xs,H1,I1,r,z,q⟩=>⟨by rw[<-r.length];exact z,?_⟩);have hf:azF:=I1.aR.fresh ad0;refine⟨ara,upd H1 s1.heap.objs.size ai6,I1.laid (t':=s1.toks) (λb u e=>ail) ad0 ?_,rfl,q _ hf⟩;exact⟨z,us,r,az8⟩
def Ki(h:PA X es t):PE X (.List es pos) (Tc t):=by
 intro U s σ H Q I hq;refine wpAny_List_spliced (bG ay_ λus s1 ⟨xs,H1,I1,r,z,q⟩=>⟨by rw[<-r.length];exact z,?_⟩);have hf:azF:=I1.aR.fresh ad0;refine⟨ara,upd H1 s1.heap.objs.size agN,I1.laid (t':=s1.toks) (λb u e=>ail) ad0 ?_,rfl,q _ hf⟩;exact⟨z,us,0,r,agU⟩
end
abbrev Sp:=List V->Hp->VK->XK->Prop
abbrev BA:=List Env->Hp->ab_->XK->Value->ab_->Prop
structure Fc(P:ad2)(w:World)(K:aE)(mg:Str->af9)(base:Heap)(A:ag0)(outer:apn)(s:ab_)(H:Hp):Prop where
 frames:A.frames=some outer
 mod:Mod K mg base
 bs:∀b o,base.get? b=some o->ab4/\H b=none
 Bq:base.objs.size<=s.heap.objs.size
 m5:s.heap.FunFrames base outer
 Nh:∀b∈Bp outer,H b=none
 aR:jf P w H s.heap
 bare:AllBare s.gens
def CE(outer:apn)(P:ad2)(w:World)(H:Hp)(s:ab_)(Q:VK)(u:Value)(s':ab_):Prop:=
 ∃v H',s'.os=s.os/\aoO/\Un (Bp outer) [] H H' s.heap s'.heap/\jf P w H' s'.heap/\amu/\Q v H'
def CR(CX:BA)(outer:apn)(P:ad2)(w:World)(H:Hp)(s:ab_)(Q:VK)(E:XK)(r:Result)(s':ab_):Prop:=
 match r with
 | .ok (.ret u)=>CE outer P w H s Q u s'
 | .ok _=>False
 | .error e=>CX outer H s E e s'
structure jE(P:ad2)(w:World)(K:aE)(mg:Str->af9)(base:Heap)(CX:BA)(k:Nat)(f:Addr)(fd:akq)(ps:ae1)(sp:Sp):Prop where
 len:∀vs H Q E,aqm->vs.length=ps.length
 run:∀(A:ag0) (outer:apn) (s:ab_) (H:Hp) (args:Args) (us:ab2) (vs:ad7) (Q:VK) (E:XK),fg k A->axn->BindsTo s fd args asy->axk->aqm->
  codeAny amI A (.call ano args) (CR CX outer P w H s Q E) s
section
variable {X:Cx}{U:aa8}{σ:St}{H:Hp}{s s':ab_}
def Inv.Td(I:aa3):Fc X.prog X.w X.K X.mg X.base X.A X.stack s H:=
 ⟨I.ok.frames,I.ok.mod,I.bs,aaf I.ok.Bq I.sz,I.stack,I.wY,I.aR,aAo⟩
def Inv.after(I:aa3)(h:CE X.stack X.prog X.w H s Q u s'):EP X U σ Q u s':=by
 refine Sy h λv H' os bare un aR r q=>?_;obtain⟨hh,g,d,t,XW⟩:=s';obtain rfl:XW=s.os:=os;exact⟨v,H',I.call (h':=hh) (g':=g) (d':=d) (t':=t) (ch:=[]) un aR bare (λb z=>aC0),r,q⟩
end
def Oe(sp:Sp)(Iq:ad7)(E:XK)(t:TA):TE:=λσ H Q=>t σ H λvs H1=>sp (vs++Iq) H1 Q E
def Binds(K:aE)(fd:akq)(ps:ae1)(ds:ab2):Prop:=
 ∀(s:ab_) (us:ab2),K.In s.heap->(us++ds).length =ps.length->BindsTo s fd ⟨us,[]⟩ (ps.zip (us++ds))
def Binds.all{K:aE}{fd:akq}{ps:ae1}(h:∀us:ab2,us.length=ps.length->bindArgs fd ⟨us,[]⟩=pure asy):anO:=λs us _ hl=>by
 rw[abf]at hl⊢;exact .of_eq (h us hl)
def vM(CX:BA)(X:Cx)(E:XK):Prop:=∀(U:aa8) (σ:St) (H:Hp) (s:ab_) (e:Value) (s':ab_),aa3->CX X.stack H s E e s'->X.xe e s'
section
variable {X:Cx}{CX:BA}{k:Nat}{f C:Addr}{fd:akq}{ps:ae1}{sp:Sp}{Iq:ad7}{ds:ab2}{E:XK}{x m:Str}{p pos jF:Pos}{e o:Expr}{es:ag7}{ta:TE}{t:TA}{ks:ae1}{XX:Pos}{vN:ans}{te:TE}{tk:TA}{nm:Option Str}{g:ab2->List Value->List Value}{gV:ad7->List V->List V}
def BB(F:apP)(hr:aAQ)(hb:Binds X.K fd ps ds)(hd:aF Iq ds)(hx:vM CX X E)
  (I:aa3) (r:axk) (h:sp (vs++Iq) H Q E):wpAny aa7 X.A (call ano us) ah_ X.xe s:=by
 have r2:aF (vs++Iq) (us++ds):=r.append hd;have hl:(us++ds).length =ps.length:=by rw[<-r2.length];exact F.len _ _ _ _ h
 refine wpAny_call (aeB (F.run X.A X.stack s H ⟨us,[]⟩ (us++ds) (vs++Iq) Q E hr I.Td (hb s us I.Ik hl) r2 h) λr s' hq=>?_);cases r with
 |error e=>exact hx U σ H s e s' I hq
 |ok fl=>
  cases fl with
  |ret u=>exact I.after hq
  |next=>exact False.elim hq
  |brk=>exact False.elim hq
  |cont=>exact False.elim hq
def xa(F:apP)(hr:aAQ)(hg:aye)(hm:X.mg x=some ano)(hk:ax5)(hb:Binds X.K fd ps ds)(hd:aF Iq ds)(hx:vM CX X E)
  (ha:alO) (EG:aik:=by decide) (he:ab1:=by rfl) (fy:(backTo pos ag_).any (·.1)=false:=by rfl):
  PE X ahQ (Oe sp Iq E t):=by
 intro U s σ H Q I h;refine aec (qT I hg hm ?_ EG);refine agx (h₀:=X.base) I.ok.mod.Rx hk (bG aht λus s1 zz=>bg zz λvs H1 I1 r q=>⟨I1.Ik,?_⟩) he fy;exact BB F hr hb hd hx I1 r q
end
structure iq(N P:ae1)(sc:Scope):Prop where
 kind:sc.kind= .function
 co:sc.isCoroutine=false
 gen:sc.isGenerator=false
 nd:N.Nodup
 pre:N.take P.length=P
 par:∀x∈P,awo \/sc.names.lookup x=some .cell
 Kj:∀y∈sc.names,y.2≠ .free
theorem pZ{kindOf:Str->Option NameKind}{x:Str}:∀{binds:List (Str×Value)}{m:Str->Option Value},(∀v,(x,v)∉binds)->bindL kindOf binds m x=m x
 |[],_,_=>rfl
 |(n,v)::r,m,h=>by
  unfold bindL;rw[pZ λw hw=>h w (ake hw)];split
  .have:x≠n:=by rintro rfl;exact h v aal
   simp[this]
  .rfl
theorem p4{kindOf:Str->Option NameKind}{x:Str}:∀{binds:List (Str×Value)}{m:Str->Option Value},(∀v,(x,v)∉binds)->bindC kindOf binds m x=m x
 |[],_,_=>rfl
 |(n,v)::r,m,h=>by
  unfold bindC;rw[p4 λw hw=>h w (ake hw)];split
  .rfl
  .have:x≠n:=by rintro rfl;exact h v aal
   simp[this]
theorem p5{kindOf:Str->Option NameKind}{x:Str}{v:Value}:∀{P:ae1}{vs:ab2}{i:Nat}{m:Str->Option Value},P.Nodup->P[i]?=some x->vs[i]?=some v->kindOf x=some .local ->
  bindL kindOf (P.zip vs) m x=some v
 |[],_,_,_,_,h,_,_=>by simp at h
 |_::_,[],_,_,_,_,h,_=>by simp at h
 |p::P,w::vs,0,m,nd,h1,h2,hk=>by
  simp at h1 h2;subst h1;subst h2;show bindL kindOf ((p,w)::P.zip vs) m p=_;unfold bindL;rw[pZ λv hv=>(aaW.mp nd).1 (aeT hv).1,aav hk];simp
 |p::P,w::vs,i+1,m,nd,h1,h2,hk=>by
  show bindL kindOf ((p,w)::P.zip vs) m x=_;unfold bindL;exact p5 (i:=i) (aaW.mp nd).2 (by simpa using h1) (by simpa using h2) hk
theorem p6{kindOf:Str->Option NameKind}{x:Str}{v:Value}:∀{P:ae1}{vs:ab2}{i:Nat}{m:Str->Option Value},P.Nodup->P[i]?=some x->vs[i]?=some v->kindOf x≠some .local ->
  bindC kindOf (P.zip vs) m x=some v
 |[],_,_,_,_,h,_,_=>by simp at h
 |_::_,[],_,_,_,_,h,_=>by simp at h
 |p::P,w::vs,0,m,nd,h1,h2,hk=>by
  simp at h1 h2;subst h1;subst h2;show bindC kindOf ((p,w)::P.zip vs) m p=_;unfold bindC;rw[p4 λv hv=>(aaW.mp nd).1 (aeT hv).1,aaC hk];simp
 |p::P,w::vs,i+1,m,nd,h1,h2,hk=>by
  show bindC kindOf ((p,w)::P.zip vs) m x=_;unfold bindC;exact p6 (i:=i) (aaW.mp nd).2 (by simpa using h1) (by simpa using h2) hk
noncomputable def start(N:ae1)(vs:ad7):St:=vs.map some++List.replicate (N.length-vs.length) none
noncomputable def vO(CX:BA)(P:ad2)(w:World)(K:aE)(mg:Str->af9)(base:Heap)(N:ae1)(qual:Str)(scope:Scope)(f:Addr)(cd:Value)(A:ag0)(outer:apn)(s:ab_)(H:Hp)(E:XK):Cx where
 prog:=P
 w:=w
 K:=K
 mg:=mg
 base:=base
 A:=A.deeper (aj_ cd)
 N:=N
 s₀:=s
 H₀:=H
 env:=envOfC qual scope s.heap.objs.size f cd
 outer:=outer
 stack:=envOfC qual scope s.heap.objs.size f cd::outer
 ex:=[]
 calm:=true
 fn:=λ_=>true
 pn:=[]
 xe:=λe s'=>wpAny amI (A.deeper (aj_ cd)) (leaving (aj_ cd) e) (λ_ Of=>CX outer H s E e Of) (λe' Of=>CX outer H s E e' Of) s'
def tL{sc:Scope}{n:Nat}{x:Str}(h:an4):∃c,(cellsFrom n sc.names []).lookup x=some c:=by
 have q:=afR sc.names n [] (akf h);exact Option.isSome_iff_exists.mp q
def zF{CX:BA}{P:ad2}{w:World}{K:aE}{mg:Str->Option Value}{base:Heap}{N ps:ae1}{qual:Str}{scope:Scope}{f:Addr}{cd:Value}{A:ag0}{outer:apn}{s s1:ab_}{H:Hp}{E:XK}{us:ab2}{vs:ad7}
  (S:iq N ps scope) (hd:af5) (e0:axn) (hl:as9) (r:axk)
  (x:InCallC s s.heap.objs.size (bindL (envOfC qual scope s.heap.objs.size f cd).kindOf asy λ_=>none) (cellsFrom alf scope.names []) (bindC (envOfC qual scope s.heap.objs.size f cd).kindOf asy λ_=>none) s1):
  Inv (vO CX P w K mg base N qual scope f cd A outer s H E) [] aoT H s1:=by
 have fy:ps.length<=N.length:=by have:=congrArg List.length S.pre;rw[abS]at this;lia
 refine eO x.done λh1 tk ak hk=>?_;subst ak;have Og:∀b:Addr,b∉(vO CX P w K mg base N qual scope f cd A outer s H E).ex :=λb z=>absurd (show b∈([]:af7) from z) ab5;refine⟨⟨e0.mod,S.kind,rfl,rfl,aam _,λy z c h1 h2=>?_,λy hy=>?_,λy c _ h=>?_,λ_=>hd,Around.frames_deeper e0.frames,.inr ⟨rfl,rfl⟩,λb z=>absurd z (Og b),e0.bs,e0.Bq,λb _ _=>Og b,λb z=>absurd z (Og b),e0.m5,e0.Nh⟩,
  rfl,e0.bare,Un.kept hk,⟨_,x.toInCall.ns,λi y v h1 h2 h3=>?_⟩,λy c h=>⟨_,x.cell y c h⟩,e0.aR.fresh ad0,λy c h=>?_,λp hp=>absurd (show p∈([]:aa8) from hp) ab5,e0.aR.kept hk,?_⟩
 .exact name_of_addr x.apart (abz h1) (abz h2)
 .have hy:scope.names.lookup y=some .cell \/scope.names.lookup y=some .free :=hy;rcases hy with hy|hy
  .exact tL hy
  .exact absurd rfl (S.Kj _ (abz hy))
 .exact aaE aAz
 .have hi:atk:=by
   unfold start at h2;by_cases hi:i<vs.length
   .exact hi
   .rw[abt (by simpa using hi),afD]at h2;split at h2<;>cases h2
  have ha:vs[i]?=some v:=by
   unfold start at h2;rw[abp (by simpa using hi),aau]at h2;cases e:vs[i]? with
   |none=>rw[e]at h2;cases h2
   |some a=>rw[e]at h2;cases h2;rfl
  refine aa (r.get ha) λu hu rv=>?_;have hp:ps[i]?=some y:=by
   rw[<-S.pre,List.getElem?_take_of_lt (aah hi azu)];exact h1
  have VX:ps.Nodup:=by rw[<-S.pre];exact S.nd.sublist aog
  refine⟨u,rv,?_⟩;rcases S.par y (abd hp)with k|k
  .exact .inl ⟨k,p5 VX hp hu k⟩
  .obtain⟨c,e⟩:=tL (n:=s.heap.objs.size+1) k;refine .inr ⟨.inl k,c,e,?_⟩;have q:=x.cell y c e;rw[p6 VX hp hu (by show scope.names.lookup y≠_;rw[k];decide)]at q;exact q
 .exact e0.aR.fresh (aaE aAz)
 .unfold start;show _=N.length;rw[aan,aad,adz];exact acs (aaf azu fy)
def Oh{CX:BA}{P:ad2}{w:World}{K:aE}{mg:Str->Option Value}{base:Heap}{k:Nat}{f:Addr}{name qual:Str}{params:Arguments}{body:amx}{scope:Scope}{dV kV iQ pm fA ct oc:Value}{an od:ahe}
  {Fe:aoN}{N ps:ae1}{sp:Sp} (lk:K.lookup f=some ⟨oc,od,.func amf,Fe⟩) (Bt:awQ) (S:iq N ps scope)
  (len:∀vs H Q E,aqm->as9)
  (BC:∀(A:ag0) (outer:apn) (s:ab_) (H:Hp) (vs:ad7) (Q:VK) (E:XK),fg k (A.deeper (aj_ fA))->aqm->
   ∃t,mB aiy body t/\t {nx:=λ_ H'=>Q .cv H',rt:=Q} aoT H):
  jE P w K mg base CX (k+1) f amf ps sp:=by
 refine⟨len,λA outer s H args us vs Q E hr e0 hb r Ir=>?_⟩;have hl:=len _ _ _ _ Ir;have KX:K.In s.heap:=e0.mod.Rx.keeps λb o e=>(e0.bs b o e).1;have lim:s.heap.NoLimit:=e0.mod.nolimit.keeps λb o e=>(e0.bs b o e).1;have Oi:∀y∈ps.zip us,scope.names.lookup y.1=some .local \/(scope.names.lookup y.1=some .cell /\((cellsFrom alf scope.names []).lookup y.1).isSome =true):=λ⟨n,v⟩ hy=>by
  rcases S.par n (aeT hy).1 with q|q
  .exact .inl q
  .exact .inr ⟨q,afR _ _ _ (akf q)⟩
 refine codeAny_call_function hr.depth (KX _ _ lk) rfl S.co S.gen rfl (PySem.W.codeRec_of KX Bt) (hb _ _ _ _ ?_);refine wpAny_newFunctionEnv_cells S.kind Oi λenv he s1 x=>?_;subst he;refine⟨lim.keeps x.toInCall.keep,codeAny_func ?_⟩;refine aa (BC A outer s H vs Q E (hr.deeper _) Ir) λt ht hq=>?_;have I:Inv aiy [] aoT H s1:=zF S hr.hd e0 hl r x;refine aco (ht [] s1 aoT H _ I hq) (λfl s' hs=>?_) λe s' hs=>hs;have fin:∀{bV:St}{H':Hp}{v:V}{u:Value},Inv aiy [] bV H' s'->amu->Q v H'->CE outer P w H s Q u s':=
  λ{bV H' v u} J rv q=>⟨v,H',J.os,J.bare,J.base,J.aR,rv,q⟩
 cases fl with
 |ret u=>
  exact cC hs λv bV H' J rv q=>fin J rv q
 |next=>
  exact eO hs λbV H' J q=>fin (v:=V.cv) (u:=Value.none) J rfl q
 |brk=>
  exact eO hs λ_ _ _ q=>False.elim q
 |cont=>
  exact eO hs λ_ _ _ q=>False.elim q
section
variable {X:Cx}{x:Str}{p pos:Pos}{e:Expr}{es:ag7}{t:TA}{id T:ap5}{r:ad7->Hp->VK->Prop}
def Te(r:ad7->Hp->VK->Prop)(t:TA):TE:=λσ H Q=>t σ H λvs H1=>r vs H1 Q
def fC(hc:cR X aki r)(hg:aye)(hm:X.mg x=none)(hv:bootBuiltins x=some aki)(ha:alO)(hn:x≠"__name__":=by decide)(EG:aik:=by decide)
  (he:ab1:=by rfl) (fy:(backTo pos ag_).any (·.1)=false:=by rfl):PE X ahQ (Te r t):=by
 intro U s σ H Q I h;refine aec (kN I hg hm hv ?_ hn EG);exact PyProof.Rows.callWith_builtin1 (bG aht λus s1 zz=>bg zz λvs H1 I1 r1 q1=>avQ) he fy
def dM(hc:cR X aBo r)(hg:aye)(hm:X.mg x=none)(hv:bootBuiltins x=some aBo)(ha:alO)(hn:x≠"__name__":=by decide)(EG:aik:=by decide)
  (he:ab1:=by rfl) (fy:(backTo pos ag_).any (·.1)=false:=by rfl):PE X ahQ (Te r t):=by
 intro U s σ H Q I h;refine aec (kN I hg hm hv ?_ hn EG);exact acm (bG aht λus s1 zz=>bg zz λvs H1 I1 r1 q1=>avQ) he fy
end
end L2
namespace HT
open PySem PyProof.Rows
noncomputable def lexLt:aa0->aa0->Bool
 |[],[]=>false
 |[],_::_=>true
 |_::_,[]=>false
 |x::xs,y::ys=>if x=y then lexLt xs ys else decide (x<y)
def vP(x y:Int)(xs ys:aa0):lexLt (x::xs) (y::ys)=if x=y then lexLt xs ys else decide (x<y):=rfl
def pH:lexLt [] []=false:=rfl
def nj(y:Int)(ys:aa0):lexLt [] (y::ys)=true:=rfl
def nk(x:Int)(xs:aa0):lexLt (x::xs) []=false:=rfl
def BD(A:ag0)(s:ab_)(a:Int)(t:Tok)(c:Int)(u:Tok):∃e,SeqAt.EqAt A s (apa a) (.int c u) e/\(e=true↔a=c):=
 ⟨(a==c),SeqAt.EqAt.int_int a t c u,by simp⟩
def BE(A:ag0)(s:ab_)(a:Int)(t:Tok)(c:Int)(u:Tok)(prog:ad2)(w:World)(E:Value->ab_->Prop)(Q:Value->ab_->Prop)(h:Q (aDH (aB5 (a<c))) s):
  wpAny aa4 A (richCompare .Lt (apa a) (.int c u)) Q E s:=
 (agq h:wpAny aa4 A (compareOp .Lt (apa a) (.int c u)) Q E s)
section
open PySem.SeqAt
open PySem.AutoSeq1 (wpAny_loadPart')
open PySem.MeetsSeq PySem.MeetsSeq2 PySem.MeetsSeq3
def pI(l b:Addr)(items items2:agI)(n n2:Nat)(dd Iu:ahe)(sl Iv:aoN)(ns ms:aa0)(hi:amz)(hj:aAn):
  Meets (Builtin.«tuple.__lt__» ⟨[ahI,ajh],[]⟩)
   (λ_ R s=>s.heap.get? l=some {cls:= .type "tuple",dict:=dd,data:= .seq items n,slots:=sl}/\s.heap.get? b=some {cls:= .type "tuple",dict:=Iu,data:= .seq items2 n2,slots:=Iv}/\
    R (.ok (akL arb)) s):=
 .of_wp λprog w A R s h=>by
  obtain⟨hp,g,d,tk,os⟩:=s;obtain⟨hl,hb,h⟩:=h;have f2:=AutoSeq1.sub_tuple_tuple;have z1:items.size=ns.length:=by rw[<-hi.length];simp
  have z2:items2.size=ms.length:=by rw[<-hj.length];simp
  wp_walk using acx hl,acx hb,afL _ (λba b s'=>b.1=none/\s'=⟨hp,g,d,tk,os⟩/\∃(vs ws:ab2) (nr Nj:aa0),ba=vs.zip ws/\
   IntsAre vs nr/\IntsAre ws Nj/\nr.length+items2.size=Nj.length+items.size/\R (.ok (akL (aDH (lexLt nr Nj)))) ⟨hp,g,d,tk,os⟩) _
  case turn=>
   rintro⟨y,x⟩ ba b s' ⟨iY,rfl,vs,ws,nr,Nj,hz,Tf,RF,aI,hR⟩;cases Tf with
   |nil=>rw[List.zip_nil_left]at hz;cases hz
   |cons a t Tg=>
    cases RF with
    |nil=>rw[agy]at hz;cases hz
    |cons c u Th=>
     rw[aed]at hz;injection hz with Oj Ol;injection Oj with hy hx;subst hy hx;rw[vP]at hR;simp only[aaF]at aI;obtain⟨e,he,Om⟩:=BD A.in1 ⟨hp,g,d,tk,os⟩ a t c u;refine aaa (he prog w _ _ ?_);cases e with
     |true=>
      rw[aav (Om.mp rfl)]at hR;wp_walk;exact⟨rfl,rfl,_,_,_,_,Ol,Tg,Th,by lia,hR⟩
     |false=>
      rw[aaC (λq=>absurd (Om.mpr q) aai)]at hR;have XY:=BE A.in1 ⟨hp,g,d,tk,os⟩ a t c u prog w;wp_walk using XY;exact⟨_,rfl,by simpa using hR⟩
  case fin=>
   rintro⟨b1,b2⟩ s' ⟨iY,rfl,vs,ws,nr,Nj,hz,Tf,RF,aI,hR⟩;simp only at iY;subst iY;have hv:lexLt nr Nj=decide (items.size<items2.size):=by
    cases Tf with
    |nil=>
     cases RF with
     |nil=>
      simp only[acL]at aI;rw[pH];exact(decide_eq_false (acS (aap (agp aI)))).symm
     |cons c u hw=>
      simp only[acL,aaF]at aI;rw[nj];exact(decide_eq_true (by lia)).symm
    |cons a t hv=>
     cases RF with
     |nil=>
      simp only[acL,aaF]at aI;rw[nk];exact(decide_eq_false (by lia)).symm
     |cons c u hw=>
      rw[aed]at hz;cases hz
   rw[hv]at hR;wp_walk;exact⟨_,rfl,by simpa[Builtin.Tuple.tupleCompareSizes]using hR⟩
  case h=>
   exact⟨rfl,rfl,aCr,items2.toList,ns,ms,rfl,hi,hj,by lia,h⟩
end
section
variable {prog:ad2}{w:World}{A:ag0}{E:Value->Shared->Prop}{s:ab_}
def vQ(hl:asM)(hb:IsTup s.heap b items2)(hi:amz)(hj:aAn)
  (hu:aBn) (h:Q arb s):wpAny aa4 A (compareOp .Lt ahI ajh) Q E s:=by
 obtain⟨⟨cls,dd,data,sl⟩,ho,hc,n,hd⟩:=id hl;obtain⟨⟨Ti,Iu,data2,Iv⟩,EH,Iw,n2,nu⟩:=id hb;simp only at hc hd Iw nu;subst hc hd Iw nu;exact richCompare_meets_room (op:= .Lt) ⟨_,ho,rfl⟩ ⟨_,EH,rfl⟩ PySem.F.slot_tuple_lt PySem.F.entry_tuple_lt (PySem.F.args_tuple_lt_2 _ _) (pI l b items items2 n n2 dd Iu sl Iv ns ms hi hj)
  ⟨ho,EH,show Value.bool (lexLt ns ms)≠Value.notImplemented/\Q arb s from⟨(λx=>nomatch x),h⟩⟩ hu
def Ff(ht:IsTup s.heap t vs.toArray)(hb:IsTup s.heap b ws.toArray)(hv:vs≠[])
  (h1:ws=[]->Q ao3 s) (h2:ws≠[]->Q ab7 {s with heap:=s.heap.push {cls:= .type "tuple",data:= .seq (vs++ws).toArray}})
  (hsz:vs.length+ws.length<=sizeLine):wpAny aa4 A (binaryOp .Add ao3 ajh) Q E s:=by
 obtain⟨⟨cls,dd,data,sl⟩,ho,hc,n,hd⟩:=id ht;obtain⟨⟨Ti,Iu,data2,Iv⟩,EH,Iw,n2,nu⟩:=id hb;simp only at hc hd Iw nu;subst hc hd Iw nu;have e:vs.toArray++ws.toArray=(vs++ws).toArray :=by simp
 by_cases hw:ws=[]
 .exact concat_meets ⟨_,ho,rfl⟩ ⟨_,EH,rfl⟩ noFill_tuple_add seq_tuple_add aep aee (adX _ _)
   (tuple_addW1 t b vs.toArray ws.toArray n n2 dd Iu sl Iv (by simpa using hv) (by simp[hw])) ⟨ho,EH,h1 hw⟩
 .refine concat_meets ⟨_,ho,rfl⟩ ⟨_,EH,rfl⟩ noFill_tuple_add seq_tuple_add aep aee (adX _ _)
   (tuple_addW2 t b vs.toArray ws.toArray n n2 dd Iu sl Iv (by simpa using hv) (by simpa using hw) (by rw[aaq,aaq];exact hsz)) ⟨ho,EH,?_⟩
  rw[e];exact h2 hw
noncomputable def cJ(n d:Nat):agK->Nat
 |none=>d
 |some v=>if v<0 then(v+(n:Int)).toNat else min v.toNat n
def Kk(n d:Nat)(hd:d<=n)(o:agK):cJ n d o<=n:=by
 cases o with
 |none=>exact hd
 |some v=>
  show(if v<0 then(v+(n:Int)).toNat else min v.toNat n)<=n;by_cases hv:v<0
  .rw[aav hv];lia
  .rw[aaC hv];exact Nat.min_le_right _ _
def qW(v:Int)(n d:Nat):(if v<0 then max (v+(n:Int)) 0 else min v (n:Int))=((cJ n d amJ:Nat):Int):=by
 show(if v<0 then max (v+(n:Int)) 0 else min v (n:Int))=(((if v<0 then(v+(n:Int)).toNat else min v.toNat n):Nat):Int);by_cases hv:v<0
 .simp only[aav hv];lia
 .simp only[aaC hv];lia
def vS(lo hi:agK)(n:Nat):Builtin.Slice.sliceAdjust lo hi 1 (n:Int)=(((cJ n 0 lo:Nat):Int),((cJ n n hi:Nat):Int)):=by
 have h1:¬((1:Int)<0):=aa2;unfold Builtin.Slice.sliceAdjust;simp only[h1,if_false];refine Prod.ext ?_ ?_
 .cases lo with
  |none=>rfl
  |some v=>exact qW v n 0
 .cases hi with
  |none=>rfl
  |some v=>exact qW v n n
def vT(i j:Nat):Builtin.Slice.slicePlaces (i:Int) (j:Int) 1=j-i:=by
 unfold Builtin.Slice.slicePlaces;have h1:(1:Int)>0:=aa2;simp only[h1,if_true,Int.ediv_one];split<;>lia
def nv(p:IsPart v o)(h:Q o s):wpAny aa4 A (Builtin.Slice.slicePartIndex v) Q E s:=by
 cases p with
 |none=>exact slicePart_none h
 |int i t=>exact slicePart_int h
def fD{sl:Addr}{vl vu:Value}{lo hi:agK}{n:Nat}{Q:Int×Int×Nat->Shared->Prop}(hs:ajz)(pl:awd)(pu:awc)
  (h:Q (((cJ n 0 lo:Nat):Int),1,cJ n n hi-cJ n 0 lo) s):wpAny aa4 A (Builtin.Slice.sliceApplied (akX sl) (pure (n:Int))) Q E s:=by
 refine bF (id hs) λos Kl tM Oo=>?_;unfold Builtin.Slice.sliceApplied Builtin.Slice.sliceFields;refine aaa (aaa (acM Kl Oo (x:=vl) rfl (aaa (acM Kl Oo (x:=vu) rfl (aaa (acM Kl Oo (x:= .none) rfl (aaj ?_)))))));refine aaa (slicePart_none ?_);show wpAny _ _ (if((1:Int)==0)=true then _ else _) _ _ s;rw[aaC aa2];refine aaa (nv pl (aaa (nv pu (aaa (aaj ?_)))));show wpAny _ _ (match Builtin.Slice.sliceAdjust lo hi 1 (n:Int)with|(lo,hi)=>pure (lo,(1:Int),Builtin.Slice.slicePlaces lo hi 1)) _ _ s;rw[vS lo hi n];show wpAny _ _ (pure (((cJ n 0 lo:Nat):Int),(1:Int),Builtin.Slice.slicePlaces ((cJ n 0 lo:Nat):Int) ((cJ n n hi:Nat):Int) 1)) _ _ s;rw[vT];exact aaj h
def BF(xs:agI)(i k:Nat):((List.range k).filterMap λ(m:Nat)=>xs[((i:Int)+(m:Int)*1).toNat]?).toArray =((xs.toList.drop i).take k).toArray :=by
 have e:(λ(m:Nat)=>xs[((i:Int)+(m:Int)*1).toNat]?)=λm=>xs[i+m]?:=by
  funext m;have:((i:Int)+(m:Int)*1).toNat =i+m:=by lia
  rw[this]
 rw[e];have:=pick_run xs i k;rw[List.filterMap_map]at this;have e2:((λx=>xs[x]?) ∘ λx=>i+x)=λm=>xs[i+m]?:=rfl;rw[e2]at this;rw[this]
def jG{t sl:Addr}{items:agI}{vl vu:Value}{lo hi:agK}{Q:Value->Shared->Prop}(ht:asL)(hs:ajz)(pl:awd)(pu:awc)
  (hw:¬(cJ items.size 0 lo=0/\asa))
  (h:Q ab7 {s with heap:=s.heap.push {cls:= .type "tuple",data:= .seq ((items.toList.drop arE).take ai4).toArray}})
  (hsz:items.size<=sizeLine):arj:=by
 have xb:sizeOk (.seq ((items.toList.drop arE).take ai4).toArray):=by
  show((items.toList.drop arE).take ai4).toArray.size <=sizeLine;rw[aaq,abS,adn,aaG];lia
 have hj:cJ items.size items.size hi<=items.size:=Kk _ _ ad0 hi;refine bF (id hs) λos Kl tM Oo=>?_;have Fg:s.TypeIs (akX sl) "slice":=⟨os,Kl,tM⟩;unfold getItem
 try with_reducible refine abi ?_
 first|refine aaa (aaj ?_)|skip
 refine aaa (wpAny_sequenceKey ht.typeIs aa2 ?_);refine aaa (abE (name:=Str.ofString "__getitem__") ht.typeIs abK
  (abm abK ht.typeIs entry_tuple_getitem ?_ ayG))
 show wpAny _ _ (Builtin.Tuple.tupleItemsOf ao3 >>= _) _ _ s;refine aaa (tupleItemsOf_ ht ?_);refine aaa (adA Fg ?_);rw[aav aa2];refine aaa (fD hs pl pu ?_);have vy:¬(ad3=true):=by
  intro q;rw[aae,aae]at q;have q1:((cJ items.size 0 lo:Nat):Int)=0:=eq_of_beq q.1.1;have q2:cJ items.size items.size hi-cJ items.size 0 lo=items.size:=eq_of_beq q.2;exact hw ⟨by lia,by lia⟩
 show wpAny _ _ (if ad3=true then _ else _) _ _ s;rw[aaC vy,BF]
 first
  |exact aaa (m:=Builtin.Tuple.tupleExact _) (abg ajI xb)
  |exact aaa (m:=Builtin.Tuple.tupleExact _) (abg (aaa (aaj ajI)) xb)
  |exact aaa (aaa (m:=Builtin.Tuple.tupleExact _) (abg (aaj ajI) xb))
  |exact aaa (aaa (m:=Builtin.Tuple.tupleExact _) (abg ajI xb))
end
end HT
namespace L2
open PySem PySem.Spec PyProof.Rows
abbrev TO:=St->Hp->(agK->Hp->Prop)->Prop
def PO(X:Cx)(e:ap9)(t:TO):Prop:=
 ∀(U:aa8) (s:ab_) (σ:St) (H:Hp) (Q:agK->Hp->Prop),aa3->aql->
  wpAny aa7 X.A (evalPart e X.env) (λu s'=>∃o H',aiv/\IsPart u o/\Q o H') X.xe s
def Fh:TO:=λ_ H Q=>Q none H
def Oq(t:TE):TO:=λσ H Q=>t σ H λx H1=>∃i,axC/\Q ap3 H1
def intsAre_of:∀{us:ab2},aF ah7 us->IntsAre us ns:=by
 induction ns with
 |nil=>intro us r;rw[afe]at r;cases r;exact .nil
 |cons n ns ih=>
  intro us r;rw[aaK]at r;cases r with
  |cons r1 r2=>
   obtain⟨t,e⟩:=r1;subst e;exact .cons n t (ih r2)
section
variable {X:Cx}{e:Expr}{te:TE}{lo hi:ap9}{tl th:TO}{pos p2:Pos}
def Fi:PO X none Fh:=by
 intro U s σ H Q I h;rw[evalPart_none];exact aaj ⟨none,H,I,.none,h⟩
def Fj(h:ap8):PO X (ajU e) (Oq te):=by
 intro U s σ H Q I hw;rw[evalPart_some];refine bG an_ λu s1 zz=>bg zz λx H1 I1 r1 q1=>aa q1 λi ak q=>?_
 try clear q1
 subst ak;obtain⟨t,rfl⟩:=r1;exact⟨some i,H1,I1,.int i t,q⟩
def EI(X:Cx)(r:V->agK->agK->Hp->VK->Prop):Prop:=
 ∀(U:aa8) (s:ab_) (σ:St) (H:Hp) (x:V) (v vl vu:Value) (lo hi:agK) (sl:Addr) (Q:VK),aa3->asi->ajz ->awd->awc->r x lo hi H Q->
  ∃T id,typeLookup aBo "__getitem__"=pure (ajU aki)/\s.TypeIs v T/\wpAny aa7 X.A (getItem v (akX sl)) ah_ X.xe s
def EI.or(h:EI X r)(h':EI X r'):EI X (λx lo hi H Q=>r x lo hi H Q\/r' x lo hi H Q):=by
 intro U s σ H x v vl vu lo hi sl Q I rx hs pl pu q;rcases q with q|q
 .exact h U s σ H x v vl vu lo hi sl Q I rx hs pl pu q
 .exact h' U s σ H x v vl vu lo hi sl Q I rx hs pl pu q
def XZ(r:V->agK->agK->Hp->VK->Prop)(te:TE)(tl th:TO):TE:=λσ H Q=>te σ H λx H1=>tl σ H1 λl H2=>th σ H2 λu H3=>r x l u H3 Q
def tN(hr:EI X r)(he:ap8)(hl:PO X lo tl)(hu:PO X hi th):PE X (alU e) (XZ r te tl th):=by
 intro U s σ H Q I h;refine Subscript_ (bG alK λv s1 zz=>?_);refine bg zz λx H1 I1 r1 q1=>wpAny_Slice (bG (hl U s1 σ H1 _ I1 q1) λvl s2 zz=>bg zz λl H2 I2 pl q2=>bG (hu U s2 σ H2 _ I2 q2) λvu s3 zz=>?_);refine bg zz λu H3 I3 pu q3=>?_;rw[evalPart_none];refine aaj ?_;have I4:Inv X U σ H3 {s3 with heap:=s3.heap.push {cls:= .type "slice",data:= .fields #[vl,vu,.none]}}:=I3.kept (t':=s3.toks) λb ob q=>aab _ q;refine bg (hr U {s3 with heap:=s3.heap.push {cls:= .type "slice",data:= .fields #[vl,vu,.none]}} σ H3 x v vl vu l u s3.heap.objs.size Q I4 r1 (Heap.IsSliceOf.new ..) pl pu q3) λT id hT ht hg=>?_;show wpAny aa7 X.A (subscriptTail e (.Slice lo hi none p2) v (akX s3.heap.objs.size)) ah_ X.xe {s3 with heap:=s3.heap.push {cls:= .type "slice",data:= .fields #[vl,vu,.none]}};exact tail_any (ops:=[.ref s3.heap.objs.size,v]) ht hT hg (by with_unfolding_all rfl)
noncomputable def tP(xs:ad7)(lo hi:agK):ad7:=(xs.drop aqz).take aiP
def lU(xs:ad7)(lo hi:agK):(tP xs lo hi).length <=xs.length:=by
 unfold tP;rw[abS,adn];exact aaf (Nat.min_le_right _ _) aA9
def Ot(K:aE):V->agK->agK->Hp->VK->Prop:=λx lo hi H Q=>∃a xs,ajw/\aji/\
 ¬(HT.cJ xs.length 0 lo=0/\HT.cJ xs.length xs.length hi=xs.length)/\∀p,akp->Q ahg (auM (akb ata))
def Km:EI X (Ot X.K):=by
 intro U s σ H x v vl vu lo hi sl Q I rx hs pl pu h;refine il h λa xs ak hx hw q=>?_
 try clear h
 subst ak;cases rx;refine bF (I.tuple hx) λits r ht hz=>?_;have aI:ayu:=by rw[aaq];exact r.length.symm
 refine⟨"tuple",_,abK.lookup,ht.typeIs,?_⟩;refine HT.jG ht hs pl pu (by rw[aI];exact hw) ?_ (by rw[aI];exact hz);rw[aI];refine⟨ab7,_,I.laid (t':=s.toks) (o:= .tup ata) (λb ob q=>axY) ad0 ?_,rfl,q _ ant⟩;exact⟨aaf (lU xs lo hi) hz,_,aDA,az8⟩
def Iy(K:aE):R2:=λx y H Q=>∃a b xs ys,ajw/\aru/\aji/\cP K H b ys/\xs≠[]/\xs.length+ys.length<=sizeLine/\
 (ys=[]->Q ac_ H)/\(ys≠[]->∀p,akp->Q ahg (auM (akb ayS)))
def aF.qX(r:ani):us=[]↔xs=[]:=by
 cases r with
 |nil=>simp
 |cons _ _=>simp
def Fl:lR X aob (Iy X.K):=by
 intro U s σ H x y v u Q I rx ry h;refine VH h λa b xs ys ak aN ha hb hx hz q1 q2=>?_
 try clear h
 subst ak;subst aN;cases rx;cases ry;refine bF (I.tuple ha) λits r1 p1 _=>bF (I.tuple hb) λjh r2 p2 _=>HT.Ff p1 p2 (λz=>hx (r1.qX.mp z)) (λz=>⟨ac_,H,I,rfl,q1 (r2.qX.mp z)⟩) (λz=>?_) (by rw[<-r1.length,<-r2.length];exact hz);refine⟨ab7,_,I.laid (t':=s.toks) (o:= .tup ayS) (λb ob q=>axY) ad0 ?_,rfl,q2 (λw=>z (r2.qX.mpr w)) _ ant⟩;exact⟨by rw[aan];exact hz,_,r1.append r2,az8⟩
end
noncomputable def Nk(n:Nat)(i:Int):aha:=if 0<=i then(if i<n then some i.toNat else none) else if -(n:Int)<=i then some (i+n).toNat else none
noncomputable def Iz{α:Type}(xs:agM)(i:Int):ayb:=(Nk xs.length i).bind λj=>xs[j]?
def xc(h:Nk n i=some j):seqIndex? i n=some j/\j<n/\ -(n:Int)<=i/\i<n:=by
 unfold Nk at h;by_cases h0:0<=i
 .rw[aav h0]at h;by_cases h1:i<n
  .rw[aav h1]at h;have e:i.toNat=j:=aaI h;exact⟨by rw[seqIndex_of h0 h1,e],by lia,by lia,h1⟩
  .rw[aaC h1]at h;cases h
 .rw[aaC h0]at h;by_cases h1: -(n:Int)<=i
  .rw[aav h1]at h;have e:(i+n).toNat =j:=aaI h;exact⟨by rw[seqIndex_neg av4 h1,e],by lia,h1,(adY av4 akT)⟩
  .rw[aaC h1]at h;cases h
def xf(h:azE):∃j,seqIndex? i xs.length=some j/\xs[j]?=some v/\j<xs.length/\ -(xs.length:Int)<=i/\i<xs.length:=by
 unfold Iz at h;cases e:Nk xs.length i with
 |none=>rw[e]at h;cases h
 |some j=>
  rw[e]at h;exact Bl (xc e) λh1 h2 h3 h4=>⟨j,h1,h,h2,h3,h4⟩
def qY(b:Expr):Prop:=∀o i,subscripted b false o i=operate [o,i] (getItem o i)
def Ko(X:Cx)(r:R2):Prop:=
 ∀(value slice:Expr) (U:aa8) (s:ab_) (σ:St) (H:Hp) (x y:V) (v u:Value) (Q:VK),aa3->asi->anj->aCm->
  subscripted slice false v u=operate [v,u] (getItem v u)->wpAny aa7 X.A (subscriptTail value slice v u) ah_ X.xe s
def Ou(X:Cx)(id:ap5)(r:V->ad7->Hp->VK->Prop):Prop:=
 ∀(U:aa8) (s:ab_) (σ:St) (H:Hp) (x:V) (xs:ad7) (v:Value) (us:ab2) (Q:VK),aa3->asi->ani->r x xs H Q->
  wpAny aa7 X.A (call aki (v::us)) ah_ X.xe s
section
variable {X:Cx}{a b:Expr}{ta tb:TE}{pos:Pos}
def Ko.or(h:Ko X r)(h':Ko X r'):Ko X (λx y H Q=>aCm\/r' x y H Q):=by
 intro value slice U s σ H x y v u Q I rx ry q hs;rcases q with q|q
 .exact h value slice U s σ H x y v u Q I rx ry q hs
 .exact h' value slice U s σ H x y v u Q I rx ry q hs
def IA(hr:Ko X r)(ha:anr)(hb:aur)(hs:qY b):PE X (ayo b) aq_:=by
 intro U s σ H Q I h;exact Subscript_ (J3 ha hb I h λv u s2 x y H2 I2 rx ry q=>hr a b U s2 σ H2 x y v u Q I2 rx ry q (hs _ _))
def Fm(K:aE):R2:=λx y H Q=>∃p xs i v,x= .ref p/\y= .int i/\cO K H p xs/\azE/\Q v H
def Tj(K:aE):R2:=λx y H Q=>∃p xs i v,x= .ref p/\y= .int i/\cP K H p xs/\azE/\Q v H
def xg:Ko X (Fm X.K):=by
 intro value slice U s σ H x y v u Q I rx ry h hs;refine vG h λp xs i z ak aN hq he q=>?_
 try clear h
 subst ak;subst aN;cases rx;obtain⟨t,rfl⟩:=ry;refine bF ajM λits r pl hz=>Nd (xf he) λj h1 h2 h3 h4 h5=>aa (r.get h2) λw ew BG=>?_;have hl:=r.length;have hn:=ng;have fin:EP X U σ Q w s:=⟨z,H,I,BG,q⟩;by_cases h0:0<=i
 .have hj:i.toNat=j:=by
   rw[seqIndex_of h0 h5]at h1;exact aaI h1
  exact item_listR pl.isList h0 (by lia) (by rw[hj];simpa using ew) fin hs
 .have hj:(i+(its.toArray.size:Int)).toNat =j:=by
   rw[seqIndex_neg av4 h4]at h1;rw[aaq,<-hl];exact aaI h1
  exact subscriptTail_builtinR (x:=w) pl.isList.typeIs slot_list_getitem.lookup
   (wpAny_getItem_list_neg (Q:=λr s'=>r=w/\EP X U σ Q r s') pl.isList av4 (by rw[aaq]<;>lia) (by lia) (by rw[hj];simpa using ew) ⟨rfl,fin⟩) hs
def Kp:Ko X (Tj X.K):=by
 intro value slice U s σ H x y v u Q I rx ry h hs;refine vG h λp xs i z ak aN hq he q=>?_
 try clear h
 subst ak;subst aN;cases rx;obtain⟨t,rfl⟩:=ry;refine bF am6 λits r pl hz=>Nd (xf he) λj h1 h2 h3 h4 h5=>aa (r.get h2) λw ew BG=>?_;have hl:=r.length;have hn:=ng;have fin:EP X U σ Q w s:=⟨z,H,I,BG,q⟩;exact subscriptTail_builtinR (x:=w) pl.typeIs slot_tuple_getitem.lookup
  (getItem_tuple (j:=j) (Q:=λr s'=>r=w/\EP X U σ Q r s') pl (by lia) (by lia) (by rw[aaq,<-hl];exact h1) (by simpa using ew) ⟨rfl,fin⟩) hs
def vU(its:ab2)(n j:Nat)(u:Value):Obj.mapSeq (·.setIfInBounds j u) {cls:= .type "list",data:= .seq its.toArray n}={cls:= .type "list",data:= .seq (its.set j u).toArray n}:=by
 simp[Obj.mapSeq]
theorem Inv.lst{U:aa8}{σ:St}{H:Hp}{s:ab_}{p:Addr}{xs:ad7}(I:aa3)(h:aDk):
  ∃(its:ab2) (n:Nat),anq/\s.heap.get? p=some {cls:= .type "list",data:= .seq its.toArray n}/\ah6:=by
 obtain⟨z,its,n,r,e⟩:=I.aR p _ h;exact⟨its,n,r,e,z⟩
def Inv.Kq{U:aa8}{σ:St}{H:Hp}{s:ab_}{p:Addr}{xs ys:ad7}{its its':ab2}{n n':Nat}{f:Obj->Obj}(I:aa3)(h:aDk)
  (ho:s.heap.get? p=some {cls:= .type "list",data:= .seq its.toArray n}) (hf:f {cls:= .type "list",data:= .seq its.toArray n}={cls:= .type "list",data:= .seq its'.toArray n'}) (r:aF ys its') (hz:aox) (t:Nat):
  Inv X U σ (auM azq) {s with heap:=s.heap.update p f,toks:=t}:=by
 have e:(s.heap.update p f).get? p=some {cls:= .type "list",data:= .seq its'.toArray n'}:=by
  rw[abF f ho (by rw[hf]<;>rfl),hf]
 exact I.write (x:=p) (e:=p) (by rw[h];trivial) agR (λb u hb q=>(aaT _ _ anL).trans q) ⟨_,e⟩<|⟨hz,its',n',r,e⟩
def Ov:V->V->V->Hp->(Hp->Prop)->Prop:=λo i v H Q=>∃p xs k j,o= .ref p/\i= .int k/\aDk/\Nk xs.length k=some j/\Q ayF
def BH:N9 X Ov:=by
 intro U s σ H o i v ov iv u Q I ro ri rv h;refine vG h λp xs k j ak aN hp hj q=>?_
 try clear h
 subst ak;subst aN;cases ro;obtain⟨t,rfl⟩:=ri;refine bg (I.lst hp) λits n r ho hz=>Bl (xc hj) λh1 h2 h3 h4=>?_;have hl:=r.length;have hn:=ng;have I':Inv X U σ ayF {s with heap:=s.heap.update p (Obj.mapSeq (·.setIfInBounds j u))}:=
  I.Kq hp ho (vU its n j u) (r.set rv j) (by rw[abj];exact hz) s.toks
 by_cases h0:0<=k
 .have hk:k.toNat=j:=by
   rw[seqIndex_of h0 h4]at h1;exact aaI h1
  exact PySem.W.ki_setAt ho h0 (by lia) (by rw[aaq,<-hl];exact h4) (by rw[hk];exact⟨_,I',q⟩)
 .have hk:(k+(its.toArray.size:Int)).toNat =j:=by
   rw[seqIndex_neg av4 h3]at h1;rw[aaq,<-hl];exact aaI h1
  exact PySem.W.ki_setBack ho av4 (by rw[aaq,<-hl];exact h3) (by lia) (by rw[hk];exact⟨_,I',q⟩)
def qZ(lo hi:agK)(n:Nat):(sliceBounds lo hi none n).1 =((HT.cJ n 0 lo:Nat):Int)/\(sliceBounds lo hi none n).2.1 =((HT.cJ n n hi:Nat):Int)/\(sliceBounds lo hi none n).2.2 =1:=by
 refine⟨?_,?_,rfl⟩
 .cases lo with
  |none=>simp[sliceBounds,HT.cJ]
  |some i=>
   simp only[sliceBounds,HT.cJ,Option.getD_none,show(1:Int)>0 by decide,if_true];by_cases h:i<0
   .simp only[h,if_true]<;>lia
   .simp only[h,if_false]<;>lia
 .cases hi with
  |none=>simp[sliceBounds,HT.cJ]
  |some i=>
   simp only[sliceBounds,HT.cJ,Option.getD_none,show(1:Int)>0 by decide,if_true];by_cases h:i<0
   .simp only[h,if_true]<;>lia
   .simp only[h,if_false]<;>lia
def pJ(its:ab2)(lo hi:agK):slicePick its.toArray lo hi none=((its.drop (HT.cJ its.length 0 lo)).take (HT.cJ its.length its.length hi-HT.cJ its.length 0 lo)).toArray :=by
 refine cY (qZ lo hi its.toArray.size) λh1 h2 h3=>?_;unfold slicePick;rw[h1,h2,h3];simp only[sliceRange_one,pick_run,aaq]<;>rfl
def Tn(K:aE):V->agK->agK->Hp->VK->Prop:=λx lo hi H Q=>∃a xs,ajw/\am4/\∀p,akp->Q ahg (auM (aj1 ata))
def xh:EI X (Tn X.K):=by
 intro U s σ H x v vl vu lo hi sl Q I rx hs pl pu h;refine bg h λa xs ak hx q=>?_
 try clear h
 subst ak;cases rx;refine bF (I.list hx) λits r ht hz=>?_;have aI:=r.length;refine⟨"list",_,slot_list_getitem.lookup,ht.isList.typeIs,?_⟩;refine wpAny_getItem_list_slice ht.isList hs pl pu .none ab5 ?_ (by rw[aaq]<;>exact aaf amU hz);rw[pJ,<-aI];refine⟨ab7,_,I.laid (t':=s.toks) (o:= .lst ata) (λb ob q=>axY) ad0 ?_,rfl,q _ ant⟩;exact⟨aaf (lU xs lo hi) hz,_,0,aDA,agU⟩
def q5:cR X (.builtin "len") (λxs H Q=>∃p ys,anc/\(aAU\/aAS)/\Q (amh ys.length) H):=by
 intro U s σ H xs us Q I r h;refine bg h λp ys ak hq q=>?_
 try clear h
 subst ak;refine aa am0 λu aN rx=>?_;subst aN;cases rx;have hn:=ng;rcases hq with hq|hq
 .refine bF ajM λits r' pl hz=>?_;have aI:=r'.length;exact Calls.call_len_list pl.isList (by simp only[aaq]<;>lia) ⟨.int ys.length,H,akN,⟨s.toks+1,by rw[aaq,aI]⟩,q⟩
 .refine bF am6 λits r' pl hz=>?_;have aI:=r'.length;exact len_tuple pl (by simp only[aaq]<;>lia) ⟨.int ys.length,H,akN,⟨s.toks+1,by rw[aaq,aI]⟩,q⟩
def cR.or(h:cR X f r)(h':cR X f r'):cR X f (λxs H Q=>r xs H Q\/r' xs H Q):=by
 intro U s σ H xs us Q I rs q;rcases q with q|q
 .exact h U s σ H xs us Q I rs q
 .exact h' U s σ H xs us Q I rs q
def jH:cR X (.type "list") (λxs H Q=>∃p ys,anc/\(aAU\/aAS)/\∀l,aqA->Q ahI (aw5 azq)):=by
 intro U s σ H xs us Q I r h;refine bg h λp ys ak hq q=>?_
 try clear h
 subst ak;refine aa am0 λu aN rx=>?_;subst aN;cases rx
 have fin:∀(its:ab2),aF ys its->aox->∀(h':Heap) (c':Nat),(∀b o',arv->apV)->
   h'.get? s.heap.objs.size=some {cls:= .type "list",dict:=none,data:= .seq its.toArray c',slots:=#[]}->EP X U σ Q ab7 {s with heap:=h'}:=λits r' hz h' c' kp e=>
  ⟨ab7,_,I.laid (t':=s.toks) kp ad0 (show aT X.prog X.w _ h' _ azq from⟨hz,its,c',r',e⟩),rfl,q _ ant⟩
 rcases hq with hq|hq
 .refine bF ajM λits r' pl hz=>?_;have aI:=r'.length;obtain⟨o,ho,hc,n,hd⟩:=pl.isList;exact call_list_seq p agR ho hc hd (λh' c' kp e=>aAa) (by simp only[aaq]<;>exact aaf amU hz)
 .refine bF am6 λits r' pl hz=>?_;have aI:=r'.length;obtain⟨o,ho,hc,n,hd⟩:=pl;exact call_list_seq p aA1 ho hc hd (λh' c' kp e=>aAa) (by simp only[aaq]<;>exact aaf amU hz)
def pK:cR X (.type "tuple") (λxs H Q=>∃p ys,anc/\((aAU/\∀l,aqA->Q ahI (aw5 av0))\/(aAS/\Q ahg H))):=by
 intro U s σ H xs us Q I r h;obtain⟨p,ys,rfl,h⟩:=h;obtain⟨u,rfl,rx⟩:=vals1 r;cases rx;rcases h with⟨hq,q⟩|⟨hq,q⟩
 .obtain⟨its,r',pl,hz⟩:=I.list hq;have aI:=r'.length;refine call_tuple_list pl.isList (λh' kp=>?_) (by simp only[aaq]<;>exact aaf amU hz);have I1:Inv X U σ H {s with heap:=h'}:=I.kept (t':=s.toks) kp;have I2:Inv X U σ (upd H h'.objs.size av0) {s with heap:=h'.push {cls:= .type "tuple",data:= .seq its.toArray}}:=
   I1.laid (t':=s.toks) (λb o e=>ail) ad0 (show aT X.prog X.w _ _ _ av0 from⟨hz,its,r',az8⟩)
  exact⟨.ref h'.objs.size,_,I2,rfl,q _ ahv⟩
 .obtain⟨its,r',pl,hz⟩:=I.tuple hq;exact call_tuple_same pl ⟨ahg,H,I,rfl,q⟩
def To(K:aE)(T:ap5)(x:V)(H:Hp):Prop:=match x with
 | .str _=>T="str"
 | .int _=>T="int"
 | .ref p=>(T="list"/\∃xs,cO K H p xs)\/(T="tuple"/\∃o,K.lookup p=some o/\o.cls= .type "tuple"/\o.dict=none)\/
   (T="dict"/\((∃kvs,aDj)\/∃kvs,H p=some alD))\/(T="set"/\∃S n,H p=some (.set S n))
 |_=>False
def BI(I:aa3)(r:asi)(ty:To X.K T x H):
  s.TypeIs v T/\∀a,ajy->∃ob,s.heap.get? a=some ob/\ob.dict=none:=by
 cases x with
 |str z=>
  obtain⟨t,rfl⟩:=r;cases (show T="str" from ty);exact⟨typeIs_str s z t,λ_ e=>nomatch e⟩
 |int i=>
  obtain⟨t,rfl⟩:=r;cases (show T="int" from ty);exact⟨typeIs_int s i t,λ_ e=>nomatch e⟩
 |ref p=>
  cases r;rcases ty with⟨rfl,xs,hq⟩|⟨rfl,o,hk,hc,hd⟩|⟨rfl,hk⟩|⟨rfl,S,n,hk⟩
  .refine bF ajM λits _ pl _=>⟨pl.isList.typeIs,λa e=>?_⟩;cases e;exact il pl λo n e c hd _=>⟨o,e,hd⟩
  .refine⟨⟨o,I.Ik p o hk,hc⟩,λa e=>?_⟩;cases e;exact⟨o,I.Ik _ o hk,hd⟩
  .have z:∃o,s.heap.get? p=some o/\o.ExactDict:=by
    rcases hk with⟨kvs,hk⟩|⟨kvs,hk⟩
    .obtain⟨_,_,_,_,o,_,_,e,ex,_⟩:=I.aR p _ hk;exact⟨o,e,ex⟩
    .obtain⟨_,_,_,_,o,_,_,e,ex,_⟩:=I.aR p _ hk;exact⟨o,e,ex⟩
   refine aa z λo e ex=>⟨⟨o,e,ex.1⟩,λa e2=>?_⟩;cases e2;exact⟨o,e,ex.2.1⟩
  .refine Jw (I.aR p _ hk) λo _ _ _ e ex _=>⟨⟨o,e,ex.1⟩,λa e2=>?_⟩;cases e2;exact⟨o,e,ex.2.1⟩
 |_=>exact False.elim ty
def Tp(K:aE)(T:ap5)(r:V->ad7->Hp->VK->Prop)(to:TE):TE:=λσ H Q=>to σ H λx H1=>To K T x H1/\r x [] H1 Q
def RG(K:aE)(T:ap5)(r:V->ad7->Hp->VK->Prop)(to:TE)(t:TA):TE:=λσ H Q=>to σ H λx H1=>To K T x H1/\t σ H1 λxs H2=>r x xs H2 Q
variable {o e:Expr}{es:ag7}{to:TE}{t:TA}{name:Str}{jF dq:Pos}{T id:ap5}{r:V->List V->Hp->VK->Prop}
def Kr(pa:PlainAttrs T)(slot:Slot T name id)(Ox:typeOf aki=pure (.type "method_descriptor"))(hm:Ou X id r)(ho:ax_)
  (jI:aiC:=by rfl) (jJ:am1=true:=by rfl):PE X (amG []) (Tp X.K T r to):=by
 intro U s σ H Q I h;refine wpAny_Call_method0_late jI jJ (bG ajH λv s1 zz=>?_);refine il zz λx H1 I1 r1 ty q1=>?_;obtain⟨h1,h2⟩:=BI I1 r1 ty;exact⟨T,id,pa,slot,Ox,h1,h2,acP rfl (agr (hm U s1 σ H1 x [] v [] Q I1 r1 .nil q1))⟩
def xi(pa:PlainAttrs T)(slot:Slot T name id)(Ox:typeOf aki=pure (.type "method_descriptor"))(hm:Ou X id r)(ho:ax_)(ha:alO)
  (jI:aiC:=by rfl)
  (Ks:((backTo dq (atY (e::es))).all (λx=>!x.1)&&(backToKw dq aqo).all (λx=>x.1.isSome)
   && decide ((e::es).length+([]:ans).length+(if([]:ans).isEmpty then 0 else 1)<30))=true:=by rfl)
  (jJ:am1=true:=by rfl) (hs:ab1:=by rfl) (vV:(backTo dq ag_).any (·.1)=false:=by rfl):
  PE X (amG (e::es)) (RG X.K T r to t):=by
 intro U s σ H Q I h;refine wpAny_Call_method_late jI Ks jJ rfl (bG ajH λv s1 zz=>?_);refine il zz λx H1 I1 r1 ty q1=>?_;obtain⟨h1,h2⟩:=BI I1 r1 ty;refine⟨T,id,pa,slot,Ox,h1,h2,?_⟩;have hA:=ha dq U s1 σ H1 _ I1 q1;rw[hs]at hA⊢;refine acP (by show(false||(backTo dq (starEach es X.env)).any (·.1))=false;rw[vV]<;>rfl) (aeP ?_);exact bG hA λus s2 zz=>bg zz λvs H2 I2 r2 q2=>hm U s2 σ H2 x vs v us Q I2 r1 r2 q2
end
def RH(X:Cx)(id:ap5)(r:V->ad7->Hp->VK->Prop):Prop:=
 ∀(U:aa8) (s:ab_) (σ:St) (H:Hp) (x:V) (xs:ad7) (v:Value) (us:ab2) (Q:VK),aa3->asi->ani->r x xs H Q->
  wpAny aa7 X.A (call aki (v::us)) ah_ X.xe s
def aF.one(h:aF [x] us):∃u,us=[u]/\aup:=by
 cases h with
 |cons r t=>cases t;exact⟨_,rfl,r⟩
def aF.zero:∀{us:ab2},aF [] us->us=[]
 |_,.nil =>rfl
theorem aF.dropLast(h:ani):aF xs.dropLast us.dropLast:=by
 induction h with
 |nil=>exact .nil
 |cons r t ih=>
  cases t with
  |nil=>exact .nil
  |cons q t'=>exact .cons r ih
def vW(l:agM):l.eraseIdx (l.length-1)=l.dropLast:=by
 induction l with
 |nil=>rfl
 |cons a r ih=>
  cases r with
  |nil=>rfl
  |cons b r=>
   have e:(a::b::r).length-1=((b::r).length-1)+1:=by
    have h1:(a::b::r).length =r.length+2:=rfl;have h2:(b::r).length =r.length+1:=rfl;exact h2
   rw[e,List.eraseIdx_cons_succ,ih]
   all_goals rfl
section
variable {X:Cx}{U:aa8}{σ:St}{H:Hp}{s:ab_}{l b:Addr}{xs ys zs:ad7}
def Inv.Kt{its its':ab2}{n:Nat}{f:agI->Array Value}{t':Nat}(I:aa3)(hH:arP)
  (e:s.heap.get? l=some {cls:= .type "list",data:= .seq its.toArray n}) (hf:f its.toArray=its'.toArray) (hv:aF ys its') (hz:aox):
  Inv X U σ (aw5 azq) {s with heap:=s.heap.update l (Obj.mapSeq f),toks:=t'}:=by
 have q:=PySem.IsL.update e f;rw[hf]at q;exact I.write (x:=l) (e:=l) (by rw[hH];exact trivial) agR (λb' u hb hu=>(aaT s.heap (Obj.mapSeq f) anL).trans hu) ⟨_,q⟩<|⟨hz,its',_,hv,q⟩
def Inv.Oy(I:aa3)(hv:aF ys its)(hz:aox):
  Inv X U σ (akW azq) {s with heap:=s.heap.push {cls:= .type "list",data:= .seq its.toArray},toks:=t'}:=
 I.laid (λ_ _ q=>axY) ad0 ⟨hz,its,0,hv,agU⟩
theorem Inv.fresh(I:aa3):amA:=I.aR.fresh ad0
def Inv.Ku(I:aa3)(hH:arP):ah6/\∃(its:ab2) (n:Nat),anq/\xs.length=its.length/\s.heap.get? l=some {cls:= .type "list",data:= .seq its.toArray n}:=by
 obtain⟨z,its,n,r,e⟩:=I.aR l _ hH;exact⟨z,its,n,r,r.length,e⟩
def BJ(h:n<=sizeLine):Builtin.List.listTooLong n=false:=by
 unfold Builtin.List.listTooLong;exact decide_eq_false (acS h)
end
section
variable {X:Cx}
def Fn:V->ad7->Hp->VK->Prop:=λx vs H Q=>∃l xs y,at6/\vs=[y]/\arP/\at5/\Q .cv (aw5 (aj1 (xs++[y])))
def p7:RH X "list.append" Fn:=by
 intro U s σ H x vs v us Q I rx rv h;refine vx h λl xs y ak aN hH hz q=>?_
 try clear h
 subst ak;subst aN;cases rx;refine aa rv.one λu cV ru=>?_;subst cV;obtain⟨z,its,n,r,hl,e⟩:=I.Ku hH;refine call_meets F.slot_list_append ⟨_,e,rfl⟩ F.entry_list_append (F.args_list_append_2 _ _) (PySem.list_append l its.toArray n u (by rw[aaq];exact aaf aiH (aaE hz))) ⟨e,?_⟩;refine⟨.cv,_,I.Kt (its':=its++[u]) hH e ab5 (r.append (aj2 ru)) ?_,rfl,q⟩;rw[aan,abb];exact hz
def Tq:V->ad7->Hp->VK->Prop:=λx vs H Q=>∃l xs y,at6/\vs=[]/\arP/\xs[xs.length-1]?=some y/\Q y (aw5 (aj1 xs.dropLast))
def Kv:RH X "list.pop" Tq:=by
 intro U s σ H x vs v us Q I rx rv h;refine vx h λl xs y ak aN hH hy q=>?_
 try clear h
 subst ak;subst aN;cases rx;have X0:=rv.zero;subst X0;obtain⟨z,its,n,r,hl,e⟩:=I.Ku hH;refine aa (r.get hy) λu hu ru=>?_;have EJ:its.toArray[its.toArray.size-1]?=some u:=by
  show its.toArray[its.length-1]?=some u;rw[<-aaR,<-hl];exact hu
 refine call_meets F.slot_list_pop ⟨_,e,rfl⟩ F.entry_list_pop (F.args_list_pop_1 _) (MeetsSeq.list_pop_last l its.toArray n u EJ (by rw[aaq];exact aaf aiH z)) ⟨e,?_⟩;refine⟨y,_,I.Kt (its':=its.dropLast) hH e ?_ r.dropLast ?_,ru,q⟩
 .show its.toArray.eraseIdxIfInBounds (its.toArray.size-1)=its.dropLast.toArray;rw[aaq,List.eraseIdxIfInBounds_toArray,vW]
 .rw[List.length_dropLast];exact aaf aA9 z
end
section
variable {prog:ad2}{w:World}{A:ag0}{E:Value->Shared->Prop}{s:ab_}{X:Cx}
end
end L2
namespace VY
open PySem PySem.W PySem.Calls PyProof.Rows
def l_:∀(ns:aa0) (vs:ab2),WellAll P h vs (ns.map WData.int)->aom:=by
 intro ns;induction ns with
 |nil=>
  intro vs w;rw[afe]at w;cases w;exact .nil
 |cons n ns ih=>
  intro vs w;rw[aaK]at w;cases w with
  |cons a b=>
   cases a;exact .cons _ _ (ih _ b)
def zG{l:OpenLaw}{n:Nat}(hn:aAH){P:Params}{h:Heap}{args:List WData}{vals:ab2}
  (Fo:l.row.toRowW.claim.pre args=true) (Tr:WellAll P h vals args):
  ∃a vs ns,vals=[Value.ref a]/\args=[WData.list (ns.map WData.int)]/\h.get? a=some {cls:= .type "list",data:= .seq vs.toArray}/\aom/\avP:=by
 have ji:WShape.hasAll [] args [.list .int]=true:=(pre_splitW Fo).1;have hc:l.pre.holds [] {args:=args}=true:=(pre_splitW Fo).2;refine bg (hasAllW_cons ji) λd r ak h1 h2=>?_;subst ak;obtain rfl:=hasAllW_nil h2;refine aa (hasW_list h1) λxs aN h3=>?_;subst aN;obtain⟨ns,rfl⟩:=items_int h3;have aI:avP:=by
  unfold OpenLaw.pre at hc;have h4:(WTm.not (.lt (.lit (amh (n:Int))) (.len (.arg 0)))).holds [] {args:=[.list ay2]}=true:=by
   have h4:=(holds_andW hc).1;rw[hn]at h4;exact h4
  have h5:=condW_of h4 (w_not (w_lt w_lit (w_len_list (w_arg rfl))));rw[aad]at h5;refine aaS λq=>?_;have q':(n:Int)<((ns.length:Nat):Int):=by lia
  first
   |(rw[decide_eq_true q']at h5;exact absurd h5 aa2)
   |(simp at h5;lia)
 cases Tr with
 |cons w1 w2=>
  cases w2;cases w1 with
  |list ho ma=>exact⟨_,_,ns,rfl,rfl,ho,l_ ns _ ma,aI⟩
def zH(l:OpenLaw)(args:List WData):l.row.toRowW.claim.post args akK args=true:=
 postW_of (r:=l.row.toRowW) (X:=(true==true))
  (show WShape.has [] akK .bool =true by first|rfl|decide|simp[WShape.has,WShape.arms,WShape.armsAll])
  (show(WTm.eq .res (.lit akK)).value [] {args:=args,res:=some akK,after:=args}=some (aDH (true==true)) from w_eq_bool (w_res rfl) w_lit) rfl
def tQ{l:OpenLaw}{n:Nat}{q:ad2}{loose:ae1}{XP:(Str->af9)->Heap->Prop}{YP:World->Heap->Prop}{d:DefRec}
  (hn:aAH) (Oz:asB)
  (call:∀(w:World) (s₀ aY:ab_) (mg mb:Str->af9) (fa:Addr) (o:Obj) (pm cd iQ:Value) (a:Addr) (vs:ab2) (ns:aa0),
   Ground q loose [] XP w s₀ mg mb aY.heap->YP w aY.heap->
   aY.heap.get? fa=some o->o.data= .func (docDef d.name d.params d.body d.scope pm cd iQ)->aY.heap.CodeRec cd d.name->aua->
   aY.heap.get? a=some {cls:= .type "list",data:= .seq vs.toArray}->aom->avP->aY.gens=#[]->
   codeAny (model l.prog w) callerA aoQ (λr s'=>apt/\asK/\s'.os=aY.os/\aoO) aY):
  WalkO q loose XP YP l.row.toRowW d [] (λf vs=>ax4):=by
 intro w s₀ aY mg mb G Y fa o pm cd iQ dV kV ho hd Bt hD OA hg args vals as Fo X1 hrd Tr Kw;obtain rfl:dV= .none :=Dflts.none hD Oz;obtain rfl:kV= .none :=Dflts.noKw hD;refine vx (zG hn Fo Tr) λa vs ns ak aN Kx hints aI=>?_;subst ak;subst aN;refine enter_call (aeB (call w s₀ aY mg mb fa o pm cd iQ a vs ns G Y ho (fd_plain hd) Bt OA Kx hints aI hg) λr s' hq=>?_);refine Bl hq λcV h2 h3 h4=>?_
 try clear hq
 subst cV;exact⟨.inl ⟨akK,akK,[],rfl,λ_=>rfl,akK,zH l _,λ_=>⟨List.Pairwise.nil,λ_ hm=>(nomatch hm)⟩⟩,h2,h3,h4⟩
section
variable {prog:ad2}{w:World}{A:ag0}{E:Value->Shared->Prop}{s:ab_}{K:Frag}
end
end VY
namespace L2
open PySem PySem.Spec PyProof.Rows
def zI:∀{vs:ab2}{ns:aa0},aom->aF ah7 vs:=λ{vs ns} h=>by
 induction h with
 |nil=>exact .nil
 |cons n t h ih=>exact .cons ⟨t,rfl⟩ ih
def Ky(H:Hp):Prop:=∀b,aje\/∃o xs,H b=some (.dJ o agN)
def BK{P:ad2}{w:World}{K:aE}{mg mb:Str->Option Value}{CX:BA}{k:Nat}{fa a:Addr}{fd:akq}{x:Str}{sp:Sp}{aY:ab_}{vs:ab2}{ns:aa0}
  (KX:K.In aY.heap) (VZ:aY.heap.Ns mainGlobals mg) (hb:aY.heap.Ns builtinsNs mb) (X2:∀x:Str,x≠"__name__"->mb x=bootBuiltins x) (Tt:aY.heap.NoLimit) (hg:aY.gens=#[])
  (ha:aY.heap.get? a=some {cls:= .type "list",data:= .seq vs.toArray}) (hi:aom) (hl:ns.length<=sizeLine) (hr:fg k callerA)
  (F:∀base:Heap,K.In base->amT->jE P w K mg base CX k fa fd [x] sp) (OB:∀(s:ab_) (u:Value),amC)
  (Ir:∀H:Hp,Ky H->aCL->sp [ac_] H (λv _=>axD) λ_ _ _=>False)
  (Tu:∀H e s',CX [] H aY (λ_ _ _=>False) e s'->False):
  codeAny amI callerA aoQ (λr s'=>apt/\asK/\s'.os=aY.os/\aoO) aY:=by
 have rv:=zI hi;have Tv:=hi.length
 have aS:∀H:Hp,Ky H->aCL->jf P w H aY.heap->(∀b,H b≠none->b=a)->(H a≠none->K.lookup a=none)->
   codeAny amI callerA aoQ (λr s'=>apt/\asK/\s'.os=aY.os/\aoO) aY:=by
  intro H hO hS aR hA hK;have jK:∀{b:Addr}{o:Obj},aC4->aje->(qS aY.heap H).get? b=some o:=λe n=>Bo e n;have Og:∀{b:Addr}{o:Obj}{es:aiW}{ep:Nat},aC4->aiU->aje:=λ{b o es ep} e d=>by
   cases q:H b with
   |none=>rfl
   |some u=>
    have e':b=a:=hA b (by rw[q];simp);subst e';rw[ha]at e;cases e;have d':Data.seq vs.toArray _=Data.dict es ep:=d;cases d'
  have RI:∀{b:Addr}{m:Str->Option Value},aY.heap.Ns b m->(qS aY.heap H).Ns b m:=λ{b m} zz=>cC zz λo es ep e d r=>⟨o,es,ep,jK e (Og e d),d,r⟩;have V0:K.In axK:=λb o e=>jK (KX b o e) (by
   cases q:H b with
   |none=>rfl
   |some u=>
    have e':b=a:=hA b (by rw[q];simp);subst e';rw[hK (by rw[q];simp)]at e;cases e)
  have hM:Mod K mg axK:=⟨V0,RI VZ,⟨mb,RI hb,X2⟩,let ⟨mc,h1,h2⟩:=Tt;⟨mc,RI h1,h2⟩⟩;have e0:Fc P w K mg axK callerA [] aY H:=⟨rfl,hM,λb o e=>E1 e,aap (zy _ _),trivial,λb hb=>absurd (show b∈([]:af7) from hb) ab5,aR,.of_eq hg⟩;refine aeB ((F _ V0 (RI VZ)).run callerA [] aY H ⟨[ac_],[]⟩ [ac_] [ac_] _ _ hr e0 (OB aY ac_) (aj2 rfl) (Ir H hO hS)) λr s' h=>?_;cases r with
  |error e=>exact(Tu H e s' h).elim
  |ok fl=>
   cases fl with
   |next=>exact False.elim h
   |brk=>exact False.elim h
   |cont=>exact False.elim h
   |ret u=>
    refine Sy h λv H' os bare un Tw r' q=>?_;have q':axD:=q;subst q';obtain rfl:u=Value.bool true:=r';refine⟨rfl,OldK.of_keep λb o e=>?_,os,bare⟩;cases q:H b with
    |none=>exact un.keep b o e q (by intro z;exact absurd (show b∈([]:af7) from z) ab5) ab5
    |some u=>
     rcases hO b with z|⟨ob,xs,z⟩
     .rw[q]at z;cases z
     .have z2:=un.jg b ob _ z;obtain⟨e1,_⟩:=aR b _ z;obtain⟨e2,_⟩:=Tw b _ z2;rw[e]at e1;cases e1;exact e2
 cases hk:K.lookup a with
 |some o=>
  have e:=KX a o hk;rw[ha]at e;cases e;refine aS (λ_=>none) (λ_=> agR) (.inr ⟨_,vs.toArray,_,hk,rfl,rfl,rfl,by rw[aaq,Tv];exact hl,by simpa using rv⟩) (λb u z=>by have z':(none:Option HO)=some u:=z;cases z') (λb z=>absurd rfl z) λz=>absurd rfl z
 |none=>
  refine aS (λb=>if b=a then some (.dJ {cls:= .type "list",data:= .seq vs.toArray} (aj1 ah7)) else none) (λb=>?_) (akf (amY ⟨{cls:= .type "list",data:= .seq vs.toArray},aC1⟩)) (λb u z=>?_) (λb z=>?_) λ_=>hk
  .by_cases hb:b=a
   .exact .inr ⟨_,_,aav hb⟩
   .exact .inl (aaC hb)
  .by_cases hb:b=a
   .have z':=(aav hb).symm.trans z;cases z';subst hb;exact⟨ha,by rw[aad];exact hl,vs,_,rv,ha⟩
   .have z':=(aaC hb).symm.trans z;cases z'
  .by_cases hb:b=a
   .exact hb
   .exact absurd (aaC hb) z
def Fp{l:ax7}{n k:Nat}{q:ad2}{loose:ae1}{XP:(Str->af9)->Heap->Prop}{YP:World->Heap->Prop}{d:DefRec}{K:Params->aE}{CX:World->BA}{sp:World->Sp}{x:Str}
  (hn:aAH) (RJ:n<=sizeLine) (Oz:asB) (hr:fg k callerA)
  (hY:∀(w:World) (h:Heap),YP w h->aqc)
  (F:∀(w:World) (mg:Str->af9) (fa:Addr) (h:Heap),aqc->aoC->aua->
   ∃fd:akq,(∀(s:ab_) (u:Value),amC)/\
    ∀base:Heap,(K w.params).In base->amT->jE l.prog w aq9 mg base (CX w) k fa fd [x] (sp w))
  (Ir:∀(w:World) (H:Hp) (a:Addr) (ns:aa0),avP->Ky H->cO aq9 H a ah7->sp w [ac_] H (λv _=>axD) λ_ _ _=>False)
  (Tu:∀(w:World) (H:Hp) (s:ab_) (e:Value) (s':ab_),CX w [] H s (λ_ _ _=>False) e s'->False):
  PySem.W.WalkO q loose XP YP l.row.toRowW d [] (λf vs=>ax4):=by
 refine VY.tQ hn Oz λw s₀ aY mg mb fa o pm cd iQ a vs ns G Y ho hd Bt OA Kx hints aI hg=>?_;have KX:=hY w _ Y;exact aa (F w mg fa _ KX G.T.g OA) λfd hb hF=>BK KX G.T.g G.T.b G.T.builtins G.T.nolimit hg Kx hints (aaf aI RJ) hr hF hb (λH hO hS=>Ir w H a ns aI hO hS) λH e s'=>Tu w H aY e s'
noncomputable def dG(s:Stmt):Arguments:=match s with
 | .FunctionDef _ a _ _ _ _ _ _ _ _=>a
 |_=>{posonlyargs:=[],args:=[],vararg:=none,kwonlyargs:=[],kw_defaults:=[],kwarg:=none,defaults:=[]}
noncomputable def bW(s:Stmt):amx:=match s with
 | .FunctionDef _ _ b _ _ _ _ _ _ _=>b
 |_=>[]
noncomputable def az(s:Stmt):Scope:=match s with
 | .FunctionDef _ _ _ _ _ _ sc _ _ _=>sc
 |_=>{kind:= .function,names:=[],isGenerator:=false,isCoroutine:=false}
abbrev zJ:BA:=λ_ _ _ _ _ _=>False
abbrev E0:XK:=λ_ _ _=>False
def BL:vM zJ X E0:=λ_ _ _ _ _ _ _ h=>h.elim
structure IB(K:aE)(x qual:Str)(st:Stmt)(f:Addr)(fd:akq):Prop where
 ex:∃(oc:Value) (od:ahe) (kV iQ pm:Value) (an:ahe) (fA ct:Value) (Fe:aoN),
  fd=PySem.W.fnOf x qual (dG st) (bW st) asE .none kV iQ pm an fA ct/\K.lookup f=some ⟨oc,od,.func fd,Fe⟩/\PySem.W.codeIn K fA qual=true
 kp:PySem.W.keepIn K ano=true
section
variable {P:ad2}{w:World}{K:aE}{mg:Str->Option Value}{base:Heap}{X:Cx}
def IB.ok{x qual:Str}{st:Stmt}{f:Addr}{fd:akq}{N ps:ae1}{k:Nat}{sp:Sp}(F:IB K x qual st f fd)(S:iq N ps asE)(len:∀vs H Q E,aqm->as9)
  (BC:∀(fA:Value) (A:ag0) (outer:apn) (s:ab_) (H:Hp) (vs:ad7) (Q:VK) (E:XK),fg k (A.deeper (envOfC qual asE s.heap.objs.size f fA))->aqm->
   ∃t,mB (vO zJ P w K mg base N qual asE f fA A outer s H E).N7 (bW st) t/\t {nx:=λ_ H'=>Q .cv H',rt:=Q} aoT H):jE P w K mg base zJ (k+1) f fd ps sp:=by
 refine VM F.ex λoc od kV iQ pm an fA ct Fe ak lk Bt=>?_;subst ak;exact Oh lk Bt S len λA outer s H vs Q E hr Ir=>aa (BC fA A outer s H vs Q E hr Ir) λt h q=>⟨t,h.N7,q⟩
def IB.binds{x qual:Str}{st:Stmt}{f:Addr}{fd:akq}{ps:ae1}(F:IB K x qual st f fd)
  (h:∀(kV iQ pm:Value) (an:ahe) (fA ct:Value) (us:ab2),us.length=ps.length->bindArgs ahC ⟨us,[]⟩=pure asy):anO:=by
 refine VM F.ex λoc od kV iQ pm an fA ct Fe ak lk Bt=>?_;subst ak;exact .all (h kV iQ pm an fA ct)
def Kz{x qual:Str}{st:Stmt}{f:Addr}{oc:Value}{od an:ahe}{Fe:aoN}{kV iQ pm fA ct:Value}(l:K.lookup f=some ⟨oc,od,.func ahC,Fe⟩)
  (c:awQ) (k:azB):IB K x qual st f ahC:=⟨⟨oc,od,kV,iQ,pm,an,fA,ct,Fe,rfl,l,c⟩,k⟩
end
def pL{A B:Prop}(h:B):if false=true then A else B:=by
 rw[aaC aai];exact h
def ny{A B:Prop}(h:A):if true=true then A else B:=by
 rw[aav rfl];exact h
def ag(H H':Hp):Prop:=∀b o,H b=some o->H' b=some o
def ag.refl(H:Hp):ag H H:=λ_ _ h=>h
def ag.trans(a:atv)(b:ag H1 H2):ag H H2:=λc o h=>b c o (a c o h)
def ag.seq{K:aE}{H H':Hp}{a:Addr}{xs:ad7}(e:ait)(h:am4):cO K H' a xs:=by
 rcases h with (h|⟨o,h⟩)|h
 .exact .inl (akf (e _ _ h))
 .exact .inl (amY ⟨o,e _ _ h⟩)
 .exact .inr h
end L2
namespace L2
open PySem
theorem jj(env:Env):∀(l:an0) (cs:ajL),(∀y∈l,apK ->∃c,aoE)->
  ∃cl,(forIn l cs λ(x:Str×NameKind) (r:List (Str×Addr))=>if aBJ=true then(do let a<-cellOf env x.1;pure (ajZ ((x.1,a)::r))) else pure aCX:Sem ajL)=pure cl/\
   (∀x c,ahm->cs.lookup x=some c\/(apw/\aDz))/\
   (∀x,aDz\/(∃c,cs.lookup x=some c)->∃c,ahm)
 |[],cs,_=>⟨cs,rfl,λx c h=> .inl h,λx h=>h.elim (λz=>nomatch z) id⟩
 |(n,k)::l,cs,h=>by
  have hl:∀y∈l,apK ->∃c,aoE:=λy hy=>h y ap2;by_cases hk:k= .free
  .subst hk;obtain⟨c,hc⟩:=h (n,.free) aal rfl;refine bF (jj env l ((n,c)::cs) hl) λcl e h1 h2=>⟨cl,?_,λx d hx=>?_,λx hx=>?_⟩
   .rw[ada];simp only[beq_self_eq_true,if_true,cellOf,hc];exact e
   .rcases h1 x d hx with z|⟨z,m⟩
    .rw[adR]at z;by_cases Nl:(x==n)=true
     .rw[Nl]at z;have:x=n:=eq_of_beq Nl;subst this;cases z;exact .inr ⟨hc,aal⟩
     .have e0:(x==n)=false:=by simpa using Nl
      rw[e0]at z;exact .inl z
    .exact .inr ⟨z,aag _ m⟩
   .refine h2 x ?_;rcases hx with hx|⟨d,hd⟩
    .rcases aat.mp hx with e1|hx
     .cases e1;exact .inr ⟨c,by rw[adR,beq_self_eq_true]⟩
     .exact .inl hx
    .by_cases Nl:(x==n)=true
     .exact .inr ⟨c,by rw[adR,Nl]⟩
     .have e0:(x==n)=false:=by simpa using Nl
      exact .inr ⟨d,by rw[adR,e0];exact hd⟩
  .refine bF (jj env l cs hl) λcl e h1 h2=>?_;have hb:(k==NameKind.free)=false:=by simpa using hk
   refine⟨cl,?_,λx d hx=>?_,λx hx=>h2 x ?_⟩
   .rw[ada];simp only[hb,abX,if_false];exact e
   .rcases h1 x d hx with z|⟨z,m⟩
    .exact .inl z
    .exact .inr ⟨z,aag _ m⟩
   .rcases hx with hx|hx
    .rcases aat.mp hx with e1|hx
     .cases e1;exact absurd rfl hk
     .exact .inl hx
    .exact .inr hx
def vX(h:∀y∈sc.names,apK ->∃c,aoE):
  ∃cl,closureFor sc env=pure cl/\(∀x c,ahm->apw/\ad6)/\(∀x,ad6->∃c,ahm):=by
 refine bF (jj env sc.names [] h) λcl e h1 h2=>⟨cl,?_,λx c hx=>(h1 x c hx).resolve_left (λz=>by simp at z),λx hx=>h2 x (akf hx)⟩;have e':closureFor sc env=(forIn sc.names ([]:ajL) λ(x:Str×NameKind) (r:List (Str×Addr))=>if aBJ=true then(do let a<-cellOf env x.1;pure (ajZ ((x.1,a)::r))) else pure aCX:Sem ajL) >>= λr=>pure r:=by
  rfl
 rw[e',e];rfl
section
variable {prog:ad2}{w:World}{A:ag0}{E:Value->Shared->Prop}{R:Result->Shared->Prop}{s:ab_}
def vY(I:Nat->ab_->Prop)
  (turn:∀n s,I n s->wpAny aa4 A (pyNext it) (λr aY=>match r with
   |none=>R aDs aY
   |some v=>wpAny aa4 A (letOwnedTupleGo target it v) (λ_ IC=>wpAny aa4 A (assign target env v) (λ_ m7=>
     wpAny aa4 A (forIn ifs true λc r=>if r=true then do let ok<-isTrue c env (avC c);pure (ajZ ok) else pure aCX) (λok zK=>
      if ok=true then wpAny aa4 A (avC eQ) (λx OC=>
       wpAny aa4 A (call (.builtin "list.append") [acc,x]) (λ_ OD=>∃m,m<n/\I m OD) (λ_ _=>False) OC) (λ_ _=>False) zK
      else∃m,m<n/\I m zK) (λ_ _=>False) m7) (λ_ _=>False) IC) (λ_ _=>False) aY) (λ_ _=>False) s)
  (n:Nat) (h:I n s):
  codeAny aa4 A (.compLoop aov 0 it acc env) R s:=by
 refine codeAny_loop rfl I (λn s hI=>?_) n h;show wpAny _ A ((compTurn aov 0 it acc env).onRaise (λx=>do noteFrame x env;theTreesLotGoes x)) _ _ s;refine wpAny_noted ?_;rw[compTurn_list];refine aaa (afC (aaa (aco (turn n s hI) (λr aY Fq=>?_) λ_ _ h'=>aAM)));cases r with
 |none=>exact aaj Fq
 |some v=>
  refine aaa (aco Fq (λ_ IC OF=>?_) λ_ _ h'=>aAM);refine aaa (aco OF (λ_ m7 BM=>aaa (aco BM (λok zK Fs=>?_) λ_ _ h'=>aAM)) λ_ _ h'=>aAM);cases ok with
  |false=>exact aaj ⟨rfl,Fs⟩
  |true=>
   exact aaa (aaa (aco Fs (λx OC Tx=>aaa (aco Tx (λ_ OD Tz=>aaj (aaj ⟨rfl,Tz⟩)) λ_ _ h'=>aAM)) λ_ _ h'=>aAM))
end
end L2
set_option maxHeartbeats 4000000
namespace L2
open PySem PySem.Spec PyProof.Rows
def Inv.ID(I:aa3)(h:aAV):∃(its:ab2) (n:Nat),anq/\xs.length=its.length/\s.heap.get? a=some {cls:= .type "list",data:= .seq its.toArray n}/\ah6:=by
 rcases h with h|⟨o,its,n,hk,hc,hd,hs,hz,r,RK⟩
 .obtain⟨z,its,n,r,e⟩:=h.ok I.aR;exact⟨its,n,r,r.length,e,z⟩
 .refine⟨its.toList,n,r,r.length,?_,?_⟩
  .rw[I.Ik a o hk];obtain⟨c,d,dt,sl⟩:=o;simp only at hc hd hs RK;subst hc hd hs RK;simp
  .have e:=r.length;simp only[aaG]at e;exact aaf (aap e) hz
theorem RL{env:Env}:∀{names:an0}{x:Str},(names.map λ(n,k)=>if(k==NameKind.free&&env.scope.kind == .function&&env.kindOf n==some .cell) then(n,aoj) else(n,k)).lookup x=
  (names.lookup x).map λk=>if(k==NameKind.free&&env.scope.kind == .function&&env.kindOf x==some .cell)=true then NameKind.cell else k
 |[],_=>rfl
 |(n,k)::r,x=>by
  rw[aaK];show List.lookup x ((if(k==NameKind.free&&env.scope.kind == .function&&env.kindOf n==some .cell)=true then(n,aoj) else(n,k))::_)=_;cases hx:x==n with
  |true=>
   cases eq_of_beq hx;rw[aga,adB];split<;>exact aga
  |false=>split<;>simp only[adR,hx]<;>exact RL
def iR{sc:Scope}(h:sc.names.lookup x=some .free):(relabel sc env).names.lookup x=some .cell \/(relabel sc env).names.lookup x=some .free :=by
 refine(show _=_ from RL)▸?_;rw[h,adB];split
 .exact .inl rfl
 .exact .inr rfl
def lW(hk:kd= .cell \/kd= .free)(h:(relabel sc env).names.lookup x=some kd):ad6\/ahO:=by
 rw[show(relabel sc env).names.lookup x=_ from RL]at h;obtain⟨k,h1,h2⟩:=abY.mp h;have:=abz h1;cases k with
 |free=>exact .inl this
 |cell=>exact .inr this
 |_=>simp at h2;subst h2;rcases hk with z|z<;>cases z
theorem nA:∀{names:an0}{n:Nat}{acc:ajL},cellsFrom n names acc=cellsFrom n names []++acc
 |[],_,_=>rfl
 |(x,k)::r,n,acc=>by
  unfold cellsFrom;split
  .rw[nA,nA (acc:=[(x,n)]),aaL];rfl
  .exact nA
theorem q_:∀{names:an0}{n:Nat},(∀x c,(x,c)∈cellsFrom n names []->(x,aoj)∈names)/\∀x,(x,aoj)∈names->∃c,(cellsFrom n names []).lookup x=some c
 |[],_=>⟨λ_ _ h=>(nomatch h),λ_ h=>nomatch h⟩
 |(y,k)::r,n=>by
  unfold cellsFrom;split
  .rename_i hk;cases eq_of_beq hk;rw[nA];obtain⟨a,b⟩:=@q_ r (n+1);refine⟨λx c h=>?_,λx h=>?_⟩
   .rcases aay.mp h with z|z
    .exact aag _ (a x c z)
    .cases aak.mp z;exact aal
   .rw[aff];cases q:(cellsFrom (n+1) r []).lookup x with
    |some c=>exact⟨c,rfl⟩
    |none=>
     rcases aat.mp h with z|z
     .cases z;exact⟨n,by simp⟩
     .obtain⟨c,hc⟩:=b x z;rw[q]at hc;cases hc
  .rename_i hk;obtain⟨a,b⟩:=@q_ r n;refine⟨λx c h=>aag _ (a x c h),λx h=>?_⟩;rcases aat.mp h with z|z
   .cases z;exact absurd rfl hk
   .exact b x z
def zL(X:Cx)(ifs:ag7)(t:TT):Prop:=
 ∀(U:aa8) (s:ab_) (σ:St) (H:Hp) (Q:Bool->Hp->Prop),aa3->aql->
  wpAny aa7 X.A (forIn ifs true λc r=>if r=true then do let ok<-isTrue c X.env (ajY c);pure (ajZ ok) else pure aCX) atx X.xe s
theorem p8:∀(cs:ag7),(forIn cs false λc r=>if r=true then do let ok<-isTrue c env (avC c);pure (ajZ ok) else pure aCX:Sem Bool)=pure false
 |[]=>rfl
 |c::cs=>by
  rw[ada,aaC aai];exact p8 cs
section
variable {X:Cx}
def Ft:zL X [] (λσ H Q=>Q true H):=λ_ _ _ H _ I h=>aaj ⟨H,I,h⟩
def BN(h:PT X c t)(hr:zL X cs u):zL X (c::cs) (N2 t u):=by
 intro U s σ H Q I hw;rw[ada,aav rfl];refine aaa (aaa (bG an_ λb s1 zz=>aa zz λH1 I1 q1=>aaj ?_));cases b with
 |true=>exact hr U s1 σ H1 Q I1 q1
 |false=>
  show wpAny _ _ (forIn cs false _) _ _ _;rw[p8];exact aaj ⟨H1,I1,q1⟩
noncomputable def jL(fr:ahj)(σ:St):St:=fr.map λi=>(σ[i]?).join
noncomputable def iS(X:Cx)(sc:Scope)(cl:ajL)(C:Addr)(N:ae1)(U:aa8)(s:ab_)(H:Hp)(ex:af7):Cx:=
 {X with N:=N,s₀:=s,H₀:=H,env:=compEnvC sc cl C X.env,outer:=X.stack,ex:=ex,fn:=λx=>decide ahO,pn:=X.pn++U,xe:=λ_ _=>False}
structure KA(N:ae1)(EL:Scope)(sc:Scope)(N':ae1)(k:Nat)(fr:ahj):Prop where
 kind:sc.kind= .function
 apart:∀y∈sc.names,apK ->(y.1,aoj)∉sc.names
 loc:∀y∈sc.names,y.2= .local ->sc.names.lookup y.1=some .local
 free:∀y∈sc.names,apK ->awg \/EL.names.lookup y.1=some .free
 len:N'.length=k+fr.length
 X3:∀j x,N'[k+j]?=some x->∃i,fr[j]?=some i/\N[i]?=some x/\sc.names.lookup x=some .free
def p9(k:Nat)(fr:ahj)(wi:TI)(g:TG)(tt:TT)(te:TE):TE:=λσ H Q=>wi σ H λJ H1=>
 ∀p,ak9->∃W:Nat->Nat->Hp->Prop,(∃m,azz)/\∀i m H,W i m H->
  (aAm/\Q ahg H)\/
  (aBg/\∀x H',aqy->g x agX H' λA_ H2=>tt A_ H2 λb H3=>
   if b=true then te A_ H3 λv H4=>∃xs m',H4 p=some agN/\at5/\m'<m/\W (i+1) m' axd
   else∃m',m'<m/\W (i+1) m' H3)
def rf(k:Nat)(g:TG):Prop:=∀x σ H Q,g x σ H Q->g x σ H λA_ H2=>Q A_ H2/\A_.length=σ.length/\∀i,k<=i->A_[i]?=σ[i]?
def BO(I:aa3)(S:aiu)
  (h1:∀x c,ahm->ab9/\ad6\/ahO/\s.heap.objs.size<c/\s4.heap.IsCell c none) (h2:∀x,ad6\/ahO->∃c,ahm)
  (inj:∀x y c,ahm->cl.lookup y=some c->x=y) (RM:∀b∈fp,avj) (bj:∀b∈fp,b<s.heap.objs.size) (os:s4.os=s.os) (gens:s4.gens=s.gens) (keep:∀b o,ab4->s4.heap.get? b=some o)
  (ns:s4.heap.Ns s.heap.objs.size m):
  Inv (iS X sc cl s.heap.objs.size N' U s H fp) [] agX H s4:=by
 have kx:∀x,ad6->azy \/azx :=λx hx=>S.free (x,.free) hx rfl;have IE:∀x c v,ab9->s.heap.IsCell c v->s4.heap.IsCell c v:=λx c v _ ⟨o,ho,hd⟩=>⟨o,keep c o ho,hd⟩;refine⟨⟨I.ok.mod,S.kind,I.ok.glob,I.ok.blt,aam _,inj,λx hx=>?_,λx c hf hx=>?_,I.ok.hd,I.ok.frames,agR,λb hb=>⟨?_,λx c hx=>?_⟩,I.bs,aaf I.ok.Bq I.sz,λb o e hb=>?_,λb hb=>?_,I.stack,I.wY⟩,
  os,by rw[gens];exact I.bare,Un.kept keep,⟨m,ns,λi x v e1 e2 e3=>?_⟩,λx c hx=>?_,I.fresh,λx c hx=>?_,λp hp=>?_,I.aR.kept keep,?_⟩
 .rcases hx with hx|hx
  .exact h2 x (lW agR hx)
  .exact h2 x (lW aA1 hx)
 .rcases h1 x c hx with z|z
  .exact absurd (aqK hf) (S.apart _ z.2 rfl)
  .exact aaE z.2.1
 .exact aaJ (bj b hb)
 .rcases h1 x c hx with z|z
  .exact(RM b hb).2.2.2.2.1 x c z.1
  .exact afZ (adi (bj b hb) z.2.1)
 .rcases (RM b hb).2.2.2.1 with z|z
  .exact I.ok.Br b o e z
  .exact absurd (aah (aah ajc I.ok.Bq) z) amK
 .intro iY;rcases aat.mp (I.m6 b iY)with z|z
  .exact(RM b hb).2.1 z
  .exact(RM b hb).2.2.1 z
 .by_cases hi:i<k
  .rw[abp (by simpa using hi),aeI hi]at e2;cases e2
  .have gM:k<=i:=aaS hi;rw[abt (by simpa using gM),adz]at e2;have pA:N'[k+(i-k)]?=some x:=by rw[Nat.add_sub_cancel' gM];exact e1
   refine bF (S.X3 (i-k) x pA) λj f1 f2 f3=>?_;unfold jL at e2;rw[aau,f1]at e2;have Fu:(σ[j]?).join =some v:=by simpa using e2
   have TB:σ[j]?=some amJ:=by
    cases q:σ[j]? with
    |none=>rw[q]at Fu;cases Fu
    |some y=>rw[q]at Fu;simp at Fu;rw[Fu]
   refine aa I.loc λmo vy Kw=>?_;have X4:ah0:=by
    rcases kx x (abz f3)with z|z
    .exact .inr aCV
    .exact .inr (amY z)
   refine aa (Kw j x v f2 TB X4) λu r l=>⟨u,r,?_⟩;rcases l with⟨z,_⟩|⟨_,c,hc,w6⟩
   .rcases kx x (abz f3)with y|y
    .rw[y]at z;cases z
    .rw[y]at z;cases z
   .obtain⟨c',kJ⟩:=h2 x (akf (abz f3));have ec:=(h1 x c' kJ).resolve_right λz=>S.apart _ (abz f3) rfl z.1;cases hc.symm.trans ec.1;refine .inr ⟨?_,c,kJ,IE x c _ hc w6⟩;have vz:wX (relabel sc X.env) x:=e3;rcases vz with z|z|z
    .rcases iR (env:=X.env) f3 with y|y<;>cases y.symm.trans z
    .exact .inl z
    .exact .inr z
 .rcases h1 x c hx with y|y
  .obtain⟨v,z⟩:=I.cell x c y.1;exact⟨v,IE x c v y.1 z⟩
  .exact⟨_,y.2.2⟩
 .rcases h1 x c hx with y|y
  .exact I.gu x c y.1
  .exact I.aR.fresh (aaE y.2.1)
 .have IF:p∈X.pn++U:=by simpa[iS]using hp
  refine NL (I.pin p IF) λe n ne nf d=>⟨keep _ _ e,n,ax0,λz=>?_,d⟩;rcases aat.mp (I.m6 p.1 z)with y|y
  .exact ne y
  .exact nf y
 .show _=N'.length;rw[S.len,aan,adz];unfold jL;rw[aad]
def OG(X:Cx)(U:aa8)(H:Hp)(C:Addr):Prop:=
 H C=none/\C≠X.env.locals/\X.s₀.heap.objs.size<=C/\(∀x c,ab9->c≠C)/\∀p∈X.pn++U,p.1≠C
def Inv.OH(I:aa3)(h:OG X U H C)(hs:Heap.SameBut C s.heap h'):Inv X U σ H {s with heap:=h'}:=by
 exact NL h λa b c d e=>I.turned (t':=s.toks) (it:=C) (λb o hb q=>(hs.2 b hb).trans q) a b (amY c) d e
theorem p_
  {g:TG}{tt:TT}{te:TE}{E:Value->Shared->Prop}{Qe:Addr->Hp->Prop}{RR:Value->Addr->Result->Shared->Prop}
  (I2:Inv X U σ H1 s2) (T:avg) (cW:tn 0 s2.heap) (f2:∀b∈fp,kP X U H1 b) (S:aiu) (hc:agH)
  (h1:∀x c,ahm->ab9/\ad6) (h2:∀x,ad6->∃c,ahm) (gk:rf k g)
  (KC:∀cl C s H ex,PG ae7 tg g/\aAx/\aDe)
  (hW:∀p,ak9->∃W:Nat->Nat->Hp->Prop,(∃m,azz)/\∀i m H,W i m H->
   (aAm/\Qe p H)\/
   (aBg/\∀x H',aqy->g x agX H' λA_ H2=>tt A_ H2 λb H3=>
    if b=true then te A_ H3 λv H4=>∃xs m',H4 p=some agN/\at5/\m'<m/\W (i+1) m' axd
    else∃m',m'<m/\W (i+1) m' H3))
  (X5:∀a C s' H',aiv->OG X U H' C->(∃m,s'.heap.Ns C m)->Qe a H'->RR ac_ C aDs s'):
  wpAny aa7 X.A (newList []) (λacc s3=>wpAny aa7 X.A (newFunctionEnv sc X.env.globals cl [] X.env.qual none .none (ajU X.env)) (λOI s4=>
   codeAny aa7 X.A (.compStart agO 0 ae5 acc {OI with scope:=relabel sc X.env}) (RR acc OI.locals) s4) E s3) E s2:=by
 have hD:H1 s2.heap.objs.size=none:=I2.fresh;obtain⟨W,⟨m0,w0⟩,turn⟩:=hW _ hD;have IG:∀b∈fp,ato:=λb hb=>by
  exact aa (aBD cW) λo e _=>aaz e
 refine abg ?_ ao6;have I3:Inv X U σ asr {s2 with heap:=s2.heap.push {cls:= .type "list",data:= .seq ([]:ab2).toArray}}:=I2.Oy (ys:=[]) (its:=[]) (t':=s2.toks) .nil ao6;have IH:∀b o,aCi->(s2.heap.push {cls:= .type "list",data:= .seq ([]:ab2).toArray}).get? b=some o:=λb o e=>aab _ e;have ne:∀b∈fp,b≠s2.heap.objs.size:=λb hb=>aaJ (IG b hb);have f3:∀b∈fp,kP X U asr b:=λb hb=>⟨by rw[aq (ne b hb)];exact(f2 b hb).1,(f2 b hb).2⟩;have Fv:∀b∈fp,b<(s2.heap.push {cls:= .type "list",data:= .seq ([]:ab2).toArray}).objs.size :=λb hb=>by
  rw[acj];exact acg (IG b hb)
 have kQ:tn 0 (s2.heap.push {cls:= .type "list",data:= .seq ([]:ab2).toArray}):=T.keep _ _ _ cW λb _ o e=>IH b o e;generalize X6:({s2 with heap:=s2.heap.push {cls:= .type "list",data:= .seq ([]:ab2).toArray}}:ab_)=s3 at *;have X7:s3.heap=s2.heap.push {cls:= .type "list",data:= .seq ([]:ab2).toArray}:=by rw[<-X6]
 rw[<-X7]at IH Fv kQ;simp only[newFunctionEnv,agz,if_true];refine aaa (wpAny_alloc (aaa (wpAny_layCells _ (λname kind cells=>by cases X8:kind==NameKind.cell<;>simp[X8]) _ _ _ _ ?_)));have ok:=cellsFrom_ok sc.names (s3.heap.push {cls:= .type "dict",data:= .dict #[]}) ai2 [] ⟨λ_ _ hm=>(nomatch hm),List.Pairwise.nil⟩ (by rw[acj];exact aam _);rw[acj]at ok;rw[show({s3 with heap:=s3.heap.push {cls:= .type "dict",data:= .dict #[]}}:ab_).heap.objs.size =s3.heap.objs.size+1 from acj ..,nA];refine aaa (aaj (aaj ?_));have II:∀b o,s3.heap.get? b=some o->(pushCells (s3.heap.push {cls:= .type "dict",data:= .dict #[]}) sc.names).get? b=some o:=λb o e=>pushCells_keeps _ _ b o ail;have X9:=(Heap.Ns.new s3.heap (.type "dict")).keeps (pushCells_keeps sc.names _);have g1:∀x c,agT->ab9/\ad6\/(x,c)∈cellsFrom ai2 sc.names []:=λx c e=>by
  rw[aff]at e;cases q:(cellsFrom ai2 sc.names []).lookup x with
  |some c'=>rw[q]at e;cases e;exact .inr (abz q)
  |none=>rw[q]at e;exact .inl (h1 x c e)
 have g2:∀x,ad6\/ahO->∃c,agT:=λx e=>by
  rw[aff];cases q:(cellsFrom ai2 sc.names []).lookup x with
  |some c=>exact⟨c,rfl⟩
  |none=>
   rcases e with z|z
   .exact h2 x z
   .obtain⟨c,hc⟩:=q_.2 x z;cases q.symm.trans hc
 have V1:∀x c,ab9->c<s3.heap.objs.size:=λx c e=>by
  obtain⟨v,z⟩:=I3.cell x c e;exact z.lt
 have gj:∀x y c,agT->(cellsFrom ai2 sc.names []++cl).lookup y=some c->x=y:=λx y c e1 e2=>by
  rcases g1 x c e1 with a|a<;>rcases g1 y c e2 with b|b
  .exact I3.ok.inj x y c a.1 b.1
  .exact absurd (adi (V1 x c a.1) (ok.empty y c b).2) amK
  .exact absurd (adi (V1 y c b.1) (ok.empty x c a).2) amK
  .exact name_of_addr ok.apart a b
 have g3:∀x c,agT->ab9/\ad6\/ahO/\s3.heap.objs.size<c/\(pushCells (s3.heap.push {cls:= .type "dict",data:= .dict #[]}) sc.names).IsCell c none:=λx c e=>(g1 x c e).imp_right λz=>⟨q_.1 x c z,(ok.empty x c z).2,(ok.empty x c z).1⟩;clear ok g1 h1 h2;generalize cellsFrom ai2 sc.names []++cl=cl at *;generalize pushCells (s3.heap.push {cls:= .type "dict",data:= .dict #[]}) sc.names=h4 at *;generalize eH:upd H1 s2.heap.objs.size (aj1 [])=H3 at *;generalize eD:s2.heap.objs.size=D at *;have J4:Inv ad8 [] agX H3 {s3 with heap:=h4,toks:=s3.toks}:=
  BO (s4:={s3 with heap:=h4,toks:=s3.toks}) I3 S g3 g2 gj f3 Fv rfl rfl II X9
 have RN:tn 0 h4:=T.keep _ _ _ kQ λb _ o e=>II b o e;refine cY (KC cl s3.heap.objs.size s3 H3 fp) λpg pt pe=>?_;have vK:∀{H':Hp},(∀b∈fp,aoL)->∀b∈fp,kP ad8 [] H' b:=λ{H'} hn b hb=>by
  refine sW (f3 b hb) λ_ a1 a2 a3 a4 a5=>?_;refine⟨hn b hb,aaJ (Fv b hb),λz=>?_,.inl hb,λx c hx=>(g3 x c hx).elim (λz=>a4 x c z.1) λz=>afZ (adi (Fv b hb) z.2.1),λp hp=>a5 p (by simpa[iS]using hp)⟩;rcases aat.mp (I3.m6 b z)with y|y
  .exact a1 y
  .exact a2 y
 have fin:∀{s':ab_}{H':Hp},Inv ad8 [] agX H' s'->Qe D H'->RR aCW s3.heap.objs.size aDs s':=λ{s' H'} J5 q=>by
  refine X5 D s3.heap.objs.size s' H' ?_ ⟨J5.free,(aaJ I3.lt).symm,I3.sz,λx c hx z=>?_,λp hp z=>?_⟩ (let ⟨m,hn,_⟩:=J5.loc;⟨m,hn⟩) q
  .exact I3.N0 (ch:=fp) J5.os J5.base J5.aR J5.bare λb hb=>let ⟨_,a1,a2,a3,a4,a5⟩:=f3 b hb;⟨a3,a1,a4,a5⟩
  .exact eO (I3.cell x c hx) λv o ho _=>absurd (aaz ho) (by rw[z];exact abo _)
  .exact absurd (aaz (I3.pin p hp).1) (by rw[z];exact abo _)
 have loop:∀s5:ab_,s5={s3 with heap:=h4,toks:=s3.toks}->codeAny aa7 X.A (.compLoop agO 0 ae5 aCW (compEnvC sc cl s3.heap.objs.size X.env)) (RR aCW s3.heap.objs.size) s5:=by
  rintro s5 rfl;refine vY (λn s'=>∃i H',Inv ad8 [] agX H' s'/\tn i s'.heap/\(∀b∈fp,aoL)/\W i n H') ?_ m0 ⟨0,H3,J4,RN,λb hb=>(f3 b hb).1,w0⟩;rintro n s5 ⟨i,H5,J5,By,RD,w5⟩;rcases turn i n H5 w5 with⟨stop,qn⟩|⟨go,step⟩
  .refine bG (T.done ad8 rfl rfl rfl hc i [] s5 _ H5 (λ_ _=>False) J5 (vK RD) By stop) λr s6 zz=>?_;obtain⟨hr,J6⟩:=zz;subst hr;exact fin J6 qn
  .refine bG (T.item ad8 rfl rfl rfl hc i [] s5 _ H5 (λ_ _=>False) J5 (vK RD) By go) λr s6 zz=>aa zz λu hr h6=>?_;subst hr;refine bG h6 λ_ s7 zz=>kH zz λx H7 J7 r7 y7 TC X_=>?_;have X':=J7.pinned (vK X_) (T.obj _ _ TC);refine bG (pg _ s7 _ H7 x u _ X' r7 (gk _ _ _ _ (step x H7 y7))) λ_ s8 zz=>il zz λRO H8 J8 q8 l8 k8=>?_
   have back:∀{s9:ab_}{H9:Hp}{m:Nat},Inv ad8 ([]++m9 fp s7.heap) RO H9 s9->m<n->W (i+1) m H9->
     ∃m,m<n/\∃i H',Inv ad8 [] agX H' s9/\tn i s9.heap/\(∀b∈fp,aoL)/\W i m H':=λ{s9 H9 m} J9 hm w9=>by
    refine⟨m,hm,i+1,H9,(J9.jD).weak l8.symm λj v e=>?_,T.keep _ _ _ TC λb hb o e=>(J9.pin (b,o) aly).1,λb hb=>?_,w9⟩
    .by_cases hj:j<k
     .rw[abp (by simpa using hj),aeI hj]at e;cases e
     .rw[k8 j (aaS hj)];exact e
    .exact aa (aBD TC) λo e _=>(J9.pin (b,o) aly).2.1
   refine bG (pt _ s8 RO H8 _ J8 q8) λb s9 zz=>aa zz λH9 J9 q9=>?_;cases b with
   |false=>
    rw[aaC aai]at q9⊢;exact aa q9 λm' hm w'=>back J9 hm w'
   |true=>
    rw[aav rfl]at q9⊢;refine bG (pe _ s9 RO H9 _ J9 q9) λy Ya zz=>?_;obtain⟨v,TF,Yb,Yc,xs,m',hx,hl,hm,w'⟩:=zz;refine bG (p7 _ Ya RO TF aCW [v] aCW [y] (λ_ TH=>∃m',m'<n/\W (i+1) m' TH) Yb rfl (aj2 Yc) ⟨D,xs,v,rfl,rfl,hx,hl,m',hm,w'⟩) λ_ KD zz=>?_;obtain⟨_,TH,Yd,_,m'',zM,Ye⟩:=zz;exact back Yd zM Ye
 exact codeAny_compStart_list (loop _ rfl) (T.self X.A 0 _ _ _ RN (loop _ rfl))
def tR(I:aa3)(S:aiu):
  ∃cl,closureFor sc X.env=pure cl/\(∀x c,ahm->ab9/\ad6)/\(∀x,ad6->∃c,ahm):=
 vX λy hy hf=>I.ok.has y.1 (S.free y hy hf)
def xj(hi:ax9)(S:aiu)(hc:agH)(gk:rf k g)
  (KC:∀cl C U s H ex,PG ae7 tg g/\aAx/\aDe)
  (hs:∀x,aiA):PE X agO aBM:=by
 intro U s σ H Q I h;refine bF (tR I S) λcl TJ h1 h2=>?_;rw[eval_ListComp];refine afp (use:=none) (g:=⟨tg,iter,ifs,0⟩) (gs:=[]) rfl hs TJ S.kind S.loc<|bG (hi U s σ H _ I h) λv s1 q1=>bG q1 λRB s2 q2=>VI q2 λit fp tn J H2 e I2 T cW f2 hW=>?_;subst e;refine p_ (Qe:=λp H=>Q ahg H) (RR:=λacc C=>compPost aa7 X.A X.xe none ah_ acc C) I2 T cW f2 S hc h1 h2 gk (λcl C s H ex=>KC cl C U s H ex) hW ?_;intro a C s' H' I' off ⟨m,hn⟩ q;exact⟨m,hn,λh' vA=>⟨ac_,H',I'.OH off vA,rfl,q⟩⟩
def nB(hi:ax9)(S:aiu)(hc:agH)(gk:rf k g)
  (KC:∀cl C U s H ex,PG ae7 tg g/\aAx/\aDe)
  (hs:∀x,aiA) (hN:amr) (hj:X.N[j]?=some y) (hy:X.env.scope.names.lookup y=some .local)
  (Yf:swapsWith agO (ajU al8) TK.line X.env=pure true):
  PS X (.Assign [al8] agO TK) (pG aBM (cQ j)):=by
 intro U s σ H D I h;refine bF (tR I S) λcl TJ h1 h2=>?_;rw[exec_Assign_Name_used _ _ _ _ Yf];refine aaa (afC (aaa ?_));show wpAny _ _ (do let _<-comprehension agO sc X.env _ (newList []) false (ajY iter) (ajU atp)) _ _ s;refine aaa (aco (afp (g:=⟨tg,iter,ifs,0⟩) (gs:=[]) (use:=some atp) (Q:=λ_ s'=>SP X U D .next s') rfl hs TJ S.kind S.loc ?_) (λ_ s' hq=>aaj (aaj hq)) λ_ _ e=>e);refine bG an7 λv s1 q1=>bG q1 λRB s2 q2=>VI q2 λit fp tn J H2 e I2 T cW f2 hW=>?_;subst e;refine p_ (Qe:=λp H=>D.nx (σ.set j (ajU ahg)) H) (RR:=λacc C=>compPost aa7 X.A X.xe (ajU atp) (λ_ s'=>SP X U D .next s') acc C) I2 T cW f2 S hc h1 h2 gk (λcl C s H ex=>KC cl C U s H ex) hW ?_;intro a C s' H' I' off ⟨m,hn⟩ q;show wpAny _ _ (assign al8 X.env ac_) _ _ _;refine wpAny_assign_Name (pX I' hN hj (akf hy) (v:= .ref a) rfl (λOf Yg sb=>?_) (amY hy));refine aa sb λb hb iY=>?_;have Yh:C≠b:=by
  rintro rfl;rcases iY with z|z
  .exact off.2.1 z
  .exact off.2.2.2.1 _ _ z rfl
 exact⟨m,hn.sameBut hb Yh,λh' vA=>⟨_,H',Yg.OH off vA,q⟩⟩
end
end L2
namespace br
noncomputable def bB:aa0->aa0->Bool
 |[],[]=>false
 |[],_::_=>true
 |_::_,[]=>false
 |n::u,m::v=>if n=m then bB u v else decide (n<m)
noncomputable def zN(x:aa0):aa_->List aa0
 |[]=>[x]
 |y::r=>if bB y x then y::zN x r else x::y::r
noncomputable def aZ:aa_->List aa0
 |[]=>[]
 |x::r=>zN x (aZ r)
noncomputable def iT:aa0->aa_->List Int
 |a,[]=>a
 |a,b::r=>iT (if bB b a then b else a) r
end br
namespace S2
noncomputable def gN(L:aa_)(x:aa0):aa_:=if x∈L then L else L++[x]
noncomputable def iZ(l:aa_):aa_:=l.foldl gN []
end S2
namespace Py
open PySem
set_option genInjectivity false
inductive D where
 |cv|bl (b:Bool)|int (i:Int)|tup (xs:ac1)|lst (xs:ac1)
  |bA (t:Nat) (ks:aa_) (vs:ac1)
 deriving Inhabited
noncomputable def bX:Nat:=16777216
mutual
noncomputable def pB:D->D->Bool
 | .cv,b=>match b with| .cv =>true| .bA _ _ _=>true|_=>false
 | .bl x,b=>match b with| .bl y=>x==y| .int j=>(if x then 1 else 0)==j|_=>false
 | .int i,b=>match b with| .bl y=>i==(if y then 1 else 0)| .int j=>i==j|_=>false
 | .tup xs,b=>match b with| .tup ys=>A' xs ys|_=>false
 | .lst xs,b=>match b with| .lst ys=>A' xs ys|_=>false
 | .bA _ _ _,b=>match b with| .cv =>true| .bA _ _ _=>true|_=>false
noncomputable def A':ac1->ac1->Bool
 |[],ys=>match ys with|[]=>true|_=>false
 |x::xs,ys=>match ys with|[]=>false|y::ys=>pB x y&&A' xs ys
end
mutual
noncomputable def aG:D->Bool
 | .tup xs=>aX xs
 | .lst _=>false
 | .bA _ _ _=>false
 |_=>true
noncomputable def aX:ac1->Bool
 |[]=>true
 |x::xs=>aG x&&aX xs
end
mutual
noncomputable def gI:D->Nat->Bool
 | .tup xs,n=>match n with|0=>false|n+1=>eJ xs n
 | .lst xs,n=>match n with|0=>false|n+1=>eJ xs n
 | .bA _ _ _,_=>false
 |_,_=>true
noncomputable def eJ:ac1->Nat->Bool
 |[],_=>true
 |x::xs,n=>gI x n&&eJ xs n
end
theorem kS(n:Nat):∀ns:aa0,eJ ay2 n=true
 |[]=>by simp[eJ]
 |i::ns=>by simp[eJ,gI,kS n ns]
noncomputable def nC:D->Bool
 | .bA t _ _=>t==2
 |_=>false
@[simp] def KG:D->Bool
 | .bA _ _ _=>false
 |_=>true
inductive vZ where
 |len|tuple|list|min|sorted|all
 deriving DecidableEq,Inhabited
inductive V2 where
 |index|rg
 deriving DecidableEq,Inhabited
inductive E where
 |nil|cons (a r:E)
 |var (i:Nat)
 |c (d:D)
 |bin (o:Operator) (a b:E)
 |cmp (o:CmpOp) (a b:E)
 |BP (k:Bool) (es:E)|not (a:E)
 |tup (es:E)|lst (es:E)
 |idx (a i:E)
 |sl (a lo hi:E)
 |call (f:Nat) (es:E)
 |prim (p:vZ) (es:E)
 |fj (m:V2) (o:E) (es:E)
 |comp (fr:ahj) (tg:Nat) (it ifs eQ:E)
 |gJ (es:E)|Ba (a:E)|it (a:E)
 |sX (p:vZ) (es:E)
  |nD (i:Nat) (k:E)
 |zO (neg:Bool) (k:E) (i:Nat)
  |i6 (i:Nat)
 |dk (i:Nat)|dv (i:Nat)
  |Nm (a:E)
  |sset (a:E)
 deriving Inhabited
noncomputable abbrev E.u(i:Nat):E:= .cons atF .nil
noncomputable abbrev E.w(i:Nat)(r:E):E:= .cons atF r
abbrev Env:=List aa9
abbrev FT:=Nat->ac1->Option D
noncomputable def rd(b:Bool)(ρ:Env)(i:Nat):ahN:=
 match ρ[i]? with
 |some (some (o,d))=>if o&&!(b&&KG d) then none else some d
 |_=>none
noncomputable def rh(ρ:Env)(i:Nat):Bool:=
 match ρ[i]? with
 |some (some (o,_))=>o
 |_=>false
noncomputable def rj(ρ:Env):E->Bool
 | .cons (.var i) r=>rh ρ i||rj ρ r
 | .cons _ r=>rj ρ r
 |_=>false
noncomputable def nE(i j:Int):Bool:=(decide (-(2 ^ 64)<i)&&decide (i<2 ^ 64))||(decide (-(2 ^ 64)<j)&&decide (j<2 ^ 64))
noncomputable def bin(o:Operator)(x y:D):ahN:=
 match o with
 | .Add =>match x,y with
  | .int i,.int j=>some aCT
  | .lst a,.lst b=>if a.length+b.length<=bX then some (aj1 (a++b)) else none
  | .tup a,.tup b=>if a.length+b.length<=bX then some (akb (a++b)) else none
  |_,_=>none
 | .Mult =>match x,y with
  | .int i,.int j=>if nE i j then some (amh (i*j)) else none
  |_,_=>none
 | .FloorDiv =>match x,y with
  | .int i,.int j=>if 0<j/\j<1073741824 then some (amh (i/j)) else none
  |_,_=>none
 | .Mod =>match x,y with
  | .int i,.int j=>if 0<j then some (amh (i%j)) else none
  |_,_=>none
 |_=>none
noncomputable def aJ:ac1->Option aa0
 |[]=>some []
 | .int i::r=>(aJ r).map (i:: ·)
 |_::_=>none
noncomputable def eU:ac1->Option apB
 |[]=>some []
 | .bl b::r=>(eU r).map (b:: ·)
 |_::_=>none
noncomputable def c_(t:Nat)(x:D):Option aa0:=
 match x with
 | .int i=>if t=0 then some [i] else none
 | .tup xs=>if t=0 then none else aJ xs
 |_=>none
noncomputable def iU:aa_->ac1->aa0->Option D
 |k::ks,v::vs,x=>if k=x then some v else iU ks vs x
 |_,_,_=>none
abbrev V3:=Nat×List aa0×List D
noncomputable def gv(ρ:List aa9)(i:Nat):Option V3:=
 match ρ[i]? with
 |some (some (_,.bA t ks vs))=>if t=2 then none else some (t,ks,vs)
 |_=>none
noncomputable def keysAt(ρ:List aa9)(i:Nat):alm:=
 match ρ[i]? with
 |some (some (false,.bA 0 ks _))=>some (ks.map λk=> .int ahG)
 |_=>none
noncomputable def rk(ρ:List aa9)(i:Nat):alm:=
 match ρ[i]? with
 |some (some (false,.bA 0 _ vs))=>some vs
 |_=>none
noncomputable def gw(ρ:List aa9)(i:Nat):alm:=
 match ρ[i]? with
 |some (some (_,.lst xs))=>some xs
 |_=>none
noncomputable def BQ(t:Nat):ac1->Option D
 |[k,v]=>(c_ t k).map λx=> .bA t [x] [v]
 |_=>none
noncomputable def cmp(o:CmpOp)(x y:D):alP:=
 match o with
 | .Eq =>if gI x 60&&gI y 60 then some (pB x y) else none
 | .NotEq =>if gI x 60&&gI y 60 then some (!pB x y) else none
 | .IsNot =>match y with| .cv =>some (match x with| .cv =>false|_=>true)|_=>none
 | .NotIn =>match y with
  | .lst ys=>if gI x 60&&gI y 60 then some (!ys.any λz=>pB z x) else none
  | .tup ys=>if gI x 60&&gI y 60 then some (!ys.any λz=>pB z x) else none
  |_=>none
 | .Lt =>match x,y with
  | .int i,.int j=>some (aB5 (i<j))
  |_,_=>none
 |_=>none
noncomputable def place(n:Nat)(i:Int):aha:=if 0<=i then(if i<n then some i.toNat else none) else if -(n:Int)<=i then some (i+n).toNat else none
noncomputable def item(x i:D):ahN:=
 match x,i with
 | .lst xs,.int k=>(place xs.length k).bind λj=>xs[j]?
 | .tup xs,.int k=>(place xs.length k).bind λj=>xs[j]?
 |_,_=>none
noncomputable def bound(n d:Nat):agK->Nat
 |none=>d
 |some v=>(if v<0 then max (v+(n:Int)) 0 else min v (n:Int)).toNat
noncomputable def Bb(xs:ac1)(lo hi:agK):ac1:=(xs.drop (bound xs.length 0 lo)).take (bound xs.length xs.length hi-bound xs.length 0 lo)
noncomputable def insI(x:Int):aa0->List Int
 |[]=>[x]
 |y::r=>if x<=y then x::y::r else y::insI x r
noncomputable def sortI:aa0->List Int
 |[]=>[]
 |x::r=>insI x (sortI r)
noncomputable def md(k:aa0):D:= .tup (k.map .int)
noncomputable def du:ac1->Option aa_
 |[]=>some []
 | .tup xs::r=>(aJ xs).bind λk=>if k=[] then none else(du r).map (k:: ·)
 |_::_=>none
noncomputable def iV:Int->aa0->Int
 |a,[]=>a
 |a,b::r=>iV (if b<a then b else a) r
noncomputable def seq:D->Option ac1
 | .lst xs=>some xs
 | .tup xs=>some xs
 |_=>none
noncomputable def prim(p:vZ)(xs:ac1):ahN:=
 match p with
 | .len =>match xs with
  |[x]=>(seq x).map λys=> .int ys.length
  |_=>none
 | .tuple =>match xs with
  |[x]=>(seq x).map .tup
  |_=>none
 | .list =>match xs with
  |[x]=>(seq x).map .lst
  |_=>none
 | .min =>match xs with
  |[x]=>(seq x).bind λys=>match aJ ys with
   |some ns=>match ns with|[]=>none|a::r=>some (amh (iV a r))
   |none=>match x with
    | .lst zs=>(du zs).bind λks=>match ks with|[]=>none|a::r=>some (md asD)
    |_=>none
  |_=>none
 | .sorted =>match xs with
  |[x]=>(seq x).bind λys=>(du ys).map λks=> .lst asS
  |_=>none
 | .all =>match xs with
  |[x]=>match x with
   | .lst ys=>(eU ys).map λbs=> .bl asC
   |_=>none
  |_=>none
noncomputable def tS:D->Option ac1
 | .lst ys=>(du ys).bind λks=>if(S2.iZ ks).length <=720 then some aw4 else none
 |_=>none
noncomputable def cE(k:Int):aa0->Option Nat
 |[]=>none
 |n::r=>if n=k then some 0 else(cE k r).map (· + 1)
noncomputable def fj(m:V2)(o:D)(xs:ac1):ahN:=
 match m,o,xs with
 | .index,.tup ys,[.int k]=>(aJ ys).bind λns=>(cE k ns).map λ(i:Nat)=> .int (i:Int)
 | .rg,.lst ys,[.int k]=>(aJ ys).bind λns=>(cE k ns).map λ(i:Nat)=> .int (i:Int)
 |_,_,_=>none
noncomputable def bT(lo:Int):Nat->List D
 |0=>[]
 |n+1=> .int lo::bT (lo+1) n
noncomputable def dw(xs:ac1):alm:=
 match xs with
 |[.int n]=>if -(2 ^ 62)<=n/\n<=bX then some (bT 0 n.toNat) else none
 |_=>none
noncomputable def aO(k:Int):ac1->List D
 |[]=>[]
 |x::r=> .tup [agP,x]::aO (k+1) r
noncomputable def aB(tg:Nat)(x:D):alm:=
 match tg with
 |0=>some [x]
 |n+1=>match x with
  | .tup xs=>if xs.length=n+1 then some xs else none
  |_=>none
noncomputable def OJ(ρ:Env)(fr:ahj):Env:=fr.map λi=>(ρ[i]?).join
noncomputable def V4:D->Option Bool
 | .bl b=>some b
 |_=>none
noncomputable def walk(f:D->asj):ac1->Option ac1
 |[]=>some []
 |x::r=>match f x with
  |none=>none
  |some none=>walk f r
  |some (some y)=>(walk f r).map (y:: ·)
noncomputable def eV:D->Option ac1
 | .lst ds=>some ds
 |_=>none
noncomputable def BR:D->Option ac1
 | .tup xs=>some xs.reverse
 |_=>none
noncomputable def nF:ac1->Option atA
 |[]=>some []
 | .tup [.tup xs,v]::r=>(aJ xs).bind λk=>(nF r).map ((k,v):: ·)
 |_::_=>none
noncomputable def fE:D->Option Bool
 | .bl b=>some b
 |_=>none
noncomputable def KH:D->Option Int
 | .int i=>some i
 |_=>none
noncomputable def cutD(x:D)(l h:agK):ahN:=
 match x with
 | .lst xs=>some (aj1 (Bb xs l h))
 | .tup xs=>some (akb (Bb xs l h))
 |_=>none
noncomputable def rm(p:vZ)(xs:ac1):ahN:=
 match p with
 | .list =>some agN
 | .tuple =>some ai6
 |_=>none
noncomputable def inner(ys:ac1)(ρ:Env)(fr:ahj):Env:=ys.map (λy=>some (false,y))++OJ ρ fr
mutual
noncomputable def ev(F:FT):Bool->E->Env->Option D
 |b,.var i,ρ=>rd b ρ i
 |_,.c d,_=>some d
 |_,.bin o a b,ρ=>(ev F true a ρ).bind λx=>(ev F true b ρ).bind λy=>bin o x y
 |_,.cmp o a b,ρ=>(ev F true a ρ).bind λx=>(ev F true b ρ).bind λy=>(cmp o x y).map .bl
 |_,.BP k es,ρ=>(kT F k es ρ).map .bl
 |_,.not a,ρ=>((ev F false a ρ).bind fE).map λk=> .bl !k
 |_,.tup es,ρ=>(dQ F false es ρ).bind λxs=>if xs.length<=bX then some ai6 else none
 |_,.lst es,ρ=>(dQ F false es ρ).bind λxs=>if xs.length<=bX then some agN else none
 |_,.idx a i,ρ=>(ev F true a ρ).bind λx=>(ev F false i ρ).bind λk=>item x k
 |_,.sl a lo hi,ρ=>(ev F true a ρ).bind λx=>(KI F lo ρ).bind λl=>(KI F hi ρ).bind λh=>cutD x l h
 |_,.call f es,ρ=>(dQ F true es ρ).bind λxs=>(F f xs).bind λd=>if rj ρ es&&!aG d then none else some d
 |_,.prim p es,ρ=>(dQ F true es ρ).bind λxs=>prim p xs
 |_,.sX p es,ρ=>((dQ F false es ρ).bind dw).bind (rm p)
 |_,.fj m o es,ρ=>(ev F true o ρ).bind λx=>(dQ F true es ρ).bind λxs=>fj m x xs
 |_,.comp fr tg it ifs eQ,ρ=>(nG F true it ρ).bind λxs=>if xs.length<=bX then(walk (λx=>(aB tg x).bind λys=>
   (kT F true ifs atr).bind λk=>if k then(ev F false eQ atr).map some else some none) xs).map .lst else none
 |_,.nD i k,ρ=>(gv ρ i).bind λd=>((ev F false k ρ).bind azg).bind λx=>iU d.2.1 d.2.2 x
 |_,.zO neg k i,ρ=>((ev F false k ρ).bind λy=>(gv ρ i).bind λd=>(c_ d.1 y).map λx=> .bl (if neg then !decide amH else decide amH))
 |_,.i6 i,ρ=>(gv ρ i).bind λd=>if d.1=0 then(if d.2.1.length<64 then some (aj1 ((sortI (d.2.1.map λk=>ahG)).map .int)) else none)
   else if []∈d.2.1 then none else some av3
 |_,.sset a,ρ=>((ev F true a ρ).bind tS).map .lst
 |_,.nil,_=>none
 |_,.cons _ _,_=>none
 |_,.gJ _,_=>none
 |_,.Ba _,_=>none
 |_,.it _,_=>none
 |_,.dk _,_=>none
 |_,.dv _,_=>none
 |_,.Nm _,_=>none
noncomputable def dQ(F:FT):Bool->E->Env->Option ac1
 |_,.nil,_=>some []
 |b,.cons a r,ρ=>(ev F b a ρ).bind λx=>(dQ F b r ρ).bind λxs=>some (x::xs)
 |_,_,_=>none
noncomputable def KI(F:FT):E->Env->Option agK
 | .nil,_=>some none
 | .cons a _,ρ=>((ev F false a ρ).bind KH).map some
 |_,_=>none
noncomputable def kT(F:FT):Bool->E->Env->Option Bool
 |k,.nil,_=>some k
 |k,.cons a r,ρ=>((ev F false a ρ).bind fE).bind λx=>if x=k then kT F k r ρ else some x
 |_,_,_=>none
noncomputable def nG(F:FT):Bool->E->Env->Option ac1
 |_,.gJ es,ρ=>(dQ F false es ρ).bind dw
 |b,.Ba a,ρ=>(ev F b a ρ).bind λx=>(seq x).map (aO 0)
 |b,.it a,ρ=>(ev F b a ρ).bind seq
 |_,.dk i,ρ=>keysAt ρ i
 |_,.dv i,ρ=>rk ρ i
 |_,.Nm a,ρ=>(ev F false a ρ).bind BR
 |_,_,_=>none
end
inductive C where
 |skip|seq (a b:C)
 |asg (i:Nat) (e:E)
  |bY (i:Nat) (e:E)
  |OK (i j:Nat)
  |BS (i:Nat)
 |upd (i:Nat) (e:E)
 |jM (i:Nat) (ix e:E)
 |app (i:Nat) (e:E)
 |ret (e:E)
 |ifs (c:E) (t u:C)
 |while (c:E) (b:C)
  |nH (i:Nat) (b:C)
 |for (is:ahj) (tg:Nat) (it:E) (b:C)
  |v5 (i:Nat) (t:Nat) (es:E)
  |zQ (i:Nat) (k e:E)
  |pop (i j:Nat)
  |ext (i:Nat) (e:E)
  |expr (e:E)
  |raise (k:Nat)
  |fst (x:Nat) (fr:ahj) (it k v:E) (c1:C) (y r f:Nat) (c2:C) (m:Nat) (c3:C) (p q u:E) (g:Nat) (w:E)
 deriving Inhabited
inductive kU where
 |next (ρ:Env)|brk (ρ:Env)|cont (ρ:Env)|ret (d:D)
 deriving Inhabited
noncomputable def put(ρ:Env)(i:Nat)(o:Bool)(d:D):Env:=ρ.set i awM
noncomputable def cF(ρ:Env):ahj->ac1->Option Env
 |[],[]=>some ρ
 |i::is,d::ds=>cF ai3 is ds
 |_,_=>none
noncomputable def fF:Nat:=1000000
noncomputable def gx(c:Env->alP)(b:Env->aus):Nat->Env->Option kU
 |0,_=>none
 |n+1,ρ=>(c ρ).bind λk=>if k then(b ρ).bind λo=>match o with
   | .next ρ'=>gx c b n ρ'
   | .cont ρ'=>gx c b n ρ'
   | .brk ρ'=>some aq3
   | .ret d=>some asH
  else some av2
noncomputable def aL(b:D->Env->aus):ac1->Env->Option kU
 |[],ρ=>some av2
 |x::r,ρ=>(b x ρ).bind λo=>match o with
   | .next ρ'=>aL b r ρ'
   | .cont ρ'=>aL b r ρ'
   | .brk ρ'=>some aq3
   | .ret d=>some asH
noncomputable def f9(it:E)(ρ:Env):Env:=
 match it with
 | .it (.var i)=>match ρ[i]? with
  |some (some (true,.lst xs))=>ρ.set i (ajU (false,agN))
  |_=>ρ
 | .Ba (.var i)=>match ρ[i]? with
  |some (some (true,.lst xs))=>ρ.set i (ajU (false,agN))
  |_=>ρ
 |_=>ρ
noncomputable def gC(ρ:Env)(i:Nat):alm:=
 match ρ[i]? with
 |some (some (true,.lst xs))=>some xs
 |_=>none
noncomputable def v8(ρ:Env)(i:Nat):Option V3:=
 match ρ[i]? with
 |some (some (true,.bA t ks vs))=>if t=2 then none else some (t,ks,vs)
 |_=>none
noncomputable def BU(T:ac1)(q:Nat)(k:aa0)(v:D):alm:=
 match T[q]? with
 |some (.bA 0 ks vs)=>if ks.length<bX/\k∉ks then some (T.set q (.bA 0 (ks++[k]) amZ)) else none
 |_=>none
noncomputable def v_:D:= .bA 2 [] []
noncomputable def jN(ρ:Env)(x:Nat):Bool:=
 match ρ[x]? with
 |some (some (true,.bA t [] []))=>t==2
 |_=>false
noncomputable def tT(ρ:Env):Bool:=ρ.all λo=>match o with
 |some (_,d)=>!nC d
 |none=>true
noncomputable def jO(F:FT)(x y r f:Nat)(c2:Env->aus)(m:Nat)(c3:Env->aus)(p q u:Env->ahN)(g:Nat)(w:Env->ahN)(T:ac1)(ρ:Env)(l:ac1):asJ:=
 (l.getLast?).bind λz=>(F f [.lst T,z]).bind λd=>if aG z&&aG d then
  (c2 (put (akY y) r false d)).bind λo=>match o with
  | .next OL=>if jN OL x then(gw OL m).bind λms=>if ms.isEmpty then some (T,OL) else(c3 OL).bind λo=>match o with
   | .next Bc=>if jN Bc x then(u Bc).bind λuv=>if aG uv then((p Bc).bind KH).bind λpi=>(place T.length pi).bind λpq=>((q Bc).bind (c_ 0)).bind λkk=>(BU T pq kk uv).bind λT'=>
     (w Bc).bind λwv=>if aG wv then(F g [.lst T',wv]).bind λzd=>match zd with
     | .lst zs=>if aX zs then(gC Bc y).bind λws=>if ws.length+zs.length<=bX then some (T',put Bc y true (aj1 (ws++zs))) else none else none
     |_=>none
     else none
    else none
    else none
   |_=>none
   else none
  |_=>none
 else none
noncomputable def gO(tn:ac1->Env->ac1->asJ)(y:Nat):Nat->ac1->Env->Option ac1
 |0,_,_=>none
 |n+1,T,ρ=>(gC ρ y).bind λl=>if l.isEmpty then some T else(tn T ρ l).bind λs=>gO tn y n s.1 s.2
noncomputable def tU(k v:Env->ahN)(fr:ahj)(ρ:Env)(x:D):asj:=
 ((k aA5).bind (c_ 0)).bind λkk=>(v aA5).bind λd=>if aG d then some (ajU (.bA 0 [kk] [d])) else none
noncomputable def ex(F:FT):C->Env->Option kU
 | .skip,ρ=>some av2
 | .seq a b,ρ=>(ex F a ρ).bind λo=>match o with
  | .next ρ'=>ex F b ρ'
  |o=>some o
 | .asg i e,ρ=>(ev F false e ρ).map λd=> .next ai3
 | .bY i e,ρ=>(ev F false e ρ).bind λd=>match d with
  | .lst xs=>some aq4
  |_=>none
 | .OK i j,ρ=>(gC ρ j).map λxs=> .next aph
 | .BS i,ρ=>some axX
 | .upd i e,ρ=>((ev F false e ρ).bind eV).bind λps=>(v8 ρ i).bind λq=>(nF ps).bind λkvs=>if q.1=1/\(q.2.1++kvs.map (·.1)).Nodup /\q.2.1.length+kvs.length<=bX then some (ajW (akg (.bA 1 (q.2.1++kvs.map (·.1)) (q.2.2++kvs.map (·.2))))) else none
 | .jM i ix e,ρ=>(ev F false e ρ).bind λd=>((ev F false ix ρ).bind KH).bind λk=>match ρ[i]? with
  |some (some (true,.lst xs))=>(place xs.length k).map λj=> .next ao5
  |_=>none
 | .app i e,ρ=>(ev F false e ρ).bind λd=>match ρ[i]? with
  |some (some (true,.lst xs))=>if xs.length<bX then some aA7 else none
  |_=>none
 | .ret e,ρ=>(ev F true e ρ).map .ret
 | .ifs c t u,ρ=>((ev F false c ρ).bind fE).bind λk=>if k then ex F t ρ else ex F u ρ
 | .while c b,ρ=>gx (λρ=>(ev F false c ρ).bind fE) (ex F b) fF ρ
 | .nH i b,ρ=>gx (λρ=>((gw ρ i).map λxs=>D.bl !xs.isEmpty).bind fE) (ex F b) fF ρ
 | .for is tg it b,ρ=>(nG F false it apv).bind λxs=>aL (λx ρ=>(aB tg x).bind λys=>(cF ρ is ys).bind λρ'=>ar_) xs apv
 | .v5 i t es,ρ=>if t=2 then none else((dQ F false es ρ).bind (BQ t)).map λd=> .next aCZ
 | .zQ i k e,ρ=>(ev F false e ρ).bind λy=>(v8 ρ i).bind λd=>((ev F false k ρ).bind azg).bind λx=>
   if d.2.1.length<bX/\x∉d.2.1 then some ao4 else none
 | .pop i j,ρ=>(gC ρ j).bind λl=>(l.getLast?).map λz=> .next ay0
 | .ext i e,ρ=>(ev F false e ρ).bind λd=>match d with
  | .lst zs=>(gC ρ i).bind λws=>if ws.length+zs.length<=bX then some aih else none
  |_=>none
 | .expr e,ρ=>(ev F true e ρ).map λ_=> .next ρ
 | .raise _,_=>none
 | .fst x fr it k v c1 y r f c2 m c3 p q u g w,ρ=>(nG F true it ρ).bind λxs=>if xs.length<=bX/\x≠y/\x<ρ.length/\tT ρ=true then(walk (tU (ajT k) (ajT v) fr ρ) xs).bind λT=>
   (ex F c1 ate).bind λo=>match o with
   | .next KJ=>if jN KJ x then(gO (jO F x y r f (ex F c2) m (ex F c3) (ajT p) (ajT q) (ajT u) g (ajT w)) y fF T KJ).map λT=> .ret (aj1 T) else none
   |_=>none
  else none
def TM:ev F b atF ρ=rd b ρ i:=rfl
def vC:ev F m (.c d) ρ=some d:=rfl
def TN:ev F m aBs ρ=(ev F true a ρ).bind λx=>(ev F true b ρ).bind λy=>bin o x y:=rfl
def KL:ev F m aBr ρ=(ev F true a ρ).bind λx=>(ev F true b ρ).bind λy=>(cmp o x y).map .bl :=rfl
def KN:ev F m (.BP k es) ρ=(kT F k es ρ).map .bl :=rfl
def OM:ev F m (.not a) ρ=((ev F false a ρ).bind fE).map λk=> .bl !k:=rfl
def TQ:ev F m (.fj o a es) ρ=(ev F true a ρ).bind λx=>(dQ F true es ρ).bind λxs=>fj o x xs:=rfl
def KO:ev F m (akb es) ρ=(dQ F false es ρ).bind λxs=>if xs.length<=bX then some ai6 else none:=rfl
def TR:ev F m azr ρ=(dQ F false es ρ).bind λxs=>if xs.length<=bX then some agN else none:=rfl
def KP:ev F m ayL ρ=(ev F true a ρ).bind λx=>(ev F false i ρ).bind λk=>item x k:=rfl
def vSl:ev F m (.sl a l h) ρ=(ev F true a ρ).bind λx=>(KI F l ρ).bind λl=>(KI F h ρ).bind λh=>cutD x l h:=rfl
def ON:ev F m ao0 ρ=(dQ F true es ρ).bind λxs=>(F f xs).bind λd=>if rj ρ es&&!aG d then none else some d:=rfl
def Fw:ev F m (.prim p es) ρ=(dQ F true es ρ).bind λxs=>prim p xs:=rfl
def me:dQ F b aor ρ=(ev F b a ρ).bind λx=>(dQ F b r ρ).bind λxs=>some (x::xs):=rfl
def Fx:kT F k aor ρ=((ev F false a ρ).bind fE).bind λx=>if x=k then kT F k r ρ else some x:=rfl
def Yi:nG F b (.it a) ρ=(ev F b a ρ).bind seq:=rfl
def TU:nG F b awh ρ=(dQ F false es ρ).bind dw:=rfl
def OO:ev F m (.sX p es) ρ=((dQ F false es ρ).bind dw).bind (rm p):=rfl
def KQ:ev F m aiF ρ=(nG F true it ρ).bind λxs=>if xs.length<=bX then(walk (λx=>(aB tg x).bind λys=>
   (kT F true ifs atr).bind λk=>if k then(ev F false eQ atr).map some else some none) xs).map .lst else none:=rfl
def TV:ev F m aBp ρ=(gv ρ i).bind λd=>((ev F false k ρ).bind azg).bind λx=>iU d.2.1 d.2.2 x:=rfl
def OP:ev F m (.zO n k i) ρ=((ev F false k ρ).bind λy=>(gv ρ i).bind λd=>(c_ d.1 y).map λx=> .bl (if n then !decide amH else decide amH)):=rfl
def Yj:ex F .skip ρ=some av2:=rfl
def zR:ex F (.seq a b) ρ=(ex F a ρ).bind λo=>match o with
  | .next ρ'=>ex F b ρ'
  |o=>some o:=rfl
def TX:ex F ayM ρ=(ev F false e ρ).map λd=> .next ai3:=rfl
def KR:ex F aBt ρ=(ev F false e ρ).bind λd=>match d with
  | .lst xs=>some aq4
  |_=>none:=rfl
def Yk:ex F (.jM i x e) ρ=(ev F false e ρ).bind λd=>((ev F false x ρ).bind KH).bind λk=>match ρ[i]? with
  |some (some (true,.lst xs))=>(place xs.length k).map λj=> .next ao5
  |_=>none:=rfl
def TY:ex F (.app i e) ρ=(ev F false e ρ).bind λd=>match ρ[i]? with
  |some (some (true,.lst xs))=>if xs.length<bX then some aA7 else none
  |_=>none:=rfl
def OQ:ex F (.ext i e) ρ=(ev F false e ρ).bind λd=>match d with
  | .lst zs=>(gC ρ i).bind λws=>if ws.length+zs.length<=bX then some aih else none
  |_=>none:=rfl
def KS:ex F (akL e) ρ=(ev F true e ρ).map .ret :=rfl
def tW:ex F (.ifs c t u) ρ=((ev F false c ρ).bind fE).bind λk=>if k then ex F t ρ else ex F u ρ:=rfl
def Fy:ex F (.for l g t b) ρ=(nG F false t (f9 t ρ)).bind λxs=>aL (λx ρ=>(aB g x).bind λys=>(cF ρ l ys).bind λρ'=>ar_) xs (f9 t ρ):=rfl
structure Fd where
 par:Nat
 kK:Nat
 body:C
 deriving Inhabited
noncomputable def aw(d:Fd)(xs:ac1):Env:=xs.map (λx=>some (false,x))++List.replicate (d.kK-d.par) none
noncomputable def out:aus->Option D
 |some (.ret d)=>some d
 |some (.next _)=>some .cv
 |_=>none
noncomputable def run(P:List Fd):Nat->FT
 |0,_,_=>none
 |n+1,f,xs=>match P[f]? with
  |some d=>if xs.length=d.par then out (ex (run P n) d.body (aw d xs)) else none
  |none=>none
end Py
namespace L2
open PySem PyProof.Rows
def tX(val:Nat->Int):∀(k:Nat),∀(ns:aa0),(∀i,i<k->ns[i]?=some (val (i+1)))->val (argBest (λi j=>decide (val i<val j)) k)=Py.iV (val 0) (ns.take k):=by
 have snoc:∀(ns:aa0) (a b:Int),Py.iV a (ns++[b])=if b<Py.iV a ns then b else Py.iV a ns:=by
  intro ns;induction ns with
  |nil=>intro a b;rfl
  |cons x ns ih=>intro a b;exact ih _ b
 intro k;induction k with
 |zero=>intro ns _;rfl
 |succ k ih=>
  intro ns h;have hk:=h k (abT k);have OR:=ih ns λi hi=>h i (acg hi);have e:ns.take (k+1)=ns.take k++[val (k+1)]:=by
   rw[List.take_add_one,hk];rfl
  rw[e,snoc,<-OR];show val (if(aB5 (val (k+1)<val (argBest _ k)))=true then k+1 else argBest _ k)=_;by_cases c:val (k+1)<val (argBest (λi j=>decide (val i<val j)) k)
  .rw[aav (decide_eq_true c),aav c]
  .rw[aaC (by simpa using c),aaC c]
def ints_get:∀{vs:ab2}{ns:aa0},aom->∀(i:Nat) (v:Value),vs[i]?=some v->∃t,v= .int (ns.getD i 0) t:=λ{vs ns} h=>by
 induction h with
 |nil=>intro i v h;simp at h
 |cons n t r ih=>
  intro i v h;cases i with
  |zero=>simp at h;subst h;exact⟨t,rfl⟩
  |succ i=>
   obtain⟨t',e⟩:=ih i v (by simpa using h);exact⟨t',by simpa using e⟩
section
variable {prog:ad2}{w:World}{A:ag0}{E:Value->Shared->Prop}{s:ab_}{l:Addr}
def lX(hh:af5)(hl:ayp\/IsTup s.heap l vs.toArray)(hi:IntsAre vs (n::ns))
  (h:∀h' tk t,(∀b o,ab4->ae0)->Q (apa (Py.iV n ns)) {s with heap:=h',toks:=tk}):wpAny aa4 A (as6 (.builtin "min")) Q E s:=by
 have len:=hi.length;have wa:∀(i:Nat) (v:Value),vs.toArray[i]?=some v->∃t,v=Value.int aqj t:=λi v e=>ints_get hi i v (by simpa using e);have best:(n::ns).getD (argBest (λi j=>aqR) ns.length) 0=Py.iV n ns:=by
  have:=tX (λi=>aqj) ns.length ns (λi hi=>by simp[hi]);simpa using this
 have fin:∀(v:Value) (h':Heap) (tk:Nat),vs.toArray[argBest (λi j=>aqR) (vs.toArray.size-1)]?=some v->(∀b o,ab4->ae0)->Q v {s with heap:=h',toks:=tk}:=λv h' tk hP hk=>by
  have e:vs.toArray.size-1=ns.length:=by rw[aaq,len];simp
  rw[e]at hP;obtain⟨t,rfl⟩:=wa _ v hP;rw[best];exact h h' tk t hk
 have pos:0<vs.toArray.size:=by rw[aaq,len];simp
 rcases hl with hl|hl
 .have bj:api:=by obtain⟨_,e,_⟩:=hl;exact aaz e
  refine call_min_walk (acJ hl ?_);refine⟨_,[_,l],[_],_,_,_,_,rfl,agD (A:=A.in1) hh s.heap.objs.size l (aaJ bj) vs.toArray,as8,λb hb=>?_,pos,CmpOf.ints_lt (λi=>aqj) wa,λv h' tk hP hk=>fin v h' tk hP λb o e=>hk b o ?_ ail⟩
  .show b<(s.heap.push _).objs.size;rw[acj];rcases aat.mp hb with rfl|hb
   .exact abT _
   .rw[aak.mp hb];exact acg bj
  .intro hm;rw[aak.mp hm]at e;exact absurd ajc amK
 .have pW:s.heap.IsTuple l vs.toArray:=hl;have bj:api:=by obtain⟨_,e,_⟩:=hl;exact aaz e
  refine call_min_walk (adv pW ?_);refine⟨_,[_,l],[_],_,_,_,_,rfl,Walks.tuple (A:=A.in1) hh s.heap.objs.size l (aaJ bj) vs.toArray,⟨ahL,pW.push _⟩,λb hb=>?_,pos,CmpOf.ints_lt (λi=>aqj) wa,λv h' tk hP hk=>fin v h' tk hP λb o e=>hk b o ?_ ail⟩
  .show b<(s.heap.push _).objs.size;rw[acj];rcases aat.mp hb with rfl|hb
   .exact abT _
   .rw[aak.mp hb];exact acg bj
  .intro hm;rw[aak.mp hm]at e;exact absurd ajc amK
end
open PySem.Spec
open AutoSeq1 (wpAny_loadPart')
noncomputable abbrev tY(l:Addr):Obj:={cls:= .type "tuple_iterator",data:= .fields #[ahI,aBq]}
noncomputable abbrev KU(it:Addr):Obj:={cls:= .type "enumerate",data:= .fields #[.none,.bool false,ae5,rawInt 0,.none,.none]}
def tZ(l:Addr)(items:agI)(n:Nat)(Fz:ahe)(sl:aoN):
  Meets (Builtin.«enumerate.__new__» ⟨[.type "enumerate",ahI],[]⟩) (λ_ R s=>s.heap.get? l=some {cls:= .type "tuple",dict:=Fz,data:= .seq items n,slots:=sl}/\
   R (.ok (akL (.ref (s.heap.push (tY l)).objs.size))) {s with heap:=(s.heap.push (tY l)).push aBf}):=
 .of_wp λprog w A R s h=>by
  obtain⟨hp,g,d,tk,os⟩:=s;obtain⟨hl,h⟩:=h;have sb:=sub_enumerate;have hL:Heap.IsTuple atR l items:=⟨_,hl,rfl,n,rfl⟩;wp_walk using acx hl;refine wpAny_stack_any λst=>aaj ?_;split
  .rename_i c _ _ _ _ _;cases (c==Value.type "enumerate")
   .wp_walk using acx hl,adv hL;exact⟨_,rfl,h⟩
   .wp_walk using acx hl,adv hL;exact⟨_,rfl,h⟩
  .wp_walk using acx hl,adv hL;exact⟨_,rfl,h⟩
section
variable {prog:ad2}{w:World}{A:ag0}{E:Value->Shared->Prop}{s:ab_}
def wc(hL:aqX)
  (h:∀h',IsEnum h' alf s.heap.objs.size 0 .none ->h'.IsTupleIter s.heap.objs.size l 0->h'.objs.size=s.heap.objs.size+2->
   (∀b o,ab4->ae0)->Q (akX (s.heap.objs.size+1)) {s with heap:=h'}):
  wpAny aa4 A (as6 (.type "enumerate")) Q E s:=by
 obtain⟨⟨c,Fz,dt,sl⟩,hl,hc,n,hd⟩:=hL;have kJ:c= .type "tuple":=hc;have mz:dt= .seq items n:=hd;subst kJ mz;refine callType_new F.called_enumerate aa2 (F.typeCall_enumerate_1 _) (F.newCall_enumerate_1 _) (λobj=>aeQ obj _) F.entry_enumerate_new (tZ l items n Fz sl) ⟨hl,?_⟩;have hz:(s.heap.push (tY l)).objs.size =s.heap.objs.size+1:=acj ..;have he:IsEnum ((s.heap.push (tY l)).push aBf) alf s.heap.objs.size 0 .none :=by
  have q:=aas (s.heap.push (tY l)) (o:=KU s.heap.objs.size) rfl;rw[hz]at q;exact q
 show _/\_;rw[hz];exact⟨⟨_,he,rfl⟩,h _ he ⟨_,aab _ agU,rfl,rfl⟩ (by rw[acj,hz]) λb o x=>aab _ (aab _ x)⟩
def t8(t9:ayX)(hl:aqX)(hx:items[i]?=some x)
  (hQ:∀h',h'.IsTupleIter it l (i+1)->ajk->Q x {s with heap:=h'}):ao1:=by
 refine bF (id t9) λo ho hc hd=>?_;obtain⟨ol,Nn,_,nl,Np⟩:=hl;unfold Builtin.SmallTypes.nextOf;refine aaa (abE (name:=Str.ofString "__next__") t9.typeIs acQ (abm acQ t9.typeIs aeU ?_ (aeR _)));show wpAny _ _ (field ae5 0 >>= _) _ _ s;refine aaa (acM ho hd (x:= .ref l) rfl ?_)
 first
  |(show wpAny _ _ (if alB=true then _ else _) _ _ s;rw[aaC (show¬(alB=true) from aai)])
  |skip
 show wpAny _ _ (field ae5 1 >>= _) _ _ s;refine aaa (acM ho hd (x:= .int i 0) rfl ?_);show wpAny _ _ (seqItems? ahI >>= _) _ _ s;refine aaa (adp Nn Np ?_);simp only[abN,hx];refine aaa (ack ho hd ab5 (aaj ⟨x,rfl,aaj (hQ _ ⟨_,abF _ ho avr,(adI ..).trans hc,?_⟩ (abA ..))⟩));rw[abG hd];simp[rawInt]
def t_(hh:af5)(t9:ayX)(hl:aqX)(hx:items[i]?=none)
  (hE:∀h' e,al5->(∃o,h'.get? e=some o/\o.cls= .type "StopIteration")->E (akX e) {s with heap:=h'}):ao1:=by
 refine bF (id t9) λo ho hc hd=>?_;obtain⟨ol,Nn,_,nl,Np⟩:=hl;unfold Builtin.SmallTypes.nextOf;refine aaa (abE (name:=Str.ofString "__next__") t9.typeIs acQ (abm acQ t9.typeIs aeU ?_ (aeR _)));show wpAny _ _ (field ae5 0 >>= _) _ _ s;refine aaa (acM ho hd (x:= .ref l) rfl ?_)
 first
  |(show wpAny _ _ (if alB=true then _ else _) _ _ s;rw[aaC (show¬(alB=true) from aai)])
  |skip
 show wpAny _ _ (field ae5 1 >>= _) _ _ s;refine aaa (acM ho hd (x:= .int i 0) rfl ?_);show wpAny _ _ (seqItems? ahI >>= _) _ _ s;refine aaa (adp Nn Np ?_);simp only[abN,hx]
 first
  |refine aaa (adq (aaa (ack ho hd ab5 ?_)))
  |refine aaa (adq (aaa (ack ho hd ab5 (aaa (afE ?_)))))
 show wpAny _ _ (newExc (.type "StopIteration") [] >>= _) _ _ _;refine aaa ?_;simp only[newExc,newTuple];refine aaa (abg ?_ (by size_fits));refine aaa (m:=firstArgMember _ _) (aeV (a:=Value.none) (by first|rfl|(simp only[firstArgMember];rfl)) ?_);refine abg ?_ (by size_fits);simp only[raiseNew];refine aaa (afF ?_)
 first|rw[show A.in1.handled=none from hh]|rw[hh]
 exact aaa (aaj (ags (hE _ _ (((abA ..).extBut.push _).push _) ⟨_,agU,rfl⟩)))
end
def zS(hh:af5)(it l:Addr)(eG:l≠it)(items:agI):
  Draws prog w A it [it,l] items.size (λi v=>items[i]?=some v) (λi h=>h.IsTupleIter it l i/\h.IsTuple l items) where
 live:=λ_ _ st=>let ⟨o,ho,_⟩:=st.1;⟨o,ho⟩
 frame:=λ_ _ _ st hk=>⟨st.1.at λo e=>hk it ab5 o e,st.2.at λo e=>hk l ab5 o e⟩
 item:=λi s Q E hi st hQ=>t8 st.1 st.2 (x:=items[i]) (by simp[hi]) λh' TZ vA=>hQ _ h' s.toks (by simp[hi]) ⟨TZ,st.2.extBut vA.extBut eG⟩ vA
 done:=λs Q E st hE=>t_ hh st.1 st.2 ab5 hE
section
variable {X:Cx}{U:aa8}{σ:List aoJ}{H H':Hp}{s:ab_}{h':Heap}
def Inv.xk{ch:af7}(I:aa3)(k:∀b o,b∉ch->ab4->ae0)(hf:∀b∈ch,avj):Inv X U σ H {s with heap:=h',toks:=t'}:=by
 have NW:∀b u,aot->b∉ch:=λb u e z=>by rw[(hf b z).1]at e;cases e
 refine I.step (g':=s.gens) (d':=s.drawn) (ch:=ch) (λb hb=>?_) (λb o _ _ hc e _=>k b o hc e) (λb o _ _ hc e _=>⟨o.slots,k b o hc e⟩) (λ_ _ _ _ n=>n)
  (λb o hc e=>⟨o,k b o hc e⟩) (λ_ _ e=>e) (λ_ _ _ e=>e) (λb ps e=>⟨#[],by rw[e];simp⟩) (λm hm=>?_) (λb u e=>?_) I.bare
 .exact sW (hf b hb) λ_ f1 _ f3 f4 f5=>⟨f3,f1,f4,f5⟩
 .exact kI hm λo es ep ho r=>⟨o,es,ep,k _ o (λz=>(hf _ z).2.1 rfl) ho,r⟩
 .refine(I.aR b u e).pE (λc v hc q=>k c v ?_ q) (λ_ q=>q) λ_ _ q=>q;rcases hc with z|z
  .rw[z];exact NW b u e
  .exact NW c _ z
end
structure KW(K:aE)(a it:Addr)(Sq:Hp->ad7->Prop)(RP:Heap->agI->Prop)(Nq:Nat->Heap->Prop):Prop where
 get:∀{X:Cx}{U:aa8}{σ:St}{H:Hp}{s:ab_}{xs:ad7},X.K=K->aa3->Sq H xs->∃its:ab2,anq/\RP s.heap its.toArray
 inj:∀{X:Cx}{U:aa8}{σ:St}{H:Hp}{s:ab_}{xs ys:ad7},X.K=K->aa3->Sq H xs->Sq H ys->xs=ys
 dr:∀(prog:ad2) (w:World) (A:ag0) (items:agI),af5->Draws prog w A it [it,a] items.size (λi v=>items[i]?=some v) (λi h=>Nq i h/\RP h items)
 obj:∀{i:Nat}{h:Heap},Nq i h->∃o,aqQ/\∀v,o.data≠ .cell v
 at':∀{i:Nat}{h h':Heap},Nq i h->(∀o,aqQ->h'.get? it=some o)->Nq i h'
 ne:∀{h:Heap}{e:Addr}{i:Int}{old:Value}{items:agI},IsEnum h e it i old->RP h items->e≠a
noncomputable def RQ(Sq:Hp->ad7->Prop):It:=
 ⟨λi H=>∃xs x,Sq H xs/\xs[i]?=some x,λi H x H'=>∃(t:Addr) (y:V),H t=none/\x= .ref t/\H'=upd H t (akb [agF,y])/\∀xs,Sq H xs->xs[i]?=some y,λi H=>∃xs,Sq H xs/\xs.length=i⟩
def qa{w:World}{K:aE}(S:KW K a it Sq RP Nq)(eG:e≠it):
  qV P w K arc (RQ Sq) [e,it] e (λi h=>(∃old,IsEnum h e it i old)/\Nq i h) where
 mem:=by simp
 obj:=λi h st b hb=>by
  obtain⟨⟨old,he⟩,hi⟩:=st;rcases aat.mp hb with rfl|hb
  .exact⟨_,he,λv z=>by cases z⟩
  .rw[aak.mp hb];exact S.obj hi
 keep:=λi h h' st k=>⟨let ⟨old,he⟩:=st.1;⟨old,k e ab5 _ he⟩,S.at' st.2 λo z=>k it ab5 o z⟩
 item:=by
  intro X hP hw hK hc i U s σ H E I hf st hg;subst hP hw hK;obtain⟨⟨old,he⟩,hi⟩:=st;refine eO hg λxs x hq hx=>aa (S.get rfl I hq) λits rv hX=>aa aCl λu hu ru=>?_;have bj:i<its.toArray.size:=by
   have:=(aax.mp hu).1;simpa using this
  have Yl:e∉[it,a]:=λz=>by
   rcases aat.mp z with z|z
   .exact eG z
   .exact S.ne he hX (aak.mp z)
  refine wpAny_pyNext_enum_itemD aqw he ⟨hi,hX⟩ bj eG Yl λv h' tk hP Ij m8 hT hsz hk=>?_;have hP:its.toArray[i]?=some v:=hP;have ev:v=u:=by
   have q:its[i]?=some v:=by simpa using hP
   rw[hu]at q;exact(aaI q).symm
  subst ev;refine⟨_,rfl,wpAny_letOwnedTupleGo_enum Ij λRS T3 FA=>?_⟩;have FA:Heap.SameBut e h' RS:=FA;have T4:e<s.heap.objs.size:=aaz he;have ltI:it<s.heap.objs.size:=by obtain⟨o,ho,_⟩:=S.obj hi;exact aaz ho
  have I1:Inv X U σ (akW azk) {s with heap:=s.heap.push {cls:= .type "tuple",data:= .seq #[.int i tk,v]}}:=
   I.laid (t':=s.toks) (λb o z=>aab _ z) ad0 ⟨by show 2<=sizeLine;decide,[.int i tk,v],.cons ⟨_,rfl⟩ (aj2 ru),jA.new s.heap _⟩
  have Ym:amA:=I.aR.fresh ad0;have OS:∀b∈[e,it],(upd H s.heap.objs.size azk) b=none:=λb hb=>by
   have iY:b≠s.heap.objs.size:=by
    rcases aat.mp hb with rfl|hb
    .exact aaJ T4
    .rw[aak.mp hb];exact aaJ ltI
   rw[aq iY];exact(hf b hb).1
  have I2:Inv X U σ (akW azk) {s with heap:=RS,toks:=tk+1}:=by
   have key:∀b o,b∉[e,it]->(s.heap.push {cls:= .type "tuple",data:= .seq #[.int i tk,v]}).get? b=some o->RS.get? b=some o:=λb o hb z=>by
    have EE:b≠e:=λq=>hb (by simp[q]);have V5:b≠it:=λq=>hb (by simp[q]);refine(FA.2 b EE).trans ?_;rcases Heap.get?_push_cases z with⟨rfl,rfl⟩|z
    .exact hT
    .exact hk b o EE V5 z
   have J:=I1.xk (h':=RS) (t':=tk+1) (ch:=[e,it]) key λb hb=>⟨OS b hb,(hf b hb).2⟩;exact J
  refine⟨ab7,_,I2,rfl,⟨s.heap.objs.size,x,Ym,rfl,rfl,λys hy=>by rw[S.inj rfl I hy hq];exact hx⟩,⟨⟨v,?_⟩,S.at' m8.1 λo z=>(FA.2 it (abD eG)).trans z⟩,OS⟩;have:((i+1:Nat):Int)=(i:Int)+1:=by push_cast;rfl
  rw[this];exact T3
 done:=by
  intro X hP hw hK hc i U s σ H E I hf st hg;subst hP hw hK;obtain⟨⟨old,he⟩,hi⟩:=st;refine aa hg λxs hq ak=>?_
  try clear hg
  subst ak;refine aa (S.get rfl I hq) λits rv hX=>?_;have hl:xs.length=its.toArray.size:=by rw[aaq];exact rv.length
  rw[hl]at hi he;refine wpAny_pyNext_enum_endD aqw he ⟨hi,hX⟩ λh' hx=>⟨rfl,?_⟩;exact I.xk (t':=s.toks) (ch:=[e,it]) (λb o hb z=>hx b o (λq=>hb (by simp[q])) z) hf
 self:=λ_ _ _ _ _ st h=>let ⟨⟨_,he⟩,_⟩:=st;afq he h
def BV{K:aE}(h:a≠it):KW K a it (λH xs=>aji) (λh xs=>h.IsTuple a xs) (λi h=>h.IsTupleIter it a i) where
 get:=λhK I q=>by subst hK;obtain⟨its,r,t,_⟩:=I.tuple q;exact⟨its,r,t⟩
 inj:=λhK I q q'=>by subst hK;exact I.kO q q'
 dr:=λprog w A items hh=>zS hh it a h items
 obj:=λzz=>bF zz λo e c d=>⟨o,e,λv z=>by rw[d]at z;cases z⟩
 at':=λst k=>st.at k
 ne:=λhe ⟨o,e,c,_⟩ z=>by subst z;rw[he]at e;cases e;injection c with c;exact absurd c aa2
def BW{K:aE}(h:a≠it):KW K a it (λH xs=>am4) (λh xs=>h.IsList a xs) (λi h=>h.IsListIter it a i) where
 get:=λhK I q=>by subst hK;obtain⟨its,r,t,_⟩:=I.list q;exact⟨its,r,t.isList⟩
 inj:=λhK I q q'=>by subst hK;exact I.tE q q'
 dr:=λprog w A items hh=>Draws.list hh it a h items
 obj:=λzz=>bF zz λo e c d=>⟨o,e,λv z=>by rw[d]at z;cases z⟩
 at':=λst k=>st.at k
 ne:=λhe ⟨o,e,c,_⟩ z=>by subst z;rw[he]at e;cases e;injection c with c;exact absurd c aa2
def T5(K:aE)(ta:TA):TI:=λσ H R=>ta σ H λvs H1=>∃a xs,vs=[ac_]/\((aCJ/\R (RQ λH ys=>cP K H a ys) H1)\/(cO K H1 a xs/\R (RQ λH ys=>cO K H a ys) H1))
def FC{X:Cx}{ta:TA}(hg:Gl X "enumerate")(hm:X.mg "enumerate"=none)(ha:PA X [a] ta)(hs:ag6:=by rfl):
  PI X arc (akO (.Name "enumerate" p)) (T5 X.K ta):=by
 intro U s σ H R I h;refine Call_ (kN I hg hm PyProof.Rows.boot_enumerate (acm (bG aht λus s1 zz=>bg zz λvs H1 I1 r1 q1=>?_) hs rfl));refine eO q1 λb xs ak q=>?_
 try clear q1
 subst ak;cases r1 with
 |cons r rr=>
  cases rr;cases r;have fin:∀(h':Heap),h'.objs.size=s1.heap.objs.size+2->(∀b o,s1.heap.get? b=some o->ae0)->Inv X U σ H1 {s1 with heap:=h'}/\∀c∈[alX,ahw],kP X U H1 c:=λh' _ hk=>by
   refine⟨I1.kept (t':=s1.toks) hk,λc hc=>?_⟩;have wd:s1.heap.objs.size<=c:=by
    rcases aat.mp hc with rfl|hc
    .exact Nat.le_succ _
    .rw[aak.mp hc];exact aam _
   exact I1.tJ wd (I1.aR.fresh wd)
  rcases q with⟨hq,hR⟩|⟨hq,hR⟩
  .refine bF (I1.tuple hq) λits rv t _=>?_;have ht:s1.heap.IsTuple b its.toArray:=t;have hb:aCN:=by obtain⟨o,e,_⟩:=ht;exact aaJ ajc
   refine wc ht λh' he t9 hsz hk=>?_;obtain⟨J1,J2⟩:=fin h' hsz hk;exact afq he ⟨alX,[alX,ahw],_,_,H1,rfl,J1,qa (BV hb) aBZ,⟨⟨_,he⟩,t9⟩,J2,hR⟩
  .refine bF (I1.list hq) λits rv t _=>?_;have ht:s1.heap.IsList b its.toArray:=t.isList;have hb:aCN:=by obtain⟨o,e,_⟩:=ht;exact aaJ ajc
   refine call_enumerate_list ht λh' he t9 hsz hk=>?_;obtain⟨J1,J2⟩:=fin h' hsz hk;exact afq he ⟨alX,[alX,ahw],_,_,H1,rfl,J1,qa (BW hb) aBZ,⟨⟨_,he⟩,t9⟩,J2,hR⟩
section
variable {prog:ad2}{w:World}{A:ag0}{E:Value->Shared->Prop}{s:ab_}
theorem ua(eG:t≠it):∀(n i:Nat) (s:ab_) (Q:ab2->ab_->Prop),s.heap.IsListIter it t i->arw->i+n<=items.size->
  (∀h',h'.IsListIter it t (i+n)->ajk->Q ((items.toList.drop i).take n) {s with heap:=h'})->wpAny aa4 A (draw ae5 n) Q E s
 |0,i,s,Q,t9,_,_,hQ=>aaj (by simpa using hQ s.heap t9 (Heap.SameBut.refl ..))
 |n+1,i,s,Q,t9,ht,wd,hQ=>by
  have bj:aCt:=(aaO alx wd);show wpAny _ _ (pyNext ae5 >>= _) Q E s;refine aaa (aeo t9 ht (x:=items[i]) (by simp[bj]) λh1 KY Nr=>?_);refine aaa (abi (ua eG n (i+1) _ _ KY (ht.extBut Nr.extBut eG) (NO akS wd) λh2 T6 T7=>aaj ?_));have hd:items.toList.drop i=items[i]::items.toList.drop (i+1):=by simp[abv,bj]
  have q:=hQ h2 (by rw[show i+(n+1)=i+1+n by exact abc akS];exact T6) (Nr.trans T7);rw[hd,List.take_succ_cons]at q;exact q
def mf(hh:af5)(ht:arw)
  (hQ:∀h',asl->Q items.toList {s with heap:=h'}):wpAny aa4 A (unpackItems ao3 items.size none) Q E s:=by
 have bj:t≠s.heap.objs.size:=by obtain⟨o,ho,_⟩:=ht;exact aaJ (aaz ho)
 have push:∀o,(s.heap.push o).IsList t items:=λo=>by obtain⟨ol,e,r⟩:=ht;exact⟨ol,ail,r⟩
 unfold unpackItems;refine aaa ?_;unfold notIterableAtAll;refine aaa (aef ht.typeIs F.slot_list_iter.lookup (aaj ?_));simp only[abX,if_false];refine aaa (abi (acJ ht ?_));refine aaa (abi (ua bj items.size 0 _ _ ⟨_,agU,rfl,rfl⟩ (push _) (aap azt) λh1 KY Nr=>?_));have ma:List.take items.size (List.drop 0 items.toList)=items.toList:=by
  rw[adQ];exact abB ab5
 rw[ma,aaC ab5];have T8:h1.IsList t items:=(push _).extBut Nr.extBut bj;refine aaa (abi (aez hh KY T8 ab5 λh2 V6=>?_));simp only[Option.isSome_none,abX,if_false];exact aaj (hQ h2 λb o hb e=>V6 b o hb (Nr.extBut b o hb ail))
def wj(hh:af5)(ht:arw)
  (hn:(assignEach elts env).length =items.size) (OU:(assignEach elts env).findIdx? (·.1)=none)
  (h:∀h',asl->wpAny aa4 A (assignInOrder ((assignEach elts env).map (·.2)) items.toList) Q E {s with heap:=h'}):
  wpAny aa4 A (assign (.Tuple elts x1 pos) env ao3) Q E s:=by
 rw[PyProof.Rows.assign_Tuple];refine aaa (afC ?_);unfold unpack;rw[hn,OU];exact aaa (abi (mf hh ht h))
end
def OV(K:aE)(n:Nat)(t:JU):TG:=λv σ H Q=>∃a xs,ajy/\(am4\/aji)/\xs.length=n/\t xs σ H Q
def KZ(hc:agH)(h:Ni X es t)
  (hn:(assignEach es X.env).length =n:=by rfl) (m8:(assignEach es X.env).findIdx? (·.1)=none:=by rfl):PG X auH (OV X.K n t):=by
 intro U s σ H v u Q I r hw;obtain⟨a,xs,e1,hq,hl,hw⟩:=hw;subst e1;cases r;rcases hq with hq|hq
 .obtain⟨its,rv,ht,hz⟩:=I.list hq;refine wj agY ht.isList (by simp[hn,<-hl,rv.length]) m8 λh' hx=>?_;have I1:Inv X U σ H {s with heap:=h'}:=I.kept (t':=s.toks) λb o e=>hx b o ax0 e;exact h U _ σ H xs _ Q I1 (by simpa using rv) hw
 .exact JW hc h hn m8 U s σ H ac_ ac_ Q I rfl ⟨a,xs,rfl,hq,hl,hw⟩
open AutoSeq1 (wpAny_loadPart')
noncomputable abbrev rn(items:agI)(x:Value)(i:Nat)(_:akB):Sem (ForInStep akB):=
 match items[i]? with
 |some y=>do
  let c<-eqBool y x
  if c=true then do
   let r<-retInt (i:Int)
   pure (ForInStep.done (some r,()))
  else pure (ajZ (none,()))
 |_=>pure (ajZ (none,()))
section
variable {prog:ad2}{w:World}{A:ag0}{E:Value->Shared->Prop}
theorem ub(hi:amz)(hj:ns[j]?=some k)(vy:∀m,m<j->ns[m]?≠some k):
  ∀(m i:Nat) (s:ab_) (Q:akB->ab_->Prop),i<=j->j<i+m->i+m<=items.size->Q (some (.done (akL (azW j))),()) {s with toks:=s.toks+1}->
   wpAny aa4 A (forIn (List.range' i m) ((none,()):akB) (rn items (apa k))) Q E s
 |0,i,s,Q,h1,h2,_,_=>absurd h2 (acS h1)
 |m+1,i,s,Q,h1,h2,h3,h=>by
  have bj:aCt:=(aaO alx h3);have hl:ns.length=items.toList.length:=hi.length.symm;obtain⟨ti,ei⟩:=ints_get hi i items[i] (by simp[bj]);have hn:ns[i]?=some (ns.getD i 0):=by
   rw[aar,aac (by rw[hl];simpa using bj)];rfl
  rw[aeJ,ada];unfold rn;rw[aaB bj];show wpAny _ _ ((eqBool items[i] (apa k) >>= _) >>= _) _ _ s;rw[ei];refine aaa (aaa (aeH ?_));by_cases BX:i=j
  .subst BX;rw[hj]at hn;have e:ns.getD i 0=k:=(aaI hn).symm;rw[e,beq_self_eq_true,aav rfl];refine aaa ?_;unfold retInt ret;refine aaa (wpAny_mkInt (aaj (aaj aC2)))
  .have e:(ns.getD i 0==k)=false:=by
    rw[beq_eq_false_iff_ne];exact λz=>vy i (acB h1 BX) (by rw[hn,z])
   rw[e,aaC aai];exact aaj (ub hi hj vy m (i+1) s Q (acB h1 BX) (Bm akS h2) (NO akS h3) h)
end
def zT(l:Addr)(items:agI)(n:Nat)(dd:ahe)(sl:aoN)(hi:amz){j:Nat}(hj:ns[j]?=some k)(vy:∀m,m<j->ns[m]?≠some k):
  Meets (Builtin.«tuple.index» ⟨[ahI,.int k t],[]⟩)
   (λA R s=>s.heap.get? l=some {cls:= .type "tuple",dict:=dd,data:= .seq items n,slots:=sl}/\R (.ok (akL (azW j))) {s with toks:=s.toks+1}):=by
 intro prog w A R s h;obtain⟨hp,g,d,tk,os⟩:=s;obtain⟨hl,h⟩:=h;unfold Builtin.«tuple.index»;simp only[Std.Legacy.Range.forIn_eq_forIn_range'];wp_walk using acx hl;have RT:j<items.size:=by
  have q:=(aax.mp hj).1;have:=hi.length;simp at this;exact aah q aqi
 have Yn:(([:min items.size items.size]:Std.Legacy.Range)).size =items.size:=by simp[Std.Legacy.Range.size]
 rw[Yn];show wpAny _ _ (forIn (List.range' 0 items.size) ((none,()):akB) (rn items (apa k))) _ _ _;exact ub hi hj vy items.size 0 _ _ ao6 (Nat.lt_add_left _ RT) (aap azt)<|aaj h
def K0(K:aE):V->ad7->Hp->VK->Prop:=λx vs H Q=>∃(l:Addr) (ns:aa0) (k:Int) (j:Nat),at6/\vs=[agP]/\cP K H l ah7/\ns[j]?=some k/\(∀m,m<j->ns[m]?≠some k)/\Q (amh (j:Nat)) H
def BY:Ou X "tuple.index" (K0 X.K):=by
 intro U s σ H x vs v us Q I rx rv h;refine EY h λl ns k j ak aN hq hj vy q=>?_
 try clear h
 subst ak;subst aN;cases rx;obtain⟨u,rfl,t,rfl⟩:=vals1 rv;obtain⟨its,r,⟨⟨c,dd,dt,sl⟩,ho,hc,n,hd⟩,hz⟩:=I.tuple hq;have kJ:c= .type "tuple":=hc;have mz:aBQ:=hd;subst kJ mz;have hi:IntsAre its.toArray.toList ns:=by simpa using intsAre_of r
 exact call_meets afr ⟨_,ho,rfl⟩ PySem.F.entry_tuple_index (PySem.F.args_tuple_index_2 _ _) (zT l its.toArray n dd sl hi hj vy) ⟨ho,.int j,H,akN,aow,q⟩
def Yo(K:aE)(r:V->ad7->Hp->VK->Prop)(to:TE)(t:TA):TE:=λσ H Q=>to σ H λx H1=>(∃a xs,ajw/\aCJ)/\t σ H1 λxs H2=>r x xs H2 Q
def OW{id:ap5}(pa:PlainAttrs "tuple")(slot:Slot "tuple" name id)(Ox:typeOf aki=pure (.type "method_descriptor"))(hm:Ou X id r)(ho:ax_)(ha:alO)
  (jI:aiC)
  (Ks:((backTo dq (atY (e::es))).all (λx=>!x.1)&&(backToKw dq aqo).all (λx=>x.1.isSome)
   && decide ((e::es).length+([]:ans).length+(if([]:ans).isEmpty then 0 else 1)<30))=true)
  (jJ:am1=true) (hs:ab1) (vV:(backTo dq ag_).any (·.1)=false):
  PE X (amG (e::es)) (Yo X.K r to t):=by
 intro U s σ H Q I h;refine wpAny_Call_method_late jI Ks jJ rfl (bG ajH λv s1 zz=>?_);refine il zz λx H1 I1 r1 ty q1=>eO ty λa xs ak hq=>?_
 try clear ty
 subst ak;cases r1;obtain⟨its,rv,⟨ob,e1,e2,_,e4⟩,_⟩:=I1.JT hq;refine⟨"tuple",id,pa,slot,Ox,⟨ob,e1,e2⟩,λb z=>by cases z;exact⟨ob,e1,e4⟩,?_⟩;have hA:=ha dq U s1 σ H1 _ I1 q1;rw[hs]at hA⊢;refine acP (by show(false||(backTo dq (starEach es X.env)).any (·.1))=false;rw[vV]<;>rfl) (aeP ?_);exact bG hA λus s2 zz=>bg zz λvs H2 I2 Yp q2=>hm U s2 σ H2 ac_ vs ac_ us Q I2 rfl Yp q2
def FD(a b:Int)(t u:Tok):MeetsSeq.EqGives (apa a) (.int b u) (a==b):=λ_ _ _ _ _ _ h=>aeH h
noncomputable def OX(K:aE):V->ad7->Hp->VK->Prop:=λx vs H Q=>∃(l:Addr) (ns:aa0) (k:Int) (j:Nat),at6/\vs=[agP]/\cO K H l ah7/\ns[j]?=some k/\(∀m,m<j->ns[m]?≠some k)/\Q (amh (j:Nat)) H
def zU:Ou X "list.index" (OX X.K):=by
 intro U s σ H x vs v us Q I rx rv h;refine EY h λl ns k j ak aN hq h1 h2 q=>?_
 try clear h
 subst ak;subst aN;cases rx;obtain⟨wv,rfl,Yq⟩:=vals1 rv;obtain⟨u,rfl⟩:=Yq;obtain⟨its,r,pl,hz⟩:=I.list hq;have len:=r.length;rw[aad]at len;have at':∀(m:Nat) (hm:m<its.toArray.size),∃a t,its.toArray[m]= .int a t/\ns[m]?=some a:=λm hm=>by
  have zM:m<its.length:=by simpa using hm
  have FF:(ns.map V.int)[m]?=some (V.int (ns[m]' apz)):=by rw[aau,aac apz];rfl
  refine aa (r.get FF) λw' e1 e2=>?_;obtain⟨t,e3⟩:=e2;refine⟨_,t,?_,aac apz⟩;rw[<-e3];have:its[m]?=some its[m]:=aac zM;rw[this]at e1;simpa using e1
 have Yr:j<ns.length:=(aax.mp h1).1;have RT:j<its.toArray.size:=by simpa using ((aah Yr (aap len)):j<its.length)
 let e:Value->Bool:=λy=>match y with| .int a _=>a==k|_=>false
 have ee:∀y,y∈its.toArray->MeetsSeq.EqGives y (.int k u) (e y):=λy hy=>by
  obtain⟨m,hm,rfl⟩:=agb.mp hy;refine eO (at' m hm) λa t q1 _=>?_;rw[q1];exact FD a k t u
 obtain⟨⟨c0,d0,dt0,Ys⟩,n,hl,T9,RU,OY⟩:=pl;dsimp only at T9 RU OY;subst T9 RU OY;refine eO (at' j RT) λaj tj qj zj=>?_;have t9:e its.toArray[j]=true:=by
  rw[h1]at zj;cases zj;show(match its.toArray[j]with| .int a _=>a==k|_=>false)=true;rw[qj];exact beq_self_eq_true _
 have vy:∀m (hm:m<its.toArray.size),m<j->e its.toArray[m]=false:=λm hm Yt=>by
  refine eO (at' m hm) λa t q1 q2=>?_;show(match its.toArray[m]with| .int a _=>a==k|_=>false)=false;rw[q1];exact beq_eq_false_iff_ne.mpr λy=>h2 m Yt (by rw[q2,y])
 have jk:(j:Int)<2 ^ 63-1:=by
  have FF:ns.length<=16777216:=by
   have:=hz;rw[aad,sizeLine_eq]at this;exact this
  lia
 exact call_meets F.slot_list_index (show s.TypeIs ahI "list" from⟨_,hl,rfl⟩) F.entry_list_index (F.args_list_index_2 _ _) (SeqAt.list_indexAt l its.toArray n none Ys (.int k u) e j RT jk t9 vy) ⟨hl,λy hy=>(ee y hy).at _ _,.int j,H,I.kept (t':=s.toks+1) λ_ _ q=>q,aow,q⟩
open AutoSeq1 (wpAny_loadPart')
abbrev OZ(a c:Int):Nat->Value->Prop:=λi v=>∃t,v= .int (a+i*c) t
section
variable {prog:ad2}{w:World}{A:ag0}{E:Value->Shared->Prop}{s:ab_}
def pM{n:Nat}(hh:af5)(hr:aol)(jk:anv)
  (hn:am8) (aI:n<=2 ^ 24)
  (hQ:∀h' tk acc,(∀b o,ab4->ae0)->amV->Q acc.toList {s with heap:=h',toks:=tk}):wpAny aa4 A (collect (akX r)) Q E s:=by
 unfold collect;refine aaa (wpAny_runValue (aca F.entry_proto_collect ?_));rw[acp F.plain_proto_collect _];show wpAny _ A.in1 (newList [] >>= λl=>again (.builtin "list.__iadd__" ⟨[l,.ref r],[]⟩)) _ _ s;refine aaa (abg ?_);refine aaj ⟨plainId_quiet F.plain_list_iadd _,aca F.entry_list_iadd ?_⟩;rw[acp F.plain_list_iadd _];show wpAny _ A.in1 (Builtin.List.listExtendWith ab7 (akX r) ab7) _ _ _;have hS:(s.heap.push {cls:= .type "list",data:= .seq ([]:ab2).toArray}).get? s.heap.objs.size=some {cls:= .type "list",data:= .seq #[] 0}:=aas _ rfl
 let RR:Result->Shared->Prop:=λr s'=>∃(h':Heap) (tk:Nat) (acc:agI) (c':Nat),r= .ok (akL ab7)/\s'={s with heap:=h',toks:=tk}/\
  (∀b o,ab4->ae0)/\h'.get? s.heap.objs.size=some {cls:= .type "list",dict:=none,data:= .seq acc c',slots:=#[]}/\ItemsOf (OZ a c) acc n
 have wk:∀(h':Heap) (tk:Nat) (acc:agI) (c':Nat),(∀b o,ab4->ae0)->h'.get? s.heap.objs.size=some {cls:= .type "list",dict:=none,data:= .seq acc c',slots:=#[]}->amV->
   wpAny aa4 A (match Value.ref s.heap.objs.size with
    |Value.ref a=>do
     match (<-load a).data with
      |Data.seq xs _=>pure xs.toList
      |_=>unsupported "internal:collect"
    |_=>unsupported "internal:collect") Q E {s with heap:=h',toks:=tk}:=λh' tk acc c' hk BZ mh=>by
  show wpAny _ A (load s.heap.objs.size >>= _) _ _ _;exact aaa (wpAny_load BZ (aaj (hQ h' tk acc hk mh)))
 refine aco (wpAny_extend_range (A:=A) (R:=RR) (s:={s with heap:=s.heap.push {cls:= .type "list",data:= .seq ([]:ab2).toArray}}) hh (aab _ hr) jk hn aI _ ab7 _ hS λh' tk K1 c' hk BZ mh=>⟨h',tk,K1,c',rfl,rfl,λb o e=>hk b o ax0 ail,BZ,mh⟩) (λfin s' h=>?_) (λe s' h=>?_)
 .cases fin with
  |done f=>
   refine vG h λh' tk acc c' e ak hk BZ mh=>?_
   try clear h
   subst ak;cases e;exact wk h' tk acc c' hk BZ mh
  |again c'=>
   refine⟨h.1,aeB h.2 λr Of hr=>?_⟩;refine vG hr λh' tk acc c' e aN hk BZ mh=>?_
   try clear hr
   subst aN;subst e;exact wk h' tk acc c' hk BZ mh
 .refine mr h λh' tk acc c' e _=>?_;cases e
end
def wm{n:Nat}(jk:anv)(hn:am8)(aI:n<=2 ^ 24):
  Meets (Builtin.«tuple.__new__» ⟨[.type "tuple",.ref r],[]⟩)
   (λA R s=>af5/\aol/\∀(h':Heap) (tk:Nat) (acc:agI),(∀b o,ab4->ae0)->amV->
    R (.ok (akL (akX h'.objs.size))) {s with heap:=h'.push {cls:= .type "tuple",data:= .seq acc},toks:=tk}):=
 .of_wp λprog w A R s h=>by
  obtain⟨hp,g,d,Yu,os⟩:=s;refine cY h λhh hr h=>?_;have O0:=sub_tuple_self;have V7:=init_tuple_lookup;have hmh:=madeHere_tuple;have hT:Shared.TypeIs ⟨hp,g,d,Yu,os⟩ (akX r) "range":=⟨_,hr,rfl⟩;have Yv:A.in1.handled=none:=hh;wp_walk using acx hr,adA hT,pM Yv hr jk hn aI;intro h' tk acc hk mh;show wpAny _ _ (Builtin.Tuple.tupleExact acc.toList.toArray >>= λv=>ret v) _ _ _;unfold Builtin.Tuple.tupleExact;refine aaa (abg ?_ (show acc.toList.toArray.size<=sizeLine by simp only[agi];rw[mh.1,sizeLine_eq];exact aI));refine aaj ⟨_,rfl,?_⟩;have e:acc.toList.toArray=acc:=by simp
  rw[e];exact h h' tk acc hk mh
section
variable {prog:ad2}{w:World}{A:ag0}{E:Value->Shared->Prop}{s:ab_}
def zV{n:Nat}(hh:af5)(hr:aol)(jk:anv)(hn:am8)(aI:n<=2 ^ 24)
  (h:∀(h':Heap) (tk:Nat) (acc:agI),(∀b o,ab4->ae0)->amV->Q (akX h'.objs.size) {s with heap:=h'.push {cls:= .type "tuple",data:= .seq acc},toks:=tk}):
  wpAny aa4 A (call (.type "tuple") [.ref r]) Q E s:=
 callType_new F.called_tuple aa2 (F.typeCall_tuple_1 _) (F.newCall_tuple_1 _) (λobj=>aeQ obj _) F.entry_tuple_new (wm jk hn aI)
  ⟨hh,hr,λh' tk acc hk mh=>⟨art,h h' tk acc hk mh⟩⟩
end
open AutoSeq1 (wpAny_loadPart')
theorem xl:∀{bs:apB}{us:ab2},aF (bs.map V.bl) us->us=bs.map Value.bool
 |[],_,.nil =>rfl
 |b::bs,_,.cons r t=>by
  have e:_=Value.bool b:=r;rw[e,xl t];rfl
section
variable {prog:ad2}{w:World}{A:ag0}{E:Value->Shared->Prop}{s:ab_}{l:Addr}
def uc(A:ag0)(bs:apB):TruthOf prog w A (λi v=>(bs.map Value.bool).toArray[i]?=some v) (λi=>awD):=λi v s Q E hP hQ=>by
 have q:(bs.map Value.bool)[i]?=some v:=by simpa using hP
 rw[aau]at q;cases e:bs[i]? with
 |none=>rw[e]at q;cases q
 |some b=>
  rw[e]at q;cases q;have:bs.getD i false=b:=by rw[aar,e];rfl
  have V8:Q awD s:=hQ;rw[this]at V8;exact acf V8
def all_range{bs:apB}:(List.range bs.length).all (λi=>awD)=bs.all id:=by
 rw[Bool.eq_iff_iff,abI,abI];constructor
 .intro h b hb;obtain⟨i,hi,rfl⟩:=List.mem_iff_getElem.mp hb;have:=h i (aaY.mpr hi);rw[aar,aac hi]at this;exact this
 .intro h i hi;have gM:=aaY.mp hi;rw[aar,aac gM];exact h _ (acU gM)
def B0{bs:apB}(hh:af5)(hl:s.heap.IsList l (bs.map Value.bool).toArray)
  (h:∀h' tk,(∀b o,ab4->ae0)->Q (aDH asC) {s with heap:=h',toks:=tk}):wpAny aa4 A (as6 (.builtin "all")) Q E s:=by
 have bj:api:=by obtain⟨_,e,_⟩:=hl;exact aaz e
 refine call_all_walk (acJ hl ?_);refine⟨_,[_,l],[_],_,_,_,_,rfl,agD (A:=A.in1) hh s.heap.objs.size l (aaJ bj) _,as8,uc _ bs,λh' tk hk=>?_⟩;have e:(bs.map Value.bool).toArray.size =bs.length:=by simp
 rw[e,all_range];refine h h' tk λb o z=>hk b o (λhm=>?_) (aab _ z);rw[aak.mp hm]at z;exact absurd (aaz z) amK
end
section
variable {X:Cx}
def zW(hc:agH):cR X (.builtin "all") (λxs H Q=>∃(p:Addr) (bs:apB),anc/\cO X.K H p (bs.map V.bl)/\Q (.bl asC) H):=by
 intro U s σ H xs us Q I r zz;refine bg zz λp bs e hq q=>?_;subst e;refine aa am0 λu ak rx=>?_;subst ak;cases rx;refine bF ajM λits rv pl hz=>?_;rw[xl rv]at pl;exact B0 agY pl.isList λh' tk hk=>⟨.bl _,H,I.kept (t':=tk) hk,rfl,q⟩
end
section
variable {prog:ad2}{w:World}{A:ag0}{E:Value->Shared->Prop}{s:ab_}
end
section
variable {X:Cx}
theorem jP:∀{us:ab2}{ns:aa0},IntsAre us ns->aF ah7 us
 |_,_,.nil => .nil
 |_,_,.cons n t r=> .cons ⟨t,rfl⟩ (jP r)
def FG:lR X aob (λx y H Q=>∃a b ys,ajw/\aru/\cP X.K H a []/\cP X.K H b ys/\Q ajh H):=by
 intro U s σ H x y v u Q I rx ry zz;refine vx zz λa b ys e1 e2 h1 h2 q=>?_;subst e1 e2;cases rx;cases ry;obtain⟨its,r1,⟨⟨c,dd,dt,sl⟩,ho,hc,n,hd⟩,_⟩:=I.tuple h1;obtain⟨jh,r2,⟨⟨c2,Iu,dt2,Iv⟩,EH,Iw,n2,nu⟩,_⟩:=I.tuple h2;cases r1;simp only at hc hd Iw nu;subst hc hd Iw nu;exact concat_meets ⟨_,ho,rfl⟩ ⟨_,EH,rfl⟩ noFill_tuple_add seq_tuple_add aep aee (adX _ _)
  (tuple_addW0 a b _ jh.toArray n n2 dd Iu sl Iv ab5) ⟨ho,EH,ajh,H,I,rfl,q⟩
end
open HT
open AutoSeq1 (wpAny_loadPart')
section
variable {prog:ad2}{w:World}{A:ag0}{E:Value->Shared->Prop}{s:ab_}
def pN(ht:asL)(h:Q true s):wpAny aa4 A (Builtin.Tuple.tupleIsExact ao3) Q E s:=by
 unfold Builtin.Tuple.tupleIsExact;exact aaa (adA ht.typeIs (aaj (by simpa using h)))
def iW{lo hi:agK}(ht:asL)(hs:ajz)(pl:awd)(pu:awc)
  (hw:cJ items.size 0 lo=0/\asa) (h:Q ao3 s):arj:=by
 refine bF (id hs) λos Kl tM Oo=>?_;have Fg:s.TypeIs (akX sl) "slice":=⟨os,Kl,tM⟩;unfold getItem
 try with_reducible refine abi ?_
 first|refine aaa (aaj ?_)|skip
 refine aaa (wpAny_sequenceKey ht.typeIs aa2 ?_);refine aaa (abE (name:=Str.ofString "__getitem__") ht.typeIs abK (abm abK ht.typeIs entry_tuple_getitem ?_ ayG));show wpAny _ _ (Builtin.Tuple.tupleItemsOf ao3 >>= _) _ _ s;refine aaa (tupleItemsOf_ ht ?_);refine aaa (adA Fg ?_);rw[aav aa2];refine aaa (fD hs pl pu ?_);have T_:ad3=true:=by
  rw[hw.1,hw.2];simp
 show wpAny _ _ (if ad3=true then _ else _) _ _ s;rw[aav T_];refine aaa (pN ht ?_);rw[aav rfl];exact aaa (adq ajI)
end
section
variable {X:Cx}
def O1(K:aE):V->agK->agK->Hp->VK->Prop:=λx lo hi H Q=>∃a xs,ajw/\aji/\(cJ xs.length 0 lo=0/\cJ xs.length xs.length hi=xs.length)/\Q x H
def B1:EI X (O1 X.K):=by
 intro U s σ H x v vl vu lo hi sl Q I rx hs pl pu h;refine il h λa xs ak hx hw q=>?_
 try clear h
 subst ak;cases rx;refine bF (I.tuple hx) λits r ht hz=>?_;have aI:ayu:=by rw[aaq];exact r.length.symm
 exact⟨"tuple",_,abK.lookup,ht.typeIs,iW ht hs pl pu (by rw[aI];exact hw) ⟨ac_,H,I,rfl,q⟩⟩
def FH:EI X (λx lo hi H Q=>Ot X.K x lo hi H Q\/O1 X.K x lo hi H Q):=Km.or B1
end
end L2
namespace L2
open PySem PyProof.Rows
open PySem.Spec
section
variable {κ:Type}[DecidableEq κ]
noncomputable def kW(kvs:akk)(k:κ):aoJ:=(kvs.find? λkv=>amq).map (·.2)
noncomputable def fm(kvs:akk)(k:κ)(v:V):akk:=
 if (kvs.any λkv=>amq)=true then kvs.map (λkv=>if kv.1=k then(kv.1,v) else kv) else kvs++[(k,v)]
def jQ{r:akk}(e:p.1=k):kW (p::r) k=some p.2:=by simp[kW,acN,e]
def jR{r:akk}(e:¬p.1=k):kW (p::r) k=kW r k:=by simp[kW,acN,e]
theorem ud(k:κ):∀kvs:akk,(kvs.any λkv=>amq)=(kW kvs k).isSome
 |[]=>rfl
 |p::r=>by
  rw[aeg];by_cases e:p.1=k
  .simp only[jQ e,decide_eq_true e,Bool.true_or,agz]
  .rw[jR e,decide_eq_false e,Bool.false_or];exact ud k r
def gP(kvs:akk)(k:κ)(v:V):(fm kvs k v).length <=kvs.length+1:=by
 unfold fm;split
 .rw[aad];exact aba _ _
 .rw[aan,aaF,acL];exact aam _
def pD.fG(r:pD o u):o.isSome=u.isSome:=by
 cases o with
 |none=>cases u with
  |none=>rfl
  |some _=>exact(show False from r).elim
 |some _=>cases u with
  |none=>exact(show False from r).elim
  |some _=>rfl
def KV.val{kvs:akk}(r:ak8)(k:κ):pD (kW kvs k) (valueAt vs k):=by
 unfold KV at r;induction r with
 |nil=>exact True.intro
 |@cons p q ps qs h t ih=>
  obtain⟨h1,h2⟩:=h;by_cases e:p.1=k
  .have e':q.1=k:=h1.symm.trans e;have b:valueAt (q::qs) k=some q.2:=by simp[valueAt,acN,e']
   rw[jQ e,b];exact h2
  .have e':¬q.1=k:=λz=>e auX;have b:valueAt (q::qs) k=valueAt qs k:=by simp[valueAt,acN,e']
   rw[jR e,b];exact ih
theorem KV.any(r:ak8)(k:κ):(kvs.any λkv=>amq)=vs.any λkv=>decide (kv.1=k):=by
 unfold KV at r;induction r with
 |nil=>rfl
 |cons h t ih=>rw[aeg,aeg,ih,h.1]
def KV.K2(r:ak8)(k:κ)(ry:anj):
  KV (kvs.map λkv=>if kv.1=k then(kv.1,y) else kv) (vs.map λkv=>if kv.1=k then(kv.1,u) else kv):=by
 unfold KV at r⊢;induction r with
 |nil=>exact .nil
 |@cons p q ps qs h t ih=>
  rw[aaK,aaK];refine .cons ?_ ih;obtain⟨h1,h2⟩:=h;by_cases e:p.1=k
  .rw[aav e,aav (h1.symm.trans e)];exact⟨h1,ry⟩
  .rw[aaC e,aaC (λz=>e auX)];exact⟨h1,h2⟩
def KV.put(r:ak8)(k:κ)(ry:anj):KV (fm kvs k y) (stored vs k u):=by
 unfold fm stored;rw[r.any k];by_cases e:(vs.any λkv=>amq)=true
 .rw[aav e,aav e];exact r.K2 k ry
 .rw[aaC e,aaC e];exact Paired.snoc r ⟨rfl,ry⟩
def KV.keys{vs:awU}(r:ak8):kvs.map (·.1)=vs.map (·.1):=by
 unfold KV at r;induction r with
 |nil=>rfl
 |cons h t ih=>rw[aaK,aaK,ih,h.1]
theorem KV.length(r:ak8):kvs.length=vs.length:=adk r
end
def qb(r:RelV (kV k) u):(aV P w).is k u=true:=by
 cases k with
 |inl i=>obtain⟨t,e⟩:=(show∃t,u=Value.int i t from r);subst e;exact tf P w i t
 |inr x=>obtain⟨t,e⟩:=(show∃t,u=Value.str x t from r);subst e;exact tm P w x t
theorem qc:∀{ks:List cD}{us:ab2},aF (ks.map kV) us->ItemsAre aoX ks us
 |[],_,r=>by rw[afe]at r;cases r;exact .nil
 |k::ks,_,r=>by
  rw[aaK]at r;cases r with
  |cons h t=>exact .cons (qb h) (qc t)
abbrev KT(H:Hp):ah9->ak7->Prop:=Paired λp q=>p.1=q.1/\H q.2.1=some ats/\RelV p.2 q.2.2
def KT.val{kvs:ah9}(r:aqx)(k:List cD):pD (kW kvs k) ((atKey xs k).map (·.2)):=by
 induction r with
 |nil=>exact True.intro
 |@cons p q ps qs h t ih=>
  refine cY h λh1 _ h2=>?_;by_cases e:p.1=k
  .have e':q.1=k:=h1.symm.trans e;have b:atKey (q::qs) k=some q.2:=by simp[atKey,acN,e']
   rw[jQ e,b];exact h2
  .have e':¬q.1=k:=λz=>e auX;have b:atKey (q::qs) k=atKey qs k:=by simp[atKey,acN,e']
   rw[jR e,b];exact ih
def KT.K2(r:aqx)(k:List cD)(ry:anj):
  KT H (kvs.map λkv=>if kv.1=k then(kv.1,y) else kv) (xs.map (putAt k u)):=by
 induction r with
 |nil=>exact .nil
 |@cons p q ps qs h t ih=>
  rw[aaK,aaK];refine .cons ?_ ih;refine cY h λh1 h2 h3=>?_;unfold putAt;by_cases e:p.1=k
  .rw[aav e,aav (h1.symm.trans e)];exact⟨h1,h2,ry⟩
  .rw[aaC e,aaC (λz=>e auX)];exact⟨h1,h2,h3⟩
def KT.put(r:aqx)(k:List cD)(hb:apC)(ry:anj):
  KT H (fm kvs k y) (storedH xs k b u):=by
 have e:(kvs.any λkv=>amq)=(atKey xs k).isSome :=by
  rw[ud,(r.val k).fG,afs]
 unfold fm storedH;rw[e];by_cases q:(atKey xs k).isSome =true
 .rw[aav q,aav q];exact r.K2 k ry
 .rw[aaC q,aaC q];exact Paired.snoc r ⟨rfl,hb,ry⟩
def KT.keeps(r:aqx)(ht:∀b ys,H b=some av0->H' b=some av0):KT H' kvs xs:=
 Paired.NS r λ_ _ z=>⟨z.1,ht _ _ z.2.1,z.2.2⟩
section
variable {P:ad2}{w:World}{H:Hp}{h:Heap}{a:Addr}
def IJ(ok:akI)(e:Rd H a u):aT P w H h a u:=e.ok ok
def jS(ok:akI)(e:aAj):aiz/\ahc/\∃vs,ak8/\h.DictOf aoX a vs:=
 show aT P w H h a alE from IJ ok e
def IK(ok:akI)(e:H a=some alE):aiz/\ahc/\∃vs,ak8/\h.DictOf aoX a vs:=jS ok (akf e)
def jl(ok:akI)(e:H a=some aul):(tupleKind aoX).is h ks a:=by
 obtain⟨_,its,r,o,h1,h2,⟨n,h3⟩,_⟩:=(show aT P w H h a aul from ok a _ e);exact⟨o,its.toArray,n,h1,h2,h3,by simpa using qc r⟩
def nI(ok:akI)(e:aAk):aiz/\ahc/\
  ∃xs,aqx/\avR:=by
 obtain⟨z,y,xs,r,o,es,ep,h1,h2,h3,h4,h5⟩:=(show aT P w H h a alD from IJ ok e);refine⟨z,y,xs,r,o,es,ep,h1,h2,h3,h4,λx hx=>?_,h5⟩;have all:∀{l:ah9}{m:ak7},KT H l m->∀x∈m,(tupleKind aoX).is h x.1 x.2.1:=by
  intro l m q;induction q with
  |nil=>intro x hx;exact nomatch hx
  |@cons p q ps qs hq t ih=>
   intro x hx;rcases aat.mp hx with e|hx
   .subst e;exact jl ok (by rw[<-hq.1];exact hq.2.1)
   .exact ih x hx
 exact all r x hx
def xm(ok:akI)(e:H a=some alD):aiz/\ahc/\
  ∃xs,aqx/\avR:=nI ok (akf e)
end
def rq(H:Hp)(a:Addr)(y:V)(r:aoJ):Prop:=
 (∃kvs k,aAj/\y=kV k/\r=kW kvs k)\/∃kvs k b,aAk/\aru/\apC/\r=kW kvs k
def K3(H:Hp)(a:Addr)(y v:V)(H':Hp):Prop:=
 (∃kvs k,H a=some alE/\y=kV k/\kvs.length<sizeLine/\H'=upd H a (.dK (fm kvs k v)))\/
 ∃kvs k b,H a=some alD/\aru/\apC/\kvs.length<sizeLine/\H'=upd H a (.dT (fm kvs k v))
section
variable {X:Cx}{U:aa8}{σ:St}{H:Hp}{s:ab_}{a:Addr}{y v:V}{u r:Value}{o:aoJ}{A:ag0}{E:Value->Shared->Prop}
def Inv.big(I:aa3):sysModules<s.heap.objs.size:=by
 have h:mainGlobals<s.heap.objs.size:=(I.mod.glob.keeps I.bk).lt;exact adi aa2 h
def zX(hu:arV)(I:aa3)(g:rq H a y amJ)(ry:anj)(h:∀w' s',ayd->RelV v w'->Q w' s'):
  wpAny aa7 A (getItem ac_ u) Q E s:=by
 rcases g with⟨kvs,k,e,ey,l⟩|⟨kvs,k,b,e,ey,eb,l⟩
 .subst ey;obtain⟨z,hd,vs,eK,dd⟩:=jS I.aR e;exact aa (pD.some_of (v:=v) (o:=valueAt vs k) (by rw[l];exact eK.val k)) λw' hw BG=>wpAny_getItem_of aCn dd.mapOf hw (h w' _ akN BG)
 .subst ey;cases (show u=Value.ref b from ry);obtain⟨z,hd,xs,eK,dd⟩:=nI I.aR e;refine aa (pD.some_of (v:=v) (o:=(atKey xs k).map (·.2)) (by rw[l];exact eK.val k)) λw' hw BG=>aa (abY.mp hw) λp hp B3=>wpAny_getItem_heap al_ auV dd hp ?_;rw[B3];exact h w' _ akN BG
def Ua(hu:arV)(I:aa3)(g:rq H a y o)(ry:anj)(h:∀s',ayd->Q (aDH o.isSome) s'):
  wpAny aa7 A (compareOp .In u ac_) Q E s:=by
 rcases g with⟨kvs,k,e,ey,l⟩|⟨kvs,k,b,e,ey,eb,l⟩
 .subst ey;obtain⟨z,hd,vs,eK,dd⟩:=jS I.aR e;refine wpAny_in_of aCn hd dd.mapOf ?_;rw[<-(eK.val k).fG,<-l];exact h _ akN
 .subst ey;cases (show u=Value.ref b from ry);obtain⟨z,hd,xs,eK,dd⟩:=nI I.aR e;refine wpAny_in_heap al_ auV hd dd ?_;have q:=(eK.val k).fG;rw[afs]at q;rw[<-q,<-l];exact h _ akN
def FI(hu:arV)(I:aa3)(g:rq H a y o)(ry:anj)(h:∀s',ayd->Q (aDH (!o.isSome)) s'):
  wpAny aa7 A (compareOp .NotIn u ac_) Q E s:=by
 rcases g with⟨kvs,k,e,ey,l⟩|⟨kvs,k,b,e,ey,eb,l⟩
 .subst ey;obtain⟨z,hd,vs,eK,dd⟩:=jS I.aR e;refine wpAny_notIn_of aCn hd dd.mapOf ?_;rw[<-(eK.val k).fG,<-l];exact h _ akN
 .subst ey;cases (show u=Value.ref b from ry);obtain⟨z,hd,xs,eK,dd⟩:=nI I.aR e;refine wpAny_notIn_heap al_ auV hd dd ?_;have q:=(eK.val k).fG;rw[afs]at q;rw[<-q,<-l];exact h _ akN
def jT(I:aa3)(mu:Bn (H a))(hs:ajC)(he:∃q,h'.get? a=some q)(new:aT X.prog X.w (upd H a ob) h' a ob):
  Inv X U σ (upd H a ob) {s with heap:=h',toks:=t'}:=
 I.write (x:=a) (e:=a) mu agR (λb q hb z=>(hs.2 b hb).trans z) he new
def B4(z:aiz)(hd:ahc)(eK:ak8)(dd:h'.DictOf aoX a vs):
  aT P w H' h' a alE:=⟨z,hd,vs,eK,dd⟩
def zY(hu:arV)(I:aa3)(g:K3 H a y v H')(ry:anj)(rv:RelV v r)(h:∀s',aiv->Q () s'):
  wpAny aa7 A (setItem ac_ u r) Q E s:=by
 rcases g with⟨kvs,k,e,ey,l,eH⟩|⟨kvs,k,b,e,ey,eb,l,eH⟩
 .subst ey eH;obtain⟨z,hd,vs,eK,dd⟩:=IK I.aR e;have hz:as_:=by rw[<-eK.length];exact z
  have hl:(fm kvs k v).length <=sizeLine:=by have:=gP kvs k v;exact aaf this l
  refine wpAny_setItem_pairs (hsz:=hz) aCn dd λh' B5 hs=>h _ ?_;have he:∃q,h'.get? a=some q:=let ⟨q,_,_,hq,_⟩:=B5;⟨q,hq⟩;exact jT I (by rw[e];exact True.intro) hs he (B4 hl hd (eK.put k rv) B5)
 .subst ey eH;cases (show u=Value.ref b from ry);obtain⟨z,hd,xs,eK,dd⟩:=xm I.aR e;have hz:ah6:=by rw[<-adk eK];exact z
  have hl:(fm kvs k v).length <=sizeLine:=by have:=gP kvs k v;exact aaf this l
  refine wpAny_setItem_heap (hsz:=hz) al_ auV dd λh' B5 hs=>h _<|Nf B5 λq es ep hq h2 h3 h4 _ h5=>?_;refine jT I (by rw[e];exact True.intro) hs ⟨q,hq⟩ ⟨hl,hd,_,(eK.put k eb rv).keeps λc ys ec=>?_,q,es,ep,hq,h2,h3,h4,h5⟩;rw[aq (c8 ec e (λz=>nomatch z))];exact ec
end
def FJ(i:Expr):Prop:=∀ov iv,subscripted i false ov iv=operate [ov,iv] (getItem ov iv)
def FK{T id:ap5}
  (hl:typeLookup aBo "__getitem__"=pure (ajU aki)) (hs:FJ slice)
  (h:wpAny aa4 A (avC value) (λo aY=>wpAny aa4 A (avC slice) (λi m7=>m7.TypeIs o T/\wpAny aa4 A (getItem o i) Q E m7) E aY) E s):
  wpAny aa4 A (avC (.Subscript value slice pos)) Q E s:=by
 refine Subscript_ (aco h (λo aY Fq=>aco Fq (λi m7 BM=>?_) λ_ _ x=>x) λ_ _ x=>x);obtain⟨hT,BM⟩:=BM;unfold subscriptTail;refine aaa ?_;rw[getitemInPython_of_ne hT.not_modules];refine aaa (aef hT hl ?_);have fin:wpAny aa4 A (subscripted slice false o i) (λr zK=>wpAny aa4 A (letTemporaryGo value o r >>= λ_=>pure r) Q E zK) E m7:=by
  rw[hs o i];exact wpAny_operating (aco BM (λr zK Fs=>aaa (wpAny_letTemporaryGo (aaj Fs))) λ_ _ x=>x)
 first
  |exact aaj (aaa fin)
  |exact aaa (aaj (aaa fin))
  |exact aaa fin
def ue(I:aa3)(g:rq H a y o):s.TypeIs ac_ "dict":=by
 rcases g with⟨kvs,k,e,_,_⟩|⟨kvs,k,b,e,_,_,_⟩
 .obtain⟨_,_,vs,_,dd⟩:=jS I.aR e;exact dd.typeIs
 .obtain⟨_,_,xs,_,dd⟩:=nI I.aR e;exact dd.typeIs
def O3(td ty:TE):TE:=λσ H Q=>td σ H λx H1=>ty σ H1 λy H2=>∃a v,ajw/\rq H2 a y amJ/\Q v H2
def Ub(ty td:TE):TE:=λσ H Q=>ty σ H λy H1=>td σ H1 λx H2=>∃a o,ajw/\rq H2 a y o/\Q (.bl o.isSome) H2
def FL(ty td:TE):TE:=λσ H Q=>ty σ H λy H1=>td σ H1 λx H2=>∃a o,ajw/\rq H2 a y o/\Q (.bl (!o.isSome)) H2
def xo(td ty tv:TE):TS:=λD σ H=>tv σ H λv H1=>td σ H1 λx H2=>ty σ H2 λy H3=>∃a H4,ajw/\K3 H3 a y v H4/\D.nx σ H4
section
variable {X:Cx}{o i e value:Expr}{pos tG tpos:Pos}{td ty tv:TE}
def FN(hu:alj)(ho:aDf)(hi:aDg)(hs:FJ i):PE X arY (O3 td ty):=by
 intro U s σ H Q I h;refine FK PySem.F.slot_dict_getitem.lookup hs (bG ajH λu s1 zz=>bg zz λx H1 I1 rx q1=>bG ay7 λiv s2 zz=>?_);obtain⟨y,H2,I2,ry,a,v,ex,g,q2⟩:=zz;subst ex;obtain rfl:u=Value.ref a:=rx;exact⟨ue I2 g,zX hu I2 g ry λw' s3 I3 BG=>⟨v,H2,I3,BG,q2⟩⟩
def K4(hu:alj)(hi:aDg)(ho:aDf):PC X .In i o (Ub ty td):=by
 intro U s σ H Q I h;refine bG an7 λiv s1 zz=>bg zz λy H1 I1 ry q1=>bG apS λu s2 zz=>?_;obtain⟨x,H2,I2,rx,a,ov,ex,g,q2⟩:=zz;subst ex;obtain rfl:u=Value.ref a:=rx;exact Ua hu I2 g ry λs3 I3=>⟨.bl ov.isSome,H2,I3,rfl,q2⟩
def zZ(hu:alj)(hi:aDg)(ho:aDf):PC X .NotIn i o (FL ty td):=by
 intro U s σ H Q I h;refine bG an7 λiv s1 zz=>bg zz λy H1 I1 ry q1=>bG apS λu s2 zz=>?_;obtain⟨x,H2,I2,rx,a,ov,ex,g,q2⟩:=zz;subst ex;obtain rfl:u=Value.ref a:=rx;exact FI hu I2 g ry λs3 I3=>⟨.bl (!ov.isSome),H2,I3,rfl,q2⟩
def xp(hu:alj)(ho:aDf)(hi:aDg)(hv:PE X value tv)(hs:swapsWith value (ajU (.Subscript o i tG)) pos.line X.env=pure false):
  PS X (.Assign [.Subscript o i tG] value pos) (xo td ty tv):=by
 intro U s σ H D I h;refine wpAny_Assign_Subscript (bG (hv U s σ H _ I h) λr s1 ⟨v,H1,I1,rv,q1⟩=>bG apS λu s2 ⟨x,H2,I2,rx,q2⟩=>bG (hi U s2 σ H2 _ I2 q2) λiv s3 ⟨y,H3,I3,ry,a,H4,ex,g,q3⟩=>?_) hs;subst ex;obtain rfl:u=Value.ref a:=rx;exact zY hu I3 g ry rv λs4 I4=>⟨σ,H4,I4,q3⟩
end
def B6(h:Heap)(hb:aBL):aT P w H (h.push {cls:= .type "dict",data:= .dict #[]}) h.objs.size azM:=
 ⟨abk _,asd,[],.nil,Heap.DictOf.new h⟩
def uf(h:Heap)(hb:aBL):aT P w H (h.push {cls:= .type "dict",data:= .dict #[]}) h.objs.size awi:=
 ⟨abk _,asd,[],.nil,_,#[],0,agU,⟨rfl,rfl,rfl⟩,rfl,rfl,ads⟩
def K5:TE:=λ_ H Q=>∀p,akp->Q ahg (auM awi)
section
variable {X:Cx}{pos:Pos}
def B7:PE X (.Dict [] [] pos) K5:=λU s σ H Q I h=>
 wpAny_Dict_empty ⟨ab7,_,I.laid (a:=s.heap.objs.size) (o:= .dT []) (t':=s.toks) (λ_ _ q=>axY) ad0 (uf s.heap I.big),rfl,h _ ant⟩
end
structure M1(X:Cx)(o:Expr)(m:Str)(jF:Pos)(e:Expr)(dq:Pos):Prop where
 base:attributeBase o m X.env (ajY o)=eval o X.env
 kX:((backTo dq (atY [e])).all (λx=>!x.1)&&(backToKw dq aqo).all (λx=>x.1.isSome)
  && decide (([e]:ag7).length+([]:ans).length+(if([]:ans).isEmpty then 0 else 1)<30))=true
 line:am1=true
 trees:backTo dq (atY [e])=[asR]
def V9(H:Hp)(a:Addr):Prop:=(∃kvs,aAj)\/∃kvs,Rd H a alD
def B8(I:aa3)(d:V9 H a):
  s.TypeIs ac_ "dict"/\(∀b,Value.ref a= .ref b->∃ob,aCk/\ob.dict=none)/\ahc:=by
 rcases d with⟨kvs,e⟩|⟨kvs,e⟩
 .obtain⟨_,hd,vs,_,dd⟩:=jS I.aR e;refine⟨dd.typeIs,λb q=>?_,hd⟩;cases q;exact cC dd λob _ _ h1 h2 _=>⟨ob,h1,h2.2.1⟩
 .obtain⟨_,hd,xs,_,dd⟩:=nI I.aR e;refine⟨dd.typeIs,λb q=>?_,hd⟩;cases q;exact cC dd λob _ _ h1 h2 _=>⟨ob,h1,h2.2.1⟩
section
variable {X:Cx}{U:aa8}{σ:St}{H:Hp}{s:ab_}{a:Addr}{y d:V}{u r:Value}{o:aoJ}{A:ag0}{E:Value->Shared->Prop}
end
section
variable {X:Cx}{o e f:Expr}{jF dq:Pos}{td ty tx:TE}
end
end L2
namespace br
open PySem PyProof.Rows
abbrev SM:=StateT SortSt Sem
noncomputable def cb:Bool->Keyed->ab8->Nat->Nat->Nat->SM aha:=sortPriv% PySem.Builtin.gallop
noncomputable def nJ:ab8->ab8->SM ab8:=sortPriv% PySem.Builtin.mergeLo
noncomputable def nK:ab8->ab8->SM ab8:=sortPriv% PySem.Builtin.mergeHi
noncomputable abbrev setG(zt:ahV)(g:Nat):ahV:=SortSt.mk' (kindOf zt) auk (pendingOf zt) g (failedOf zt)
noncomputable def bu(g:Nat):SM Unit:=modify λs=>setG s g
noncomputable def f_(left:Bool)(key:Keyed)(arr:ab8)(base i:Nat):SM alP:=do {let x<-elem' arr (base+i);if left then lt' x key else return (<-lt' key x).map (!·)}
def wo(left:Bool)(key:Keyed)(arr:ab8)(base n hint:Nat):cb left key arr base n hint=(do
  let mut mD:=0;let mut Be:=1;let mut lo:=0;let mut hi:=0
  let some right<-f_ left key arr base hint|return none
  if right then
   let nL:=n-hint
   for _ in [0:n] do
    if Be ≥ nL then break
    let some more<-f_ left key arr base (hint+Be)|return none
    if !more then break
    mD:=Be;Be:=2*Be+1
   lo:=hint+mD+1;hi:=hint+min Be nL
  else
   let nL:=hint+1
   for _ in [0:n] do
    if Be ≥ nL then break
    let some found<-f_ left key arr base (hint-Be)|return none
    if found then break
    mD:=Be;Be:=2*Be+1
   lo:=hint+1-min Be nL;hi:=hint-mD
  for _ in [0:n] do
   if lo ≥ hi then break
   let m:=lo+(hi-lo)/2
   let some more<-f_ left key arr base m|return none
   if more then lo:=m+1 else hi:=m
  return some hi):=rfl
section
variable {prog:ad2}{w:World}{A:ag0}{E:Value->Shared->Prop}{s:ab_}{κ:apl}{P:Keyed->Prop}
def bC(hi:i<arr.size)(q:Q arr[i] zt):wpS aa4 A E s (elem' arr i) Q zt:=by
 rw[elem'_eq,aaB hi];exact wpS_pure q
def ug(a b:ab8):nJ a b=(do
  rule "list.sort.merge-lo"
  let total:=a.size+b.size
  let done (out:Array Keyed) (ia ib:Nat):=(out++a.extract ia a.size)++b.extract ib b.size;let mE (out:Array Keyed) (ia ib:Nat):=(out++b.extract ib b.size)++a.extract ia a.size
  let mut out:Array Keyed:=#[<-elem' b 0];let mut ia:=0;let mut ib:=1
  if ib==b.size then return ai0
  if ia+1==a.size then return ar4
  let mut minGallop:=gallopOf (<-get)
  for _ in [0:total] do
   let mut cZ:=0;let mut c5:=0
   for _ in [0:total] do
    let some O4<-lt' (<-elem' b ib) (<-elem' a ia)|return ai0
    if O4 then
     out:=out.push (<-elem' b ib);ib:=ib+1;c5:=c5+1;cZ:=0
     if ib==b.size then return ai0
     if c5 ≥ minGallop then break
    else
     out:=out.push (<-elem' a ia);ia:=ia+1;cZ:=cZ+1;c5:=0
     if ia+1==a.size then return ar4
     if cZ ≥ minGallop then break
   rule "list.sort.gallop"
   minGallop:=minGallop+1
   for _ in [0:total] do
    if minGallop>1 then minGallop:=minGallop-1
    bu minGallop
    let some k<-cb false (<-elem' b ib) a ia aC7 0|return ai0
    cZ:=k
    if k>0 then
     out:=out++a.extract ia (ia+k);ia:=ia+k
     if ia+1==a.size then return ar4
     if ia==a.size then return ai0
    out:=out.push (<-elem' b ib);ib:=ib+1
    if ib==b.size then return ai0
    let some k<-cb true (<-elem' a ia) b ib aCQ 0|return ai0
    c5:=k
    if k>0 then
     out:=out++b.extract ib (ib+k);ib:=ib+k
     if ib==b.size then return ai0
    out:=out.push (<-elem' a ia);ia:=ia+1
    if ia+1==a.size then return ar4
    if cZ<7&&c5<7 then break
   minGallop:=minGallop+1
   bu minGallop
  unsupported "internal:list.sort.merge-bound"):=rfl
structure Sm(zt av:ahV):Prop where
 k:kindOf av=kindOf zt
 a:arrOf av=arrOf zt
 p:pendingOf av=pendingOf zt
 f:failedOf av=failedOf zt
def Sm.rfl':Sm zt zt:=⟨rfl,rfl,rfl,rfl⟩
theorem Sm.setG(h:Sm zt av):Sm zt (setG av g):=⟨h.k,h.a,h.p,h.f⟩
def Pt(a b out:ab8)(i j:Nat):Prop:=out.toList.Perm as0
def dN(X Y Z:agM):((X++Y)++Z).Perm ((X++Z)++Y):=by
 rw[aaL,aaL];exact acV X aeC
section
variable {a b out:ab8}{i j k:Nat}
def fH(a:ab8):a.toList.take i++(a.extract i (i+k)).toList =a.toList.take (i+k):=by
 rw[acE];unfold List.extract;rw[show i+k-i=k by exact abU _ _,List.take_add]
def Pt.rA(h:as1):Pt a b ayr i (j+k):=by
 unfold Pt at h⊢;rw[aaD,<-fH b,<-aaL];exact h.append_right _
def Pt.rB(h:as1):Pt a b ays (i+k) j:=by
 unfold Pt at h⊢;rw[aaD,<-fH a];exact(h.append_right _).trans (dN _ _ _)
def ir(hi:i<a.size):(a.extract i (i+1)).toList =[a[i]]:=by
 rw[acE];unfold List.extract;have gM:i<a.toList.length:=by simpa using hi
 rw[show i+1-i=1 by exact abU _ _,abv gM];simp
def xt(a:ab8)(hi:apQ):a.toList.take i++(a.extract i a.size).toList =a.toList:=by
 have:=fH a (i:=i) (k:=a.size-i);rw[show i+(a.size-i)=a.size by exact acs hi]at this;rw[this];exact abB ab5
def Pt.done(h:as1)(hi:apQ)(hj:auc):(axM++b.extract j b.size).toList.Perm agL:=by
 unfold Pt at h;rw[aaD,aaD];refine((h.append_right _).append_right _).trans<|((dN _ _ _).append_right _).trans ?_;rw[xt a hi,aaL,xt b hj]
def Pt.last(h:as1)(hi:apQ)(hj:auc):(axL++a.extract i a.size).toList.Perm agL:=by
 refine List.Perm.trans ?_ (h.done hi hj);simp only[aaD];exact dN _ _ _
end
def xu{α:Type}{x:SM α}{zt:ahV}{Q:α->SortSt->Prop}{T:Nat->Prop}(main:(∀g',T g')->anW)(h:∀g',T g'):anW:=main h
def rC{α:Type}{x:SM α}{zt:ahV}{Q:α->SortSt->Prop}{T:ab8->Nat->Prop}(C:ab8->Nat->Prop)(main:(∀o i,C o i->T o i)->anW)(h:∀o i,C o i->T o i):anW:=main h
def uh(a b:ab8):nK a b=(do
  rule "list.sort.merge-hi"
  let total:=a.size+b.size
  let done (out:Array Keyed) (na nb:Nat):=(a.extract 0 na++b.extract 0 nb)++out.reverse;let jU (out:Array Keyed) (na nb:Nat):=(b.extract 0 nb++a.extract 0 na)++out.reverse
  let mut na:=a.size-1;let mut nb:=b.size;let mut out:Array Keyed:=#[<-elem' a na]
  if na==0 then return aiZ
  if nb==1 then return ar6
  let mut minGallop:=gallopOf (<-get)
  for _ in [0:total] do
   let mut cZ:=0;let mut c5:=0
   for _ in [0:total] do
    let some O5<-lt' (<-elem' b (nb-1)) (<-elem' a (na-1))|return aiZ
    if O5 then
     na:=na-1;out:=out.push (<-elem' a na);cZ:=cZ+1;c5:=0
     if na==0 then return aiZ
     if cZ ≥ minGallop then break
    else
     nb:=nb-1;out:=out.push (<-elem' b nb);c5:=c5+1;cZ:=0
     if nb==1 then return ar6
     if c5 ≥ minGallop then break
   rule "list.sort.gallop"
   minGallop:=minGallop+1
   for _ in [0:total] do
    if minGallop>1 then minGallop:=minGallop-1
    bu minGallop
    let some at_<-cb false (<-elem' b (nb-1)) a 0 na (na-1)|return aiZ
    let k:=na-at_
    cZ:=k
    if k>0 then
     out:=out++(a.extract at_ na).reverse;na:=at_
     if na==0 then return aiZ
    nb:=nb-1;out:=out.push (<-elem' b nb)
    if nb==1 then return ar6
    let some at_<-cb true (<-elem' a (na-1)) b 0 nb (nb-1)|return aiZ
    let k:=nb-at_
    c5:=k
    if k>0 then
     out:=out++(b.extract at_ nb).reverse;nb:=at_
     if nb==1 then return ar6
     if nb==0 then return aiZ
    na:=na-1;out:=out.push (<-elem' a na)
    if na==0 then return aiZ
    if cZ<7&&c5<7 then break
   minGallop:=minGallop+1
   bu minGallop
  unsupported "internal:list.sort.merge-bound"):=rfl
def Ph(a b out:ab8)(i j:Nat):Prop:=(as0++out.toList).Perm agL
section
variable {a b out:ab8}{i j k:Nat}
def ui(a:ab8)(h:k<=i):a.toList.take k++(a.extract k i).toList =a.toList.take i:=by
 have:=fH a (i:=k) (k:=i-k);rwa [show k+(i-k)=i by exact acs h]at this
def dR(a:ab8):(a.extract 0 i).toList =a.toList.take i:=by
 rw[acE];unfold List.extract;simp
def Ph.rB(h:as2)(hk:k<=i)(_:apQ):Ph a b auU k j:=by
 unfold Ph at h⊢;refine List.Perm.trans ?_ h;rw[aaD,abQ,<-ui a hk,<-aaL];exact(acV _ (aft _)).trans<|(dN _ _ _).trans<|(dN _ _ _).append_right _
def Ph.rA(h:as2)(hk:k<=j)(_:auc):Ph a b auT i k:=by
 unfold Ph at h⊢;refine List.Perm.trans ?_ h;rw[aaD,abQ,<-ui b hk,<-aaL,<-aaL];exact(acV _ (aft _)).trans<|dN _ _ _
def jV(h1:1<=i)(hi:i-1<a.size):(a.extract (i-1) i).toList =[a[i-1]]:=by
 have:=ir (a:=a) (i:=i-1) hi;rwa [show i-1+1=i by exact adu h1]at this
def Ph.done(h:as2):(au1++out.reverse).toList.Perm agL:=by
 unfold Ph at h;refine List.Perm.trans ?_ h;rw[aaD,aaD,dR,dR,abQ];exact acV _ (aft _)
def Ph.first(h:as2):(auY++out.reverse).toList.Perm agL:=by
 refine List.Perm.trans ?_ h.done;simp only[aaD];exact aeC.append_right _
end
end
section
variable {prog:ad2}{w:World}{A:ag0}{E:Value->Shared->Prop}{s:ab_}{κ:apl}{P:Keyed->Prop}
structure Ar(zt av:ahV):Prop where
 k:kindOf av=kindOf zt
 a:(arrOf av).Perm auk
 p:pendingOf av=pendingOf zt
 f:failedOf av=failedOf zt
def Ar.rfl':Ar zt zt:=⟨rfl,aeW _,rfl,rfl⟩
def Ar.set(h:Ar zt av)(hx:x.Perm ag1):Ar zt (setArr av x):=⟨h.k,hx.trans h.a,h.p,h.f⟩
theorem Ar.size(h:Ar zt av):(arrOf av).size =(arrOf zt).size :=h.a.size_eq
def Ar.all(h:Ar zt av)(hp:∀x∈arrOf zt,P x):∀x∈arrOf av,P x:=λx hx=>hp x aCw
def xv(q:Q () (setArr zt (mirror auk i j ((j-i)/2)))):wpS aa4 A E s (reverseSlice' i j) Q zt:=by
 rw[reverseSlice'_eq];exact wpS_modify q
def uj(i:Nat):mergeAt' i=(do
  let s<-get
  let (some (sa,na,power),some (sb,nb,_)):=((pendingOf s)[i]?,(pendingOf s)[i+1]?)|unsupported "internal:list.sort.pending"
  set (setPending s (((pendingOf s).setIfInBounds i (sa,na+nb,power)).eraseIdxIfInBounds (i+1)))
  let some k<-cb false (<-elem' awH sb) awH sa na 0|return false
  let (sa,na):=(sa+k,na-k)
  if na==0 then return true
  let some nb<-cb true (<-elem' awH (sa+na-1)) awH sb nb (nb-1)|return false
  if nb==0 then return true
  let x:=(arrOf s).extract sa sb
  let y:=(arrOf s).extract sb ayV
  let merged<-if na<=nb then nJ x y else nK x y
  modify λs=>setArr s (merged.toList.zipIdx.foldl (λa (p,j)=>a.setIfInBounds (sa+j) p) awH)
  return (failedOf (<-get)).isNone):=rfl
def FO{σ:Type}{M:Model}{zt av:σ}{Q:PUnit->σ->Prop}(h:Q ⟨⟩ av):wpS M A E s (set av:StateT σ Sem PUnit) Q zt:=by
 unfold wpS;rw[StateT.run_set];exact aaj ⟨rfl,h⟩
theorem rD:∀(ms:List Keyed) (o j:Nat) (a:ab8),o+j+ms.length<=a.size->
  ((ms.zipIdx j).foldl (λa (p:Keyed×Nat)=>ax1) a).toList =a.toList.take (o+j)++ms++a.toList.drop (o+j+ms.length)
 |[],o,j,a,h=>by simp
 |m::ms,o,j,a,h=>by
  rw[aaF]at h;rw[List.zipIdx_cons,aeh,rD ms o (j+1) _ (by rw[afu];lia)];have e:(a.setIfInBounds (o+j) m).toList =a.toList.set (o+j) m:=adN ..;have hl:o+j<a.toList.length:=by rw[aaG];exact aaO alx h
  rw[e,List.set_eq_take_append_cons_drop,aav hl,aaF];have ht:(List.take (o+j) a.toList).length =o+j:=by rw[abS];exact ady (aaE hl)
  have e5:(a.toList.take (o+j)++m::a.toList.drop (o+j+1)).take (o+(j+1))=a.toList.take (o+j)++[m]:=by
   rw[List.take_append,ht,show o+(j+1)-(o+j)=1 by exact agj (abc (aey _ _)),abB (by rw[ht];exact Nat.le_succ _)];rfl
  have e6:(a.toList.take (o+j)++m::a.toList.drop (o+j+1)).drop (o+(j+1)+ms.length)=a.toList.drop (o+j+(ms.length+1)):=by
   rw[List.drop_append,ht,show o+(j+1)+ms.length-(o+j)=ms.length+1 by exact SH,List.drop_of_length_le (by rw[ht];exact aaE alx),aei,List.drop_succ_cons,afj];congr 1;exact aaZ _ _ _
  rw[e5,e6];simp
def xw{a:ab8}(h:x∈a.extract i j):x∈a:=by
 rw[<-acq,acE]at h;unfold List.extract at h;exact acq.mp (acF (acG h))
def O6[Decidable c](h1:x+1<n)(h2:y+1<n):(if c then x else y)+1<n:=by split<;>assumption
end
open PySem.W
def jm(h:Heap)(v:Value):Prop:=∃(x:Addr) (o:Obj) (xs:ab2) (n:Nat) (i:Int) (r:aa0),v= .ref x/\h.get? x=some o/\o.cls= .type "tuple"/\ay1/\IntsAre xs (i::r)
section
variable {prog:ad2}{w:World}{A:ag0}{E:Value->Shared->Prop}{s:ab_}
theorem lY:∀{vs:ab2},(∀v∈vs,jm h v)->∃fs,KatTups h vs fs/\(∀f∈fs,∃i t,f=Value.int i t)/\fs.length=vs.length
 |[],_=>⟨[],.nil,λ_ z=>(nomatch z),rfl⟩
 |v::vs,hv=>by
  refine bF (lY (vs:=vs) λz hz=>hv z avZ) λfs h1 h2 h3=>Ng (hv v aal) λx o xs n i r ak g1 g2 g3 g4=>?_;subst ak;cases g4 with
  |cons _ t g5=>exact⟨_,.cons g1 g2 g3 rfl h1,λf hf=>(aat.mp hf).elim (λz=>⟨i,t,z⟩) (h2 f),by rw[aaF,aaF,h3]⟩
def uk(vs:ab2):(vs.toArray.zip vs.toArray).map (λp:Keyed=>p.2)=vs.toArray:=by
 apply afM.mp;rw[aeK,Array.toList_zip];exact afN ad0
end
end br
namespace L2
open PySem PySem.Spec PyProof.Rows
def gD(h:Heap)(d:Addr)(es:aiW)(ep:Nat):Prop:=∃o,axP/\o.ExactDict/\o.data= .dict es ep
def gD.ty{s:ab_}(r:alh):s.TypeIs azl "dict":=let ⟨o,e,c,_⟩:=r;⟨o,e,c.1⟩
def gD.on(r:arC)(k:∀o,axP->h'.get? d=some o):gD h' d es ep:=let ⟨o,e,c⟩:=r;⟨o,k o e,c⟩
def gD.lt(r:arC):d<h.objs.size:=let ⟨_,e,_⟩:=r;aaz e
section
variable {prog:ad2}{w:World}{A:ag0}{E:Value->Shared->Prop}{s:ab_}{d:Addr}{es:aiW}{ep:Nat}
end
open PySem.W
section
variable {prog:ad2}{w:World}{A:ag0}{E:Value->Shared->Prop}{s:ab_}{d it:Addr}{es:aiW}{ep i:Nat}
def um(hm:anx)(r:alh)(h:Q ab7 {s with heap:=s.heap.push {cls:= .type "dict_keyiterator",data:= .fields #[aDr,aBq,.int es.size 0,.int ep 0]}}):
  wpAny aa4 A (pyIter azl) Q E s:=by
 have T:=r.ty;refine bF r λo e c dt=>aet T F.slot_dict_iter (abm F.slot_dict_iter T F.entry_dict_iter ?_ (F.args_dict_iter_1 _));unfold Builtin.«dict.__iter__» Builtin.Dict.dictSlotNone;refine aaa (aaa (wpAny_notOrdered_dict T ?_));show wpAny _ _ (pure (Value.ref d)) _ _ s;refine aaj ?_;show wpAny _ _ (Builtin.Dict.showsAll d >>= λ_=>_) _ _ s;unfold Builtin.Dict.showsAll;rw[aaC (by rw[hm];exact aai)];refine aaa (aaj (aaa (afv e dt (aaa (agc e dt ?_)))));refine aaa (abg (aaj ⟨_,rfl,"dict_keyiterator",_,art,aci.lookup,?_⟩));simpa[rawInt]using h
def uo(k:s.heap.IsKeyIter it d i es.size ep)(r:alh)(hi:i<es.size)
  (h:∀h',h'.IsKeyIter it d (i+1) es.size ep->ajk->Q (some es[i].key) {s with heap:=h'}):aij:=by
 have T:=k.typeIs;refine bF (id k) λoi ei ci di=>bF r λo e c dt=>?_;unfold pyNext;refine aaa (adJ (abE (name:=Str.ofString "__next__") T aci (abm aci T aeL ?_ (aeD _))));refine aaa (aaj (aaa (aaa ?_)))
 first|refine aaa (acC T (aaj (aaa (aew ei di ?_))))|refine aaa (adb T (aaj (aaa (aew ei di ?_))))
 have own:Builtin.Dict_items.ownsTuple "dict_keyiterator"=false:=by decide
 simp only[own,abX,if_false];show wpAny _ _ (if alC=true then _ else _) _ _ s;rw[aaC (show¬(alC=true) from aai)];refine aaa (aaj (aaa (afv e dt ?_)));rw[aaC ab5];refine aaa (aaj (aaa (agc e dt ?_)));rw[aaC ab5];refine aaj ?_;simp only[show¬((i:Int)<0) from awN,if_false,abN,aaB hi];refine aaa ?_
 first|refine aaa (acC T (aaj (aaa (aeE T ?_))))|refine aaa (adb T (aaj (aaa (aeE T ?_))))
 show wpAny _ _ (setField ae5 1 (axt ((i:Int)+1)) >>= λ_=>_) _ _ s;refine aaa (ack ei di ab5 ?_);have k':(s.heap.update it (avG (·.setIfInBounds 1 (axt ((i:Int)+1))))).IsKeyIter it d (i+1) es.size ep:=
  ⟨_,abF _ ei (acy (abG di _)),(adI ..).trans ci,by rw[abG di];simp[rawInt]⟩
 refine aaa (abi (aaa (aeE (s:={s with heap:=s.heap.update it (avG (·.setIfInBounds 1 (axt ((i:Int)+1))))}) k'.typeIs ?_)));show wpAny _ _ (pure es[i].key) _ _ _;exact aaj (aaj ⟨_,rfl,aaj (h _ k' (abA ..))⟩)
def xy(hh:af5)(k:s.heap.IsKeyIter it d es.size es.size ep)(r:alh)(h:∀h',al5->Q none {s with heap:=h'}):aij:=by
 have T:=k.typeIs;refine bF (id k) λoi ei ci di=>bF r λo e c dt=>?_;unfold pyNext;refine aaa (adJ (abE (name:=Str.ofString "__next__") T aci (abm aci T aeL ?_ (aeD _))));refine aaa (aaj (aaa (aaa ?_)))
 first|refine aaa (acC T (aaj (aaa (aew ei di ?_))))|refine aaa (adb T (aaj (aaa (aew ei di ?_))))
 have own:Builtin.Dict_items.ownsTuple "dict_keyiterator"=false:=by decide
 simp only[own,abX,if_false];show wpAny _ _ (if alC=true then _ else _) _ _ s;rw[aaC (show¬(alC=true) from aai)];refine aaa (aaj (aaa (afv e dt ?_)));rw[aaC ab5];refine aaa (aaj (aaa (agc e dt ?_)));rw[aaC ab5];refine aaj ?_;simp only[show¬((es.size:Int)<0) from awN,if_false,abN,adt (aam es.size)];refine aaa ?_
 first|refine aaa (acC T (aaj ?c))|refine aaa (adb T (aaj ?c))
 case c=>
  show wpAny _ _ (setField ae5 0 .none >>= λ_=>_) _ _ s;refine aaa (ack ei di ab5 ?_);show wpAny _ _ (newExc (.type "StopIteration") [] >>= λ_=>_) _ _ _;refine aaa ?_;simp only[newExc,newTuple];refine aaa (abg (aaa (m:=firstArgMember _ _) (aeV (a:=Value.none) (by first|rfl|(simp only[firstArgMember];rfl)) (abg ?_ (by size_fits)))) (by size_fits));simp only[raiseNew];refine aaa (afF ?_);rw[show A.in1.handled=none from hh];refine(aaa (aaj (ags ?_)));refine(aaa (aeM (T:="StopIteration") (b:=true) ⟨_,agU,rfl⟩ isSubtype_stop ?_));exact aaj (h _ (((abA ..).extBut.push _).push _))
def uq(k:s.heap.IsKeyIter it d i n ep)(h:Q ae5 s):avM:=wpAny_pyIter_keyiter k h
def z9(hh:af5)(it d:Addr)(eG:d≠it)(es:aiW)(ep:Nat):Walks prog w A it [it,d] [it] es.size (λi v=>∃e,es[i]?=some e/\v=e.key) (λi h=>h.IsKeyIter it d i es.size ep/\arC) where
 sub:=λb hb=>by simp at hb;simp[hb]
 frame:=λ_ _ _ st hk=>⟨st.1.at λo e=>hk it ab5 o e,st.2.on λo e=>hk d ab5 o e⟩
 item:=λi s Q E hi st hQ=>uo st.1 st.2 hi λh' k' hs=>hQ _ h' s.toks ⟨_,aaB hi,rfl⟩ ⟨k',st.2.on λo e=>hs.extBut d o eG e⟩ λb o hb e=>hs.extBut b o (λz=>hb (by simp[z])) e
 done:=λs Q E st hQ=>xy hh st.1 st.2 λh' he=>hQ h' s.toks λb o hb e=>he b o (λz=>hb (by simp[z])) e
 self:=λ_ _ _ _ st hQ=>uq st.1 hQ
def xC(lo:anx):KdlSrc prog w "dict" d d es.size (λi v=>∃e,es[i]?=some e/\v=e.key) (λh=>arC) where
 type:=λ_ r=>r.ty
 there:=λ_ r=>⟨r.lt,r.lt⟩
 keep:=λ_ _ r hk=>r.on λo e=>hk d agR o e
 notList:=by decide
 notTuple:=by decide
 hint:=λ_ _ _ _ r hq=>kdl_hint_dict r.ty hq
 iter:=λA s hh r=>⟨_,λi h=>h.IsKeyIter s.heap.objs.size d i es.size ep/\arC,(λ_ _ hq=>um lo r hq),z9 hh _ d (aaJ r.lt) es ep,⟨ahL,r.on λo e=>ail⟩⟩
end
def wq(I:aa3)(e:aAj):∃es ep,gD s.heap a es ep/\amo/\ahc/\aiz/\∀(i:Nat) (kv:cD×V),kvs[i]?=some kv->∃en,es[i]?=some en/\aDc:=by
 obtain⟨z,lo,vs,eK,o,es,ep,h1,h2,h3,h4,h5,h6⟩:=jS I.aR e;have hl:amo:=by rw[eK.length,<-h5.length];simp
 refine⟨es,ep,⟨o,h1,h2,h3⟩,hl,lo,z,λi kv hi=>?_⟩;have bj:arB:=(aax.mp hi).1;have wd:i<es.size:=(aah bj aiH);have V_:atk:=by rw[<-eK.length];exact bj
 refine⟨es[i],aaB wd,?_⟩;have hk:=(h5.get? (e:=es[i]) (k:=vs[i].1) (v:=vs[i].2) (i:=i) (by rw[aaR];exact aaB wd) (aac V_)).1;have he:vs[i].1 =kv.1:=by
  have:=congrArg (λl:List cD=>l[i]?) eK.keys;simp only[aau,hi,aac V_,adB]at this;exact(aaI this).symm
 rw[he]at hk;rcases bh (show mZ kv.1 es[i].key =true from hk)with⟨n,t,e1,e2⟩|⟨x,t,e1,e2⟩
 .rw[e1,e2];exact⟨t,rfl⟩
 .rw[e1,e2];exact⟨t,rfl⟩
section
variable {X:Cx}
end
noncomputable def Uc(a:Addr)(o:Obj)(kvs:apo):It:=
 ⟨λi H=>apq/\arB,λi H x H'=>H'=H/\(kvs[i]?).map (λkv=>kV kv.1)=some x,λi H=>apq/\i=kvs.length⟩
def xD(I:aa3)(e:apq)(hd:aiU):
  gD s.heap a es ep/\amo/\∀(i:Nat) (kv:cD×V),kvs[i]?=some kv->∃en,es[i]?=some en/\aDc:=by
 refine kH (wq I (amY ⟨o,e⟩)) λwZ JH r1 r2 _ _ r5=>?_;have ho:alu:=(show aT X.prog X.w H s.heap a ahi from I.aR a _ e).1;refine bF (id r1) λo' g1 g2 g3=>?_;rw[ho]at g1;cases g1;rw[hd]at g3;cases g3;exact⟨r1,r2,r5⟩
def FP{K:aE}(a it:Addr)(eG:a≠it)(o:Obj)(kvs:apo)(es:aiW)(ep:Nat)(hd:aiU):qV P w K tg (Uc a o kvs) [it] it (λi h=>h.IsKeyIter it a i es.size ep) where
 mem:=by simp
 obj:=λi h st b hb=>by
  have e:b=it:=by simpa using hb
  subst e;exact bF st λo e c d=>⟨o,e,λv z=>by rw[d]at z;cases z⟩
 keep:=λi h h' st k=>st.at λo e=>k it ab5 o e
 item:=by
  intro X hP hw hK hc i U s σ H E I hf st hg;subst hP hw hK;obtain⟨e1,e2⟩:=hg;refine cY (xD I e1 hd) λr1 r2 r3=>sW ajb λf0 f1 f2 f3 f4 f5=>?_;have hi:i<es.size:=(aah e2 (aap (abc r2)));refine aa (r3 i kvs[i] (aac e2)) λen n1 n2=>?_;rw[aaB hi]at n1;cases n1;refine uo st r1 hi λh' k' hs=>?_;have I1:Inv X U σ H {s with heap:=h'}:=I.turned (t':=s.toks) (λb o hb e=>(hs.2 b hb).trans e) f0 f1 f3 f4 f5;exact bF (id k') λoi g1 g2 g3=>⟨_,rfl,pY (s:={s with heap:=h'}) g1 g2 g3 aa2 ⟨_,H,I1,n2,⟨rfl,by rw[aac e2];rfl⟩,k',λb hb=>aqG⟩⟩
 done:=by
  intro X hP hw hK hc i U s σ H E I hf st hg;subst hP hw hK;obtain⟨e1,e2⟩:=hg;refine cY (xD I e1 hd) λr1 r2 r3=>sW ajb λf0 f1 f2 f3 f4 f5=>?_;have e:i=es.size:=(afg e2 (abc r2));subst e;exact xy agY st r1 λh' eb=>⟨rfl,I.turned (t':=s.toks) (λb o hb e=>aoF) f0 f1 f3 f4 f5⟩
 self:=λ_ _ _ _ _ st h=>uq st h
section
variable {X:Cx}{tg:Expr}
def Yw(tl:TE):TI:=λσ H R=>tl σ H λx H1=>∃a o kvs,ajw/\H1 a=some ahi/\R (Uc a o kvs) H1
def O7(hl:PE X l tl):PI X tg l (Yw tl):=by
 intro U s σ H R I h;refine bG aCv λv s1 zz=>bg zz λx H1 I1 r1 q1=>cC q1 λa o kvs e hq q=>?_;subst e;cases r1;refine kH (wq I1 (amY ⟨o,hq⟩)) λes ep g1 g2 g3 g4 g5=>?_;have ho:aCj:=(show aT X.prog X.w H1 s1.heap a ahi from I1.aR a _ hq).1;have hd:aiU:=by
  refine bF (id g1) λo' z1 z2 z3=>?_;rw[ho]at z1;cases z1;exact z3
 refine um g3 g1 ?_;refine⟨ahw,[ahw],_,_,H1,rfl,I1.kept (t':=s1.toks) λb o e=>ail,FP a _ (aaJ (aaz ho)) o kvs es ep hd,ahL,λb hb=>?_,q⟩;have e:aoH:=by simpa using hb
 subst e;exact I1.tJ ad0 ahv
def O8(tk tv:TE):TE:=λσ H Q=>∀p,akp->tk σ (auM awi) λx H1=>tv σ H1 λy H2=>∃b ks,x= .ref b/\H2 b=some aul/\H2 p=some awi/\Q ahg (upd H2 p (.dT [(ks,y)]))
def FQ(hu:alj)(hk:PE X k tk)(hv:PE X v tv):PE X ayN (O8 tk tv):=by
 intro U s σ H Q I h;have hn:amA:=I.aR.fresh ad0;refine wpAny_Dict_any rfl rfl ab5 (show 1<=15 by decide) ?_;have I0:Inv X U σ (akW awi) {s with heap:=s.heap.push {cls:= .type "dict",data:= .dict #[]}}:=I.laid (a:=s.heap.objs.size) (o:= .dT []) (t':=s.toks) (λ_ _ q=>axY) ad0 (uf s.heap I.big);refine pairTrees_cons_walk (bG aww λkv s1 ⟨x,H1,I1,r1,q1⟩=>bG ay6 λvv s2 ⟨y,H2,I2,r2,q2⟩=>pairTrees_nil_walk ?_);refine il q2 λb ks ex eb ep q3=>?_;subst ex;cases r1;unfold storeAll;rw[ada];obtain⟨z,hd,xs,eK,dd⟩:=xm I2.aR ep;cases eK;refine aaa (aaa (wpAny_dictSet_heap (hsz:=abk _) (knd:=tupleKind aoi) (show X.A.units<cLine by exact aaE hu) (jl I2.aR eb) dd λh' B5 hs=>aaj ?_));dsimp only;rw[List.forIn_nil];refine aaj ⟨ab7,_,?_,rfl,q3⟩;refine Nf B5 λo es e2 g1 g2 g3 g4 _ g5=>?_;refine jT I2 (by rw[ep];exact True.intro) hs ⟨o,g1⟩ ⟨by rw[sizeLine_eq];exact(by decide:(1:Nat)<=16777216),hd,_,?_,o,es,e2,g1,g2,g3,g4,g5⟩;refine .cons ⟨rfl,?_,r2⟩ .nil;rw[aq (c8 eb ep (λz=>nomatch z))];exact eb
end
end L2
namespace br
open PySem PyProof.Rows
structure Ord(r:Keyed->Keyed->Bool):Prop where
 RV:∀x y,r x y=true->r y x=false
 tr:∀x y z,r y x=false->r z y=false->r z x=false
def le(r:Keyed->Keyed->Bool)(x y:Keyed):Prop:=r y x=false
section
variable {r:Keyed->Keyed->Bool}{prog:ad2}{w:World}{A:ag0}{E:Value->Shared->Prop}{s:ab_}{κ:apl}{P:Keyed->Prop}
def Ord.refl(O:Ord r)(x:Keyed):le r x x:=by
 show r x x=false;cases h:r x x with
 |false=>rfl
 |true=>exact(O.RV x x h).symm.trans h |>.symm ▸rfl
def Ord.of_lt(O:Ord r)(h:r x y=true):ang:=O.RV x y h
def Ord.trans(O:Ord r)(h1:ang)(h2:le r y z):le r x z:=O.tr x y z h1 h2
def nM(prog:ad2)(w:World)(A:ag0)(E:Value->ab_->Prop)(s:ab_)(κ:apl)(P:Keyed->Prop)(r:Keyed->Keyed->Bool):Prop:=
 ∀(x y:Keyed) (st:ahV) (Q:alP->ahV->Prop),P x->P y->ak3->Q (ajU (r x y)) st->wpS aa4 A E s (lt' x y) Q st
noncomputable def wt(r:Keyed->Keyed->Bool)(left:Bool)(key x:Keyed):Bool:=if left then r x key else !r key x
def B9{left:Bool}{key:Keyed}{arr:ab8}{base i:Nat}{st:ahV}{Q:alP->SortSt->Prop}(L:ag3)(hk:ak3)(hp:P key)(ha:∀x∈arr,P x)(hi:base+i<arr.size)(q:Q (ajU (wt r left key arr[base+i])) st):
  wpS aa4 A E s ayz Q st:=by
 unfold f_;refine wpS_bind (bC hi ?_);have hx:=ha _ (abC hi);cases left with
 |true=>exact L _ _ st _ hx hp hk q
 |false=>exact wpS_bind (L _ _ st _ hp hx hk (wpS_pure q))
def B_(O:Ord r)(h:ang)(hy:wt r left key y=true):wt r left key x=true:=by
 unfold wt at hy⊢;cases left with
 |true=>
  have EJ:r y key=true:=hy;show r x key=true;cases e:r x key with
  |true=>rfl
  |false=>
   have:=O.tr key x y e h;rw[this]at EJ;cases EJ
 |false=>
  have EJ:(!r key y)=true:=hy;show(!r key x)=true;have h1:r key y=false:=by simpa using EJ
  have:=O.tr x y key h h1;simp[this]
def Ca{left:Bool}{key:Keyed}{arr:ab8}{base n hint:Nat}{st:ahV}{Q:aha->SortSt->Prop}{f:Nat->Bool}(hn:hint<n)(hB:∀(i:Nat) (Q:alP->ahV->Prop),i<n->Q (ajU (f i)) st->wpS aa4 A E s ayz Q st)
  (mono:∀i j,i<=j->j<n->f j=true->ar9)
  (q:∀k,k<=n->(∀i,i<k->ar9)->(∀i,k<=i->i<n->apY)->Q (ajU k) st):ape:=by
 have up:∀i j,i<=j->j<n->apY->f j=false:=λi j h1 h2 h3=>by
  cases e:f j with
  |false=>rfl
  |true=>rw[mono i j h1 h2 e]at h3;cases h3
 rw[wo];refine wpS_bind (hB hint _ hn ?_);dsimp only;cases e0:f hint with
 |true=>
  rw[aav rfl];refine wpS_bind (wpS_mono (wpS_forRange (I:=λi c av=>av=st/\∃l o,avX/\l<o/\i+1<=o/\hint+l<n/\f (hint+l)=true)
   (Q:=λc av=>av=st/\∃l o,avX/\l<o/\hint+l<n/\f (hint+l)=true/\(n-hint<=o\/(hint+o<n/\f (hint+o)=false))) ?_ ?_ ⟨rfl,0,1,rfl,by omega,by omega,by omega,e0⟩) ?_)
  .rintro i c av _ _ ⟨rfl,l,o,rfl,g1,g2,g3,g4⟩;dsimp only;by_cases hg:o ≥ n-hint
   .rw[aav hg];exact wpS_pure ⟨rfl,l,o,rfl,g1,g3,g4,.inl hg⟩
   .rw[aaC hg];refine wpS_bind (hB (hint+o) _ aa1 ?_);cases e1:f (hint+o)with
    |true=>exact wpS_pure ⟨rfl,_,_,rfl,by omega,by omega,by omega,e1⟩
    |false=>exact wpS_pure ⟨rfl,_,_,rfl,g1,g3,g4,.inr ⟨by omega,e1⟩⟩
  .rintro c av ⟨rfl,l,o,rfl,g1,g2,g3,g4⟩;exact⟨rfl,l,o,rfl,g1,g3,g4,.inl aa1⟩
  rintro c av ⟨rfl,l,o,rfl,g1,g3,g4,g5⟩;dsimp only;have a1:∀i,i<hint+l+1->ar9:=λi hi=>mono i (hint+l) aa1 g3 g4;have a2:∀i,hint+min o (n-hint)<=i->i<n->apY:=λi h1 h2=>by
   rcases g5 with g5|⟨g5,g6⟩
   .omega
   .exact up (hint+o) i aa1 h2 g6
  refine wpS_bind (wpS_mono (wpS_forRange (I:=λi c cW=>cW=av/\∃lo hi,asX/\lo<=hi/\hi<=n/\hi-lo+i<=n/\(∀i,i<lo->ar9)/\(∀i,hi<=i->i<n->apY)) (Q:=λc cW=>cW=av/\∃lo hi,asX/\hi<=n/\(∀i,i<hi->ar9)/\(∀i,hi<=i->i<n->apY)) ?_ ?_ ⟨rfl,_,_,rfl,by omega,by omega,by omega,a1,a2⟩) ?_)
  .rintro i c cW _ _ ⟨rfl,lo,hi,rfl,z1,z2,z3,z4,z5⟩;dsimp only;by_cases hg:lo ≥ hi
   .rw[aav hg];exact wpS_pure ⟨rfl,lo,hi,rfl,z2,λi h=>z4 i aa1,z5⟩
   .rw[aaC hg];refine wpS_bind (hB _ _ aa1 ?_);cases e2:f (lo+(hi-lo)/2)with
    |true=>exact wpS_pure ⟨rfl,_,hi,rfl,by omega,z2,by omega,λi h=>mono i _ aa1 aa1 e2,z5⟩
    |false=>exact wpS_pure ⟨rfl,lo,_,rfl,by omega,by omega,by omega,z4,λi h1 h2=>up _ i h1 h2 e2⟩
  .rintro c cW ⟨rfl,lo,hi,rfl,z1,z2,z3,z4,z5⟩;exact⟨rfl,lo,hi,rfl,z2,λi h=>z4 i aa1,z5⟩
  .rintro c cW ⟨rfl,lo,hi,rfl,z2,z4,z5⟩;exact wpS_pure (q hi z2 z4 z5)
 |false=>
  rw[aaC aai];refine wpS_bind (wpS_mono (wpS_forRange (I:=λi c av=>av=st/\∃l o,avX/\l<o/\i+1<=o/\l<=hint/\f (hint-l)=false)
   (Q:=λc av=>av=st/\∃l o,avX/\l<o/\l<=hint/\f (hint-l)=false/\(hint+1<=o\/(o<=hint/\f (hint-o)=true))) ?_ ?_ ⟨rfl,0,1,rfl,by omega,by omega,by omega,e0⟩) ?_)
  .rintro i c av _ _ ⟨rfl,l,o,rfl,g1,g2,g3,g4⟩;dsimp only;by_cases hg:o ≥ hint+1
   .rw[aav hg];exact wpS_pure ⟨rfl,l,o,rfl,g1,g3,g4,.inl hg⟩
   .rw[aaC hg];refine wpS_bind (hB (hint-o) _ aa1 ?_);cases e1:f (hint-o)with
    |true=>exact wpS_pure ⟨rfl,_,_,rfl,g1,g3,g4,.inr ⟨by omega,e1⟩⟩
    |false=>exact wpS_pure ⟨rfl,_,_,rfl,by omega,by omega,by omega,e1⟩
  .rintro c av ⟨rfl,l,o,rfl,g1,g2,g3,g4⟩;exact⟨rfl,l,o,rfl,g1,g3,g4,.inl aa1⟩
  rintro c av ⟨rfl,l,o,rfl,g1,g3,g4,g5⟩;dsimp only;have a1:∀i,i<hint+1-min o (hint+1)->ar9:=λi hi=>by
   rcases g5 with g5|⟨g5,g6⟩
   .omega
   .exact mono i (hint-o) aa1 aa1 g6
  have a2:∀i,hint-l<=i->i<n->apY:=λi h1 h2=>up (hint-l) i h1 h2 g4;refine wpS_bind (wpS_mono (wpS_forRange (I:=λi c cW=>cW=av/\∃lo hi,asX/\lo<=hi/\hi<=n/\hi-lo+i<=n/\(∀i,i<lo->ar9)/\(∀i,hi<=i->i<n->apY)) (Q:=λc cW=>cW=av/\∃lo hi,asX/\hi<=n/\(∀i,i<hi->ar9)/\(∀i,hi<=i->i<n->apY)) ?_ ?_ ⟨rfl,_,_,rfl,by omega,by omega,by omega,a1,a2⟩) ?_)
  .rintro i c cW _ _ ⟨rfl,lo,hi,rfl,z1,z2,z3,z4,z5⟩;dsimp only;by_cases hg:lo ≥ hi
   .rw[aav hg];exact wpS_pure ⟨rfl,lo,hi,rfl,z2,λi h=>z4 i aa1,z5⟩
   .rw[aaC hg];refine wpS_bind (hB _ _ aa1 ?_);cases e2:f (lo+(hi-lo)/2)with
    |true=>exact wpS_pure ⟨rfl,_,hi,rfl,by omega,z2,by omega,λi h=>mono i _ aa1 aa1 e2,z5⟩
    |false=>exact wpS_pure ⟨rfl,lo,_,rfl,by omega,by omega,by omega,z4,λi h1 h2=>up _ i h1 h2 e2⟩
  .rintro c cW ⟨rfl,lo,hi,rfl,z1,z2,z3,z4,z5⟩;exact⟨rfl,lo,hi,rfl,z2,λi h=>z4 i aa1,z5⟩
  .rintro c cW ⟨rfl,lo,hi,rfl,z2,z4,z5⟩;exact wpS_pure (q hi z2 z4 z5)
noncomputable abbrev sg(arr:ab8)(base n:Nat):List Keyed:=(arr.toList.drop base).take n
def gb(hi:i<n)(hz:awE):(sg arr base n)[i]?=some (arr[base+i]' aa1):=by
 rw[adw,aav hi,aej,aaR,aaB]
def dS(hz:awE):(sg arr base n).length =n:=by
 rw[abS,adn,aaG];omega
def c6{left:Bool}{key:Keyed}{arr:ab8}{base n hint:Nat}{st:ahV}{Q:aha->SortSt->Prop}(L:ag3)(O:Ord r)(hk:ak3)(hp:P key)(ha:∀x∈arr,P x)(hz:awE)(hn:hint<n)
  (hS:(sg arr base n).Pairwise (le r))
  (q:∀k,k<=n->(∀x∈(sg arr base n).take k,wt r left key x=true)->(∀x∈(sg arr base n).drop k,wt r left key x=false)->Q (ajU k) st):ape:=by
 have hl:=dS hz;have fe:∀i (h:i<n),(((sg arr base n)[i]?).elim false (wt r left key))=wt r left key (arr[base+i]' aa1):=λi h=>by rw[gb h hz];rfl
 refine Ca (f:=λi=>((sg arr base n)[i]?).elim false (wt r left key)) hn (λi Q hi hq=>B9 L hk hp ha aa1 (by rw[<-fe i hi];exact hq)) (λi j BX hj hf=>?_) (λk K6 h1 h2=>q k K6 (λx hx=>?_) (λx hx=>?_))
 .rcases abq i j with z|z
  .rw[fe j hj]at hf;rw[fe i aa1];refine B_ O ?_ hf;have:=(acb.mp hS) i j aa1 aa1 z;have e1:=gb (arr:=arr) (show i<n by omega) hz;have e2:=gb (arr:=arr) hj hz;rw[aac aa1]at e1 e2;rw[aaI e1,aaI e2]at this;exact this
  .rw[show i=j by omega];exact hf
 .obtain⟨i,hi,rfl⟩:=adl hx;rw[abS]at hi;have:=h1 i aa1;rw[aac aa1]at this;rw[List.getElem_take];exact this
 .obtain⟨i,hi,rfl⟩:=adl hx;rw[adn]at hi;have:=h2 (k+i) aa1 aa1;rw[aac aa1]at this;rw[List.getElem_drop];exact this
structure Ms(r:Keyed->Keyed->Bool)(a b out:ab8)(i j:Nat):Prop where
 p:Pt a b out i j
 s:out.toList.Pairwise (le r)
 ta:∀x∈out.toList,∀y∈a.toList.drop i,le r x y
 tb:∀x∈out.toList,∀y∈b.toList.drop j,le r x y
end
section
variable {r:Keyed->Keyed->Bool}{a b out:ab8}{i j k:Nat}
def dU(a:ab8)(i k:Nat):(a.extract i (i+k)).toList =sg a i k:=by
 rw[acE];unfold List.extract;rw[show i+k-i=k by omega]
def Cb(a:ab8)(i k:Nat):a.toList.drop i=sg a i k++a.toList.drop (i+k):=by
 have:=(abR k (a.toList.drop i)).symm;rwa [afj]at this
theorem Ms.rB(h:akC)(sa:ae8)(hb:∀x∈sg a i k,∀y∈b.toList.drop j,ang):Ms r a b ays (i+k) j:=by
 have sd:auL:=sa.sublist aoh;have e:=Cb a i k;rw[e,aaX]at sd;obtain⟨p1,p2,p3⟩:=sd;have O9:∀x∈out.toList,∀y∈sg a i k++a.toList.drop (i+k),ang:=λx hx y hy=>h.ta x hx y (by rw[e];exact hy);refine⟨h.p.rB,?_,λx hx y hy=>?_,λx hx y hy=>?_⟩
 .rw[aaD,dU,aaX];exact⟨h.s,p1,λx hx y hy=>O9 x hx y (aw8 hy)⟩
 .rw[aaD,dU]at hx;rcases aay.mp hx with z|z
  .exact O9 x z y (aaw _ hy)
  .exact p3 x z y hy
 .rw[aaD,dU]at hx;rcases aay.mp hx with z|z
  .exact h.tb x z y hy
  .exact hb x z y hy
theorem Ms.rA(h:akC)(sb:agS)(ha:∀x∈sg b j k,∀y∈a.toList.drop i,ang):Ms r a b ayr i (j+k):=by
 have sd:(b.toList.drop j).Pairwise (le r):=sb.sublist aoh;have e:=Cb b j k;rw[e,aaX]at sd;obtain⟨p1,p2,p3⟩:=sd;have O_:∀x∈out.toList,∀y∈sg b j k++b.toList.drop (j+k),ang:=λx hx y hy=>h.tb x hx y (by rw[e];exact hy);refine⟨h.p.rA,?_,λx hx y hy=>?_,λx hx y hy=>?_⟩
 .rw[aaD,dU,aaX];exact⟨h.s,p1,λx hx y hy=>O_ x hx y (aw8 hy)⟩
 .rw[aaD,dU]at hx;rcases aay.mp hx with z|z
  .exact h.ta x z y hy
  .exact ha x z y hy
 .rw[aaD,dU]at hx;rcases aay.mp hx with z|z
  .exact O_ x z y (aaw _ hy)
  .exact p3 x z y hy
def Ms.cg(h:akC)(e:o.toList=out.toList):Ms r a b o i j:=⟨by unfold Pt;rw[e];exact h.p,by rw[e];exact h.s,λx hx=>h.ta x (by rw[<-e];exact hx),λx hx=>h.tb x (by rw[<-e];exact hx)⟩
def Ms.qd(h:akC)(sa:ae8)(hi:i<a.size)(hb:∀y∈b.toList.drop j,le r a[i] y):Ms r a b (out.push a[i]) (i+1) j:=by
 refine(h.rB (k:=1) sa λx hx=>?_).cg (by rw[aaD,ir hi,<-acK]);rw[<-dU,ir hi,aak]at hx;rw[hx];exact hb
def Ms.qf(h:akC)(sb:agS)(hj:j<b.size)(ha:∀y∈a.toList.drop i,le r b[j] y):Ms r a b (out.push b[j]) i (j+1):=by
 refine(h.rA (k:=1) sb λx hx=>?_).cg (by rw[aaD,ir hj,<-acK]);rw[<-dU,ir hj,aak]at hx;rw[hx];exact ha
def Pa(O:Ord r)(sa:ae8)(hi:i<a.size):∀y∈a.toList.drop i,le r a[i] y:=λy hy=>by
 have gM:i<a.toList.length:=by simpa using hi
 have sd:auL:=sa.sublist aoh;rw[abv gM]at sd hy;rcases aat.mp hy with z|z
 .rw[z];exact O.refl _
 .exact(abH.mp sd).1 y z
def rE(O:Ord r)(sa:ae8)(hi:i<a.size)(h:le r x a[i]):∀y∈a.toList.drop i,ang:=λy hy=>O.trans h (Pa O sa hi y hy)
def mF(a:ab8)(hi:apQ):(a.extract i a.size).toList =a.toList.drop i:=by
 have:=dU a i (a.size-i);rw[show i+(a.size-i)=a.size by omega]at this;rw[this];exact abB ab5
def Ms.done(h:akC)(sa:ae8)(sb:agS)(hi:apQ)(hj:auc)(c:i=a.size\/j=b.size):(axM++b.extract j b.size).toList.Pairwise (le r):=by
 rw[aaD,aaD,mF a hi,mF b hj];have na:i=a.size->a.toList.drop i=[]:=λe=>afS (by simp[e]);have nb:j=b.size->b.toList.drop j=[]:=λe=>afS (by simp[e]);rcases c with c|c
 .rw[na c,abf,aaX];exact⟨h.s,sb.sublist aoh,h.tb⟩
 .rw[nb c,abf,aaX];exact⟨h.s,sa.sublist aoh,h.ta⟩
def Ms.last(h:akC)(sa:ae8)(sb:agS)(hi:apQ)(hj:auc)(c:∀y∈b.toList,∀x∈a.toList.drop i,anf):(axL++a.extract i a.size).toList.Pairwise (le r):=by
 rw[aaD,aaD,mF a hi,mF b hj,aaL,aaX];refine⟨h.s,?_,λx hx y hy=>?_⟩
 .rw[aaX];exact⟨sb.sublist aoh,sa.sublist aoh,λy hy x hx=>c y (acF hy) x hx⟩
 .rcases aay.mp hy with z|z
  .exact h.tb x hx y z
  .exact h.ta x hx y z
end
section
variable {prog:ad2}{w:World}{A:ag0}{E:Value->Shared->Prop}{s:ab_}{κ:apl}{P:Keyed->Prop}{r:Keyed->Keyed->Bool}
def bne{n m:Nat}(h:¬(n==m)=true):n≠m:=λe=>h (by rw[e];simp)
def z_{a b:ab8}{st:ahV}{Q:ab8->SortSt->Prop}(L:ag3)(O:Ord r)(hk:ak3)(ha:∀x∈a,P x)(hb:∀x∈b,P x)(h1:1<=a.size)(h2:1<=b.size)
  (sa:ae8) (sb:agS) (first:∀y∈a.toList,le r b[0] y) (final:∀y∈b.toList,∀x∈a.toList.drop (a.size-1),anf)
  (q:∀out av,out.toList.Perm agL->ao2->aju->Q out av):wpS aa4 A E s (nJ a b) Q st:=by
 have wk:∀i,i+1=a.size->∀y∈b.toList,∀x∈a.toList.drop i,anf:=λi hi=>by rw[show i=a.size-1 by omega];exact final
 have gA:∀(ia ib:Nat) (xE:arA) (av:ahV) (Q':aha->ahV->Prop),aju->ia<a.size->(∀k,k<=a.size-ia->(∀x∈sg a ia k,∀y∈b.toList.drop ib,ang)->(∀x∈a.toList.drop (ia+k),le r b[ib] x)->auq)->
   wpS aa4 A E s (cb false b[ib] a ia aC7 0) Q' av:=λia ib xE av Q' hS ur hq=>by
  have e:sg a ia aC7=a.toList.drop ia:=abB ab5;refine c6 L O an8 ayw ha aa1 aa1 (by rw[e];exact sa.sublist aoh) λk hk g1 g2=>hq k hk (λx hx=>?_) (λx hx=>?_)
  .have:=g1 x (by rw[e];exact hx);have h':le r x b[ib]:=by unfold wt at this;simpa[le]using this
   exact rE O sb xE h'
  .have:=g2 x (by rw[e,afj];exact hx);unfold wt at this;have h':r b[ib] x=true:=by simpa using this
   exact O.of_lt h'
 have gB:∀(ia ib:Nat) (ur:ia<a.size) (av:ahV) (Q':aha->ahV->Prop),aju->arA->(∀k,k<=b.size-ib->(∀x∈sg b ib k,∀y∈a.toList.drop ia,ang)->(∀x∈b.toList.drop (ib+k),le r a[ia] x)->auq)->
   wpS aa4 A E s (cb true a[ia] b ib aCQ 0) Q' av:=λia ib ur av Q' hS xE hq=>by
  have e:sg b ib aCQ=b.toList.drop ib:=abB ab5;refine c6 L O an8 ayx hb aa1 aa1 (by rw[e];exact sb.sublist aoh) λk hk g1 g2=>hq k hk (λx hx=>?_) (λx hx=>?_)
  .have:=g1 x (by rw[e];exact hx);exact rE O sa ur (aw_ this)
  .exact g2 x (by rw[e,afj];exact hx)
 rw[ug];refine wpS_bind (wpS_lift (adq ⟨rfl,?_⟩));refine wpS_bind (bC aa1 ?_);dsimp only;have p0:Ms r a b #[b[0]] 0 1:=by
  have:Ms r a b #[] 0 0:=⟨by unfold Pt;simp,by simp,by simp,by simp⟩;exact this.qf sb aa1 first
 by_cases c1:(1==b.size)=true
 .rw[aav c1];exact wpS_pure (q _ _ (p0.p.done aa1 h2) (p0.done sa sb aa1 h2 (amY (by simpa using c1))) .rfl')
 rw[aaC c1];have xF:1<b.size:=by have:=bne c1;omega
 by_cases c2:(0+1==a.size)=true
 .rw[aav c2];exact wpS_pure (q _ _ (p0.p.last aa1 h2) (p0.last sa sb aa1 h2 (wk 0 (by simpa using c2))) .rfl')
 rw[aaC c2];have IL:0+1<a.size:=by have:=bne c2;omega
 refine wpS_bind (wpS_get ?_);refine wpS_bind (wpS_mono (wpS_forRange
  (I:=λi c av=>aju/\∃out ia ib g,c=(none,out,ia,ib,g)/\amv/\atj/\arA/\i+1<=ia+ib)
  (Q:=λc av=>aju/\∃o,asb/\alg/\aiq) ?step ?fin ⟨.rfl',_,_,_,_,rfl,p0,IL,xF,aam _⟩) ?post)
 case post=>
  rintro⟨c,d⟩ av ⟨hS,o,hc,hr,K7⟩;have kJ:axi:=hc;subst kJ;exact wpS_pure (q o av hr K7 hS)
 case fin=>
  rintro c av ⟨_,out,ia,ib,g,_,_,x1,x2,x3⟩;omega
 case step=>
  rintro i c gy _ _ ⟨Ud,out,ia,ib,g,rfl,hP,x1,x2,x3⟩;dsimp only;refine wpS_bind (wpS_mono (wpS_forRange
   (I:=λ_ c av=>aju/\∃out ia ib n m,aBS/\amv/\atj/\arA/\i+1<=ia+ib)
   (Q:=λc av=>aju/\((∃o,asb/\alg/\aiq)\/∃out ia ib n m,aBS/\amv/\atj/\arA/\i+1<=ia+ib)) ?Cc ?K8 ⟨Ud,_,_,_,_,_,rfl,hP,x1,x2,x3⟩) ?Cd)
  case K8=>exact λc av ⟨z1,z2⟩=>⟨z1,.inr z2⟩
  case Cc=>
   rintro _ c cW _ _ ⟨nN,out,ia,ib,n,m,rfl,hP,x1,x2,x3⟩;dsimp only;have ur:ia<a.size:=by omega
   refine wpS_bind (bC x2 (wpS_bind (bC ur (wpS_bind (L _ _ _ _ ayw ayx (nN.k.trans hk) ?_)))));cases bw:r b[ib] a[ia]with
   |true=>
    dsimp only;rw[aav rfl];refine wpS_bind (bC x2 ?_);have mi:=hP.qf sb x2 (rE O sa ur (aw_ bw));by_cases e1:(ib+1==b.size)=true
    .rw[aav e1];exact wpS_pure ⟨nN,.inl ⟨_,rfl,mi.p.done aa1 aa1,mi.done sa sb aa1 aa1 (amY (by simpa using e1))⟩⟩
    .rw[aaC e1];have pA:ib+1<b.size:=by have:=bne e1;omega
     split
     .exact wpS_pure ⟨nN,.inr ⟨_,_,_,_,_,rfl,mi,x1,pA,by omega⟩⟩
     .exact wpS_pure ⟨nN,_,_,_,_,_,rfl,mi,x1,pA,by omega⟩
   |false=>
    dsimp only;rw[aaC aai];refine wpS_bind (bC ur ?_);have mi:=hP.qd sa ur (rE O sb x2 bw);by_cases e1:(ia+1+1==a.size)=true
    .rw[aav e1];exact wpS_pure ⟨nN,.inl ⟨_,rfl,mi.p.last aa1 aa1,mi.last sa sb aa1 aa1 (wk _ (by simpa using e1))⟩⟩
    .rw[aaC e1];have pA:ia+1+1<a.size:=by have:=bne e1;omega
     split
     .exact wpS_pure ⟨nN,.inr ⟨_,_,_,_,_,rfl,mi,pA,x2,by omega⟩⟩
     .exact wpS_pure ⟨nN,_,_,_,_,_,rfl,mi,pA,x2,by omega⟩
  case Cd=>
   rintro⟨c,d⟩ cW ⟨nN,⟨o,hc,hr⟩|⟨out,ia,ib,n,m,hc,hP,x1,x2,x3⟩⟩
   .have kJ:axi:=hc;subst kJ;exact wpS_pure ⟨nN,o,rfl,hr⟩
   .cases hc;dsimp only;refine wpS_bind (wpS_lift (adq ⟨rfl,?_⟩));refine wpS_bind (wpS_mono (wpS_forRange
     (I:=λj c av=>aju/\∃out ia ib g n m,aAd/\amv/\atj/\arA/\i+1+(min j 1)<=ia+ib)
     (Q:=λc av=>aju/\((∃o,asb/\alg/\aiq)\/∃out ia ib g n m,aAd/\amv/\atj/\arA/\i+1+1<=ia+ib)) ?Ce ?K9 ⟨nN,_,_,_,_,_,_,rfl,hP,x1,x2,by omega⟩) ?Cf)
    case K9=>
     rintro c av ⟨z1,out,ia,ib,g,n,m,z2,z3,z4,z5,z6⟩;exact⟨z1,.inr ⟨out,ia,ib,g,n,m,z2,z3,z4,z5,by omega⟩⟩
    case Cf=>
     rintro⟨c,d⟩ kQ ⟨jz,⟨o,hc,hr⟩|⟨out,ia,ib,g,n,m,hc,hP,x1,x2,x3⟩⟩
     .have kJ:axi:=hc;subst kJ;exact wpS_pure ⟨jz,o,rfl,hr⟩
     .cases hc;dsimp only;unfold bu;exact wpS_bind (wpS_modify (wpS_pure ⟨amk,_,_,_,_,rfl,hP,x1,x2,by omega⟩))
    case Ce=>
     rintro j c kQ _ _ ⟨jz,out,ia,ib,g,n,m,rfl,hP,x1,x2,x3⟩;dsimp only;apply xu
     .intro shared;by_cases hg:g>1
      rotate_left
      .rw[aaC hg];apply shared g
      .rw[aav hg];exact shared (g-1)
     intro g';unfold bu;refine wpS_bind (wpS_modify ?_);refine wpS_bind (bC x2 (wpS_bind (gA ia ib x2 _ _ jz.setG aa1 λk K6 k1 k2=>?_)));dsimp only;apply rC (λo i'=>Ms r a b o i' ib/\i'+1<a.size/\i+1+min j 1<=i'+ib/\∀x∈a.toList.drop i',le r b[ib] x)
     .intro shared;by_cases Pb:k>0
      rotate_left
      .rw[aaC Pb];apply shared out ia ⟨hP,x1,x3,by rw[show ia=ia+k by omega];exact k2⟩
      .rw[aav Pb];have Aa:=hP.rB sa k1;by_cases e1:(ia+k+1==a.size)=true
       .rw[aav e1];exact wpS_pure ⟨amk,.inl ⟨_,rfl,Aa.p.last aa1 aa1,Aa.last sa sb aa1 aa1 (wk _ (by simpa using e1))⟩⟩
       rw[aaC e1];by_cases e2:(ia+k==a.size)=true
       .rw[aav e2];exact wpS_pure ⟨amk,.inl ⟨_,rfl,Aa.p.done aa1 aa1,Aa.done sa sb aa1 aa1 (akf (by simpa using e2))⟩⟩
       rw[aaC e2];have pA:ia+k+1<a.size:=by have:=bne e1;have:=bne e2;omega
       exact shared _ _ ⟨Aa,pA,by omega,k2⟩
     intro o i' hT;obtain⟨Aa,y1,y2,y3⟩:=hT;refine wpS_bind (bC x2 ?_);have Ab:=Aa.qf sb x2 y3;by_cases e3:(ib+1==b.size)=true
     .rw[aav e3];exact wpS_pure ⟨amk,.inl ⟨_,rfl,Ab.p.done aa1 aa1,Ab.done sa sb aa1 aa1 (amY (by simpa using e3))⟩⟩
     rw[aaC e3];have Nt:ib+1<b.size:=by have:=bne e3;omega
     have gM:i'<a.size:=by omega
     refine wpS_bind (bC gM (wpS_bind (gB i' (ib+1) gM _ _ jz.setG Nt λkk RW g1 g2=>?_)));dsimp only;generalize o.push (b[ib]'x2)=o2 at Ab⊢;generalize xE:ib+1=FR at Ab Nt RW g1 g2⊢;apply rC (λo3 i3=>Ms r a b o3 i' i3/\i3<b.size/\i+1+1<=i'+i3/\∀x∈b.toList.drop i3,le r a[i'] x)
     .intro shared;by_cases Pc:kk>0
      rotate_left
      .rw[aaC Pc];apply shared o2 FR ⟨Ab,Nt,by omega,by rw[show FR=FR+kk by omega];exact g2⟩
      .rw[aav Pc];have Ac:=Ab.rA sb g1;by_cases e4:(FR+kk==b.size)=true
       .rw[aav e4];exact wpS_pure ⟨amk,.inl ⟨_,rfl,Ac.p.done aa1 aa1,Ac.done sa sb aa1 aa1 (amY (by simpa using e4))⟩⟩
       rw[aaC e4];have K_:FR+kk<b.size:=by have:=bne e4;omega
       exact shared _ _ ⟨Ac,K_,by omega,g2⟩
     intro o3 i3 hT;obtain⟨Ac,K_,y4,y5⟩:=hT;refine wpS_bind (bC gM ?_);have FU:=Ac.qd sa gM y5;by_cases e5:(i'+1+1==a.size)=true
     .rw[aav e5];exact wpS_pure ⟨amk,.inl ⟨_,rfl,FU.p.last aa1 aa1,FU.last sa sb aa1 aa1 (wk _ (by simpa using e5))⟩⟩
     rw[aaC e5];have Pd:i'+1+1<a.size:=by have:=bne e5;omega
     split
     .exact wpS_pure ⟨amk,.inr ⟨_,_,_,_,_,_,rfl,FU,Pd,by omega,by omega⟩⟩
     .exact wpS_pure ⟨amk,_,_,_,_,_,_,rfl,FU,Pd,by omega,by omega⟩
end
structure Mh(r:Keyed->Keyed->Bool)(a b out:ab8)(i j:Nat):Prop where
 p:Ph a b out i j
 s:out.toList.Pairwise λx y=>le r y x
 ta:∀x∈out.toList,∀y∈a.toList.take i,le r y x
 tb:∀x∈out.toList,∀y∈b.toList.take j,le r y x
section
variable {r:Keyed->Keyed->Bool}{a b out:ab8}{i j k:Nat}
def jW(a:ab8)(k i:Nat):(a.extract k i).toList =(a.toList.take i).drop k:=by
 rw[acE];unfold List.extract;rw[List.drop_take]
def uu(a:ab8)(h:k<=i):a.toList.take i=a.toList.take k++(a.toList.take i).drop k:=by
 have:=(abR k (a.toList.take i)).symm;rwa [agn,ady h]at this
theorem Mh.rB(h:akD)(sa:ae8)(hk:k<=i)(hi:apQ)(hb:∀x∈(a.toList.take i).drop k,∀y∈b.toList.take j,anf):Mh r a b auU k j:=by
 have sd:(a.toList.take i).Pairwise (le r):=sa.sublist aog;have e:=uu a hk;rw[e,aaX]at sd;obtain⟨p1,p2,p3⟩:=sd;have O9:∀x∈out.toList,∀y∈a.toList.take k++(a.toList.take i).drop k,anf:=λx hx y hy=>h.ta x hx y (by rw[e];exact hy);have el:(out++(a.extract k i).reverse).toList =out.toList++((a.toList.take i).drop k).reverse :=by rw[aaD,abQ,jW]
 refine⟨h.p.rB hk hi,?_,λx hx y hy=>?_,λx hx y hy=>?_⟩
 .rw[el,aaX];exact⟨h.s,adC.mpr p2,λx hx y hy=>O9 x hx y (aaw _ ap4)⟩
 .rw[el]at hx;rcases aay.mp hx with z|z
  .exact O9 x z y (aw8 hy)
  .exact p3 y hy x ayI
 .rw[el]at hx;rcases aay.mp hx with z|z
  .exact h.tb x z y hy
  .exact hb x ayI y hy
theorem Mh.rA(h:akD)(sb:agS)(hk:k<=j)(hj:auc)(ha:∀x∈(b.toList.take j).drop k,∀y∈a.toList.take i,anf):Mh r a b auT i k:=by
 have sd:(b.toList.take j).Pairwise (le r):=sb.sublist aog;have e:=uu b hk;rw[e,aaX]at sd;obtain⟨p1,p2,p3⟩:=sd;have O_:∀x∈out.toList,∀y∈b.toList.take k++(b.toList.take j).drop k,anf:=λx hx y hy=>h.tb x hx y (by rw[e];exact hy);have el:(out++(b.extract k j).reverse).toList =out.toList++((b.toList.take j).drop k).reverse :=by rw[aaD,abQ,jW]
 refine⟨h.p.rA hk hj,?_,λx hx y hy=>?_,λx hx y hy=>?_⟩
 .rw[el,aaX];exact⟨h.s,adC.mpr p2,λx hx y hy=>O_ x hx y (aaw _ ap4)⟩
 .rw[el]at hx;rcases aay.mp hx with z|z
  .exact h.ta x z y hy
  .exact ha x ayI y hy
 .rw[el]at hx;rcases aay.mp hx with z|z
  .exact O_ x z y (aw8 hy)
  .exact p3 y hy x ayI
def Mh.cg(h:akD)(e:o.toList=out.toList):Mh r a b o i j:=⟨by unfold Ph;rw[e];exact h.p,by rw[e];exact h.s,λx hx=>h.ta x (by rw[<-e];exact hx),λx hx=>h.tb x (by rw[<-e];exact hx)⟩
def Mh.qd(h:akD)(sa:ae8)(h1:1<=i)(hi:i-1<a.size)(hb:∀y∈b.toList.take j,le r y a[i-1]):Mh r a b (out.push a[i-1]) (i-1) j:=by
 refine(h.rB (k:=i-1) sa aa1 aa1 λx hx=>?_).cg (by rw[aaD,abQ,jV h1 hi,afT,<-acK]);rw[<-jW,jV h1 hi,aak]at hx;rw[hx];exact hb
def Mh.qf(h:akD)(sb:agS)(h1:1<=j)(hj:j-1<b.size)(ha:∀y∈a.toList.take i,le r y b[j-1]):Mh r a b (out.push b[j-1]) i (j-1):=by
 refine(h.rA (k:=j-1) sb aa1 aa1 λx hx=>?_).cg (by rw[aaD,abQ,jV h1 hj,afT,<-acK]);rw[<-jW,jV h1 hj,aak]at hx;rw[hx];exact ha
def xH(O:Ord r)(sa:ae8)(hi:i-1<a.size)(hx:le r a[i-1] x):∀y∈a.toList.take i,anf:=λy hy=>by
 obtain⟨m,hm,rfl⟩:=adl hy;rw[abS,aaG]at hm;rw[List.getElem_take];rcases abq m (i-1)with z|z
 .refine O.trans ?_ hx;have:=(acb.mp sa) m (i-1) (by simp;omega) (by simp;omega) z;simpa using this
 .have e:m=i-1:=by omega
  subst e;simpa using hx
def Mh.done(h:akD)(sa:ae8)(sb:agS)(c:i=0\/j=0):(au1++out.reverse).toList.Pairwise (le r):=by
 rw[aaD,aaD,dR,dR,abQ,aaX];refine⟨?_,adC.mpr h.s,λx hx y hy=>?_⟩
 .rcases c with rfl|rfl
  .rw[List.take_zero,aei];exact sb.sublist aog
  .rw[List.take_zero,abf];exact sa.sublist aog
 .rcases aay.mp hx with z|z
  .exact h.ta y ap4 x z
  .exact h.tb y ap4 x z
def Mh.first(h:akD)(sa:ae8)(sb:agS)(c:∀x∈b.toList.take j,∀y∈a.toList,ang):(auY++out.reverse).toList.Pairwise (le r):=by
 rw[aaD,aaD,dR,dR,abQ,aaX];refine⟨?_,adC.mpr h.s,λx hx y hy=>?_⟩
 .rw[aaX];exact⟨sb.sublist aog,sa.sublist aog,λx hx y hy=>c x hx y (acG hy)⟩
 .rcases aay.mp hx with z|z
  .exact h.tb y ap4 x z
  .exact h.ta y ap4 x z
end
section
variable {prog:ad2}{w:World}{A:ag0}{E:Value->Shared->Prop}{s:ab_}{κ:apl}{P:Keyed->Prop}{r:Keyed->Keyed->Bool}
def Ad{a b:ab8}{st:ahV}{Q:ab8->SortSt->Prop}(L:ag3)(O:Ord r)(hk:ak3)(ha:∀x∈a,P x)(hb:∀x∈b,P x)(h1:1<=a.size)(h2:1<=b.size)
  (sa:ae8) (sb:agS) (first:∀y∈a.toList,le r b[0] y) (final:∀y∈b.toList,∀x∈a.toList.drop (a.size-1),anf)
  (q:∀out av,out.toList.Perm agL->ao2->aju->Q out av):wpS aa4 A E s (nK a b) Q st:=by
 have FV:∀j,j=1->∀x∈b.toList.take j,∀y∈a.toList,ang:=λj hj x hx=>by
  subst hj;have:=dR b (i:=1);rw[<-this,ir aa1,aak]at hx;rw[hx];exact first
 have gA:∀(ia ib:Nat) (xE:ib-1<b.size) (av:ahV) (Q':aha->ahV->Prop),aju->1<=ia->ar8->(∀k,k<=ia->(∀x∈(a.toList.take ia).drop k,∀y∈b.toList.take ib,anf)->(∀y∈a.toList.take k,le r y b[ib-1])->auq)->
   wpS aa4 A E s (cb false b[ib-1] a 0 ia (ia-1)) Q' av:=λia ib xE av Q' hS ur Yx hq=>by
  have e:sg a 0 ia=a.toList.take ia:=by unfold sg;rw[adQ]
  refine c6 L O an8 ayw ha aa1 aa1 (by rw[e];exact sa.sublist aog) λk hk g1 g2=>hq k hk (λx hx=>?_) (λx hx=>?_)
  .have:=g2 x (by rw[e];exact hx);unfold wt at this;have h':r b[ib-1] x=true:=by simpa using this
   exact xH O sb xE (aw_ h')
  .have:=g1 x (by rw[e,agn,ady hk];exact hx);unfold wt at this;simpa[le]using this
 have gB:∀(ia ib:Nat) (ur:ia-1<a.size) (av:ahV) (Q':aha->ahV->Prop),aju->1<=ib->ar7->(∀k,k<=ib->(∀x∈(b.toList.take ib).drop k,∀y∈a.toList.take ia,anf)->(∀y∈b.toList.take k,le r y a[ia-1])->auq)->
   wpS aa4 A E s (cb true a[ia-1] b 0 ib (ib-1)) Q' av:=λia ib ur av Q' hS xE Yy hq=>by
  have e:sg b 0 ib=b.toList.take ib:=by unfold sg;rw[adQ]
  refine c6 L O an8 ayx hb aa1 aa1 (by rw[e];exact sb.sublist aog) λk hk g1 g2=>hq k hk (λx hx=>?_) (λx hx=>?_)
  .exact xH O sa ur (g2 x (by rw[e];exact hx))
  .exact O.of_lt (g1 x (by rw[e,agn,ady hk];exact hx))
 rw[uh];refine wpS_bind (wpS_lift (adq ⟨rfl,?_⟩));refine wpS_bind (bC (show a.size-1<a.size by omega) ?_);dsimp only;have p0:Mh r a b #[a[a.size-1]] (a.size-1) b.size:=by
  have:Mh r a b #[] a.size b.size:=⟨by
   unfold Ph;rw[abB ab5,abB ab5];simp,by simp,by simp,by simp⟩
  refine this.qd sa h1 aa1 λy hy=>?_;have gM:a.size-1<a.toList.length:=by simp;omega
  refine final y (acG hy) _ ?_;rw[abv gM];simp
 by_cases c1:(a.size-1==0)=true
 .rw[aav c1];exact wpS_pure (q _ _ p0.p.done (p0.done sa sb (akf (by simpa using c1))) .rfl')
 rw[aaC c1];have xF:1<=a.size-1:=by have:=bne c1;omega
 by_cases c2:(b.size==1)=true
 .rw[aav c2];exact wpS_pure (q _ _ p0.p.first (p0.first sa sb (FV _ (by simpa using c2))) .rfl')
 rw[aaC c2];have IL:2<=b.size:=by have:=bne c2;omega
 refine wpS_bind (wpS_get ?_);refine wpS_bind (wpS_mono (wpS_forRange
  (I:=λi c av=>aju/\∃ia ib out g,c=(none,ia,ib,out,g)/\amw/\1<=ia/\ar8/\2<=ib/\ar7/\apR)
  (Q:=λc av=>aju/\∃o,asb/\alg/\aiq) ?step ?fin ⟨.rfl',_,_,_,_,rfl,p0,xF,by omega,IL,aam _,by omega⟩) ?post)
 case post=>
  rintro⟨c,d⟩ av ⟨hS,o,hc,hr,K7⟩;have kJ:axi:=hc;subst kJ;exact wpS_pure (q o av hr K7 hS)
 case fin=>
  rintro c av ⟨_,ia,ib,out,g,_,_,x1,x2,x3,x4,x5⟩;omega
 case step=>
  rintro i c gy _ _ ⟨Ud,ia,ib,out,g,rfl,hP,x1,x2,x3,x4,x5⟩;dsimp only;refine wpS_bind (wpS_mono (wpS_forRange
   (I:=λ_ c av=>aju/\∃ia ib out n m,aBT/\amw/\1<=ia/\ar8/\2<=ib/\ar7/\apR)
   (Q:=λc av=>aju/\((∃o,asb/\alg/\aiq)\/∃ia ib out n m,aBT/\amw/\1<=ia/\ar8/\2<=ib/\ar7/\apR)) ?Cc ?K8 ⟨Ud,_,_,_,_,_,rfl,hP,x1,x2,x3,x4,x5⟩) ?Cd)
  case K8=>exact λc av ⟨z1,z2⟩=>⟨z1,.inr z2⟩
  case Cc=>
   rintro _ c cW _ _ ⟨nN,ia,ib,out,n,m,rfl,hP,x1,x2,x3,x4,x5⟩;dsimp only;have xE:ib-1<b.size:=by omega
   have ur:ia-1<a.size:=by omega
   refine wpS_bind (bC xE (wpS_bind (bC ur (wpS_bind (L _ _ _ _ ayw ayx (nN.k.trans hk) ?_)))));cases bw:r b[ib-1] a[ia-1]with
   |true=>
    dsimp only;rw[aav rfl];refine wpS_bind (bC ur ?_);have mi:=hP.qd sa x1 ur (xH O sb xE (aw_ bw));by_cases e1:(ia-1==0)=true
    .rw[aav e1];exact wpS_pure ⟨nN,.inl ⟨_,rfl,mi.p.done,mi.done sa sb (akf (by simpa using e1))⟩⟩
    .rw[aaC e1];have pA:1<=ia-1:=by have:=bne e1;omega
     split
     .exact wpS_pure ⟨nN,.inr ⟨_,_,_,_,_,rfl,mi,pA,by omega,by omega,by omega,by omega⟩⟩
     .exact wpS_pure ⟨nN,_,_,_,_,_,rfl,mi,pA,by omega,by omega,by omega,by omega⟩
   |false=>
    dsimp only;rw[aaC aai];refine wpS_bind (bC xE ?_);have mi:=hP.qf sb (show 1<=ib by omega) xE (xH O sa ur bw);by_cases e1:(ib-1==1)=true
    .rw[aav e1];exact wpS_pure ⟨nN,.inl ⟨_,rfl,mi.p.first,mi.first sa sb (FV _ (by simpa using e1))⟩⟩
    .rw[aaC e1];have pA:2<=ib-1:=by have:=bne e1;omega
     split
     .exact wpS_pure ⟨nN,.inr ⟨_,_,_,_,_,rfl,mi,x1,by omega,pA,by omega,by omega⟩⟩
     .exact wpS_pure ⟨nN,_,_,_,_,_,rfl,mi,x1,by omega,pA,by omega,by omega⟩
  case Cd=>
   rintro⟨c,d⟩ cW ⟨nN,⟨o,hc,hr⟩|⟨ia,ib,out,n,m,hc,hP,x1,x2,x3,x4,x5⟩⟩
   .have kJ:axi:=hc;subst kJ;exact wpS_pure ⟨nN,o,rfl,hr⟩
   .cases hc;dsimp only;refine wpS_bind (wpS_lift (adq ⟨rfl,?_⟩));refine wpS_bind (wpS_mono (wpS_forRange
     (I:=λj c av=>aju/\∃ia ib out g n m,aAe/\amw/\1<=ia/\ar8/\2<=ib/\ar7/\i+1+(min j 1)+ia+ib<=a.size+b.size)
     (Q:=λc av=>aju/\((∃o,asb/\alg/\aiq)\/∃ia ib out g n m,aAe/\amw/\1<=ia/\ar8/\2<=ib/\ar7/\i+1+1+ia+ib<=a.size+b.size)) ?Ce ?K9 ⟨nN,_,_,_,_,_,_,rfl,hP,x1,x2,x3,x4,by omega⟩) ?Cf)
    case K9=>
     rintro c av ⟨z1,ia,ib,out,g,n,m,z2,z3,z4,z5,z6,z7,z8⟩;exact⟨z1,.inr ⟨ia,ib,out,g,n,m,z2,z3,z4,z5,z6,z7,by omega⟩⟩
    case Cf=>
     rintro⟨c,d⟩ kQ ⟨jz,⟨o,hc,hr⟩|⟨ia,ib,out,g,n,m,hc,hP,x1,x2,x3,x4,x5⟩⟩
     .have kJ:axi:=hc;subst kJ;exact wpS_pure ⟨jz,o,rfl,hr⟩
     .cases hc;dsimp only;unfold bu;exact wpS_bind (wpS_modify (wpS_pure ⟨amk,_,_,_,_,rfl,hP,x1,x2,x3,x4,by omega⟩))
    case Ce=>
     rintro j c kQ _ _ ⟨jz,ia,ib,out,g,n,m,rfl,hP,x1,x2,x3,x4,x5⟩;dsimp only;apply xu
     .intro shared;by_cases hg:g>1
      rotate_left
      .rw[aaC hg];apply shared g
      .rw[aav hg];exact shared (g-1)
     intro g';unfold bu;refine wpS_bind (wpS_modify ?_);have Pf:ib-1<b.size:=by omega
     refine wpS_bind (bC Pf (wpS_bind (gA ia ib Pf _ _ jz.setG x1 x2 λPj K6 k1 k2=>?_)));dsimp only;generalize T9:ia-Pj=cnt;apply rC (λo i'=>Mh r a b o i' ib/\1<=i'/\i'<=a.size/\i+1+min j 1+i'+ib<=a.size+b.size/\∀y∈a.toList.take i',le r y b[ib-1])
     .intro shared;by_cases Pb:cnt>0
      rotate_left
      .rw[aaC Pb];apply shared out ia ⟨hP,x1,x2,x5,by rw[show ia=Pj by omega];exact k2⟩
      .rw[aav Pb];have Aa:=hP.rB (k:=Pj) sa K6 x2 k1;by_cases e1:(Pj==0)=true
       .rw[aav e1];exact wpS_pure ⟨amk,.inl ⟨_,rfl,Aa.p.done,Aa.done sa sb (akf (by simpa using e1))⟩⟩
       rw[aaC e1];have pA:1<=Pj:=by have:=bne e1;omega
       exact shared _ _ ⟨Aa,pA,by omega,by omega,k2⟩
     intro o i' hT;obtain⟨Aa,y1,y2,y4,y6⟩:=hT;refine wpS_bind (bC Pf ?_);have Ab:=Aa.qf sb (show 1<=ib by omega) Pf y6;by_cases e3:(ib-1==1)=true
     .rw[aav e3];exact wpS_pure ⟨amk,.inl ⟨_,rfl,Ab.p.first,Ab.first sa sb (FV _ (by simpa using e3))⟩⟩
     rw[aaC e3];have Nt:2<=ib-1:=by have:=bne e3;omega
     have RX:i'-1<a.size:=by omega
     refine wpS_bind (bC RX (wpS_bind (gB i' (ib-1) RX _ _ jz.setG aa1 aa1 λNu RW g1 g2=>?_)));dsimp only;generalize o.push (b[ib-1]'Pf)=o2 at Ab⊢;generalize xE:ib-1=FR at Ab Nt RW g1⊢;generalize hc1:FR-Nu=Ue;apply rC (λo3 i3=>Mh r a b o3 i' i3/\2<=i3/\i3<=b.size/\i+1+1+(i'-1)+i3<=a.size+b.size/\∀y∈b.toList.take i3,le r y a[i'-1])
     .intro shared;by_cases Pc:Ue>0
      rotate_left
      .rw[aaC Pc];apply shared o2 FR ⟨Ab,Nt,by omega,by omega,by rw[show FR=Nu by omega];exact g2⟩
      .rw[aav Pc];have Ac:=Ab.rA (k:=Nu) sb RW aa1 g1;by_cases e4:(Nu==1)=true
       .rw[aav e4];exact wpS_pure ⟨amk,.inl ⟨_,rfl,Ac.p.first,Ac.first sa sb (FV _ (by simpa using e4))⟩⟩
       rw[aaC e4];by_cases e6:(Nu==0)=true
       .rw[aav e6];exact wpS_pure ⟨amk,.inl ⟨_,rfl,Ac.p.done,Ac.done sa sb (amY (by simpa using e6))⟩⟩
       rw[aaC e6];have K_:2<=Nu:=by have:=bne e4;have:=bne e6;omega
       exact shared _ _ ⟨Ac,K_,by omega,by omega,g2⟩
     intro o3 i3 hT;obtain⟨Ac,K_,y3,y5,y7⟩:=hT;refine wpS_bind (bC RX ?_);have FU:=Ac.qd sa (show 1<=i' by omega) RX y7;by_cases e5:(i'-1==0)=true
     .rw[aav e5];exact wpS_pure ⟨amk,.inl ⟨_,rfl,FU.p.done,FU.done sa sb (akf (by simpa using e5))⟩⟩
     rw[aaC e5];have Pd:1<=i'-1:=by have:=bne e5;omega
     split
     .exact wpS_pure ⟨amk,.inr ⟨_,_,_,_,_,_,rfl,FU,Pd,by omega,by omega,by omega,by omega⟩⟩
     .exact wpS_pure ⟨amk,_,_,_,_,_,_,rfl,FU,Pd,by omega,by omega,by omega,by omega⟩
end
noncomputable def gt(xs:ab8)(i:Nat):Keyed:=xs[i]?.getD (.none,.none)
def i7(h:i<xs.size):gt xs i=xs[i]:=by unfold gt;rw[aaB h];rfl
def So(r:Keyed->Keyed->Bool)(xs:ab8)(lo hi:Nat):Prop:=∀i j,lo<=i->i<=j->j<hi->le r (aym i) (aym j)
def De(r:Keyed->Keyed->Bool)(xs:ab8)(lo hi:Nat):Prop:=∀i j,lo<=i->i<=j->j<hi->le r (aym j) (aym i)
def iu(hj:j<=xs.size)(k:Nat):gt (mirror xs i j ((j-i)/2)) k=if i<=k/\k<j then gt xs (i+j-1-k) else gt xs k:=by
 unfold gt;rw[getElem?_mirror_all hj k];split<;>rfl
def kY(hs:iw<xs.size)(hd:d<=iw)(k:Nat):gt (bubble xs iw d) k=if k=iw-d then gt xs iw else if iw-d<k/\k<=iw then gt xs (k-1) else gt xs k:=by
 unfold gt;rw[getElem?_bubble hs d hd k];split
 .rfl
 .split<;>rfl
structure At(st av:ahV)(lo hi:Nat):Prop where
 a:Ar st av
 o:∀i,i<lo\/hi<=i->gt ag1 i=gt ac2 i
theorem At.rfl'{st:ahV}{lo hi:Nat}:At st st lo hi:=⟨.rfl',λ_ _=>rfl⟩
theorem At.trans{st av Pk:ahV}{lo hi:Nat}(h:At st av lo hi)(h':At av Pk lo hi):At st Pk lo hi:=
 ⟨⟨h'.a.k.trans h.a.k,h'.a.a.trans h.a.a,h'.a.p.trans h.a.p,h'.a.f.trans h.a.f⟩,λi hi=>(h'.o i hi).trans (h.o i hi)⟩
theorem At.mirror{st:ahV}{lo hi i j:Nat}(hj:j<=(arrOf st).size)(h1:lo<=i)(h2:j<=hi):At st (setArr st (mirror ac2 i j ((j-i)/2))) lo hi:=
 ⟨(Ar.rfl').set (mirror_perm _ _ _ _),λk hk=>by
  show gt (PyProof.Rows.mirror ac2 i j ((j-i)/2)) k=_;rw[iu hj,aaC aa1]⟩
theorem At.bubble{st:ahV}{lo hi iw d:Nat}(hs:iw<(arrOf st).size)(hd:d<=iw)(h1:lo<=iw-d)(h2:iw<hi):At st (setArr st (bubble ac2 iw d)) lo hi:=
 ⟨(Ar.rfl').set (bubble_perm _ _ _),λk hk=>by
  show gt (PyProof.Rows.bubble ac2 iw d) k=_;rw[kY hs hd,aaC aa1,aaC aa1]⟩
section
variable {prog:ad2}{w:World}{A:ag0}{E:Value->Shared->Prop}{s:ab_}{κ:apl}{P:Keyed->Prop}{r:Keyed->Keyed->Bool}
def kZ{i j:Nat}{st:ahV}{Q:alP->SortSt->Prop}(L:ag3)(hk:ak3)(hp:∀x∈arrOf st,P x)(hi:i<(arrOf st).size)(hj:j<(arrOf st).size)(q:Q (ajU (r (azQ i) anZ)) st):wpS aa4 A E s (ltAt' i j) Q st:=by
 rw[i7 hi,i7 hj]at q;rw[ltAt'_eq];exact wpS_bind (wpS_get (wpS_bind (bC hi (wpS_bind (bC hj (L _ _ _ _ ayv ayv hk q))))))
def rF{lo n ok:Nat}{st:ahV}{Q:Bool->SortSt->Prop}(L:ag3)(O:Ord r)(hk:ak3)(hp:∀x∈arrOf st,P x)(hz:lo+n<=(arrOf st).size)(aR:ok<=n)(hs:So r ac2 lo (lo+ok))(q:∀av,auA->amt->Q true av):wpS aa4 A E s (binarySort' lo n ok) Q st:=by
 rw[binarySort'_eq];refine wpS_bind (wpS_mono (wpS_forRange (I:=λk c av=>c=(none,())/\auA/\So r ag1 lo (lo+min k n)) (Q:=λc av=>c=(none,())/\auA/\amt) ?_ ?_ ⟨rfl,.rfl',λi j h1 h2 h3=>?_⟩) ?_)
 .rintro k c gy k1 k2 ⟨rfl,a1,s1⟩;rw[show min k n=k by omega]at s1;have hsz:=a1.a.size;refine wpS_bind (wpS_mono (wpS_forRange (I:=λx c av=>av=gy/\∃l u,c=(none,l,u)/\l<=u/\u<=k/\u-l<=k-x/\(∀i,i<l->le r au0 auZ)/\(∀i,u<=i->i<k->le r auZ au0))
   (Q:=λc av=>av=gy/\∃l u,c=(none,l,u)/\l<=k/\(∀i,i<l->le r au0 auZ)/\(∀i,l<=i->i<k->le r auZ au0)) ?_ ?_ ⟨rfl,0,k,rfl,by omega,by omega,by omega,λi h=>by omega,λi h1 h2=>by omega⟩) ?_)
  .rintro x c cW _ hx ⟨rfl,l,u,rfl,z1,z2,z3,z4,z5⟩;dsimp only;by_cases hl:l ≥ u
   .rw[aav hl];exact wpS_pure ⟨rfl,l,u,rfl,by omega,z4,λi h1 h2=>z5 i aa1 h2⟩
   .rw[aaC hl];refine wpS_bind (kZ L (a1.a.k.trans hk) (a1.a.all hp) aa1 aa1 ?_);cases e:r awA (gt ajp (lo+(l+u)/2))with
    |true=>exact wpS_pure ⟨rfl,l,_,rfl,by omega,by omega,by omega,z4,λi h1 h2=>O.trans (aw_ e) (s1 _ _ aa1 aa1 aa1)⟩
    |false=>exact wpS_pure ⟨rfl,_,u,rfl,by omega,z2,by omega,λi h=>O.trans (s1 (lo+i) (lo+(l+u)/2) aa1 aa1 aa1) e,z5⟩
  .rintro c cW ⟨rfl,l,u,rfl,z1,z2,z3,z4,z5⟩;exact⟨rfl,l,u,rfl,by omega,z4,λi h1 h2=>z5 i aa1 h2⟩
  .rintro c cW ⟨rfl,l,u,rfl,z1,z4,z5⟩;dsimp only;rw[moveDown'_eq];refine wpS_bind (wpS_modify (wpS_pure ⟨rfl,a1.trans (At.bubble aa1 aa1 aa1 aa1),?_⟩));rw[show min (k+1) n=k+1 by omega];have K':lo+k<(arrOf cW).size :=by omega
   intro i j h1 h2 h3;show le r (gt atn i) (gt atn j);have a4:∀i,lo<=i->i<lo+l->le r (gt ajp i) awA:=λi h h'=>by
    have:=z4 (i-lo) aa1;rwa [show lo+(i-lo)=i by omega]at this
   have a5:∀i,lo+l<=i->i<lo+k->le r awA (gt ajp i):=λi h h'=>by
    have:=z5 (i-lo) aa1 aa1;rwa [show lo+(i-lo)=i by omega]at this
   rw[kY K' aa1,kY K' aa1,show lo+k-(lo+k-(lo+l))=lo+l by omega]
   repeat' split
   all_goals first
    |(exfalso;omega)
    |exact O.refl _
    |exact a4 _ aa1 aa1
    |exact a5 _ aa1 aa1
    |exact s1 _ _ aa1 aa1 aa1
 .rintro c av ⟨hc,a1,s1⟩;rw[show min (max (max ok 1) n) n=n by omega]at s1;exact⟨hc,a1,s1⟩
 .by_cases e:ok=0
  .rw[show i=j by omega];exact O.refl _
  .exact hs i j h1 h2 aa1
 .rintro c gy ⟨rfl,a1,s1⟩;exact wpS_pure (q gy a1 s1)
def So.one(O:Ord r)(xs:ab8)(lo:Nat):So r xs lo (lo+1):=λi j h1 h2 h3=>by rw[show i=j by omega];exact O.refl _
def De.one(O:Ord r)(xs:ab8)(lo:Nat):De r xs lo (lo+1):=λi j h1 h2 h3=>by rw[show i=j by omega];exact O.refl _
def So.more(O:Ord r){xs:ab8}{lo n:Nat}(h:So r xs lo (lo+n))(h1:1<=n)(hl:le r (aym (lo+n-1)) (aym (lo+n))):So r xs lo ayt:=λi j g1 g2 g3=>by
 rcases abq j (lo+n)with z|z
 .exact h i j g1 g2 z
 .have e:j=lo+n:=by omega
  subst e;rcases abq i (lo+n)with y|y
  .exact O.trans (h i (lo+n-1) g1 aa1 aa1) hl
  .rw[show i=lo+n by omega];exact O.refl _
def De.more(O:Ord r){xs:ab8}{lo n:Nat}(h:De r xs lo (lo+n))(h1:1<=n)(hl:le r (aym (lo+n)) (aym (lo+n-1))):De r xs lo ayt:=λi j g1 g2 g3=>by
 rcases abq j (lo+n)with z|z
 .exact h i j g1 g2 z
 .have e:j=lo+n:=by omega
  subst e;rcases abq i (lo+n)with y|y
  .exact O.trans hl (h i (lo+n-1) g1 aa1 aa1)
  .rw[show i=lo+n by omega];exact O.refl _
def Eqv(r:Keyed->Keyed->Bool)(xs ys:ab8):Prop:=∀k,le r (aym k) (gt ys k)/\le r (gt ys k) (aym k)
def jn(O:Ord r)(hj:j<=xs.size)(h:∀k,i<=k->k<j->le r (aym k) (aym (j-1))/\le r (aym (j-1)) (aym k)):Eqv r (mirror xs i j ((j-i)/2)) xs:=λk=>by
 rw[iu hj];split
 .rename_i z;have h1:=h (i+j-1-k) aa1 aa1;have h2:=h k z.1 z.2;exact⟨O.trans h1.1 h2.2,O.trans h2.1 h1.2⟩
 .exact⟨apm,apm⟩
def De.eqv(O:Ord r){xs ys:ab8}{lo hi:Nat}(h:De r xs lo hi)(e:Eqv r ys xs):De r ys lo hi:=λi j h1 h2 h3=>O.trans (e j).1 (O.trans (h i j h1 h2 h3) (e i).2)
def De.turn{xs:ab8}{lo n:Nat}(h:De r xs lo (lo+n))(hz:lo+n<=xs.size):So r (mirror xs lo (lo+n) ((lo+n-lo)/2)) lo (lo+n):=λi j h1 h2 h3=>by
 rw[iu hz,iu hz,aav aa1,aav aa1];exact h _ _ aa1 aa1 aa1
def Cg{α:Type}{x:SM α}{st:ahV}{Q:α->SortSt->Prop}{T:ahV->Prop}(C:ahV->Prop)(main:(∀s',C s'->T s')->anY)(h:∀s',C s'->T s'):anY:=main h
def wu{lo fq:Nat}{st:ahV}{Q:aha->SortSt->Prop}(L:ag3)(O:Ord r)(hk:ak3)(hp:∀x∈arrOf st,P x)(hz:lo+fq<=(arrOf st).size)(h1:1<=fq)(q:∀n av,1<=n->n<=fq->At st av lo (lo+fq)->amt->Q (ajU n) av):wpS aa4 A E s (countRun' lo fq) Q st:=by
 rw[countRun'_eq];refine wpS_bind (wpS_mono (wpS_forRange (I:=λi c av=>av=st/\∃n,c=(none,n)/\1<=n/\n=i/\n<=fq/\So r ac2 lo (lo+n))
  (Q:=λc av=>av=st/\∃n,c=(none,n)/\1<=n/\n<=fq/\So r ac2 lo (lo+n)/\(n=fq\/r (azQ (lo+n)) (azQ (lo+n-1))=true)) ?_ ?_ ⟨rfl,1,rfl,by omega,by omega,h1,.one O _ _⟩) ?_)
 .rintro i c gy i1 i2 ⟨rfl,n,rfl,n1,n2,n3,s1⟩;dsimp only;refine wpS_bind (kZ L hk hp aa1 aa1 ?_);cases e:r (apJ (lo+n)) (apJ (lo+n-1))with
  |true=>exact wpS_pure ⟨rfl,n,rfl,n1,n3,s1,.inr e⟩
  |false=>exact wpS_pure ⟨rfl,n+1,rfl,by omega,by omega,by omega,s1.more O n1 e⟩
 .rintro c gy ⟨rfl,n,rfl,n1,n2,n3,s1⟩;exact⟨rfl,n,rfl,n1,n3,s1,.inl aa1⟩
 rintro c gy ⟨rfl,n,rfl,n1,n2,s1,Ug⟩;dsimp only;by_cases e1:(n==fq)=true
 .rw[aav e1];exact wpS_pure az6
 rw[aaC e1];have pA:n<fq:=by have:=bne e1;omega
 have bj:=Ug.resolve_left aa1;apply Cg (λs'=>At gy s' lo (lo+fq)/\De r (arrOf s') lo ayt)
 .intro shared;by_cases IM:n>1
  rotate_left
  .rw[aaC IM];have e:n=1:=by omega
   have d:De r ahS lo ayt:=by
    subst e;exact(De.one O _ _).more O aa1 (aw_ bj)
   apply shared gy ⟨.rfl',d⟩
  .rw[aav IM];refine wpS_bind (kZ L hk hp aa1 aa1 ?_);cases e:r (apJ lo) (apJ (lo+n-1))with
   |true=>exact wpS_pure az6
   |false=>
    dsimp only;rw[aaC aai];refine wpS_bind (xv ?_);have all:∀k,lo<=k->k<lo+n->le r (apJ k) (apJ (lo+n-1))/\le r (apJ (lo+n-1)) (apJ k):=λk k1 k2=>⟨s1 k _ k1 aa1 aa1,O.trans e (s1 lo k ad0 k1 k2)⟩;have d0:De r ahS lo (lo+n):=λi j g1 g2 g3=>O.trans (all j aa1 g3).1 (all i g1 aa1).2;exact shared _ ⟨At.mirror aa1 ad0 aa1,(d0.more O n1 (aw_ bj)).eqv O (jn O aa1 all)⟩
 rintro s' ⟨a0,d0⟩;have z0:=a0.a.size;refine wpS_bind (wpS_lift (adq ⟨rfl,?_⟩));refine wpS_bind (wpS_mono (wpS_forRange (I:=λi c av=>aoM/\∃n' z,c=(none,n',z)/\2<=n'/\n'=i/\n'<=fq/\z+1<=n'/\De r ag1 lo ay4/\∀k,lo+n'-(z+1)<=k->k<lo+n'->le r ayy (gt ag1 (lo+n'-1))/\le r (gt ag1 (lo+n'-1)) ayy)
  (Q:=λc av=>aoM/\∃n' z,c=(none,n',z)/\2<=n'/\n'<=fq/\z+1<=n'/\De r ag1 lo ay4/\∀k,lo+n'-(z+1)<=k->k<lo+n'->le r ayy (gt ag1 (lo+n'-1))/\le r (gt ag1 (lo+n'-1)) ayy) ?_ ?_ ⟨a0,n+1,0,rfl,by omega,by omega,by omega,by omega,d0,λk k1 k2=>?_⟩) ?_)
 .rintro i c cW i1 i2 ⟨a2,n',z,rfl,m1,m2,m3,m4,d2,eq2⟩;have T7:=a2.a.size;dsimp only;refine wpS_bind (kZ L (a2.a.k.trans hk) (a2.a.all hp) aa1 aa1 ?_);cases e:r (gt ajp ay4) (gt ajp (lo+n'-1))with
  |true=>
   dsimp only;rw[aav rfl];have d3:=d2.more O aa1 (aw_ e);split
   .refine wpS_bind (xv (wpS_pure ⟨a2.trans azI,n'+1,0,rfl,by omega,by omega,by omega,by omega,d3.eqv O (jn O aa1 eq2),λk k1 k2=>?_⟩));rw[show k=lo+(n'+1)-1 by omega];exact⟨apm,apm⟩
   .refine wpS_pure ⟨a2,n'+1,0,rfl,by omega,by omega,by omega,by omega,d3,λk k1 k2=>?_⟩;rw[show k=lo+(n'+1)-1 by omega];exact⟨apm,apm⟩
  |false=>
   dsimp only;rw[aaC aai];refine wpS_bind (kZ L (a2.a.k.trans hk) (a2.a.all hp) aa1 aa1 ?_);cases e':r (gt ajp (lo+n'-1)) (gt ajp ay4)with
   |true=>exact wpS_pure ⟨a2,n',z,rfl,m1,m3,m4,d2,eq2⟩
   |false=>
    refine wpS_pure ⟨a2,n'+1,z+1,rfl,by omega,by omega,by omega,by omega,d2.more O aa1 e',λk k1 k2=>?_⟩;rw[show lo+(n'+1)-1=lo+n' by omega];rcases abq k ay4 with y|y
    .have:=eq2 k aa1 y;exact⟨O.trans this.1 e,O.trans e' this.2⟩
    .rw[show k=lo+n' by omega];exact⟨apm,apm⟩
 .rintro c cW ⟨a2,n',z,rfl,m1,m2,m3,m4,d2,eq2⟩;exact⟨a2,n',z,rfl,m1,m3,m4,d2,eq2⟩
 .rw[show k=lo+(n+1)-1 by omega];exact⟨apm,apm⟩
 rintro c kQ ⟨a3,n',z,rfl,m1,m2,m4,d3,eq3⟩;have hs3:=a3.a.size;dsimp only;apply Cg (λs'=>At gy s' lo (lo+fq)/\De r (arrOf s') lo ay4)
 .intro shared;by_cases Nv:z>0
  rotate_left
  .rw[aaC Nv];apply shared kQ ⟨a3,d3⟩
  .rw[aav Nv];refine wpS_bind (xv ?_);exact shared _ ⟨a3.trans azI,d3.eqv O (jn O aa1 eq3)⟩
 rintro s4 ⟨a4,d4⟩;have hs4:=a4.a.size;refine wpS_bind (xv ?_);have a5:=a4.trans (At.mirror (i:=lo) (j:=lo+n') aa1 ad0 (show lo+n'<=lo+fq by omega));have s5:=d4.turn aa1;refine wpS_bind (wpS_mono (wpS_forRange (I:=λi c av=>aoM/\∃m,c=(none,m)/\1<=m/\m=i/\m<=fq/\So r ag1 lo (lo+m))
  (Q:=λc av=>aoM/\∃m,c=(none,m)/\1<=m/\m<=fq/\So r ag1 lo (lo+m)) ?_ (λc av ⟨y,m,y1,y2,_,y3,y4⟩=>⟨y,m,y1,y2,y3,y4⟩) ⟨a5,n',rfl,by omega,rfl,m2,s5⟩) ?_)
 .rintro i c By i1 i2 ⟨a5,m,rfl,y1,y2,y3,y4⟩;have hs5:=a5.a.size;dsimp only;refine wpS_bind (kZ L (a5.a.k.trans hk) (a5.a.all hp) aa1 aa1 ?_);cases e:r (gt (arrOf By) (lo+m)) (gt (arrOf By) (lo+m-1))with
  |true=>exact wpS_pure ⟨a5,m,rfl,y1,y3,y4⟩
  |false=>exact wpS_pure ⟨a5,m+1,rfl,by omega,by omega,by omega,y4.more O y1 e⟩
 .rintro c By ⟨a5,m,rfl,y1,y3,y4⟩;exact wpS_pure (q m By y1 y3 a5 y4)
end
def rG(xs:ab8)(i:Nat):gt xs i=xs.toList[i]?.getD (.none,.none):=by unfold gt;rw[aaR]
section
variable {r:Keyed->Keyed->Bool}{prog:ad2}{w:World}{A:ag0}{E:Value->Shared->Prop}{s:ab_}{κ:apl}{P:Keyed->Prop}
def uw{xs:ab8}{lo n:Nat}(h:So r xs lo (lo+n))(hz:lo+n<=xs.size):(sg xs lo n).Pairwise (le r):=by
 rw[acb];intro i j hi hj BX;rw[dS hz]at hi hj;have e1:=gb (arr:=xs) hi hz;have e2:=gb (arr:=xs) hj hz;rw[aac (by rw[dS hz];omega)]at e1 e2;rw[aaI e1,aaI e2,<-i7,<-i7];exact h _ _ aa1 aa1 aa1
def La{ms:List Keyed}{o:Nat}{a:ab8}(h:o+ms.length<=a.size)(i:Nat):gt (ms.zipIdx.foldl (λa (p:Keyed×Nat)=>ax1) a) i=if i<o then gt a i else if h:i-o<ms.length then ms[i-o] else gt a i:=by
 rw[rG,rD ms o 0 a aa1,afh];have ht:(a.toList.take o).length =o:=by rw[abS,aaG];omega
 by_cases h1:i<o
 .rw[aav h1,aaL,abp aa1,adw,aav h1,rG]
 .rw[aaC h1,aaL,abt aa1,ht];by_cases h2:i-o<ms.length
  .rw[dif_pos h2,abp h2,aac h2];rfl
  .rw[dif_neg h2,abt aa1,aej,rG];congr 2;omega
def Ae{i sa na pw sb nb Nw:Nat}{st:ahV}{Q:Bool->SortSt->Prop}(L:ag3)(O:Ord r)(hk:ak3)(hp:∀x∈arrOf st,P x)(hf:failedOf st=none)(e1:(pendingOf st)[i]?=some (sa,na,pw))(e2:(pendingOf st)[i+1]?=some (sb,nb,Nw))(Yz:sb=sa+na)(h1:1<=na)(h2:1<=nb)(hz:sb+nb<=(arrOf st).size)
  (Pn:So r ac2 sa sb) (Po:So r ac2 sb ayV)
  (q:∀av,kindOf av=κ->(arrOf av).Perm ac2->awB->pendingOf av=((pendingOf st).setIfInBounds i aBz).eraseIdxIfInBounds (i+1)->(∀i,i<sa\/sb+nb<=i->gt ag1 i=gt ac2 i)->So r ag1 sa ayV->Q true av):avc:=by
 have Uh:So r ac2 sa (sa+na):=by rw[<-Yz];exact Pn
 have YA:=uw Uh aa1;have YB:=uw Po hz;have Pp:sb<(arrOf st).size :=by omega
 have b0:∀j,sb<=j->j<sb+nb->le r (arrOf st)[sb] anZ:=λj j1 j2=>by
  rw[<-i7 Pp];exact Po sb j ad0 j1 j2
 have whole:(∀x,sa<=x->x<sb->∀y,sb<=y->y<sb+nb->le r (azQ x) (azQ y))->So r ac2 sa ayV:=λh x y x1 x2 x3=>by
  rcases abq y sb with z|z
  .exact Pn x y x1 x2 z
  .rcases abq x sb with z'|z'
   .exact h x x1 z' y z x3
   .exact Po x y z' x2 x3
 have V':∀{c:Nat},c<na->∃h,(sg ac2 sa na)[c]'h=gt ac2 (sa+c):=λ{c} hc=>by
  have hl:c<(sg ac2 sa na).length :=by rw[dS aa1];exact hc
  refine⟨hl,?_⟩;have e:=gb (arr:=arrOf st) hc (show sa+na<=(arrOf st).size by omega);rw[aac hl]at e;rw[aaI e,<-i7]
 have Wa:∀{c:Nat},c<nb->∃h,(sg ac2 sb nb)[c]'h=gt ac2 (sb+c):=λ{c} hc=>by
  have hl:c<(sg ac2 sb nb).length :=by rw[dS hz];exact hc
  refine⟨hl,?_⟩;have e:=gb (arr:=arrOf st) hc hz;rw[aac hl]at e;rw[aaI e,<-i7]
 rw[uj];refine wpS_bind (wpS_get ?_);rw[e1,e2];dsimp only;refine wpS_bind (FO (wpS_bind (bC Pp (wpS_bind (c6 L O hk ayv hp aa1 aa1 YA λk K6 g1 g2=>?_)))));dsimp only;have Lb:∀j,sa<=j->j<sa+k->le r anZ (arrOf st)[sb]:=λj j1 j2=>by
  obtain⟨hl,e⟩:=V' (show j-sa<na by omega);have:=g1 ((sg ac2 sa na)[j-sa]) (by rw[afk];exact⟨j-sa,by rw[dS aa1];omega,rfl⟩);rw[e,show sa+(j-sa)=j by omega]at this;unfold wt at this;simpa[le]using this
 have Wb:∀j,sa+k<=j->j<sb->le r (arrOf st)[sb] anZ:=λj j1 j2=>by
  obtain⟨hl,e⟩:=V' (show j-sa<na by omega);have:=g2 ((sg ac2 sa na)[j-sa]) (by rw[afl];exact⟨j-sa-k,by omega,by congr 1;omega⟩);rw[e,show sa+(j-sa)=j by omega]at this;unfold wt at this;have h':r (arrOf st)[sb] anZ=true:=by simpa using this
  exact O.of_lt h'
 by_cases c1:(na-k==0)=true
 .rw[aav c1];have xF:k=na:=by
   have:na-k=0:=by simpa using c1
   omega
  exact wpS_pure (q _ hk (aeW _) hf rfl (λ_ _=>rfl) (whole λx x1 x2 y y1 y2=>O.trans (Lb x x1 aa1) (b0 y y1 y2)))
 rw[aaC c1];have xF:k<na:=by have:=bne c1;omega
 have Wc:sa+k+(na-k)-1<(arrOf st).size :=by omega
 refine wpS_bind (bC Wc (wpS_bind (c6 L O hk ayv hp aa1 aa1 YB λpC YC g3 g4=>?_)));dsimp only;have ze:(arrOf st)[sa+k+(na-k)-1]=gt ac2 (sb-1):=by rw[<-i7 Wc];congr 1;omega
 rw[ze]at g3 g4;have Pq:∀j,sa<=j->j<sb->le r anZ (azQ (sb-1)):=λj j1 j2=>Pn j (sb-1) j1 aa1 aa1;have Pu:∀j,sb<=j->j<sb+pC->le r anZ (azQ (sb-1)):=λj j1 j2=>by
  obtain⟨hl,e⟩:=Wa (show j-sb<nb by omega);have:=g3 ((sg ac2 sb nb)[j-sb]) (by rw[afk];exact⟨j-sb,by rw[dS hz];omega,rfl⟩);rw[e,show sb+(j-sb)=j by omega]at this;exact O.of_lt this
 have Wd:∀j,sb+pC<=j->j<sb+nb->le r (azQ (sb-1)) anZ:=λj j1 j2=>by
  obtain⟨hl,e⟩:=Wa (show j-sb<nb by omega);have:=g4 ((sg ac2 sb nb)[j-sb]) (by rw[afl];exact⟨j-sb-pC,by omega,by congr 1;omega⟩);rw[e,show sb+(j-sb)=j by omega]at this;exact this
 by_cases c2:(pC==0)=true
 .rw[aav c2];have IL:pC=0:=by simpa using c2
  exact wpS_pure (q _ hk (aeW _) hf rfl (λ_ _=>rfl) (whole λx x1 x2 y y1 y2=>O.trans (Pq x x1 x2) (Wd y aa1 y2)))
 rw[aaC c2];have IL:1<=pC:=by have:=bne c2;omega
 have hx:∀x∈(arrOf st).extract (sa+k) sb,P x:=λx hx=>hp x (xw hx);have hy:∀x∈(arrOf st).extract sb aqW,P x:=λx hx=>hp x (xw hx);have sx:((arrOf st).extract (sa+k) sb).size =na-k:=by rw[agA];omega
 have sy:((arrOf st).extract sb aqW).size =pC:=by rw[agA];omega
 have lx:((arrOf st).extract (sa+k) sb).toList =sg ac2 (sa+k) (na-k):=by
  have:=dU ac2 (sa+k) (na-k);rwa [show sa+k+(na-k)=sb by omega]at this
 have ly:((arrOf st).extract sb aqW).toList =sg ac2 sb pC:=dU _ _ _;have px:((arrOf st).extract (sa+k) sb).toList.Pairwise (le r):=by
  rw[lx];exact uw (λx y x1 x2 x3=>Pn x y aa1 x2 aa1) aa1
 have py:((arrOf st).extract sb aqW).toList.Pairwise (le r):=by
  rw[ly];exact uw (λx y x1 x2 x3=>Po x y x1 x2 aa1) aa1
 have mem:∀{x:Keyed}{o m:Nat},o+m<=(arrOf st).size ->x∈sg ac2 o m->∃j,o<=j/\j<o+m/\x=gt ac2 j:=λ{x o m} Ui hx=>by
  obtain⟨t,ht,rfl⟩:=adl hx;rw[dS Ui]at ht;refine⟨o+t,by omega,by omega,?_⟩;have e:=gb (arr:=arrOf st) ht Ui;rw[aac (by rw[dS Ui];omega)]at e;rw[aaI e,<-i7]
 have first:∀y∈((arrOf st).extract (sa+k) sb).toList,le r (((arrOf st).extract sb aqW)[0]' aa1) y:=λy hy=>by
  rw[lx]at hy;obtain⟨j,j1,j2,rfl⟩:=mem aa1 hy;have e:((arrOf st).extract sb aqW)[0]' aa1=(arrOf st)[sb]:=by rw[Array.getElem_extract];rfl
  rw[e];exact Wb j j1 aa1
 have final:∀y∈((arrOf st).extract sb aqW).toList,∀x∈((arrOf st).extract (sa+k) sb).toList.drop (((arrOf st).extract (sa+k) sb).size-1),anf:=λy hy x hx=>by
  rw[ly]at hy;obtain⟨j,j1,j2,rfl⟩:=mem aa1 hy;rw[sx,lx]at hx;obtain⟨m,hm,rfl⟩:=adl hx;rw[adn,dS aa1]at hm;rw[List.getElem_drop];have e:=gb (arr:=arrOf st) (show na-k-1+m<na-k by omega) (show sa+k+(na-k)<=(arrOf st).size by omega);rw[aac (by rw[dS aa1];omega)]at e;rw[aaI e,<-i7,show sa+k+(na-k-1+m)=sb-1 by omega];exact Pu j j1 j2
 have Pw:∀(out:ab8) (av:ahV),out.toList.Perm (((arrOf st).extract (sa+k) sb).toList ++((arrOf st).extract sb aqW).toList)->ao2->Sm (setPending st (((pendingOf st).setIfInBounds i aBz).eraseIdxIfInBounds (i+1))) av->
   Q (failedOf ae_).isNone ae_:=λout av rH wx hS=>by
  have RY:awB:=hS.f.trans hf;have e4:(failedOf ae_).isNone =true:=by show(failedOf av).isNone =true;rw[RY];rfl
  rw[e4];have ha:arrOf av=arrOf st:=hS.a;have hl:=rH.length_eq;rw[aan,aaG (xs:=(arrOf st).extract (sa+k) sb),aaG (xs:=(arrOf st).extract sb aqW),sx,sy]at hl;have We:∀x∈out.toList,le r (arrOf st)[sb] x/\le r x (azQ (sb-1)):=λx hx=>by
   rcases aay.mp (rH.mem_iff.mp hx)with z|z
   .rw[lx]at z;obtain⟨j,j1,j2,rfl⟩:=mem aa1 z;exact⟨Wb j j1 aa1,Pq j aa1 aa1⟩
   .rw[ly]at z;obtain⟨j,j1,j2,rfl⟩:=mem aa1 z;exact⟨b0 j j1 aa1,Pu j j1 j2⟩
  have hg:∀j,gt (arrOf ae_) j=if j<sa+k then gt ac2 j else if h:j-(sa+k)<out.toList.length then out.toList[j-(sa+k)] else gt ac2 j:=λj=>by
   show gt (out.toList.zipIdx.foldl (λa (p:Keyed×Nat)=>av7) ag1) j=_;rw[La (by rw[ha];omega),ha]
  refine q _ an8 ?_ RY hS.p (λj hj=>?_) (λx y x1 x2 x3=>?_)
  .show(out.toList.zipIdx.foldl (λa (p:Keyed×Nat)=>av7) ag1).Perm ac2;rw[afb,ha,rD _ (sa+k) 0 _ aa1];have e3:(arrOf st).toList =(arrOf st).toList.take (sa+k+0)++(((arrOf st).extract (sa+k) sb).toList ++((arrOf st).extract sb aqW).toList)++(arrOf st).toList.drop (sa+k+0+out.toList.length):=by
    have t1:=fH ac2 (i:=sa+k) (k:=na-k);have t2:=fH ac2 (i:=sb) (k:=pC);rw[show sa+k+(na-k)=sb by omega]at t1;rw[afh,<-aaL,t1,t2,hl,show sa+k+(na-k+pC)=sb+pC by omega,abR]
   refine List.Perm.trans ?_ (List.Perm.of_eq e3.symm);exact(rH.append_left _).append_right _
  .rw[hg];split
   .rfl
   .rw[dif_neg aa1]
  .rw[hg,hg];by_cases a1:x<sa+k
   .rw[aav a1];by_cases a2:y<sa+k
    .rw[aav a2];exact Pn x y x1 x2 aa1
    .rw[aaC a2];by_cases a3:y-(sa+k)<out.toList.length
     .rw[dif_pos a3];exact O.trans (Lb x x1 a1) (We _ (acU a3)).1
     .rw[dif_neg a3];exact O.trans (Lb x x1 a1) (b0 y aa1 x3)
   .rw[aaC a1,aaC (show¬y<sa+k by omega)];by_cases a2:x-(sa+k)<out.toList.length
    .rw[dif_pos a2];by_cases a3:y-(sa+k)<out.toList.length
     .rw[dif_pos a3];rcases abq x y with z|z
      .exact(acb.mp wx) _ _ a2 a3 aa1
      .have:x=y:=by omega
       subst this;exact O.refl _
     .rw[dif_neg a3];exact O.trans (We _ (acU a2)).2 (Wd y aa1 x3)
    .rw[dif_neg a2,dif_neg aa1];exact Po x y aa1 x2 x3
 by_cases c3:na-k<=pC
 .rw[aav c3];exact wpS_bind (z_ L O hk hx hy aa1 aa1 px py first final λout av rH wx hS=>ald)
 .rw[aaC c3];exact wpS_bind (Ad L O hk hx hy aa1 aa1 px py first final λout av rH wx hS=>ald)
end
def rJ(r:Keyed->Keyed->Bool)(xs:ab8):Nat->ajv->Nat->Prop
 |s,[],e=>s=e
 |s,(a,n,_)::l,e=>a=s/\1<=n/\So r xs s (s+n)/\rJ r xs (s+n) l e
section
variable {r:Keyed->Keyed->Bool}{xs ys:ab8}
def So.keep{lo hi:Nat}(h:So r xs lo hi)(e:∀i,lo<=i->i<hi->axQ):So r ys lo hi:=λi j h1 h2 h3=>by
 rw[e i h1 aa1,e j aa1 h3];exact h i j h1 h2 h3
theorem rJ.snoc:∀{s:Nat}{l:ajv}{e n:Nat},aqn->1<=n->So r xs e (e+n)->rJ r xs s (l++[(e,n,p)]) (e+n)
 |s,[],e,n,h,hn,hs=>by
  have h':s=e:=h;subst h';exact⟨rfl,hn,hs,rfl⟩
 |s,(a,m,q)::l,e,n,⟨h1,h2,h3,h4⟩,hn,hs=>⟨h1,h2,h3,h4.snoc hn hs⟩
theorem rJ.le:∀{s:Nat}{l:ajv}{e:Nat},aqn->s+l.length<=e
 |s,[],e,h=>aap h
 |s,(a,m,q)::l,e,⟨h1,h2,h3,h4⟩=>by have:=h4.le;rw[aaF];omega
theorem rJ.keep:∀{s:Nat}{l:ajv}{e:Nat},aqn->(∀i,s<=i->i<e->axQ)->rJ r ys s l e
 |s,[],e,h,_=>h
 |s,(a,m,q)::l,e,⟨h1,h2,h3,h4⟩,k=>⟨h1,h2,h3.keep λi i1 i2=>k i i1 (by have:=h4.le;omega),h4.keep λi i1 i2=>k i aa1 i2⟩
theorem rJ.at:∀{s:Nat}{l:ajv}{e i:Nat},aqn->i+1<l.length->∃sa na pw sb nb Nw,l[i]?=some (sa,na,pw)/\l[i+1]?=some (sb,nb,Nw)/\sb=sa+na/\1<=na/\1<=nb/\sb+nb<=e/\s<=sa/\So r xs sa sb/\So r xs sb ayV/\
   ∀ys:ab8,(∀i,i<sa\/sb+nb<=i->axQ)->So r ys sa ayV->rJ r ys s ((l.set i aBz).eraseIdx (i+1)) e
 |s,[],e,i,h,hi=>by simp at hi
 |s,[x],e,i,h,hi=>by simp at hi
 |s,(a,n,p)::(b,m,q)::l,e,0,⟨h1,h2,h3,h4,h5,h6,h7⟩,_=>by
  subst h1;subst h4;refine⟨a,n,p,a+n,m,q,rfl,rfl,rfl,h2,h5,by have:=h7.le;omega,aam _,h3,h6,λys k ks=>?_⟩;refine⟨rfl,by omega,by rw[<-acH];exact ks,?_⟩;rw[<-acH];exact h7.keep λi i1 i2=>k i (amY i1)
 |s,(a,n,p)::y::l,e,i+1,⟨h1,h2,h3,h4⟩,hi=>by
  obtain⟨sa,na,pw,sb,nb,Nw,g1,g2,g3,g4,g5,g6,g7,g8,g9,Px⟩:=rJ.at (i:=i) h4 (by simpa using hi);refine⟨sa,na,pw,sb,nb,Nw,g1,g2,g3,g4,g5,g6,by omega,g8,g9,λys k ks=>?_⟩;exact⟨h1,h2,h3.keep λi i1 i2=>k i (akf aa1),Px ys k ks⟩
theorem rJ.power:∀{s:Nat}{l:ajv}{e i:Nat},aqn->rJ r xs s (l.modify i λx=>(x.1,x.2.1,f)) e
 |s,[],e,i,h=>by cases i<;>exact h
 |s,(a,n,p)::l,e,0,⟨h1,h2,h3,h4⟩=>⟨h1,h2,h3,h4⟩
 |s,(a,n,p)::l,e,i+1,⟨h1,h2,h3,h4⟩=>⟨h1,h2,h3,h4.power⟩
end
section
variable {prog:ad2}{w:World}{A:ag0}{E:Value->Shared->Prop}{s:ab_}{κ:apl}{P:Keyed->Prop}{r:Keyed->Keyed->Bool}
structure Bf(r:Keyed->Keyed->Bool)(κ:apl)(a₀:ab8)(st:ahV)(lo:Nat):Prop where
 k:kindOf st=κ
 a:(arrOf st).Perm a₀
 f:failedOf st=none
 c:rJ r ac2 0 (pendingOf st).toList lo
def Bf.merge{a₀:ab8}{st:ahV}{lo i:Nat}{Q:Bool->SortSt->Prop}(L:ag3)(O:Ord r)(hp:∀x∈a₀,P x)(h:Bf r κ a₀ st lo)(Kw:lo<=a₀.size)(hi:i+1<(pendingOf st).size)(q:∀av,ajf->(pendingOf av).size+1=(pendingOf st).size ->(∀j,lo<=j->gt ag1 j=gt ac2 j)->Q true av):avc:=by
 obtain⟨sa,na,pw,sb,nb,Nw,g1,g2,g3,g4,g5,g6,g7,g8,g9,Px⟩:=h.c.at (i:=i) (by rw[aaG];exact hi);rw[aaR]at g1 g2;refine Ae L O h.k (λx hx=>hp x aCw) h.f g1 g2 g3 g4 g5 (by rw[h.a.size_eq];omega) g8 g9 λav k1 k2 k3 k4 k5 k6=>q av ⟨k1,k2.trans h.a,k3,?_⟩ ?_ (λj hj=>k5 j (amY aa1))
 .rw[k4,aeu,adN];exact Px _ k5 k6
 .rw[k4,<-aaG,aeu,adN,afc (by rw[abj,aaG];exact hi),abj,aaG];omega
def Lc{α:Type}{x:SM α}{st:ahV}{Q:α->SortSt->Prop}{T:Nat->SortSt->Prop}(C:Nat->ahV->Prop)(main:(∀n s',C n s'->T n s')->anY)(h:∀n s',C n s'->T n s'):anY:=main h
def wy{a₀:ab8}{st:ahV}{Q:Unit->SortSt->Prop}(L:ag3)(O:Ord r)(hp:∀x∈a₀,P x)(h:Bf r κ a₀ st 0)(q:∀av,(arrOf av).Perm a₀->awB->So r ag1 0 a₀.size->Q () av):wpS aa4 A E s sortRuns' Q st:=by
 rw[sortRuns'_eq];refine wpS_bind (wpS_get ?_);dsimp only;have hz:(arrOf st).size =a₀.size:=h.a.size_eq;rw[hz];refine wpS_bind (wpS_mono (wpS_forRange (I:=λi c av=>∃lo,c=(none,lo)/\ajf/\lo<=a₀.size/\i<=lo) (Q:=λc av=>∃lo,c=(none,lo)/\ajf/\lo=a₀.size) ?step ?fin ⟨0,rfl,h,abk _,aam _⟩) ?post)
 case fin=>
  rintro c gy ⟨lo,rfl,g0,Kw,YD⟩;exact⟨lo,rfl,g0,by omega⟩
 case step=>
  rintro i c gy _ _ ⟨lo,rfl,g0,Kw,YD⟩;dsimp only;by_cases Wf:lo ≥ a₀.size
  .rw[aav Wf];exact wpS_pure ⟨lo,rfl,g0,by omega⟩
  rw[aaC Wf];have Nr:(arrOf gy).size =a₀.size:=g0.a.size_eq;refine wpS_bind (wu L O g0.k (λx hx=>hp x (g0.a.mem_iff.mp hx)) aa1 aa1 λn cW IM RJ a1 Nx=>?_);have g1:Bf r κ a₀ cW lo:=⟨a1.a.k.trans g0.k,a1.a.a.trans g0.a,a1.a.f.trans g0.f,by rw[a1.a.p];exact g0.c.keep λj _ hj=>a1.o j (akf hj)⟩;dsimp only;apply Lc (λn s'=>Bf r κ a₀ s' lo/\1<=n/\lo+n<=a₀.size/\So r (arrOf s') lo (lo+n))
  .intro shared;by_cases Wg:n<minRun' a₀.size a₀.size 0
   rotate_left
   .rw[aaC Wg];apply shared n cW ⟨g1,IM,by omega,Nx⟩
   .rw[aav Wg];refine wpS_bind (wpS_lift (adq ⟨rfl,?_⟩));have T7:(arrOf cW).size =a₀.size:=g1.a.size_eq;refine wpS_bind (rF L O g1.k (λx hx=>hp x (g1.a.mem_iff.mp hx)) aa1 aa1 Nx λkQ a3 Ld=>?_);rw[aaC aa2];exact shared _ kQ ⟨⟨a3.a.k.trans g1.k,a3.a.a.trans g1.a,a3.a.f.trans g1.f,by rw[a3.a.p];exact g1.c.keep λj _ hj=>a3.o j (akf hj)⟩,by omega,by omega,Ld⟩
  clear IM RJ a1 Nx g1;rintro n cW ⟨g1,IM,RJ,Nx⟩;refine wpS_bind (wpS_get ?_);cases hb:(pendingOf cW).back? with
  |none=>exact wpS_bind (wpS_modify (wpS_pure ⟨_,rfl,⟨g1.k,g1.a,g1.f,by
    show rJ r ajp 0 ((pendingOf cW).push _).toList _;rw[acK];exact g1.c.snoc IM Nx⟩,by omega,by omega⟩))
  |some x=>
   obtain⟨s1,n1,p1⟩:=x;dsimp only;refine wpS_bind (wpS_mono (wpS_forRange (I:=λ_ c av=>c=(none,())/\ajf/\amt) (Q:=λc av=>c=(none,())/\ajf/\amt) ?_ (λ_ _ z=>z) ⟨rfl,g1,Nx⟩) ?_)
   .rintro _ c kQ _ _ ⟨rfl,g3,Ld⟩;refine wpS_bind (wpS_get ?_);by_cases hs:(pendingOf kQ).size>1
    .rw[aav hs];have bj:(pendingOf kQ).size-2<(pendingOf kQ).size :=by omega
     rw[aaB bj];dsimp only;split
     .exact wpS_pure ⟨rfl,g3,Ld⟩
     .refine wpS_bind (g3.merge L O hp aa1 aa1 λRN g4 _ k4=>?_);exact wpS_pure ⟨rfl,g4,Ld.keep λj j1 _=>k4 j j1⟩
    .rw[aaC hs];exact wpS_pure ⟨rfl,g3,Ld⟩
   .rintro c kQ ⟨rfl,g3,Ld⟩;exact wpS_bind (wpS_modify (wpS_bind (wpS_modify (wpS_pure ⟨_,rfl,⟨g3.k,g3.a,g3.f,by
     show rJ r (arrOf kQ) 0 (((pendingOf kQ).modify _ _).push _).toList _;rw[acK,Array.toList_modify];exact(g3.c.power).snoc IM Ld⟩,by omega,by omega⟩))))
 case post=>
  rintro c gy ⟨lo,rfl,g0,Kw⟩;dsimp only;refine wpS_bind (wpS_mono (wpS_forRange (I:=λi c av=>c=(none,())/\ajf/\((pendingOf av).size <=1\/(pendingOf av).size+i<=lo)) (Q:=λc av=>c=(none,())/\ajf/\(pendingOf av).size <=1) ?_ ?_ ⟨rfl,g0,.inr ?_⟩) ?_)
  .rintro j c kQ _ _ ⟨rfl,g3,Ug⟩;refine wpS_bind (wpS_get ?_);by_cases hs:(pendingOf kQ).size <=1
   .rw[aav hs];exact wpS_pure ⟨rfl,g3,hs⟩
   .rw[aaC hs];refine wpS_bind (g3.merge L O hp aa1 (O6 aa1 aa1) λRN g4 k4 _=>?_);exact wpS_pure ⟨rfl,g4,.inr aa1⟩
  .rintro c kQ ⟨hc,g3,Ug⟩;exact⟨hc,g3,by omega⟩
  .have:=g0.c.le;rw[aaG]at this;omega
  .rintro c kQ ⟨rfl,g3,hs⟩;refine wpS_pure (q kQ g3.a g3.f ?_);have hc:=g3.c;have hl:(pendingOf kQ).toList.length <=1:=by rw[aaG];exact hs
   cases IF:(pendingOf kQ).toList with
   |nil=>
    rw[IF]at hc;have:0=lo:=hc;intro x y _ _ h3;omega
   |cons x l=>
    rw[IF]at hc hl;cases l with
    |cons _ _=>simp at hl
    |nil=>
     obtain⟨a,n,p⟩:=x;obtain⟨c1,c2,c3,c4⟩:=hc;have YE:0+n=lo:=c4;rw[<-Kw,<-YE];exact c3
end
open PySem.W
theorem fI:∀u v:aa0,bB u v=true->bB v u=false
 |[],[],h=>by cases h
 |[],_::_,_=>rfl
 |_::_,[],h=>by cases h
 |n::u,m::v,h=>by
  unfold bB at h⊢;by_cases e:n=m
  .rw[aav e]at h;rw[aav e.symm];exact fI u v h
  .rw[aaC e]at h;rw[aaC λz=>e z.symm];have:=of_decide_eq_true h;exact decide_eq_false (acd (adW this))
theorem jX:∀u v w:aa0,bB v u=false->bB w v=false->bB w u=false
 |[],_,[],_,_=>rfl
 |[],_,_::_,_,_=>rfl
 |_::_,[],_,h,_=>by cases h
 |_::_,_::_,[],_,h=>by cases h
 |n::u,m::v,k::w,h1,h2=>by
  unfold bB at h1 h2⊢;by_cases e1:m=n
  .rw[aav e1]at h1;by_cases e2:k=m
   .rw[aav e2]at h2;rw[aav (e2.trans e1)];exact jX u v w h1 h2
   .rw[aaC e2]at h2;rw[aaC (λz=>e2 (z.trans e1.symm)),<-e1];exact h2
  .rw[aaC e1]at h1;have g1:=of_decide_eq_false h1;by_cases e2:k=m
   .rw[aaC (λz=>e1 (e2.symm.trans z))];exact decide_eq_false (acd (adY (afO g1) (Int.le_of_eq (abc e2))))
   .rw[aaC e2]at h2;have g2:=of_decide_eq_false h2;rw[aaC aa1];exact decide_eq_false (acd (adY (afO g1) (afO g2)))
theorem iy:∀u v:aa0,bB u v=false->bB v u=false->u=v
 |[],[],_,_=>rfl
 |[],_::_,h,_=>by cases h
 |_::_,[],_,h=>by cases h
 |n::u,m::v,h1,h2=>by
  unfold bB at h1 h2;by_cases e:n=m
  .rw[aav e]at h1;rw[aav e.symm]at h2;rw[e,iy u v h1 h2]
  .rw[aaC e]at h1;rw[aaC λz=>e z.symm]at h2;have:=of_decide_eq_false h1;have:=of_decide_eq_false h2;omega
def Ci:∀{l:agM},l.length<=1->l.Pairwise R
 |[],_=> .nil
 |[_],_=>aek _ _
 |_::_::_,h=>absurd h ab5
def TupIs(h:Heap)(v:Value)(ns:aa0):Prop:=∃(x:Addr) (o:Obj) (xs:ab2) (n:Nat),v= .ref x/\h.get? x=some o/\o.cls= .type "tuple"/\ay1/\IntsAre xs ns
def Cj:∀{xs:ab2}{ns ms:aa0},IntsAre xs ns->IntsAre xs ms->ns=ms:=λ{xs ns ms} h=>by
 induction h generalizing ms with
 |nil=>intro h;cases h;rfl
 |cons n t r ih=>intro h;cases h with|cons m u r'=>rw[ih r']
def TupIs.one(h1:av_)(h2:TupIs h v ms):ns=ms:=by
 refine vG h1 λx o xs n ak a1 _ a3 a4=>?_
 try clear h1
 subst ak;refine vG h2 λy o' ys n' e b1 _ b3 b4=>?_;cases e;rw[a1]at b1;cases b1;rw[a3]at b3;injection b3 with b5 _;have:xs=ys:=by simpa using b5
 subst this;exact Cj a4 b4
noncomputable def bx(h:Heap)(v:Value):aa0:=Classical.epsilon λns=>TupIs h v ns
def cw(e:av_):bx h v=ns:=(afU (p:=λns=>av_) ⟨ns,e⟩).one e
def jm.is(e:jm h v):∃ns,av_:=by
 exact Ng e λx o xs n i r h1 h2 h3 h4 h5=>⟨i::r,x,o,xs,n,h1,h2,h3,h4,h5⟩
noncomputable def rT(h:Heap)(x y:Keyed):Bool:=bB (bx h x.1) (bx h y.1)
def Le(h:Heap):Ord (rT h):=⟨λx y=>fI _ _,λx y z=>jX _ _ _⟩
section
variable {prog:ad2}{w:World}{A:ag0}{E:Value->Shared->Prop}{s:ab_}
def Pz:∀{xs ys:ab2}{ns ms:aa0},IntsAre xs ns->IntsAre ys ms->fin=decide (xs.length<ys.length)->Q (bB ns ms) s->∀i:Nat,(b=true\/0<i)->KatLex prog w A b fin Q (xs.zip ys) i s:=λ{xs ys ns ms} h=>by
 induction h generalizing ys ms with
 |nil=>
  intro h' hf q i _;refine kat_nil ?_;subst hf;cases h' with
  |nil=>exact q
  |cons _ _ _=>simpa[bB]using q
 |cons n t r ih=>
  intro h' hf q i hi;cases h' with
  |nil=>exact kat_nil (by rw[hf];simpa[bB]using q)
  |cons m u r'=>
   refine kat_cons (aeH ?_);cases e:(n==m)with
   |true=>
    have e':n=m:=by simpa using e
    unfold bB at q;rw[aav e']at q;exact kat_yes (ih r' (by rw[hf];simp) q (i+1) (amY (acz _)))
   |false=>
    have e':¬n=m:=by simpa using e
    unfold bB at q;rw[aaC e']at q;refine kat_no ?_;by_cases h0:i=0
    .subst h0;have hb:b=true:=hi.elim id λz=>absurd z amK;subst hb;exact oneLt_int q
    .have e:(b&&i==0)=false:=by cases b<;>simp[h0]
     rw[e];exact kat_one _ _ (agq q)
def FW:nM prog w A E s (tuples' true) (λp=>jm s.heap p.1) (rT s.heap):=λx y zt Q hx hy hk q=>by
 obtain⟨x1,x2⟩:=x;obtain⟨y1,y2⟩:=y;refine Ng hx λa o xs n i r ak h1 h2 h3 h4=>?_
 try clear hx
 subst ak;refine Ng hy λb o' ys n' j r' aN g1 g2 g3 g4=>?_
 try clear hy
 subst aN;have q':Q (ajU (bB (i::r) (j::r'))) zt:=by
  have e1:bx s.heap ac_=i::r:=cw ⟨a,o,xs,n,rfl,h1,h2,h3,h4⟩;have e2:bx s.heap ajh=j::r':=cw ⟨b,o',ys,n',rfl,g1,g2,g3,g4⟩;have:=q;unfold rT at this;dsimp only at this;rwa [e1,e2]at this
 rw[lt'_eq];refine wpS_bind (wpS_get ?_);rw[hk];refine wpS_bind (wpS_lift (adJ (kat_lt (b:=true) h1 h3 g1 g3 ?_)));have e1:xs.toArray.toList=xs:=by simp
 have e2:ys.toArray.toList=ys:=by simp
 rw[e1,e2];exact Pz h4 g4 ab5 ⟨rfl,wpS_pure q'⟩ 0 agR
def rK(ho:s.heap.get? a=some (seqObj "list" vs.toArray n))(hv:∀v∈vs,ath)(hz:as_)
  (h:∀out:ab2,out.Perm vs->out.Pairwise (λx y=>ahF)->R (.done (akL .none)) {s with heap:=sortedHeap s.heap a vs out.toArray}):wpAny aa4 A (Builtin.«list.sort» ⟨[ac_],[]⟩) R E s:=by
 rw[list_sort_plain];have bj:a<s.heap.objs.size:=aaz ho;have eG:∀v∈vs,∀x,v= .ref x->x≠a:=λv m x e z=>by
  obtain⟨x',o,xs,k,i,r,e',g1,g2,_⟩:=hv v m;rw[e]at e';cases e';rw[z,ho]at g1;cases g1;have YF:Value.type "list"=Value.type "tuple":=g2;injection YF with g3;exact absurd g3 aa2
 refine aaa (listItems_at ho rfl (aaa (listUpdate_at ho rfl ?_ (by rw[aaq];exact hz) ao6)));obtain⟨e1,RZ⟩:∃e1,(s.heap.update a (Obj.mapSeq λ_=>#[])).get? a=some (seqObj "list" #[] e1):=⟨_,get?_update_seq ho (λ_=>#[])⟩;refine aaa (seqEpoch_at RZ rfl (aaa (wpAny_newTuple (aaa (aeS (abi ?_) ao6)) (by show vs.length<=_;exact hz))));have up:∀b o,b≠a->ab4->(((s.heap.update a (Obj.mapSeq λ_=>#[])).push (seqObj "tuple" vs.toArray 0)).push (seqObj "list" #[] 0)).get? b=some o:=λb o hb e=>
  aab _ (aab _ (by rw[aaT _ _ anL];exact e))
 have Uj:(((s.heap.update a (Obj.mapSeq λ_=>#[])).push (seqObj "tuple" vs.toArray 0)).push (seqObj "list" #[] 0)).get? a=some (seqObj "list" #[] e1):=aab _ (aab _ RZ);show wpAny aa4 A _ R E {s with heap:=((s.heap.update a (Obj.mapSeq λ_=>#[])).push (seqObj "tuple" vs.toArray 0)).push (seqObj "list" #[] 0)};generalize hh:((s.heap.update a (Obj.mapSeq λ_=>#[])).push (seqObj "tuple" vs.toArray 0)).push (seqObj "list" #[] 0)=h6 at up Uj⊢;have Wh:∀v∈vs,jm h6 v:=λv m=>by
  obtain⟨x,o,xs,k,i,r,e',g1,g2,g3,g4⟩:=hv v m;exact⟨x,o,xs,k,i,r,e',aAA,g2,g3,g4⟩
 have same:∀v∈vs,bx h6 v=bx s.heap v:=λv m=>by
  obtain⟨ns,x,o,xs,k,e',g1,g2,g3,g4⟩:=(hv v m).is;rw[cw (h:=s.heap) ⟨x,o,xs,k,e',g1,g2,g3,g4⟩];exact cw ⟨x,o,xs,k,e',aAA,g2,g3,g4⟩
 dsimp only;have ends:∀(zt:ahV) (out:ab2),(arrOf zt).map (·.2)=out.toArray->out.Perm vs->out.Pairwise (λx y=>ahF)->failedOf zt=none->wpAny aa4 A (do
   let touched:=(<-seqEpoch a) !=e1
   Builtin.List.listUpdate ac_ λ_=>(arrOf zt).map (·.2)
   if let some e:=failedOf zt then rule "list.sort.comparison-raised";throw e
   if touched then rule "list.sort.modified";raiseError "ValueError" "list modified during sort"
   ret .none) R E {s with heap:=h6}:=λzt out e hp wx hf=>by
  rw[e,hf];refine aaa (seqEpoch_at Uj rfl (aaa (listUpdate_at Uj rfl ?_ ao6 (by rw[aaq,hp.length_eq];exact aaf hz aa2))));simp only[bne_self_eq_false,abX,if_false];have:=h out hp wx;unfold sortedHeap at this;rw[hh]at this;exact aaj this
 by_cases h2:vs.toArray.size<2
 .rw[aav h2,aav h2];refine aaa (aaj ?_);rw[StateT.run_pure];refine aaa (aaj ?_);exact ends (SortSt.mk' general' awl #[] 7 none) vs (uk vs) (List.Perm.refl _) (Ci (by rw[aaq]at h2;exact aaU h2)) rfl
 .rw[aaC h2,aaC h2];obtain⟨fs,k1,k2,k3⟩:=lY Wh;have R1:2<=vs.length:=by rw[aaq]at h2;exact aaS h2
  refine aaa (kat_kind (s:={s with heap:=h6}) (T:= .type "int") k1 (aah (aaE R1) (aap (abc k3))) (λv m=>?_) rfl ?_)
  .obtain⟨i,t,rfl⟩:=k2 v m;exact Looks.now
  have zm:∀p∈vs.toArray.zip vs.toArray,p.1=p.2/\p.2∈vs:=λp m=>by
   obtain⟨i,hi,e⟩:=agb.mp m;rw[Array.getElem_zip]at e;rw[<-e];exact⟨rfl,by simp⟩
  refine aaa (aco (wy (s:={s with heap:=h6}) (κ:=tuples' true) (P:=λp=>jm h6 p.1) (r:=rT h6) (a₀:=vs.toArray.zip vs.toArray) (Q:=λ_ zt=>(arrOf zt).Perm awl/\failedOf zt=none/\So (rT h6) auk 0 (vs.toArray.zip vs.toArray).size) FW (Le h6) (λp m=>by rw[(zm p m).1];exact Wh _ (zm p m).2) ⟨rfl,aeW _,rfl,rfl⟩ λzt g1 g2 g3=>⟨g1,g2,g3⟩) ?_ λ_ _ e=>e);rintro⟨⟨⟩,zt⟩ s' ⟨rfl,g1,g2,g3⟩;dsimp only at g1 g2 g3⊢;refine ends zt ((arrOf zt).map (·.2)).toList agi.symm ?_ ?_ g2
  .have:=(afb.mp g1).map (λp:Keyed=>p.2);rw[aeK];refine this.trans (List.Perm.of_eq ?_);have e:=congrArg Array.toList (uk vs);rw[aeK]at e;exact e
  .have hsz:(arrOf zt).size =(vs.toArray.zip vs.toArray).size :=g1.size_eq;have pw:=uw (xs:=arrOf zt) (lo:=0) (n:=(vs.toArray.zip vs.toArray).size) (by rw[abw];exact g3) (Bm (abc hsz) (aap azt));have e0:sg auk 0 (vs.toArray.zip vs.toArray).size =(arrOf zt).toList :=by
    unfold sg;rw[adQ];exact abB (by rw[aaG,hsz];exact aam _)
   rw[e0]at pw;rw[aeK,abx];refine pw.imp_of_mem λ{x y} mx my vB=>?_;obtain⟨x1,x2⟩:=zm x (g1.mem_iff.mp (acq.mp mx));obtain⟨y1,y2⟩:=zm y (g1.mem_iff.mp (acq.mp my));have:=vB;unfold le rT at this;rw[x1,y1,same _ x2,same _ y2]at this;exact this
end
abbrev FX(x y:aa0):Prop:=bB y x=false
theorem k7(x:aa0):∀l,(zN x l).Perm (x::l)
 |[]=> .refl _
 |y::r=>by
  unfold zN;split
  .exact((k7 x r).cons y).trans (.swap x y r)
  .exact .refl _
theorem aK:∀l,(aZ l).Perm l
 |[]=> .refl _
 |x::r=>(k7 x (aZ r)).trans ((aK r).cons x)
theorem xI(x:aa0):∀l:aa_,l.Pairwise FX->(zN x l).Pairwise FX
 |[],_=>aek _ _
 |y::r,h=>by
  unfold zN;rw[abH]at h;split
  .rename_i Oj;refine abH.mpr ⟨λz hz=>?_,xI x r h.2⟩;rcases aat.mp ((k7 x r).mem_iff.mp hz)with e|hz
   .rw[e];exact fI _ _ Oj
   .exact h.1 z hz
  .rename_i Oj;have PB:bB y x=false:=by simpa using Oj
   refine abH.mpr ⟨λz hz=>?_,abH.mpr h⟩;rcases aat.mp hz with e|hz
   .rw[e];exact PB
   .exact jX x y z PB (h.1 z hz)
theorem fJ:∀l,(aZ l).Pairwise FX
 |[]=> .nil
 |x::r=>xI x _ (fJ r)
def gQ(hp:l.Perm m)(hs:l.Pairwise FX):l=aZ m:=
 (hp.trans (aK m).symm).eq_of_pairwise (λa b _ _ h1 h2=>iy a b h2 h1) hs (fJ m)
def nP(hp:l.Perm m):aZ l=aZ m:=gQ ((aK l).trans hp) (fJ l)
end br
namespace L2
open PySem PySem.Spec PyProof.Rows PySem.W br
section
variable {prog:ad2}{w:World}{A:ag0}{E:Value->Shared->Prop}{s:ab_}{d it:Addr}{es:aiW}{ep i:Nat}
def fK(hv:jm h v)(k:∀b o,ahU->ae0):bx h' v=bx h v:=by
 refine Rv hv.is λns x o xs n e g1 g2 g3 g4=>?_;rw[cw (h:=h) ⟨x,o,xs,n,e,g1,g2,g3,g4⟩];exact cw ⟨x,o,xs,n,e,k x o g1,g2,g3,g4⟩
def rL(hh:af5)(lo:anx)(r:alh)(hz:es.size<=sizeLine)(hk:∀e∈es,br.jm s.heap e.key)
  (h:∀(h1 h':Heap) (tk c:Nat) (vs:ab2),(∀b o,ab4->aqP)->(∀b o,aqP->ae0)->h'.get? h1.objs.size=some {cls:= .type "list",data:= .seq vs.toArray c}->vs.Perm (avE (·.key))->vs.Pairwise (λx y=>ahF)->Q aip {s with heap:=h',toks:=tk}):
  wpAny aa4 A (call (.builtin "sorted") [aDr]) Q E s:=by
 refine acY kind_sorted plain_sorted entry_sorted aqg ?_;unfold Builtin.«sorted»;refine aaa (m:=checkCount "sorted" 1 1 _) (aaj (aaa (kdu_collect (A:=A.in1) (xC lo) hh r hz λh1 tk acc k1 it=>?_)));have hl:azs:=by rw[aaG];exact it.1
 have eq:acc.toList=es.toList.map (·.key):=by
  apply abP;intro j;rcases abq j es.size with z|z
  .have hj:j<acc.toList.length:=(aah z aiH);refine aa (it.2 j acc.toList[j] (by rw[<-aaR];exact aac hj)) λe e1 e2=>?_;rw[aac hj,aau,aaR,e1,e2];rfl
  .rw[aaH (aaf azu z),aaH (by simpa using z)]
 have hm:∀v∈acc.toList,∃e∈es,v=e.key:=λv m=>by
  rw[eq]at m;exact aa (akj m) λe e1 e2=>⟨e,acq.mp e1,e2.symm⟩
 have ht:∀v∈acc.toList,ath:=λv m=>by
  refine aa (hm v m) λe e1 ak=>?_;subst ak;exact hk e e1
 have kp:∀b o,ab4->(h1.push (seqObj "list" acc.toList.toArray 0)).get? b=some o:=λb o e=>aab _ (k1 b o e);refine aaa (aeS ?_ (by rw[hl];exact hz));have ho:(h1.push (seqObj "list" acc.toList.toArray 0)).get? h1.objs.size=some (seqObj "list" acc.toList.toArray 0):=aas _ rfl;refine aaa (abi (abm slot_list_sort ⟨_,ho,rfl⟩ entry_list_sort (br.rK (s:={s with heap:=h1.push (seqObj "list" acc.toList.toArray 0),toks:=tk}) ho (λv m=>?_) (by rw[hl];exact hz) λout hp wx=>⟨_,rfl,aaj ⟨_,rfl,?_⟩⟩) aoV))
 .exact Ng (ht v m) λx o xs n i rr g0 g1 g2 g3 g4=>⟨x,o,xs,n,i,rr,g0,kp x o g1,g2,g3,g4⟩
 .have u1:=get?_update_seq ho (λ_=>#[]);have u2:=aab (seqObj "tuple" acc.toList.toArray 0) u1;have u3:=aab (seqObj "list" #[] 0) u2;have u4:=get?_update_seq u3 (λ_=>out.toArray);refine h h1 _ tk _ out k1 (λb o e=>?_) u4 (by rw[<-eq];exact hp) (wx.imp_of_mem λ{x y} mx my vB=>?_)
  .have hb:aqS:=aaJ ajc;unfold sortedHeap;rw[aaT _ _ anL];refine aab _ (aab _ ?_);rw[aaT _ _ anL];exact aab _ e
  .have e1:=fK (ht x (amM mx)) kp;have e2:=fK (ht y (amM my)) kp;rw[<-e1,<-e2];exact vB
end
def FY(I:aa3)(e:aAk):∃es ep,gD s.heap a es ep/\amo/\ahc/\aiz/\
  Paired (λ(kv:List cD×V) (v:Value)=>∃b,aoA/\aoo) kvs (avE (·.key)):=by
 obtain⟨z,lo,xs,eK,o,es,ep,h1,h2,h3,h4,h5,h6⟩:=nI I.aR e;have hl:amo:=by
  have e1:=adk eK;have e2:=congrArg List.length h4;rw[aaG,aad]at e2;exact afg e2 (abc e1)
 refine⟨es,ep,⟨o,h1,h2,h3⟩,hl,lo,z,?_⟩;rw[h4,aaV];have all:∀{l:ah9}{m:ak7},KT H l m->Paired (λ(kv:List cD×V) (v:Value)=>∃b,aoA/\aoo) l (m.map ((λx:DictEntry=>x.key)∘entryOfKey (tupleKind aoi))):=by
  intro l m q;induction q with
  |nil=>exact .nil
  |@cons p q ps qs hq t ih=>exact .cons ⟨q.2.1,rfl,hq.2.1⟩ ih
 exact all eK
section
variable {X:Cx}
def de(I:aa3)(h:H b=some aoc):TupIs s.heap ajh k:=by
 obtain⟨_,its,rv,o,g1,g2,⟨n,g3⟩,_⟩:=(show aT X.prog X.w H s.heap b aoc from I.aR b _ h);exact⟨b,o,its,n,rfl,g1,g2,g3,arz⟩
def xJ(e:TupIs h v k)(hk:k≠[]):jm h v:=by
 refine vG e λx o xs n h1 h2 h3 h4 h5=>?_;cases k with
 |nil=>exact absurd rfl hk
 |cons i r=>exact⟨x,o,xs,n,i,r,h1,h2,h3,h4,h5⟩
def TupAt(H:Hp)(u:V)(k:aa0):Prop:=∃b,u= .ref b/\H b=some aoc
theorem mG(I:aa3):∀{vs:ab2},(∀v∈vs,∃b k,aoA/\ai1)->∃us:ad7,aF us vs/\us.length=vs.length/\Paired amd us (vs.map aiN)
 |[],_=>⟨[],.nil,rfl,.nil⟩
 |v::vs,h=>by
  refine bF (mG I (vs:=vs) λz hz=>h z avZ) λus u1 u2 u3=>eO (h v aal) λb k ak hb=>?_;subst ak;refine⟨.ref b::us,.cons rfl u1,by rw[aaF,aaF,u2],?_⟩;rw[aaK,cw aAR];exact .cons ⟨b,rfl,hb⟩ u3
def rM(hc:agH):cR X (.builtin "sorted") (λxs H Q=>∃a kvs ks,xs=[V.ref a]/\aAk/\kvs.map (·.1)=ks.map (λk:List Int=>k.map (Sum.inl:Int->cD))/\(∀k∈ks,k≠[])/\
  ∀(l:Addr) (us:ad7),aqA->aDd->ap7):=by
 intro U s σ H xs us Q I r zz;refine vx zz λa kvs ks e hd K' eG q=>?_;subst e;refine aa am0 λu ak ru=>?_;subst ak;cases ru;refine kH (FY I hd) λes ep r1 r2 r3 r4 r5=>?_;have pk:∀{kvs:ah9}{ks:aa_}{vs:ab2},kvs.map (·.1)=ks.map (λk:List Int=>k.map (Sum.inl:Int->cD))->Paired (λ(kv:List cD×V) (v:Value)=>∃b,aoA/\aoo) kvs vs->vs.map aiN=ks/\∀v∈vs,∃b,∃k∈ks,aoA/\ai1:=by
  intro kvs ks vs hk p;induction p generalizing ks with
  |nil=>
   cases ks with
   |nil=>exact⟨rfl,λ_ z=>nomatch z⟩
   |cons _ _=>cases hk
  |@cons kv v kvs vs hq _ ih=>
   cases ks with
   |nil=>cases hk
   |cons k ks=>
    rw[aaK,aaK]at hk;injection hk with h1 h2;obtain⟨i1,i2⟩:=ih h2;refine aa hq λb aN hb=>?_
    try clear hq
    subst aN;rw[h1,aaV]at hb;have iY:ai1:=hb;refine⟨by rw[aaK,i1,cw (de I iY)],λw hw=>?_⟩;rcases aat.mp hw with e|hw
    .exact⟨b,k,aal,e,iY⟩
    .exact bg (i2 w hw) λb2 k2 m2 e2 g2=>⟨b2,k2,aag _ m2,e2,g2⟩
 obtain⟨p1,p2⟩:=pk K' r5;have hI:∀v∈es.toList.map (·.key),ath:=λv m=>by
  refine bg (p2 v m) λb k mk cV hb=>?_;subst cV;exact xJ aAR (eG k mk)
 refine rL agY r3 r1 (by rw[r2];exact r4) (λen YG=>hI _ (amN ⟨en,acq.mpr YG,rfl⟩)) λh1 h' tk c vs k1 k2 e1 e2 e3=>?_;have Ck:(vs.map aiN).Perm ks:=by
  have:=e2.map aiN;rwa [p1]at this
 have Lf:vs.map aiN=aZ ks:=gQ Ck (abx.mpr e3);have I1:Inv X U σ H {s with heap:=h1,toks:=tk}:=I.kept (t':=tk) k1;obtain⟨us,u1,u2,u3⟩:=mG I (vs:=vs) λv m=>by
  exact bg ayq λb k _ e hb=>⟨b,k,e,hb⟩
 rw[Lf]at u3;have aI:vs.length=es.size:=by rw[e2.length_eq];simp
 have I2:Inv X U σ (aqd h1.objs.size) {s with heap:=h',toks:=tk}:=by
  have:=I1.laid (a:=h1.objs.size) (o:= .lst us) (t':=tk) k2 ad0 (show aT X.prog X.w _ h' _ (aj1 us) from⟨by rw[u2,aI,r2];exact r4,vs,c,u1,e1⟩);exact this
 exact⟨aip,_,I2,rfl,q _ us ahv u3⟩
end
section
variable {prog:ad2}{w:World}{A:ag0}{E:Value->Shared->Prop}{s:ab_}
def rN(hT:T="list"\/T="tuple")(ho:s.heap.get? l=some o)(hc:o.cls= .type T)(hd:o.data= .seq vs.toArray n)(hz:as_)(hk:∀v∈vs,ath)
  (h:∀(h1 h':Heap) (c:Nat) (out:ab2),(∀b o,ab4->aqP)->(∀b o,aqP->ae0)->h'.get? h1.objs.size=some {cls:= .type "list",data:= .seq out.toArray c}->out.Perm vs->out.Pairwise (λx y=>ahF)->Q aip {s with heap:=h'}):
  wpAny aa4 A (as6 (.builtin "sorted")) Q E s:=by
 refine acY kind_sorted plain_sorted entry_sorted aqg ?_;unfold Builtin.«sorted»;refine aaa (m:=checkCount "sorted" 1 1 _) (aaj ?_);refine aaa (wpAny_collect_seq l hT ho hc hd (λh1 k1=>?_) (by rw[aaq];exact hz));refine aaa (aeS ?_ (by simpa using hz));have e0:vs.toArray.toList=vs:=by simp
 rw[e0];have zA:(h1.push (seqObj "list" vs.toArray 0)).get? h1.objs.size=some (seqObj "list" vs.toArray 0):=aas _ rfl;have kp:∀b o,ab4->(h1.push (seqObj "list" vs.toArray 0)).get? b=some o:=λb o e=>aab _ (k1 b o e);refine aaa (abi (abm slot_list_sort ⟨_,zA,rfl⟩ entry_list_sort (br.rK (s:={s with heap:=h1.push (seqObj "list" vs.toArray 0)}) zA (λv m=>?_) hz λout hp wx=>⟨_,rfl,aaj ⟨_,rfl,?_⟩⟩) aoV))
 .exact Ng (hk v m) λx o xs n i rr g0 g1 g2 g3 g4=>⟨x,o,xs,n,i,rr,g0,kp x o g1,g2,g3,g4⟩
 .have u1:=get?_update_seq zA (λ_=>#[]);have u2:=aab (seqObj "tuple" vs.toArray 0) u1;have u3:=aab (seqObj "list" #[] 0) u2;have u4:=get?_update_seq u3 (λ_=>out.toArray);refine h h1 _ _ out k1 (λb o e=>?_) u4 hp (wx.imp_of_mem λ{x y} mx my vB=>?_)
  .have hb:aqS:=aaJ ajc;unfold sortedHeap;rw[aaT _ _ anL];refine aab _ (aab _ ?_);rw[aaT _ _ anL];exact aab _ e
  .have e1:=fK (hk x (amM mx)) kp;have e2:=fK (hk y (amM my)) kp;rw[<-e1,<-e2];exact vB
end
section
variable {X:Cx}
def Af(I:aa3):∀{ks:aa_}{us:ad7}{vs:ab2},aqV->aF us vs->vs.map aiN=ks/\∀v∈vs,∃b,∃k∈ks,aoA/\ai1:=λ{ks us vs} h=>by
 induction h generalizing vs with
 |nil=>intro r;cases r;exact⟨rfl,λ_ z=>nomatch z⟩
 |cons hq p ih=>
  intro r;cases r with
  |cons r rs=>
   obtain⟨i1,i2⟩:=ih rs;refine aa hq λb ak hb=>?_
   try clear hq
   subst ak;cases r;refine⟨by rw[aaK,i1,cw aAR],λw hw=>?_⟩;rcases aat.mp hw with e|hw
   .exact⟨b,_,aal,e,hb⟩
   .exact bg (i2 w hw) λb2 k2 m2 e2 g2=>⟨b2,k2,aag _ m2,e2,g2⟩
def rO:cR X (.builtin "sorted") (λxs H Q=>∃(p:Addr) (ws:ad7) (ks:aa_),anc/\(cO X.K H p ws\/cP X.K H p ws)/\Paired amd ws ks/\(∀k∈ks,k≠[])/\
  ∀(l:Addr) (us:ad7),aqA->aDd->ap7):=by
 intro U s σ H xs us Q I r zz;refine vx zz λp ws ks e hq hp eG q=>?_;subst e;refine aa am0 λu ak rx=>?_;subst ak;cases rx;have go:∀(T:ap5) (o:Obj) (its:ab2) (n:Nat),T="list"\/T="tuple"->s.heap.get? p=some o->o.cls= .type T->o.data= .seq its.toArray n->aF ws its->its.length<=sizeLine->wpAny aa7 X.A (call (.builtin "sorted") [ahg]) ah_ X.xe s:=λT o its n hT ho hc hd rv hz=>by
  obtain⟨p1,p2⟩:=Af I hp rv;refine rN hT ho hc hd hz (λv m=>?_) λh1 h' c out k1 k2 e1 e2 e3=>?_
  .refine bg (p2 v m) λb k mk aN hb=>?_;subst aN;exact xJ aAR (eG k mk)
  .have Ck:(out.map aiN).Perm ks:=by
    have:=e2.map aiN;rwa [p1]at this
   have Lf:out.map aiN=aZ ks:=gQ Ck (abx.mpr e3);have I1:Inv X U σ H {s with heap:=h1}:=I.kept (t':=s.toks) k1;obtain⟨us,u1,u2,u3⟩:=mG I (vs:=out) λv m=>by
    exact bg ayq λb k _ e hb=>⟨b,k,e,hb⟩
   rw[Lf]at u3;have I2:Inv X U σ (aqd h1.objs.size) {s with heap:=h'}:=by
    have:=I1.laid (a:=h1.objs.size) (o:= .lst us) (t':=s.toks) k2 ad0 (show aT X.prog X.w _ h' _ (aj1 us) from⟨by rw[u2,e2.length_eq];exact hz,out,c,u1,e1⟩);exact this
   exact⟨aip,_,I2,rfl,q _ us ahv u3⟩
 rcases hq with hq|hq
 .obtain⟨its,rv,⟨o,n,e1,e2,_,e3⟩,hz⟩:=I.list hq;exact go _ o its n agR e1 e2 e3 rv (by first|exact hz|(have:=rv.length;exact aaf aqi hz))
 .obtain⟨its,rv,⟨o,e1,e2,n,e3⟩,hz⟩:=I.tuple hq;exact go _ o its n aA1 e1 e2 e3 rv (by first|exact hz|(have:=rv.length;exact aaf aqi hz))
end
section
variable {prog:ad2}{w:World}{A:ag0}{R:Result->Shared->Prop}{I:Addr}{fp wr:af7}{n:Nat}{P:Nat->Value->Prop}{St:Nat->Heap->Prop}
def Cm(T:Addr->Prop)(g g':Heap):Prop:=∀b o,T b->g.get? b=some o->g'.get? b=some o
def FZ(prog:ad2)(w:World)(A:ag0)(T:Addr->Prop)(g:Heap)(P:Nat->Value->Prop)(bt:Nat->Nat->Bool):Prop:=
 ∀i j x y (s:ab_) (Q:Value->ab_->Prop) (E:Value->ab_->Prop),aBm->P i x->P j y->Q (aDH (bt i j)) s->wpAny aa4 A (richCompare .Lt x y) Q E s
def Lg(W:ams)(cm:aAq)(nS:S∉fp)(hT:∀b,T b->b∉wr/\b≠S):
  ∀(m j:Nat) (s:ab_) (best:Value) (c:Nat),n-(j+1)=m->j+1<=n->St (j+1) s.heap->P (as7 j) best->aBm->s.heap.get? S=some {cls:= .type "list",dict:=none,data:= .seq #[best,best] c,slots:=#[]}->
   (∀v h' tk,P (as7 (n-1)) v->(∀b o,b∉wr->b≠S->ab4->ae0)->R (.ok (akL v)) {s with heap:=h',toks:=tk})->codeAny aa4 A (.builtin "min.loop" ⟨aC9,[]⟩) R s:=by
 have wS:S∉wr:=λz=>nS aDb;have nm:(toString "min"++toString ".loop":ap5)="min.loop":=by decide
 intro m;induction m with
 |zero=>
  intro j s best c em ej Lh eP eT eS eR;have Ny:j+1=n:=by omega
  refine aca aeq ?_;rw[adO abZ _];show wpAny _ A.in1 (seqItems? (akX S) >>= _) _ _ _;refine aaa (adp eS rfl ?_);show wpAny _ A.in1 (tryCatch avh _ >>= _) _ _ _;refine aaa (aex (W.done s _ _ (Ny▸Lh) λg2 t2 k2=>?_));have IP:=k2 S _ wS eS;show wpAny _ A.in1 (updateSeq S (λ_=>(#[]:agI)) >>= _) _ _ _;refine aaa (agd IP rfl (aaa (afE (aaj ?_))));exact eR best _ t2 (by rw[<-Ny];exact eP) λb o b1 b2 e=>(aaT _ _ (abD b2)).trans (k2 b o b1 e)
 |succ m ih=>
  intro j s best c em ej Lh eP eT eS eR;have Ny:j+1<n:=by omega
  refine aca aeq ?_;rw[adO abZ _];show wpAny _ A.in1 (seqItems? (akX S) >>= _) _ _ _;refine aaa (adp eS rfl ?_);show wpAny _ A.in1 (tryCatch avh _ >>= _) _ _ _;refine aaa (aex (W.item (j+1) s _ _ Ny Lh λv g2 t2 p2 cW k2=>?_));have IP:=k2 S _ wS eS;have PD:Cm T g g2:=λb o tb e=>k2 b o (hT b tb).1 (eT b o tb e);show wpAny _ A.in1 (tryCatch (holding [v,v] (richCompare .Lt v best >>= _)) _ >>= _) _ _ _;refine aaa (aex (abi (aaa (cm (j+1) (as7 j) v best _ _ _ PD p2 eP ?_))));refine aaa (abi (acf (aaa (afE (aaj ?_)))));cases eb:bt (j+1) (as7 j)with
  |true=>
   rw[aav rfl];refine aaa (agd IP rfl (aaa (afE ?_)));rw[nm];refine aaj ⟨aoB,ih (j+1) _ v _ aa1 Ny (W.frame _ _ _ cW λb bf o e=>?_) (by simp only[argBest,eb,if_true];exact p2) (λb o tb e=>?_) (abF _ IP rfl) λv3 g3 t3 p3 k3=>?_⟩
   .exact(aaT _ _ (λz:S=b=>nS (by rw[z];exact bf))).trans e
   .exact(aaT _ _ (abD (hT b tb).2)).trans (PD b o tb e)
   .exact eR v3 g3 t3 p3 λb o b1 b2 e=>k3 b o b1 b2 asp
  |false=>
   rw[aaC aai];refine aaa (afE ?_);rw[nm];refine aaj ⟨aoB,ih (j+1) _ best c aa1 Ny cW (by simp only[argBest,eb,abX,if_false];exact eP) PD IP λv3 g3 t3 p3 k3=>?_⟩;exact eR v3 g3 t3 p3 λb o b1 b2 e=>k3 b o b1 b2 (k2 b o b1 e)
def F0(W:ams)(cm:aAq)(nS:S∉fp)(hT:∀b,T b->b∉wr/\b≠S)(n0:0<n)(Lh:St 0 s.heap)(eT:aBm)(eS:s.heap.get? S=some {cls:= .type "list",dict:=none,data:= .seq #[] c,slots:=#[]})
  (eR:∀v h' tk,P (as7 (n-1)) v->(∀b o,b∉wr->b≠S->ab4->ae0)->R (.ok (akL v)) {s with heap:=h',toks:=tk}):codeAny aa4 A (.builtin "min.loop" ⟨aC9,[]⟩) R s:=by
 have wS:S∉wr:=λz=>nS aDb;have nm:(toString "min"++toString ".loop":ap5)="min.loop":=by decide
 refine aca aeq ?_;rw[adO abZ _];show wpAny _ A.in1 (seqItems? (akX S) >>= _) _ _ _;refine aaa (adp eS rfl ?_);show wpAny _ A.in1 (tryCatch avh _ >>= _) _ _ _;refine aaa (aex (W.item 0 s _ _ n0 Lh λv g2 t2 p2 cW k2=>?_));have IP:=k2 S _ wS eS;have PD:Cm T g g2:=λb o tb e=>k2 b o (hT b tb).1 (eT b o tb e);show wpAny _ A.in1 (updateSeq S (λ_=>(#[v,v]:agI)) >>= _) _ _ _;refine aaa (agd IP rfl ?_);rw[nm];refine aaj ⟨aoB,Lg W cm nS hT _ 0 _ v _ rfl n0 (W.frame _ _ _ cW λb bf o e=>?_) p2 (λb o tb e=>?_) (abF _ IP rfl) λv3 g3 t3 p3 k3=>?_⟩
 .exact(aaT _ _ (λz:S=b=>nS (by rw[z];exact bf))).trans e
 .exact(aaT _ _ (abD (hT b tb).2)).trans (PD b o tb e)
 .exact eR v3 g3 t3 p3 λb o b1 b2 e=>k3 b o b1 b2 asp
end
section
variable {prog:ad2}{w:World}{A:ag0}{E:Value->Shared->Prop}{s:ab_}
theorem Ag
  (h:wpAny aa4 A.in1 (pyIter x) (λit s2=>∃I fp wr n P St bt,it= .ref I/\ams/\St 0 s2.heap/\(∀b∈fp,ato)/\0<n/\FZ prog w A.in1 T s2.heap P bt/\(∀b,T b->b∉wr/\ato)/\
   ∀v h' tk,P (as7 (n-1)) v->(∀b o,b∉wr->aCi->ae0)->Q v {s2 with heap:=h',toks:=tk}) E s):wpAny aa4 A (call (.builtin "min") [x]) Q E s:=by
 have nm:(toString "min"++toString ".loop":ap5)="min.loop":=by decide
 refine call_function_tree PySem.F.kind_min PySem.F.plain_min PySem.F.entry_min (PySem.F.args_min1 _) ?_;show wpAny _ A.in1 (Builtin.Builtins.bindParams "min" ["key","default"] 0 ⟨[],[]⟩ >>= _) _ _ _;refine aaa (aeV (show Builtin.Builtins.bindParams "min" ["key","default"] 0 ⟨[],[]⟩=pure [none,none] from rfl) (aaa (aaj (aaa (aco h (λit s2 z=>?_) λ_ _ e=>e)))));refine XM z λI fp wr n P St bt ak W Lh YH n0 cm eT q=>?_
 try clear z
 subst ak;refine aaa (abg ?_);have nS:s2.heap.objs.size∉fp:=λhm=>abo _ (YH _ hm);rw[nm];refine aaj ⟨aoB,F0 W cm nS (λb tb=>⟨(eT b tb).1,aaJ (eT b tb).2⟩) n0 (W.frame _ _ _ Lh λb _ o e=>ail) (λb o _ e=>ail) agU λv h' tk p k=>?_⟩;exact q v h' tk p λb o b1 e=>k b o b1 ax0 ail
end
end L2
namespace br
theorem qg:∀(l:aa_) (a b:aa0),iT a (l++[b])=if bB b (iT a l) then b else iT a l
 |[],a,b=>rfl
 |x::l,a,b=>qg l _ b
theorem ux:∀(l:aa_) (a:aa0),iT a l∈a::l
 |[],a=>aak.mpr rfl
 |b::l,a=>by
  rw[iT];rcases aat.mp (ux l (if bB b a then b else a))with h|h
  .rw[h];split
   .exact aag _ aal
   .exact aal
  .exact aag _ (ake h)
theorem xK:∀(l:aa_) (a:aa0),∀x∈a::l,FX (iT a l) x
 |[],a,x,h=>by
  rw[aak.mp h];show bB a a=false;cases e:bB a a with
  |false=>rfl
  |true=>have:=fI a a e;rw[e]at this;cases this
 |b::l,a,x,h=>by
  rw[iT];have ih:=xK l (if bB b a then b else a);have h0:=ih _ aal;rcases aat.mp h with h|h
  .rw[h];cases e:bB b a with
   |true=>
    rw[e]at h0;exact jX _ _ _ h0 (fI _ _ e)
   |false=>rw[e]at h0;exact h0
  .rcases aat.mp h with h|h
   .rw[h];cases e:bB b a with
    |true=>rw[e]at h0;exact h0
    |false=>
     rw[e]at h0;exact jX _ _ _ h0 e
   .exact ih x (ake h)
theorem jY(val:Nat->aa0):∀(k:Nat) (l:aa_),(∀i,i<k->l[i]?=some (val (i+1)))->val (PySem.argBest (λi j=>bB (val i) (val j)) k)=iT (val 0) (l.take k)
 |0,l,_=>rfl
 |k+1,l,h=>by
  have hk:=h k (abT k);have ih:=jY val k l λi hi=>h i (acg hi);have e:l.take (k+1)=l.take k++[val (k+1)]:=by rw[List.take_add_one,hk];rfl
  rw[e,qg,<-ih];show val (if bB (val (k+1)) (val (PySem.argBest _ k))=true then k+1 else PySem.argBest _ k)=_;split<;>rfl
end br
namespace L2
open PySem PySem.Spec PyProof.Rows PySem.W br
theorem xM:∀u v:aa0,HT.lexLt u v=bB u v
 |[],[]=>rfl
 |[],_::_=>rfl
 |_::_,[]=>rfl
 |x::u,y::v=>by
  show(if x=y then HT.lexLt u v else decide (x<y))=if x=y then bB u v else decide (x<y)
  rw[xM u v]
section
variable {X:Cx}
def dW:∀{us:ad7}{ks:aa_}{vs:ab2},aqV->aF us vs->∀(i:Nat) (v:Value),vs[i]?=some v->∃b u,aoA/\us[i]?=some u/\u= .ref b/\H b=some (akb ((ks.getD i []).map V.int)):=λ{us ks vs} h=>by
 induction h generalizing vs with
 |nil=>intro r i v h;cases r;simp at h
 |cons hq p ih=>
  intro r i v h;cases r with
  |cons r rs=>
   cases i with
   |zero=>
    refine aa hq λb ak hb=>?_
    try clear hq
    subst ak;cases r;have h':Value.ref b=v:=by simpa using h
    exact⟨b,ajh,h'.symm,rfl,rfl,hb⟩
   |succ i=>exact il (ih rs i v (by simpa using h)) λb u e1 e2 e3 e4=>⟨b,u,e1,by simpa using e2,e3,by simpa using e4⟩
def Ah(hc:agH)(hu:af2):cR X (.builtin "min") (λxs H Q=>∃(p:Addr) (ws:ad7) (k:aa0) (ks:aa_),anc/\cO X.K H p ws/\Paired amd ws (k::ks)/\∀u,TupAt H u (iT k ks)->Q u H):=by
 intro U s σ H xs us Q I r zz;refine NN zz λp ws k ks e hq hp q=>?_;subst e;refine aa am0 λu ak rx=>?_;subst ak;cases rx;refine bF ajM λits rv pl hz=>?_;have hl:s.heap.IsList p its.toArray:=pl.isList;have bj:p<s.heap.objs.size:=by obtain⟨_,e,_⟩:=hl;exact aaz e
 have len:its.length=ks.length+1:=by
  have h1:=rv.length;have h2:=adk hp;rw[aaF]at h2;exact afg (abc h1) h2
 have best:(k::ks).getD (argBest (λi j=>akz) ks.length) []=iT k ks:=by
  have:=jY (λi=>(k::ks).getD i []) ks.length ks (λi hi=>by simp[hi]);simpa using this
 refine Ag (T:=λb=>∃i,aCs/\its[i]?=some ajh) (acJ hl ?_);have Bq:∀b,(∃i,aCs/\its[i]?=some (Value.ref b))->b<s.heap.objs.size:=λb zz=>by
  refine aa zz λi _ hi=>il (dW hp rv i _ hi) λb' _ e1 _ _ e4=>?_;cases e1;refine Jw (de I e4) λx o xs n e g1 _=>?_;cases e;exact aaz g1
 refine⟨_,[_,p],[_],_,_,_,_,rfl,agD (A:=X.A.in1) agY s.heap.objs.size p (aaJ bj) its.toArray,as8,λb hb=>?_,by rw[aaq];lia,(λi j x y s' Q' E' st hx hy hQ=>?_:FZ X.prog X.w X.A.in1 _ _ _ (λi j=>akz)),λb hb=>⟨λz=>?_,?_⟩,λv h' tk hP hk=>?_⟩
 .show b<(s.heap.push _).objs.size;rw[acj];rcases aat.mp hb with rfl|hb
  .exact abT _
  .rw[aak.mp hb];exact acg bj
 .have xP:its[i]?=some x:=by simpa using hx
  have EJ:its[j]?=some y:=by simpa using hy
  refine il (dW hp rv i x xP) λb _ aN _ _ eb=>?_;subst aN;refine il (dW hp rv j y EJ) λc _ cV _ _ ec=>?_;subst cV;have ib:aCs:=(aax.mp xP).1;have jb:j<its.length:=(aax.mp EJ).1;refine vG (de I eb) λb' o xs n e g1 g2 g3 g4=>?_;cases e;refine vG (de I ec) λc' o2 ys m e f1 f2 f3 f4=>?_;cases e;have s1:=st b o ⟨i,ib,xP⟩ (aab _ g1);have s2:=st c o2 ⟨j,jb,EJ⟩ (aab _ f1);refine HT.vQ (items:=xs.toArray) (items2:=ys.toArray) ⟨o,s1,g2,n,g3⟩ ⟨o2,s2,f2,m,f3⟩ (by simpa using g4) (by simpa using f4) ?_ (by rw[xM];exact hQ);show X.A.units+1<cLine;lia
 .rw[aak.mp z]at hb;exact absurd (Bq _ hb) amK
 .show b<(s.heap.push _).objs.size;rw[acj];exact acg (Bq b hb)
 .rw[aaq,len,Nat.add_sub_cancel]at hP;have mi:its[argBest (λi j=>akz) ks.length]?=some v:=by simpa using hP
  refine il (dW hp rv _ v mi) λb u nQ _ _ eb=>?_;subst nQ;rw[best]at eb;refine⟨ajh,H,I.kept λb2 o e=>hk b2 o (λz=>?_) ail,rfl,q _ ⟨b,rfl,eb⟩⟩;rw[aak.mp z]at e;exact absurd ajc amK
end
end L2
namespace PySem
namespace F
def Cn:mroOf (.type "reversed")=pure [.type "reversed",.type "object"]:=by rw[mroOf_type];kernel_rfl
def Li:typeLookup (.type "reversed") "__new__"=pure (ajU (.builtin "reversed.__new__")):=by rw[typeLookup_type,builtinLookup_eq_fast];kernel_rfl
def F1:Slot "reversed" "__init__" "object.__init__":= .of (owner:="object") (n:="__init__") (by rw[typeLookup_type,builtinLookup_eq_fast];kernel_rfl) ab3 ab3 ab3 (by first|exact .inl ab3|exact .inr ab3) (by rw[isSubtype_type];kernel_rfl)
def Ai:TypeCalled "reversed" "reversed.__new__" "object.__init__":=
 ⟨by decide +kernel,by decide +kernel,⟨_,_,Cn⟩,madeBy_type Cn Li ab3,by decide +kernel,by rw[isSubtype_type];kernel_rfl,F1⟩
def PF(a:Value):checkTypeCall "reversed" ⟨[a],[]⟩=pure ():=by kernel_rfl
def PH(a:Value):checkBuiltinCall "reversed.__new__" ⟨[.type "reversed",a],[]⟩=pure ():=by kernel_rfl
def Co:entryFor table "reversed.__new__"=some Builtin.«reversed.__new__»:=entryFor_of_tree (by kernel_rfl)
def jZ:Slot "reversed" "__next__" "reversed.__next__":= .of (owner:="reversed") (n:="__next__") (by rw[typeLookup_type,builtinLookup_eq_fast];kernel_rfl) ab3 ab3 ab3 (by first|exact .inl ab3|exact .inr ab3) (by rw[isSubtype_type];kernel_rfl)
def i8:entryFor table "reversed.__next__"=some Builtin.«reversed.__next__»:=entryFor_of_tree (by kernel_rfl)
def F2:typeLookup (.type "tuple") "__reversed__"=pure none:=by rw[typeLookup_type,builtinLookup_eq_fast];kernel_rfl
def Lj:isSubtype (.type "reversed") (.type "reversed")=pure true:=by rw[isSubtype_type];kernel_rfl
def xQ:Slot "reversed" "__iter__" "reversed.__iter__":= .of (owner:="reversed") (n:="__iter__") (by rw[typeLookup_type,builtinLookup_eq_fast];kernel_rfl) ab3 ab3 ab3 (by first|exact .inl ab3|exact .inr ab3) (by rw[isSubtype_type];kernel_rfl)
def pO:entryFor table "reversed.__iter__"=some Builtin.«dict_keyiterator.__iter__»:=entryFor_alias (id':="dict_keyiterator.__iter__") (by kernel_rfl) (by first|rfl|decide +kernel|(unfold String.splitOn;simp +decide [String.splitOnAux])) ab3 (by kernel_rfl)
end F
def Aj(a:Value):argsOk "reversed.__iter__" ⟨[a],[]⟩:=by unfold argsOk;kernel_rfl
def qh(a:Value):argsOk "reversed.__next__" ⟨[a],[]⟩:=by unfold argsOk;kernel_rfl
end PySem
namespace L2
open PySem PySem.Spec PyProof.Rows
open AutoSeq1 (wpAny_loadPart')
noncomputable abbrev F3(l:Addr)(i:Int):Obj:={cls:= .type "reversed",data:= .fields #[ahI,rawInt i]}
def Cp(l:Addr)(items:agI)(n:Nat)(Fz:ahe)(sl:aoN):
  Meets (Builtin.«reversed.__new__» ⟨[.type "reversed",ahI],[]⟩) (λ_ R s=>s.heap.get? l=some {cls:= .type "tuple",dict:=Fz,data:= .seq items n,slots:=sl}/\items.size<2 ^ 62/\
   ∀tk,R (.ok (akL ab7)) {s with heap:=s.heap.push (F3 l ((items.size:Int)-1)),toks:=tk}):=
 .of_wp λprog w A R s h=>by
  obtain⟨hp,g,d,tk,os⟩:=s;obtain⟨hl,hz,h⟩:=h;have sb:=F.Lj;have no:=F.F2;have hT:Shared.TypeIs ⟨hp,g,d,tk,os⟩ ahI "tuple":=⟨_,hl,rfl⟩;have nd:isSubtype (.type "tuple") (.type "dict")=pure false:=by rw[isSubtype_type];kernel_rfl
  have gi:=F.slot_tuple_getitem.lookup;have hL:IsTup atR l items:=⟨_,hl,rfl,n,rfl⟩;have FF:(items.size:Int)<2 ^ 63:=by lia
  wp_walk using acx hl,PyProof.Rows.len_tuple hL FF;exact⟨_,rfl,h _⟩
section
variable {prog:ad2}{w:World}{A:ag0}{E:Value->Shared->Prop}{s:ab_}
def uy(h:Heap)(it l:Addr)(i:Int):Prop:=∃o,aqQ/\o.cls= .type "reversed"/\o.data= .fields #[ahI,rawInt i]
def uy.ty(r:awm):s.TypeIs ae5 "reversed":=let ⟨o,e,c,_⟩:=r;⟨o,e,c⟩
def F4(hL:asM)(hz:items.size<2 ^ 62)
  (h:∀tk,Q ab7 {s with heap:=s.heap.push (F3 l ((items.size:Int)-1)),toks:=tk}):
  wpAny aa4 A (as6 (.type "reversed")) Q E s:=by
 refine NK λnO=>?_;obtain⟨⟨c,Fz,dt,sl⟩,hl,hc,n,hd⟩:=hL;have kJ:c= .type "tuple":=hc;have mz:dt= .seq items n:=hd;subst kJ mz;refine nO ?_;refine callType_new F.Ai aa2 (F.PF _) (F.PH _) (λobj=>aeQ obj _) F.Co (Cp l items n Fz sl) ⟨hl,hz,λtk=>?_⟩;exact⟨art,h tk⟩
def xS(st:awm)(h:Q ae5 s):avM:=by
 refine aet st.ty F.xQ (abm F.xQ st.ty F.pO ?_ (Aj _));show wpAny _ _ (ret ae5) _ _ s;exact aaj ⟨_,rfl,"reversed",_,st.ty,F.jZ.lookup,h⟩
def F5{i:Nat}(st:awm)(hl:asM)(hx:items[i]?=some x)(hz:items.size<2 ^ 62)
  (hQ:∀h' tk,uy h' it l ((i:Int)-1)->ajk->Q (ajU x) {s with heap:=h',toks:=tk}):aij:=by
 have T:=st.ty;refine bF (id st) λo ho hc hd=>?_;have TL:s.TypeIs ahI "tuple":=let ⟨ol,a,b,_⟩:=hl;⟨ol,a,b⟩;have hi:aCt:=(abL.mp hx).1;unfold pyNext;refine aaa (adJ (abE (name:=Str.ofString "__next__") T F.jZ (abm F.jZ T F.i8 ?_ (qh _))));show wpAny _ _ (field ae5 0 >>= _) _ _ s;refine aaa (acM ho hd (x:= .ref l) rfl ?_);show wpAny _ _ (field ae5 1 >>= _) _ _ s;refine aaa (acM ho hd (x:= .int i 0) rfl ?_);show wpAny _ _ (if((i:Nat):Int)<0 then _ else _) _ _ s;rw[aaC awN];have gi:=F.slot_tuple_getitem.lookup;refine aaa (aef TL gi ?_);show wpAny _ _ (mkInt ((i:Nat):Int) >>= _) _ _ s;refine aaa (wpAny_mkInt ?_);refine aaa (adJ (PyProof.Rows.getItem_tuple (j:=i) (x:=x) (s:={s with toks:=s.toks+1}) hl akT (by lia) (by unfold seqIndex?;simp;exact SG hi) hx ?_));show wpAny _ _ (field ae5 1 >>= _) _ _ {s with toks:=s.toks+1};refine aaa (acM ho hd (x:= .int i 0) rfl ?_);show wpAny _ _ (setField ae5 1 (axt ((i:Int)-1)) >>= _) _ _ {s with toks:=s.toks+1};refine aaa (ack ho hd ab5 (aaj ⟨x,rfl,aaj (hQ _ _ ⟨_,abF _ ho avr,(adI ..).trans hc,?_⟩ (abA ..))⟩));rw[abG hd];simp[rawInt]
def Lk(hh:af5)(st:uy s.heap it l (-1))(hQ:∀h',al5->Q none {s with heap:=h'}):aij:=by
 have T:=st.ty;refine bF (id st) λo ho hc hd=>?_;unfold pyNext;refine aaa (adJ (abE (name:=Str.ofString "__next__") T F.jZ (abm F.jZ T F.i8 ?_ (qh _))));show wpAny _ _ (field ae5 0 >>= _) _ _ s;refine aaa (acM ho hd (x:= .ref l) rfl ?_);show wpAny _ _ (field ae5 1 >>= _) _ _ s;refine aaa (acM ho hd (x:= .int (-1) 0) rfl ?_);refine aaa (adq (aaa ?_));refine aaa (m:=setField ae5 1 (axt (-1))) (ack ho hd ab5 ?_);have RZ:(s.heap.update it (avG (·.setIfInBounds 1 (axt (-1))))).get? it=some (Obj.mapFields (·.setIfInBounds 1 (axt (-1))) o):=abF _ ho avr;refine ack RZ (abG hd _) ab5<|aaa ?_;unfold Builtin.SmallTypes.stopIteration;refine aaa ?_;simp only[newExc,newTuple];refine aaa (abg ?_ (by size_fits));refine aaa (m:=firstArgMember _ _) (aeV (a:=Value.none) (by first|rfl|(simp only[firstArgMember];rfl)) ?_);refine abg ?_ (by size_fits);simp only[raiseNew];refine aaa (afF ?_)
 first|rw[show A.in1.handled=none from hh]|rw[hh]
 refine aaa (aaj (ags ?_));refine aaa (aeM (T:="StopIteration") (b:=true) ⟨_,agU,rfl⟩ isSubtype_stop ?_);exact aaj (hQ _ ((((abA ..).trans (abA ..)).extBut.push _).push _))
end
noncomputable def PJ(K:aE)(a:Addr)(n:Nat):It:=
 ⟨λi H=>∃xs,aji/\xs.length=n/\i<n,λi H x H'=>H'=H/\∀xs,aji->xs[n-1-i]?=some x,λi H=>i=n⟩
def F6{K:aE}(a it:Addr)(n:Nat):qV P w K tg (PJ K a n) [it] it (λi h=>uy h it a ((n:Int)-1-i)) where
 mem:=by simp
 obj:=λi h st b hb=>by
  have e:b=it:=by simpa using hb
  subst e;exact bF st λo e c d=>⟨o,e,λv z=>by rw[d]at z;cases z⟩
 keep:=λi h h' st k=>let ⟨o,e,r⟩:=st;⟨o,k it ab5 o e,r⟩
 item:=by
  intro X hP hw hK hc i U s σ H E I hf st hg;subst hP hw hK;refine bF hg λxs hq hl hi=>bF am6 λits rv p hz=>sW ajb λf0 f1 f2 f3 f4 f5=>?_;have hj:n-1-i<xs.length:=(Bm (abc hl) (XO hi));refine aa (rv.get (aac hj)) λu hu ru=>?_;have len:=rv.length;have ei:(n:Int)-1-i=((n-1-i:Nat):Int):=(SE hi);rw[ei]at st;refine F5 st p (x:=u) (by simpa using hu) (by rw[aaq];rw[sizeLine_eq]at hz;lia) λh' tk av sb=>?_;have I1:Inv X U σ H {s with heap:=h',toks:=tk}:=I.turned (t':=tk) (λb o hb e=>aoR) f0 f1 f3 f4 f5;refine bF (id av) λo e c d=>⟨u,rfl,pY (s:={s with heap:=h',toks:=tk}) e c d aa2 ⟨xs[n-1-i],H,I1,ru,⟨rfl,λys hy=>by rw[I.kO hy hq];exact aac hj⟩,?_,λb hb=>aqG⟩⟩;have e2:(n:Int)-1-((i+1:Nat):Int)=((n-1-i:Nat):Int)-1:=by lia
  rw[e2];exact av
 done:=by
  intro X hP hw hK hc i U s σ H E I hf st hg;subst hP hw hK;have hg:i=n:=hg;subst hg;refine sW ajb λf0 f1 f2 f3 f4 f5=>?_;have ei:(i:Int)-1-i= -1:=by lia
  rw[ei]at st;exact Lk agY st λh' eb=>⟨rfl,I.turned (t':=s.toks) (λb o hb e=>aoF) f0 f1 f3 f4 f5⟩
 self:=λ_ _ _ _ _ st h=>xS st h
section
variable {X:Cx}{tg:Expr}
def YI(K:aE)(ta:TA):TI:=λσ H R=>ta σ H λvs H1=>∃a xs,vs=[ac_]/\aCJ/\R (PJ K a xs.length) H1
def PK{p pos:Pos}(hg:Gl X "reversed")(hm:X.mg "reversed"=none)(ha:PA X [a] ta)(hs:ag6):PI X tg (akO (.Name "reversed" p)) (YI X.K ta):=by
 intro U s σ H R I h;refine Call_ (kN I hg hm boot_reversed (acm (bG aht λus s1 ⟨vs,H1,I1,r1,q1⟩=>?_) hs rfl));refine NK λnO=>bg q1 λl xs e hq q=>?_;subst e;refine aa (vals1 r1) λu ak rx=>?_;subst ak;cases rx;refine bF (I1.tuple hq) λits rv pl hz=>nO ?_;have len:=rv.length;refine F4 pl (by rw[aaq];rw[sizeLine_eq]at hz;lia) λtk=>?_;have es:((its.toArray.size:Nat):Int)-1=(xs.length:Int)-1-((0:Nat):Int):=by rw[aaq,len];exact Int.le_antisymm (Int.le_add_of_nonneg_right aa2) (agh (Int.add_lt_add_left aa2 _))
 have st:uy (s1.heap.push (F3 l ((its.toArray.size:Int)-1))) s1.heap.objs.size l ((xs.length:Int)-1-((0:Nat):Int)):=⟨_,agU,rfl,by rw[es]⟩;refine xS (s:={s1 with heap:=s1.heap.push (F3 l ((its.toArray.size:Int)-1)),toks:=tk}) st ?_;refine⟨ahw,[ahw],_,_,H1,rfl,I1.kept (t':=tk) λb o e=>ail,F6 l _ xs.length,st,λb hb=>?_,q⟩;have e:aoH:=by simpa using hb
 subst e;exact I1.tJ ad0 ahv
end
open PySem.W
noncomputable def Uk(a:Addr)(o:Obj)(kvs:apo):It:=
 ⟨λi H=>apq/\arB,λi H x H'=>H'=H/\(kvs[i]?).map (λkv=>kv.2)=some x,λi H=>apq/\i=kvs.length⟩
def rP{σ:St}(I:aa3)(e:apq)(hd:aiU):
  (a==sysModules)=false/\∃vs,ak8/\s.heap.DictAt aoi a vs ep:=by
 obtain⟨z,lo,vs,eK,o',wZ,JH,h1,h2,h3,h4,h5,h6⟩:=jS I.aR (amY ⟨o,e⟩);have ho:alu:=(show aT X.prog X.w H s.heap a ahi from I.aR a _ e).1;rw[ho]at h1;cases h1;rw[hd]at h3;cases h3;exact⟨lo,vs,eK,o,es,ho,h2,hd,h4,h5,h6⟩
def PL{κ:Type}[DecidableEq κ]{kvs:akk}{vs:awU}(r:ak8){i:Nat}(hi:arB):∃k v,vs[i]?=some (k,v)/\RelV kvs[i].2 v:=by
 unfold KV at r;induction r generalizing i with
 |nil=>exact absurd hi anp
 |@cons p q ps qs hq t ih=>
  cases i with
  |zero=>exact⟨q.1,q.2,rfl,hq.2⟩
  |succ i=>
   exact eO (ih (i:=i) (by simpa using hi)) λk v h1 h2=>⟨k,v,by simpa using h1,by simpa using h2⟩
def F7{K:aE}{tg:Expr}(a it:Addr)(eG:a≠it)(o:Obj)(kvs:apo)(es:aiW)(ep:Nat)(hd:aiU):qV P w K tg (Uk a o kvs) [it] it (λi h=>h.IsValIter it a i kvs.length ep) where
 mem:=by simp
 obj:=λi h st b hb=>by
  have e:b=it:=by simpa using hb
  subst e;exact bF st λo e c d=>⟨o,e,λv z=>by rw[d]at z;cases z⟩
 keep:=λi h h' st k=>let ⟨o,e,r⟩:=st;⟨o,k it ab5 o e,r⟩
 item:=by
  intro X hP hw hK hc i U s σ H E I hf st hg;subst hP hw hK;obtain⟨e1,e2⟩:=hg;obtain⟨_,vs,eK,hm⟩:=rP I e1 hd;refine sW ajb λf0 f1 f2 f3 f4 f5=>eO (PL eK e2) λk v n1 n2=>?_;rw[eK.length]at st;refine wpAny_pyNext_values_item st hm n1 λh' k' hs=>?_;have I1:Inv X U σ H {s with heap:=h'}:=I.turned (t':=s.toks) (λb o hb e=>(hs.2 b hb).trans e) f0 f1 f3 f4 f5;exact bF (id k') λoi g1 g2 g3=>⟨_,rfl,pY (s:={s with heap:=h'}) g1 g2 g3 aa2 ⟨_,H,I1,n2,⟨rfl,by rw[aac e2];rfl⟩,by rw[eK.length];exact k',λb hb=>aqG⟩⟩
 done:=by
  intro X hP hw hK hc i U s σ H E I hf st hg;subst hP hw hK;obtain⟨e1,e2⟩:=hg;obtain⟨_,vs,eK,hm⟩:=rP I e1 hd;refine sW ajb λf0 f1 f2 f3 f4 f5=>?_;rw[eK.length]at st;exact wpAny_pyNext_values_end agY st hm (by rw[aaH];rw[<-eK.length,e2];exact aam _) λh' eb=>⟨rfl,I.turned (t':=s.toks) (λb o hb e=>aoF) f0 f1 f3 f4 f5⟩
 self:=λ_ _ _ _ _ st h=>wpAny_pyIter_valiter st h
section
variable {X:Cx}{tg:Expr}
def YJ(tl:TE):TI:=λσ H R=>tl σ H λx H1=>∃a o kvs,ajw/\H1 a=some ahi/\R (Uk a o kvs) H1
def PM{ap cp:Pos}(hl:PE X l tl)(jI:attributeBase l "values" X.env (ajY l)=eval l X.env)(jJ:apk):PI X tg (at3 (.Attribute l "values" ap)) (YJ tl):=by
 intro U s σ H R I h;refine wpAny_Call_method0_late jI jJ (bG aCv λv s1 zz=>?_);refine bg zz λx H1 I1 r1 q1=>cC q1 λa o kvs e hq q=>?_;subst e;cases r1;refine cY (B8 I1 (akf ⟨kvs,.inr ⟨o,hq⟩⟩)) λt1 t2 t3=>?_;have ho:aCj:=(show aT X.prog X.w H1 s1.heap a ahi from I1.aR a _ hq).1;obtain⟨es,ep,hd⟩:∃es ep,o.data= .dict es ep:=by
  obtain⟨_,_,_,_,o',wZ,JH,h1,h2,h3,_⟩:=jS I1.aR (amY ⟨o,hq⟩);rw[ho]at h1;cases h1;exact⟨wZ,JH,h3⟩
 obtain⟨_,vs,eK,hm⟩:=rP I1 hq hd;refine⟨"dict",_,afG,afw,PySem.F.type_dict_values,t1,t2,acP rfl (agr ?_)⟩;refine call_meetsIn afw t1 PySem.F.entry_dict_values (PySem.F.args_dict_values_1 _) (meets_dict_values aoi a t3) ⟨⟨vs,?_⟩,?_⟩
 .exact il (id hm) λo' wZ h1 h2 h3 r=>⟨o',wZ,ep,h1,h2,h3,r⟩
 .show wpAny _ _ (pyIter (akX s1.heap.objs.size)) _ _ _;have I2:Inv X U σ H1 {s1 with heap:=s1.heap.push {cls:= .type "dict_values",data:= .fields #[ac_]}}:=I1.kept (t':=s1.toks) λb o e=>aab _ e;obtain⟨_,vs2,Ul,Um⟩:=rP I2 hq hd;refine wpAny_pyIter_values (s:={s1 with heap:=s1.heap.push {cls:= .type "dict_values",data:= .fields #[ac_]}}) ⟨_,agU,rfl,rfl⟩ Um ?_;have alt:a<(s1.heap.push {cls:= .type "dict_values",data:= .fields #[ac_]}).objs.size :=aaz (aab _ ho);refine⟨_,[(s1.heap.push {cls:= .type "dict_values",data:= .fields #[ac_]}).objs.size],_,_,H1,rfl,I2.kept (t':=s1.toks) λb o e=>ail,F7 a _ (aaJ alt) o kvs es ep hd,⟨_,agU,rfl,by rw[Ul.length];rfl⟩,λb hb=>?_,q⟩;have e:b=(s1.heap.push {cls:= .type "dict_values",data:= .fields #[ac_]}).objs.size :=by simpa using hb
  subst e;exact I2.tJ ad0 (I2.aR.fresh ad0)
end
end L2
namespace L2
open PySem PySem.Spec PyProof.Rows
def qi:entryFor table "dict.update.loop"=some Builtin.«dict.update.loop»:=entryFor_of_tree (by kernel_rfl)
def iz:plainId "dict.update.loop"=true:=by decide +kernel
def Ak{prog:ad2}{w:World}{A:ag0}{E:Value->Shared->Prop}{s:ab_}{a:Addr}{xs:agI}{k:Nat}{sl:aoN}{Q:af9->Shared->Prop}
  (hx:s.heap.get? a=some {cls:= .type "list",dict:=none,data:= .seq xs k,slots:=sl}) (hA:af5)
  (h:∀h' tk,(∀b ob,aCk->h'.get? b=some ob)->Q none {s with heap:=h',toks:=tk}):
  wpAny aa4 A (getAttr? (.ref a) "keys") Q E s:=by
 obtain⟨hp,g,d,tk,os⟩:=s;have hT:∀Wi,(⟨hp,g,d,Wi,os⟩:ab_).TypeIs ac_ "list":=λ_=>⟨_,hx,rfl⟩;have f1:=sub_AttributeError;have f3:=adZ.lookup;have f4:=adZ.bind ac_;have f5:=am_list_getattr_none;unfold getAttr? getAttrBy? getAttrBy
 repeat (any_goals (first|assumption|exact hT _|((with_reducible show wpAny _ _ (call (Value.builtin "list.__getattribute__") _ _) _ _ _);refine call_meets adZ (hT _) am_entry_list_getattribute (F.args_list_getattribute_2 _ _) (meets_getattribute_miss_list a xs k sl "keys" _ (by rw[typeLookup_type,builtinLookup_eq_fast];kernel_rfl) (by decide +kernel)) ⟨hx,hA,λh' Wi e xP=>?_⟩)|wp_step))
 obtain⟨t',u',he⟩:=xP.there;show wpAny _ _ (getattributeRaised _ _ _ _ _ _ _) _ _ _;unfold getattributeRaised
 repeat (any_goals (first|assumption|wp_step))
 exact h _ _ xP.keeps
noncomputable def PR(H:Hp)(z:V)(p:List cD×V):Prop:=∃t b,z= .ref t/\H t=some (akb [ajh,p.2])/\H b=some ats
def cO.Uo{K:aE}(h:cO K H l zs)(hd:aDl)(he:∀b,b≠d->H' b=H b):cO K H' l zs:=by
 rcases h with (h|⟨o,h⟩)|h
 .exact .inl (akf ((he _ (c8 h hd (λz=>nomatch z))).trans h))
 .exact .inl (amY ⟨o,(he _ (c8 h hd (λz=>nomatch z))).trans h⟩)
 .exact .inr h
section
variable {X:Cx}{U:aa8}{σ:St}{A:ag0}{d l it:Addr}{zs:ad7}{ps:ah9}{R:Result->Shared->Prop}
def Cq(hu:A.in1.units<cLine)(hh:af5)(hz:zs.length=ps.length):∀(m i:Nat) (s:ab_) (H:Hp) (kvs:ah9),ps.length-i=m->i<=ps.length->aa3->kP X U H it->s.heap.IsListIter it l i->cO X.K H l zs->
  (∀(j:Nat) z p,zs[j]?=some z->ps[j]?=some p->PR H z p)->aDl->kvs.length+(ps.length-i)<=sizeLine->
  (∀H' s',aiv->H' d=some (.dT ((ps.drop i).foldl (λm p=>avT) kvs))->(∀b,b≠d->H' b=H b)->aBW)->
  codeAny aa7 A (.builtin "dict.update.loop" ⟨[aDr,ae5,.int i 0,.none],[]⟩) R s:=by
 intro m;induction m with
 |zero=>
  intro i s H kvs hm hi I fo st hq hp hd hl hR;have e:i=ps.length:=adD hi (Nat.le_of_sub_eq_zero hm);subst e;refine aca qi ?_;rw[acp iz _];refine bF ajM λits rv p FF=>sW fo λf0 f1 f2 f3 f4 f5=>?_;have hl:=rv.length;refine aaa (m:=pyNext ae5) (aez hh st p.isList (by simp;exact aap (afg (abc hl) hz)) λh' eb=>?_);have I1:Inv X U σ H {s with heap:=h'}:=I.turned (t':=s.toks) (λb o hb e=>aoF) f0 f1 f3 f4 f5;show wpAny _ _ (Builtin.Dict.addKeywords d [] >>= _) _ _ _;refine aaa (aaj (aaj (hR H _ I1 ?_ λ_ _=>rfl)));rw[aeN];exact hd
 |succ m ih=>
  intro i s H kvs hm hi I fo st hq hp hd hl hR;have lt:i<ps.length:=by omega
  refine aca qi ?_;rw[acp iz _];refine bF ajM λits rv pl FF=>sW fo λf0 f1 f2 f3 f4 f5=>?_;have Wj:=aac (hz▸lt:i<zs.length);have YK:=aac lt;obtain⟨t,b,e1,e2,e3⟩:=hp i _ _ Wj YK;refine aa (rv.get Wj) λu qk ru=>?_;rw[e1]at ru;cases ru;refine aaa (m:=pyNext ae5) (aeo st pl.isList (x:= .ref t) (by simpa using qk) λh' av sb=>?_);have I1:Inv X U σ H {s with heap:=h'}:=I.turned (t':=s.toks) (λb o hb e=>aoR) f0 f1 f3 f4 f5;obtain⟨YL,tr,tp,_⟩:=I1.tuple (show cP X.K H t _ from e2);obtain⟨u1,u2,rfl,r1,r2⟩:=vals2 tr;cases r1;obtain⟨z,Wl,xs,eK,dd⟩:=xm I1.aR hd;refine aaa (abi ?_);have Up:wpAny aa7 A.in1 (Builtin.Dict.pairItems ao3) (λl s'=>l=[ajh,u2]/\s'={s with heap:=h'}) (λ_ _=>False) {s with heap:=h'}:=by
   obtain⟨o,o1,o2,n,o3⟩:=tp;unfold Builtin.Dict.pairItems;refine aaa (adA ⟨o,o1,o2⟩ ?_);rw[aav aa2];show wpAny _ _ (seqItems? ao3 >>= _) _ _ _;unfold seqItems?;refine aaa (aaa (wpAny_load o1 ?_));rw[o3];exact aaj (aaj ⟨rfl,rfl⟩)
  refine aaa (aex (aco Up ?_ λ_ _ z=>z.elim));rintro _ _ ⟨rfl,rfl⟩;refine abi ?_;have pW:(fm kvs ps[i].1 ps[i].2).length <=kvs.length+1:=gP _ _ _;refine wpAny_dictSet_heap (hsz:=by rw[<-adk eK];exact z) hu (jl I1.aR e3) dd λh2 B5 hs=>Nf B5 λq es ep Wm Ll h3 h4 _ h5=>?_;have I2:Inv X U σ (upd H d (.dT (fm kvs ps[i].1 ps[i].2))) {s with heap:=h2,toks:=s.toks+(tupleKind aoi).draws ps[i].1}:=by
   refine jT (s:={s with heap:=h'}) I1 (by rw[hd];exact True.intro) hs ⟨q,Wm⟩ ⟨by omega,Wl,_,(eK.put _ e3 r2).keeps λc ys ec=>?_,q,es,ep,Wm,Ll,h3,h4,h5⟩;rw[aq (c8 ec hd (λz=>nomatch z))];exact ec
  have nd:d≠it:=λz=>by rw[z,f0]at hd;cases hd
  have ne:∀b,b≠d->upd H d (.dT (fm kvs ps[i].1 ps[i].2)) b=H b:=λb hb=>aq hb;refine aaj ⟨plainId_quiet iz _,ih (i+1) _ _ _ aa1 lt I2 ⟨(ne _ nd.symm).trans f0,f1,f2,f3,f4,f5⟩ (av.at λo e=>(hs.2 _ nd.symm).trans e) (hq.Uo hd ne) (λj z p h1 h2=>?_) ah aa1 λH' s' I' e' n'=>hR H' s' I' ?_ λb hb=>(n' b hb).trans (ne b hb)⟩
  .obtain⟨t,b,g1,g2,g3⟩:=hp j z p h1 h2;exact⟨t,b,g1,(ne _ (c8 g2 hd (λz=>nomatch z))).trans g2,(ne _ (c8 g3 hd (λz=>nomatch z))).trans g3⟩
  .rw[abv lt,aeh];exact e'
noncomputable def PN(K:aE):V->ad7->Hp->VK->Prop:=λx vs H Q=>∃(d l:Addr) (zs:ad7) (kvs ps:ah9),x= .ref d/\vs=[ahI]/\aDl/\cO K H l zs/\zs.length=ps.length/\(∀(j:Nat) z p,zs[j]?=some z->ps[j]?=some p->PR H z p)/\kvs.length+ps.length<=sizeLine/\
 Q .cv (upd H d (.dT (ps.foldl (λm p=>avT) kvs)))
def Lm(hu:af2)(hh:agH):RH X "dict.update" (PN X.K):=by
 intro U s σ H x vs v us Q I rx rv h;obtain⟨d,l,zs,kvs,ps,rfl,rfl,hd,hq,hz,hp,hl,q⟩:=h;cases rx;refine aa rv.one λu cV ru=>?_;subst cV;cases ru;obtain⟨_,Wl,xs,eK,dd⟩:=xm I.aR hd;obtain⟨its,rv,pl,FF⟩:=I.list hq;refine wpAny_call (codeAny_call_builtin F.slot_dict_update.plain F.entry_dict_update (F.slot_dict_update.check _ _ _ _ _ _ _ _ dd.typeIs (F.args_dict_update_2 _ _) ?_));unfold Builtin.«dict.update»;refine aaa ?_;unfold Builtin.Dict.selfAndRest;refine aaa (wpAny_notOrdered_dict dd.typeIs ?_);show wpAny _ _ (pure (d,[Value.ref l])) _ _ s;refine aaj ?_;show wpAny _ _ (Builtin.Dict.updateFrom "dict.update" d ahI [] .none) _ _ s;unfold Builtin.Dict.updateFrom;obtain⟨⟨cl,dc,dt,sl⟩,n,o1,o2,o3,o4⟩:=id pl;have o2:cl= .type "list":=o2;have o3:dc=none:=o3;have o4:aBQ:=o4;subst o2 o3 o4;refine aaa (adA ⟨_,o1,rfl⟩ ?_);rw[aav aa2];refine aaa (Ak o1 (I.ok.hd hh) λh' tk hk=>?_);simp only[Option.isNone_none,if_true];refine aaa (adq (aaa (acJ ⟨_,hk _ _ o1,rfl,n,rfl⟩ (aaj ⟨plainId_quiet iz _,?_⟩))));have I1:Inv X U σ H {s with heap:=h',toks:=tk}:=I.kept hk;have hn:H h'.objs.size=none:=I1.aR.fresh ad0;have I2:Inv X U σ H {s with heap:=h'.push {cls:= .type "list_iterator",data:= .fields #[ahI,aBq]},toks:=tk}:=I1.kept (t':=tk) λb o e=>aab _ e;refine Cq (it:=h'.objs.size) (l:=l) (d:=d) (H:=H) (kvs:=kvs) (show X.A.units+1<cLine by lia) (I.ok.hd hh) hz _ 0 _ rfl ao6 I2 (I1.tJ ad0 hn) ⟨_,agU,rfl,rfl⟩ hq hp hd hl λH' s' I' e' n'=>⟨.cv,H',I',rfl,?_⟩;have:H'=upd H d (.dT (ps.foldl (λm p=>avT) kvs)):=funext λb=>by
  by_cases hb:b=d
  .subst hb;rw[e',ah];rfl
  .rw[n' b hb,aq hb]
 rw[this];exact q
def Ln{o e:Expr}{jF dq:Pos}{to te:TE}(hu:af2)(hh:agH)(ho:ax_)(he:ap8)(m:M1 X o "update" jF e dq):
  PE X (.Call (.Attribute o "update" jF) [e] [] dq) (λσ H Q=>to σ H λx H1=>∃a,ajw/\V9 H1 a/\te σ H1 λy H2=>PN X.K x [y] H2 Q):=by
 intro U s σ H Q I h;refine wpAny_Call_method m.base m.kX m.line afG PySem.F.slot_dict_update PySem.F.type_dict_update (bG ajH λu s1 ⟨x,H1,I1,rx,a,ex,d,q1⟩=>?_);subst ex;obtain rfl:u=Value.ref a:=rx;obtain⟨t1,t2,_⟩:=B8 I1 d;refine⟨t1,t2,?_⟩;rw[m.trees];exact acP rfl (aeP (Calls.spliced_cons (bG (he U s1 σ H1 _ I1 q1) λiv s2 ⟨y,H2,I2,ry,q2⟩=>Calls.spliced_nil (Lm hu hh U s2 σ H2 ac_ [y] ac_ [iv] Q I2 rfl (aj2 ry) q2))))
end
open PySem.W
section
variable {X:Cx}{U:aa8}{σ:St}{H H1 H2:Hp}{s:ab_}
def nR(H:Hp)(b:Addr):Prop:=∃u,aot/\Bn azn
def NF(X:Cx)(b:Addr):Prop:=∀o u,X.H₀ b≠some ahD
def Inv.Uq(I:Inv X U σ H1 s)(ea:H1 a=some u)(mu:Bn azn):∃o,Inv X U σ axE s:=by
 obtain⟨o,ho⟩:∃o,s.heap.get? a=some o:=by
  have ok:=I.aR a u ea;cases u with
  |lst xs=>obtain⟨_,_,_,_,e⟩:=ok;exact⟨_,e⟩
  |dK kvs=>obtain⟨_,_,_,_,o,_,_,e,_⟩:=ok;exact⟨_,e⟩
  |dT kvs=>obtain⟨_,_,_,_,o,_,_,e,_⟩:=ok;exact⟨_,e⟩
  |set S n=>obtain⟨o,_,_,_,e,_⟩:=ok;exact⟨_,e⟩
  |ins C dx fs=>obtain⟨_,_,_,e,_⟩:=ok;exact⟨_,e⟩
  |ext φ=>obtain⟨_,⟨o,e⟩,_⟩:=ok;exact⟨_,e⟩
  |_=>exact mu.elim
 have nt:∀b w,H1 b=some w->¬Bn (ajU w)->upd H1 a ahD b=some w:=λb w e nm=>by
  rw[aq (λz=>?_)]
  .exact e
  .rw[z,ea]at e;cases e;exact nm mu
 have aR:jf X.prog X.w axE s.heap:=λb w' e=>by
  by_cases hb:b=a
  .subst hb;rw[ah]at e;cases e;exact⟨ho,(I.aR b u ea).pE (λ_ _ _ z=>z) (λc z=>nt c _ z id) λc ys z=>nt c _ z id⟩
  .rw[aq hb]at e;exact(I.aR b w' e).pE (λ_ _ _ z=>z) (λc z=>nt c _ z id) λc ys z=>nt c _ z id
 have un:Un X.fs [] H1 axE s.heap s.heap:=Un.write (x:=a) (e:=a) (by rw[ea];exact mu) agR (λ_ _ _ z=>z) ⟨o,ho⟩;have:=I.un (t':=s.toks) un aR;exact⟨o,this⟩
structure F8(as:af7)(H1 H2:Hp):Prop where
 out:∀b,b∉as->H2 b=H1 b
 at_:∀b,b∈as->∃o u,H1 b=some u/\Bn azn/\H2 b=some ahD
theorem Inv.jg:∀(as:af7) {H1:Hp},Inv X U σ H1 s->as.Nodup->(∀b∈as,nR H1 b)->∃H2,Inv X U σ H2 s/\F8 as H1 H2
 |[],H1,I,_,_=>⟨H1,I,λ_ _=>rfl,λ_ z=>nomatch z⟩
 |a::as,H1,I,nd,hm=>by
  rw[aaW]at nd;refine aa (hm a aal) λu ea mu=>aa (Inv.jg as I nd.2 λb hb=>hm b atq) λH2 I2 f2=>?_;have YM:H2 a=some u:=by rw[f2.out a nd.1];exact ea
  obtain⟨o,I3⟩:=I2.Uq YM mu;refine⟨_,I3,λb hb=>?_,λb hb=>?_⟩
  .rw[aat,not_or]at hb;rw[aq hb.1];exact f2.out b hb.2
  .by_cases ql:b=a
   .subst ql;exact⟨o,u,ea,mu,ah⟩
   .rw[aq ql];exact f2.at_ b ((aat.mp hb).resolve_left ql)
def Inv.nf(I:aa3)(h:nR H b):NF X b:=λo u e=>by
 refine aa h λw e1 mu=>?_;have:=I.base.jg b o u e;rw[e1]at this;cases this;exact mu
open Classical in
noncomputable def gE(as:af7)(H1 H2:Hp):Hp:=λb=>if b∈as then H1 b else H2 b
def j4(h:b∈as):gE as H1 H2 b=H1 b:=aav h
def bU(h:b∉as):gE as H1 H2 b=H2 b:=aaC h
def uz(as:af7)(H1 H2:Hp):Prop:=∀b,b∈as->∃o u,H1 b=some u/\Bn azn/\H2 b=some ahD
theorem Inv.gE(I:Inv X U σ H2 s)(nf:∀b∈as,NF X b)(h:uz as H1 H2):Inv X U σ (gE as H1 H2) s:=by
 have same:∀b w,H2 b=some w->(∀o u,w≠ .dJ o u)->L2.gE as H1 H2 b=some w:=λb w e n=>by
  rw[bU λhb=>?_]
  .exact e
  .refine bg (h b hb) λo u _ _ e2=>?_;rw[e]at e2;cases e2;exact n o u rfl
 have xT:∀b,H2 b=none->L2.gE as H1 H2 b=none:=λb e=>by
  rw[bU λhb=>?_]
  .exact e
  .refine bg (h b hb) λo u _ _ e2=>?_;rw[e]at e2;cases e2
 have aR:jf X.prog X.w (L2.gE as H1 H2) s.heap:=λb w' e=>by
  by_cases hb:b∈as
  .refine bg (h b hb) λo u e1 mu e2=>?_;rw[j4 hb,e1]at e;have ew:u=w':=aaI e;subst ew;obtain⟨_,q⟩:=(show aT X.prog X.w H2 s.heap b ahD from I.aR b _ e2);exact q.pE (λ_ _ _ z=>z) (λc z=>same c _ z λ_ _ y=>(nomatch y)) λc ys z=>same c _ z λ_ _ y=>(nomatch y)
  .rw[bU hb]at e;exact(I.aR b w' e).pE (λ_ _ _ z=>z) (λc z=>same c _ z λ_ _ y=>(nomatch y)) λc ys z=>same c _ z λ_ _ y=>(nomatch y)
 refine⟨I.ok,I.os,aAo,⟨I.base.keep,I.base.slot,λb o e n hx=>xT b alW,I.base.there,λb xs e=>same b _ (I.base.qQ b xs e) λ_ _ y=>(nomatch y),λb o u e=>?_,λb ps e=>?_⟩,I.loc,I.cell,xT _ I.free,λx c e=>xT _ au6,λp hp=>?_,aR,I.len⟩
 .have e2:=I.base.jg b o u e;rw[bU λhb=>nf b hb o u e];exact e2
 .obtain⟨more,e2⟩:=I.base.qR b ps e;exact⟨more,same b _ e2 λ_ _ y=>(nomatch y)⟩
 .exact cY (I.pin p hp) λe n r=>⟨e,xT _ n,r⟩
end
section
variable {X:Cx}{k:Nat}{f:Addr}{fd:akq}{ps:ae1}{sp:Sp}{x:Str}{p pos:Pos}{e:Expr}{es:ag7}{t:TA}
def Cu(F:jE X.prog X.w X.K X.mg X.base zJ k f fd ps sp)(hr:aAQ)(hg:aye)(hm:X.mg x=some ano)(hk:ax5)(hb:auz)
  (ha:alO) (EG:aik) (he:ab1) (fy:(backTo pos ag_).any (·.1)=false):
  PE X ahQ (λσ H Q=>t σ H λvs H1=>∃as:af7,as.Nodup/\(∀b∈as,nR H1 b)/\∀H2,aqC->sp (vs++[]) H2 (λv H3=>aqk/\Q v ak5) E0):=by
 intro U s σ H Q I h;refine aec (qT I hg hm ?_ EG);refine agx (h₀:=X.base) I.ok.mod.Rx hk (bG aht λus s1 ⟨vs,H1,I1,r,as,nd,R3,q⟩=>⟨I1.Ik,?_⟩) he fy;exact aa aB1 λH2 I2 fz=>bG (BB F hr hb .nil BL I2 r (q H2 fz)) λv s2 zz=>il zz λy H3 I3 ry hc q3=>⟨y,_,I3.gE (λb iY=>I1.nf (R3 b iY)) hc,ry,q3⟩
def F9{t:TE}(h:PE X e t):PE X e (λσ H Q=>t σ H λv H1=>∃as:af7,as.Nodup/\(∀b∈as,nR H1 b)/\∀H2,aqC->Q v H2):=by
 intro U s σ H Q I q;refine bG (h U s σ H _ I q) λv s1 zz=>?_;obtain⟨y,H1,I1,r1,as,nd,R3,q1⟩:=zz;exact aa aB1 λH2 I2 fz=>⟨y,H2,I2,r1,q1 H2 fz⟩
end
section
variable {X:Cx}
def Cv(K:aE):V->ad7->Hp->VK->Prop:=λx vs H Q=>∃l b xs zs,at6/\vs=[ajh]/\arP/\cO K H b zs/\awj/\Q .cv (aw5 (aj1 (xs++zs)))
def Cw:RH X "list.extend" (Cv X.K):=by
 intro U s σ H x vs v us Q I rx rv h;refine EY h λl b xs zs ak aN hH hB hz q=>?_
 try clear h
 subst ak;subst aN;cases rx;refine aa rv.one λu cV ru=>?_;subst cV;cases ru;obtain⟨z,its,n,r,hl,e⟩:=I.Ku hH;have key:∃(jh:ab2) (n2:Nat),aF zs jh/\s.heap.get? b=some {cls:= .type "list",data:= .seq jh.toArray n2}:=by
  rcases hB with hB|⟨o,its,m,h1,h2,h3,h4,h5,h6,h7⟩
  .obtain⟨_,jh,n2,r2,e2⟩:=hB.ok I.aR;exact⟨jh,n2,r2,e2⟩
  .have hg:=I.Ik b o h1;obtain⟨c,Fz,dt,sl⟩:=o;have h2:c= .type "list":=h2;have h3:Fz=none:=h3;have h4:dt= .seq its m:=h4;have h7:sl=#[]:=h7;subst h2 h3 h4 h7;exact⟨its.toList,m,h6,by simpa using hg⟩
 refine eO key λjh n2 r2 e2=>?_;have R1:=r2.length;have hsz:its.toArray.size+jh.toArray.size<=sizeLine:=by rw[aaq,aaq];lia
 have PQ:¬(!its.toArray.isEmpty&&Builtin.List.listTooLong (its.toArray.size+jh.toArray.size))=true:=by
  rw[BJ hsz,Bool.and_false];exact aai
 refine call_meets F.slot_list_extend ⟨_,e,rfl⟩ F.entry_list_extend (F.args_list_extend_2 _ _) (AutoSeq1.list_extend_list_list_0 l its.toArray n b jh.toArray n2 PQ (by rw[aaq];lia) (ajX hsz)) ⟨e,e2,?_⟩;refine⟨.cv,_,I.Kt (its':=its++jh) hH e ab5 (r.append r2) ?_,rfl,q⟩;rw[aan];exact hz
def uA(tk tv:TE):TE:=λσ H Q=>∀p,akp->tk σ (auM azM) λx H1=>tv σ H1 λy H2=>∃i:Int,axC/\H2 p=some azM/\Q ahg (upd H2 p (.dK [(azA,y)]))
def F_(hu:alj)(hk:PE X k tk)(hv:PE X v tv):PE X ayN (uA tk tv):=by
 intro U s σ H Q I h;have hn:amA:=I.aR.fresh ad0;refine wpAny_Dict_any rfl rfl ab5 (show 1<=15 by decide) ?_;have I0:Inv X U σ (akW azM) {s with heap:=s.heap.push {cls:= .type "dict",data:= .dict #[]}}:=I.laid (a:=s.heap.objs.size) (o:= .dK []) (t':=s.toks) (λ_ _ q=>axY) ad0 (B6 s.heap I.big);refine pairTrees_cons_walk (bG aww λkv s1 zz=>bg zz λx H1 I1 r1 q1=>bG ay6 λvv s2 zz=>bg zz λy H2 I2 r2 q2=>pairTrees_nil_walk ?_);refine bF q2 λi ex ep q3=>?_;subst ex;obtain⟨t,rfl⟩:=r1;unfold storeAll;rw[ada];obtain⟨z,hd,xs,eK,dd⟩:=IK I2.aR ep;have ry:RelV (kV azA) (Value.int i t):=⟨t,rfl⟩;have hz:ah6:=by rw[<-eK.length];exact z
 refine aaa (aaa (wpAny_dictSet_pairs (hsz:=hz) (knd:=aV X.prog X.w) aCn dd λh' B5 hs=>aaj ?_));dsimp only;rw[List.forIn_nil];refine aaj ⟨ab7,_,?_,rfl,q3⟩;have he:∃q,h'.get? s.heap.objs.size=some q:=let ⟨q,_,_,hq,_⟩:=B5;⟨q,hq⟩;exact jT (t':=s2.toks+1) I2 (by rw[ep];exact True.intro) hs he (B4 (by rw[sizeLine_eq];exact(by decide:(1:Nat)<=16777216)) hd (eK.put azA r2) B5)
end
section
variable {prog:ad2}{w:World}{A:ag0}{E:Value->Shared->Prop}{s:ab_}{d:Addr}{es:aiW}{ep:Nat}
def uB(hh:af5)(lo:anx)(r:alh)(IQ:es.size<64)(hI:IntsAre (avE (·.key)) ns)
  (h:∀(h1 h':Heap) (tk:Nat) (out:agI) (c:Nat) (nr:aa0),(∀b o',arv->apU)->(∀b o',apU->apV)->h'.get? h1.objs.size=some {cls:= .type "list",data:= .seq out c}->IntsAre out.toList nr->nr.Perm ns->nr.Pairwise (· <= ·)->Q aip {s with heap:=h',toks:=tk}):
  wpAny aa4 A (call (.builtin "sorted") [aDr]) Q E s:=by
 refine acY kind_sorted plain_sorted entry_sorted aqg ?_;unfold Builtin.«sorted»;refine aaa (m:=checkCount "sorted" 1 1 _) (aaj (aaa (kdu_collect (A:=A.in1) (xC lo) hh r (by rw[sizeLine_eq];exact aaf (aaE IQ) aa2) λh1 tk acc k1 it=>?_)));have hl:azs:=by rw[aaG];exact it.1
 have eq:acc.toList=es.toList.map (·.key):=by
  apply abP;intro j;rcases abq j es.size with z|z
  .have hj:j<acc.toList.length:=(aah z aiH);refine aa (it.2 j acc.toList[j] (by rw[<-aaR];exact aac hj)) λe e1 e2=>?_;rw[aac hj,aau,aaR,e1,e2];rfl
  .rw[aaH (aaf azu z),aaH (by simpa using z)]
 rw[eq];refine aaa (aeS ?_ (by rw[<-eq,hl,sizeLine_eq];exact aaf (aaE IQ) aa2));have zA:(h1.push (seqObj "list" (es.toList.map (·.key)).toArray 0)).get? h1.objs.size=some (seqObj "list" (es.toList.map (·.key)).toArray 0):=aas _ rfl;refine aaa (abi (abm slot_list_sort ⟨_,zA,rfl⟩ entry_list_sort (list_sort_tree (s:={s with heap:=h1.push (seqObj "list" (es.toList.map (·.key)).toArray 0),toks:=tk}) zA hI (by rw[<-eq,hl];exact IQ) λout nr a1 a2 a3=>⟨_,rfl,?_⟩) aoV));refine aaj ⟨_,rfl,?_⟩;have u1:=get?_update_seq zA (λ_=>#[]);have u2:=aab (seqObj "tuple" (es.toList.map (·.key)).toArray 0) u1;have u3:=aab (seqObj "list" #[] 0) u2;have u4:=get?_update_seq u3 (λ_=>out);refine h h1 _ tk out _ nr k1 (λb o' e=>?_) u4 a1 a2 a3;have hb:aqS:=aaJ ajc;unfold sortedHeap;rw[aaT _ _ anL];refine aab _ (aab _ ?_);rw[aaT _ _ anL];exact aab _ e
end
section
variable {X:Cx}
theorem xU:∀{ns:aa0}{vs:ab2},vs.length=ns.length->(∀(i:Nat) (n:Int),ns[i]?=some n->∃t,vs[i]?=some (apa n))->IntsAre vs ns
 |[],[],_,_=> .nil
 |[],_::_,h,_=>nomatch h
 |_::_,[],h,_=>nomatch h
 |n::ns,v::vs,h,k=>by
  obtain⟨t,e⟩:=k 0 n rfl;have e:v= .int n t:=by simpa using e
  subst e;exact .cons n t (xU (by simpa using h) λi m hi=>by
   obtain⟨t',e'⟩:=k (i+1) m (by simpa using hi);exact⟨t',by simpa using e'⟩)
def rQ(hc:agH):cR X (.builtin "sorted") (λxs H Q=>∃(p:Addr) (kvs:apo) (ns:aa0),anc/\Rd H p alE/\kvs.map (·.1)=ns.map Sum.inl/\ns.length<64/\
  ∀nr:aa0,nr.Perm ns->nr.Pairwise (· <= ·)->∀l,aqA->Q ahI (aw5 arH)):=by
 intro U s σ H xs us Q I r zz;refine vx zz λp kvs ns e hq hk IQ q=>?_;subst e;refine aa am0 λu ak rx=>?_;subst ak;cases rx;refine kH (wq I hq) λes ep g1 g2 g3 g4 g5=>?_;have aI:kvs.length=ns.length:=by
  have:=congrArg List.length hk;rwa [aad,aad]at this
 have hI:IntsAre (avE (·.key)) ns:=by
  refine xU (by rw[aad,aaG,g2,aI]) λi n hi=>?_;have gM:arB:=by rw[aI];exact(aax.mp hi).1
  refine aa (g5 i kvs[i] (aac gM)) λen e1 e2=>?_;have wz:kvs[i].1 =Sum.inl n:=by
   have:=congrArg (λl:List cD=>l[i]?) hk;simp only[aau,hi,aac gM,adB]at this;exact aaI this
  rw[wz]at e2;obtain⟨t,e3⟩:=e2;exact⟨t,by rw[aau,aaR,e1,<-e3];rfl⟩
 refine uB agY g3 g1 (VP g2 (VP aI IQ)) hI λh1 h' tk out c nr k1 k2 e a1 a2 a3=>?_;have I1:Inv X U σ H {s with heap:=h1,toks:=tk}:=I.kept (t':=tk) k1;have I2:Inv X U σ (upd H h1.objs.size arH) {s with heap:=h',toks:=tk}:=
  I1.laid (t':=tk) k2 ad0 (show aT X.prog X.w _ h' _ arH from⟨by rw[aad,a2.length_eq,sizeLine_eq];exact aaf (aaE IQ) aa2,out.toList,c,jP a1,by simpa using e⟩)
 exact⟨aip,_,I2,rfl,q nr a2 a3 _ ahv⟩
end
end L2
namespace S2
open PySem PySem.SetTable
noncomputable def it(t:ag8):Nat->Probe->Probe
 |0,p=>p
 |k+1,p=>it t k anJ
theorem rR(t:ag8):∀(k:Nat) (p:Probe),it t (k+1) p=t.advance (it t k p)
 |0,_=>rfl
 |k+1,p=>rR t k anJ
theorem gR(t:ag8):∀(k l:Nat) (p:Probe),it t (k+l) p=it t l (it t k p)
 |0,l,p=>by rw[abw];rfl
 |k+1,l,p=>by rw[aaZ];exact gR t k l anJ
def qm(t:ag8)(p:Probe):(t.advance p).dummy =p.dummy:=by
 unfold advance;split<;>rfl
theorem uC(t:ag8):∀(k:Nat) (p:Probe),(it t k p).dummy =p.dummy
 |0,_=>rfl
 |k+1,p=>(uC t k _).trans (qm t p)
def rS{t:ag8}(hd:t.dummies=#[])(j:Nat):t.slot j≠ .dummy :=by
 unfold SetTable.slot;rw[hd];dsimp only;split
 .exact λz=>nomatch z
 .split
  .rename_i z;unfold SetTable.has at z;simp at z
  .exact λz=>nomatch z
noncomputable def Meets(t:ag8)(H:Nat->Int)(h:Int)(p:Probe)(met:Met):Prop:=
 ∃k,(∀l,l<k->∃i,t.slot (it t l p).j = .live i/\H i≠h)/\
  (axe /\met= .empty (it t k p).j p.dummy\/∃i,t.slot (it t k p).j = .live i/\H i=h/\met= .candidate (it t k p).j i (it t (k+1) p))
theorem uD{t:ag8}{H:Nat->Int}{h:Int}(hd:t.dummies=#[]):∀{fuel:Nat}{p:Probe}{k:Nat},k<fuel->axe ->∃met,probe.go t H h fuel p=some met/\Meets t H h p met
 |0,p,k,hk,_=>absurd hk anp
 |fuel+1,p,k,hk,he=>by
  unfold probe.go;cases hs:t.slot p.j with
  |empty=>exact⟨_,rfl,0,λl hl=>aun,.inl ⟨hs,rfl⟩⟩
  |dummy=>exact absurd hs (rS hd _)
  |live i=>
   dsimp only;by_cases hh:H i=h
   .rw[aav (beq_iff_eq.mpr hh)];exact⟨_,rfl,0,λl hl=>aun,.inr ⟨i,hs,hh,rfl⟩⟩
   .rw[aaC λz=>hh (beq_iff_eq.mp z)];cases k with
    |zero=>
     have he:t.slot p.j= .empty :=he;rw[hs]at he;cases he
    |succ k=>
     obtain⟨met,g1,k',g2,g3⟩:=uD (H:=H) (h:=h) hd (aer hk) (show t.slot (it t k anJ).j = .empty from he);refine⟨met,g1,k'+1,λl hl=>?_,?_⟩
     .cases l with
      |zero=>exact⟨i,hs,hh⟩
      |succ l=>exact g2 l (aer hl)
     .rw[qm]at g3;exact g3
noncomputable def Bg(M:Nat)(x:amg):Probe:={j:=x.1,more:=runEnd M x.1-x.1,i:=x.1,perturb:=x.2,dummy:=none}
noncomputable def lp(M:Nat)(x:amg):amg:=leap M x.1 x.2
noncomputable def qp(M:Nat):Nat->amg->Nat×Nat
 |0,x=>x
 |n+1,x=>qp M n (lp M x)
def Lo(M i:Nat):runEnd M i-i<=9:=by
 unfold runEnd;split
 .exact aap (abU ..)
 .rw[agE];exact abk _
theorem wA(t:ag8):∀(l:Nat) (p:Probe),l<=p.more->it t l p={p with j:=p.j+l,more:=p.more-l}
 |0,p,_=>rfl
 |l+1,p,h=>by
  rw[rR,wA t l p (Nat.le_of_succ_le h)];unfold advance;rw[aav aBd];rfl
def mH(t:ag8)(x:amg):it t alv ala=Bg t.mask ay3:=by
 rw[rR,wA t apM ala ad0];unfold advance;rw[aaC (by show¬(runEnd t.mask x.1-x.1-apM>0);rw[agE];exact abo 0)];rfl
theorem Cy(t:ag8):∀(n:Nat) (x:amg),∃s≤10*n,it t s ala=Bg t.mask (qp t.mask n x)
 |0,x=>⟨0,aam _,rfl⟩
 |n+1,x=>by
  obtain⟨s,h1,h2⟩:=Cy t n ay3;refine⟨alv+s,?_,?_⟩
  .rw[Nat.mul_succ,aey];exact afm h1 (acD (Lo _ _))
  .rw[gR,mH,h2];rfl
theorem xV(M:Nat):∀(a b:Nat) (x:amg),qp M (a+b) x=qp M b (qp M a x)
 |0,b,x=>by rw[abw];rfl
 |a+1,b,x=>by rw[aaZ];exact xV M a b (lp M x)
theorem rU(M:Nat):∀(n:Nat) (x:amg),(qp M n x).2 =x.2/32 ^ n
 |0,x=>(Nat.div_one _).symm
 |n+1,x=>by
  show(qp M n (lp M x)).2 =_;rw[rU M n];show x.2/32/32 ^ n=_;rw[Nat.div_div_eq_div_mul,Nat.pow_succ,Nat.mul_comm]
noncomputable def fw(M:Nat):Nat->Nat->Nat
 |0,i=>i
 |n+1,i=>fw M n ((i*5+1)%(M+1))
theorem rV(M:Nat):∀(a b i:Nat),fw M (a+b) i=fw M b (fw M a i)
 |0,b,i=>by rw[abw];rfl
 |a+1,b,i=>by rw[aaZ];exact rV M a b _
theorem wB(M:Nat):∀(n i:Nat),qp M n (i,0)=(fw M n i,0)
 |0,i=>rfl
 |n+1,i=>by
  show qp M n ((i*5+1+0/32)%(M+1),0/32)=_;rw[Nat.zero_div];exact wB M n _
noncomputable def R4(M:Nat):Nat->Nat->Nat->Nat
 |0,_,b=>b
 |n+1,i,b=>R4 M n ((i*5+1)%(M+1)) (b |||2 ^ i)
theorem xW(M j:Nat):∀(n i b:Nat),(R4 M n i b).testBit j=true->b.testBit j=true\/∃k<n,fw M k i=j
 |0,i,b,h=> .inl h
 |n+1,i,b,h=>by
  rcases xW M j n _ _ h with h|⟨k,hk,e⟩
  .rw[Nat.testBit_or,aeX]at h;rcases h with h|h
   .exact .inl h
   .refine .inr ⟨0,acz _,?_⟩;rw[Nat.testBit_two_pow]at h;exact of_decide_eq_true h
  .exact .inr ⟨k+1,Nat.succ_lt_succ hk,e⟩
noncomputable def An(M:Nat):Prop:=M=7\/M=31\/M=127\/M=511\/M=2047
def xX(h:An M):R4 M (M+1) 0 0=2 ^ (M+1)-1/\fw M (M+1) 0=0:=by
 rcases h with rfl|rfl|rfl|rfl|rfl<;>decide +kernel
def IS(h:An M)(hj:j<=M):∃k≤M,fw M k 0=j:=by
 have h1:(R4 M (M+1) 0 0).testBit j=true:=by
  rw[(xX h).1,Nat.testBit_two_pow_sub_one];exact decide_eq_true (abr hj)
 rcases xW M j _ _ _ h1 with z|⟨k,hk,e⟩
 .rw[Nat.zero_testBit]at z;cases z
 .exact⟨k,aaU hk,e⟩
def x_(h:An M)(hi:i<=M)(hj:j<=M):∃k≤M,fw M k i=j:=by
 obtain⟨a,ha,ea⟩:=IS h hi;obtain⟨b,hb,eb⟩:=IS h hj;rcases Nat.le_total a b with z|z
 .obtain⟨d,rfl⟩:=adj z;refine⟨d,aaf (adE ..) hb,?_⟩;rw[<-ea,<-rV];exact eb
 .by_cases e:a=b
  .exact⟨0,abk _,by rw[<-ea,<-eb,e];rfl⟩
  .refine⟨M+1-a+b,?_,?_⟩
   .have:=acB z (abD e);omega
   .rw[<-ea,<-rV,<-acH,acs (afx ha),rV,(xX h).2];exact eb
def ya(h:Int):bits h<2 ^ 64:=by
 unfold bits;have h1:0<=h%(2 ^ 64:Int):=acA _ aa2;have h2:h%(2 ^ 64:Int)<2 ^ 64:=acn _ aa2;omega
def PU(hM:auB)(h:Int)(hj:j<=t.mask):∃k<10*turns t.mask,(it t k (alr h)).j =j:=by
 have e0:t.probeStart h=Bg t.mask (bits h%ahh,ayC):=rfl;obtain⟨s1,a1,a2⟩:=Cy t 13 (bits h%ahh,ayC);have q0:(qp t.mask 13 (bits h%ahh,ayC)).2 =0:=by
  rw[rU];exact Nat.div_eq_of_lt (aah (ya h) aa2)
 have i0:∀n (x:amg),x.1<=t.mask->(qp t.mask n x).1 <=t.mask:=by
  intro n;induction n with
  |zero=>exact λx h=>h
  |succ n ih=>exact λx h=>ih _ awO
 have i1:=i0 13 (bits h%ahh,ayC) awO;obtain⟨k,hk,ek⟩:=x_ hM i1 hj;obtain⟨s2,b1,b2⟩:=Cy t k (qp t.mask 13 (bits h%ahh,ayC));refine⟨s1+s2,?_,?_⟩
 .unfold turns;omega
 .rw[gR,e0,a2,b2];have:qp t.mask 13 (bits h%ahh,ayC)=((qp t.mask 13 (bits h%ahh,ayC)).1,0):=by rw[<-q0]
  rw[this,wB];exact ek
noncomputable def R5(xs:aqa)(j i:Nat):Prop:=i<=xs.size/\(∀k x:Nat,k<i->xs[k]?=some x->x<j)/\∀k x:Nat,i<=k->xs[k]?=some x->j<=x
noncomputable def F'(xs:aqa):Prop:=∀a b x y:Nat,a<b->xs[a]?=some x->xs[b]?=some y->x<y
theorem nU(hr:F' xs):∀(fuel lo hi:Nat),hi-lo<=fuel->lo<=hi->hi<=xs.size->(∀k x,k<lo->xs[k]?=some x->x<j)->(∀k x,hi<=k->xs[k]?=some x->j<=x)->R5 xs j (below.go xs j fuel lo hi)
 |0,lo,hi,h0,h1,h2,a,b=>by
  have e:lo=hi:=by omega
  subst e;exact⟨h2,a,b⟩
 |fuel+1,lo,hi,h0,h1,h2,a,b=>by
  unfold below.go;by_cases hl:lo<hi
  .rw[aav hl];dsimp only;have hm:ay5/2<xs.size:=by omega
   have hg:xs.getD (ay5/2) j=xs[ay5/2]:=by
    unfold Array.getD;rw[dif_pos hm];rfl
   have EM:xs[ay5/2]?=some xs[ay5/2]:=aaB hm;rw[hg];by_cases hx:xs[ay5/2]<j
   .rw[aav hx];refine nU hr fuel _ _ aa1 aa1 h2 (λk x hk e=>?_) b;rcases adx (aaU hk)with z|z
    .exact adi (aBC EM) hx
    .subst z;rw[EM]at e;cases e;exact hx
   .rw[aaC hx];refine nU hr fuel _ _ aa1 aa1 (aaE hm) a (λk x hk e=>?_);rcases adx hk with z|z
    .exact aaf (aaS hx) (aaE (hr _ _ _ _ z EM e))
    .subst z;rw[EM]at e;cases e;exact aaS hx
  .rw[aaC hl];have e:lo=hi:=by omega
   subst e;exact⟨h2,a,b⟩
def k9(hr:F' xs)(j:Nat):R5 xs j aAW:=
 nU hr _ _ _ aa1 ao6 ad0 (λk _ hk=>akA) λk x hk e=>by
  rw[adt hk]at e;cases e
def Cz(hr:F' xs)(h:xs[i]?=some j):below xs j=i:=by
 obtain⟨c1,c2,c3⟩:=k9 hr j;rcases acu aAW i with z|z|z
 .have hb:below xs j<xs.size:=adi z (abL.mp h).1;have e:=aaB hb;exact absurd (aBC h) (acS (c3 _ _ ad0 e))
 .exact z
 .exact absurd (c2 _ _ z h) amK
structure Pl(t:ag8):Prop where
 nd:t.dummies=#[]
 ri:F' t.place
 le:∀(i j:Nat),t.place[i]?=some j->j<=t.mask
 ms:An t.mask
theorem Pl.live(h:Pl t):t.slot j= .live i↔t.place[i]?=some j:=by
 unfold SetTable.slot;dsimp only;constructor
 .intro z;by_cases e:(t.place[below t.place j]? == some j)=true
  .rw[aav e]at z;cases z;exact eq_of_beq e
  .rw[aaC e]at z;split at z<;>cases z
 .intro z;rw[Cz h.ri z,aav (by rw[z];exact beq_self_eq_true _)]
theorem Pl.empty(h:Pl t):t.slot j= .empty ↔ ∀i:Nat,t.place[i]?≠some j:=by
 constructor
 .intro z i e;rw[h.live.mpr e]at z;cases z
 .intro z;cases e:t.slot j with
  |empty=>rfl
  |dummy=>exact absurd e (rS h.nd j)
  |live i=>exact absurd (h.live.mp e) (z i)
def Pl.Wn(h:Pl t):t.slot j≠ .empty ↔ ∃i:Nat,t.place[i]?=some j:=by
 constructor
 .intro z;cases e:t.slot j with
  |empty=>exact absurd e z
  |dummy=>exact absurd e (rS h.nd j)
  |live i=>exact⟨i,h.live.mp e⟩
 .rintro⟨i,e⟩ z;exact h.empty.mp z i e
def Pl.free(h:Pl t)(hs:t.place.size<=t.mask):∃j≤t.mask,t.slot j= .empty :=by
 refine NK λnO=>?_;have al:∀j≤t.mask,∃i:Nat,t.place[i]?=some j:=λj hj=>h.Wn.mp λz=>nO ⟨j,hj,z⟩;have mono:∀k,k<=t.mask->∃i:Nat,k<=i/\t.place[i]?=some k:=by
  intro k;induction k with
  |zero=>intro hk;obtain⟨i,e⟩:=al 0 hk;exact⟨i,abk _,e⟩
  |succ k ih=>
   intro hk;obtain⟨i,h1,h2⟩:=ih (Nat.le_of_succ_le hk);obtain⟨i',e⟩:=al (k+1) hk;refine⟨i',?_,e⟩;rcases acu i i' with z|z|z
   .omega
   .subst z;rw[h2]at e;cases e
   .have:=h.ri _ _ _ _ z e h2;omega
 obtain⟨i,h1,h2⟩:=mono t.mask ad0;have:=(abL.mp h2).1;omega
noncomputable def At(t:ag8)(h:Int)(k:Nat):Nat:=(it t k (alr h)).j
theorem yb(e:t.mask=t'.mask):∀(k:Nat) (p:Probe),it t k p=it t' k p
 |0,_=>rfl
 |k+1,p=>by
  have:t.advance p=t'.advance p:=by unfold advance;rw[e]
  show it t k anJ=it t' k (t'.advance p);rw[this];exact yb e k _
def rW(e:t.mask=t'.mask)(h:Int)(k:Nat):At t h k=At t' h k:=by
 have:t.probeStart h=t'.probeStart h:=by unfold probeStart;rw[e]
 unfold At;rw[yb e,this]
noncomputable def EN(t:ag8)(P:ahj)(j:Nat)(h:Int):Prop:=∃k,At t h k=j/\∀l,l<k->At t h l∈P
structure Tb(t:ag8)(hs:aa0):Prop where
 pl:Pl t
 sz:t.place.size=hs.length
 rc:∀x∈t.place.toList.zip hs,EN t t.place.toList x.1 x.2
def fL{t:ag8}{j:Nat}:j∈t.place.toList↔ ∃i:Nat,t.place[i]?=some j:=by
 rw[ach];simp only[aaR]
def Pl.Ga{t:ag8}(h:Pl t){j:Nat}:t.slot j≠ .empty ↔j∈t.place.toList:=h.Wn.trans fL.symm
def Pl.first(h:Pl t)(hs:t.place.size<=t.mask)(x:Int):∃K<10*turns t.mask,At t x K∉t.place.toList/\∀l,l<K->alR:=by
 obtain⟨j,hj,hf⟩:=h.free hs;obtain⟨k,hk,e⟩:=PU h.ms x hj;have ex:∃n,At t x n∉t.place.toList:=⟨k,λz=>h.Ga.mpr z (by rw[show At t x k=j from e];exact hf)⟩;have least:∀n,At t x n∉t.place.toList->∃K≤n,At t x K∉t.place.toList/\∀l,l<K->alR:=by
  intro n;induction n using Nat.strongRecOn with
  |ind n ih=>
   intro hn;by_cases z:∃l,l<n/\At t x l∉t.place.toList
   .obtain⟨l,h1,h2⟩:=z;obtain⟨K,k1,k2⟩:=ih l h1 h2;exact⟨K,aaf k1 (aaE h1),k2⟩
   .exact⟨n,aam _,hn,λl hl=>abM λnz=>z ⟨l,hl,nz⟩⟩
 obtain⟨K,k1,k2⟩:=least k (λz=>h.Ga.mpr z (by rw[show At t x k=j from e];exact hf));exact⟨K,aaO k1 hk,k2⟩
def Pl.step{t:ag8}(hp:Pl t){H:Nat->Int}{x:Int}{K k0:Nat}(hK:K<10*turns t.mask)(k1:At t x K∉t.place.toList)(k2:∀l,l<K->alR)(hk:k0<=K):
  ∃met,t.probe H x aud=some met/\
   ((∀l,k0<=l->l<K->∀i:Nat,t.place[i]?=some (At t x l)->H i≠x)/\met= .empty akv none\/
    ∃k i,k0<=k/\k<K/\(∀l,k0<=l->l<k->∀i:Nat,t.place[i]?=some (At t x l)->H i≠x)/\t.place[i]?=some aou/\H i=x/\met= .candidate aou i (it t (k+1) (alr x))):=by
 have e:∀l,(it t l aud).j =At t x (k0+l):=λl=>by unfold At;rw[gR]
 have em:t.slot (it t (K-k0) aud).j = .empty :=by
  rw[e,acs hk];exact abM λz=>k1 (hp.Ga.mp z)
 obtain⟨met,g1,k,g2,g3⟩:=uD (H:=H) (h:=x) hp.nd (fuel:=10*turns t.mask) (p:=it t k0 (alr x)) (k:=K-k0) (aaO (agf ..) hK) em;refine⟨met,g1,?_⟩;have Ur:∀l,k0<=l->l<k0+k->∀i:Nat,t.place[i]?=some (At t x l)->H i≠x:=λl h1 h2 i hi=>by
  obtain⟨i',a1,a2⟩:=g2 (l-k0) aa1;rw[e,acs h1]at a1;have:=hp.live.mp a1;have h1:=hp.live.mpr hi;rw[a1]at h1;cases h1;exact a2
 rcases g3 with⟨a1,a2⟩|⟨i,a1,a2,a3⟩
 .rw[e]at a1 a2;have wz:k0+k=K:=by
   rcases acu (k0+k) K with z|z|z
   .exact absurd a1 (hp.Ga.mpr (k2 _ z))
   .exact z
   .obtain⟨i',b1,_⟩:=g2 (K-k0) aa1;rw[em]at b1;cases b1
  rw[wz]at Ur a2;refine .inl ⟨Ur,?_⟩;rw[a2,uC];rfl
 .rw[e]at a1 a3;rw[<-gR]at a3;refine .inr ⟨k0+k,i,aba ..,?_,Ur,hp.live.mp a1,a2,a3⟩;rcases acu (k0+k) K with z|z|z
  .exact z
  .rw[z]at a1;exact absurd (fL.mpr ⟨i,hp.live.mp a1⟩) k1
  .obtain⟨i',b1,_⟩:=g2 (K-k0) aa1;rw[em]at b1;cases b1
def Tb.met{t:ag8}{hs:aa0}(h:Tb t hs){x:Int}{K:Nat}(k1:At t x K∉t.place.toList){i:Nat}(hi:hs[i]?=some x):∃k<K,t.place[i]?=some aou:=by
 have hl:=(aax.mp hi).1;have hp:t.place[i]?=some (t.place[i]'(by rw[h.sz];exact hl)):=aaB _;have hz:(t.place.toList.zip hs)[i]?=some (t.place[i]'(by rw[h.sz];exact hl),x):=by
  rw[afn];exact⟨by rw[aaR];exact hp,hi⟩
 obtain⟨k,e,b⟩:=h.rc _ (abd hz);have e:At t x k=t.place[i]'(by rw[h.sz];exact hl):=e;refine⟨k,?_,by rw[e];exact hp⟩;rcases acu k K with z|z|z
 .exact z
 .subst z;exact absurd (by rw[e];exact fL.mpr ⟨i,hp⟩) k1
 .exact absurd (b K z) k1
noncomputable def dz(l:agM)(p:Nat)(x:α):agM:=l.take p++x::l.drop p
def j5:y∈dz l p x↔y=x\/y∈l:=by
 unfold dz;rw[aay,aat];constructor
 .rintro (z|z|z)
  .exact .inr (acG z)
  .exact .inl z
  .exact .inr (acF z)
 .rintro (z|z)
  .exact .inr aCV
  .rw[<-abR p l,aay]at z;exact z.elim .inl λz=> .inr (amY z)
def gS:(dz l p x).length =l.length+1:=by
 unfold dz;rw[aan,aaF,<-acH,<-aan,abR]
def CA:∀{l:agM}{m:aoK}{p:Nat}{x:α}{y:β},l.length=m.length->(dz l p x).zip (dz m p y)=dz (l.zip m) p (x,y):=by
 intro l m p x y h;unfold dz;rw[List.zip_append (by rw[abS,abS,h]),aed];have e1:∀(p:Nat) (l:agM) (m:aoK),(l.take p).zip (m.take p)=(l.zip m).take p:=by
  intro p;induction p with
  |zero=>intro l m;rfl
  |succ p ih=>
   intro l m;cases l with
   |nil=>rfl
   |cons a l=>cases m with
    |nil=>rfl
    |cons b m=>exact congrArg ((a,b):: ·) (ih l m)
 have e2:∀(p:Nat) (l:agM) (m:aoK),(l.drop p).zip (m.drop p)=(l.zip m).drop p:=by
  intro p;induction p with
  |zero=>intro l m;rfl
  |succ p ih=>
   intro l m;cases l with
   |nil=>rfl
   |cons a l=>cases m with
    |nil=>exact agy
    |cons b m=>exact ih l m
 rw[e1,e2]
def cK(xs:Array α)(p:Nat)(x:α):(insertAt xs p x).toList =dz xs.toList p x:=by
 rw[SetTable.toList_insertAt];rfl
def rX:F' xs↔xs.toList.Pairwise (· < ·):=by
 rw[acb];constructor
 .intro h i j hi hj BX;exact h i j _ _ BX (by rw[<-aaR];exact aac hi) (by rw[<-aaR];exact aac hj)
 .intro h a b x y qq ha hb;rw[<-aaR]at ha hb;obtain⟨h1,e1⟩:=aax.mp ha;obtain⟨h2,e2⟩:=aax.mp hb;rw[<-e1,<-e2];exact h a b h1 h2 qq
def Gb(h:F' xs)(hn:j∉xs.toList):F' (insertAt xs aAW j):=by
 obtain⟨c1,c2,c3⟩:=k9 h j;rw[rX,cK];have hp:=rX.mp h;unfold dz;rw[aaX];refine⟨hp.sublist (abV ..),?_,λa ha b hb=>?_⟩
 .rw[abH];refine⟨λb hb=>?_,hp.sublist (abO ..)⟩;obtain⟨k,hk⟩:=ach.mp hb;rw[aej,aaR]at hk;refine acB (c3 _ _ (aba ..) hk) λz=>hn ?_;rw[z];exact acF hb
 .have la:a<j:=by
   obtain⟨k,hk⟩:=ach.mp ha;rw[adw]at hk;split at hk
   .rename_i wz;rw[aaR]at hk;exact c2 _ _ wz hk
   .cases hk
  rcases aat.mp hb with z|z
  .rw[z];exact la
  .obtain⟨k,hk⟩:=ach.mp z;rw[aej,aaR]at hk;exact aah la (c3 _ _ (aba ..) hk)
def Lp{t:ag8}(hd:t.dummies=#[])(j:Nat):t.put j=({t with place:=insertAt t.place (below t.place j) j},below t.place j):=by
 unfold SetTable.put;have:SetTable.has t.dummies j=false:=by
  rw[hd];unfold SetTable.has;simp
 dsimp only;rw[this,aaC aai]
def Tb.put(h:Tb t hs)(k1:At t x K∉t.place.toList)(k2:∀l,l<K->alR)(hj:At t x K<=t.mask):
  Tb {t with place:=insertAt t.place aCO akv} (dz hs aCO x):=by
 generalize hb:below t.place akv=p;have e:∀(y:Int) (k:Nat),At {t with place:=insertAt t.place p akv} y k=At t y k:=λy k=>rW (t:={t with place:=insertAt t.place p akv}) (t':=t) rfl y k;refine⟨⟨h.pl.nd,by rw[<-hb];exact Gb h.pl.ri k1,λi j z=>?_,h.pl.ms⟩,?_,λy hy=>?_⟩
 .have:atg :=fL (t:={t with place:=insertAt t.place p akv}) |>.mpr ⟨i,z⟩;rw[cK,j5]at this;rcases this with z|z
  .rw[z];exact hj
  .obtain⟨i',q⟩:=fL.mp z;exact h.pl.le _ _ q
 .show(insertAt t.place p akv).size =_;rw[<-aaG,cK,gS,gS,aaG,h.sz]
 .have hy:y∈(insertAt t.place p akv).toList.zip (dz hs p x):=hy;rw[cK,CA (by rw[aaG];exact h.sz),j5]at hy;have sub:∀j∈t.place.toList,atg :=λj z=>by rw[cK,j5];exact .inr z
  rcases hy with rfl|hy
  .exact⟨K,e x K,λl hl=>by rw[e];exact sub _ (k2 l hl)⟩
  .obtain⟨k,a,b⟩:=h.rc y hy;exact⟨k,(e _ _).trans a,λl hl=>by rw[e];exact sub _ (b l hl)⟩
def IT(hM:auB)(x:Int)(k:Nat):At t x k<=t.mask:=by
 have key:∀(k:Nat) (p:Probe),p.i<=t.mask->p.j+p.more<=t.mask->(it t k p).j <=t.mask:=by
  intro k;induction k with
  |zero=>intro p _ h;exact aaf (aba ..) h
  |succ k ih=>
   intro p hi h;refine ih anJ ?_ ?_
   .unfold advance;split
    .exact hi
    .exact aaU akR
   .unfold advance;split
    .show p.j+1+(p.more-1)<=t.mask;omega
    .show((p.i*5+1+p.perturb/32)%ahh)+(runEnd t.mask ((p.i*5+1+p.perturb/32)%ahh)-((p.i*5+1+p.perturb/32)%ahh))<=t.mask;have:=adK (p.i*5+1+p.perturb/32) (show 0<t.mask+1 from acz t.mask);unfold runEnd;split<;>omega
 refine key k _ awO ?_;show bits x%ahh+(runEnd t.mask (bits x%ahh)-bits x%ahh)<=t.mask;have:=adK ayB (show 0<t.mask+1 from acz t.mask);unfold runEnd;split<;>omega
noncomputable def Bh(ow:arU)(j:Nat):Prop:=∃i:Nat,ow[j]?=some ap3
def j6(h:j<ow.size):(ow.getD j (ajU 0)).isNone =true↔ ¬Bh ow j:=by
 have e:ow.getD j (ajU 0)=ow[j]:=by
  unfold Array.getD;rw[dif_pos h];rfl
 rw[e];unfold Bh;rw[aaB h];cases ow[j]with
 |none=>exact Iff.intro (λ_ w=>w.elim λi z=>nomatch z) λ_=>rfl
 |some i=>exact Iff.intro (λz=>nomatch z) λz=>absurd ⟨i,rfl⟩ z
def yc(h:i<=M):i<=runEnd M i/\runEnd M i<=M:=by
 unfold runEnd;split<;>omega
def Gd(t:ag8)(hsz:ow.size=t.mask+1):∀(n fuel:Nat) (x:amg),n<fuel->x.1<=t.mask->¬Bh ow (qp t.mask n x).1 ->
  ∃k,layClean.free t.mask ow fuel x.1 x.2=some (it t k ala).j /\¬Bh ow (it t k ala).j /\∀l,l<k->Bh ow (it t l ala).j :=by
 intro n;induction n with
 |zero=>
  intro fuel x hf hx hn;obtain⟨fuel,rfl⟩:∃f,fuel=f+1:=⟨fuel-1,by omega⟩;have hr:=yc hx;unfold layClean.free;have:(List.range axH).find? (λk=>ava)=some 0:=by
   rw[show runEnd t.mask x.1+1-x.1=apM+1 by omega,afV,List.find?_cons_of_pos];exact(j6 aa1).mpr hn
  rw[this];exact⟨0,rfl,hn,λl hl=>aun⟩
 |succ n ih=>
  intro fuel x hf hx hn;obtain⟨fuel,rfl⟩:∃f,fuel=f+1:=⟨fuel-1,by omega⟩;have hr:=yc hx;have hj:∀l,l<=runEnd t.mask x.1-x.1->(it t l ala).j =x.1+l:=λl hl=>by rw[wA t l ala hl];rfl
  unfold layClean.free;cases hq:(List.range axH).find? (λk=>ava)with
  |some k=>
   obtain⟨h1,h2,h3⟩:=List.find?_range_eq_some.mp hq;have hk:=aaY.mp h2;refine⟨k,by rw[hj k aa1],?_,λl hl=>?_⟩
   .rw[hj k aa1];exact(j6 aa1).mp h1
   .rw[hj l aa1];refine abM λz=>?_;have:=(j6 (ow:=ow) (j:=x.1+l) aa1).mpr z;have h:=h3 l hl;rw[this]at h;cases h
  |none=>
   have h0:=agB.mp hq;obtain⟨k,a1,a2,a3⟩:=ih fuel ay3 aa1 awO hn;refine⟨alv+k,?_,?_,λl hl=>?_⟩
   .rw[gR,mH];exact a1
   .rw[gR,mH];exact a2
   .rcases abq l alv with z|z
    .rw[hj l aa1];exact abM λnz=>h0 l (aaY.mpr aa1) ((j6 aa1).mpr nz)
    .obtain⟨d,rfl⟩:=adj z;rw[gR,mH];exact a3 d aa1
def Lq(hM:An M)(q:Nat)(hq:q<2 ^ 64)(hi:i<=M)(hj:j<=M):∃n<turns M,(qp M n (i,q)).1 =j:=by
 have q0:(qp M 13 (i,q)).2 =0:=by
  rw[rU];exact Nat.div_eq_of_lt (aah hq aa2)
 have i0:∀n (x:amg),x.1<=M->(qp M n x).1 <=M:=by
  intro n;induction n with
  |zero=>exact λx h=>h
  |succ n ih=>exact λx h=>ih _ awO
 obtain⟨k,hk,ek⟩:=x_ hM (i0 13 (i,q) hi) hj;refine⟨13+k,by unfold turns;omega,?_⟩;rw[xV];have:qp M 13 (i,q)=((qp M 13 (i,q)).1,0):=by rw[<-q0]
 rw[this,wB];exact ek
structure Ow(t:ag8)(ow:arU)(hs:aa0):Prop where
 sz:ow.size=t.mask+1
 lt:∀i j:Nat,ow[j]?=some ap3->i<hs.length
 ex:∀i,i<hs.length->∃j:Nat,ow[j]?=some ap3
 un:∀i j j':Nat,ow[j]?=some ap3->ow[j']?=some ap3->j=j'
 rc:∀(i j:Nat) (h:Int),ow[j]?=some ap3->hs[i]?=some h->∃k,At t h k=j/\∀l,l<k->Bh ow (At t h l)
def Ow.more(o:aAl)(hM:auB)(hf:∃j≤t.mask,¬Bh ow j)(x:Int):
  ∃j,layClean.free t.mask ow axF (bits x%ahh) ayB=some j/\Ow t az7 (hs++[x]):=by
 obtain⟨j0,YN,hn⟩:=hf;have hi:bits x%ahh<=t.mask:=aaU akR;obtain⟨n,h1,h2⟩:=Lq hM ayB (ya x) hi YN;obtain⟨k,a1,a2,a3⟩:=Gd t o.sz n axF (bits x%ahh,ayB) h1 hi (by rw[h2];exact hn);have e:∀l,(it t l (Bg t.mask (bits x%ahh,ayB))).j =At t x l:=λ_=>rfl;rw[e]at a1 a2;refine⟨_,a1,?_⟩;have bj:At t x k<ow.size:=by rw[o.sz];exact abr (IT hM x k)
 have self:(ow.setIfInBounds aou akQ)[At t x k]?=some akQ:=by
  rw[Array.getElem?_setIfInBounds_self,aav bj]
 have Us:∀j,j≠At t x k->(ow.setIfInBounds aou akQ)[j]?=ow[j]?:=λj z=>Array.getElem?_setIfInBounds_ne (abD z);have inv:∀(i j:Nat),(ow.setIfInBounds aou akQ)[j]?=some ap3->j=At t x k/\i=hs.length\/j≠At t x k/\ow[j]?=some ap3:=λi j z=>by
  by_cases q:j=At t x k
  .subst q;rw[self]at z;cases z;exact .inl ⟨rfl,rfl⟩
  .rw[Us j q]at z;exact .inr ⟨q,z⟩
 have mono:∀j,Bh ow j->Bh (ow.setIfInBounds aou akQ) j:=λj ⟨i,z⟩=>by
  by_cases q:j=At t x k
  .subst q;exact absurd ⟨i,z⟩ a2
  .exact⟨i,by rw[Us j q];exact z⟩
 refine⟨by rw[afu];exact o.sz,λi j z=>?_,λi hi=>?_,λi j j' z z'=>?_,λi j h z hh=>?_⟩
 .rw[aan];rcases inv i j z with⟨_,rfl⟩|⟨_,z⟩
  .exact abT _
  .exact acg (o.lt i j z)
 .rw[aan]at hi;rcases adx (aaU hi)with z|z
  .obtain⟨j,e⟩:=o.ex i z;refine⟨j,?_⟩;rw[Us j λq=>a2 ⟨i,q▸e⟩];exact e
  .exact⟨aou,by rw[self,z]⟩
 .rcases inv i j z with⟨p,q⟩|⟨p,q⟩
  .rcases inv i j' z' with⟨p',_⟩|⟨_,q'⟩
   .rw[p,p']
   .exact absurd (o.lt _ _ q') (by rw[q];exact abo _)
  .rcases inv i j' z' with⟨_,q'⟩|⟨_,q'⟩
   .exact absurd (o.lt _ _ q) (by rw[q'];exact abo _)
   .exact o.un i j j' q q'
 .rcases inv i j z with⟨rfl,rfl⟩|⟨p,q⟩
  .rw[abt ad0,agE]at hh;cases hh;exact⟨k,rfl,λl hl=>mono _ (by rw[<-e];exact a3 l hl)⟩
  .rw[abp (o.lt i j q)]at hh;obtain⟨k',b1,b2⟩:=o.rc i j h q hh;exact⟨k',b1,λl hl=>mono _ (b2 l hl)⟩
theorem Wo:∀(n:Nat) (l:ahj),atf->(∀x∈l,x<n)->l.length<=n
 |0,l,_,h=>by
  cases l with
  |nil=>exact aam _
  |cons x l=>exact absurd aAN anp
 |n+1,l,hn,h=>by
  have:=Wo n (l.erase n) (hn.erase n) λx hx=>by
   have:=(hn.mem_erase_iff).mp hx;exact acB (aaU (h x this.2)) this.1
  rw[List.length_erase]at this;split at this<;>omega
noncomputable def Ut:Option aha->Nat
 |some (some i)=>i
 |_=>0
def Ow.room(o:aAl)(hl:avl):∃j≤t.mask,¬Bh ow j:=by
 refine NK λnO=>?_;have al:∀j,j<=t.mask->Bh ow j:=λj hj=>abM λz=>nO ⟨j,hj,z⟩;have:=Wo hs.length ((List.range ahh).map λj=>Ut ow[j]?) (by
  rw[abu,abx];refine afP.imp_of_mem λ{a b} ha hb qq z=>?_;obtain⟨i,e⟩:=al a (aaU (aaY.mp ha));obtain⟨i',e'⟩:=al b (aaU (aaY.mp hb));rw[e,e']at z;have z:i=i':=z;subst z;exact qq (o.un _ _ _ e e')) (λx hx=>by
  obtain⟨j,hj,rfl⟩:=aao.mp hx;obtain⟨i,e⟩:=al j (aaU axZ);rw[e];exact o.lt _ _ e)
 rw[aad,ade]at this;omega
noncomputable def Ge(M:Nat)(acc:aBc)(h:Int):aBc:=do
 let (owner,k)<-acc
 let j<-layClean.free M owner (turns M) (bits h%(M+1)) ayC
 pure (owner.setIfInBounds j (ajU k),k+1)
theorem uE(hM:auB):∀(vA hs:aa0) (ow:arU),aAl->hs.length+vA.length<=t.mask->∃kL,List.foldl aDp aBU vA=some (kL,(hs++vA).length)/\Ow t kL (hs++vA)
 |[],hs,ow,o,_=>⟨ow,by rw[abf];rfl,by rw[abf];exact o⟩
 |x::vA,hs,ow,o,hl=>by
  rw[aaF]at hl;obtain⟨j,h1,h2⟩:=o.more hM (o.room aa1) x;obtain⟨kL,h3,h4⟩:=uE hM vA (hs++[x]) _ h2 (by rw[aan];show hs.length+1+vA.length<=_;omega);rw[aaL]at h3 h4;refine⟨kL,?_,h4⟩;rw[aeh];have:Ge t.mask aBU x=some (az7,(hs++[x]).length):=by
   show(layClean.free t.mask ow axF (bits x%ahh) ayB).bind _=_;rw[h1,aan];rfl
  rw[this];exact h3
def CB(hM:auB)(hs:aa0)(hl:avl):∃ow,atO/\aAl:=by
 have o0:Ow t apE []:=by
  have no:∀i j:Nat,(Array.replicate ahh (none:aha))[j]?≠some ap3:=λi j z=>by
   rw[Array.getElem?_replicate]at z;split at z<;>cases z
  exact⟨Array.size_replicate,λi j z=>avs,λi hi=>absurd hi anp,λi j _ z=>avs,λi j _ z=>avs⟩
 obtain⟨ow,h1,h2⟩:=uE hM hs [] _ o0 (by rw[acL,abw];exact hl);refine⟨ow,?_,h2⟩;show(Array.foldl aDp (ajU (apE,0)) hs.toArray).map _=_;rw[List.foldl_toArray];have h1:List.foldl aDp (ajU (apE,0)) hs=_:=h1;rw[h1];rfl
noncomputable def cG(M:Nat)(ow:arU):List amg:=(List.range (M+1)).filterMap λj=>(ow.getD j none).map (j,·)
def getD_none{ow:arU}{j i:Nat}:ow.getD j none=some i↔ow[j]?=some ap3:=by
 unfold Array.getD;split
 .rename_i h;rw[aaB h];exact⟨λz=>congrArg some z,λz=>aaI z⟩
 .rename_i h;rw[adt (aaS h)];exact Iff.intro (λz=>nomatch z) (λz=>nomatch z)
def dX{M:Nat}{ow:arU}(hs:ow.size=M+1){x:amg}:x∈cG M ow↔ow[x.1]?=some (ajU x.2):=by
 unfold cG;rw[afd];constructor
 .rintro⟨j,hj,e⟩;obtain⟨i,e1,e2⟩:=abY.mp e;subst e2;exact getD_none.mp e1
 .intro h;have hl:=(abL.mp h).1;exact⟨x.1,aaY.mpr (by rw[<-hs];exact hl),by rw[getD_none.mpr h];rfl⟩
def qr(M:Nat)(ow:arU):(cG M ow).Pairwise λx y=>x.1<y.1:=by
 unfold cG;refine List.Pairwise.filterMap _ (R:=(· < ·)) (λa a' h b hb b' iY=>?_) aes;obtain⟨i,_,e⟩:=abY.mp hb;obtain⟨i',_,e'⟩:=abY.mp iY;rw[<-e,<-e'];exact h
def Gf(t:ag8)(hs:aa0)(h:atO)(finger moves:Nat)(led plain:Bool):
  laid t.mask finger moves led plain hs.toArray=some ({mask:=t.mask,place:=((cG t.mask ow).map (·.1)).toArray,dummies:=#[],finger,led,moves,plain},((cG t.mask ow).map (·.2)).toArray):=by
 unfold laid;rw[h];rfl
def Gg{t:ag8}(hM:auB)(hs:aa0)(hl:avl)(finger moves:Nat)(led plain:Bool):
  ∃(pl:aqa) (order:ahj),laid t.mask finger moves led plain hs.toArray=some ({mask:=t.mask,place:=pl,dummies:=#[],finger,led,moves,plain},order.toArray)/\
   order.Perm (List.range hs.length)/\Tb {mask:=t.mask,place:=pl,dummies:=#[],finger,led,moves,plain} (order.map λi=>hs.getD i 0):=by
 obtain⟨ow,h1,o⟩:=CB hM hs hl;refine⟨_,_,Gf t hs h1 finger moves led plain,?_,?_⟩
 .have nd:((cG t.mask ow).map (·.2)).Nodup :=by
   rw[abu,abx];refine(qr t.mask ow).imp_of_mem λ{a b} ha hb qq z=>?_;have e1:=(dX o.sz).mp ha;have e2:=(dX o.sz).mp hb;rw[<-z]at e2;exact absurd (o.un _ _ _ e1 e2) (aaJ qq)
  rw[acR nd afP];intro i;rw[aaY,aao];constructor
  .rintro⟨x,hx,rfl⟩;exact o.lt _ _ ((dX o.sz).mp hx)
  .intro hi;obtain⟨j,e⟩:=o.ex i hi;exact⟨(j,i),(dX o.sz).mpr e,rfl⟩
 .have Uu:∀j,Bh ow j->j∈(cG t.mask ow).map (·.1):=λj ⟨i,e⟩=>aao.mpr ⟨(j,i),(dX o.sz).mpr e,rfl⟩;refine⟨⟨rfl,?_,λi j z=>?_,hM⟩,?_,λy hy=>?_⟩
  .rw[rX];show(((cG t.mask ow).map (·.1)).toArray.toList).Pairwise _;rw[abx];exact qr t.mask ow
  .have z:((cG t.mask ow).map (·.1)).toArray[i]?=some j:=z;rw[List.getElem?_toArray]at z;obtain⟨x,hx,rfl⟩:=aao.mp (abd z);have:=(abL.mp ((dX o.sz).mp hx)).1;rw[o.sz]at this;exact aaU this
  .show((cG t.mask ow).map (·.1)).toArray.size =_;rw[aaq,aad,aad,aad]
  .have hy:y∈((cG t.mask ow).map (·.1)).zip (((cG t.mask ow).map (·.2)).map λi=>hs.getD i 0):=hy;rw[aaV,List.zip_map']at hy;obtain⟨x,hx,rfl⟩:=aao.mp hy;have e:=(dX o.sz).mp hx;have bj:=o.lt _ _ e;obtain⟨k,a,b⟩:=o.rc x.2 x.1 (hs.getD x.2 0) e (by rw[aar,aac bj];rfl);refine⟨k,?_,λl hl=>?_⟩
   .exact(rW (t:={mask:=t.mask,place:=((cG t.mask ow).map (·.1)).toArray,dummies:=#[],finger,led,moves,plain}) (t':=t) rfl _ _).trans a
   .have:=Uu _ (b l hl);rw[<-rW (t:={mask:=t.mask,place:=((cG t.mask ow).map (·.1)).toArray,dummies:=#[],finger,led,moves,plain}) (t':=t) rfl]at this;exact this
def Uv(hM:An M)(h1:M*3<=n*5)(h2:(n-1)*5<M*3)(hn:n<=720):An (sizeAbove aAO-1)/\n*5<(sizeAbove aAO-1)*3/\n<=sizeAbove aAO-1/\sizeAbove aAO<=16777216:=by
 rcases hM with rfl|rfl|rfl|rfl|rfl
 .have:n=5:=by omega
  subst this;exact⟨.inr (akf ab3),by decide +kernel,by decide +kernel,by decide +kernel⟩
 .have:n=19:=by omega
  subst this;exact⟨.inr (amY (akf ab3)),by decide +kernel,by decide +kernel,by decide +kernel⟩
 .have:n=77:=by omega
  subst this;exact⟨.inr (amY (.inr (akf ab3))),by decide +kernel,by decide +kernel,by decide +kernel⟩
 .have:n=307:=by omega
  subst this;exact⟨.inr (amY (.inr (.inr ab3))),by decide +kernel,by decide +kernel,by decide +kernel⟩
 .omega
end S2
namespace S2
open PySem PySem.Spec PyProof.Rows
section
variable {prog:ad2}{w:World}{A:ag0}{E:Value->Shared->Prop}{s:ab_}{c:Addr}{ks:aa0}
noncomputable abbrev IsT(prog:ad2)(w:World)(h:Heap)(ks:aa0)(c:Addr):Prop:=IsTupleKey ahE h ks c
def ItemsAre.ints(h:ItemsAre ahE ks vs):∀v∈vs,∃k t,v= .int k t:=by
 induction h with
 |nil=>intro v hv;cases hv
 |@cons k v' ks vs h1 _ ih=>
  intro v hv;rcases aat.mp hv with rfl|hv
  .have:axr:=h1;cases v with
   |int j t=>exact⟨j,t,rfl⟩
   |_=>cases this
  .exact ih v hv
def all_ints{α:Type}{items:agI}{f:Value->Option α×Unit->Sem (ForInStep (Option α×Unit))}{Q:Option α×Unit->Shared->Prop}(hi:ItemsAre ahE ks items.toList)(hf:∀k t r,f (apa k) r=pure (.yield (none,())))(h:Q (none,()) s):wpAny aa4 A (forIn items (none,()) f) Q E s:=by
 rw[<-Array.forIn_toList];refine afL _ (λba r s'=>r.1=none/\s'=s/\∀v∈ba,∃k t,v=Value.int k t) _ ?_ ?_ _ _ ⟨rfl,rfl,ItemsAre.ints hi⟩
 .rintro v ba r s' ⟨hr,rfl,ma⟩;obtain⟨k,t,rfl⟩:=ma v aal;rw[hf];exact aaj ⟨rfl,rfl,λu qk=>ma u (ake qk)⟩
 .rintro⟨r1,r2⟩ s' ⟨hr,rfl,_⟩;simp only at hr;subst hr;exact h
def Aq{Q:Bool->Shared->Prop}(hk:aB0)(h:Q true s):wpAny aa4 A (hashByValue 8 aod) Q E s:=by
 have hT:=hk.typeIs;obtain⟨o,items,n,ho,_,hd,hi⟩:=hk;unfold hashByValue;refine aaa (aef hT F.slot_tuple_hash.lookup ?_);exact aaa (adp ho hd (aaa (all_ints hi (λ_ _ _=>rfl) aC2)))
def qt{Q:Bool->Shared->Prop}(hk:aB0)(h:Q false s):wpAny aa4 A (ofAClassStatement 8 aod) Q E s:=by
 have hT:=hk.typeIs;obtain⟨o,items,n,ho,_,hd,hi⟩:=hk;unfold ofAClassStatement;refine aaa (adA hT (aaa (aaj ?_)));exact aaa (adp ho hd (aaa (all_ints hi (λ_ _ _=>rfl) aC2)))
end
section
variable {prog:ad2}{w:World}{B:Addr->Prop}{A:ag0}{E:Value->Shared->Prop}{s:ab_}{a c:Addr}{x:aa0}{xs:ahP}{t:ag8}{o:Obj}{ep:Nat}
noncomputable abbrev ji(prog:ad2)(w:World)(k:aa0):Int:=(tupleKind ahE).hash k
noncomputable def R6(prog:ad2)(w:World)(x:Addr×List Int):Int×Value:=(akn,.ref x.1)
noncomputable abbrev arr(prog:ad2)(w:World)(xs:ahP):ahW:=(xs.map awP).toArray
structure pP(prog:ad2)(w:World)(t:ag8)(xs:ahP):Prop where
 tb:Tb t (xs.map λx=>akn)
 fl:xs.length*5<t.mask*3
 nd:(xs.map (·.2)).Nodup
def df:(arr prog w xs).size =xs.length:=by simp
def mI{i:Nat}:(arr prog w xs)[i]?=(xs[i]?).map awP:=by simp
def ye(nd:t.dummies=#[])(hs:aBK)(hl:avb):t.fits (arr prog w xs).size =true:=by
 unfold SetTable.fits SetTable.fill;rw[nd,df,aae];exact⟨beq_iff_eq.mpr hs,decide_eq_true (by rw[hs];exact hl)⟩
theorem pP.sz(h:apu):aBK:=by rw[h.tb.sz,aad]
def pP.le(h:apu):avb:=by
 have:=h.fl;omega
theorem pP.fits(h:apu):t.fits (arr prog w xs).size =true:=ye h.tb.pl.nd h.sz h.le
def pP.odd(h:apu):t.gaveWay=false:=by
 unfold SetTable.gaveWay;rcases h.tb.pl.ms with e|e|e|e|e<;>rw[e]<;>rfl
def Gh(hx:arM)(hv:∀v∈vs,∃b k,aoA/\arN)(h:Q false s):wpAny aa4 A (searchCouldBeSeen aod vs) Q E s:=by
 unfold searchCouldBeSeen;refine aaa ?_;refine afL _ (λba r s'=>r.1=none/\s'=s/\∀v∈ba,∃b k,aoA/\arN) _ ?_ ?_ _ _ ⟨rfl,rfl,hv⟩
 .rintro v ba r s' ⟨hr,rfl,ma⟩;obtain⟨b,k,rfl,hb⟩:=ma v aal;have tl:∀u∈ba,∃b k,u=Value.ref b/\IsT prog w s'.heap k b:=λu qk=>ma u (ake qk);dsimp only;refine abh (λ_=>aaj ⟨rfl,rfl,tl⟩) λ_=>?_;refine aaa ((tupleKind ahE).quiet hx ?_);refine abh (λz=>arI) λ_=>?_;refine aaa ((tupleKind ahE).quiet hb ?_);refine abh (λz=>arI) λ_=>?_;refine aaa (qt hx ?_);refine abh (λz=>arI) λ_=>?_;refine aaa (qt hb ?_);refine abh (λz=>arI) λ_=>?_;exact aaj ⟨rfl,rfl,tl⟩
 .rintro⟨r1,r2⟩ s' ⟨hr,rfl,_⟩;simp only at hr;subst hr;exact aaj h
def uF(hu:aBn)(ho:alu)(hd:ary)(D:apu)(T:∀y∈xs,IsT prog w s.heap y.2 y.1)(hx:arM)
  {K:Nat} (hK:K<10*SetTable.turns t.mask) (k1:At t ahl K∉t.place.toList) (k2:∀l,l<K->At t ahl l∈t.place.toList)
  (hf:x∈xs.map (·.2)->Q (.there none) s) (hn:x∉xs.map (·.2)->Q (.free aoZ false) s):
  ∀(fuel k0:Nat) (yf:Option SetTable.Probe),K<fuel+k0->k0<=K->yf.getD (alr ahl)=it t k0 (alr ahl)->
   (∀l,l<k0->∀(i:Nat) y,t.place[i]?=some (At t ahl l)->xs[i]?=some y->y.2≠x)->wpAny aa4 A (setSearchFrom a aod ahl true fuel yf) Q E s:=by
 have hH:∀{i:Nat}{y},xs[i]?=some y->((arr prog w xs)[i]?.map (·.1)).getD 0=ji prog w y.2:=λ{i y} e=>by rw[mI,e];rfl
 intro fuel;induction fuel with
 |zero=>intro k0 yf h1 h2;omega
 |succ fuel ih=>
  intro k0 yf h1 h2 m8 hb;unfold setSearchFrom;refine aaa (acv ho hd D.fits ?_);dsimp only;rw[D.odd,aaC aai,m8];obtain⟨met,m1,m2⟩:=D.tb.pl.step (H:=λi=>((arr prog w xs)[i]?.map (·.1)).getD 0) hK k1 k2 h2;erw[m1];rcases m2 with⟨b1,rfl⟩|⟨k,i,c1,c2,b1,c3,c4,rfl⟩
  .refine aaj (hn λUw=>?_);obtain⟨y,hy,rfl⟩:=aao.mp Uw;obtain⟨i,hi⟩:=ach.mp hy;obtain⟨k,hk,hp⟩:=D.tb.met k1 (i:=i) (by rw[aau,hi];rfl);rcases abq k k0 with z|z
   .exact hb k z i y hp hi rfl
   .exact b1 k z hk i hp (hH hi)
  .obtain⟨y,hi⟩:∃y,xs[i]?=some y:=⟨_,aac (by rw[<-D.sz];exact(abL.mp c3).1)⟩;have hv:∀v∈(((arr prog w xs).filter (·.1==ji prog w x)).toList.map (·.2)),∃b k,v=Value.ref b/\arN:=λv hv=>by
    obtain⟨e',As,rfl⟩:=aao.mp hv;obtain⟨z,hz,rfl⟩:=aao.mp (List.mem_toArray.mp (Array.mem_filter.mp (acq.mp As)).1);exact⟨z.1,z.2,rfl,T z hz⟩
   refine(λkey=>abh (λ_=>aaa (Gh hx hv (abh (λz=>av6) λ_=>key))) λ_=>key) ?_;rw[mI,hi];show wpAny _ _ (holding [Value.ref y.1] (eqBool (akX y.1) aod) >>= _) _ _ s;refine aaa (abi ((tupleKind ahE).eqBool hu (T y (abd hi)) hx ?_));refine aaa (acv ho hd D.fits ?_);by_cases q:y.2=x
   .exact abh (λ_=>aaj (hf (amN ⟨y,abd hi,q⟩))) λz=>absurd (by rw[decide_eq_true q];rfl) z
   .refine abh (λz=>absurd z (by rw[decide_eq_false q];decide)) λ_=>?_;have sm:t.sameMemory t.moves t.mask=some true:=by unfold SetTable.sameMemory;rw[aav (beq_self_eq_true _)]
    dsimp only;rw[sm];dsimp only;rw[aav rfl,D.tb.pl.live.mpr c3];dsimp only;rw[mI,hi];refine aaa (wpAny_isSame_ref_self (aaa (aaj ?_)));rw[aav rfl];refine abh (λz=>absurd z (by rw[decide_eq_false q];decide)) λ_=>?_;refine ih (k+1) _ aa1 aa1 rfl λl hl i' y' gM e'=>?_;rcases abq l k0 with z|z
    .exact hb l z i' y' gM e'
    .rcases adx (aaU hl)with z'|z'
     .intro q';exact b1 l z z' i' gM (by rw[<-q'];exact hH e')
     .subst z';have a1:=D.tb.pl.live.mpr gM;rw[D.tb.pl.live.mpr c3]at a1;cases a1;rw[hi]at e';cases e';exact q
end
section
variable {prog:ad2}{w:World}{B:Addr->Prop}{A:ag0}{E:Value->Shared->Prop}{s:ab_}{a c:Addr}{x:aa0}{L:aa_}{xs:ahP}{es:ahW}{t:ag8}{o:Obj}{ep:Nat}{h h':Heap}
noncomputable def CC(prog:ad2)(w:World)(b:Bool)(a:Addr)(xs:ahP)(h:Heap):Prop:=
 ∃o ep t,amm/\o.ExactSet/\ary/\t.led=b/\t.plain=true/\pP prog w t xs
noncomputable def j7(prog:ad2)(w:World)(b:Bool)(a:Addr)(B:Addr->Prop)(L:aa_)(h:Heap):Prop:=∃xs,(xs.map (·.2)).Perm L/\(∀x∈xs,B x.1/\IsT prog w h x.2 x.1)/\CC prog w b a xs h
def uG(hk:IsT prog w h k b)(ho:amm)(hd:asz)(hs:Heap.SameBut a h h'):IsT prog w h' k b:=by
 obtain⟨o',items,n,h1,h2,h3,h4⟩:=hk;refine⟨o',items,n,?_,h2,h3,h4⟩;have:b≠a:=λz=>by
  subst z;rw[ho]at h1;cases h1;rw[hd]at h3;cases h3
 rw[hs.2 b this];exact h1
def rY(ho:amm)(hd:asz):(h.update a (Obj.putSet wZ t')).get? a=some {o with data:= .set wZ (ep+1) t'}:=by
 have:=abF (Obj.putSet wZ t') ho (by rw[putSet_of wZ t' hd];rfl);rw[putSet_of wZ t' hd]at this;exact this
def Au(l:agM)(p:Nat)(x:α):(dz l p x).Perm (l++[x]):=by
 unfold dz;refine(List.perm_middle).trans ?_;rw[abR];exact aeC (l₁:=[x]) (l₂:=l)
theorem CD{α β:Type}{f:α->Option β}{g:α->β}:∀{l:agM},(∀i∈l,f i=some (g i))->l.filterMap f=l.map g
 |[],_=>rfl
 |i::l,h=>by
  rw[adV,h i aal,aaK,CD λj hj=>h j (ake hj)]
def range_getD(l:agM)(d:α):(List.range l.length).map (λi=>l.getD i d)=l:=by
 apply abP;intro i;rw[aau];rcases abq i l.length with z|z
 .rw[acw z,adB,aar,aac z];rfl
 .rw[aaH (by rw[ade];exact z),aaH z];rfl
def PV{Q:Unit->Shared->Prop}(ho:alu)(hex:o.ExactSet)(hd:ary)(fy:t.plain=true)(tb:Tb t (xs.map λx=>akn))(wd:avb)
  (nd:(xs.map (·.2)).Nodup) (h1:t.mask*3<=xs.length*5) (h2:(xs.length-1)*5<t.mask*3) (hn:xs.length<=720)
  (hq:∀h' PX,ajC->PX.Perm xs->CC prog w t.led a PX h'->Q () {s with heap:=h'}):wpAny aa4 A (setRelay a (SetTable.grown xs.length)) Q E s:=by
 obtain⟨g1,g2,g3,g4⟩:=Uv tb.pl.ms h1 h2 hn;generalize SetTable.grown xs.length=G at g1 g2 g3 g4⊢;have aI:=aad (as:=xs) (λx=>akn);obtain⟨pl,order,l1,l2,l3⟩:=Gg (t:={t with mask:=SetTable.sizeAbove G-1}) g1 (xs.map λx=>akn) (by rw[aI];exact g3) t.finger (t.movedTo (SetTable.sizeAbove G-1)) t.led t.plain;rw[aI]at l2;unfold setRelay;refine aaa (acv ho hd (ye tb.pl.nd (by rw[tb.sz,aI]) wd) ?_);dsimp only;rw[aaC (by rw[sizeLine_eq];exact Nat.not_lt.mpr g4)];have PY:∀i∈order,xs[i]?=some aqe:=λi hi=>by
  rw[aar,aac (aaY.mp (l2.mem_iff.mp hi))];rfl
 have e1:order.toArray.filterMap ((arr prog w xs)[·]?)=arr prog w (order.map λi=>aqe):=by
  apply afM.mp;rw[Array.toList_filterMap];show order.filterMap _=List.map _ _;rw[aaV];exact CD λi hi=>by rw[mI,PY i hi];rfl
 have pm:(order.map λi=>aqe).Perm xs:=(l2.map _).trans (.of_eq (range_getD xs _));have rl:t.relaid ((arr prog w xs).map (·.1)) G=SetTable.laid (SetTable.sizeAbove G-1) t.finger (t.movedTo (SetTable.sizeAbove G-1)) t.led t.plain (xs.map λx=>akn).toArray :=by
  unfold SetTable.relaid;rw[show(arr prog w xs).map (·.1)=(xs.map λx=>akn).toArray by rw[List.map_toArray,aaV];rfl]
 rw[rl.trans l1];refine aaa ?_;show wpAny _ _ (if(order.toArray.filterMap ((arr prog w xs)[·]?)).size !=(arr prog w xs).size then _ else pure (order.toArray.filterMap ((arr prog w xs)[·]?),_)) _ _ s;rw[e1,df,df,pm.length_eq,aaC ab5];refine aaj (wpAny_storeSet_of ho hd ?_ (by rw[df,pm.length_eq,sizeLine_eq];omega));refine hq _ _ (abA ..) pm ⟨_,_,_,rY ho hd,hex,rfl,rfl,fy,?_,by rw[pm.length_eq];exact g2,(pm.map _).nodup_iff.mpr nd⟩;rw[show(order.map λi=>aqe).map (λx=>akn)=order.map λi=>(xs.map λx=>akn).getD i 0 by
  rw[aaV];exact acO λi hi=>by
   rw[aar,aau,PY i hi];rfl]
 exact l3
end
section
variable {prog:ad2}{w:World}{B:Addr->Prop}{A:ag0}{E:Value->Shared->Prop}{s:ab_}{a c:Addr}{x:aa0}{L:aa_}{b:Bool}
def uH(f:α->β)(l:agM)(p:Nat)(x:α):(dz l p x).map f=dz (l.map f) p (f x):=by
 unfold dz;rw[aaM,aaK,afH,agC]
def nV(h:L.Nodup):(gN L x).Nodup :=by
 unfold gN;split
 .exact h
 .rename_i q;rw[aby];exact⟨h,aaW.mpr ⟨aeO,ads⟩,λy hy z hz e=>q (by rw[<-aak.mp hz,<-e];exact hy)⟩
def CF(hu:aBn)(hS:j7 prog w b a B L s.heap)(hx:arM)(hc:B c)(hn:x∉L->L.length<720)
  (h:∀h' r,ajC->j7 prog w b a B (gN L x) h'->Q r {s with heap:=h'}):wpAny aa4 A (setAddHashed a aod ahl) Q E s:=by
 obtain⟨xs,pm,T,o,ep,t,ho,hex,hd,hl,fy,D⟩:=hS;obtain⟨K,hK,k1,k2⟩:=D.tb.pl.first (by rw[D.sz];exact D.le) ahl;unfold setAddHashed setAddHashedIn;refine abi (aaa (acv ho hd D.fits ?_));dsimp only;rw[aaC (show¬(byScan aod aiO=true) from aai)];have hM:t.mask<=2047:=by rcases D.tb.pl.ms with e|e|e|e|e<;>rw[e]<;>decide
 refine aaa (uF hu ho hd D (λy hy=>(T y hy).2) hx hK k1 k2 (λhm=>?_) (λhm=>?_) 100000 0 none (by unfold SetTable.turns at hK;omega) ao6 rfl λl hl=>aun)
 .refine aaj (h s.heap false (Heap.SameBut.refl a s.heap) ?_);unfold gN;rw[aav (aDF hm)];exact⟨xs,pm,T,o,ep,t,ho,hex,hd,hl,fy,D⟩
 .have zM:x∉L:=λz=>hm (pm.mem_iff.mpr z);have hn:=hn zM;have ln:xs.length=L.length:=by rw[<-pm.length_eq,aad]
  refine aaa (acv ho hd D.fits ?_);dsimp only;rw[Lp D.tb.pl.nd];dsimp only;rw[fy,aav rfl];refine aaa (Aq hx ?_);rw[aav rfl];have Nz:=D.tb.put k1 k2 (IT D.tb.pl.ms _ _);generalize SetTable.below t.place aoZ=p at Nz;have ea:SetTable.insertAt aiO p (ahl,Value.ref c)=arr prog w (dz xs p (c,x)):=by
   apply afM.mp;rw[cK];exact(uH awP xs p (c,x)).symm
  have eh:dz (xs.map λy=>ji prog w y.2) p ahl=(dz xs p (c,x)).map λy=>ji prog w y.2:=(uH _ xs p (c,x)).symm;rw[eh]at Nz;have YO:=Au xs p (c,x);have Ux:((dz xs p (c,x)).map (·.2)).Perm (gN L x):=by
   unfold gN;rw[aaC zM];exact(YO.map _).trans (by rw[aaM];exact pm.append_right _)
  have Wq:((dz xs p (c,x)).map (·.2)).Nodup :=Ux.nodup_iff.mpr (nV (pm.nodup_iff.mp D.nd));have l1:(dz xs p (c,x)).length =xs.length+1:=gS;rw[ea,df];refine aaa (wpAny_storeSet_of ho hd ?_ (by rw[df,l1,sizeLine_eq];omega));have sb:=abA s.heap a (Obj.putSet (arr prog w (dz xs p (c,x))) {t with place:=SetTable.insertAt t.place p aoZ,plain:=true});have T1:∀{h':Heap},ajC->∀y∈dz xs p (c,x),B y.1/\IsT prog w h' y.2 y.1:=λ{h'} sb y hy=>by
   rcases j5.mp hy with rfl|hy
   .exact⟨hc,uG hx ho hd sb⟩
   .exact⟨(T y hy).1,uG (T y hy).2 ho hd sb⟩
  rw[fy]at Nz;have fill:({t with place:=SetTable.insertAt t.place p aoZ,plain:=true}:ag8).fill =xs.length+1:=by
   have:=Nz.sz;unfold SetTable.fill;show _+t.dummies.size=_;rw[this,D.tb.pl.nd,aad,l1];rfl
  have fl:=D.fl;refine abh (λz=>?_) (λz=>?_)
  .have IU:t.mask*3<=(xs.length+1)*5:=by
    have z:({t with place:=SetTable.insertAt t.place p aoZ,plain:=true}:ag8).tooFull =true:=z;unfold SetTable.tooFull at z;rw[fill]at z;exact of_decide_eq_true z
   rw[<-l1]at IU⊢;refine aaa (PV (rY ho hd) hex rfl rfl Nz ?_ Wq IU ?_ ?_ λh' PX Wr Ws S'=>aaj (h h' true (sb.trans Wr) ⟨PX,(Ws.map _).trans Ux,λy hy=>T1 (sb.trans Wr) y (Ws.mem_iff.mp hy),hl▸S'⟩))
   .rw[l1];show xs.length+1<=t.mask;rcases D.tb.pl.ms with e|e|e|e|e<;>rw[e]at fl⊢ <;> omega
   .rw[l1];exact fl
   .rw[l1];omega
  .refine aaj (h _ true sb ⟨_,Ux,T1 sb,_,_,_,rY ho hd,hex,rfl,hl,rfl,Nz,?_,Wq⟩);rw[l1];show(xs.length+1)*5<t.mask*3;refine Nat.lt_of_not_le λq=>z ?_;show({t with place:=SetTable.insertAt t.place p aoZ,plain:=true}:ag8).tooFull =true;unfold SetTable.tooFull;rw[fill];exact decide_eq_true q
end
def CG(l:aa_)(x:aa0):iZ (l++[x])=gN (iZ l) x:=by
 unfold iZ;rw[afy];rfl
def CH:y∈gN L x↔y∈L\/y=x:=by
 unfold gN;split
 .rename_i h;exact⟨.inl,λz=>z.elim id λe=>e▸h⟩
 .rw[aay,aak]
theorem uI:∀{l L:aa_}{y:aa0},y∈l.foldl gN L↔y∈L\/y∈l
 |[],L,y=>⟨.inl,λz=>z.elim id λz=>nomatch z⟩
 |x::l,L,y=>by
  rw[aeh,uI,CH,aat,or_assoc]
def mJ:y∈iZ l↔y∈l:=uI.trans ⟨λz=>z.elim (λz=>nomatch z) id,.inr⟩
def Gi(L:aa_)(x:aa0):L.length<=(gN L x).length :=by
 unfold gN;split
 .exact aam _
 .rw[aan];exact aba _ _
theorem yg:∀(l L:aa_),L.length<=(l.foldl gN L).length
 |[],L=>aam _
 |x::l,L=>by
  rw[aeh];exact aaf (Gi L x) (yg l _)
def CI(h:i<n)(hv:v i∉iZ aAv):(iZ aAv).length<(iZ aAu).length :=by
 have e:(List.range n).map v=((List.range i).map v++[v i])++((List.range n).map v).drop (i+1):=by
  conv=>lhs;rw[<-abR (i+1) aAu]
  rw[<-afH,List.take_range,ady h,List.range_succ,aaM];rfl
 rw[e];unfold iZ at hv⊢;rw[afy];refine aah ?_ (yg _ _);rw[afy];show _<(gN _ (v i)).length;unfold gN at hv⊢;rw[aaC hv,aan];exact abT _
theorem nW:∀{l L:aa_},L.Nodup->(l.foldl gN L).Nodup
 |[],_,h=>h
 |_::l,_,h=>nW (l:=l) (nV h)
def iA(l:aa_):(iZ l).Nodup :=nW ads
section
variable {prog:ad2}{w:World}{B:Addr->Prop}{A:ag0}{E:Value->Shared->Prop}{s:ab_}{a c:Addr}{x:aa0}{L:aa_}{b:Bool}{h h':Heap}
def nX(hk:awY)(hs:∀o,h.get? c=some o->h'.get? c=some o):IsT prog w h' k c:=by
 obtain⟨o',items,n,h1,h2⟩:=hk;exact⟨o',items,n,hs _ h1,h2⟩
def j7.keep(hB:∀c,B c->c<a)(hS:j7 prog w b a B L h)(k:∀c o,c<=a->h.get? c=some o->h'.get? c=some o):j7 prog w b a B L h':=by
 obtain⟨xs,pm,T,o,ep,t,ho,q⟩:=hS;exact⟨xs,pm,λx hx=>⟨(T x hx).1,nX (T x hx).2 λo z=>k x.1 o (aaE (hB _ (T x hx).1)) z⟩,o,ep,t,k a o ad0 ho,q⟩
section
variable {R:Result->Shared->Prop}{I S:Addr}{fp wr:af7}{G:azJ->Array GenState->Prop}{n:Nat}{P:Nat->Value->Prop}{St:Nat->Shared->Prop}{val:Nat->List Int}
def Av(W:WalksS prog w A.in1 I fp wr G n P St)(Wt:S∉fp)(hw:∀b∈wr,S<b)(hu:A.in1.units<cLine)(hn:(iZ ayQ).length <=720)(hB:∀c,B c->c<S)(wa:∀i v,i<n->P i v->∃c,aCe/\B c):∀(m i:Nat) (s:ab_),n-i=m->i<=n->St i s->
  (∀i c,i<n->P i aod->IsT prog w s.heap (val i) c)->j7 prog w b S B avk s.heap->(∀s',Moved (S::wr) G s s'->j7 prog w b S B (iZ ayQ) s'.heap->aBW)->
  codeAny aa4 A (.builtin "set.update.loop" ⟨[.ref S,.ref I],[]⟩) R s:=by
 have nw:S∉wr:=λz=>Wt aDb;have lw:∀c,c<=S->c∉wr:=λc hc z=>acS hc (hw c z);have sub:∀b∈wr,b∈S::wr:=λb z=>aag _ z;intro m;induction m with
 |zero=>
  intro i s hm hi st T hS hR;have e:i=n:=by omega
  subst e;refine aca F.entry_set_update_loop ?_;rw[acp ael _];refine aaa (m:=pyNext (akX I)) (W.done s _ _ st λs' mv=>aaj (hR s' (mv.mono sub) (hS.keep hB λc o hc z=>mv.heap c o (lw c hc) z)))
 |succ m ih=>
  intro i s hm hi st T hS hR;have lt:i<n:=by omega
  refine aca F.entry_set_update_loop ?_;rw[acp ael _];refine aaa (m:=pyNext (akX I)) (W.item i s _ _ lt st λv s' hP av mv=>?_);obtain⟨c,rfl,hc⟩:=wa i v lt hP;have T':∀i c,i<n->P i aod->IsT prog w s'.heap (val i) c:=λi c hi hp=>by
   obtain⟨c',e,kJ⟩:=wa i _ hi hp;cases e;exact nX (T i c hi hp) λo z=>mv.heap c o (lw c (aaE (hB c kJ))) z
  show wpAny _ A.in1 (holding [Value.ref c] (setAdd S aod) >>= _) _ _ s';refine aaa (abi ?_);unfold setAdd;refine abi (aaa ((tupleKind ahE).pyHash (k:=val i) hu (T' i c lt hP) ?_));have BZ:j7 prog w b S B avk s'.heap:=hS.keep hB λc o hc z=>mv.heap c o (lw c hc) z;refine CF (s:={s' with toks:=s'.toks+(tupleKind ahE).draws (val i)}) hu BZ (T' i c lt hP) hc (λz=>aah (CI lt z) hn) λh' r sb nN=>?_;refine aaj ⟨plainId_quiet ael _,ih (i+1) _ aa1 lt (W.frame _ s' _ _ av alx λb hb o e=>?_) (λi c hi hp=>?_) ?_ λs2 YQ jz=>?_⟩
  .rw[sb.2 b λz=>Wt (z▸hb)];exact e
  .obtain⟨c',e,kJ⟩:=wa i _ hi hp;cases e;exact nX (T' i c hi hp) λo z=>by rw[sb.2 c (aaJ (hB c kJ))];exact z
  .rw[List.range_succ,aaM];show j7 prog w b S B (iZ (_++[val i])) h';rw[CG];exact nN
  .refine hR s2 (Moved.trans W.gtrans ((mv.mono sub).then_heap alx λb o hb e=>?_) YQ) jz;rw[sb.2 b λz=>hb (z▸aal)];exact e
end
end
open PySem.W
section
variable {prog:ad2}{w:World}{B:Addr->Prop}{A:ag0}{E:Value->Shared->Prop}{s:ab_}{a c:Addr}
noncomputable abbrev rZ(w:World):Obj:={cls:= .type "set",dict:=none,data:= .set #[] 0 (.fresh 0 0 (!w.params.followText "set-order"))}
def Gj{u:Value}{Q:Value->Shared->Prop}(h:Q ab7 {s with heap:=s.heap.push (rZ w)}):codeAny aa4 A (.call (.builtin "set.__new__") ⟨[.type "set",u],[]⟩) (wants Q E) s:=by
 refine codeAny_of_tree ?_;show wpAny _ A.in1 (do checkBuiltinCall "set.__new__" ⟨[.type "set",u],[]⟩;again (.builtin "set.__new__" ⟨[.type "set",u],[]⟩)) _ _ s;refine aaa (aeV (F.newCall_set_1 u) (aaj ⟨plainId_quiet F.plain_set_new _,aca F.entry_set_new ?_⟩));rw[acp F.plain_set_new _];unfold Builtin.«set.__new__» Builtin.Frozenset.newClass;have O0:=sub_set_self;obtain⟨hp,g,d,tk,os⟩:=s;dsimp only;wp_walk;refine adS (aaj ?_);dsimp only;simp only[newObj];exact aaa (wpAny_alloc (aaj aC2))
def Aw{hp:Heap}(h:hp.get? a=some (rZ w)):j7 prog w (!w.params.followText "set-order") a B [] hp:=by
 refine⟨[],.nil,(λx hx=>nomatch hx),_,0,_,h,⟨rfl,rfl,rfl⟩,rfl,rfl,rfl,⟨⟨rfl,λa b x y _ z=>?_,λi j z=>?_,agR⟩,rfl,(λx hx=>nomatch hx)⟩,show 0*5<7*3 by decide,ads⟩
 .have z:(#[]:aqa)[a]?=some x:=z;simp at z
 .have z:(#[]:aqa)[i]?=some j:=z;simp at z
def Ax{l:Addr}{vs:ab2}{ks:aa_}{Q:Value->Shared->Prop}(hh:af5)(hu:A.units+64<cLine)(hl:ayp)(hn:vs.length=ks.length)(h7:(iZ ks).length <=720)
  (hi:∀(i:Nat) v,vs[i]?=some v->∃c,aCe/\aBh)
  (h:∀(h':Heap) (tk:Nat),j7 prog w (!w.params.followText "set-order") s.heap.objs.size (λc=>aqU) (iZ ks) h'->(∀b o,ab4->ae0)->Q ab7 {s with heap:=h',toks:=tk}):
  wpAny aa4 A (as6 (.type "set")) Q E s:=by
 obtain⟨c,tl,YR⟩:=adF.mro;have Wu:=adF.made;have O0:=adF.sub;refine wpAny_call (codeAny_of_tree ?_);show wpAny _ _ (callAny (.type "set") _) _ _ _;refine aaj ⟨Code.quiet_builtin _ ab3,aca F.entry_type_call ?_⟩;rw[Around.under_plain (weight_type_call_type "set" [ahI] []) rfl];have h1:=adF.notType;have h2:=adF.canCreate;have hct:=F.typeCall_set_1 ahI
 repeat (any_goals (first|assumption|wp_step))
 refine aeB (Gj (E:=E) (Q:=λobj s1=>obj= .ref s.heap.objs.size/\s1={s with heap:=s.heap.push (rZ w)}) ⟨rfl,rfl⟩) λr s1 hr=>?_;cases r with
 |error e=>exact hr
 |ok fl=>
  cases fl with
  |ret obj=>
   obtain⟨rfl,rfl⟩:=hr;have hS:(s.heap.push (rZ w)).get? s.heap.objs.size=some (rZ w):=aas _ rfl;have hT:Shared.TypeIs {s with heap:=s.heap.push (rZ w)} ab7 "set":=⟨_,hS,rfl⟩;have hli:=adF.init.lookup;have V5:=adF.init.bind ab7
   repeat (any_goals (first|assumption|wp_step))
   refine aeB (codeAny_call_builtin (R:=wants (λr s2=>r= .none /\∃h' tk,s2={s with heap:=h',toks:=tk}/\j7 prog w (!w.params.followText "set-order") s.heap.objs.size (λc=>aqU) (iZ ks) h'/\∀b o,ab4->ae0) E) adF.init.plain F.entry_set_init (check_set_init_1 hT ?_)) λr2 s2 K7=>?_
   .obtain⟨ol,Nn,Wv,nl,Np⟩:=hl;obtain⟨YS,PZ,Ww,Lr⟩:=ol;simp only at Wv Np;subst Wv;subst Np;have Uy:(s.heap.push (rZ w)).get? l=some {cls:= .type "list",dict:=PZ,data:= .seq vs.toArray nl,slots:=Lr}:=aab _ Nn;have YT:=F.sub_list_set;have YU:=F.sub_list_frozenset;have eG:(Value.type "list" == Value.type "dict")=false:=by decide
    have Wx:(s.heap.push (rZ w)).IsList l vs.toArray:=⟨_,Uy,rfl,nl,rfl⟩;unfold Builtin.«set.__init__» noKeywords Builtin.Frozenset.updateFrom;generalize YV:pyIter=PI;wp_walk;subst YV;refine acJ Wx (aaa (wpAny_runValue ?_));have hlS:api:=aaz Nn;have YW:A.in1.in1.in1.handled=none:=by simp[hh]
    have z1:(s.heap.push (rZ w)).objs.size =s.heap.objs.size+1:=acj ..;have NZ:vs.toArray.size=ks.length:=by rw[aaq];exact hn
    have e0:(List.range vs.toArray.size).map (λi=>atP)=ks:=by rw[NZ];exact range_getD ks []
    have CJ:∀(i:Nat) v,vs.toArray[i]?=some v->∃c,aCe/\(aqU/\c<s.heap.objs.size)/\aBh:=λi v hv=>by
     have hv:vs[i]?=some v:=by simpa using hv
     obtain⟨c,rfl,q⟩:=hi i v hv;exact⟨c,rfl,⟨abd hv,q.elim λo ⟨_,_,e,_⟩=>aaz e⟩,q⟩
    refine Av ((agD YW _ l (by rw[z1];lia) vs.toArray).toS) (val:=λi=>atP) (by
     rw[z1];simp only[aat,aeO,or_false,not_or];exact⟨by lia,by lia⟩) (λb hb=>by
     rw[z1]at hb;cases aak.mp hb;exact abT _) ?_ (by rw[e0];exact h7) (B:=λc=>aqU) (λc hc=>?_) (λi v _ hv=>(CJ i v hv).elim λc q=>⟨c,q.1,q.2.1.1⟩) _ 0 _ rfl ao6 ⟨ahL,Wx.push _⟩ (λi c _ hp=>?_) (Aw (aab _ hS)) λs3 mv jz=>?_
    .show A.units+1+1+1<cLine;omega
    .obtain⟨i,gM⟩:=ach.mp hc;obtain⟨c',e,q,_⟩:=CJ i _ (by simpa using gM);cases e;exact q.2
    .obtain⟨c',e,_,q⟩:=CJ i _ hp;cases e;exact nX q λo z=>aab _ (aab _ z)
    .rw[e0]at jz;rw[Moved.eq_with mv];refine aaj (aaj ⟨rfl,_,_,rfl,jz,λb o e=>?_⟩);have lb:=aaz e;exact mv.heap b o (by rw[z1];simp only[aat,aeO,or_false,not_or];exact⟨by lia,by lia⟩) (aab _ ail)
   .cases r2 with
    |error e=>exact K7
    |ok YX=>
     cases YX with
     |ret r=>
      obtain⟨rfl,h',tk,rfl,BZ,wz⟩:=K7
      repeat (any_goals (first|assumption|wp_step))
      exact h _ _ BZ wz
     |_=>exact K7.elim
  |_=>exact hr.elim
end
open L2
def mK:Slot "set_iterator" "__next__" "set_iterator.__next__":= .of (owner:="set_iterator") (n:="__next__") (by rw[typeLookup_type,builtinLookup_eq_fast];kernel_rfl) ab3 ab3 ab3 (by first|exact .inl ab3|exact .inr ab3) (by rw[isSubtype_type];kernel_rfl)
def yh:Slot "set_iterator" "__iter__" "set_iterator.__iter__":= .of (owner:="set_iterator") (n:="__iter__") (by rw[typeLookup_type,builtinLookup_eq_fast];kernel_rfl) ab3 ab3 ab3 (by first|exact .inl ab3|exact .inr ab3) (by rw[isSubtype_type];kernel_rfl)
def CK:entryFor table "set_iterator.__next__"=some Builtin.«set_iterator.__next__»:=entryFor_of_tree (by kernel_rfl)
def CL:entryFor table "set_iterator.__iter__"=some Builtin.«dict_keyiterator.__iter__»:=entryFor_alias (id':="dict_keyiterator.__iter__") (by kernel_rfl) rfl ab3 (by kernel_rfl)
def Ay:entryFor table "set.__iter__"=some Builtin.«frozenset.__iter__»:=entryFor_alias (id':="frozenset.__iter__") (by kernel_rfl) rfl ab3 (by kernel_rfl)
def CM(v:Value):argsOk "set_iterator.__next__" ⟨[v],[]⟩:=by unfold argsOk;kernel_rfl
def CN(v:Value):argsOk "set_iterator.__iter__" ⟨[v],[]⟩:=by unfold argsOk;kernel_rfl
noncomputable def nY(w:World)(d:Addr)(ep:Nat)(es:ahW):ahW:=if w.params.followText "set-order" then pickOrder (w.params.setOrder d ep) es else es
theorem nZ:∀(l:agM) (i:Nat) (h:i<l.length),(l[i]::l.eraseIdx i).Perm l
 |x::l,0,_=> .refl _
 |x::l,i+1,h=>(List.Perm.swap x _ _).trans ((nZ l i (by simpa using h)).cons x)
theorem yi(f:Nat->Nat):∀(n k:Nat) (l:agM) (out:Array α),l.length=n->(pickOrder.go f n k l out).toList.Perm (out.toList++l)
 |0,k,l,out,h=>by
  rw[afI.mp h,abf];exact .refl _
 |n+1,k,l,out,h=>by
  have bj:f k%l.length<l.length:=adK _ (by lia);rw[pickOrder.go,aac bj];refine(yi f n (k+1) _ _ (by rw[afc bj];lia)).trans ?_;rw[acK,aaL];exact acV _ (nZ l _ bj)
def n6(w:World)(d:Addr)(ep:Nat)(es:ahW):(nY w d ep es).toList.Perm es.toList:=by
 unfold nY;split
 .exact yi _ _ _ _ _ (aaG ..)
 .exact .refl _
noncomputable def yj(b:Bool)(pl:aqa)(i:Nat):Nat:=if b then 0 else if i=0 then 0 else pl.getD (i-1) 0+1
def Gk{xs:aqa}{j i i':Nat}(h:R5 xs j i)(h':R5 xs j i'):i=i':=by
 rcases acu i i' with z|z|z
 .have hi:i<xs.size:=aah z h'.1;have e:=aaB hi;exact absurd (h'.2.1 i _ z e) (acS (h.2.2 i _ ad0 e))
 .exact z
 .have hi:i'<xs.size:=aah z h.1;have e:=aaB hi;exact absurd (h.2.1 i' _ z e) (acS (h'.2.2 i' _ ad0 e))
def CO{xs:aqa}(hr:F' xs){i:Nat}(hi:i<=xs.size):SetTable.below xs (yj false xs i)=i:=by
 refine Gk (k9 hr _) ⟨hi,λk x hk e=>?_,λk x hk e=>?_⟩
 .have h0:i≠0:=by omega
  have hl:i-1<xs.size:=by omega
  have e1:=aaB hl;show x<(if i=0 then 0 else xs.getD (i-1) 0+1);rw[aaC h0,show xs.getD (i-1) 0=xs[i-1] from by unfold Array.getD;rw[dif_pos hl];rfl];rcases adx (show k<=i-1 by omega)with z|z
  .exact acg (aBC e1)
  .subst z;rw[e1]at e;cases e;exact abT _
 .show(if i=0 then 0 else xs.getD (i-1) 0+1)<=x;split
  .exact abk _
  .have hl:i-1<xs.size:=by omega
   rw[show xs.getD (i-1) 0=xs[i-1] from by unfold Array.getD;rw[dif_pos hl];rfl];exact hr (i-1) k _ _ aa1 (aaB hl) e
structure Wk(w:World)(t:ag8)(es:ahW):Prop where
 led:t.led=!w.params.followText "set-order"
 YY:t.plain=true
 ris:F' t.place
 sz:t.place.size=es.size
 fit:t.fits es.size=true
section
variable {prog:ad2}{w:World}{A:ag0}{E:Value->Shared->Prop}{s:ab_}{d it:Addr}{t:ag8}{o:Obj}{es:ahW}{ep i:Nat}
def Ls{Q:Option (Value×Nat)->Shared->Prop}(ho:s.heap.get? d=some o)(hd:asz)(W:ax3)(hi:i<=es.size)
  (h:Q (((nY w d ep es)[i]?).map λe=>(e.2,yj (w.params.followText "set-order") t.place (i+1))) s):wpAny aa4 A (setNext d (axs (w.params.followText "set-order")) i ep) Q E s:=by
 obtain⟨l1,l2,l3,l4,hf⟩:=W;unfold setNext;refine aaa (acv ho hd hf ?_);dsimp only;unfold setsByText;refine aaa (aaa (adS (aaj ?_)));unfold nY at h;cases hb:w.params.followText "set-order" with
 |true=>
  rw[hb,aav rfl]at h;refine abh (λ_=>?_) (λz=>absurd hb z);refine abh (λz=>aC0) (λ_=>?_);unfold setWalk setsByText;refine aaa (aaa (acv ho hd hf (aaa (aaa (adS (aaj ?_))))));refine abh (λ_=>aaa (adS (aaj (aaj ?_)))) (λz=>absurd hb z);exact h
 |false=>
  rw[hb,aaC aai]at h;rw[hb]at l1;have YZ:SetTable.below t.place (axs false)=i:=CO l3 (by rw[l4];exact hi);obtain⟨mask,place,dummies,finger,led,moves,plain⟩:=t;have l1:led=true:=l1;have l2:plain=true:=l2;subst l1 l2;refine abh (λz=>absurd (hb.symm.trans z) aai) (λ_=>?_);refine abh (λz=>av6) (λ_=>?_);refine aaa (abh (λz=>av6) (λ_=>aaj ?_));rw[YZ];rcases abq i es.size with z|z
  .have h1:es[i]?=some es[i]:=aaB _;have hp:i<place.size:=by rw[show place.size=es.size from l4];exact z
   have h2:place[i]?=some place[i]:=aaB _;rw[h1]at h⊢;rw[h2];have e:yj false place (i+1)=place[i]+1:=by
    show(if i+1=0 then 0 else place.getD i 0+1)=_;rw[aaC (Nat.succ_ne_zero _)];unfold Array.getD;rw[dif_pos hp];rfl
   have h:Q (ajU (es[i].2,yj false place (i+1))) s:=h;rw[e]at h;exact aaj h
  .have h1:es[i]?=none:=adt z;rw[h1]at h⊢;exact aaj h
noncomputable def CP(h:Heap)(it d:Addr)(sl i n ep:Nat):Prop:=∃o,aqQ/\o.cls= .type "set_iterator"/\o.data= .fields #[.int sl 0,.int i 0,aDr,.int n 0,.int ep 0]
noncomputable abbrev Wy(d:Addr)(n ep:Nat):Obj:={cls:= .type "set_iterator",data:= .fields #[aBq,aBq,aDr,.int n 0,.int ep 0]}
noncomputable def r0(d:Addr)(t:ag8)(es:ahW)(ep:Nat)(h:Heap):Prop:=∃o,axP/\o.ExactSet/\o.data= .set es ep t
def r0.keep(h:r0 d t es ep hp)(k:∀o,hp.get? d=some o->IF.get? d=some o):r0 d t es ep IF:=let ⟨o,a,b⟩:=h;⟨o,k o a,b⟩
def r0.ty(h:atd):s.TypeIs azl "set":=let ⟨o,a,b,_⟩:=h;⟨o,a,b.1⟩
def Lu(r:atd)(yk:ax3)(h:Q ab7 {s with heap:=s.heap.push (Wy d es.size ep)}):wpAny aa4 A (pyIter azl) Q E s:=by
 have T:=r.ty;obtain⟨o,ho,hex,hd⟩:=r;have hf:=yk.fit;refine aet T F.slot_set_iter (abm F.slot_set_iter T Ay ?_ (F.args_set_iter_1 _));unfold Builtin.«frozenset.__iter__»;refine aaa (m:=Builtin.Frozenset.slot0 "__iter__" _) (aaj (a:=d) ?_);refine aaa (aaa (wpAny_setEntries_of ho hd hf (aaj ?_)));unfold setDrawn setsByText;refine aaa (aaa (acv ho hd hf (aaa (aaa (adS (aaj (aaj ?_)))))));extract_lets jp;refine abh (λz=>?_) (λ_=>?_)
 .have l1:=yk.led;have l2:=yk.YY;cases hb:w.params.followText "set-order" with
  |true=>
   have z1:(!w.params.followText "set-order")=true:=(abW.mp z).1;rw[hb]at z1;cases z1
  |false=>
   rw[hb]at l1;obtain⟨mask,place,dummies,finger,led,moves,plain⟩:=t;have l1:led=true:=l1;have l2:plain=true:=l2;subst l1 l2;exact absurd (abW.mp z).2 aai
 .refine aaa (aaj ?_);refine aaa (m:=setEpoch d) (wpAny_setEpoch_of ho hd hf (aaa (abg (aaj ⟨_,rfl,"set_iterator",_,art,mK.lookup,?_⟩))));simpa[rawInt]using h
def n8:(nY w d ep es).size =es.size:=by rw[<-aaG,(n6 w d ep es).length_eq,aaG]
def P0(hh:af5)(k:CP s.heap it d (axs (w.params.followText "set-order")) i es.size ep)(r:atd)(yk:ax3)(hi:i<=es.size)
  (h:∀e,(nY w d ep es)[i]?=some e->∀h',CP h' it d (yj (w.params.followText "set-order") t.place (i+1)) (i+1) es.size ep->ajk->Q (ajU e.2) {s with heap:=h'})
  (h2:(nY w d ep es)[i]?=none->∀h',al5->Q none {s with heap:=h'}):aij:=by
 obtain⟨oi,ei,ci,di⟩:=k;have T:s.TypeIs ae5 "set_iterator":=⟨oi,ei,ci⟩;obtain⟨o,ho,hex,hd⟩:=r;have hf:=yk.fit;unfold pyNext;refine aaa (adJ (abE (name:=Str.ofString "__next__") T mK (abm mK T CK ?_ (CM _))));unfold Builtin.«set_iterator.__next__»;refine aaa (m:=slotArgs "__next__" 0 _) (aaj (a:=(Value.ref it,[])) ?_);refine aaa (aew ei di ?_);show wpAny _ _ (setEntries d >>= λ_=>_) _ _ s;refine aaa (wpAny_setEntries_of ho hd hf ?_);extract_lets jp;refine abh (λz=>aC0) (λ_=>?_);show wpAny _ _ (setNext d ((yj (w.params.followText "set-order") t.place i:Nat):Int).toNat ((i:Nat):Int).toNat ((ep:Nat):Int).toNat >>= λ_=>_) _ _ s;simp only[abN];refine aaa (Ls ho hd yk hi ?_);cases he:(nY w d ep es)[i]? with
 |some e=>
  show wpAny _ _ (setField ae5 0 (axt (yj (w.params.followText "set-order") t.place (i+1):Nat)) >>= λ_=>_) _ _ s;refine aaa (ack ei di ab5 ?_);have e1:=abF (avG (·.setIfInBounds 0 (axt (yj (w.params.followText "set-order") t.place (i+1):Nat)))) ei (acy (abG di _));have d1:=abG di (·.setIfInBounds 0 (axt (yj (w.params.followText "set-order") t.place (i+1):Nat)));refine aaa (ack e1 d1 ab5 (aaj ⟨_,rfl,aaj (h e he _ ⟨_,abF _ e1 (acy (abG d1 _)),?_,?_⟩ ((abA ..).trans (abA ..)))⟩))
  .exact(adI ..).trans ((adI ..).trans ci)
  .rw[abG d1];simp[rawInt]
 |none=>
  show wpAny _ _ (setField ae5 2 .none >>= λ_=>_) _ _ s;refine aaa (ack ei di ab5 ?_);show wpAny _ _ (newExc (.type "StopIteration") [] >>= λ_=>_) _ _ _;refine aaa ?_;simp only[newExc,newTuple];refine aaa (abg (aaa (m:=firstArgMember _ _) (aeV (a:=Value.none) (by first|rfl|(simp only[firstArgMember];rfl)) (abg ?_ (by size_fits)))) (by size_fits));simp only[raiseNew];refine aaa (afF ?_);rw[show A.in1.handled=none from hh];refine aaa (aaj (ags ?_));refine aaa (aeM (T:="StopIteration") (b:=true) ⟨_,agU,rfl⟩ isSubtype_stop ?_);exact aaj (h2 he _ (((abA ..).extBut.push _).push _))
def Gm(hh:af5)(it d:Addr)(eG:d≠it)(yk:ax3)(ep:Nat):Walks prog w A it [it,d] [it] es.size (λi v=>∃e,(nY w d ep es)[i]?=some e/\v=e.2) (λi h=>CP h it d (axs (w.params.followText "set-order")) i es.size ep/\r0 d t es ep h) where
 sub:=λb hb=>by simp at hb;simp[hb]
 frame:=λi h h' ⟨⟨o,a,b⟩,r⟩ k=>⟨⟨o,k it ab5 o a,b⟩,r.keep λo e=>k d ab5 o e⟩
 item:=λi s Q E hi ⟨k,r⟩ h=>P0 hh k r yk azw (λe he h' k' sb=>h _ h' s.toks ⟨_,he,rfl⟩ ⟨k',r.keep λo e=>(sb.2 d eG).trans e⟩ λb o nb e=>(sb.2 b (by simpa using nb)).trans e) λhe=>absurd hi (Nat.not_lt.mpr (by rw[<-n8 (w:=w) (d:=d) (ep:=ep)];exact Array.getElem?_eq_none_iff.mp he))
 done:=λs Q E ⟨k,r⟩ h=>P0 hh k r yk ad0 (λe he=>absurd (abL.mp he).1 (by rw[n8];exact abo _)) λ_ h' ex=>h h' s.toks λb o nb e=>ex b o (by simpa using nb) e
 self:=λi s Q E ⟨⟨o,a,b,c⟩,r⟩ h=>by
  have T:s.TypeIs ae5 "set_iterator":=⟨o,a,b⟩;refine aet T yh (abm yh T CL ?_ (CN _));show wpAny _ _ (ret ae5) _ _ s;exact aaj ⟨_,rfl,"set_iterator",_,T,mK.lookup,h⟩
def Lv(hT:s.TypeIs azl "set")(h:Q false s):wpAny aa4 A (Builtin.List.listLengthHint azl) Q E s:=by
 unfold Builtin.List.listLengthHint;refine aaa (aef hT PySem.F.slot_set_len.lookup ?_);generalize Wz:("set.__len__":ap5)=Y0;wp_delta;rw[show splitId Y0=some ("set","__len__") from by subst Wz;decide +kernel];subst Wz;refine aaa (aeM (T:="set") (b:=true) hT sub_set_self ?_);refine abh (λz=>arI) (λ_=>?_);refine abh (λ_=>?_) (λz=>absurd ab3 z);exact aaa (adA hT aC2)
def P4(yk:ax3):KdlSrc prog w "set" d d es.size (λi v=>∃e,(nY w d ep es)[i]?=some e/\v=e.2) (r0 d t es ep) where
 type:=λ_ r=>r.ty
 there:=λ_ r=>let ⟨o,a,_⟩:=r;⟨aaz a,aaz a⟩
 keep:=λ_ _ r k=>r.keep λo e=>k d agR o e
 notList:=by decide
 notTuple:=by decide
 hint:=λ_ _ _ _ r hq=>Lv r.ty hq
 iter:=λA s hh r=>⟨Wy d es.size ep,_,λ_ _ hq=>Lu r yk hq,Gm hh _ d (let ⟨o,a,_⟩:=r;aaJ (aaz a)) yk ep,
  ⟨⟨_,agU,rfl,by unfold yj;cases w.params.followText "set-order" <;> rfl⟩,r.keep λo e=>ail⟩⟩
end
open br
section
variable {prog:ad2}{w:World}{B:Addr->Prop}{A:ag0}{E:Value->Shared->Prop}{s:ab_}{d it:Addr}{t:ag8}{o:Obj}{es:ahW}{ep i:Nat}{L:aa_}{h:Heap}{k:aa0}{c:Addr}
def n9(h:ItemsAre ahE ks vs):IntsAre vs ks:=by
 induction h with
 |nil=>exact .nil
 |@cons k v ks vs h1 _ ih=>
  have h1:axr:=h1;cases v with
  |int j t=>
   cases (intKind prog w).inj _ _ _ h1 aBN;exact .cons _ _ ih
  |_=>cases h1
def Az(hk:awY):TupIs h aod k:=by
 obtain⟨o,items,n,h1,h2,h3,h4⟩:=hk;exact⟨c,o,aCr,n,rfl,h1,h2,by simpa using h3,n9 h4⟩
def CQ(hk:awY)(hn:k≠[]):jm h aod:=by
 obtain⟨o,items,n,h1,h2,h3,h4⟩:=hk;cases k with
 |nil=>exact absurd rfl hn
 |cons i r=>exact⟨c,o,aCr,n,i,r,rfl,h1,h2,by simpa using h3,n9 h4⟩
def AA(hh:af5)(hS:j7 prog w (!w.params.followText "set-order") d B L s.heap)(Y1:L.length<=720)(eG:∀k∈L,k≠[])
  (h:∀(h1 h':Heap) (tk c:Nat) (vs:ab2),(∀b o',arv->apU)->(∀b o',apU->apV)->h'.get? h1.objs.size=some {cls:= .type "list",data:= .seq vs.toArray c}->
   vs.map aiN=aZ L->(∀v∈vs,∃c k,aCe/\B c/\IsT prog w s.heap k c)->Q aip {s with heap:=h',toks:=tk}):
  wpAny aa4 A (call (.builtin "sorted") [aDr]) Q E s:=by
 obtain⟨xs,pm,T,o,ep,t,ho,hex,hd,hl,fy,D⟩:=hS;have Y2:xs.length=L.length:=by rw[<-pm.length_eq,aad]
 have hsz:(arr prog w xs).size <=720:=by rw[df,Y2];exact Y1
 have yk:Wk w t aiO:=⟨hl,fy,D.tb.pl.ri,by rw[df];exact D.sz,D.fits⟩;refine acY kind_sorted plain_sorted entry_sorted aqg ?_;unfold Builtin.«sorted»;refine aaa (m:=checkCount "sorted" 1 1 _) (aaj (aaa (kdu_collect (A:=A.in1) (P4 yk) hh ⟨o,ho,hex,hd⟩ (by rw[sizeLine_eq];omega) λh1 tk acc k1 ia=>?_)));have aI:acc.toList.length=(arr prog w xs).size :=by rw[aaG];exact ia.1
 have eq:acc.toList=(nY w d ep aiO).toList.map (·.2):=by
  apply abP;intro j;rcases abq j (arr prog w xs).size with z|z
  .have hj:j<acc.size:=by rw[ia.1];exact z
   obtain⟨e,e1,e2⟩:=ia.2 j acc[j] (aaB hj);rw[aaR,aaB hj,aau,aaR,e1,e2];rfl
  .rw[aaH (by rw[aaG,ia.1];exact z),aaH (by rw[aad,aaG,n8];exact z)]
 have hm:∀v∈acc.toList,∃x∈xs,v= .ref x.1:=λv m=>by
  rw[eq]at m;obtain⟨e,e1,rfl⟩:=aao.mp m;obtain⟨x,hx,rfl⟩:=aao.mp ((n6 w d ep aiO).mem_iff.mp e1);exact⟨x,hx,rfl⟩
 have ht:∀v∈acc.toList,ath:=λv m=>by
  obtain⟨x,hx,rfl⟩:=hm v m;exact CQ (T x hx).2 (eG _ (aDF (amN ⟨x,hx,rfl⟩)))
 have kp:∀b o,ab4->(h1.push (seqObj "list" acc.toList.toArray 0)).get? b=some o:=λb o e=>aab _ (k1 b o e);refine aaa (aeS ?_ (by rw[aI,sizeLine_eq];omega));have zA:(h1.push (seqObj "list" acc.toList.toArray 0)).get? h1.objs.size=some (seqObj "list" acc.toList.toArray 0):=aas _ rfl;refine aaa (abi (abm slot_list_sort ⟨_,zA,rfl⟩ entry_list_sort (br.rK (s:={s with heap:=h1.push (seqObj "list" acc.toList.toArray 0),toks:=tk}) zA (λv m=>?_) (by rw[aI,sizeLine_eq];omega) λout hp wx=>⟨_,rfl,aaj ⟨_,rfl,?_⟩⟩) aoV))
 .obtain⟨x,o,xs,n,i,rr,g0,g1,g2⟩:=ht v m;exact⟨x,o,xs,n,i,rr,g0,kp x o g1,g2⟩
 .have u1:=get?_update_seq zA (λ_=>#[]);have u2:=aab (seqObj "tuple" acc.toList.toArray 0) u1;have u3:=aab (seqObj "list" #[] 0) u2;have u4:=get?_update_seq u3 (λ_=>out.toArray);have so:out.Pairwise (λx y=>ahF):=wx.imp_of_mem λ{x y} mx my vB=>by
   have e1:=fK (ht x (amM mx)) kp;have e2:=fK (ht y (amM my)) kp;rw[<-e1,<-e2];exact vB
  have Y3:((arr prog w xs).toList.map (·.2)).map aiN=xs.map (·.2):=by
   show(((xs.map awP)).map (·.2)).map _=_;rw[aaV,aaV];exact acO λx hx=>cw (Az (T x hx).2)
  have pr:(out.map aiN).Perm L:=by
   refine(hp.map _).trans ?_;rw[eq];refine(((n6 w d ep aiO).map (·.2)).map aiN).trans ?_;rw[Y3];exact pm
  refine h h1 _ tk _ out k1 (λb o e=>?_) u4 (gQ pr (abx.mpr so)) λv hv=>?_
  .have hb:aqS:=aaJ ajc;unfold sortedHeap;rw[aaT _ _ anL];refine aab _ (aab _ ?_);rw[aaT _ _ anL];exact aab _ e
  .obtain⟨x,hx,e⟩:=hm v (amM hv);exact⟨x.1,x.2,e,T x hx⟩
end
noncomputable abbrev Lw(prog:ad2)(w:World)(a:Addr)(xs:ahP):HO:= .ext (CC prog w (!w.params.followText "set-order") a xs)
def CS{prog:ad2}{w:World}{vs:ab2}{k:aa0}(h:IntsAre vs k):ItemsAre ahE k vs:=by
 induction h with
 |nil=>exact .nil
 |cons n t _ ih=>exact .cons aBN ih
section
variable {X:Cx}{U:aa8}{σ:L2.St}{H:Hp}{s:ab_}{c:Addr}{k:aa0}
def wC(I:aa3)(h:cP X.K H c (k.map V.int)):IsT X.prog X.w s.heap k c:=by
 obtain⟨its,rv,⟨o,ho,hc,n,hd⟩,_⟩:=I.tuple h;exact⟨o,its.toArray,n,ho,hc,hd,by simpa using CS arz⟩
def wD(hc:agH)(hu:af2):cR X (.type "set") (λxs H Q=>∃(p:Addr) (us:ad7) (ks:aa_),anc/\cO X.K H p us/\aqV/\(iZ ks).length <=720/\
  ∀(l:Addr) (ys:ahP),aqA->(ys.map (·.2)).Perm (iZ ks)->(∀y∈ys,au7)->Q ahI (aw5 (Lw X.prog X.w l ys))):=by
 intro U s σ H xs us Q I r zz;obtain⟨p,us,ks,rfl,hq,pd,h7,q⟩:=zz;obtain⟨u,rfl,ru⟩:=vals1 r;cases ru;obtain⟨its,rv,pl,hz⟩:=I.list hq;have at':=dW pd rv;refine Ax (vs:=its) (ks:=ks) agY hu pl.isList (by rw[<-rv.length,pd.length]) h7 (λi v hv=>?_) λh' tk hS k=>?_
 .obtain⟨b,_,e,_,_,e4⟩:=at' i v hv;exact⟨b,e,wC I (cP.of e4)⟩
 .obtain⟨ys,pm,T,S⟩:=hS;refine⟨ab7,_,I.laid (t':=tk) (a:=s.heap.objs.size) k ad0 (show aT X.prog X.w _ h' _ (Lw X.prog X.w _ ys) from⟨S,let ⟨o,_,_,ho,_⟩:=S;⟨o,ho⟩,λh1 h2 z kk=>let ⟨o,ep,t,ho,r⟩:=z;⟨o,ep,t,kk o ho,r⟩⟩),rfl,q _ ys I.fresh pm λy hy=>?_⟩;obtain⟨b1,b2⟩:=T y hy;obtain⟨i,hi⟩:=ach.mp b1;obtain⟨b,_,e,_,_,e4⟩:=at' i _ hi;cases e;rw[b2.inj (nX (wC I (cP.of e4)) λo z=>k _ o z)];exact e4
def uJ(hc:agH):cR X (.builtin "sorted") (λxs H Q=>∃(p:Addr) (ys:ahP),anc/\H p=some (Lw X.prog X.w p ys)/\ys.length<=720/\(∀y∈ys,y.2≠[]/\au7)/\
  ∀(l:Addr) (us:ad7),aqA->Paired amd us (aZ (ys.map (·.2)))->ap7):=by
 intro U s σ H xs us Q I r zz;obtain⟨p,ys,rfl,hp,h7,hy,q⟩:=zz;obtain⟨u,rfl,ru⟩:=vals1 r;cases ru;have hS:j7 X.prog X.w _ p (λc=>∃k:aa0,H c=some aoc) (ys.map (·.2)) s.heap:=⟨ys,.refl _,λy m=>⟨⟨y.2,(hy y m).2⟩,wC I (cP.of (hy y m).2)⟩,(I.aR p _ hp).1⟩;refine AA agY hS (by rw[aad];exact h7) (λk m=>let ⟨y,m,e⟩:=aao.mp m;e▸(hy y m).1) λh1 h' tk c vs k1 k2 e a1 a2=>?_;obtain⟨us,hv,aI,pd⟩:=mG I (vs:=vs) λv m=>let ⟨c,_,e,⟨k,hk⟩,_⟩:=a2 v m;⟨c,k,e,hk⟩;rw[a1]at pd;have I1:Inv X U σ H {s with heap:=h1,toks:=tk}:=I.kept (t':=tk) k1;exact⟨aip,_,I1.laid (t':=tk) k2 ad0 (show aT X.prog X.w _ h' _ (aj1 us) from⟨by rw[pd.length,(aK _).length_eq,aad,sizeLine_eq];omega,vs,c,hv,by simpa using e⟩),rfl,q _ us ahv pd⟩
end
end S2
namespace Py
open PySem PySem.Spec PyProof.Rows L2
abbrev St:=L2.St
def Uz(K:aE)(a:Addr)(xs:ad7):Prop:=
 ∃(o:Obj) (its:agI) (n:Nat),K.lookup a=some o/\o.cls= .type "list"/\o.dict=none/\o.data= .seq its n/\its.size<=sizeLine/\aF xs its.toList/\o.slots=#[]
noncomputable def gF(t:Nat)(ks:aa_)(vs:ad7):HO:=if t=0 then .dK ((ks.map λk=>Sum.inl ahG).zip vs) else .dT ((ks.map λk=>aAJ).zip vs)
def uK:HO->Prop
 | .lst _=>True
 | .dK _=>True
 | .dT _=>True
 |_=>False
def nS{α:Type}{x:α}{P:Prop}(h:none=some x):P:=nomatch h
def slot{ρ:Env}{i:Nat}{P:Prop}(n:ρ[i]?=none->P)(m:ρ[i]?=some none->P)(k:∀o d,ρ[i]?=some awM->P):P:=by
 cases e:ρ[i]? with
 |none=>exact n e
 |some o=>cases o with
  |none=>exact m e
  |some t=>exact k t.1 t.2 e
def gT:uK am2:=by unfold gF;split<;>exact trivial
def n_(t:Nat)(ks:aa_):Prop:=ks.Nodup/\(t=0->∀k∈ks,∃i,k=[i])
mutual
inductive bz(K:aE)(O:Addr->Prop)(H:Hp):V->D->Prop
 |cv:bz K O H .cv .cv
 |bl (b:Bool):bz K O H (.bl b) (.bl b)
 |int (i:Int):bz K O H agF agF
 |tup {a vs ds}:am3->ac7->bz K O H ac_ (akb ds)
 |lst {a vs ds}:Rd H a ahp->¬O a->ac7->bz K O H ac_ aoW
 |mod {a vs ds}:Uz K a vs->ac7->bz K O H ac_ aoW
 |bA {a o t ks vs ds}:H a=some (.dJ o am2)->agJ->n_ t ks->ac7->bz K O H ac_ anS
inductive au(K:aE)(O:Addr->Prop)(H:Hp):ad7->ac1->Prop
 |nil:au K O H [] []
 |cons {v d vs ds}:aiM->ac7->au K O H (v::vs) (d::ds)
end
section
variable {K:aE}{O O':Addr->Prop}{H H':Hp}
def iB(ht:∀a vs,am3->aCK)(hl:∀a vs,Rd H a ahp->¬O a->Rd H' a ahp/\¬O' a)(hz:∀a o u,aDn->H' a=some ahD):∀{v d},aiM->apy:=λ{v d} h=>
 bz.rec (motive_1:=λv d _=>apy) (motive_2:=λvs ds _=>aqT) .cv .bl .int (λh _ ih=> .tup (ht _ _ h) ih) (λh n _ ih=> asO) (λh _ ih=> .mod h ih) (λh l z _ ih=> aBu) .nil (λ_ _ i1 i2=> .cons i1 i2) h
def fM(ht:∀a vs,am3->aCK)(hl:∀a vs,Rd H a ahp->¬O a->Rd H' a ahp/\¬O' a)(hz:∀a o u,aDn->H' a=some ahD):∀{vs ds},ac7->aqT:=λ{vs ds} h=>
 au.rec (motive_1:=λv d _=>apy) (motive_2:=λvs ds _=>aqT) .cv .bl .int (λh _ ih=> .tup (ht _ _ h) ih) (λh n _ ih=> asO) (λh _ ih=> .mod h ih) (λh l z _ ih=> aBu) .nil (λ_ _ i1 i2=> .cons i1 i2) h
def j8(s:ait)(h:am3):aCK:=by
 exact s _ _ h
def mL(s:ait)(h:Rd H a u):Rd H' a u:=h.elim (λh=> .inl (s _ _ h)) λ⟨o,h⟩=> .inr ⟨o,s _ _ h⟩
def bz.mono(h:aiM)(s:ait):bz K O H' v d:=iB (λ_ _=>j8 s) (λ_ _ h n=>⟨mL s h,n⟩) (λ_ _ _ h=>s _ _ h) h
def au.mono(h:ac7)(s:ait):au K O H' vs ds:=fM (λ_ _=>j8 s) (λ_ _ h n=>⟨mL s h,n⟩) (λ_ _ _ h=>s _ _ h) h
def bz.weak(h:aiM)(s:∀a,O' a->O a):aqt:=iB (λ_ _ h=>h) (λ_ _ h n=>⟨h,λz=>n (s _ z)⟩) (λ_ _ _ h=>h) h
def au.weak(h:ac7)(s:∀a,O' a->O a):au K O' H vs ds:=fM (λ_ _ h=>h) (λ_ _ h n=>⟨h,λz=>n (s _ z)⟩) (λ_ _ _ h=>h) h
def yl(ha:al6)(hu:uK u)(h:cP K H b vs):cP K aCS b vs:=by
 have h':H b=some (akb vs):=h;show L2.upd H a o b=some (akb vs);rw[aq (c8 h' ha (by intro z;rw[<-z]at hu;exact hu))];exact h'
def ym(ha:al6)(hu:uK u)(h:H b=some (.dJ q w)):L2.upd H a o b=some (.dJ q w):=by
 rw[aq (c8 h ha (by intro z;rw[<-z]at hu;exact hu))];exact h
def yo(qq:b≠a)(h:Rd H b ahp):Rd aCS b ahp:=by
 rcases h with h|⟨u,h⟩
 .exact .inl (by rw[aq qq];exact h)
 .exact .inr ⟨u,by rw[aq qq];exact h⟩
theorem bz.upd(h:aiM)(ho:O a)(ha:al6)(hu:uK u):bz K O aCS v d:=
 iB (λ_ _ h=>yl ha hu h) (λb _ h n=>⟨yo (λz=>n (z▸ho)) h,n⟩) (λ_ _ _ h=>ym ha hu h) h
theorem au.upd(h:ac7)(ho:O a)(ha:al6)(hu:uK u):au K O aCS vs ds:=
 fM (λ_ _ h=>yl ha hu h) (λb _ h n=>⟨yo (λz=>n (z▸ho)) h,n⟩) (λ_ _ _ h=>ym ha hu h) h
def mM(hp:akp):¬Rd H p u:=λh=>by
 rcases h with h|⟨o,h⟩
 .rw[hp]at h;cases h
 .rw[hp]at h;cases h
def au.own(h:ac7)(hp:akp):au K (λa=>O a\/a=p) H vs ds:=
 fM (λ_ _ h=>h) (λb us h n=>⟨h,λz=>z.elim n λe=>mM hp (e▸h)⟩) (λ_ _ _ h=>h) h
def bz.own(h:aiM)(hp:akp):bz K (λa=>O a\/a=p) H v d:=
 iB (λ_ _ h=>h) (λb us h n=>⟨h,λz=>z.elim n λe=>mM hp (e▸h)⟩) (λ_ _ _ h=>h) h
def AB(h:aiM):arJ->aqt:=
 bz.rec (motive_1:=λv d _=>arJ->aqt) (motive_2:=λvs ds _=>aX ds=true->au K O' H vs ds) (λ_=> .cv) (λb _=> .bl b) (λi _=> agF)
  (λh _ ih n=> .tup h (ih (by simpa[aG]using n))) (λ_ _ _ _ n=>absurd n (by simp[aG])) (λ_ _ _ n=>absurd n (by simp[aG])) (λ_ _ _ _ _ n=>absurd n (by simp[aG])) (λ_=> .nil)
  (λ_ _ i1 i2 n=>by
   simp only[aX,aae]at n;exact .cons (i1 n.1) (i2 n.2)) h
theorem au.length:∀{vs:ad7}{ds:ac1},ac7->vs.length=ds.length
 |_,_,.nil =>rfl
 |_,_,.cons _ t=>by rw[aaF,aaF,au.length t]
theorem au.get:∀{vs:ad7}{ds:ac1}{i:Nat}{d:D},ac7->ds[i]?=some d->∃v,vs[i]?=some v/\bz K O H v d
 |_,_,_,_,.nil,e=>by simp at e
 |_,_,0,_,.cons r _,e=>by simp at e;subst e;exact⟨_,rfl,r⟩
 |_,_,i+1,d,.cons _ t,e=>by
  exact aa (au.get (i:=i) (d:=d) t (by simpa using e)) λv h1 h2=>⟨v,by simpa using h1,h2⟩
theorem au.append:∀{xs ys:ad7}{us ws:ac1},asZ->au K O H ys ws->au K O H ayS (us++ws)
 |_,_,_,_,.nil,s=>s
 |_,_,_,_,.cons r t,s=> .cons r (au.append t s)
theorem au.take:∀{xs:ad7}{us:ac1} (n:Nat),asZ->au K O H (xs.take n) (us.take n)
 |_,_,0,_=> .nil
 |_,_,_+1,.nil => .nil
 |_,_,n+1,.cons r t=> .cons r (au.take n t)
theorem au.drop:∀{xs:ad7}{us:ac1} (n:Nat),asZ->au K O H (xs.drop n) (us.drop n)
 |_,_,0,r=>r
 |_,_,_+1,.nil => .nil
 |_,_,n+1,.cons _ t=>au.drop n t
theorem au.set(r:bz K O H x u):∀{xs:ad7}{us:ac1} (i:Nat),asZ->au K O H (xs.set i x) (us.set i u)
 |_,_,_,.nil => .nil
 |_,_,0,.cons _ t=> .cons r t
 |_,_,i+1,.cons q t=> .cons q (au.set r i t)
def bz.int_inv(h:bz K O H v agF):v= .int i:=by cases h;rfl
def bz.wF(h:bz K O H v (.bl i)):v= .bl i:=by cases h;rfl
def bz.Gn(h:bz K O H v .cv):v= .cv :=by cases h;rfl
def bz.gc(h:bz K O H v (akb ds)):∃a vs,ajy/\am3/\ac7:=by
 cases h with
 |tup h1 h2=>exact⟨_,_,rfl,h1,h2⟩
def bz.lst_inv(h:bz K O H v aoW):∃a vs,ajy/\atm/\ac7:=by
 cases h with
 |lst h1 _ h2=>exact⟨_,_,rfl,.inl h1,h2⟩
 |mod h1 h2=>exact⟨_,_,rfl,.inr h1,h2⟩
theorem fN:∀(ns:aa0),au K O H ah7 (ns.map D.int)
 |[]=> .nil
 |n::ns=> .cons (amh n) (fN ns)
def bN(K:aE)(O:Addr->Prop)(b:Bool)(H:Hp)(v:V)(d:D):Prop:=
 bz K O H v d\/(b=true/\∃a vs ds,ajy/\aos/\al7/\ac7)
variable {b:Bool}{v:V}{d:D}
theorem bN.mono(h:asY)(s:ait):bN K O b H' v d:=by
 rcases h with h|⟨e,a,vs,ds,h1,h2,h3,h4⟩
 .exact .inl (h.mono s)
 .exact .inr ⟨e,a,vs,ds,h1,h2,s _ _ h3,h4.mono s⟩
def bN.own(h:bN K O false H v d):aiM:=h.elim id λz=>absurd z.1 aai
theorem bN.int(h:bN K O b H v agF):v= .int i:=by
 rcases h with h|⟨_,_,_,_,_,h,_⟩
 .exact h.int_inv
 .cases h
theorem bN.bl(h:bN K O b H v (.bl i)):v= .bl i:=by
 rcases h with h|⟨_,_,_,_,_,h,_⟩
 .exact h.wF
 .cases h
theorem bN.cv(h:bN K O b H v .cv):v= .cv :=by
 rcases h with h|⟨_,_,_,_,_,h,_⟩
 .exact h.Gn
 .cases h
theorem bN.tup(h:bN K O b H v (akb ds)):∃a vs,ajy/\am3/\ac7:=by
 rcases h with h|⟨_,_,_,_,_,h,_⟩
 .exact h.gc
 .cases h
theorem bN.lst(h:bN K O b H v aoW):∃a vs,ajy/\atm/\ac7:=by
 rcases h with h|⟨_,a,vs,P7,h1,h2,h3,h4⟩
 .exact h.lst_inv
 .cases h2;exact⟨a,vs,h1,cO.of h3,h4⟩
theorem bN.seq(h:asY)(e:Py.seq d=some xs):∃a vs,ajy/\(atm\/am3)/\au K O H vs xs:=by
 cases d with
 |lst ds=>
  cases e;obtain⟨a,vs,h1,h2,h3⟩:=h.lst;exact⟨a,vs,h1,.inl h2,h3⟩
 |tup ds=>
  cases e;obtain⟨a,vs,h1,h2,h3⟩:=h.tup;exact⟨a,vs,h1,.inr h2,h3⟩
 |_=>cases e
def bN.Lx(h:bN K O b H v anS):∃a,ajy:=by
 rcases h with h|⟨_,_,_,_,_,h,_⟩
 .cases h;exact⟨_,rfl⟩
 .cases h
def bN.any(h:asY):bz K (λ_=>False) H v d:=by
 rcases h with h|⟨_,a,vs,P7,h1,h2,h3,h4⟩
 .exact h.weak λ_ z=>z.elim
 .subst h1 h2;exact .lst (akf h3) id (h4.weak λ_ z=>z.elim)
end
def eL(K:aE)(O:Addr->Prop)(H:Hp)(a:Addr)(d:D):Prop:=
 (∃vs ds,aos/\al7/\ac7)\/
 (∃t ks vs ds,d= .bA t ks ds/\H a=some am2/\agJ/\n_ t ks/\ac7)\/
 d=v_/\∃u,al6/\uK u
section
variable {K:aE}{O O':Addr->Prop}{H H':Hp}{a:Addr}{d:D}
theorem eL.mono(h:avV)(s:ait):eL K O H' a d:=by
 rcases h with⟨vs,ds,e1,e2,e3⟩|⟨t,ks,vs,ds,e1,e2,e3,e4,e5⟩|⟨e1,u',e2,e3⟩
 .exact .inl ⟨vs,ds,e1,s _ _ e2,e3.mono s⟩
 .exact .inr (akf ⟨t,ks,vs,ds,e1,s _ _ e2,e3,e4,e5.mono s⟩)
 .exact .inr (amY ⟨e1,u',s _ _ e2,e3⟩)
theorem eL.weak(h:avV)(s:∀a,O' a->O a):eL K O' H a d:=by
 rcases h with⟨vs,ds,e1,e2,e3⟩|⟨t,ks,vs,ds,e1,e2,e3,e4,e5⟩|⟨e1,u',e2,e3⟩
 .exact .inl ⟨vs,ds,e1,e2,e3.weak s⟩
 .exact .inr (akf ⟨t,ks,vs,ds,e1,e2,e3,e4,e5.weak s⟩)
 .exact .inr ap1
theorem eL.own(h:avV)(hp:akp):eL K (λa=>O a\/a=p) H a d:=by
 rcases h with⟨vs,ds,e1,e2,e3⟩|⟨t,ks,vs,ds,e1,e2,e3,e4,e5⟩|⟨e1,u',e2,e3⟩
 .exact .inl ⟨vs,ds,e1,e2,e3.own hp⟩
 .exact .inr (akf ⟨t,ks,vs,ds,e1,e2,e3,e4,e5.own hp⟩)
 .exact .inr ap1
theorem eL.upd(h:avV)(hb:a≠b)(ho:O b)(WA:aot)(hu:uK u):eL K O (aB6 o) a d:=by
 rcases h with⟨vs,ds,e1,e2,e3⟩|⟨t,ks,vs,ds,e1,e2,e3,e4,e5⟩|⟨e1,u',e2,e3⟩
 .exact .inl ⟨vs,ds,e1,by rw[aq hb];exact e2,e3.upd ho WA hu⟩
 .exact .inr (.inl ⟨t,ks,vs,ds,e1,by rw[aq hb];exact e2,e3,e4,e5.upd ho WA hu⟩)
 .exact .inr (.inr ⟨e1,u',by rw[aq hb];exact e2,e3⟩)
theorem eL.lst(h:eL K O H a aoW):∃vs,al7/\ac7:=by
 rcases h with⟨vs,ds,e1,e2,e3⟩|⟨t,ks,vs,ds,e1,_⟩|⟨e1,_⟩
 .cases e1;exact⟨vs,e2,e3⟩
 .cases e1
 .cases e1
theorem eL.bA(h:eL K O H a anS)(h2:t≠2):∃vs,H a=some am2/\agJ/\n_ t ks/\ac7:=by
 rcases h with⟨vs,ds,e1,e2,e3⟩|⟨t,ks,vs,ds,e1,e2,e3,e4,e5⟩|⟨e1,u',e2,e3⟩
 .cases e1
 .cases e1;exact⟨vs,e2,e3,e4,e5⟩
 .cases e1;exact absurd rfl h2
end
structure EX(K:aE)(O:Addr->Prop)(σ:St)(H:Hp)(ρ:Env):Prop where
 live:∀a,O a->∃u,al6/\uK u
 kK:∀(i:Nat) (o:Bool) (d:D),ρ[i]?=some awM->∃v,σ[i]?=some amJ/\
  if o=true then∃a,ajy/\O a/\eL K O H a d else bz K O H v d
theorem EX.mono{K:aE}(h:ahT)(s:ait):EX K O σ H' ρ:=by
 refine⟨λa ha=>let ⟨u,e,q⟩:=h.live a ha;⟨u,s _ _ e,q⟩,λi o d e=>?_⟩;refine aa (h.kK i o d e) λv h1 h2=>⟨v,h1,?_⟩;cases o with
 |true=>
  exact bF h2 λa e1 e2 c=>⟨a,e1,e2,c.mono s⟩
 |false=>exact bz.mono h2 s
def EX.free{K:aE}(h:ahT)(s:atv)(hp:ak9):¬O p:=λz=>by
 refine aa (h.live p z) λvs e _=>?_;rw[s _ _ e]at hp;cases hp
def bind_some{α β:Type}{o:ayb}{f:α->Option β}{y:β}(h:o.bind f=some y):∃x,o=some x/\f x=some y:=by
 cases o with
 |none=>cases h
 |some x=>exact⟨x,rfl,h⟩
def map_some{α β:Type}{o:ayb}{f:α->β}{y:β}(h:o.map f=some y):∃x,o=some x/\f x=y:=by
 cases o with
 |none=>cases h
 |some x=>exact⟨x,rfl,aaI h⟩
def tV(K:aE)(b:Bool)(f:Env->ahN):TE:=λσ H Q=>∃O ρ d,ahT/\f ρ=some d/\∀v H',ait->bN K O b H' v d->Q v H'
def tF(K:aE)(f:Env->alm):TE:=λσ H Q=>∃O ρ ds,ahT/\aCC/\∀p vs H1,atv->ak9->au K O H1 vs ds->Q ahg (akH ahp)
def tB(K:aE)(f:Env->alP):TT:=λσ H Q=>∃O ρ k,ahT/\f ρ=some k/\∀H',ait->Q k H'
def vD(K:aE)(b:Bool)(f:Env->alm):TA:=λσ H Q=>∃O ρ ds,ahT/\aCC/\∀vs H',ait->Paired (bN K O b H') vs ds->Q vs H'
theorem ag.upd(h:akp):ag H (L2.upd H p o):=λb u e=>by rw[aq (bZ e h)];exact e
section
variable {X:Cx}{a b c e:Expr}{pos:Pos}{m:Bool}{es:ag7}
def _root_.L2.PE.weak(h:PE X e t)(w:∀σ H Q,t' σ H Q->aql):PE X e t':=λU s σ H Q I q=>h U s σ H Q I (w σ H Q q)
def _root_.L2.PT.weak(h:PT X e t)(w:∀σ H Q,t' σ H Q->aql):PT X e t':=λU s σ H Q I q=>h U s σ H Q I (w σ H Q q)
def Gp{f:Env->Option D}(h:PE X e (tF X.K f'))(hf:∀ρ d,f ρ=some d->∃ds,f' ρ=some ds/\aos):as3:=h.weak λσ H Q zz=>by
 refine cC zz λO ρ d hx hd k=>aa (hf ρ d hd) λds e1 ak=>?_;subst ak;refine⟨O,ρ,ds,hx,e1,λp vs H1 s1 hp r=>k _ _ axG (akf (.lst aw2 (hx.free s1 hp) (r.mono ahu)))⟩
def v_var(hN:X.N[i]?=some x)(hv:ah0)(hd:aik)(Bt:(x==("__classdict__":Str))=false):PE X anT (tV X.K m λρ=>rd m ρ i):=
 (bD hN hv hd Bt).weak λσ H Q zz=>by
  refine cC zz λO ρ d hx hd k=>?_;have hd:rd m ρ i=some d:=hd;unfold rd at hd;split at hd
  .rename_i o d' e;refine aa (hx.kK i o d' e) λv h1 h2=>⟨v,h1,k v H ad1 ?_⟩;cases o with
   |true=>
    cases m with
    |true=>
     refine bF h2 λa e1 e2 c=>?_;rcases c with⟨vs,ds,f1,f2,f3⟩|⟨t,ks,vs,ds,f1,_⟩|⟨f1,_⟩
     .subst f1;cases hd;exact .inr ⟨rfl,a,vs,ds,e1,rfl,f2,f3⟩
     .subst f1;cases hd
     .subst f1;cases hd
    |false=>cases hd
   |false=>
    cases hd;exact .inl h2
  .cases hd
def R7(h:PE X e (tC v))(r:∀K O H,aiM):PE X e (tV X.K m λ_=>some d):=h.weak λσ H Q zz=>by
 refine cC zz λO ρ d' hx hd k=>?_;cases hd;exact k v H ad1 (akf (r _ _ _))
def yp{g:D->D->Option D}(ha:ahd)(hb:aiK)(mk:∀ta tb,anr->aur->PE X e aq_)
  (hr:∀O σ (ρ:Env) H x y d v w Q,awZ->bN X.K O true H v x->bN X.K O true H w y->g x y=some d->(∀u H',ait->bN X.K O m H' u d->Q u H')->r v w H Q):
  PE X e (tV X.K m λρ=>(fa ρ).bind λx=>(fb ρ).bind λy=>g x y):=(mk _ _ ha hb).weak λσ H Q zz=>by
 exact cC zz λO ρ d hx hd k=>aa aa6 λx e1 hd=>aa aa6 λy e2 hd=>⟨O,ρ,x,hx,e1,λv H1 s1 r1=>⟨O,ρ,y,aho,e2,λw H2 s2 r2=>hr O σ ρ H2 x y d v w Q aqY auR r2 hd λu H' s' r'=>k u H' apH r'⟩⟩
def _root_.L2.PE.Y4(h:∀ρ,f ρ=none):as3:=λU s σ H Q I ⟨O,ρ,d,hx,hd,k⟩=>by rw[h]at hd;cases hd
def IV(K:aE):R2:=λx y H Q=>∃l b xs zs,at6/\aru/\cO K H l xs/\cO K H b zs/\awj/\∀p,akp->Q ahg (L2.upd H p (aj1 (xs++zs)))
def Gq:lR X aob (IV X.K):=by
 intro U s σ H x y v u Q I rx ry h;refine EY h λl b xs zs ak aN hl hb hz q=>?_
 try clear h
 subst ak;subst aN;cases rx;cases ry;refine il (I.ID hl) λits n r e1 e z=>il (I.ID hb) λjh n2 r2 aa e2 z2=>PySem.P.add_list e e2 ?_ (by rw[aaq,aaq];lia);have ea:its.toArray++jh.toArray=(its++jh).toArray :=by simp
 rw[ea];exact⟨.ref _,_,I.Oy (t':=s.toks) (r.append r2) (by rw[aan];exact hz),rfl,q _ I.fresh⟩
noncomputable def IW(K:aE):R2:=λx y H Q=>∃a b ys,ajw/\aru/\cP K H a []/\cP K H b ys/\Q ajh H
def Kg(K:aE):R2:=λx y H Q=>Ob (λi j=> .int (i+j)) x y H Q\/Iy K x y H Q\/IV K x y H Q\/IW K x y H Q
def qu:lR X aob (Kg X.K):=J_.or (lR.or Fl (lR.or Gq (r':=IW X.K) FG))
def cH:(sizeLine:Nat)=bX:=by rw[sizeLine_eq];rfl
def v_add(ha:ahd)(hb:aiK):PE X (at4 .Add) (tV X.K m λρ=>(fa ρ).bind λx=>(fb ρ).bind λy=>bin .Add x y):=
 yp (r:=Kg X.K) ha hb (λ_ _ h1 h2=>tK qu h1 h2) λO σ ρ H x y d v w Q hx r1 r2 hd k=>by
  cases x with
  |int i=>
   cases y with
   |int j=>cases hd;exact .inl ⟨i,j,r1.int,az5,aub⟩
   |_=>cases hd
  |tup us=>
   cases y with
   |tup ws=>
    simp only[bin]at hd;split at hd
    .rename_i hz;cases hd;refine bg r1.tup λa1 vs ak q1 p1=>?_;subst ak;refine bg r2.tup λa2 zs aN q2 p2=>?_;subst aN;have l1:=p1.length;have l2:=p2.length;by_cases eG:vs=[]
     .subst eG;cases p1;exact .inr (amY (.inr ⟨a1,a2,zs,rfl,rfl,q1,q2,k _ _ ad1 (akf (.tup q2 p2))⟩))
     .refine .inr (.inl ⟨a1,a2,vs,zs,rfl,rfl,q1,q2,eG,by rw[cH,l1,l2];exact hz,λez=>?_,λ_ p hp=>?_⟩)
      .subst ez;cases p2;rw[abf]at k;exact k _ _ ad1 (akf (.tup q1 p1))
      .exact k _ _ ahu (akf (ao_ ayj))
    .cases hd
   |_=>cases hd
  |lst us=>
   cases y with
   |lst ws=>
    simp only[bin]at hd;split at hd
    .rename_i hz;cases hd;refine bg r1.lst λa1 vs cV q1 p1=>?_;subst cV;refine bg r2.lst λa2 zs nQ q2 p2=>?_;subst nQ;have l1:=p1.length;have l2:=p2.length;refine .inr (.inr (.inl ⟨a1,a2,vs,zs,rfl,rfl,q1,q2,by rw[cH,l1,l2];exact hz,λp hp=>?_⟩));exact k _ _ ahu (akf (.lst aw2 (hx.free ad1 hp) ayj))
    .cases hd
   |_=>cases hd
  |_=>cases hd
def P8(ha:ahd)(hb:aiK):PE X (at4 .Add) (tF X.K λρ=>((fa ρ).bind λx=>(fb ρ).bind λy=>bin .Add x y).bind λd=>match d with| .lst ds=>some ds|_=>none):=
 (tK qu ha hb).weak λσ H Q zz=>by
  refine cC zz λO ρ ds hx hd k=>aa aa6 λz hd Nv=>aa aa6 λx e1 hd=>aa aa6 λy e2 hd=>⟨O,ρ,x,hx,e1,λv H1 s1 r1=>⟨O,ρ,y,aho,e2,λw H2 s2 r2=>?_⟩⟩;have pQ:=r1.mono s2;cases x with
  |lst us=>
   cases y with
   |lst ws=>
    simp only[bin]at hd;split at hd
    .rename_i hz;cases hd;cases Nv;refine bg pQ.lst λa1 vs ak q1 p1=>?_;subst ak;refine bg r2.lst λa2 zs aN q2 p2=>?_;subst aN;have l1:=p1.length;have l2:=p2.length;exact .inr (.inr (.inl ⟨a1,a2,vs,zs,rfl,rfl,q1,q2,by rw[cH,l1,l2];exact hz,λp hp=>k p _ H2 agV hp (p1.append p2)⟩))
    .cases hd
   |_=>cases hd
  |int i=>
   cases y with
   |int j=>cases hd;cases Nv
   |_=>cases hd
  |tup i=>
   cases y with
   |tup j=>
    simp only[bin]at hd;split at hd<;>cases hd<;>cases Nv
   |_=>cases hd
  |_=>cases hd
def Gr(h:axN):E7 i j:=by
 unfold nE at h;simp only[aeX,aae,decide_eq_true_eq]at h;exact h
def IX(ha:ahd)(hb:aiK):PE X (at4 o) (tV X.K m λρ=>(fa ρ).bind λx=>(fb ρ).bind λy=>bin o x y):=by
 have no:∀(f:Env->ahN) (g:Env->ahN),(∀ρ,((f ρ).bind λ_=>(g ρ).bind λ_=>(none:ahN))=none):=λf g ρ=>by
  cases f ρ<;>simp
 cases o with
 |Add=>exact v_add ha hb
 |Mult=>
  exact yp ha hb (λ_ _ h1 h2=>tK J' h1 h2) λO σ ρ H x y d v w Q hx r1 r2 hd k=>by
   cases x with
   |int i=>
    cases y with
    |int j=>
     simp only[bin]at hd;split at hd
     .rename_i hz;cases hd;exact⟨i,j,r1.int,az5,Gr hz,aub⟩
     .cases hd
    |_=>cases hd
   |_=>cases hd
 |FloorDiv=>
  exact yp ha hb (λ_ _ h1 h2=>tK E8 h1 h2) λO σ ρ H x y d v w Q hx r1 r2 hd k=>by
   cases x with
   |int i=>
    cases y with
    |int j=>
     simp only[bin]at hd;split at hd
     .rename_i hz;cases hd;exact⟨i,j,r1.int,az5,hz,aub⟩
     .cases hd
    |_=>cases hd
   |_=>cases hd
 |Mod=>
  exact yp ha hb (λ_ _ h1 h2=>tK Ka h1 h2) λO σ ρ H x y d v w Q hx r1 r2 hd k=>by
   cases x with
   |int i=>
    cases y with
    |int j=>
     simp only[bin]at hd;split at hd
     .rename_i hz;cases hd;exact⟨i,j,r1.int,az5,hz,aub⟩
     .cases hd
    |_=>cases hd
   |_=>cases hd
 |_=>exact PE.Y4 λρ=>no fa fb ρ
def CT(h:KH d=some i):d= .int i:=by cases d<;>first|(cases h;rfl)|cases h
def fO(h:fE d=some i):d= .bl i:=by cases d<;>first|(cases h;rfl)|cases h
mutual
noncomputable def gG:D->PyData
 | .cv => .none
 | .bl b=> .bool b
 | .int i=> .int i
 | .tup xs=> .tuple aze
 | .lst xs=> .list aze
 | .bA _ _ _=> .none
noncomputable def dg:ac1->List PyData
 |[]=>[]
 |x::xs=>gG x::dg xs
end
mutual
theorem j9:∀x y:D,PyData.eqv (gG x) (gG y)=pB x y
 | .cv,y=>by cases y<;>rfl
 | .bl b,y=>by cases y<;>rfl
 | .int b,y=>by cases y<;>rfl
 | .tup xs,y=>by
  cases y with
  |tup ys=>exact k_ xs ys
  |_=>rfl
 | .lst xs,y=>by
  cases y with
  |lst ys=>exact k_ xs ys
  |_=>rfl
 | .bA _ _ _,y=>by cases y<;>rfl
theorem k_:∀xs ys:ac1,PyData.eqvAll aze (dg ys)=A' xs ys
 |[],ys=>by cases ys<;>rfl
 |x::xs,ys=>by
  cases ys with
  |nil=>rfl
  |cons y ys=>show(PyData.eqv (gG x) (gG y)&&PyData.eqvAll aze (dg ys))=(pB x y&&A' xs ys);rw[j9 x y,k_ xs ys]
end
mutual
theorem jo:∀(x:D) (n:Nat),gI x n=true->(gG x).canLay0 =true/\(gG x).depth <=n
 | .cv,n,h=>⟨rfl,abk _⟩
 | .bl b,n,h=>⟨rfl,abk _⟩
 | .int i,n,h=>⟨rfl,abk _⟩
 | .tup xs,0,h=>nomatch (show false=true from h)
 | .lst xs,0,h=>nomatch (show false=true from h)
 | .bA _ _ _,n,h=>nomatch (show false=true from h)
 | .tup xs,n+1,h=>by
  have:=iC xs n h;exact⟨this.1,acD this.2⟩
 | .lst xs,n+1,h=>by
  have:=iC xs n h;exact⟨this.1,acD this.2⟩
theorem iC:∀(xs:ac1) (n:Nat),eJ xs n=true->PyData.canLayAll0 aze=true/\PyData.depthAll aze<=n
 |[],n,h=>⟨rfl,abk _⟩
 |x::xs,n,h=>by
  have h:=abW.mp (show(gI x n&&eJ xs n)=true from h);have a:=jo x n h.1;have b:=iC xs n h.2;exact⟨abW.mpr ⟨a.1,b.1⟩,Nat.max_le.mpr ⟨a.2,b.2⟩⟩
end
def fP(I:aa3)(h:bz X.K O H v d):∀n,gI d n=true->∀u,amu->∃as,aAi:=
 bz.rec (motive_1:=λv d _=>∀n,gI d n=true->∀u,amu->∃as,aAi) (motive_2:=λvs ds _=>∀n,eJ ds n=true->∀us,axk->∃as,ReadsAll s.heap us (dg ds) as)
  (λ_ _ u r=>by cases r;exact⟨_,by rw[gG];exact .none⟩) (λb _ _ u r=>by cases r;exact⟨_,by rw[gG];exact .bool b⟩) (λi _ _ u r=>by obtain⟨t,rfl⟩:=r;exact⟨_,by rw[gG];exact .int i t⟩)
  (λ{a vs ds} h _ ih n hl u r=>by
   cases r;cases n with
   |zero=>exact nomatch (show false=true from hl)
   |succ n=>
    obtain⟨its,rv,⟨o,ho,hc,n',hd⟩,hz⟩:=I.tuple h;obtain⟨as,ra⟩:=ih n hl its rv;exact⟨as,by rw[gG];exact .tuple ho hc hd (by simpa using ra)⟩)
  (λ{a vs ds} h _ _ ih n hl u r=>by
   cases r;cases n with
   |zero=>exact nomatch (show false=true from hl)
   |succ n=>
    obtain⟨its,rv,⟨o,n',ho,hc,_,hd⟩,hz⟩:=I.list (akf h);obtain⟨as,ra⟩:=ih n hl its rv;exact⟨_,by rw[gG];exact .list ho hc hd (by simpa using ra)⟩)
  (λ{a vs ds} h _ ih n hl u r=>by
   cases r;cases n with
   |zero=>exact nomatch (show false=true from hl)
   |succ n=>
    obtain⟨its,rv,⟨o,n',ho,hc,_,hd⟩,hz⟩:=I.list (amY h);obtain⟨as,ra⟩:=ih n hl its rv;exact⟨_,by rw[gG];exact .list ho hc hd (by simpa using ra)⟩)
  (λ_ _ _ _ _ n hl _ _=>absurd hl (by simp[gI]))
  (λ_ _ us r=>by cases r;exact⟨[],by rw[dg];exact .nil⟩)
  (λ{v d vs ds} _ _ i1 i2 n hl us r=>by
   simp only[eJ,aae]at hl;cases r with
   |cons r1 r2=>
    obtain⟨a1,q1⟩:=i1 n hl.1 _ r1;obtain⟨a2,q2⟩:=i2 n hl.2 _ r2;exact⟨a1++a2,by rw[dg];exact .cons q1 q2⟩) h
def P9(K:aE)(neg:Bool):R2:=λx y H Q=>∃dx dy,bz K (λ_=>False) H x dx/\bz K (λ_=>False) H y dy/\gI dx 60=true/\gI dy 60=true/\Q (.bl (if neg then !pB dx dy else pB dx dy)) H
def Ly(hu:af2):lR X (aqL .Eq) (P9 X.K false):=by
 intro U s σ H x y v u Q I rx ry zz;refine kH zz λdx dy r1 r2 l1 l2 q=>?_;obtain⟨a1,q1⟩:=fP I r1 60 l1 v rx;obtain⟨a2,q2⟩:=fP I r2 60 l2 u ry;have b1:=jo dx 60 l1;have b2:=jo dy 60 l2;exact SeqAt.compareEq_reads q1 q2 b1.1 b2.1 (by lia) ⟨.bl _,H,I,rfl,by rw[j9];exact q⟩
def Lz(hu:af2):lR X (aqL .NotEq) (P9 X.K true):=by
 intro U s σ H x y v u Q I rx ry zz;refine kH zz λdx dy r1 r2 l1 l2 q=>?_;obtain⟨a1,q1⟩:=fP I r1 60 l1 v rx;obtain⟨a2,q2⟩:=fP I r2 60 l2 u ry;have b1:=jo dx 60 l1;have b2:=jo dy 60 l2;exact SeqAt.compareNe_reads q1 q2 b1.1 b2.1 (by lia) ⟨.bl _,H,I,rfl,by rw[j9];exact q⟩
theorem uL(x:D):∀ys:ac1,((dg ys).any λy=>y.eqv (gG x))=ys.any λy=>pB y x
 |[]=>by rw[dg];rfl
 |y::ys=>by rw[dg,aeg,aeg,j9,uL x ys]
noncomputable def UA(K:aE):R2:=λx y H Q=>∃dx dy ys,(dy= .lst ys\/dy= .tup ys)/\bz K (λ_=>False) H x dx/\bz K (λ_=>False) H y dy/\gI dx 60=true/\gI dy 60=true/\Q (.bl (!ys.any λz=>pB z dx)) H
def LA(hu:af2):lR X (aqL .NotIn) (UA X.K):=by
 intro U s σ H x y v u Q I rx ry zz;obtain⟨dx,dy,ys,hy,r1,r2,l1,l2,q⟩:=zz;obtain⟨a1,q1⟩:=fP I r1 60 l1 v rx;obtain⟨a2,q2⟩:=fP I r2 60 l2 u ry;have hl:eJ ys 59=true:=by rcases hy with rfl|rfl<;>exact l2
 have g:=aaO (adU (aaf (Nat.min_le_left (PyData.depthAll (dg ys)) (gG dx).depth) (iC ys 59 hl).2) _) (aaO (adU (show 60<=64 by decide) _) hu);have fin:EP X U σ Q (aDH (!(dg ys).any λy=>PyData.eqv y (gG dx))) s:=⟨.bl _,H,I,rfl,by rw[uL];exact q⟩;rcases hy with rfl|rfl
 .exact SeqAt.notIn_list_reads q2 q1 (iC ys 59 hl).1 (jo dx 60 l1).1 g fin
 .exact SeqAt.notIn_tuple_reads q2 q1 (iC ys 59 hl).1 (jo dx 60 l1).1 g fin
def CU(hu:af2):∃r,axO/\∀O σ (ρ:Env) H x y k v w Q,awZ->bN X.K O true H v x->bN X.K O true H w y->cmp op x y=some k->(∀H',ait->Q (.bl k) H')->r v w H Q:=by
 cases op with
 |Eq=>
  refine⟨_,Ly hu,λO σ ρ H x y k v w Q hx r1 r2 hd q=>?_⟩;simp only[cmp]at hd;split at hd
  .rename_i hl;rw[aae]at hl;cases hd;exact⟨x,y,r1.any,r2.any,hl.1,hl.2,q _ ad1⟩
  .cases hd
 |NotEq=>
  refine⟨_,Lz hu,λO σ ρ H x y k v w Q hx r1 r2 hd q=>?_⟩;simp only[cmp]at hd;split at hd
  .rename_i hl;rw[aae]at hl;cases hd;exact⟨x,y,r1.any,r2.any,hl.1,hl.2,q _ ad1⟩
  .cases hd
 |IsNot=>
  refine⟨_,E9,λO σ ρ H x y k v w Q hx r1 r2 hd q=>?_⟩;cases y with
  |cv=>
   simp only[cmp]at hd;cases r2.cv;refine⟨rfl,?_⟩;have:(!decide (v= .cv))=k:=by
    cases hd;cases x with
    |cv=>cases r1.cv;rfl
    |bl i=>cases r1.bl;rfl
    |int i=>cases r1.int;rfl
    |tup i=>obtain⟨_,_,rfl,_⟩:=r1.tup;rfl
    |lst i=>obtain⟨_,_,rfl,_⟩:=r1.lst;rfl
    |bA t ks i=>obtain⟨_,rfl⟩:=r1.Lx;rfl
   rw[this];exact q _ ad1
  |_=>cases hd
 |NotIn=>
  refine⟨_,LA hu,λO σ ρ H x y k v w Q hx r1 r2 hd q=>?_⟩;cases y with
  |lst ys=>
   simp only[cmp]at hd;split at hd
   .rename_i hl;rw[aae]at hl;cases hd;exact⟨x,_,ys,agR,r1.any,r2.any,hl.1,hl.2,q _ ad1⟩
   .cases hd
  |tup ys=>
   simp only[cmp]at hd;split at hd
   .rename_i hl;rw[aae]at hl;cases hd;exact⟨x,_,ys,.inr rfl,r1.any,r2.any,hl.1,hl.2,q _ ad1⟩
   .cases hd
  |_=>cases hd
 |Lt=>
  refine⟨_,Oc,λO σ ρ H x y k v w Q hx r1 r2 hd q=>?_⟩;cases x with
  |int i=>
   cases y with
   |int j=>cases hd;exact⟨i,j,r1.int,az5,q _ ad1⟩
   |_=>cases hd
  |_=>cases hd
 |_=>exact⟨λ_ _ _ _=>False,λ_ _ _ _ _ _ _ _ _ _ _ _ h=>h.elim,λ_ _ _ _ _ _ _ _ _ _ _ _ _ hd _=>by cases hd⟩
def P_(hu:af2)(ha:ahd)(hb:aiK)(hm:air):
  PE X aic (tV X.K m λρ=>(fa ρ).bind λx=>(fb ρ).bind λy=>(cmp op x y).map .bl):=by
 refine aa (CU (op:=op) hu) λr ho hr=>(E_ ho ha hb hm).weak λσ H Q zz=>cC zz λO ρ d hx hd k=>aa aa6 λx e1 hd=>aa aa6 λy e2 hd=>aa af4 λq e3 ak=>?_;subst ak;exact⟨O,ρ,x,hx,e1,λv H1 s1 r1=>⟨O,ρ,y,aho,e2,λw H2 s2 r2=>hr O σ ρ H2 x y q v w Q aqY auR r2 e3 λH' s'=>k _ H' apH anK⟩⟩
def Qa(hu:af2)(ha:ahd)(hb:aiK)(hm:air):
  PT X aic (tB X.K λρ=>((fa ρ).bind λx=>(fb ρ).bind λy=>(cmp op x y).map .bl).bind fE):=by
 refine aa (CU (op:=op) hu) λr ho hr=>(Fb ho ha hb hm).weak λσ H Q zz=>cC zz λO ρ d hx hd k=>aa aa6 λz hd hz=>aa aa6 λx e1 hd=>aa aa6 λy e2 hd=>aa af4 λq e3 ak=>?_;subst ak;have FF:q=d:=aaI hz;subst FF;exact⟨O,ρ,x,hx,e1,λv H1 s1 r1=>⟨O,ρ,y,aho,e2,λw H2 s2 r2=>hr O σ ρ H2 x y q v w _ aqY auR r2 e3 λH' s'=>⟨q,rfl,k H' apH⟩⟩⟩
def dE(h:agZ)(he:∀whole,isTrue e X.env whole=(do let v<-whole;standAt e.pos;holding [v] at7)):PT X e (tB X.K λρ=>alT):=
 (JM h he).weak λσ H Q zz=>by
  refine cC zz λO ρ k hx hd q=>aa aa6 λx e1 hd=>?_;cases fO hd;exact⟨O,ρ,_,hx,e1,λv H1 s1 r1=>⟨k,r1.bl,ayZ⟩⟩
def v_not(ha:aya):PE X am_ (tV X.K m λρ=>((fa ρ).bind fE).map λk=> .bl !k):=
 (JS ha).weak λσ H Q zz=>by
  refine cC zz λO ρ d hx hd k=>aa af4 λx mz ak=>?_;subst ak;refine aa azo λy e1 og=>?_;cases fO og;exact⟨O,ρ,_,hx,e1,λv H1 s1 r1=>⟨x,r1.bl,k _ H1 s1 anK⟩⟩
def Qb{fa:Env->Option D}(ha:PT X a (tB X.K λρ=>ar1)):PT X am_ (tB X.K λρ=>(((fa ρ).bind fE).map λk=>D.bl !k).bind fE):=
 (JP ha).weak λσ H Q zz=>by
  refine cC zz λO ρ d hx hd k=>aa aa6 λx mz h2=>aa (akG mz) λy og ak=>?_;subst ak;cases h2;exact⟨O,ρ,y,hx,og,λH1 s1=>k H1 s1⟩
noncomputable def bo(k:Bool):BoolOp:=if k then .And else .Or
def LB(ha:aya):PE X (aj5 [a]) (tV X.K m λρ=>(((fa ρ).bind fE).bind λx=>if x=k then some k else some x).map .bl):=
 (JQ (op:=bo k) ha).weak λσ H Q zz=>by
  refine cC zz λO ρ d hx hd q=>aa af4 λy mz ak=>?_;subst ak;refine aa azo λx og hy=>aa (ajR og) λz e1 Qc=>?_;cases fO Qc;have:x=y:=by
   split at hy
   .rename_i e;cases hy;exact e
   .cases hy;rfl
  subst this;exact⟨O,ρ,_,hx,e1,λv H1 s1 r1=>q v H1 s1 (akf r1.own)⟩
def Qd{fr:Env->Option Bool}(ha:aya)(hr:PE X (aj5 (b::es)) (tV X.K false λρ=>(fr ρ).map .bl)):
  PE X (aj5 (a::b::es)) (tV X.K m λρ=>(((fa ρ).bind fE).bind λx=>if x=k then fr ρ else some x).map .bl):=by
 cases k with
 |true=>
  refine PE.weak (JR ha hr) λσ H Q zz=>cC zz λO ρ d hx hd q=>aa af4 λy mz ak=>?_;subst ak;refine aa azo λx og hy=>aa (ajR og) λz e1 Qc=>?_;cases fO Qc;refine⟨O,ρ,_,hx,e1,λv H1 s1 r1=>⟨x,r1.bl,?_⟩⟩;cases x with
  |true=>exact ny ⟨O,ρ,.bl y,aho,by rw[aav rfl]at hy;show(fr ρ).map D.bl=_;rw[hy];rfl,λv H2 s2 r2=>aAB⟩
  |false=>rw[aaC aai]at hy;cases hy;exact pL (q _ H1 s1 anK)
 |false=>
  refine PE.weak (N6 ha hr) λσ H Q zz=>cC zz λO ρ d hx hd q=>aa af4 λy mz aN=>?_;subst aN;refine aa azo λx og hy=>aa (ajR og) λz e1 Qc=>?_;cases fO Qc;refine⟨O,ρ,_,hx,e1,λv H1 s1 r1=>⟨x,r1.bl,?_⟩⟩;cases x with
  |false=>exact pL ⟨O,ρ,.bl y,aho,by rw[aav rfl]at hy;show(fr ρ).map D.bl=_;rw[hy];rfl,λv H2 s2 r2=>aAB⟩
  |true=>rw[aaC aa2]at hy;cases hy;exact ny (q _ H1 s1 anK)
def LC{fa:Env->Option D}(ha:PT X a (tB X.K λρ=>ar1)):PW X (aj5 [a]) (tB X.K λρ=>((fa ρ).bind fE).bind λx=>if x=k then some k else some x):=by
 have w:∀σ H Q,tB X.K (λρ=>((fa ρ).bind fE).bind λx=>if x=k then some k else some x) σ H Q->tB X.K (λρ=>ar1) σ H Q:=λσ H Q zz=>by
  refine cC zz λO ρ y hx hd q=>aa aa6 λx mz hy=>?_;have:x=y:=by
   split at hy
   .rename_i e;cases hy;exact e
   .cases hy;rfl
  subst this;exact⟨O,ρ,x,hx,mz,q⟩
 cases k with
 |true=>exact λwh U s σ H Q I h=>E4 ha wh U s σ H Q I (w σ H Q h)
 |false=>exact λwh U s σ H Q I h=>JN ha wh U s σ H Q I (w σ H Q h)
def Qf{fa:Env->Option D}(ha:PT X a (tB X.K λρ=>ar1))(hr:PW X (aj5 (b::es)) (tB X.K fr)):
  PW X (aj5 (a::b::es)) (tB X.K λρ=>((fa ρ).bind fE).bind λx=>if x=k then fr ρ else some x):=by
 cases k with
 |true=>
  refine λwh U s σ H Q I h=>JO ha hr wh U s σ H Q I ?_;refine cC h λO ρ y hx hd q=>aa aa6 λx hd hy=>⟨O,ρ,x,hx,hd,λH1 s1=>?_⟩;cases x with
  |true=>exact ny ⟨O,ρ,y,aho,by rw[aav rfl]at hy;exact hy,λH2 s2=>q H2 agV⟩
  |false=>rw[aaC aai]at hy;cases hy;exact pL ayZ
 |false=>
  refine λwh U s σ H Q I h=>N3 ha hr wh U s σ H Q I ?_;refine cC h λO ρ y hx hd q=>aa aa6 λx hd hy=>⟨O,ρ,x,hx,hd,λH1 s1=>?_⟩;cases x with
  |false=>exact pL ⟨O,ρ,y,aho,by rw[aav rfl]at hy;exact hy,λH2 s2=>q H2 agV⟩
  |true=>rw[aaC aa2]at hy;cases hy;exact ny ayZ
def Qg:PA X [] (vD X.K m λ_=>some []):=λp U s σ H Q I zz=>by
 refine cC zz λO ρ ds hx hd k=>?_;cases hd;exact dm p U s σ H Q I (k [] H ad1 .nil)
def jq{K:aE}:∀{vs:ad7}{ds:ac1},Paired (bN K O false H) vs ds->ac7:=λ{vs ds} h=>by
 induction h with
 |nil=>exact .nil
 |cons r t ih=>exact .cons r.own ih
def wG{K:aE}{b:Bool}:∀{vs:ad7}{ds:ac1},Paired (bN K O b H) vs ds->au K (λ_=>False) H vs ds:=λ{vs ds} h=>by
 induction h with
 |nil=>exact .nil
 |cons r t ih=>exact .cons r.any ih
def LD(h:as3)(hr:PA X es (vD X.K m g))(hs:ab1):
  PA X (e::es) (vD X.K m λρ=>(f ρ).bind λx=>(g ρ).bind λxs=>some (x::xs)):=λp U s σ H Q I zz=>by
 refine cC zz λO ρ ds hx hd k=>aa aa6 λx e1 hd=>aa aa6 λxs e2 hd=>?_;cases hd;exact b_ h hr hs p U s σ H Q I ⟨O,ρ,x,hx,e1,λv H1 s1 r1=>⟨O,ρ,xs,aho,e2,λvs H2 s2 r2=>k (v::vs) H2 agV (.cons auR r2)⟩⟩
def IY{k:Nat}(h:PA X es anl):PE X auH (tV X.K m λρ=>(g ρ).bind λxs=>if xs.length<=bX then some ai6 else none):=
 PE.weak (Kh h) λσ H Q zz=>by
  refine cC zz λO ρ d hx hd q=>aa aa6 λxs e1 hd=>?_;split at hd
  .rename_i hz;cases hd;refine⟨O,ρ,xs,hx,e1,λvs H1 s1 r1=>?_⟩;have pQ:=jq r1;exact⟨by rw[pQ.length,cH];exact hz,λp hp=>q _ _ axG (akf (ao_ (pQ.mono ahu)))⟩
  .cases hd
def Qh{g:Env->Option ac1}(h:PA X es anl):PE X (.List es pos) (tF X.K λρ=>(g ρ).bind λxs=>if xs.length<=bX then some xs else none):=
 PE.weak (Ki h) λσ H Q zz=>by
  refine cC zz λO ρ d hx hd q=>aa aa6 λxs e1 hd=>?_;split at hd
  .rename_i hz;cases hd;refine⟨O,ρ,_,hx,e1,λvs H1 s1 r1=>?_⟩;have pQ:=jq r1;exact⟨by rw[pQ.length,cH];exact hz,λp hp=>q p vs H1 s1 hp pQ⟩
  .cases hd
def oh(n:Nat)(i:Int):place n i=Nk n i:=rfl
def item_at{K:aE}(h:ac7)(e:((place ds.length k).bind λj=>ds[j]?)=some d):∃v,Iz vs k=some v/\aiM:=by
 exact aa (ajR e) λj e1 e2=>aa (h.get e2) λv h1 h2=>⟨v,by unfold Iz;rw[h.length,<-oh,e1];exact h1,h2⟩
def Qi{fa fb:Env->Option D}(ha:ahd)(hb:PE X b (ajQ fb))(hs:qY b):PE X (ayo b) (tV X.K m λρ=>(fa ρ).bind λx=>(fb ρ).bind λk=>item x k):=
 PE.weak (IA (xg.or Kp) ha hb hs) λσ H Q zz=>by
  refine cC zz λO ρ d hx hd q=>aa aa6 λx e1 hd=>aa aa6 λy e2 hd=>?_;refine⟨O,ρ,x,hx,e1,λv H1 s1 r1=>⟨O,ρ,y,aho,e2,λw H2 s2 r2=>?_⟩⟩;have pQ:=r1.mono s2;cases y with
  |int k=>
   cases x with
   |lst xs=>
    refine bg pQ.lst λp vs ak h1 h2=>?_;subst ak;exact aa (item_at h2 hd) λu h3 h4=> .inl ⟨p,vs,k,u,rfl,az5,h1,h3,q u H2 agV (akf h4)⟩
   |tup xs=>
    refine bg pQ.tup λp vs aN h1 h2=>?_;subst aN;exact aa (item_at h2 hd) λu h3 h4=> .inr ⟨p,vs,k,u,rfl,az5,h1,h3,q u H2 agV (akf h4)⟩
   |_=>cases hd
  |_=>cases x<;>cases hd
def tO(K:aE)(f:Env->Option agK):TO:=λσ H Q=>∃O ρ o,ahT/\f ρ=some o/\∀H',ait->Q o H'
def LF:PO X none (tO X.K λ_=>some none):=λU s σ H Q I zz=>by
 refine cC zz λO ρ o hx hd k=>?_;cases hd;exact Fi U s σ H Q I (k H ad1)
def LG(h:agZ):PO X (ajU e) (tO X.K λρ=>((f ρ).bind KH).map some):=λU s σ H Q I zz=>by
 refine cC zz λO ρ o hx hd k=>aa af4 λi mz ak=>?_;subst ak;refine aa azo λd e1 og=>?_;cases CT og;exact Fj h U s σ H Q I ⟨O,ρ,_,hx,e1,λv H1 s1 r1=>⟨i,r1.int,k H1 s1⟩⟩
def dO(n d:Nat)(o:agK):bound n d o=HT.cJ n d o:=by
 cases o with
 |none=>rfl
 |some v=>
  have:=HT.qW v n d;show(if v<0 then max (v+(n:Int)) 0 else min v (n:Int)).toNat =_;rw[this];exact abN _
def oj{K:aE}(h:ac7)(lo hi:agK):au K O H (tP vs lo hi) (Bb ds lo hi):=by
 unfold tP Bb;rw[dO,dO,h.length];exact(h.drop _).take _
def Qj{lo hi:ap9}(ha:ahd)(hl:PO X lo (tO X.K fl))(hh:PO X hi (tO X.K fh)):
  PE X (alU a) (tV X.K m λρ=>(fa ρ).bind λx=>(fl ρ).bind λl=>(fh ρ).bind λh=>cutD x l h):=
 PE.weak (tN (EI.or xh FH) ha hl hh) λσ H Q zz=>by
  refine cC zz λO ρ d hx hd q=>aa aa6 λx e1 hd=>aa aa6 λl e2 hd=>aa aa6 λh e3 hd=>?_;refine⟨O,ρ,x,hx,e1,λv H1 s1 r1=>⟨O,ρ,l,aho,e2,λH2 s2=>⟨O,ρ,h,aqY,e3,λH3 s3=>?_⟩⟩⟩;have pQ:=r1.mono atb;have EO:=(s1.trans s2).trans s3;cases x with
  |lst xs=>
   cases hd;refine bg pQ.lst λp vs ak h1 h2=>?_;subst ak;exact .inl ⟨p,vs,rfl,h1,λp' hp=>q _ _ (EO.trans ahu) (akf (.lst aw2 ((hx.mono EO).free ad1 hp) aAt))⟩
  |tup xs=>
   refine bg pQ.tup λp vs aN h1 h2=>?_;subst aN;cases hd;by_cases hw:bound xs.length 0 l=0/\bound xs.length xs.length h=xs.length
   .refine .inr (.inr ⟨p,vs,rfl,h1,by rw[<-dO,<-dO,h2.length];exact hw,q _ _ EO (.inl (.tup h1 ?_))⟩);have e:Bb xs l h=xs:=by
     unfold Bb;rw[hw.1,hw.2,adQ,Nat.sub_zero,List.take_length]
    rw[e];exact h2
   .refine .inr (.inl ⟨p,vs,rfl,h1,?_,λp' hp=>q _ _ (EO.trans ahu) (akf (ao_ aAt))⟩);rw[<-dO,<-dO,h2.length];exact hw
  |_=>cases hd
def UB{lo hi:ap9}(ha:ahd)(hl:PO X lo (tO X.K fl))(hh:PO X hi (tO X.K fh)):
  PE X (alU a) (tF X.K λρ=>((fa ρ).bind λx=>(fl ρ).bind λl=>(fh ρ).bind λh=>cutD x l h).bind λd=>match d with| .lst ds=>some ds|_=>none):=
 PE.weak (tN xh ha hl hh) λσ H Q zz=>by
  refine cC zz λO ρ ds hx hd q=>aa aa6 λd hd hz=>aa aa6 λx e1 hd=>aa aa6 λl e2 hd=>aa aa6 λh e3 hd=>?_;refine⟨O,ρ,x,hx,e1,λv H1 s1 r1=>⟨O,ρ,l,aho,e2,λH2 s2=>⟨O,ρ,h,aqY,e3,λH3 s3=>?_⟩⟩⟩;have pQ:=r1.mono atb;have EO:=(s1.trans s2).trans s3;cases x with
  |lst xs=>
   cases hd;cases hz;refine bg pQ.lst λp vs ak h1 h2=>?_;subst ak;exact⟨p,vs,rfl,h1,λp' hp=>q p' _ H3 EO hp (oj h2 l h)⟩
  |tup xs=>cases hd;cases hz
  |_=>cases hd
end
section
variable {X:Cx}{a b c e e0:Expr}{es:ag7}{pos p:Pos}{m:Bool}
def yr(K:aE)(n:Nat)(f:ac1->ahN):Sp:=λvs H Q _=>∃O ds d,(∀a,O a->∃u,al6/\uK u)/\ac7/\f ds=some d/\vs.length=n/\∀v H',ait->bz K O H' v d->Q v H'
def LH{g:Bool->Env->Option ac1}{ln:Env->Bool}(F:jE X.prog X.w X.K X.mg X.base zJ k fa fd ps (yr X.K ps.length f))(hr:aAQ)(hg:aye)(hm:X.mg x=some ai7)
  (hk:ax6) (hb:auz) (hf:∀ds d,f ds=some d->ds.length=ps.length) (ha:∀b,PA X (e::es) (vD X.K b (g b))) (hl:∀ρ,ln ρ=false->g true ρ=g false ρ)
  (EG:aik) (he:ab1) (fy:(backTo pos ag_).any (·.1)=false):
  PE X ahQ (tV X.K m λρ=>(g true ρ).bind λxs=>(f xs).bind λd=>if ln ρ&&!aG d then none else some d):=by
 intro U s σ H Q I zz;refine cC zz λO ρ d hx hd q=>?_;refine aa aa6 λxs e1 hd=>aa aa6 λd' e2 hd=>?_;cases UC:ln ρ with
 |false=>
  rw[UC]at hd;simp only[Bool.false_and,abX,if_false]at hd;cases hd;rw[hl ρ UC]at e1;refine xa F hr hg hm hk hb .nil BL (ha false) EG he fy U s σ H Q I ⟨O,ρ,xs,hx,e1,λvs H1 s1 r1=>?_⟩;have pQ:=jq r1;show yr X.K ps.length f (vs++[]) H1 Q E0;rw[abf];exact⟨O,xs,d,(hx.mono s1).live,pQ,e2,by rw[pQ.length];exact hf _ _ e2,λv H2 s2 r2=>q v H2 agV (akf r2)⟩
 |true=>
  rw[UC]at hd;cases hn:aG d' with
  |false=>rw[hn]at hd;cases hd
  |true=>
   rw[hn]at hd;simp only[Bool.not_true,Bool.and_false,abX,if_false]at hd;cases hd;refine xa F hr hg hm hk hb .nil BL (ha true) EG he fy U s σ H Q I ⟨O,ρ,xs,hx,e1,λvs H1 s1 r1=>?_⟩;have pQ:=wG r1;show yr X.K ps.length f (vs++[]) H1 Q E0;rw[abf];exact⟨λ_=>False,xs,d,λ_ z=>z.elim,pQ,e2,by rw[pQ.length];exact hf _ _ e2,λv H2 s2 r2=>q v H2 agV (akf (AB r2 hn))⟩
def lg(mk:∀t,alO->PE X e0 (Te r t))(ha:awS)
  (hr:∀O σ (ρ:Env) H ds vs d Q,awZ->Paired (bN X.K O true H) vs ds->pf ds=some d->(∀v H',ait->bN X.K O m H' v d->Q v H')->r vs H Q):PE X e0 (tV X.K m λρ=>(g ρ).bind pf):=
 (mk _ ha).weak λσ H Q zz=>by
  exact cC zz λO ρ d hx hd q=>aa aa6 λxs e1 hd=>⟨O,ρ,xs,hx,e1,λvs H1 s1 r1=>hr O σ ρ H1 xs vs d Q aho r1 hd λv H' s' r'=>q v H' (s1.trans s') r'⟩
def cA{K:aE}{b:Bool}(h:Paired (bN K O b H) vs [d]):∃v,vs=[v]/\asY:=by
 cases h with
 |cons r t=>cases t;exact⟨_,rfl,r⟩
theorem cx{K:aE}:∀{vs:ad7}{ds:ac1}{ns:aa0},ac7->aJ ds=some ns->vs=ns.map V.int
 |_,_,_,.nil,h=>by cases h;rfl
 |_,_,ns,.cons (d:=d) r t,h=>by
  cases d with
  |int i=>
   simp only[aJ]at h;refine aa (akG h) λnr h1 ak=>?_;subst ak;rw[aaK,<-cx t h1,r.int_inv]
  |_=>cases h
def UD(K:aE):ad7->Hp->VK->Prop:=λxs H Q=>∃p n ns,anc/\(cO K H p aDB\/cP K H p aDB)/\Q (amh (iV n ns)) H
def AD(hc:agH):cR X (.builtin "min") (UD X.K):=by
 intro U s σ H xs us Q I r zz;refine cC zz λp n ns e hq q=>?_;subst e;refine aa am0 λu ak rx=>?_;subst ak;cases rx;have fin:∀(h':Heap) (tk:Nat) (t:Tok),(∀b o,ab4->ae0)->EP X U σ Q (apa (iV n ns)) {s with heap:=h',toks:=tk}:=λh' tk t k=>⟨.int _,H,I.kept k,aow,q⟩;rcases hq with hq|hq
 .exact bF ajM λits rv pl hz=>lX agY (akf pl.isList) arz fin
 .exact bF am6 λits rv pl hz=>lX agY (amY pl) arz fin
noncomputable def i9:vZ->Str
 | .len =>"len"| .tuple =>"tuple"| .list =>"list"| .min =>"min"| .sorted =>"sorted"| .all =>"all"
theorem gU{K:aE}:∀{vs:ad7}{ds:ac1}{bs:apB},ac7->eU ds=some bs->vs=bs.map V.bl
 |_,_,_,.nil,h=>by cases h;rfl
 |_,_,bs,.cons (d:=d) r t,h=>by
  cases d with
  |bl i=>
   obtain⟨nr,h1,rfl⟩:=map_some (show(eU _).map _=_ from h);rw[aaK,<-gU t h1,r.wF]
  |_=>exact nS h
theorem mN{K:aE}:∀{vs:ad7}{ds:ac1}{ks:aa_},ac7->du ds=some ks->Paired amd vs ks/\∀k∈ks,k≠[]
 |_,_,_,.nil,h=>by cases h;exact⟨.nil,λ_ z=>nomatch z⟩
 |_,_,ks,.cons (d:=d) r t,h=>by
  cases d with
  |tup xs=>
   refine aa (ajR (show(aJ xs).bind _=_ from h)) λk h1 h=>?_;by_cases hk:k=[]
   .exact nS ((aav hk).symm.trans h)
   .refine aa (akG ((aaC hk).symm.trans h)) λY5 h2 ak=>?_;subst ak;refine bg r.gc λa us aN q1 q2=>?_;subst aN;have e:=cx q2 h1;subst e;have p:=mN t h2;exact⟨.cons ⟨a,rfl,q1⟩ p.1,λz hz=>(aat.mp hz).elim (λe=>by rw[e];exact hk) (p.2 z)⟩
  |_=>exact nS h
def yt{K:aE}(h:TupAt H u k):bz K O H u (md k):=by
 refine aa h λb ak hb=>?_
 try clear h
 subst ak;exact .tup hb (fN k)
def om{K:aE}:∀{us:ad7}{ks:aa_},aqV->au K O H us (ks.map md):=λ{us ks} h=>by
 induction h with
 |nil=>exact .nil
 |cons h t ih=>exact .cons (yt h) ih
def qv{q:vZ}(hu:af2)(hc:agH)(hg:Gl X (i9 q))(hm:X.mg (i9 q)=none)(ha:awS)
  (he:ab1) (fy:(backTo pos ag_).any (·.1)=false):
  PE X (.Call (.Name (i9 q) p) (e::es) [] pos) (tV X.K m λρ=>(g ρ).bind (prim q)):=by
 cases q with
 |len=>
  refine lg (λt ht=>fC q5 hg hm PySem.boot_len ht aa2 aa2 he fy) ha λO σ ρ H ds vs d Q hx r hd q=>?_;cases ds with
  |nil=>cases hd
  |cons x t=>
   cases t with
   |cons _ _=>cases hd
   |nil=>
    refine aa (cA r) λv ak rv=>?_;subst ak;refine aa (akG (show(seq x).map (λys=>D.int ys.length)=some d from hd)) λys h1 aN=>?_;subst aN;refine bg asx λp us cV h2 h3=>?_;subst cV;exact⟨p,us,rfl,h2,by rw[h3.length];exact q _ _ ad1 ajs⟩
 |tuple=>
  refine lg (λt ht=>dM pK hg hm boot_tuple ht aa2 aa2 he fy) ha λO σ ρ H ds vs d Q hx r hd q=>?_;cases ds with
  |nil=>cases hd
  |cons x t=>
   cases t with
   |cons _ _=>cases hd
   |nil=>
    refine aa (cA r) λv nQ rv=>?_;subst nQ;refine aa af4 λys h1 Qk=>?_;subst Qk;refine bg asx λp us Ql h2 h3=>?_;subst Ql;refine⟨p,us,rfl,?_⟩;rcases h2 with h2|h2
    .exact .inl ⟨h2,λl hl=>q _ _ aoe (akf (ao_ (h3.mono aoe)))⟩
    .exact .inr ⟨h2,q _ _ ad1 (akf (.tup h2 h3))⟩
 |list=>
  refine lg (λt ht=>dM jH hg hm boot_list ht aa2 aa2 he fy) ha λO σ ρ H ds vs d Q hx r hd q=>?_;cases ds with
  |nil=>cases hd
  |cons x t=>
   cases t with
   |cons _ _=>cases hd
   |nil=>
    refine aa (cA r) λv NA rv=>?_;subst NA;refine aa af4 λys h1 UE=>?_;subst UE;refine bg asx λp us Y6 h2 h3=>?_;subst Y6;exact⟨p,us,rfl,h2,λl hl=>q _ _ aoe (akf (aBF (h3.mono aoe)))⟩
 |min=>
  refine lg (λt ht=>fC ((AD hc).or (Ah hc hu)) hg hm boot_min ht aa2 aa2 he fy) ha λO σ ρ H ds vs d Q hx r hd q=>?_;cases ds with
  |nil=>cases hd
  |cons x t=>
   cases t with
   |nil=>
    refine aa (cA r) λv LI rv=>?_;subst LI;refine aa (bind_some (o:=seq x) hd) λys h1 hd=>bg asx λp us LJ h3 h4=>?_;subst LJ;cases h2:aJ ys with
    |some ns=>
     rw[h2]at hd;cases ns with
     |nil=>cases hd
     |cons n ns=>
      cases hd;have:=cx h4 h2;subst this;exact .inl ⟨p,n,ns,rfl,h3,q _ _ ad1 ajs⟩
    |none=>
     rw[h2]at hd;cases x with
     |lst zs=>
      cases h1;refine bg rv.lst λp' Y7 e' UG R8=>?_;cases e';refine aa aa6 λks h5 hd=>?_;cases ks with
      |nil=>cases hd
      |cons k ks=>
       cases hd;exact .inr ⟨p,Y7,k,ks,rfl,UG,(mN R8 h5).1,λu hu=>q _ _ ad1 (akf (yt hu))⟩
     |_=>cases hd
   |cons y t=>cases hd
 |sorted=>
  refine lg (λt ht=>fC rO hg hm boot_sorted ht aa2 aa2 he fy) ha λO σ ρ H ds vs d Q hx r hd q=>?_;cases ds with
  |nil=>cases hd
  |cons x t=>
   cases t with
   |nil=>
    refine aa (cA r) λv LK rv=>?_;subst LK;refine aa (ajR (show(seq x).bind (λys=>(du ys).map λks=>D.lst asS)=some d from hd)) λys h1 hd=>aa af4 λks h5 UH=>?_;subst UH;refine bg asx λp us UI h3 h4=>?_;subst UI;obtain⟨p1,p2⟩:=mN h4 h5;exact⟨p,us,ks,rfl,h3,p1,p2,λl ws hl pw=>ajF⟩
   |cons y t=>cases hd
 |all=>
  refine lg (λt ht=>fC (zW hc) hg hm boot_all ht aa2 aa2 he fy) ha λO σ ρ H ds vs d Q hx r hd q=>?_;cases ds with
  |nil=>cases hd
  |cons x t=>
   cases t with
   |cons _ _=>cases hd
   |nil=>
    cases x with
    |lst ys=>
     obtain⟨bs,hb,rfl⟩:=map_some (show(eU ys).map (λbs=>D.bl asC)=some d from hd);obtain⟨v,rfl,rv⟩:=cA r;obtain⟨p,us,rfl,h2,h3⟩:=rv.lst;have:=gU h3 hb;subst this;exact⟨p,bs,rfl,h2,q _ _ ad1 anK⟩
    |_=>cases hd
def f_list{g:Env->Option ac1}(hg:Gl X "list")(hm:X.mg "list"=none)(ha:awS)
  (he:ab1) (fy:(backTo pos ag_).any (·.1)=false):
  PE X (.Call (.Name "list" p) (e::es) [] pos) (tF X.K λρ=>(g ρ).bind λxs=>match xs with|[x]=>seq x|_=>none):=
 PE.weak (dM jH hg hm boot_list ha aa2 aa2 he fy) λσ H Q zz=>by
  refine cC zz λO ρ ds hx hd q=>aa aa6 λxs e1 hd=>⟨O,ρ,xs,hx,e1,λvs H1 s1 r=>?_⟩;cases xs with
  |nil=>cases hd
  |cons x t=>
   cases t with
   |cons _ _=>cases hd
   |nil=>
    refine aa (cA r) λv ak rv=>?_;subst ak;refine bg (rv.seq hd) λp us aN h2 h3=>?_;subst aN;exact⟨p,us,rfl,h2,λl hl=>q l us H1 s1 hl h3⟩
noncomputable def pR(lo:Int):Nat->List V
 |0=>[]
 |n+1=> .int lo::pR (lo+1) n
theorem lh{K:aE}:∀(n:Nat) (lo:Int),au K O H (pR lo n) (bT lo n)
 |0,_=> .nil
 |n+1,lo=> .cons (amh lo) (lh n (lo+1))
theorem gW:∀(n:Nat) (lo:Int),(pR lo n).length =n
 |0,_=>rfl
 |n+1,lo=>by rw[pR,aaF,gW n]
theorem lj:∀(n:Nat) (lo:Int) (us:ab2),us.length=n->(∀(j:Nat) (v:Value),us[j]?=some v->∃t,v=Value.int (lo+j) t)->aF (pR lo n) us
 |0,lo,us,hl,_=>by
  cases us with
  |nil=>exact .nil
  |cons _ _=>cases hl
 |n+1,lo,us,hl,h=>by
  cases us with
  |nil=>cases hl
  |cons u us=>
   obtain⟨t,e⟩:=h 0 u rfl;refine .cons ⟨t,by simpa using e⟩ (lj n (lo+1) us (by simpa using hl) λj v hj=>?_);obtain⟨t',e'⟩:=h (j+1) v (by simpa using hj);refine⟨t',?_⟩;rw[e'];congr 1
   push_cast
   lia
def yu(hg:Gl X "range")(hm:X.mg "range"=none)(ha:PA X [a] t)(hs:ag6):PE X (akO (.Name "range" p)) (λσ H Q=>t σ H λvs H1=>∃hi:Int,vs=[.int hi]/\∀p,ak9->Q ahg (akH auG)):=by
 intro U s σ H Q I h;refine Call_ (kN I hg hm boot_range (acm (bG aht λus s1 zz=>bg zz λvs H1 I1 r1 q1=>?_) hs rfl));refine aa q1 λhi e q=>?_;subst e;obtain⟨u,rfl,t',rfl⟩:=vals1 r1;refine call_range_1 ⟨ara,_,I1.laid (o:= .gJ 0 hi) (λb o e=>ail) ad0 ⟨_,_,_,agU⟩,rfl,q _ I1.fresh⟩
def wH(hc:agH):cR X (.type "list") (λxs H Q=>∃(p:Addr) (hi:Int),anc/\H p=some auG/\(-(2 ^ 62)<=hi/\hi<=bX)/\∀l,aqA->Q ahI (L2.upd H l (aj1 an6))):=by
 intro U s σ H xs us Q I r ⟨p,hi,e,hp,⟨LL,hl⟩,q⟩;subst e;refine aa am0 λu ak rx=>?_;subst ak;cases rx;refine NM ((show aT X.prog X.w H s.heap p auG from I.aR p _ hp)) λt u v ho=>?_;have AF:aoG:=rfl;have CV:Builtin.Range.rangeSize 0 hi 1=((hi.toNat:Nat):Int):=by rw[rangeSize_one];split<;>lia
 refine call_list_range (n:=hi.toNat) agY ho asu CV (EZ hl) λh' tk K1 c' kp hg gM=>⟨ab7,_,I.laid (o:= .lst an6) kp ad0 ⟨by rw[gW,cH];exact EZ hl,K1.toList,c',lj _ _ _ (by simpa using gM.1) (λj v hj=>?_),by simpa using hg⟩,rfl,q _ I.fresh⟩;obtain⟨t',e'⟩:=gM.2 j v (by simpa using hj);exact⟨t',by rw[e'];simp⟩
def uM(hc:agH):cR X (.type "tuple") (λxs H Q=>∃(p:Addr) (hi:Int),anc/\H p=some auG/\(-(2 ^ 62)<=hi/\hi<=bX)/\∀l,aqA->Q ahI (L2.upd H l (akb an6))):=by
 intro U s σ H xs us Q I r ⟨p,hi,e,hp,⟨LL,hl⟩,q⟩;subst e;refine aa am0 λu ak rx=>?_;subst ak;cases rx;refine NM ((show aT X.prog X.w H s.heap p auG from I.aR p _ hp)) λt u v ho=>?_;have AF:aoG:=rfl;have CV:Builtin.Range.rangeSize 0 hi 1=((hi.toNat:Nat):Int):=by rw[rangeSize_one];split<;>lia
 refine zV (n:=hi.toNat) agY ho asu CV (EZ hl) λh' tk acc kp gM=>?_;have I1:Inv X U σ H {s with heap:=h'}:=I.kept (t':=s.toks) kp;have I2:Inv X U σ (L2.upd H h'.objs.size (akb an6)) {s with heap:=h'.push {cls:= .type "tuple",data:= .seq acc},toks:=tk}:=
  I1.laid (t':=tk) (λb o e=>ail) ad0 (show aT X.prog X.w _ _ _ (akb an6) from⟨by rw[gW,cH];exact EZ hl,acc.toList,lj _ _ _ (by simpa using gM.1) (λj v hj=>by
   obtain⟨t',e'⟩:=gM.2 j v (by simpa using hj);exact⟨t',by rw[e'];simp⟩),by simpa using jA.new h' acc⟩)
 exact⟨.ref h'.objs.size,_,I2,rfl,q _ ahv⟩
def CW{q1 tG:Pos}(hc:agH)(hg:Gl X "range")(hm:X.mg "range"=none)(EM:Gl X "tuple")(zM:X.mg "tuple"=none)(ha:PA X [a] anl)(hl:∀ρ ds,aCz->ds.length=1)(hs:ag6):
  PE X (.Call (.Name "tuple" q1) [.Call (.Name "range" p) [a] [] pos] [] tG) (tV X.K m λρ=>((g ρ).bind dw).map .tup):=by
 have h1:=yu (p:=p) (pos:=pos) hg hm ha hs;refine PE.weak (dM (uM hc) EM zM PyProof.Rows.boot_tuple (b_ h1 dm rfl) aa2 aa2 rfl rfl) λσ H Q zz=>cC zz λO ρ d hx hd q=>aa af4 λds nu ak=>?_;subst ak;clear hd;refine aa (ajR nu) λxs e1 hd=>?_;clear nu;have pW:=hl ρ xs e1;refine⟨O,ρ,xs,hx,e1,λvs H1 s1 r=>?_⟩;cases xs with
 |nil=>cases pW
 |cons x t=>
  cases t with
  |cons _ _=>cases pW
  |nil=>
   refine aa (cA r) λv aN rv=>?_;subst aN;cases x with
   |int n=>
    simp only[dw]at hd;split at hd
    .rename_i hz;cases hd;cases rv.int;exact⟨n,rfl,λp hp=>⟨p,n,rfl,ah,hz,λl hl=>q _ _ ((s1.trans ahu).trans aoe) (akf (ao_ (lh _ _)))⟩⟩
    .cases hd
   |_=>cases hd
theorem lu:∀{ns:aa0}{j:Nat},cE k ns=some j->ns[j]?=some k/\∀m,m<j->ns[m]?≠some k
 |[],_,h=>by cases h
 |n::r,j,h=>by
  unfold cE at h;split at h
  .rename_i e;cases h;subst e;exact⟨rfl,λm hm=>absurd hm anp⟩
  .rename_i ne;refine aa (akG h) λi h1 ak=>?_;subst ak;obtain⟨h2,h3⟩:=lu h1;refine⟨h2,λm hm=>?_⟩;cases m with
   |zero=>exact λz=>ne (by simpa using z)
   |succ m=>exact h3 m (aaU hm)
def CY{K:aE}(s:ait){a:Addr}(h:atm):cO K H' a vs:=h.elim (λh=> .inl (mL s h)) .inr
def Gs{oe a0:Expr}(ho:PE X oe (anA fo))(ha:PA X [a0] an1)(hb:attributeBase oe "index" X.env (ajY oe)=eval oe X.env)(hl:apk)(hs:ayT):
  PE X (.Call (.Attribute oe "index" ap) [a0] [] cp) (tV X.K m λρ=>(fo ρ).bind λx=>(g ρ).bind λxs=>fj .index x xs):=
 (OW PySem.F.plainAttrs_tuple afr PySem.F.type_tuple_index BY ho ha hb (by rw[hs];rfl) hl hs rfl).weak λσ H Q zz=>by
  refine cC zz λO ρ d hx hd k=>aa aa6 λx e1 hd=>aa aa6 λxs e2 hd=>?_;have key:∃ys kk,x= .tup ys/\xs=[.int kk]/\∃ns,aJ ys=some ns/\∃j:Nat,cE kk ns=some j/\d= .int (j:Int):=by
   cases x with
   |tup ys=>
    cases xs with
    |nil=>cases hd
    |cons y t=>
     cases t with
     |cons _ _=>cases y<;>cases hd
     |nil=>
      cases y with
      |int kk=>
       exact aa (ajR (show(aJ ys).bind (λns=>(cE kk ns).map λ(i:Nat)=>D.int (i:Int))=some d from hd)) λns e3 h4=>aa (akG h4) λj e4 e5=>⟨ys,kk,rfl,rfl,ns,e3,j,e4,e5.symm⟩
      |_=>cases hd
   |_=>cases hd
  obtain⟨ys,kk,rfl,rfl,ns,e3,j,e4,rfl⟩:=key;refine⟨O,ρ,.tup ys,hx,e1,λv H1 s1 r1=>?_⟩;refine bg r1.tup λa vs ak q1 p1=>?_;subst ak;refine⟨⟨a,vs,rfl,q1⟩,O,ρ,[.int kk],aho,e2,λus H2 s2 r2=>?_⟩;refine aa (cA r2) λu aN ru=>?_;subst aN;have hv:vs=ns.map V.int:=cx p1 e3;subst hv;obtain⟨h1,h2⟩:=lu e4;exact⟨a,ns,kk,j,rfl,by rw[ru.int],j8 s2 q1,h1,h2,k _ _ agV ajs⟩
def CZ{oe a0:Expr}(ho:PE X oe (anA fo))(ha:PA X [a0] an1)(hb:attributeBase oe "index" X.env (ajY oe)=eval oe X.env)(hl:apk)(hs:ayT):
  PE X (.Call (.Attribute oe "index" ap) [a0] [] cp) (tV X.K m λρ=>(fo ρ).bind λx=>(g ρ).bind λxs=>fj .rg x xs):=
 (xi acI PySem.F.slot_list_index PySem.F.type_list_index zU ho ha hb (by rw[hs];rfl) hl hs rfl).weak λσ H Q zz=>by
  refine cC zz λO ρ d hx hd k=>aa aa6 λx e1 hd=>aa aa6 λxs e2 hd=>?_;have key:∃ys kk,x= .lst ys/\xs=[.int kk]/\∃ns,aJ ys=some ns/\∃j:Nat,cE kk ns=some j/\d= .int (j:Int):=by
   cases x with
   |lst ys=>
    cases xs with
    |nil=>cases hd
    |cons y t=>
     cases t with
     |cons _ _=>cases y<;>cases hd
     |nil=>
      cases y with
      |int kk=>
       exact aa (ajR (show(aJ ys).bind (λns=>(cE kk ns).map λ(i:Nat)=>D.int (i:Int))=some d from hd)) λns e3 h4=>aa (akG h4) λj e4 e5=>⟨ys,kk,rfl,rfl,ns,e3,j,e4,e5.symm⟩
      |_=>cases hd
   |_=>cases hd
  obtain⟨ys,kk,rfl,rfl,ns,e3,j,e4,rfl⟩:=key;refine⟨O,ρ,.lst ys,hx,e1,λv H1 s1 r1=>?_⟩;refine bg r1.lst λa vs ak q1 p1=>?_;subst ak;refine⟨.inl ⟨rfl,vs,q1⟩,O,ρ,[.int kk],aho,e2,λus H2 s2 r2=>?_⟩;refine aa (cA r2) λu aN ru=>?_;subst aN;have hv:vs=ns.map V.int:=cx p1 e3;subst hv;obtain⟨h1,h2⟩:=lu e4;exact⟨a,ns,kk,j,rfl,by rw[ru.int],CY s2 q1,h1,h2,k _ _ agV ajs⟩
inductive Sk where
 |tup|lst|bA (o:Obj) (ks:aa_) (vs:ad7)
abbrev UJ:=Option (Sk×V×List D)
def fQ(K:aE)(O:Addr->Prop)(H:Hp):UJ->Prop
 |none=>True
 |some (.lst,v,ds)=>∃a vs,ajy/\atm/\au K O H vs ds
 |some (.tup,v,ds)=>∃a vs,ajy/\am3/\au K O H vs ds
 |some (.bA o ks vs,v,ds)=>∃a,ajy/\H a=some aDv/\agJ/\n_ 0 ks/\au K O H vs ds
theorem fQ.mono{K:aE}(h:axR)(s:ait):fQ K O H' iw:=by
 rcases iw with _|⟨_|_|⟨o,ks,vs⟩,v,ds⟩
 .trivial
 .obtain⟨a,vs,e,h1,h2⟩:=h;exact⟨a,vs,e,j8 (K:=K) s h1,h2.mono s⟩
 .obtain⟨a,vs,e,h1,h2⟩:=h;exact⟨a,vs,e,s.seq h1,h2.mono s⟩
 .obtain⟨a,e,h1,h2,h3,h4⟩:=h;exact⟨a,e,s _ _ h1,h2,h3,h4.mono s⟩
theorem fQ.own{K:aE}{p:Addr}(h:axR)(hp:akp):fQ K (λa=>O a\/a=p) H iw:=by
 rcases iw with _|⟨_|_|⟨o,ks,vs⟩,v,ds⟩
 .trivial
 .obtain⟨a,vs,e,h1,h2⟩:=h;exact⟨a,vs,e,h1,h2.own hp⟩
 .obtain⟨a,vs,e,h1,h2⟩:=h;exact⟨a,vs,e,h1,h2.own hp⟩
 .obtain⟨a,e,h1,h2,h3,h4⟩:=h;exact⟨a,e,h1,h2,h3,h4.own hp⟩
def LN(K:aE)(O:Addr->Prop)(b:Bool)(H:Hp):UJ->Prop
 |none=>True
 |some (.lst,v,ds)=>bN K O b H v aoW
 |some (.tup,v,ds)=>bN K O b H v (akb ds)
 |some (.bA o ks vs,v,ds)=>fQ K O H (ajU (atI,v,ds))
def LN.ok{K:aE}{b:Bool}(h:LN K O b H iw):axR:=by
 rcases iw with _|⟨_|_|⟨o,ks,vs⟩,v,ds⟩
 .trivial
 .exact bN.tup h
 .exact bN.lst h
 .exact h
def wI(K:aE)(J:It)(iw:UJ)(ds:ac1):Prop:=
 ∀O H,axR->(∀i,i<ds.length->aBg)/\(∀i x H' d,aqy->ds[i]?=some d->ait/\bz K O H' x d)/\J.stop ds.length H
def tI(K:aE)(b:Bool)(f:Env->alm):TI:=λσ H R=>∃O ρ ds,ahT/\aCC/\
 ∀J iw H',ait->wI K J iw ds->LN K O b H' iw->R J H'
def LO{K:aE}{a:Addr}:wI K (S3 K a) (ajU (.lst,ac_,ds)) ds:=λO H zz=>by
 refine bg zz λb vs e h1 h2=>?_;cases e;have l:=h2.length;refine⟨λi hi=>?_,λi x H' d ⟨e,y⟩ hd=>?_,vs,h1,aap l⟩
 .have gM:atk:=aAg;exact⟨vs,vs[i],h1,by simp[gM]⟩
 .subst e;refine aa (h2.get hd) λv e1 e2=>?_;have:=y vs h1;rw[e1]at this;cases this;exact⟨ad1,e2⟩
def LP{K:aE}{a:Addr}:wI K (S4 K a) (ajU (.tup,ac_,ds)) ds:=λO H zz=>by
 refine bg zz λb vs e h1 h2=>?_;cases e;have l:=h2.length;refine⟨λi hi=>?_,λi x H' d ⟨e,y⟩ hd=>?_,vs,h1,aap l⟩
 .have gM:atk:=aAg;exact⟨vs,vs[i],h1,by simp[gM]⟩
 .subst e;refine aa (h2.get hd) λv e1 e2=>?_;have:=y vs h1;rw[e1]at this;cases this;exact⟨ad1,e2⟩
theorem gX:∀(n:Nat) (lo:Int),(bT lo n).length =n
 |0,_=>rfl
 |n+1,lo=>by rw[bT,aaF,gX n]
theorem uN:∀(n:Nat) (lo:Int) (i:Nat) (d:D),(bT lo n)[i]?=some d->d= .int (lo+i)
 |0,lo,i,d,h=>by simp[bT]at h
 |n+1,lo,0,d,h=>by simp[bT]at h;subst h;simp
 |n+1,lo,i+1,d,h=>by
  simp[bT]at h;rw[uN n (lo+1) i d h];congr 1
  push_cast
  lia
def LQ{K:aE}{lo:Int}:wI K (RC lo n) none (bT lo n):=λO H _=>by
 refine⟨λi hi=>?_,λi x H' d ⟨e,y⟩ hd=>?_,?_⟩
 .rw[gX]at hi;exact hi
 .subst e y;rw[uN n lo i d hd];exact⟨ad1,.int _⟩
 .show n<=(bT lo n).length;rw[gX];exact aam _
def UK(h:PE X a (akF f)):PI X tg a (tI X.K m λρ=>(f ρ).bind seq):=by
 intro U s σ H R I zz;refine cC zz λO ρ ds hx hd q=>?_;refine aa aa6 λd e1 hd=>bG (h U s σ H (λv H1=>atv/\bN X.K O m H1 v d) I ⟨O,ρ,d,hx,e1,λv H' s' r'=>⟨s',r'⟩⟩) λv s1 zz=>il zz λx H1 I1 r1 s' rb=>?_;cases d with
 |lst xs=>
  cases hd;refine bg rb.lst λp vs ak h1 h2=>?_;subst ak;cases r1;refine bF (I1.list h1) λits rv pl hz=>acJ pl.isList ?_;refine⟨ahw,[ahw],_,S3 X.K p,H1,rfl,I1.kept (t':=s1.toks) λb o e=>ail,zC p _,ahL,λb hb=>?_,q _ (ajU (.lst,ahg,ds)) H1 s' LO rb⟩;have e:aoH:=by simpa using hb
  subst e;exact I1.tJ ad0 ahv
 |tup xs=>
  cases hd;refine bg rb.tup λp vs aN h1 h2=>?_;subst aN;cases r1;refine bF (I1.tuple h1) λits rv pl hz=>adv (show s1.heap.IsTuple p its.toArray from pl) ?_;refine⟨ahw,[ahw],_,S4 X.K p,H1,rfl,I1.kept (t':=s1.toks) λb o e=>ail,vI p _,ahL,λb hb=>?_,q _ (ajU (.tup,ahg,ds)) H1 s' LP rb⟩;have e:aoH:=by simpa using hb
  subst e;exact I1.tJ ad0 ahv
 |_=>cases hd
theorem dA:∀(xs:ac1) (k:Int),(aO k xs).length =xs.length
 |[],_=>rfl
 |_::r,k=>by rw[aO,aaF,aaF,dA r]
theorem j_:∀(xs:ac1) (k:Int) (i:Nat) (d:D),(aO k xs)[i]?=some d->∃y,xs[i]?=some y/\d= .tup [.int (k+i),y]
 |[],_,_,_,h=>by simp[aO]at h
 |x::r,k,0,d,h=>by
  simp[aO]at h;exact⟨x,rfl,by rw[<-h];simp⟩
 |x::r,k,i+1,d,h=>by
  refine aa (j_ r (k+1) i d (by simpa[aO]using h)) λy h1 h2=>⟨y,by simpa using h1,?_⟩;rw[h2,show k+1+(i:Int)=k+((i+1:Nat):Int) by push_cast;lia]
def C0{K:aE}{a:Addr}(hS:∀O H,fQ K O H (ajU (k,ac_,ds))->∃vs,Sq H vs/\ac7):wI K (RQ Sq) (ajU (k,ac_,ds)) (aO 0 ds):=λO H h=>by
 obtain⟨vs,hq,hr⟩:=hS O H h;have hl:=hr.length;refine⟨λi hi=>?_,λi x H' d hy hd=>?_,?_⟩
 .rw[dA,<-hl]at hi;exact⟨vs,vs[i],hq,by simp[hi]⟩
 .obtain⟨t,y,ht,rfl,rfl,hy⟩:=hy;obtain⟨z,h1,rfl⟩:=j_ ds 0 i d hd;obtain⟨v,e1,e2⟩:=hr.get h1;have:y=v:=by
   have q:=hy vs hq;rw[e1]at q;exact(aaI q).symm
  subst this;refine⟨ag.upd ht,.tup (cP.of ah) (.cons ?_ (aj2 (e2.mono (ag.upd ht))))⟩;have e0:(0:Int)+(i:Int)=i:=(VQ akT akT azt);rw[e0];exact .int _
 .exact⟨vs,hq,by rw[dA];exact hl⟩
def Qm{elts:ag7}(hg:Gl X "enumerate")(hm:X.mg "enumerate"=none)(ha:PE X a (akF f))(hs:ag6):
  PI X arc (akO (.Name "enumerate" p)) (tI X.K m λρ=>(f ρ).bind λx=>(seq x).map (aO 0)):=by
 have h1:=FC (X:=X) (a:=a) (p:=p) (pos:=pos) (elts:=elts) (k0:=k0) (tpos:=tpos) hg hm (b_ ha dm hs) hs;intro U s σ H R I zz;refine cC zz λO ρ ds hx hd q=>?_;refine aa aa6 λx e1 hd=>aa af4 λxs e2 ak=>?_;subst ak;refine h1 U s σ H R I ⟨O,ρ,x,hx,e1,λv H1 s1 r1=>?_⟩;cases x with
 |tup ys=>
  cases e2;refine bg r1.tup λb vs aN q1 p1=>?_;subst aN;refine⟨b,vs,rfl,.inl ⟨q1,q _ aCY H1 s1 (C0 λO' H' h=>?_) r1⟩⟩;refine bg h λc us e h2 h3=>?_;cases e;exact⟨us,h2,h3⟩
 |lst ys=>
  cases e2;refine bg r1.lst λb vs cV q1 p1=>?_;subst cV;refine⟨b,vs,rfl,.inr ⟨q1,q _ (ajU (.lst,ajh,xs)) H1 s1 (C0 λO' H' h=>?_) r1⟩⟩;refine bg h λc us e h2 h3=>?_;cases e;exact⟨us,h2,h3⟩
 |_=>cases e2
def C1{κ:Type}{f:aa0->κ}{ks:aa_}{vs:ad7}(hl:agJ){i:Nat}(hi:i<ks.length):((ks.map f).zip vs)[i]?=some (f ks[i],vs[i]'(hl▸hi)):=
 afn.mpr ⟨by rw[aau,aac hi];rfl,aac (hl▸hi)⟩
def ka:gF 0 ks vs= .dK ((ks.map λk=>(Sum.inl ahG:cD)).zip vs):=by unfold gF;rw[aav rfl]
def Gu{K:aE}{a:Addr}{ks:aa_}(hl:agJ):wI K (Uc a o ((ks.map λk=>(Sum.inl ahG:cD)).zip vs)) (ajU (atI,ac_,ds)) (ks.map λk=> .int ahG):=λO H zz=>by
 refine Nd zz λb e h1 h2 h3 h4=>?_;cases e;rw[ka]at h1;have len:((ks.map λk=>(Sum.inl ahG:cD)).zip vs).length =ks.length:=by rw[adf,aad,hl,aea]
 refine⟨λi hi=>⟨h1,by rw[len];simpa using hi⟩,λi x H' d ⟨e,y⟩ hd=>?_,h1,by rw[len,aad]⟩;subst e;have hi:i<ks.length:=by
  have:=(aax.mp hd).1;simpa using this
 rw[C1 hl hi]at y;rw[aau,aac hi]at hd;cases hd;cases y;exact⟨ad1,.int _⟩
def Gv{K:aE}{a:Addr}{ks:aa_}(hl:agJ)(mz:vs.length=ds.length):wI K (Uk a o ((ks.map λk=>(Sum.inl ahG:cD)).zip vs)) (ajU (atI,ac_,ds)) ds:=λO H zz=>by
 refine Nd zz λb e h1 h2 h3 h4=>?_;cases e;rw[ka]at h1;have len:((ks.map λk=>(Sum.inl ahG:cD)).zip vs).length =ks.length:=by rw[adf,aad,hl,aea]
 refine⟨λi hi=>⟨h1,by rw[len];exact Bm (abc hl) (Bm (abc mz) hi)⟩,λi x H' d ⟨e,y⟩ hd=>?_,h1,by rw[len];exact afg (abc mz) (abc hl)⟩;subst e;refine aa (h4.get hd) λv e1 e2=>?_;have hi:i<ks.length:=by
  have:=(aax.mp e1).1;exact aah this aiH
 rw[C1 hl hi]at y;cases y;rw[aac (aah hi azu)]at e1;cases e1;exact⟨ad1,e2⟩
def EX.Qn{K:aE}(hx:ahT){i:Nat}(h:ρ[i]?=some (ajU (false,.bA 0 ks ds))):∃a o vs,σ[i]?=some aiY/\H a=some aDv/\agJ/\n_ 0 ks/\ac7:=by
 refine aa (hx.kK i false _ h) λv q1 q2=>?_;have Y8:bz K O H v (.bA 0 ks ds):=q2;cases Y8 with
 |bA g1 g2 g3 g4=>exact⟨_,_,_,q1,g1,g2,g3,g4⟩
def UL{tg:Expr}(hj:PE X a (c9 j)):PI X tg a (tI X.K m λρ=>keysAt ρ j):=by
 intro U s σ H R I zz;refine cC zz λO ρ ds hx hd q=>?_;have hd:keysAt ρ j=some ds:=hd;unfold keysAt at hd;refine slot (λe=>nS (by rw[e]at hd;exact hd)) (λe=>nS (by rw[e]at hd;exact hd)) λo d e=>?_;rw[e]at hd;cases o with
 |true=>exact nS hd
 |false=>cases d with
  |bA t ks xs=>cases t with
   |zero=>
    cases (show some _=some ds from hd);refine vx (hx.Qn e) λb o vs e1 e2 e3 e4 e5=>?_;refine O7 hj U s σ H R I ⟨ajh,e1,b,o,_,rfl,by rw[e2,ka],q _ (ajU (atI,ajh,xs)) H ad1 (Gu e3) ⟨b,rfl,e2,e3,e4,e5⟩⟩
   |succ=>exact nS hd
  |_=>exact nS hd
def UM{tg:Expr}(hj:PE X a (c9 j))(jI:attributeBase a "values" X.env (ajY a)=eval a X.env)(jJ:apk):PI X tg (at3 (.Attribute a "values" ap)) (tI X.K m λρ=>rk ρ j):=by
 intro U s σ H R I zz;refine cC zz λO ρ ds hx hd q=>?_;have hd:rk ρ j=some ds:=hd;unfold rk at hd;refine slot (λe=>nS (by rw[e]at hd;exact hd)) (λe=>nS (by rw[e]at hd;exact hd)) λo d e=>?_;rw[e]at hd;cases o with
 |true=>exact nS hd
 |false=>cases d with
  |bA t ks xs=>cases t with
   |zero=>
    cases (show some _=some ds from hd);refine vx (hx.Qn e) λb o vs e1 e2 e3 e4 e5=>?_;refine PM hj jI jJ U s σ H R I ⟨ajh,e1,b,o,_,rfl,by rw[e2,ka],q _ (ajU (atI,ajh,ds)) H ad1 (Gv e3 e5.length) ⟨b,rfl,e2,e3,e4,e5⟩⟩
   |succ=>exact nS hd
  |_=>exact nS hd
def Qo(hg:Gl X "reversed")(hm:X.mg "reversed"=none)(ha:PE X a (ajQ f))(hs:ag6):
  PI X tg (akO (.Name "reversed" p)) (tI X.K m λρ=>(f ρ).bind BR):=by
 intro U s σ H R I ⟨O,ρ,ds,hx,hd,q⟩;refine aa aa6 λx e1 hd=>PK hg hm (b_ ha dm hs) hs U s σ H R I ⟨O,ρ,x,hx,e1,λv H1 s1 r=>?_⟩;cases x with
 |tup xs=>
  cases hd;refine bg r.tup λb vs ak h1 h2=>?_;subst ak;refine⟨b,vs,rfl,h1,q _ aCY H1 s1 (λO' H' ⟨c,us,e,g1,g2⟩=>?_) (akf r.own)⟩;cases e;have l1:=g2.length;have l2:=h2.length;have lr:xs.reverse.length=vs.length:=by rw[List.length_reverse];exact l2.symm
  refine⟨λi hi=>⟨us,g1,(afg l1 (abc l2)),(aah hi (aap lr))⟩,λi y WB d ⟨e,hy⟩ hd=>?_,lr⟩;subst e;have hi:i<xs.length:=by
   have:=(aax.mp hd).1;simpa using this
  have ey:=hy us g1;rw[List.getElem?_reverse hi]at hd;refine aa (g2.get hd) λv e1 e2=>?_;have:vs.length-1-i=xs.length-1-i:=by lia
  rw[this,e1]at ey;cases ey;exact⟨ad1,e2⟩
 |_=>cases hd
end
section
variable {X:Cx}{a b c e:Expr}{es:ag7}{pos p:Pos}{m:Bool}
def EX.ext{K:aE}{p:Addr}(h:EX K O σ H1 ρ)(hp:ak9)(s:ag H1 H)(e:H p=some ahp):EX K (λa=>O a\/a=p) σ H ρ:=by
 refine⟨λa ha=>?_,λi o d hi=>?_⟩
 .rcases ha with ha|ha
  .exact aa (h.live a ha) λus q qo=>⟨us,s _ _ q,qo⟩
  .subst ha;exact⟨_,e,trivial⟩
 .refine aa (h.kK i o d hi) λv h1 h2=>⟨v,h1,?_⟩;cases o with
  |true=>
   exact bF h2 λa e1 e2 c=>⟨a,e1,.inl e2,(c.own hp).mono s⟩
  |false=>exact(bz.own h2 hp).mono s
def AG(h:o.join=some x):o=some (ajU x):=by
 cases o with
 |none=>cases h
 |some y=>cases y with
  |none=>cases h
  |some z=>cases h;rfl
theorem EX.inner{K:aE}(h:ahT)(r:au K O H us ys)(fr:ahj):EX K O (us.map some++jL fr σ) H atr:=by
 refine⟨h.live,λi o d' hi=>?_⟩;unfold Py.inner at hi;have hl:=r.length;by_cases bj:i<ys.length
 .rw[abp (by simpa using bj),aau]at hi;obtain⟨y,e1,e2⟩:=map_some hi;cases e2;obtain⟨v,f1,f2⟩:=r.get e1;exact⟨v,by rw[abp (by simpa[hl]using bj),aau,f1];rfl,f2⟩
 .rw[abt (by simpa using bj),aad]at hi;unfold OJ at hi;rw[aau]at hi;refine aa (akG hi) λi0 e0 hj=>aa (h.kK i0 o d' (AG hj)) λw h1 h2=>⟨w,?_,h2⟩;rw[abt (by simpa[hl]using bj),aad,hl];unfold jL;rw[aau,e0];show some (σ[i0]?).join =_;rw[h1];rfl
noncomputable def qw(tg:Nat)(fs:Env->alP)(fe:Env->ahN)(fr:ahj)(ρ:Env)(y:D):asj:=(aB tg y).bind λys=>(fs atr).bind λk=>if k then(fe atr).map some else some none
def WC(K:aE)(k tg:Nat)(g:TG):Prop:=∀O x H d ys ba Q,bz K O H x d->aB tg d=some ys->(∀us,au K O H us ys->Q (us.map some++ba) H)->g x (List.replicate k none++ba) H Q
def Qp{K:aE}:WC K 1 0 (cQ 0):=λO x H d ys ba Q r e q=>by
 cases e;exact q [x] (aj2 r)
def qx{K:aE}(hg:WC K k tg g)(σ:St)(H:Hp)(Q:VK)
  (h:tF K (λρ=>(fi ρ).bind λxs=>if xs.length<=bX then walk (aBB tg) xs else none) σ H Q):p9 k fr (aB4 K) g (tB K fs) (aqH fe) σ H Q:=by
 refine cC h λO ρ out hx hd q=>aa aa6 λxs e1 hd=>?_;split at hd
 .rename_i hz;refine⟨O,ρ,xs,hx,e1,λJ iw H1 s1 C2 uO p hp=>?_⟩;have r8:=hx.mono s1;have LR:fQ K (λa=>O a\/a=p) H1 iw:=uO.ok.own hp;refine⟨λi m H'=>aAF/\aCu/\ag H1 H'/\∃vs ys ba,H' p=some ahp/\au K (λa=>O a\/a=p) H' vs ys/\ys.length<=i/\walk (aBB tg) aCd=some ba/\out=ys++ba,
   ⟨xs.length,rfl,abk _,ahu,[],[],out,ah,.nil,aam _,hd,rfl⟩,?_⟩
  rintro i mm H2 ⟨rfl,hi,s2,vs,ys,ba,ep,rp,hl,hw,ho⟩;refine cY aAr λgo Bw stop=>?_;by_cases bj:i<xs.length
  .refine .inr ⟨go i bj,λx H3 hy=>?_⟩;have UN:xs[i]?=some xs[i]:=by simp[bj]
   obtain⟨s3,rx⟩:=Bw i x H3 _ hy UN;have Qq:H3 p=some ahp:=s3 _ _ ep;have UO:EX K (λa=>O a\/a=p) σ H3 ρ:=r8.ext hp atb Qq;have dr:xs.drop i=xs[i]::xs.drop (i+1):=(abv bj);rw[dr,walk]at hw;have ht:qw tg fs fe fr ρ xs[i]=(aB tg xs[i]).bind λys=>(fs (atZ ys)).bind λk=>if k then(fe (atZ ys)).map some else some none:=rfl
   rw[ht]at hw;cases UP:aB tg xs[i]with
   |none=>rw[UP]at hw;cases hw
   |some zs=>
   rw[UP,abJ]at hw;refine hg _ x H3 _ zs _ _ rx UP λus Y9=>?_;have Qr:=UO.inner Y9 fr;cases ek:fs (atZ zs)with
   |none=>rw[ek]at hw;cases hw
   |some k=>
    rw[ek]at hw;refine⟨_,_,k,Qr,ek,λH4 s4=>?_⟩;have WD:H4 p=some ahp:=s4 _ _ Qq;cases k with
    |false=>
     refine pL ⟨axB,ash,rfl,bj,(s2.trans s3).trans s4,vs,ys,ba,WD,rp.mono (s3.trans s4),afx hl,?_,ho⟩;simpa using hw
    |true=>
     cases ee:fe (atZ zs)with
     |none=>rw[abJ,aav rfl,ee]at hw;cases hw
     |some d=>
      rw[abJ,aav rfl,ee]at hw;simp only[adB]at hw;refine aa (akG hw) λC3 yv Qs=>ny ⟨_,_,d,Qr.mono s4,ee,λv H5 s5 r5=>?_⟩;have WE:H5 p=some ahp:=s5 _ _ WD;have Y_:ag H1 H5:=((s2.trans s3).trans s4).trans s5;refine⟨vs,axB,WE,by rw[rp.length,cH];exact aaO hl (aah bj hz),ash,rfl,bj,λbb oo eb=>?_,amZ,ys++[d],C3,ah,?_,?_,yv,?_⟩
      .rw[aq (bZ eb hp)];exact Y_ _ _ eb
      .exact((rp.mono ((s3.trans s4).trans s5)).append (aj2 r5.own)).upd aA1 WE trivial
      .rw[aan,abb];exact abr hl
      .rw[ho,<-Qs,aaL];rfl
  .have ei:i=xs.length:=aum;subst ei;refine .inl ⟨stop,?_⟩;rw[aeN,walk]at hw;cases hw;rw[abf]at ho;subst ho;have Y':akp:=by
    cases z:H p with
    |none=>rfl
    |some o=>rw[s1 _ _ z]at hp;cases hp
   let H0:Hp:=λb=>if b=p then none else H2 b
   have e0:L2.upd H0 p ahp=H2:=by
    funext b;unfold L2.upd;by_cases hb:b=p
    .rw[aav hb,hb,ep]
    .rw[aaC hb];exact aaC hb
   have k0:∀b,b≠p->H0 b=H2 b:=λb hb=>aaC hb;rw[<-e0];refine q p vs H0 (λb o eb=>?_) aC1 ?_
   .rw[k0 b (λz=>by rw[z,Y']at eb;cases eb)];exact s2 _ _ (s1 _ _ eb)
   .refine fM (λb us hb=>?_) (λb us hb nb=>⟨?_,λz=>nb (Or.inl z)⟩) (λb o u hb=>by rw[k0 b (c8 hb ep (by intro z;cases z))];exact hb) rp
    .have iY:H2 b=some amb:=hb;show H0 b=some amb;rw[k0 b (c8 iY ep (by intro z;cases z))];exact iY
    .rcases hb with hb|⟨u,hb⟩
     .exact .inl (by rw[k0 b (λz=>nb (amY z))];exact hb)
     .exact .inr ⟨u,by rw[k0 b (λz=>nb (amY z))];exact hb⟩
 .cases hd
def R9:rf 1 (cQ 0):=λx σ H Q h=>⟨h,abj ..,λi hi=>by rw[aaQ (aaJ hi)]⟩
def LU(hi:PI X atJ iter (aB4 X.K))(S:KA X.N X.env.scope sc N' 1 fr)(hc:agH)
  (KC:∀cl C U s H ex,PG ae7 atJ (cQ 0)/\zL ae7 ifs (tB X.K fs)/\PE ae7 eQ (ajQ fe))
  (hs:∀x,aiA):PE X (.ListComp eQ [⟨atJ,iter,ifs,0⟩] sc pos) (tF X.K λρ=>(fi ρ).bind λxs=>if xs.length<=bX then walk (aBB 0) xs else none):=
 (xj hi S hc R9 KC hs).weak λσ H Q h=>qx Qp σ H Q h
def C4:zL X [] (tB X.K λ_=>at8):=λU s σ H Q I zz=>by
 refine cC zz λO ρ k hx hd q=>?_;cases hd;exact Ft U s σ H Q I (q H ad1)
def Gw{f:Env->Option D}(h:PT X c (tB X.K λρ=>alT))(hr:zL X es (tB X.K g)):zL X (c::es) (tB X.K λρ=>((f ρ).bind fE).bind λx=>if x=true then g ρ else some x):=λU s σ H Q I zz=>by
 refine cC zz λO ρ k hx hd q=>aa aa6 λx e1 hd=>BN h hr U s σ H Q I ⟨O,ρ,x,hx,e1,λH1 s1=>?_⟩;cases x with
 |true=>exact ny ⟨O,ρ,k,aho,by rw[aav rfl]at hd;exact hd,λH2 s2=>q H2 agV⟩
 |false=>rw[aaC aai]at hd;cases hd;exact pL ayZ
end
abbrev GT:=List Str×List (Str×Int)
noncomputable def pS(sc:Scope)(x:Str):Bool:=match sc.names.lookup x with|some .local =>true|some .cell =>true|some .free =>true|_=>false
noncomputable def gY(sc:Scope)(x:Str):Bool:=match sc.names.lookup x with|some .globalImplicit =>true|_=>false
noncomputable def yw(x:Str):Bool:=!ac5&&!(x==("__classdict__":Str))
noncomputable def bc:Expr->Bool| .Starred _ _=>false|_=>true
noncomputable def cc:Expr->Bool| .Slice _ _ _ _=>false|_=>true
noncomputable def gZ:Expr->Bool| .Set _ _ _=>false|_=>true
noncomputable def C5:Expr->Bool| .Name _ _=>true| .Subscript _ _ _=>true| .Constant _ _ _=>true|_=>false
noncomputable def WG:Const->Bool| .int i=>decide (i=1)|_=>false
noncomputable def WH:D->Const->Bool
 | .cv,.none =>true
 | .bl b,.bool c=>b==c
 | .int i,.int j=>decide (i=j)
 |_,_=>false
noncomputable def Qt(G:GT)(x:Str):D->Bool| .int i=>decide asQ|_=>false
noncomputable def lZ(sc EL:Scope):Scope:={sc with names:=sc.names.map λ(n,k)=>if(k == .free&&EL.kind == .function&&EL.names.lookup n==some .cell) then(n,.cell) else(n,k)}
noncomputable def pT(N:ae1)(xs:ae1)(fr:ahj):ae1:=xs++fr.map λi=>N.getD i ""
noncomputable def AH(N:ae1)(EL sc:Scope)(xs:ae1)(fr:ahj):Bool:=
 decide (sc.kind= .function)&&sc.names.all (λy=>decide (apK ->(y.1,aoj)∉sc.names))&&sc.names.all (λy=>decide (y.2= .local ->sc.names.lookup y.1=some .local)) &&
 sc.names.all (λy=>decide (apK ->awg \/EL.names.lookup y.1=some .free)) &&
 fr.all (λi=>match N[i]? with|some y=>decide (sc.names.lookup y=some .free)|none=>false)&&xs.all (λx=>decide (awo \/an4))&&decide (pT N xs fr).Nodup
noncomputable def Gx(_:E):Bool:=true
noncomputable def fresh:E->Bool
 | .lst _=>true
 | .comp _ _ _ _ _=>true
 | .bin .Add _ _=>true
 | .prim .list _=>true
 | .sX .list _=>true
 | .sl _ _ _=>true
 |_=>false
noncomputable def c7(N:ae1)(sc:Scope)(i:Nat)(e:Expr):Bool:=match e with| .Name x _=>decide (N[i]?=some x)&&pS sc x&&yw x|_=>false
noncomputable def gf(e:Expr)(k:Str->Bool):Bool:=match e with| .Name x _=>k x|_=>false
noncomputable def r_(e:Expr)(k:Expr->ag7->Pos->Bool):Bool:=match e with| .Call f a s p=>s.isEmpty&&k f a p|_=>false
noncomputable def C6(e:Expr)(k:Expr->Str->Pos->Bool):Bool:=match e with| .Attribute o n p=>k o n p|_=>false
noncomputable def uP(e:Expr)(k:Expr->Expr->Bool):Bool:=match e with| .Subscript v s _=>k v s|_=>false
noncomputable def sf(e:Expr)(k:List ap9->ag7->Bool):Bool:=match e with| .Dict a b _=>k a b|_=>false
noncomputable def LV(e:Expr)(k:Expr->List Comprehension->Scope->Bool):Bool:=match e with| .ListComp a b c _=>k a b c|_=>false
noncomputable def IZ(e:Expr)(k:Expr->List CmpOp->ag7->Bool):Bool:=match e with| .Compare l a b _=>k l a b|_=>false
noncomputable def uQ(st:Stmt)(k:ag7->Expr->Bool):Bool:=match st with| .Assign t v _=>k t v|_=>false
noncomputable def lB(st:Stmt)(k:Expr->Bool):Bool:=match st with| .Expr e _=>k e|_=>false
noncomputable def pU(l:agM)(k:α->Bool):Bool:=match l with|[]=>false|a::r=>r.isEmpty&&k a
noncomputable def WI(l:agM)(k:α->α->Bool):Bool:=match l with|[]=>false|a::r=>pU r (k a)
noncomputable def wJ(o:ayb)(k:α->Bool):Bool:=match o with|none=>false|some a=>k a
noncomputable def qy(e:Expr)(k:Str->ag7->Bool):Bool:=r_ e λf a _=>gf f λx=>k x a
noncomputable def l5(e:Expr)(k:Expr->Str->ag7->Bool->Bool):Bool:=r_ e λf a cp=>C6 f λo n ap=>k o n a agG
noncomputable def sj(st:Stmt)(k:Str->Expr->Bool):Bool:=uQ st λt v=>pU t λe=>gf e λx=>k x v
noncomputable def LX(e:Expr)(k:Expr->CmpOp->Expr->Bool):Bool:=IZ e λl a b=>pU a λo=>pU b λr=>k l o r
noncomputable def l6(e:Expr)(k:Str->Expr->Bool):Bool:=qy e λx a=>pU a (k x)
section
variable {e:Expr}{st:Stmt}
def cL(h:gf e k=true):∃x p,e= .Name x p/\k x=true:=by
 cases e with
 |Name x p=>exact⟨x,p,rfl,h⟩
 |_=>cases h
def lC(h:r_ e k=true):∃f a p,e= .Call f a [] p/\k f a p=true:=by
 cases e with
 |Call f a s p=>
  have h':(s.isEmpty&&k f a p)=true:=h;rw[aae]at h';cases s with
  |nil=>exact⟨f,a,p,rfl,h'.2⟩
  |cons _ _=>cases h'.1
 |_=>cases h
def AI(h:C6 e k=true):∃o n p,e= .Attribute o n p/\k o n p=true:=by
 cases e with
 |Attribute o n p=>exact⟨o,n,p,rfl,h⟩
 |_=>cases h
def kf(h:uP e k=true):∃v s p,e= .Subscript v s p/\k v s=true:=by
 cases e with
 |Subscript v s p=>exact⟨v,s,p,rfl,h⟩
 |_=>cases h
def lE(h:sf e k=true):∃a b p,e= .Dict a b p/\k a b=true:=by
 cases e with
 |Dict a b p=>exact⟨a,b,p,rfl,h⟩
 |_=>cases h
def yx(h:LV e k=true):∃a b c p,e= .ListComp a b c p/\k a b c=true:=by
 cases e with
 |ListComp a b c p=>exact⟨a,b,c,p,rfl,h⟩
 |_=>cases h
def C7(h:IZ e k=true):∃l a b p,e= .Compare l a b p/\k l a b=true:=by
 cases e with
 |Compare l a b p=>exact⟨l,a,b,p,rfl,h⟩
 |_=>cases h
def kg(h:uQ st k=true):∃t v p,st= .Assign t v p/\k t v=true:=by
 cases st with
 |Assign t v p=>exact⟨t,v,p,rfl,h⟩
 |_=>cases h
def fR(h:lB st k=true):∃e p,st= .Expr e p/\k e=true:=by
 cases st with
 |Expr e p=>exact⟨e,p,rfl,h⟩
 |_=>cases h
def bP(h:pU l k=true):∃a,l=[a]/\k a=true:=by
 cases l with
 |nil=>cases h
 |cons a r=>
  have h':(r.isEmpty&&k a)=true:=h;rw[aae]at h';cases r with
  |nil=>exact⟨a,rfl,h'.2⟩
  |cons _ _=>cases h'.1
def LY(h:WI l k=true):∃a b,l=[a,b]/\k a b=true:=by
 cases l with
 |nil=>cases h
 |cons a r=>exact aa (bP (show pU r (k a)=true from h)) λb e q=>⟨a,b,by rw[e],q⟩
def qz(h:wJ o k=true):∃a,o=some a/\k a=true:=by
 cases o with
 |none=>cases h
 |some a=>exact⟨a,rfl,h⟩
def g_(h:qy e k=true):∃x q a p,e= .Call atJ a [] p/\k x a=true:=
 kI (lC h) λf a p e1 h=>eO (cL h) λx q e2 h=>⟨x,q,a,p,by rw[e1,e2],h⟩
def dY(h:l5 e k=true):∃o n ap a cp,e= .Call (.Attribute o n ap) a [] cp/\k o n a agG=true:=
 kI (lC h) λf a p e1 h=>kI (AI h) λo n ap e2 h=>⟨o,n,ap,a,p,by rw[e1,e2],h⟩
def eX(h:sj st k=true):∃x px v p,st= .Assign [ahs] v p/\k x v=true:=
 kI (kg h) λt v p e1 h=>aa (bP h) λa e2 h=>eO (cL h) λx q e3 h=>⟨x,q,v,p,by rw[e1,e2,e3],h⟩
def yz(h:LX e k=true):∃l o r p,e= .Compare l [o] [r] p/\k l o r=true:=
 mr (C7 h) λl a b p e1 h=>aa (bP h) λo e2 h=>aa (bP h) λr e3 h=>⟨l,o,r,p,by rw[e1,e2,e3],h⟩
def dZ(h:l6 e k=true):∃x q a p,e= .Call atJ [a] [] p/\k x a=true:=
 mr (g_ h) λx q a p e1 h=>aa (bP h) λb e2 h=>⟨x,q,b,p,by rw[e1,e2],h⟩
end
mutual
noncomputable def bM(G:GT):E->ae1->Scope->Expr->Bool
 | .var i,N,sc,e=>match e with| .Name x _=>decide (N[i]?=some x)&&pS sc x&&yw x|_=>false
 | .c d,_,sc,e=>match e with| .Constant c _ _=>WH d c| .Name x _=>gY sc x&&yw x&&Qt G x d|_=>false
 | .bin o a b,N,sc,e=>match e with| .BinOp l op r _=>decide (o=op)&&bM G a N sc l&&bM G b N sc r|_=>false
 | .cmp o a b,N,sc,e=>LX e λl op r=>decide (o=op)&&bM G a N sc l&&bM G b N sc r&&gZ r
 | .BP k es,N,sc,e=>match e with| .BoolOp op vs _=>decide (op=bo k)&&!vs.isEmpty&&oq G es N sc vs|_=>false
 | .not a,N,sc,e=>match e with| .UnaryOp op x _=>decide (op= .Not)&&bM G a N sc x&&Gx a|_=>false
 | .tup es,N,sc,e=>match e with| .Tuple xs _ _=>d_ G es N sc xs|_=>false
 | .lst es,N,sc,e=>match e with| .List xs _=>d_ G es N sc xs|_=>false
 | .idx a i,N,sc,e=>match e with| .Subscript v s _=>bM G a N sc v&&bM G i N sc s&&cc s|_=>false
 | .sl a lo hi,N,sc,e=>match e with
  | .Subscript v s _=>match s with
   | .Slice l h st _=>st.isNone&&bM G a N sc v&&I8 G lo N sc l&&I8 G hi N sc h
   |_=>false
  |_=>false
 | .call f es,N,sc,e=>qy e λx as=>decide (G.1[f]?=some x)&&gY sc x&&yw x&&!as.isEmpty&&d_ G es N sc as
 | .prim q es,N,sc,e=>qy e λx as=>decide (x=i9 q)&&gY sc x&&!as.isEmpty&&d_ G es N sc as
 | .sX q es,N,sc,e=>l6 e λx ar=>l6 ar λy a0=>(decide (q= .list)||decide (q= .tuple))&&decide (x=i9 q)&&decide (y="range")&&gY sc x&&gY sc y&&d_ G es N sc [a0]
 | .fj mm o es,N,sc,e=>l5 e λoe nm as b=>pU as λa0=>decide (nm="index")&&C5 oe&&b&&bM G o N sc oe&&d_ G es N sc [a0]
 | .comp fr tg it ifs eQ,N,sc,e=>LV e λel gs iD=>pU gs λg=>gf g.target λx=>decide (tg=0)&&decide (g.is_async=0)&&gZ g.iter&&AH N sc iD [x] fr&&Gy G it N sc g.iter&&oq G ifs (pT N [x] fr) ark g.ifs&&bM G eQ (pT N [x] fr) ark el
 | .nD i k,N,sc,e=>match e with| .Subscript v s _=>c7 N sc i v&&bM G k N sc s&&cc s|_=>false
 | .zO neg k i,N,sc,e=>LX e λl op r=>decide (op=if neg then .NotIn else .In)&&bM G k N sc l&&c7 N sc i r
 | .sset a,N,sc,e=>l6 e λx ar=>l6 ar λy a0=>decide (x="sorted")&&decide (y="set")&&gY sc x&&gY sc y&&bM G a N sc a0&&bc a0
 | .i6 i,N,sc,e=>l6 e λx a0=>decide (x="sorted")&&gY sc x&&c7 N sc i a0
 |_,_,_,_=>false
noncomputable def d_(G:GT):E->ae1->Scope->ag7->Bool
 | .nil,_,_,es=>es.isEmpty
 | .cons a r,N,sc,es=>match es with|e::es=>bM G a N sc e&&bc e&&d_ G r N sc es|[]=>false
 |_,_,_,_=>false
noncomputable def oq(G:GT):E->ae1->Scope->ag7->Bool
 | .nil,_,_,es=>es.isEmpty
 | .cons a r,N,sc,es=>match es with|e::es=>bM G a N sc e&&Gx a&&oq G r N sc es|[]=>false
 |_,_,_,_=>false
noncomputable def I8(G:GT):E->ae1->Scope->ap9->Bool
 | .nil,_,_,o=>o.isNone
 | .cons a _,N,sc,o=>match o with|some e=>bM G a N sc e|none=>false
 |_,_,_,_=>false
noncomputable def Gy(G:GT):E->ae1->Scope->Expr->Bool
 | .gJ es,N,sc,e=>qy e λx as=>decide (x="range")&&gY sc x&&decide (as.length=1)&&d_ G es N sc as
 | .it a,N,sc,e=>bM G a N sc e
 | .Nm a,N,sc,e=>l6 e λx a0=>decide (x="reversed")&&gY sc x&&bM G a N sc a0&&bc a0
 | .dk i,N,sc,e=>c7 N sc i e
 | .dv i,N,sc,e=>l5 e λoe nm as b=>as.isEmpty&&decide (nm="values")&&c7 N sc i oe&&b
 |_,_,_,_=>false
end
def bL(h:axU):starEach (e::es) env=(false,eval e env)::starEach es env:=by
 cases e<;>first|rfl|exact absurd h aai
theorem hJ:∀{es:ag7},azc->(backTo pos (starEach es env)).any (·.1)=false
 |[],_=>rfl
 |e::es,h=>by
  rw[adL,aae]at h;rw[bL h.1];show(false||(backTo pos (starEach es env)).any (·.1))=false;rw[hJ h.2];rfl
def kh:∀{e':E}{N:ae1}{sc:Scope}{es:ag7},d_ G e' N sc es=true->azc:=λ{e'}=>by
 induction e' with
 |nil=>
  intro N sc es h;rw[d_]at h;cases es with
  |nil=>rfl
  |cons _ _=>cases h
 |cons a r _ ih=>
  intro N sc es h;cases es with
  |nil=>rfl
  |cons e es=>
   rw[d_]at h;simp only[aae]at h;rw[adL,aae];exact⟨h.1.2,ih h.2⟩
 |_=>intro N sc es h;exact absurd (show false=true from h) aai
def C8:∀{e':E},rj ρ e'=false->dQ F true e' ρ=dQ F false e' ρ:=λ{e'}=>by
 induction e' with
 |nil=>intro _;rfl
 |cons a r _ ih=>
  intro h;have hr:rj ρ r=false:=by
   cases a with
   |var i=>exact(agk.mp h).2
   |_=>exact h
  have ha:ev F true a ρ=ev F false a ρ:=by
   cases a with
   |var i=>
    show rd true ρ i=rd false ρ i;have h1:rh ρ i=false:=(agk.mp h).1;unfold rd;unfold rh at h1;cases e:ρ[i]? with
    |none=>rfl
    |some o=>
     cases o with
     |none=>rfl
     |some t=>
      obtain⟨o,d⟩:=t;rw[e]at h1;have UQ:o=false:=h1;subst UQ;rfl
   |_=>rfl
  show(ev F true a ρ).bind _=(ev F false a ρ).bind _;rw[ha,ih hr]
 |_=>intro _;rfl
noncomputable def jr:ae1:=["len","tuple","list","min","sorted","range","enumerate","reversed","all","set"]
structure Ct(X:Cx)(G:GT)(F:FT):Prop where
 calm:X.calm=true
 units:X.A.units+64<cLine
 mg:∀x∈jr,X.mg x=none
 cst:∀(x:Str) (i:Int),asQ->∃t,X.mg x=some (apa i)
 call:∀(f:Nat) (x:Str),G.1[f]?=some x->∃(k:Nat) (fa:Addr) (fd:akq) (ps:ae1),jE X.prog X.w X.K X.mg X.base zJ k fa fd ps (yr X.K ps.length (F f))/\aAQ/\X.mg x=some ai7/\ax6/\auz/\∀ds d,aqD->ds.length=ps.length
def Ct.inner(h:ag9)(sc:Scope)(cl:ajL)(C:Addr)(N:ae1)(U:aa8)(s:ab_)(H:Hp)(ex:af7):Ct (iS X sc cl C N U s H ex) G F:=⟨h.calm,h.units,h.mg,h.cst,h.call⟩
structure cB(G:GT)(F:FT)(e':E):Prop where
 e:∀X,ag9->∀x,ahA->∀m,PE X x (akF (avD e'))
 t:∀X,ag9->∀x,ahA->Gx e'=true->PT X x (tB X.K λρ=>ayO)
 f:∀X,ag9->∀x,ahA->fresh e'=true->PE X x (tF X.K λρ=>ayP)
 es:∀X,ag9->∀xs,d_ G e' X.N X.env.scope xs=true->∀m,PA X xs (vD X.K m (dQ F m e'))
 ts:∀X,ag9->∀xs,oq G e' X.N X.env.scope xs=true->zL X xs (tB X.K (kT F true e'))/\
  (xs≠[]->∀k pos,(∀m,PE X (aj5 xs) (tV X.K m λρ=>(kT F k e' ρ).map .bl))/\PW X (aj5 xs) (tB X.K (kT F k e')))
 o:∀X,ag9->∀x,I8 G e' X.N X.env.scope x=true->PO X x (tO X.K (KI F e'))
 i:∀X,ag9->∀tg x,awe->∀m,PI X tg x az1
def js(h:pS sc x=true):wX sc x:=by
 unfold pS at h;split at h
 .rename_i e;exact .inl e
 .rename_i e;exact .inr (akf e)
 .rename_i e;exact .inr (amY e)
 .cases h
def eY(h:gY X.env.scope x=true):aye:=by
 unfold gY at h;split at h
 .rename_i e;exact e
 .cases h
def sk{X:Cx}{C:Addr}{ex:af7}(h:L2.Loc sc x):L2.Loc (iS X sc cl C N U s H ex).env.scope x/\((iS X sc cl C N U s H ex).fn x=true\/(iS X sc cl C N U s H ex).env.scope.names.lookup x=some .local):=by
 show L2.Loc (relabel sc X.env) x/\(_\/(relabel sc X.env).names.lookup x=some .local);unfold L2.Loc;rw[show(relabel sc X.env).names.lookup x=_ from RL];rcases h with h|h<;>rw[h]
 .exact⟨agR,.inr rfl⟩
 .exact⟨.inr rfl,.inl (decide_eq_true (abz h))⟩
def b7(h:yw x=true):aik/\(x==("__classdict__":Str))=false:=by
 unfold yw at h;simpa using h
def dP(h:gZ e=true):∀x,foldedSetIterable e env x=pure x:=by
 intro x;cases e<;>first|rfl|exact absurd h aai
def qA(h:gZ e=true):behindInMarks op e=false:=by
 cases e<;>first|rfl|exact absurd h aai
def ot(h:cc e=true):qY e:=by
 intro o i;cases e<;>first|rfl|exact absurd h aai
def sq(h:AH N EL sc xs fr=true):KA N EL sc (pT N xs fr) xs.length fr/\(∀x∈xs,L2.Loc sc x)/\(pT N xs fr).Nodup :=by
 unfold AH at h;simp only[aae,decide_eq_true_eq,abI]at h;obtain⟨⟨⟨⟨⟨⟨h1,h2⟩,h3⟩,h4⟩,h5⟩,h6⟩,h7⟩:=h;refine⟨⟨h1,h2,h3,h4,?_,λj y e=>?_⟩,h6,h7⟩
 .unfold pT;rw[aan,aad]
 .have e':(fr.map λi=>N.getD i "")[j]?=some y:=by
   unfold pT at e;rwa [abt alx,abU]at e
  rw[aau]at e';refine aa (akG e') λi f1 f2=>?_;have R_:=h5 i (abd f1);cases q:N[i]? with
  |none=>rw[q]at R_;cases R_
  |some z=>
   rw[q]at R_;have ez:N.getD i ""=z:=by rw[aar,q];rfl
   rw[ez]at f2;subst f2;exact⟨i,f1,q,by simpa using R_⟩
def uR(h:WH d c=true)(m:Bool):PE X (asV c) (tV X.K m λ_=>some d):=by
 cases d with
 |cv=>
  cases c with
  |none=>exact R7 JJ λ_ _ _=> .cv
  |_=>exact absurd h aai
 |bl b=>
  cases c with
  |bool b'=>
   have e:b=b':=eq_of_beq h;subst e;exact R7 N1 λ_ _ _=> .bl _
  |_=>exact absurd h aai
 |int i=>
  cases c with
  |int i'=>
   have e:i=i':=of_decide_eq_true h;subst e;exact R7 JI λ_ _ _=> .int _
  |_=>exact absurd h aai
 |tup _=>exact absurd h (by cases c<;>exact aai)
 |lst _=>exact absurd h (by cases c<;>exact aai)
 |bA _ _ _=>exact absurd h (by cases c<;>exact aai)
def C9{K:aE}{m:Bool}(h:∀ρ,f ρ=g ρ):tV K m f=tV K m g:=by rw[show f=g from funext h]
def C_{K:aE}{f g:Env->Option ac1}(h:∀ρ,f ρ=g ρ):tF K f=tF K g:=by rw[show f=g from funext h]
def jt(m:Bool)(h:PE X e (tF X.K λρ=>(f ρ).bind eV))(hf:∀ρ d,f ρ=some d->∃ds,aos):as3:=
 Gp h λρ d hd=>by
  obtain⟨ds,rfl⟩:=hf ρ d hd;exact⟨ds,by rw[hd];rfl,rfl⟩
def Gz{F:FT}(h:d_ G es N sc [a0]=true):∃a,es= .cons a .nil /\bM G a N sc a0=true/\bc a0=true:=by
 cases es with
 |cons a r=>
  rw[d_]at h;simp only[aae]at h;cases r with
  |nil=>exact⟨a,rfl,h.1.1,h.1.2⟩
  |cons b r=>exact absurd h.2 aai
  |_=>exact absurd h.2 aai
 |nil=>exact absurd h aai
 |_=>exact absurd h aai
def C'{F:FT}{es:E}{N:ae1}{sc:Scope}{G:GT}{a0 b0:Expr}(h:d_ G es N sc [a0,b0]=true):∃a b,es= .cons a (aj2 b)/\bM G a N sc a0=true/\bc a0=true/\bM G b N sc b0=true/\bc b0=true:=by
 cases es with
 |cons a r=>
  rw[d_]at h;simp only[aae]at h;refine bF (Gz (F:=F) h.2) λb ak h1 h2=>?_;subst ak;exact⟨a,b,rfl,h.1.1,h.1.2,h1,h2⟩
 |nil=>exact absurd h aai
 |_=>exact absurd h aai
def sv:∀{es:E}{N:ae1}{sc:Scope}{xs:ag7}{ds:ac1},d_ G es N sc xs=true->dQ F m es ρ=some ds->ds.length=xs.length:=λ{es}=>by
 induction es with
 |nil=>
  intro N sc xs ds h hd;cases xs with
  |nil=>cases hd;rfl
  |cons _ _=>exact absurd h aai
 |cons a r _ ih=>
  intro N sc xs ds h hd;cases xs with
  |nil=>exact absurd h aai
  |cons x xs=>
   rw[d_]at h;simp only[aae]at h;refine aa (ajR (show(ev F m a ρ).bind _=_ from hd)) λd _ hd=>aa aa6 λP7 h2 hd=>?_;cases hd;rw[aaF,aaF,ih h.2 h2]
 |_=>intro N sc xs ds h hd;exact absurd (show false=true from h) aai
section
variable {X:Cx}{a b c e:Expr}{es:ag7}{pos p:Pos}{m:Bool}
def Dc(hc:agH)(hg:Gl X "range")(hm:X.mg "range"=none)(EM:Gl X "list")(zM:X.mg "list"=none)(ha:PA X [a] anl)(hl:∀ρ ds,aCz->ds.length=1)(hs:ag6):
  PE X (.Call (.Name "list" q1) [.Call (.Name "range" p) [a] [] pos] [] tG) (tF X.K λρ=>(g ρ).bind dw):=by
 have h1:=yu (p:=p) (pos:=pos) hg hm ha hs;refine PE.weak (dM (wH hc) EM zM boot_list (b_ h1 dm rfl) aa2 aa2 rfl rfl) λσ H Q zz=>cC zz λO ρ ds hx hd q=>aa aa6 λxs e1 hd=>?_;have pW:=hl ρ xs e1;refine⟨O,ρ,xs,hx,e1,λvs H1 s1 r=>?_⟩;cases xs with
 |nil=>cases pW
 |cons x t=>
  cases t with
  |cons _ _=>cases pW
  |nil=>
   refine aa (cA r) λv ak rv=>?_;subst ak;cases x with
   |int n=>
    change (if -(2 ^ 62)<=n/\n<=bX then some (bT 0 (n).toNat) else none)=some _ at hd;split at hd
    .rename_i hz;cases hd;cases rv.int;exact⟨n,rfl,λp hp=>⟨p,n,rfl,ah,hz,λl hl=>q l _ _ axG hl (lh _ _)⟩⟩
    .cases hd
   |_=>cases hd
def Qu(hg:Gl X "range")(hm:X.mg "range"=none)(ha:PA X es anl)(hl:∀ρ ds,aCz->ds.length=es.length)(Sa:es.length=1)(hs:azc):
  PI X tg (.Call (.Name "range" p) es [] pos) (tI X.K m λρ=>(g ρ).bind dw):=by
 intro U s σ H R I ⟨O,ρ,ds,hx,hd,q⟩;refine aa aa6 λxs e1 hd=>?_;have pW:=hl ρ xs e1;have AF:aoG:=rfl;cases es with
 |nil=>simp at Sa
 |cons a t=>
  rw[adL,aae]at hs;cases t with
  |nil=>
   refine zD hg hm ha (bL hs.1) U s σ H R I ⟨O,ρ,xs,hx,e1,λvs H1 s1 r=>?_⟩;cases xs with
   |nil=>cases pW
   |cons x t=>
    cases t with
    |cons _ _=>cases pW
    |nil=>
     refine aa (cA r) λv ak rv=>?_;subst ak;cases x with
     |int n=>
      change (if -(2 ^ 62)<=n/\n<=bX then some (bT 0 (n).toNat) else none)=some _ at hd;split at hd
      .rename_i hz;cases hd;cases rv.int;exact⟨n,rfl,hz.1,(acW hz.2 aa2),q _ none H1 s1 LQ trivial⟩
      .cases hd
     |_=>cases hd
  |cons b t=>simp at Sa
end
section
variable {G:GT}{F:FT}
def cB.gg(e:∀X,ag9->∀x,ahA->∀m,PE X x (akF (avD e')))
  (t:∀X,ag9->∀x,ahA->Gx e'=true->PT X x (tB X.K λρ=>ayO))
  (f:∀X,ag9->∀x,ahA->fresh e'=true->PE X x (tF X.K λρ=>ayP))
  (n1:∀N sc xs,d_ G e' N sc xs=false:=by intro _ _ _;rfl) (n2:∀N sc xs,oq G e' N sc xs=false:=by intro _ _ _;rfl) (n3:∀N sc xs,I8 G e' N sc xs=false:=by intro _ _ _;rfl) (n4:∀N sc xs,Gy G e' N sc xs=false:=by intro _ _ _;rfl):aCM:=
 ⟨e,t,f,λX _ xs h=>absurd h (by rw[n1];exact aai),λX _ xs h=>absurd h (by rw[n2];exact aai),λX _ xs h=>absurd h (by rw[n3];exact aai),λX _ tg xs h=>absurd h (by rw[n4];exact aai)⟩
def ff{P:Prop}(h:false=true):P:=absurd h aai
def GA:cB G F .nil where
 e:=λX hC x h=>ff h
 t:=λX hC x h=>ff h
 f:=λX hC x h=>ff h
 es:=λX hC xs h m=>by
  cases xs with
  |nil=>exact Qg
  |cons _ _=>exact ff h
 ts:=λX hC xs h=>by
  cases xs with
  |nil=>exact⟨C4,λz=>absurd rfl z⟩
  |cons _ _=>exact ff h
 o:=λX hC x h=>by
  cases x with
  |none=>exact LF
  |some _=>exact ff h
 i:=λX hC tg x h=>ff h
def Dd{a r:E}(ha:aqs)(hr:cB G F r):cB G F aor where
 e:=λX hC x h=>ff h
 t:=λX hC x h=>ff h
 f:=λX hC x h=>ff h
 es:=λX hC xs h m=>by
  cases xs with
  |nil=>exact ff h
  |cons x xs=>
   rw[d_]at h;simp only[aae]at h;exact LD (ha.e X hC x h.1.1 m) (hr.es X hC xs h.2 m) (bL h.1.2)
 ts:=λX hC xs h=>by
  cases xs with
  |nil=>exact ff h
  |cons x xs=>
   rw[oq]at h;simp only[aae]at h;have t1:=ha.t X hC x h.1.1 h.1.2;have e1:=ha.e X hC x h.1.1 false;have t2:=hr.ts X hC xs h.2;refine⟨Gw t1 t2.1,λ_ k pos=>?_⟩;cases xs with
   |nil=>
    have er:∀ρ,kT F k r ρ=some k:=by
     cases r with
     |nil=>intro ρ;rfl
     |cons _ _=>exact ff h.2
     |_=>exact ff h.2
    have eq:∀ρ,kT F k aor ρ=((ev F false a ρ).bind fE).bind λx=>if x=k then some k else some x:=λρ=>by
     show((ev F false a ρ).bind fE).bind _=_;congr 1;funext x;rw[er ρ]
    refine⟨λm=>?_,?_⟩
    .rw[C9 λρ=>congrArg (aw9 D.bl) (eq ρ)];exact LB e1
    .rw[show(kT F k aor)=λρ=>((ev F false a ρ).bind fE).bind λx=>if x=k then some k else some x from funext eq];exact LC t1
   |cons y ys=>
    have t3:=t2.2 ab5 k pos;exact⟨λm=>Qd e1 (t3.1 false),Qf t1 t3.2⟩
 o:=λX hC x h=>by
  cases x with
  |none=>exact ff h
  |some x=>exact LG (ha.e X hC x h false)
 i:=λX hC tg x h=>ff h
def GB{i:Nat}:cB G F atF:=by
 have e:∀X,ag9->∀x,bM G atF X.N X.env.scope x=true->∃n p,x= .Name n p/\∀m,PE X x (akF (avD atF)):=λX hC x h=>by
  cases x with
  |Name n p=>
   change (decide (X.N[i]?=some n)&&pS X.env.scope n&&yw n)=true at h;simp only[aae,decide_eq_true_eq]at h;exact⟨n,p,rfl,λm=>v_var h.1.1 (js h.1.2) (b7 h.2).1 (b7 h.2).2⟩
  |_=>exact ff h
 refine .gg (λX hC x h m=>?_) (λX hC x h _=>?_) (λX hC x h z=>ff z)
 .refine eO (e X hC x h) λn p ak k=>?_;subst ak;exact k m
 .refine eO (e X hC x h) λn p aN k=>?_;subst aN;exact dE aAK λ_=>rfl
def yA{X:Cx}(hC:ag9)(h:(gY X.env.scope x&&yw x&&Qt G x d)=true)(m:Bool):PE X (.Name x p) (tV X.K m λ_=>some d):=by
 simp only[aae]at h;obtain⟨⟨h1,h2⟩,h3⟩:=h;cases d with
 |int i=>
  obtain⟨t,e⟩:=hC.cst x i (aqK h3);exact R7 (E3 (v:= .int i) aCG e ⟨t,rfl⟩ (b7 h2).1) λ_ _ _=> .int _
 |_=>exact ff h3
def Qv{d:D}:cB G F (.c d):=by
 refine .gg (λX hC x h m=>?_) (λX hC x h _=>?_) (λX hC x h z=>ff z)
 .cases x with
  |Constant c j p=>exact uR h m
  |Name n p=>exact yA hC h m
  |_=>exact ff h
 .cases x with
  |Constant c j p=>exact dE (uR h false) λ_=>rfl
  |Name n p=>exact dE (yA hC h false) λ_=>rfl
  |_=>exact ff h
def GC(ha:aqs)(hb:cB G F b):cB G F aBs:=by
 have aS:∀X,ag9->∀x,bM G aBs X.N X.env.scope x=true->∃l r p,x= .BinOp l o r p/\PE X l an3/\ayJ:=λX hC x h=>by
  cases x with
  |BinOp l op r p=>
   change (decide (o=op)&&bM G a X.N X.env.scope l&&bM G b X.N X.env.scope r)=true at h;simp only[aae,decide_eq_true_eq]at h;obtain⟨⟨rfl,h1⟩,h2⟩:=h;exact⟨l,r,p,rfl,ha.e X hC l h1 true,hb.e X hC r h2 true⟩
  |_=>exact ff h
 refine .gg (λX hC x h m=>?_) (λX hC x h _=>?_) (λX hC x h z=>?_)
 .refine cC af_ λl r p ak h1 h2=>?_;subst ak;exact IX h1 h2
 .refine cC af_ λl r p aN h1 h2=>?_;subst aN;exact dE (IX h1 h2) λ_=>rfl
 .refine cC af_ λl r p cV h1 h2=>?_;subst cV;cases o with
  |Add=>exact(P8 h1 h2).weak λσ H Q q=>q
  |_=>exact ff z
def GD(ha:aqs)(hb:cB G F b):cB G F aBr:=by
 have aS:∀X,ag9->∀x,bM G aBr X.N X.env.scope x=true->∃l r p,x= .Compare l [o] [r] p/\PE X l an3/\ayJ/\behindInMarks o r=false:=λX hC x h=>by
  refine mr (yz (e:=x) h) λl op r p zr dj=>?_;subst zr;simp only[aae,decide_eq_true_eq]at dj;obtain⟨⟨⟨rfl,h1⟩,h2⟩,h3⟩:=dj;exact⟨l,r,p,rfl,ha.e X hC l h1 true,hb.e X hC r h2 true,qA h3⟩
 refine .gg (λX hC x h m=>?_) (λX hC x h _=>?_) (λX hC x h z=>ff z)
 .refine Ru af_ λl r p ak h1 h2 h3=>?_;subst ak;exact P_ hC.units h1 h2 h3
 .refine Ru af_ λl r p aN h1 h2 h3=>?_;subst aN;exact Qa hC.units h1 h2 h3
def GF(ha:aqs):cB G F (.not a):=by
 have aS:∀X,ag9->∀x,bM G (.not a) X.N X.env.scope x=true->∃l p,x= .UnaryOp .Not l p/\PE X l (ajQ (ajT a))/\PT X l (tB X.K λρ=>(ev F false a ρ).bind fE):=λX hC x h=>by
  cases x with
  |UnaryOp op l p=>
   change (decide (op= .Not)&&bM G a X.N X.env.scope l&&Gx a)=true at h;simp only[aae,decide_eq_true_eq]at h;obtain⟨⟨rfl,h1⟩,h2⟩:=h;exact⟨l,p,rfl,ha.e X hC l h1 false,ha.t X hC l h1 h2⟩
  |_=>exact ff h
 refine .gg (λX hC x h m=>?_) (λX hC x h _=>?_) (λX hC x h z=>ff z)
 .refine bg af_ λl p ak h1 h2=>?_;subst ak;exact v_not h1
 .refine bg af_ λl p aN h1 h2=>?_;subst aN;exact Qb h2
def GG(he:apZ):cB G F (.BP k es):=by
 have aS:∀X,ag9->∀x,bM G (.BP k es) X.N X.env.scope x=true->∃vs p,x= .BoolOp (bo k) vs p/\(∀m,PE X aBx (tV X.K m λρ=>(kT F k es ρ).map .bl))/\PW X aBx (tB X.K (kT F k es)):=λX hC x h=>by
  cases x with
  |BoolOp op vs p=>
   change (decide (op=bo k)&&!vs.isEmpty&&oq G es X.N X.env.scope vs)=true at h;simp only[aae,decide_eq_true_eq]at h;obtain⟨⟨rfl,h1⟩,h2⟩:=h;have hv:vs≠[]:=by rintro rfl;exact ff (by simpa using h1)
   exact⟨vs,p,rfl,(he.ts X hC vs h2).2 hv k p⟩
  |_=>exact ff h
 refine .gg (λX hC x h m=>?_) (λX hC x h _=>?_) (λX hC x h z=>ff z)
 .refine bg af_ λvs p ak h1 h2=>?_;subst ak;exact h1 m
 .refine bg af_ λvs p aN h1 h2=>?_;subst aN;refine h2.pt.weak λσ H Q ⟨O,ρ,q,hx,hd,kk⟩=>⟨O,ρ,q,hx,?_,kk⟩;refine aa aa6 λd hd hq=>aa (akG (show(kT F k es ρ).map D.bl=some d from hd)) λb hb cV=>?_;subst cV;cases hq;exact hb
def GH(he:apZ):cB G F (akb es):=by
 refine .gg (λX hC x h m=>?_) (λX hC x h _=>?_) (λX hC x h z=>ff z)
 .cases x with
  |Tuple xs k p=>exact IY apT
  |_=>exact ff h
 .cases x with
  |Tuple xs k p=>exact dE (IY apT) λ_=>rfl
  |_=>exact ff h
def GI(he:apZ):cB G F azr:=by
 have aS:∀X,ag9->∀x,bM G azr X.N X.env.scope x=true->∃xs p,x= .List xs p/\PE X x (tF X.K λρ=>(ev F false azr ρ).bind eV):=λX hC x h=>by
  cases x with
  |List xs p=>
   refine⟨xs,p,rfl,(Qh apT).weak λσ H Q ⟨O,ρ,ds,hx,hd,q⟩=>⟨O,ρ,ds,hx,?_,q⟩⟩;refine aa aa6 λd hd hl=>aa (ajR (show(dQ F false es ρ).bind _=_ from hd)) λys h1 hd=>?_;show(dQ F false es ρ).bind _=_;rw[h1];split at hd
   .rename_i hz;cases hd;cases hl;exact aav hz
   .cases hd
  |_=>exact ff h
 have ER:∀ρ d,ev F false azr ρ=some d->∃ds,aos:=λρ d hd=>by
  refine aa (ajR (show(dQ F false es ρ).bind _=_ from hd)) λys h1 hd=>?_;split at hd
  .cases hd;exact⟨_,rfl⟩
  .cases hd
 refine .gg (λX hC x h m=>?_) (λX hC x h _=>?_) (λX hC x h z=>?_)
 .refine eO af_ λxs p ak k=>?_;subst ak;exact jt m k ER
 .refine eO af_ λxs p aN k=>?_;subst aN;exact dE (jt false k ER) λ_=>rfl
 .refine eO af_ λxs p cV k=>?_;subst cV;exact k
def GJ(ha:aqs)(hi:cB G F i):cB G F ayL:=by
 have aS:∀X,ag9->∀x,bM G ayL X.N X.env.scope x=true->∃v s p,x= .Subscript v s p/\∀m,PE X x (akF (avD ayL)):=λX hC x h=>by
  cases x with
  |Subscript v s p=>
   change (bM G a X.N X.env.scope v&&bM G i X.N X.env.scope s&&cc s)=true at h;simp only[aae]at h;exact⟨v,s,p,rfl,λm=>Qi (ha.e X hC v h.1.1 true) (hi.e X hC s h.1.2 false) (ot h.2)⟩
  |_=>exact ff h
 refine .gg (λX hC x h m=>?_) (λX hC x h _=>?_) (λX hC x h z=>ff z)
 .refine kI af_ λv s p ak k=>?_;subst ak;exact k m
 .refine kI af_ λv s p aN k=>?_;subst aN;exact dE aAK λ_=>rfl
def LZ{a lo hi:E}(ha:aqs)(hl:cB G F lo)(hh:cB G F hi):cB G F (.sl a lo hi):=by
 have aS:∀X,ag9->∀x,bM G (.sl a lo hi) X.N X.env.scope x=true->∃v l u p2 p,x= .Subscript v (.Slice l u none p2) p/\PE X v an3/\PO X l (tO X.K (KI F lo))/\PO X u (tO X.K (KI F hi)):=λX hC x h=>by
  cases x with
  |Subscript v s p=>
   cases s with
   |Slice l u st p2=>
    cases st with
    |some _=>exact ff h
    |none=>
     change (true&&bM G a X.N X.env.scope v&&I8 G lo X.N X.env.scope l&&I8 G hi X.N X.env.scope u)=true at h;simp only[aae]at h;exact⟨v,l,u,p2,p,rfl,ha.e X hC v h.1.1.2 true,hl.o X hC l h.1.2,hh.o X hC u h.2⟩
   |_=>exact ff h
  |_=>exact ff h
 refine .gg (λX hC x h m=>?_) (λX hC x h _=>?_) (λX hC x h z=>?_)
 .refine SA af_ λv l u p2 p ak k1 k2 k3=>?_;subst ak;exact Qj k1 k2 k3
 .refine SA af_ λv l u p2 p aN k1 k2 k3=>?_;subst aN;exact dE (Qj k1 k2 k3) λ_=>rfl
 .refine SA af_ λv l u p2 p cV k1 k2 k3=>?_;subst cV;exact(UB k1 k2 k3).weak λσ H Q q=>q
def Df(he:apZ):cB G F ao0:=by
 have aS:∀X,ag9->∀x,bM G ao0 X.N X.env.scope x=true->(∃fn args vN p,ak0)/\∀m,PE X x (akF (avD ao0)):=λX hC x h=>by
  refine mr (g_ (e:=x) h) λn q as p zr dj=>?_;subst zr;refine⟨ale,?_⟩;simp only[aae,decide_eq_true_eq]at dj;obtain⟨⟨⟨⟨h1,h2⟩,h3⟩,h0⟩,h4⟩:=dj;cases as with
  |nil=>cases h0
  |cons a0 ar=>
   refine EY (hC.call f n h1) λk fa fd ps h5 h6 h7 h8 h9 NB=>?_;have ns:=kh h4;rw[adL,aae]at ns;exact λm=>LH (g:=λb=>dQ F b es) (ln:=λρ=>rj ρ es) h5 h6 (eY h2) h7 h8 h9 NB (λb=>he.es X hC _ h4 b) (λρ hl=>C8 hl) (b7 h3).1 awG (hJ ns.2)
 refine .gg (λX hC x h m=>aqb) (λX hC x h _=>?_) (λX hC x h z=>ff z);obtain⟨⟨fn,args,vN,p,rfl⟩,k⟩:=aS X hC x h;exact dE aAK λ_=>rfl
def sA(q:vZ):i9 q∈jr:=by cases q<;>decide +kernel
def Dg(he:apZ):cB G F (.prim q es):=by
 have aS:∀X,ag9->∀x,bM G (.prim q es) X.N X.env.scope x=true->∃a0 ar n p,x= .Call (.Name (i9 q) n) (a0::ar) [] p/\Gl X (i9 q)/\(∀m,PA X (a0::ar) (vD X.K m (dQ F m es)))/\bc a0=true/\ar.all bc=true:=λX hC x h=>by
  refine mr (g_ (e:=x) h) λn pn as p zr dj=>?_;subst zr;simp only[aae,decide_eq_true_eq]at dj;obtain⟨⟨⟨rfl,h2⟩,h0⟩,h4⟩:=dj;cases as with
  |nil=>cases h0
  |cons a0 ar=>
   have ns:=kh h4;rw[adL,aae]at ns;exact⟨a0,ar,pn,p,rfl,eY h2,λm=>he.es X hC _ h4 m,ns.1,ns.2⟩
 refine .gg (λX hC x h m=>?_) (λX hC x h _=>?_) (λX hC x h z=>?_)
 .refine vG af_ λa0 ar n p ak h1 h2 h3 h4=>?_;subst ak;exact qv hC.units hC.calm h1 (ao9 (sA q)) (h2 true) aCP (hJ h4)
 .refine vG af_ λa0 ar n p aN h1 h2 h3 h4=>?_;subst aN;exact dE (qv hC.units hC.calm h1 (ao9 (sA q)) (h2 true) aCP (hJ h4)) λ_=>rfl
 .refine vG af_ λa0 ar n p cV h1 h2 h3 h4=>?_;subst cV;cases q with
  |list=>
   refine(f_list h1 (ao9 (sA .list)) (h2 true) aCP (hJ h4)).weak λσ H Q ⟨O,ρ,ds,hx,hd,k⟩=>⟨O,ρ,ds,hx,?_,k⟩;refine aa aa6 λd hd hl=>aa (ajR (show(dQ F true es ρ).bind _=_ from hd)) λxs e1 hd=>?_;show(dQ F true es ρ).bind _=_;rw[e1];cases xs with
   |nil=>cases hd
   |cons y t=>
    cases t with
    |cons _ _=>cases hd
    |nil=>
     refine aa af4 λys h5 nQ=>?_;subst nQ;cases hl;exact h5
  |_=>exact ff z
def GK(he:apZ):cB G F apF:=by
 have aS:∀X,ag9->∀x,avp->(∃fn args vN p,ak0)/\((q= .list /\PE X x (tF X.K λρ=>(ev F false apF ρ).bind eV))\/(q= .tuple /\∀m,aBY)):=λX hC x h=>by
  obtain⟨n,pn,ar,p,rfl,g⟩:=dZ (e:=x) h;obtain⟨y,py,a0,p2,rfl,g2⟩:=dZ g;replace h:=g2;refine⟨ale,?_⟩;simp only[aae,aeX,decide_eq_true_eq]at h;obtain⟨⟨⟨⟨⟨hq,rfl⟩,rfl⟩,h3⟩,h4⟩,h5⟩:=h;have ns:=kh h5;rw[adL,aae]at ns;rcases hq with rfl|rfl
  .refine .inl ⟨rfl,?_⟩;refine(Dc hC.calm (eY h4) (ao9 (by simp[jr])) (eY h3) (ao9 (by simp[jr,i9])) (avB h5) (λρ ds hd=>sv h5 hd) awG).weak λσ H Q ⟨O,ρ,ds,hx,hd,k⟩=>⟨O,ρ,ds,hx,?_,k⟩;refine aa aa6 λd hd hl=>aa (ajR (show((dQ F false es ρ).bind dw).bind (rm .list)=_ from hd)) λxs e1 hd=>?_;cases hd;cases hl;exact e1
  .refine .inr ⟨rfl,λm=>?_⟩;refine(CW (m:=m) hC.calm (eY h4) (ao9 (by simp[jr])) (eY h3) (ao9 (by simp[jr,i9])) (avB h5) (λρ ds hd=>sv h5 hd) awG).weak λσ H Q ⟨O,ρ,d,hx,hd,k⟩=>⟨O,ρ,d,hx,?_,k⟩;refine aa (ajR (show((dQ F false es ρ).bind dw).bind awr=_ from hd)) λxs e1 hd=>?_;cases hd;show((dQ F false es ρ).bind dw).map D.tup=_;rw[e1];rfl
 have ER:q= .list ->∀ρ d,ev F false apF ρ=some d->∃ds,aos:=λhq ρ d hd=>by
  subst hq;refine aa (ajR (show((dQ F false es ρ).bind dw).bind (rm .list)=_ from hd)) λxs e1 hd=>?_;cases hd;exact⟨_,rfl⟩
 have val:∀X,ag9->∀x,avp->∀m,aBY:=λX hC x h m=>by
  obtain⟨_,k⟩:=aS X hC x h;rcases k with⟨hq,k⟩|⟨hq,k⟩
  .exact jt m k (ER hq)
  .exact k m
 refine .gg val (λX hC x h _=>?_) (λX hC x h z=>?_)
 .obtain⟨⟨fn,args,vN,p,rfl⟩,_⟩:=aS X hC x h;exact dE (val X hC _ h false) λ_=>rfl
 .obtain⟨_,k⟩:=aS X hC x h;rcases k with⟨hq,k⟩|⟨rfl,_⟩
  .exact k
  .exact ff z
def jK(h:C5 oe=true):attributeBase oe nm env (avC oe)=eval oe env:=by
 cases oe<;>first|rfl|exact ff h
def Di(ho:cB G F o)(he:apZ):cB G F azL:=by
 have aS:∀X,ag9->∀x,bM G azL X.N X.env.scope x=true->(∃fn args vN p,ak0)/\∀m,PE X x (akF (avD azL)):=λX hC x h=>by
  refine Jx (dY (e:=x) h) λoe nm ap as p zr h=>aa (bP h) λa0 aN dj=>?_;subst zr aN;refine⟨ale,?_⟩;simp only[aae,decide_eq_true_eq]at dj;obtain⟨⟨⟨⟨Sa,h3⟩,h4⟩,h5⟩,h6⟩:=dj;have ns:=kh h6;rw[adL,aae]at ns;subst Sa;cases mm with
  |index=>exact λm=>Gs az9 az_ (jK h3) h4 awG
  |rg=>exact λm=>CZ az9 az_ (jK h3) h4 awG
 refine .gg (λX hC x h m=>aqb) (λX hC x h _=>?_) (λX hC x h z=>ff z);obtain⟨⟨fn,args,vN,p,rfl⟩,k⟩:=aS X hC x h;exact dE aAK λ_=>rfl
end
noncomputable def fS:aa_->ad7->aa0->Option V
 |k::ks,v::vs,x=>if k=x then some v else fS ks vs x
 |_,_,_=>none
theorem lF[DecidableEq κ](f:aa0->κ):∀(ks:aa_) (vs:ad7) (x:aa0),(∀k∈ks,f k=f x->k=x)->kW aDC (f x)=fS ks vs x
 |[],vs,x,_=>by simp[fS,kW]
 |k::ks,[],x,_=>by simp[fS,kW]
 |k::ks,v::vs,x,h=>by
  rw[aaK,aed,fS];by_cases e:k=x
  .rw[aav e,jQ (by rw[e])]
  .rw[aaC e,jR (λz=>e (h k aal z))];exact lF f ks vs x λk hk=>h k (ake hk)
theorem mO:∀{a b:aa0},a.map (Sum.inl:Int->cD)=b.map Sum.inl->a=b
 |[],[],_=>rfl
 |[],_::_,h=>by simp at h
 |_::_,[],h=>by simp at h
 |x::a,y::b,h=>by
  rw[aaK,aaK]at h;injection h with h1 h2;rw[afB h1,mO h2]
theorem lG{K:aE}:∀{x:aa0}{vs:ad7},au K O H vs (x.map .int)->vs=x.map V.int
 |[],_,.nil =>rfl
 |i::x,_,.cons r t=>by rw[r.int_inv,lG t];rfl
theorem hU:∀{xs:ac1}{p:aa0},aJ xs=some p->xs=p.map .int
 |[],p,h=>by cases h;rfl
 |x::xs,p,h=>by
  cases x with
  |int i=>
   refine aa (akG (show(aJ xs).map (i:: ·)=some p from h)) λq h1 ak=>?_;subst ak;rw[hU h1];rfl
  |_=>cases h
section
variable {K:aE}{O:Addr->Prop}{H:Hp}{a:Addr}{t:Nat}{ks:aa_}{vs:ad7}{ds:ac1}
def iE{y:V}(r:bz K O H y dy)(hx:c_ t dy=some x):(t=0/\(∃i,x=[i]/\y= .int i))\/(t≠0/\∃b,aru/\H b=some (akb ((x.map Sum.inl).map kV))):=by
 cases dy with
 |int i=>
  simp only[c_]at hx;split at hx
  .rename_i h0;cases hx;exact .inl ⟨h0,i,rfl,r.int_inv⟩
  .cases hx
 |tup xs=>
  simp only[c_]at hx;split at hx
  .cases hx
  .rename_i h0;have e:=hU hx;subst e;refine bg r.gc λb us ak h1 h2=>?_;subst ak;refine .inr ⟨h0,b,rfl,?_⟩;rw[aaV];have:=lG h2;rw[this]at h1;exact h1
 |_=>cases hx
def yB(hd:Rd H a am2)(hk:n_ t ks)(r:bz K O H y dy)(hx:c_ t dy=some x):rq H a y (fS ks vs x):=by
 rcases iE r hx with⟨h0,i,rfl,rfl⟩|⟨h0,b,rfl,hb⟩
 .unfold gF at hd;rw[aav h0]at hd;refine .inl ⟨_,azA,hd,rfl,?_⟩;have:=lF (λk:List Int=>(Sum.inl ahG:cD)) ks vs [i] (λk hm e=>by
   obtain⟨j,rfl⟩:=hk.2 h0 k hm;have:j=i:=afB e;rw[this])
  exact this.symm
 .unfold gF at hd;rw[aaC h0]at hd;exact .inr ⟨_,x.map Sum.inl,b,hd,rfl,hb,(lF (λk:List Int=>k.map (Sum.inl:Int->cD)) ks vs x λk _ e=>mO e).symm⟩
theorem ou:∀{ks:aa_}{vs:ad7}{ds:ac1}{x:aa0},agJ->ac7->(∀d,iU ks ds x=some d->∃v,fS ks vs x=some v/\aiM)/\(iU ks ds x=none->fS ks vs x=none)/\((fS ks vs x).isSome =decide (x∈ks))
 |[],_,_,x,_,_=>⟨λ_ h=>by simp[iU]at h,λ_=>by simp[fS],by simp[fS]⟩
 |k::ks,[],_,x,h,_=>by simp at h
 |k::ks,v::vs,_,x,h,.cons (d:=d) (ds:=ds) r rs=>by
  have ih:=ou (ks:=ks) (x:=x) (by simpa using h) rs;by_cases e:k=x
  .simp only[iU,fS,aav e];exact⟨λd' hd=>(by cases hd;exact⟨v,rfl,r⟩),λz=>(by cases z),by simp[e]⟩
  .simp only[iU,fS,aaC e];exact⟨ih.1,ih.2.1,by rw[ih.2.2];simp[abD e]⟩
def GL:Bn (ajU am2):=by unfold gF;split<;>exact True.intro
theorem EX.bA(hx:ahT)(h:gv ρ i=some d):∃a vs,σ[i]?=some aiY/\Rd H a (gF d.1 d.2.1 vs)/\aBR/\n_ d.1 d.2.1/\au K O H vs d.2.2:=by
 unfold gv at h;split at h
 .rename_i o t ks ds e;split at h
  .cases h
  rename_i ht;cases h;refine aa (hx.kK i o _ e) λv h1 h2=>?_;cases o with
  |true=>
   refine bF h2 λa e1 _ c=>ED (c.bA ht) λvs c1 c2 c3 c4=>?_;subst e1;exact⟨a,vs,h1,.inl c1,c2,c3,c4⟩
  |false=>
   have Ll:bz K O H v anS:=h2;cases Ll with
   |bA g1 g2 g3 g4=>exact⟨_,_,h1,.inr ⟨_,g1⟩,g2,g3,g4⟩
 .cases h
end
def bQ(h:c7 N sc i e=true):∃x p,e= .Name x p/\N[i]?=some x/\wX sc x/\aik/\(x==("__classdict__":Str))=false:=by
 cases e with
 |Name x p=>
  unfold c7 at h;simp only[aae,decide_eq_true_eq]at h;exact⟨x,p,rfl,h.1.1,js h.1.2,(b7 h.2).1,(b7 h.2).2⟩
 |_=>cases h
section
variable {X:Cx}{a b c e k:Expr}{pos p px:Pos}{m:Bool}{i:Nat}{x:Str}{f:Env->Option D}
def L4(hu:af2)(ho:aBb)(hk:PE X k (ajQ f))(hs:FJ k):PE X (ayo k) (tV X.K m λρ=>(gv ρ i).bind λd=>((f ρ).bind azg).bind λx=>iU d.2.1 d.2.2 x):=
 (FN asv ho hk hs).weak λσ H Q zz=>by
  refine cC zz λO ρ d hx hd q=>aa aa6 λdd e1 hd=>aa aa6 λxx e2 hd=>aa (ajR e2) λdy e3 e4=>kH (hx.bA e1) λa vs g1 g2 g3 g4 g5=>⟨ac_,g1,O,ρ,dy,hx,e3,λv H1 s1 r1=>?_⟩;refine aa ((ou (x:=xx) g3 (g5.mono s1)).1 d hd) λv' h1 h2=>?_;have hg:=yB (mL s1 g2) g4 r1.own e4;rw[h1]at hg;exact⟨a,v',rfl,hg,q v' H1 s1 (akf h2)⟩
def Qw{neg:Bool}(hu:af2)(hk:PE X k (ajQ f))(ho:aBb):PC X (if neg then .NotIn else .In) k a (tV X.K m λρ=>((f ρ).bind λy=>(gv ρ i).bind λd=>(c_ d.1 y).map λx=> .bl (if neg then !decide amH else decide amH))):=by
 have key:∀σ H (Q:VK),tV X.K m (λρ=>((f ρ).bind λy=>(gv ρ i).bind λd=>(c_ d.1 y).map λx=>D.bl (if neg then !decide amH else decide amH))) σ H Q->
   tV X.K false f σ H λy H1=>c9 i σ H1 λx H2=>∃a o,ajw/\rq H2 a y o/\Q (.bl (if neg then !o.isSome else o.isSome)) H2:=λσ H Q zz=>by
  refine cC zz λO ρ d hx hd q=>aa aa6 λdy e1 hd=>aa aa6 λdd e2 hd=>aa af4 λxx e3 ak=>?_;subst ak;refine⟨O,ρ,dy,hx,e1,λv H1 s1 r1=>?_⟩;refine kH ((hx.mono s1).bA e2) λa vs g1 g2 g3 g4 g5=>?_;refine⟨ac_,g1,a,_,rfl,yB g2 g4 r1.own e3,?_⟩;rw[(ou (x:=xx) g3 g5).2.2];exact q _ H1 s1 anK
 cases neg with
 |true=>exact λU s σ H Q I q=>zZ asv hk ho U s σ H Q I (key σ H Q q)
 |false=>exact λU s σ H Q I q=>K4 asv hk ho U s σ H Q I (key σ H Q q)
theorem insI_perm(x:Int):∀l,(insI x l).Perm (x::l)
 |[]=> .refl _
 |y::r=>by
  unfold insI;split
  .exact .refl _
  .exact((insI_perm x r).cons y).trans (.swap x y r)
theorem sortI_perm:∀l,(sortI l).Perm l
 |[]=> .refl _
 |x::r=>(insI_perm x (sortI r)).trans ((sortI_perm r).cons x)
theorem yC(x:Int):∀l:aa0,l.Pairwise (· <= ·)->(insI x l).Pairwise (· <= ·)
 |[],_=>aek _ _
 |y::r,h=>by
  unfold insI;rw[abH]at h;split
  .rename_i vB;refine abH.mpr ⟨λz hz=>?_,abH.mpr h⟩;rcases aat.mp hz with e|hz
   .rw[e];exact vB
   .exact adY vB (h.1 z hz)
  .rename_i vB;refine abH.mpr ⟨λz hz=>?_,yC x r h.2⟩;rcases aat.mp ((insI_perm x r).mem_iff.mp hz)with e|hz
   .rw[e];exact adW (acT vB)
   .exact h.1 z hz
theorem ox:∀l:aa0,(sortI l).Pairwise (· <= ·)
 |[]=> .nil
 |x::r=>yC x _ (ox r)
def Dj{l m:aa0}(hp:l.Perm m)(hs:l.Pairwise (· <= ·)):l=sortI m:=
 (hp.trans (sortI_perm m).symm).eq_of_pairwise (λa b _ _ h1 h2=>Int.le_antisymm h1 h2) hs (ox m)
def GN(hc:agH)(ho:aBb)(hg:Gl X "sorted")(hm:X.mg "sorted"=none)(hs:starEach [a] X.env=ad4::starEach [] X.env):PE X (akO (.Name "sorted" p)) (tV X.K m λρ=>(gv ρ i).bind λd=>if d.1=0 then(if d.2.1.length<64 then some (aj1 ((sortI (d.2.1.map λk=>ahG)).map .int)) else none)
   else if []∈d.2.1 then none else some av3):=
 (fC ((rQ hc).or (rM hc)) hg hm boot_sorted (b_ ho dm hs) aa2 aa2 hs rfl).weak λσ H Q zz=>by
  refine cC zz λO ρ d hx hd q=>aa aa6 λdd e1 hd=>kH (hx.bA e1) λb vs g1 g2 g3 g4 g5=>⟨ajh,g1,?_⟩;unfold gF at g2;by_cases h0:dd.1=0
  .rw[aav h0]at hd g2;split at hd
   .rename_i IQ;cases hd;refine .inl ⟨b,_,dd.2.1.map λk=>ahG,rfl,g2,?_,by rw[aad];exact IQ,λnr p1 p2 l hl=>?_⟩
    .rw[List.map_fst_zip (by rw[aad];exact aap g3),aaV];rfl
    .rw[Dj p1 p2];exact q _ _ aoe (akf (aBF (fN _)))
   .cases hd
  .rw[aaC h0]at hd g2;split at hd
   .cases hd
   .rename_i eG;cases hd;refine .inr ⟨b,_,dd.2.1,rfl,g2,?_,λk hk e=>eG (e▸hk),λl us hl pw=>ajF⟩;rw[List.map_fst_zip (by rw[aad];exact aap g3)]
end
section
variable {G:GT}{F:FT}
def GO(h:cc e=true):FJ e:=by
 intro o i;cases e<;>first|rfl|exact absurd h aai
def Dk(hk:cB G F k):cB G F aBp:=by
 have aS:∀X,ag9->∀x,bM G aBp X.N X.env.scope x=true->(∃v s p,x= .Subscript v s p)/\∀m,PE X x (akF (avD aBp)):=λX hC x h=>by
  cases x with
  |Subscript v s p=>
   change (c7 X.N X.env.scope i v&&bM G k X.N X.env.scope s&&cc s)=true at h;simp only[aae]at h;refine kH (bQ h.1.1) λx q ak n1 n2 n3 n4=>?_;subst ak;exact⟨⟨_,_,_,rfl⟩,λm=>L4 hC.units ahq (hk.e X hC s h.1.2 false) (GO h.2)⟩
  |_=>exact ff h
 refine .gg (λX hC x h m=>aqb) (λX hC x h _=>?_) (λX hC x h z=>ff z);obtain⟨⟨v,s,p,rfl⟩,q⟩:=aS X hC x h;exact dE (q false) λ_=>rfl
def GP(hk:cB G F k):cB G F azK:=by
 have aS:∀X,ag9->∀x,bM G azK X.N X.env.scope x=true->∃l r p,x= .Compare l [if neg then .NotIn else .In] [r] p/\(∀m,PC X (if neg then .NotIn else .In) l r (akF (avD azK)))/\behindInMarks (if neg then .NotIn else .In) r=false:=λX hC x h=>by
  refine mr (yz (e:=x) h) λl op r p zr dj=>?_;subst zr;simp only[aae,decide_eq_true_eq]at dj;obtain⟨⟨rfl,h1⟩,h2⟩:=dj;refine kH (bQ h2) λx q ak n1 n2 n3 n4=>?_;subst ak;exact⟨l,_,p,rfl,λm=>Qw hC.units (hk.e X hC l h1 false) ahq,qA rfl⟩
 refine .gg (λX hC x h m=>?_) (λX hC x h _=>?_) (λX hC x h z=>ff z)
 .refine cC af_ λl r p aN q1 q2=>?_;subst aN;exact JK (q1 m) q2
 .refine cC af_ λl r p cV q1 q2=>?_;subst cV;refine(JL (q1 false) q2).weak λσ H Q zz=>cC zz λO ρ kk hx hd q=>aa aa6 λd e1 e2=>?_;cases fO e2;exact⟨O,ρ,_,hx,e1,λv H1 s1 r1=>⟨kk,r1.bl,ayZ⟩⟩
def AJ:cB G F (.i6 i):=by
 have aS:∀X,ag9->∀x,bM G (.i6 i) X.N X.env.scope x=true->(∃fn args vN p,ak0)/\∀m,PE X x (akF (avD (.i6 i))):=λX hC x h=>by
  obtain⟨y,py,a0,p,rfl,g⟩:=dZ (e:=x) h;replace h:=g;refine⟨ale,?_⟩;simp only[aae,decide_eq_true_eq]at h;obtain⟨⟨rfl,h1⟩,h2⟩:=h;refine kH (bQ h2) λx q ak n1 n2 n3 n4=>?_;subst ak;exact λm=>GN hC.calm ahq aCG (ao9 (by simp[jr])) (bL rfl)
 refine .gg (λX hC x h m=>aqb) (λX hC x h _=>?_) (λX hC x h z=>ff z);obtain⟨⟨fn,args,vN,p,rfl⟩,q⟩:=aS X hC x h;exact dE (q false) λ_=>rfl
def cB.UR(i:∀X,ag9->∀tg x,awe->∀m,PI X tg x az1)
  (n0:∀N sc x,bM G e' N sc x=false:=by intro _ _ _;rfl) (n1:∀N sc xs,d_ G e' N sc xs=false:=by intro _ _ _;rfl) (n2:∀N sc xs,oq G e' N sc xs=false:=by intro _ _ _;rfl) (n3:∀N sc xs,I8 G e' N sc xs=false:=by intro _ _ _;rfl):aCM:=
 ⟨λX _ x h=>absurd h (by rw[n0];exact aai),λX _ x h=>absurd h (by rw[n0];exact aai),λX _ x h=>absurd h (by rw[n0];exact aai),λX _ xs h=>absurd h (by rw[n1];exact aai),λX _ xs h=>absurd h (by rw[n2];exact aai),λX _ xs h=>absurd h (by rw[n3];exact aai),i⟩
def L5:cB G F (.dk i):= .UR λX hC tg x h m=>by
 refine kH (bQ (show c7 X.N X.env.scope i x=true from h)) λy q ak n1 n2 n3 n4=>?_;subst ak;exact UL ahq
def L6:cB G F (.dv i):= .UR λX hC tg x h m=>by
 refine Jx (dY (e:=x) h) λoe nm ap as p zr dj=>?_;subst zr;simp only[aae,decide_eq_true_eq,adT]at dj;obtain⟨⟨⟨rfl,rfl⟩,h1⟩,h2⟩:=dj;refine kH (bQ h1) λy q ak n1 n2 n3 n4=>?_;subst ak;exact UM ahq rfl h2
def GQ(ha:aqs):cB G F (.Nm a):= .UR λX hC tg x h m=>by
 obtain⟨y,py,a0,p,rfl,g⟩:=dZ (e:=x) h;replace h:=g;simp only[aae,decide_eq_true_eq]at h;obtain⟨⟨⟨rfl,h1⟩,h2⟩,h3⟩:=h;exact Qo aCG (ao9 (by simp[jr])) (ha.e X hC a0 h2 false) aCP
end
def GR(hc:agH)(hu:af2)(hg:Gl X "sorted")(hm:X.mg "sorted"=none)(Za:Gl X "set")(Um:X.mg "set"=none)(ha:PE X a (anA f))(hn:ag6):
  PE X (.Call (.Name "sorted" p1) [.Call (.Name "set" p2) [a] [] q2] [] q1) (tF X.K λρ=>(f ρ).bind tS):=by
 refine PE.weak (fC (S2.uJ hc) hg hm boot_sorted (b_ (dM (S2.wD hc hu) Za Um boot_set (b_ ha dm hn) aa2 aa2 hn rfl) dm rfl) aa2 aa2 rfl rfl) λσ H Q zz=>?_;obtain⟨O,ρ,ds,hx,hd,q⟩:=zz;obtain⟨y,e3,e4⟩:=bind_some hd;cases y with
 |lst ys=>
  obtain⟨ks,e5,e6⟩:=bind_some (show(du ys).bind _=_ from e4);by_cases h7:(S2.iZ ks).length <=720
  .have e6:=aaI ((aav h7).symm.trans e6);refine⟨O,ρ,.lst ys,hx,e3,λv H1 s1 r1=>?_⟩;obtain⟨p,us,rfl,h8,h9⟩:=r1.lst;obtain⟨pt,eG⟩:=mN h9 e5;refine⟨p,us,ks,rfl,h8,pt,h7,λl ys hl pm I9=>⟨l,ys,rfl,ah,by rw[<-aad (f:=(·.2)),pm.length_eq];exact h7,λy hy=>⟨eG _ (S2.mJ.mp (aDF (amN ⟨y,hy,rfl⟩))),ag.upd hl _ _ (I9 y hy)⟩,λl2 us R1 pd=>?_⟩⟩;rw[<-e6,<-br.nP pm]at q;exact q l2 _ _ (s1.trans aoe) R1 (om pd)
  .exact nS ((aaC h7).symm.trans e6)
 |_=>exact nS e4
section
variable {G:GT}{F:FT}
def L7(n0:∀N sc x,bM G e' N sc x=false:=by intro _ _ _;rfl)(n1:∀N sc xs,d_ G e' N sc xs=false:=by intro _ _ _;rfl)(n2:∀N sc xs,oq G e' N sc xs=false:=by intro _ _ _;rfl)(n3:∀N sc xs,I8 G e' N sc xs=false:=by intro _ _ _;rfl)(n4:∀N sc xs,Gy G e' N sc xs=false:=by intro _ _ _;rfl):aCM:=
 .gg (λX hC x h=>absurd h (by rw[n0];exact aai)) (λX hC x h=>absurd h (by rw[n0];exact aai)) (λX hC x h=>absurd h (by rw[n0];exact aai)) n1 n2 n3 n4
def GS(he:apZ):cB G F awh where
 e:=λX hC x h=>ff h
 t:=λX hC x h=>ff h
 f:=λX hC x h=>ff h
 es:=λX hC x h=>ff h
 ts:=λX hC x h=>ff h
 o:=λX hC x h=>ff h
 i:=λX hC tg x h m=>by
  refine mr (g_ (e:=x) h) λn pn as p zr dj=>?_;subst zr;simp only[aae,decide_eq_true_eq]at dj;obtain⟨⟨⟨rfl,h1⟩,h2⟩,h3⟩:=dj;exact Qu aCG (ao9 (by simp[jr])) (avB h3) (λρ ds hd=>sv h3 hd) h2 (kh h3)
def L8(ha:aqs):cB G F (.it a) where
 e:=λX hC x h=>ff h
 t:=λX hC x h=>ff h
 f:=λX hC x h=>ff h
 es:=λX hC x h=>ff h
 ts:=λX hC x h=>ff h
 o:=λX hC x h=>ff h
 i:=λX hC tg x h m=>UK (ha.e X hC x h m)
def oy(hC:ag9)(hi:cB G F it)(hf:cB G F ifs)(he:cB G F eQ)(h4:AH X.N X.env.scope iD [n] fr=true)(h5:Gy G it X.N X.env.scope iter=true)
  (h6:oq G ifs aAY aCo fs=true) (h7:bM G eQ aAY aCo el=true):
  ∀cl C U s H ex,azD/\zL agW fs (tB X.K (kT F true ifs))/\PE agW el (ajQ (ajT eQ)):=λcl C U s H ex=>by
 refine cY (sq h4) λS US nd=>have hl:=US _ aal;?_;have ND:=hC.inner iD cl C aAY U s H ex;exact⟨awt,(hf.ts _ ND fs h6).1,he.e _ ND el h7 false⟩
def qB(h:bM G aiF N sc x=true):∃el n q iter fs iD p,x= .ListComp el [⟨.Name n q,iter,fs,0⟩] iD p/\tg=0/\gZ iter=true/\AH N sc iD [n] fr=true/\Gy G it N sc iter=true/\oq G ifs (aqJ N) ark fs=true/\bM G eQ (aqJ N) ark el=true:=by
 refine mr (yx (e:=x) h) λel gs iD p zr h=>aa (bP h) λg aN dj=>?_;obtain⟨sY,iter,fs,kk⟩:=g;refine eO (cL dj) λn q cV GU=>?_;change sY=_ at cV;subst zr aN cV;simp only[aae,decide_eq_true_eq]at GU;obtain⟨⟨⟨⟨⟨⟨rfl,rfl⟩,h3⟩,h4⟩,h5⟩,h6⟩,h7⟩:=GU;exact⟨el,n,q,iter,fs,iD,p,rfl,rfl,h3,h4,h5,h6,h7⟩
def yE(ρ:Env):ev F false (aqO it) ρ=((nG F true it ρ).bind λxs=>if xs.length<=bX then walk arx xs else none).map .lst :=by
 show(nG F true it ρ).bind _=_;cases nG F true it ρ with
 |none=>rfl
 |some xs=>
  show(if xs.length<=bX then _ else _)=Option.map _ (if xs.length<=bX then _ else _);by_cases h:xs.length<=bX
  .rw[aav h,aav h];rfl
  .rw[aaC h,aaC h];rfl
def Dl{g:alm}(h:e=g.map D.lst):e.bind eV=g:=by rw[h];cases g<;>rfl
def yF{K:aE}{it ifs eQ:E}(σ:St)(H:Hp)(Q:VK)(h:tF K (λρ=>(ev F false (aqO it) ρ).bind eV) σ H Q):
  tF K (λρ=>(nG F true it ρ).bind λxs=>if xs.length<=bX then walk arx xs else none) σ H Q:=by
 rwa [C_ λρ=>Dl (yE ρ)]at h
def Dm(hi:cB G F it)(hf:cB G F ifs)(he:cB G F eQ):cB G F aiF:=by
 have aS:∀X,ag9->∀x,bM G aiF X.N X.env.scope x=true->(∃el gs s p,x= .ListComp el gs s p)/\tg=0/\PE X x (tF X.K λρ=>(ev F false aiF ρ).bind eV):=λX hC x h=>by
  refine VJ (qB h) λel n q iter fs iD p ak aN h3 h4 h5 h6 h7=>?_;subst ak;subst aN;exact⟨ale,rfl,(LU (hi.i X hC _ iter h5 true) (sq h4).1 hC.calm (oy hC hi hf he h4 h5 h6 h7) (dP h3)).weak λσ H Q z=>yF σ H Q z⟩
 have ER:tg=0->∀ρ d,ev F false aiF ρ=some d->∃ds,aos:=λht ρ d hd=>by
  subst ht;rw[yE]at hd;refine aa af4 λxs h1 cV=>?_;subst cV;exact⟨_,rfl⟩
 refine .gg (λX hC x h m=>?_) (λX hC x h _=>?_) (λX hC x h z=>?_)
 .exact cY af_ λ_ hq k=>jt m k (ER hq)
 .obtain⟨⟨el,gs,s,p,rfl⟩,hq,k⟩:=aS X hC x h;exact dE (jt false k (ER hq)) λ_=>rfl
 .exact(aS X hC x h).2.2
def Dn(ha:aqs):cB G F aw0:=by
 have aS:∀X,ag9->∀x,bM G aw0 X.N X.env.scope x=true->(∃fn args vN p,ak0)/\PE X x (tF X.K λρ=>(ev F false aw0 ρ).bind eV):=λX hC x h=>by
  refine mr (dZ (e:=x) h) λn1 p1 a1 q1 zr h=>mr (dZ h) λn2 p2 a2 q2 aN h=>?_;subst zr aN;refine⟨ale,?_⟩;change (decide (n1="sorted")&&decide (n2="set")&&gY X.env.scope n1&&gY X.env.scope n2&&bM G a X.N X.env.scope a2&&bc a2)=true at h;simp only[aae,decide_eq_true_eq]at h;obtain⟨⟨⟨⟨⟨rfl,rfl⟩,h3⟩,h4⟩,h5⟩,h6⟩:=h;refine(GR hC.calm hC.units (eY h3) (ao9 (by simp[jr])) (eY h4) (ao9 (by simp[jr])) (ha.e X hC _ h5 true) (bL h6)).weak λσ H Q zz=>?_;refine cC zz λO ρ ds hx hd q=>aa aa6 λd e1 e2=>aa (akG (show((ev F true a ρ).bind tS).map D.lst=some d from e1)) λxs e3 e4=>?_;subst e4;cases (show some xs=some ds from e2);exact⟨O,ρ,ds,hx,e3,q⟩
 have ER:∀ρ d,ev F false aw0 ρ=some d->∃ds,aos:=λρ d hd=>aa (akG (show((ev F true a ρ).bind tS).map D.lst=some d from hd)) λxs _ e=>⟨xs,e.symm⟩;refine .gg (λX hC x h m=>jt m (aS X hC x h).2 ER) (λX hC x h _=>?_) (λX hC x h z=>ff z);obtain⟨⟨fn,args,vN,p,rfl⟩,k⟩:=aS X hC x h;exact dE (jt false k ER) λ_=>rfl
def snd(e':E):aCM:=by
 induction e' with
 |nil=>exact GA
 |cons a r ha hr=>exact Dd ha hr
 |var i=>exact GB
 |c d=>exact Qv
 |bin o a b ha hb=>exact GC ha hb
 |cmp o a b ha hb=>exact GD ha hb
 |tup es he=>exact GH he
 |lst es he=>exact GI he
 |idx a i ha hi=>exact GJ ha hi
 |sl a lo hi ha hl hh=>exact LZ ha hl hh
 |call f es he=>exact Df he
 |prim q es he=>exact Dg he
 |sX q es he=>exact GK he
 |comp fr tg it ifs eQ hi hf he=>exact Dm hi hf he
 |gJ es he=>exact GS he
 |it a ha=>exact L8 ha
 |fj mm o es ho he=>exact Di ho he
 |Ba a _=>exact L7
 |nD i k hk=>exact Dk hk
 |zO neg k i hk=>exact GP hk
 |i6 i=>exact AJ
 |dk i=>exact L5
 |dv i=>exact L6
 |BP k es he=>exact GG he
 |not a ha=>exact GF ha
 |sset a ha=>exact Dn ha
 |Nm a ha=>exact GQ ha
end
def Os(ab:Addr->Prop)(ow:Nat->ahe):Addr->Prop:=λa=>ab a\/∃i,ow i=some a
noncomputable def qC(ow:Nat->ahe)(i:Nat)(o:ahe):Nat->ahe:=λj=>if j=i then o else ow j
def aM:qC ow i o i=o:=aav rfl
def aQ(h:¬j=i):qC ow i o j=ow j:=aaC h
structure SX(K:aE)(H₀:Hp)(ab Z:Addr->Prop)(kv:ad7)(kd:ac1)(ow:Nat->ahe)(σ:St)(H:Hp)(ρ:Env):Prop where
 ex:EX K af0 σ H ρ
 own:∀(i:Nat) (d:D),ρ[i]?=some (ajU (true,d))->∃a,σ[i]?=some aiY/\((nC d=false/\aiT)\/(nC d=true/\Z a/\ab a))
 inj:∀i j a,aiT->ow j=some a->i=j
 new:∀i a,aiT->H₀ a=none
 same:ag H₀ H
 kp:au K af0 H kv kd
 o0:∀a,ab a->∃o,H₀ a=some o
 len:ρ.length=σ.length
section
variable {K:aE}{H₀:Hp}{ab Z:Addr->Prop}{kv:ad7}{kd:ac1}{ow:Nat->Option Addr}{σ:St}{H H1:Hp}{ρ:Env}
theorem SX.mono(h:ab0)(s:atv):SX K H₀ ab Z kv kd ow σ H1 ρ:=⟨h.ex.mono s,h.own,h.inj,h.new,h.same.trans s,h.kp.mono s,h.o0,h.len⟩
theorem SX.put(h:ab0)(r:apx)(i:Nat):SX K H₀ ab Z kv kd akt ar2 H (Py.put ρ i false d):=by
 have sub:∀a,Os ab akt a->avv:=λa z=>by
  rcases z with z|⟨j,z⟩
  .exact .inl z
  .by_cases hj:j=i
   .rw[hj,aM]at z;cases z
   .rw[aQ hj]at z;exact .inr ⟨j,z⟩
 refine⟨⟨λa ha=>h.ex.live a (sub a ha),λj o d' hj=>?_⟩,λj d' hj=>?_,λj k a hj hk=>?_,λj a hj=>?_,h.same,h.kp.weak sub,h.o0,by unfold Py.put;rw[abj,abj];exact h.len⟩
 .by_cases e_:j=i
  .subst e_;unfold Py.put at hj;by_cases hl:j<ρ.length
   .rw[aaN hl]at hj;cases hj;exact⟨v,aaN (by rw[<-h.len];exact hl),r.weak sub⟩
   .rw[aaH (by rw[abj];exact aaS hl)]at hj;cases hj
  .unfold Py.put at hj;rw[aaQ akJ]at hj;refine aa alL λw h1 h2=>⟨w,by rw[aaQ akJ];exact h1,?_⟩;cases o with
   |true=>
    refine bF h2 λa e1 e2 c=>aa aie λa' o2 o1=>?_;rw[h1]at o2;cases o2;cases e1;exact⟨a,rfl,o1.elim (λo1=> .inr ⟨j,by rw[aQ e_];exact o1.2⟩) (λo1=> .inl o1.2.2),c.weak sub⟩
   |false=>exact bz.weak h2 sub
 .by_cases e_:j=i
  .subst e_;unfold Py.put at hj;by_cases hl:j<ρ.length
   .rw[aaN hl]at hj;cases hj
   .rw[aaH (by rw[abj];exact aaS hl)]at hj;cases hj
  .unfold Py.put at hj;rw[aaQ akJ]at hj;exact aa aie λa o2 o1=>⟨a,by rw[aaQ akJ];exact o2,o1.imp (λo1=>⟨o1.1,by rw[aQ e_];exact o1.2⟩) id⟩
 .by_cases h1:j=i
  .rw[h1,aM]at hj;cases hj
  .by_cases h2:k=i
   .rw[h2,aM]at hk;cases hk
   .rw[aQ h1]at hj;rw[aQ h2]at hk;exact h.inj j k a hj hk
 .by_cases h1:j=i
  .rw[h1,aM]at hj;cases hj
  .rw[aQ h1]at hj;exact h.new j a hj
def Dp:∀a,Os ab aim a->avv\/a=p:=λa z=>by
 rcases z with z|⟨j,z⟩
 .exact .inl aCV
 .by_cases hj:j=i
  .rw[hj,aM]at z;cases z;exact .inr rfl
  .rw[aQ hj]at z;exact .inl aq1
def oz(hp:ak9)(r:ap0):au K awT azm vs ds:=((r.own hp).mono ahu).weak Dp
def SX.Qx(h:ab0)(s:atv)(hp:ak9)(hu:uK u)(i:Nat)(hi:i<ρ.length)(Sb:nC d0=false)(c:eL K awT azm p d0):
  SX K H₀ ab Z kv kd aim anG azm (al9 d0):=by
 have h1:=h.mono s;have L9:H₀ p=none:=by
  cases z:H₀ p with
  |none=>rfl
  |some o=>rw[h1.same _ _ z]at hp;cases hp
 have sub:∀a,Os ab aim a->(λa=>avv\/a=p) a:=λa z=>by
  rcases z with z|⟨j,z⟩
  .exact .inl aCV
  .by_cases hj:j=i
   .rw[hj,aM]at z;cases z;exact .inr rfl
   .rw[aQ hj]at z;exact .inl aq1
 have up:ag H1 azm:=ag.upd hp;have mv:∀{v d},bz K af0 H1 v d->bz K awT azm v d:=λq=>((q.own hp).mono up).weak sub;have Zb:∀{v d},au K af0 H1 v d->au K awT azm v d:=λq=>((q.own hp).mono up).weak sub;have WJ:∀j,ow j≠some p:=λj z=>by
  refine aa (h1.ex.live p aq1) λus q _=>?_;rw[q]at hp;cases hp
 refine⟨⟨λa ha=>?_,λj o d' hj=>?_⟩,λj d' hj=>?_,λj k a hj hk=>?_,λj a hj=>?_,h1.same.trans up,Zb h1.kp,h.o0,by unfold Py.put;rw[abj,abj];exact h.len⟩
 .rcases sub a ha with z|z
  .exact aa (h1.ex.live a z) λus q qo=>⟨us,up _ _ q,qo⟩
  .subst z;exact⟨u,ah,hu⟩
 .by_cases e_:j=i
  .subst e_;unfold Py.put at hj;rw[aaN hi]at hj;cases hj;exact⟨ahg,aaN (by rw[<-h.len];exact hi),p,rfl,.inr ⟨j,aM⟩,c⟩
  .unfold Py.put at hj;rw[aaQ akJ]at hj;refine aa (h1.ex.kK j o d' hj) λw q1 q2=>⟨w,by rw[aaQ akJ];exact q1,?_⟩;cases o with
   |true=>
    refine bF q2 λa e1 e2 c'=>aa aie λa' o2 o1=>?_;rw[q1]at o2;cases o2;cases e1;exact⟨a,rfl,o1.elim (λo1=> .inr ⟨j,by rw[aQ e_];exact o1.2⟩) (λo1=> .inl o1.2.2),((c'.own hp).mono up).weak sub⟩
   |false=>exact mv q2
 .by_cases e_:j=i
  .subst e_;unfold Py.put at hj;rw[aaN hi]at hj;cases hj;exact⟨p,aaN (by rw[<-h.len];exact hi),.inl ⟨Sb,aM⟩⟩
  .unfold Py.put at hj;rw[aaQ akJ]at hj;exact aa aie λa o2 o1=>⟨a,by rw[aaQ akJ];exact o2,o1.imp (λo1=>⟨o1.1,by rw[aQ e_];exact o1.2⟩) id⟩
 .by_cases q1:j=i
  .rw[q1,aM]at hj;cases hj;by_cases q2:k=i
   .rw[q1,q2]
   .rw[aQ q2]at hk;exact absurd hk (WJ k)
  .rw[aQ q1]at hj;by_cases q2:k=i
   .rw[q2,aM]at hk;cases hk;exact absurd hj (WJ j)
   .rw[aQ q2]at hk;exact h.inj j k a hj hk
 .by_cases q1:j=i
  .rw[q1,aM]at hj;cases hj;exact L9
  .rw[aQ q1]at hj;exact h.new j a hj
def SX.Kf(h:ab0)(s:atv)(hp:ak9)(r:ap0)(i:Nat)(hi:i<ρ.length):
  SX K H₀ ab Z kv kd aim anG (akH ahp) (al9 aoW):=h.Qx (u:= .lst vs) s hp trivial i hi rfl (akf ⟨vs,ds,rfl,ah,oz hp r⟩)
def SX.UT(h:ab0)(ha:aiT)(hs:σ[i]?=some aiY)(hH:al6)(hu:uK u)(qk:uK u')(hz:nC d0=false)(c:eL K af0 (anD u') a d0):
  SX K H₀ ab Z kv kd ow σ (anD u') (al9 d0):=by
 have oa:avv:= .inr ⟨i,ha⟩;have sm:ag H₀ (anD u'):=λb o e=>by
  have hb:b≠a:=λz=>by rw[z,h.new i a ha]at e;cases e
  rw[aq hb];exact h.same _ _ e
 refine⟨⟨λb hb=>?_,λj o d' hj=>?_⟩,λj d' hj=>?_,h.inj,h.new,sm,h.kp.upd oa hH hu,h.o0,by unfold Py.put;rw[abj];exact h.len⟩
 .by_cases ql:b=a
  .subst ql;exact⟨u',ah,qk⟩
  .exact aa (auN hb) λus q qo=>⟨us,by rw[aq ql];exact q,qo⟩
 .by_cases e_:j=i
  .subst e_;unfold Py.put at hj;by_cases hl:j<ρ.length
   .rw[aaN hl]at hj;cases hj;exact⟨ac_,hs,a,rfl,oa,c⟩
   .rw[aaH (by rw[abj];exact aaS hl)]at hj;cases hj
  .unfold Py.put at hj;rw[aaQ akJ]at hj;refine aa alL λw q1 q2=>⟨w,q1,?_⟩;cases o with
   |true=>
    refine bF q2 λb e1 e2 c'=>aa aie λb' o2 o1=>?_;rw[q1]at o2;cases o2;cases e1;have ql:b≠a:=λz=>by
     rcases o1 with o1|o1
     .exact e_ (h.inj j i b o1.2 (by rw[z];exact ha))
     .obtain⟨w,hw⟩:=h.o0 b o1.2.2;rw[z,h.new i a ha]at hw;cases hw
    exact⟨b,rfl,e2,c'.upd ql oa hH hu⟩
   |false=>exact bz.upd q2 oa hH hu
 .by_cases e_:j=i
  .subst e_;unfold Py.put at hj;by_cases hl:j<ρ.length
   .rw[aaN hl]at hj;cases hj;exact⟨a,hs,.inl ⟨hz,ha⟩⟩
   .rw[aaH (by rw[abj];exact aaS hl)]at hj;cases hj
  .unfold Py.put at hj;rw[aaQ akJ]at hj;exact h.own j d' hj
def SX.wr(h:ab0)(ha:aiT)(hs:σ[i]?=some aiY)(hH:al7)(r:au K af0 H L_ P7):
  SX K H₀ ab Z kv kd ow σ (anD (aj1 L_)) (al9 (aj1 P7)):=h.UT (u':= .lst L_) ha hs hH trivial trivial rfl (akf ⟨L_,P7,rfl,ah,r.upd (amY ⟨i,ha⟩) hH trivial⟩)
def SX.freeze(h:ab0)(hd:ρ[i]?=some (ajU (true,.lst ds))):SX K H₀ ab Z kv kd akt σ H (ρ.set i (ajU (false,.lst ds))):=by
 refine aa (h.own i _ hd) λa o2 o1=>?_;have o1:aiT:=o1.elim (λz=>z.2) λz=>nomatch z.1;refine aa (h.ex.kK i true _ hd) λw q1 q2=>bF q2 λa' e1 e3 c=>aa c.lst λvs e4 e5=>?_;rw[q1]at o2;cases o2;cases e1;have e6:¬Os ab akt a:=λz=>by
  rcases z with z|⟨j,z⟩
  .obtain⟨o,q⟩:=h.o0 a z;rw[h.new i a o1]at q;cases q
  .by_cases hj:j=i
   .rw[hj,aM]at z;cases z
   .rw[aQ hj]at z;exact hj (h.inj j i a z o1)
 have hσ:σ=σ.set i aiY:=by
  apply abP;intro j;by_cases hj:i=j
  .subst hj;have hl:i<σ.length:=(aax.mp q1).1;rw[aaN hl,q1]
  .rw[aaQ hj]
 have sub:∀b,Os ab akt b->avu:=λb z=>by
  rcases z with z|⟨j,z⟩
  .exact .inl z
  .by_cases hj:j=i
   .rw[hj,aM]at z;cases z
   .rw[aQ hj]at z;exact .inr ⟨j,z⟩
 have r:bz K (Os ab akt) H ac_ aoW:= .lst (akf e4) e6 (e5.weak sub);refine⟨⟨λb hb=>h.ex.live b (sub b hb),λj o d' hj=>?_⟩,λj d' hj=>?_,λj k b hj hk=>?_,λj b hj=>?_,h.same,h.kp.weak sub,h.o0,by rw[abj];exact h.len⟩
 .by_cases e_:j=i
  .subst e_;have hl:j<ρ.length:=(aax.mp hd).1;rw[aaN hl]at hj;cases hj;exact⟨ac_,q1,r⟩
  .rw[aaQ akJ]at hj;refine aa alL λw p1 p2=>⟨w,p1,?_⟩;cases o with
   |true=>
    refine bF p2 λb f1 f2 c'=>aa aie λb' g2 g1=>?_;rw[p1]at g2;cases g2;cases f1;exact⟨b,rfl,g1.elim (λg1=> .inr ⟨j,by rw[aQ e_];exact g1.2⟩) (λg1=> .inl g1.2.2),c'.weak sub⟩
   |false=>exact bz.weak p2 sub
 .by_cases e_:j=i
  .subst e_;have hl:j<ρ.length:=(aax.mp hd).1;rw[aaN hl]at hj;cases hj
  .rw[aaQ akJ]at hj;exact aa aie λb g2 g1=>⟨b,g2,g1.imp (λg1=>⟨g1.1,by rw[aQ e_];exact g1.2⟩) id⟩
 .by_cases h1:j=i
  .rw[h1,aM]at hj;cases hj
  .by_cases h2:k=i
   .rw[h2,aM]at hk;cases hk
   .rw[aQ h1]at hj;rw[aQ h2]at hk;exact h.inj j k b hj hk
 .by_cases h1:j=i
  .rw[h1,aM]at hj;cases hj
  .rw[aQ h1]at hj;exact h.new j b hj
def SX.keep(h:ab0)(r:apx):akM:=⟨h.ex,h.own,h.inj,h.new,h.same,.cons r h.kp,h.o0,h.len⟩
def SX.drop(h:akM):ab0:=⟨h.ex,h.own,h.inj,h.new,h.same,by cases h.kp with|cons _ t=>exact t,h.o0,h.len⟩
def SX.kept(h:akM):apx:=by cases h.kp with|cons r _=>exact r
end
def post(K:aE)(H₀:Hp)(ab Z:Addr->Prop)(kv:ad7)(kd:ac1)(D':Bs):kU->Prop
 | .next ρ=>∀ow σ H,ab0->D'.nx σ H
 | .brk ρ=>∀ow σ H,ab0->D'.bk σ H
 | .cont ρ=>∀ow σ H,ab0->D'.ct σ H
 | .ret d=>∀v H,ag H₀ H->bz K ab H v d->D'.rt v H
def tC(K:aE)(f:Env->aus):TS:=λD' σ H=>∃H₀ ab Z kv kd ow ρ out,ab0/\f ρ=some out/\post K H₀ ab Z kv kd D' out
def _root_.L2.PS.weak{st:Stmt}(h:PS X st t)(w:∀D' σ H,t' D' σ H->t D' σ H):PS X st t':=λU s σ H D' I q=>h U s σ H D' I (w D' σ H q)
def _root_.L2.mB.weak{st:amx}(h:mB X st t)(w:∀D' σ H,t' D' σ H->t D' σ H):mB X st t':=λU s σ H D' I q=>h U s σ H D' I (w D' σ H q)
noncomputable def gh:Expr->Bool
 | .ListComp _ _ _ _=>true
 | .SetComp _ _ _ _=>true
 | .DictComp _ _ _ _ _=>true
 |_=>false
noncomputable def Zc:E->Bool
 | .comp _ _ _ _ _=>true
 |_=>false
noncomputable def mj(sc:Scope)(x:Str):Bool:=match sc.names.lookup x with|some .local =>true|some .cell =>true|_=>false
noncomputable def WK:Expr->Bool
 | .Tuple _ _ _=>false
 |_=>true
noncomputable def gm(N:ae1)(sc:Scope):ahj->ag7->Bool
 |[],es=>es.isEmpty
 |i::is,es=>match es with
  |e::es=>(match e with| .Name x _=>decide (N[i]?=some x)&&mj sc x|_=>false)&&gm N sc is es
  |[]=>false
noncomputable def L'(N:ae1)(sc:Scope)(is:ahj)(tg:Nat)(e:Expr):Bool:=
 match e with
 | .Name _ _=>decide (tg=0)&&gm N sc is [e]&&decide (is.length=1)
 | .Tuple es _ _=>decide (tg=is.length)&&!es.isEmpty&&gm N sc is es
 |_=>false
noncomputable def Ma(G:GT)(it:E)(N:ae1)(sc:Scope)(sY iter:Expr):Bool:=
 match it with
 | .Ba a=>match sY with
  | .Tuple _ _ _=>l6 iter λx a0=>decide (x="enumerate")&&gY sc x&&bM G a N sc a0&&bc a0
  |_=>false
 |it=>Gy G it N sc iter
noncomputable def Dq(N:ae1)(sc:Scope)(y:Nat)(e:Expr):Bool:=l5 e λe2 nm as b=>as.isEmpty&&decide (nm="pop")&&c7 N sc y e2&&b
noncomputable def GV(G:GT)(x f:Nat)(N:ae1)(sc:Scope)(e:Expr)(ok:Expr->Bool):Bool:=
 qy e λn as=>WI as λe1 w=>decide (G.1[f]?=some n)&&gY sc n&&yw n&&c7 N sc x e1&&ok w&&bc w
noncomputable def Qy(G:GT)(x:Nat)(fr:ahj)(it k v:E)(N:ae1)(sc:Scope)(st:Stmt):Bool:=
 sj st λa e=>decide (N[x]?=some a)&&mj sc a&&LV e λel gs iD=>sf el λks vs=>pU ks λko=>wJ ko λke=>pU vs λve=>pU gs λg=>gf g.target λn=>g.ifs.isEmpty&&decide (g.is_async=0)&&gZ g.iter&&AH N sc iD [n] fr&&Gy G it N sc g.iter&&bM G k (aqJ N) ark ke&&bM G v (aqJ N) ark ve
noncomputable def UU(G:GT)(x y r f:Nat)(N:ae1)(sc:Scope)(st:Stmt):Bool:=sj st λa e=>decide (N[r]?=some a)&&mj sc a&&GV G x f N sc e (Dq N sc y)
noncomputable def I_(G:GT)(x:Nat)(p q u:E)(N:ae1)(sc:Scope)(st:Stmt):Bool:=
 uQ st λJa e=>pU Ja λo=>uP o λo2 qe=>uP o2 λe1 pe=>c7 N sc x e1&&bM G p N sc pe&&cc pe&&bM G q N sc qe&&cc qe&&bM G u N sc e&&!gh e
noncomputable def Qz(G:GT)(x y g:Nat)(w:E)(N:ae1)(sc:Scope)(st:Stmt):Bool:=
 lB st λe=>l5 e λe2 m as b=>pU as λv=>c7 N sc y e2&&decide (m="extend")&&b&&bc v&&GV G x g N sc v (bM G w N sc)
noncomputable def WL(f g h k:Stmt->Bool)(l:amx):Bool:=
 match l with
 |[]=>false
 |s1::l=>match l with
  |[]=>false
  |s2::l=>match l with
   |[]=>false
   |s3::l=>match l with
    |[]=>false
    |s4::l=>match l with
     |[]=>f s1&&g s2&&h s3&&k s4
     |_::_=>false
def Mb(e:WL f g h k l=true):∃s1 s2 s3 s4,l=[s1,s2,s3,s4]/\aCD/\aCA/\aCx/\k s4=true:=by
 cases l with
 |nil=>cases e
 |cons s1 l=>cases l with
  |nil=>cases e
  |cons s2 l=>cases l with
   |nil=>cases e
   |cons s3 l=>cases l with
    |nil=>cases e
    |cons s4 l=>cases l with
     |cons _ _=>cases e
     |nil=>
      change (f s1&&g s2&&h s3&&k s4)=true at e;simp only[aae]at e;exact⟨s1,s2,s3,s4,rfl,e.1.1.1,e.1.1.2,e.1.2,e.2⟩
noncomputable def QA(f g h:Stmt->Bool)(l:amx):Bool:=
 match l with
 |[]=>false
 |s1::l=>match l with
  |[]=>false
  |s2::l=>match l with
   |[]=>false
   |s3::l=>match l with
    |[]=>f s1&&g s2&&h s3
    |_::_=>false
def Dr(e:QA f g h l=true):∃s1 s2 s3,l=[s1,s2,s3]/\aCD/\aCA/\aCx:=by
 cases l with
 |nil=>cases e
 |cons s1 l=>cases l with
  |nil=>cases e
  |cons s2 l=>cases l with
   |nil=>cases e
   |cons s3 l=>cases l with
    |cons _ _=>cases e
    |nil=>
     change (f s1&&g s2&&h s3)=true at e;simp only[aae]at e;exact⟨s1,s2,s3,rfl,e.1.1,e.1.2,e.2⟩
noncomputable def QB(N:ae1)(sc:Scope)(m:Nat)(f g h:Stmt->Bool)(st:Stmt):Bool:=
 match st with
 | .If em a b _=>c7 N sc m em&&b.isEmpty&&QA f g h a
 |_=>false
noncomputable def QC(N:ae1)(sc:Scope)(y:Nat)(f g h:Stmt->Bool)(st:Stmt):Bool:=
 match st with
 | .While e2 a b _=>c7 N sc y e2&&b.isEmpty&&QA f g h a
 |_=>false
noncomputable def QD(N:ae1)(sc:Scope)(x:Nat)(st:Stmt):Bool:=
 match st with
 | .Return o _=>match o with
  |some e=>c7 N sc x e
  |none=>false
 |_=>false
def GW{st:Stmt}(e:QB N sc m f g h st=true):∃em s1 s2 s3 p,st= .If em [s1,s2,s3] [] p/\c7 N sc m em=true/\aCD/\aCA/\aCx:=by
 cases st with
 |If em a b p=>
  change (c7 N sc m em&&b.isEmpty&&QA f g h a)=true at e;simp only[aae]at e;refine kI (Dr e.2) λs1 s2 s3 ak q=>?_;subst ak;cases b with
  |nil=>exact⟨em,s1,s2,s3,p,rfl,e.1.1,q⟩
  |cons _ _=>cases e.1.2
 |_=>cases e
def GX{st:Stmt}(e:QC N sc m f g h st=true):∃em s1 s2 s3 p,st= .While em [s1,s2,s3] [] p/\c7 N sc m em=true/\aCD/\aCA/\aCx:=by
 cases st with
 |While em a b p=>
  change (c7 N sc m em&&b.isEmpty&&QA f g h a)=true at e;simp only[aae]at e;refine kI (Dr e.2) λs1 s2 s3 ak q=>?_;subst ak;cases b with
  |nil=>exact⟨em,s1,s2,s3,p,rfl,e.1.1,q⟩
  |cons _ _=>cases e.1.2
 |_=>cases e
def GY{st:Stmt}(e:QD N sc x st=true):∃e1 p,st= .Return (ajU e1) p/\c7 N sc x e1=true:=by
 cases st with
 |Return o p=>
  cases o with
  |none=>cases e
  |some e1=>
   exact⟨e1,p,rfl,e⟩
 |_=>cases e
mutual
noncomputable def Mc(G:GT):C->ae1->Scope->Stmt->Bool
 | .asg i e,N,sc,st=>sj st λx v=>decide (N[i]?=some x)&&mj sc x&&bM G e N sc v&&!gh v
 | .bY i e,N,sc,st=>sj st λx v=>decide (N[i]?=some x)&&mj sc x&&bM G e N sc v&&fresh e&&(!gh v||Zc e)
 | .OK i j,N,sc,st=>sj st λx v=>decide (N[i]?=some x)&&mj sc x&&c7 N sc j v
 | .BS i,N,sc,st=>sj st λx v=>decide (N[i]?=some x)&&mj sc x&&sf v λks vs=>ks.isEmpty&&vs.isEmpty
 | .upd i e,N,sc,st=>lB st λex=>l5 ex λo m as b=>pU as λv=>gf o λx=>decide (N[i]?=some x)&&pS sc x&&yw x&&decide (m="update")&&b&&bM G e N sc v&&bc v
 | .jM i ix e,N,sc,st=>uQ st λJa v=>pU Ja λo=>uP o λn k=>gf n λx=>decide (N[i]?=some x)&&pS sc x&&yw x&&bM G ix N sc k&&cc k&&bM G e N sc v
 | .app i e,N,sc,st=>lB st λex=>l5 ex λo m as b=>pU as λv=>gf o λx=>decide (N[i]?=some x)&&pS sc x&&yw x&&decide (m="append")&&b&&bM G e N sc v&&bc v
 | .ret e,N,sc,st=>match st with
  | .Return o _=>match o with
   |some v=>bM G e N sc v
   |none=>false
  |_=>false
 | .ifs c t u,N,sc,st=>match st with
  | .If x a b _=>bM G c N sc x&&Gx c&&gH G t N sc a&&gH G u N sc b
  |_=>false
 | .while c b,N,sc,st=>match st with
  | .While x a o _=>o.isEmpty&&bM G c N sc x&&Gx c&&gH G b N sc a
  |_=>false
 | .nH i b,N,sc,st=>match st with
  | .While x a o _=>o.isEmpty&&c7 N sc i x&&gH G b N sc a
  |_=>false
 | .for is tg it b,N,sc,st=>match st with
  | .For sY iter a o _=>o.isEmpty&&gZ iter&&gH G b N sc a&&L' N sc is tg sY&&Ma G it N sc sY iter
  |_=>false
 | .v5 i t es,N,sc,st=>sj st λx v=>decide (N[i]?=some x)&&mj sc x&&sf v λks vs=>pU ks λko=>wJ ko λk=>pU vs λw=>decide (t≠0)&&d_ G es N sc [k,w]
 | .zQ i k e,N,sc,st=>uQ st λJa v=>pU Ja λt=>uP t λo ix=>c7 N sc i o&&bM G k N sc ix&&cc ix&&bM G e N sc v&&!gh v
 | .pop i j,N,sc,st=>sj st λx v=>decide (N[i]?=some x)&&mj sc x&&Dq N sc j v
 | .ext i e,N,sc,st=>lB st λex=>l5 ex λo m as b=>pU as λv=>gf o λx=>decide (N[i]?=some x)&&pS sc x&&yw x&&decide (m="extend")&&b&&bM G e N sc v&&bc v
 | .expr e,N,sc,st=>lB st λx=>r_ x λ_ _ _=>bM G e N sc x
 | .raise _,_,_,st=>match st with| .Raise _ _ _=>true|_=>false
 |_,_,_,_=>false
noncomputable def gH(G:GT):C->ae1->Scope->amx->Bool
 | .skip,_,_,vE=>vE.isEmpty
 | .seq a b,N,sc,vE=>match vE with
  |s::r=>Mc G a N sc s&&gH G b N sc r
  |[]=>false
 | .fst x fr it k v c1 y r f c2 m c3 p q u g w,N,sc,vE=>WL (Qy G x fr it k v N sc) (Mc G c1 N sc) (QC N sc y (UU G x y r f N sc) (Mc G c2 N sc) (QB N sc m (Mc G c3 N sc) (I_ G x p q u N sc) (Qz G x y g w N sc))) (QD N sc x) vE
 |_,_,_,_=>false
end
def fx(h:mj sc x=true):Loc sc x:=by
 unfold mj at h;split at h
 .rename_i e;exact .inl e
 .rename_i e;exact .inr e
 .cases h
def oA(h:gh v=false):swapsWith v (ajU t) l env=pure false:=by
 cases v<;>first|rfl|exact absurd h Bool.noConfusion
section
variable {K:aE}{H₀:Hp}{ab Z:Addr->Prop}{kv:ad7}{kd:ac1}{ow:Nat->Option Addr}{σ:St}{H H1:Hp}{ρ:Env}{a:Addr}{o:Obj}{u:HO}
def SX.base(h:ab0)(e:aDn):apI:=by
 refine⟨h.ex,h.own,h.inj,λi b hb=>?_,λb w hb=>?_,h.kp,λb hb=>?_,h.len⟩
 .have eG:b≠a:=λz=>by
   refine aa aAf λw q1 q2=>?_;rw[z,e]at q1;cases q1;exact q2
  rw[aq eG];exact h.new i b hb
 .by_cases ql:b=a
  .subst ql;rw[ah]at hb;cases hb;exact e
  .rw[aq ql]at hb;exact h.same _ _ hb
 .by_cases ql:b=a
  .subst ql;exact⟨_,ah⟩
  .obtain⟨w,q⟩:=h.o0 b hb;exact⟨w,by rw[aq ql];exact q⟩
def qD(s0:H₀ a=none\/H₀ a=some ahD):ag H₀ (L2.upd H₀ a ahD):=λb w hb=>by
 by_cases ql:b=a
 .subst ql;rcases s0 with z|z
  .rw[z]at hb;cases hb
  .rw[z]at hb;cases hb;exact ah
 .rw[aq ql];exact hb
def SX.Md(h:apI)(s0:H₀ a=none\/H₀ a=some ahD)(o0:∀b,ab b->∃w,H₀ b=some w):ab0:=by
 refine⟨h.ex,h.own,h.inj,λi b hb=>?_,(qD s0).trans h.same,h.kp,o0,h.len⟩;have:=h.new i b hb;by_cases ql:b=a
 .subst ql;rw[ah]at this;cases this
 .rw[aq ql]at this;exact this
end
def GZ(h1:agJ)(h2:ks.length=us.length)(e:gF 0 ks vs=gF 0 ks us):vs=us:=by
 rw[ka,ka]at e;have e:=HO.dK.inj e;have:=congrArg (List.map Prod.snd) e;rwa [afN (by rw[aad];exact aap (abc h1)),afN (by rw[aad];exact aap (abc h2))]at this
section
variable {X:Cx}{c e:Expr}{st:Stmt}{ba:amx}{pos px:Pos}{x:Str}{i:Nat}
def Me:mB X [] (tC X.K λρ=>some av2):=jB.weak λD' σ H zz=>by
 refine mY zz λH₀ ab Z kv kd ow ρ out hx hd k=>?_;cases hd;exact k ow σ H hx
def QE(h1:PS X st (asT f))(h2:mB X ba (asT g)):mB X (st::ba) (tC X.K λρ=>(f ρ).bind λo=>match o with
  | .next ρ'=>g ρ'
  |o=>some o):=
 (b6 h1 h2).weak λD' σ H zz=>by
  refine mY zz λH₀ ab Z kv kd ow ρ out hx hd k=>aa aa6 λo e1 hd=>⟨H₀,ab,Z,kv,kd,ow,ρ,o,hx,e1,?_⟩;cases o with
  |next ρ'=>exact λow σ H h=>⟨H₀,ab,Z,kv,kd,ow,ρ',out,h,hd,k⟩
  |brk ρ'=>cases hd;exact k
  |cont ρ'=>cases hd;exact k
  |ret d=>cases hd;exact k
def QF(hN:amr)(hi:X.N[i]?=some x)(hx:ah8)(hf:ajj)(he:agZ)(hs:swapsWith e att pos.line X.env=pure false):
  PS X (anF e) (tC X.K λρ=>(f ρ).map λd=> .next ai3):=
 (gL hN hi hx he hs azi).weak λD' σ H zz=>by
  refine mY zz λH₀ ab Z kv kd ow ρ out hx hd k=>aa af4 λd e1 ak=>?_;subst ak;refine⟨af0,ρ,d,hx.ex,e1,λv H1 s1 r1=>?_⟩;exact k akt _ _ ((hx.mono s1).put r1.own i)
def Ds{K:aE}(h:ab0)(s:atv)(hp:ak9)(r:ap0)(i:Nat):
  ∃kL,SX K H₀ ab Z kv kd kL anG (akH ahp) (al9 aoW):=by
 by_cases hi:i<ρ.length
 .exact⟨_,h.Kf s hp r i hi⟩
 .have e1:aCb:=adg (by rw[<-h.len];exact aaS hi);have e2:Py.put ρ i true aoW=ρ:=adg azv;rw[e1,e2];exact⟨ow,h.mono (s.trans ahu)⟩
def qE{f:Env->Option D}(hP:PS X st (pG te (cQ i)))(ht:∀σ H Q,tF X.K (λρ=>(f ρ).bind eV) σ H Q->te σ H Q):
  PS X st (tC X.K λρ=>(f ρ).bind λd=>match d with
   | .lst xs=>some aq4
   |_=>none):=
 hP.weak λD' σ H zz=>by
  refine mY zz λH₀ ab Z kv kd ow ρ out hx hd k=>aa aa6 λd e1 hd=>?_;cases d with
  |lst ds=>
   cases hd;refine ht σ H _ ⟨af0,ρ,ds,hx.ex,by show(f ρ).bind eV=_;rw[e1];rfl,λp vs H1 s1 hp r=>?_⟩;obtain⟨kL,h'⟩:=Ds hx s1 hp r i;exact k kL _ _ h'
  |_=>cases hd
def Mf(hi:X.N[i]?=some x)(hv:ah0)(Dt:aik)(nu:(x==("__classdict__":Str))=false)(hk:PE X ke (ajQ fi))(fy:cc ke=true)(he:agZ):
  PS X arZ (tC X.K λρ=>(f ρ).bind λd=>((fi ρ).bind KH).bind λk=>match ρ[i]? with
   |some (some (true,.lst xs))=>(place xs.length k).map λj=> .next ao5
   |_=>none):=
 (JY he (JX alH hk BH (by intro v;cases ke<;>first|rfl|exact absurd fy aai)) (by cases e<;>rfl) (by cases e<;>rfl) rfl).weak λD' σ H zz=>by
  refine mY zz λH₀ ab Z kv kd ow ρ out hx hd k=>aa aa6 λd e1 hd=>aa aa6 λkk e2 hd=>aa (ajR e2) λdk e3 e4=>?_;have K_:dk= .int kk:=by cases dk<;>first|(cases e4;rfl)|cases e4
  subst K_;split at hd
  .rename_i xs Jb;refine aa af4 λj e5 ak=>?_;subst ak;refine⟨af0,ρ,d,hx.ex,e1,λv H1 s1 r1=>?_⟩;refine aa awu λa o2 o1=>?_;have o1:aiT:=o1.elim (λz=>z.2) λz=>nomatch z.1;refine⟨ac_,o2,af0,ρ,.int kk,(hx.mono s1).ex,e3,λw H2 s2 r2=>?_⟩;have I9:=(hx.mono s1).mono s2;refine aa (I9.ex.kK i true _ Jb) λw' q1 q2=>bF q2 λa' e6 e8 c0=>aa c0.lst λvs e9 yG=>?_;rw[o2]at q1;cases q1;cases e6;refine⟨a,vs,kk,j,rfl,az5,e9,?_,?_⟩
   .rw[<-oh,yG.length];exact e5
   .exact k ow _ _ (I9.wr o1 o2 e9 (yG.set avf j))
  .cases hd
def QG(he:agZ):PS X aBw (tC X.K λρ=>(f ρ).map .ret):=
 (vH he).weak λD' σ H zz=>by
  refine mY zz λH₀ ab Z kv kd ow ρ out hx hd k=>aa af4 λd e1 ak=>?_;subst ak;refine⟨af0,ρ,d,hx.ex,e1,λv H1 s1 r1=>?_⟩;exact k v H1 (hx.same.trans s1) (r1.own.weak λa z=> .inl z)
def Mg(hi:X.N[i]?=some x)(hv:ah0)(Dt:aik)(nu:(x==("__classdict__":Str))=false):PS X (.Return att pos) (tC X.K λρ=>(rd true ρ i).map .ret):=
 (vH alH).weak λD' σ H zz=>by
  refine mY zz λH₀ ab Z kv kd ow ρ out hx hd k=>aa af4 λd e1 ak=>?_;subst ak;have e1:rd true ρ i=some d:=e1;unfold rd at e1;split at e1
  .rename_i o d' Jb;refine aa (hx.ex.kK i o d' Jb) λw q1 q2=>?_;cases o with
   |true=>
    refine bF q2 λa e6 e8 c0=>aa awu λa' o2 o1=>?_;rw[o2]at q1;cases q1;cases e6;rcases c0 with⟨vs,ds,rfl,e9,yG⟩|⟨t,ks,vs,ds,rfl,_⟩|⟨rfl,_⟩
    .cases e1;have o1:aiT:=o1.elim (λz=>z.2) λz=>nomatch z.1;refine⟨_,o2,k _ H hx.same (.lst (akf e9) (λz=>?_) (yG.weak λa z=> .inl z))⟩;obtain⟨u,hu⟩:=hx.o0 a z;rw[hx.new i a o1]at hu;cases hu
    .cases e1
    .cases e1
   |false=>
    cases e1;exact⟨w,q1,k _ H hx.same (bz.weak q2 λa z=> .inl z)⟩
  .cases e1
def UW{f:Env->Option D}(hc:PT X c (tB X.K λρ=>alT))(ha:mB X a (asT g))(hb:mB X b (asT h)):
  PS X (.If c a b pos) (tC X.K λρ=>((f ρ).bind fE).bind λk=>if k then g ρ else h ρ):=
 (Im hc ha hb).weak λD' σ H zz=>by
  refine mY zz λH₀ ab Z kv kd ow ρ out hx hd k=>aa aa6 λkk e1 hd=>⟨af0,ρ,kk,hx.ex,e1,λH1 s1=>?_⟩;cases kk with
  |true=>exact ny ⟨H₀,ab,Z,kv,kd,ow,ρ,out,aho,hd,k⟩
  |false=>exact pL ⟨H₀,ab,Z,kv,kd,ow,ρ,out,aho,hd,k⟩
def yH{f:Env->Option D}(hp:aiJ)(hc:PT X c (tB X.K λρ=>alT))(hb:mB X body (asT b))(n:Nat):
  PS X aAs (tC X.K λρ=>gx (λρ=>alT) b n ρ):=
 (tH hp hc hb).weak λD' σ H zz=>by
  refine mY zz λH₀ ab Z kv kd ow ρ out hx hd k=>⟨λm σ H=>∃ow ρ,SX X.K H₀ ab Z kv kd ow σ H ρ/\gx (λρ=>alT) b m ρ=some out,⟨n,ow,ρ,hx,hd⟩,?_⟩;rintro m σ H ⟨ow,ρ,hx,hd⟩;cases m with
  |zero=>cases hd
  |succ m=>
   rw[gx]at hd;refine aa aa6 λkk e1 hd=>⟨af0,ρ,kk,hx.ex,e1,λH1 s1=>?_⟩;cases kk with
   |false=>
    rw[aaC aai]at hd;cases hd;exact pL (k ow σ H1 aho)
   |true=>
    rw[aav rfl]at hd;refine aa aa6 λo e2 hd=>ny ⟨λbV H'=>∃ow ρ,SX X.K H₀ ab Z kv kd ow bV H' ρ/\gx (λρ=>alT) b m ρ=some out,λbV H' h=>⟨m,abT m,h⟩,H₀,ab,Z,kv,kd,ow,ρ,o,aho,e2,?_⟩;cases o with
    |next ρ'=>exact λow σ H h=>⟨ow,ρ',h,hd⟩
    |cont ρ'=>exact λow σ H h=>⟨ow,ρ',h,hd⟩
    |brk ρ'=>cases hd;exact λow σ H h=>k ow σ H h
    |ret d=>cases hd;exact λv H s r=>k v H s r
def Mi(K:aE)(g:TG)(setT:Env->D->Option Env):Prop:=
 ∀(H₀:Hp) (ab Z:Addr->Prop) (kv:ad7) (kd:ac1) (ow:Nat->ahe) (σ:St) (H:Hp) (ρ ρ':Env) (v:V) (d:D) (Q:St->Hp->Prop),ab0->apx->setT ρ d=some ρ'->
  (∀kL bV,au2->Q bV H)->g v σ H Q
def G0{K:aE}:Mi K (cQ j) (λρ d=>some (put ρ j false d)):=λH₀ ab Z kv kd ow σ H ρ ρ' v d Q hx r e q=>by
 cases e;exact q _ _ (hx.put r j)
def sC:ahj->JU
 |[]=>N_
 |i::is=>Io (cQ i) (sC is)
theorem qF(hN:amr)(hf:∀x,ajj):∀{is:ahj}{es:ag7},gm X.N X.env.scope is es=true->Ni X es (sC is)/\(assignEach es X.env).length =is.length/\(assignEach es X.env).findIdx? (·.1)=none
 |[],es,h=>by
  cases es with
  |nil=>exact⟨E6,rfl,rfl⟩
  |cons _ _=>cases h
 |i::is,es,h=>by
  cases es with
  |nil=>cases h
  |cons e es=>
   cases e with
   |Name x p=>
    have h:=abW.mp (show(decide (X.N[i]?=some x)&&mj X.env.scope x&&gm X.N X.env.scope is es)=true from h);have h1:=abW.mp h.1;refine cY (qF hN hf h.2) λq1 q2 q3=>?_;refine⟨Bv (mC hN (aqK h1.1) (fx h1.2) (akf (hf _))) q1 rfl,congrArg (· + 1) q2,?_⟩;show List.findIdx? _ ((false,_)::assignEach es X.env)=none;rw[List.findIdx?_cons];simp[q3]
   |_=>exact nomatch (show false=true from h)
theorem uS{K:aE}:∀{is:ahj}{xs:ad7}{ys:ac1}{ow:Nat->Option Addr}{σ:St}{H:Hp}{ρ ρ':Env}{Q:St->Hp->Prop},au K af0 H xs ys->ab0->cF ρ is ys=some ρ'->
  (∀kL bV,au2->Q bV H)->sC is xs σ H Q
 |[],xs,ys,ow,σ,H,ρ,ρ',Q,r,hx,e,q=>by
  cases ys with
  |nil=>cases e;cases r;exact⟨rfl,q _ _ hx⟩
  |cons _ _=>cases e
 |i::is,xs,ys,ow,σ,H,ρ,ρ',Q,r,hx,e,q=>by
  cases ys with
  |nil=>cases e
  |cons d ds=>
   cases r with
   |cons r1 r2=>
    have sub:∀a,Os ab akt a->avv:=λa z=>by
     rcases z with z|⟨j,z⟩
     .exact .inl z
     .by_cases hj:j=i
      .rw[hj,aM]at z;cases z
      .rw[aQ hj]at z;exact .inr ⟨j,z⟩
    exact⟨_,_,rfl,uS (r2.weak sub) (hx.put r1 i) e q⟩
def Mj{K:aE}(h:0<is.length):Mi K (OV K is.length (sC is)) (λρ d=>(aB is.length d).bind (cF ρ is)):=λH₀ ab Z kv kd ow σ H ρ ρ' v d Q hx r e q=>by
 refine aa (ajR e) λys e1 e2=>?_;obtain⟨n,hn⟩:∃n,is.length=n+1:=⟨is.length-1,(abc (adu h))⟩;rw[hn]at e1⊢;cases d with
 |tup zs=>
  simp only[aB]at e1;split at e1
  .rename_i hz;cases e1;refine bg r.gc λa xs ak q1 p1=>?_;subst ak;exact⟨a,xs,rfl,.inr q1,by rw[p1.length];exact hz,uS p1 hx e2 q⟩
  .cases e1
 |_=>cases e1
def Jc(hp:aiJ)(hc:agH)(hg:PG X sY g)(hS:Mi X.K g setT)
  (hI:PI X sY iter (tI X.K false fi)) (hb:mB X body (asT b)) (hs:∀x,aiA):
  PS X (.For sY iter body [] pos) (tC X.K λρ=>(fi ρ).bind λxs=>aL (λy ρ=>auI) xs ρ):=
 (J0 hp hc hI hg hb hs).weak λD' σ H zz=>by
  refine mY zz λH₀ ab Z kv kd ow ρ out hx hd k=>aa aa6 λxs e1 hd=>⟨af0,ρ,xs,hx.ex,e1,λJ iw H1 s1 C2 uO=>?_⟩;have r8:=hx.mono s1;obtain⟨bI,Jd,Je,sm,xP,hk,vA⟩:∃bI Jd Je,ag H₀ bI/\SX X.K bI ab Z Jd Je ow σ H1 ρ/\(∀ow σ H ρ,SX X.K bI ab Z Jd Je ow σ H ρ->SX X.K H₀ ab Z kv kd ow σ H ρ)/\(∀ow σ H ρ,SX X.K bI ab Z Jd Je ow σ H ρ->fQ X.K (Os ab ow) H iw):=by
   rcases iw with _|⟨_|_|⟨o,ks,vs⟩,v,ds⟩
   .exact⟨H₀,kv,kd,ad1,r8,λ_ _ _ _ h=>h,λ_ _ _ _ _=>trivial⟩
   .exact⟨H₀,v::kv,.tup ds::kd,ad1,r8.keep (bN.own uO),λ_ _ _ _ h=>h.drop,λ_ _ _ _ h=>h.kept.gc⟩
   .exact⟨H₀,v::kv,.lst ds::kd,ad1,r8.keep (bN.own uO),λ_ _ _ _ h=>h.drop,λ_ _ _ _ h=>h.kept.lst_inv⟩
   .refine Nd uO λa ak g1 g2 g3 g4=>?_
    try clear uO
    subst ak;have s0:H₀ a=none\/H₀ a=some aDv:=by
     cases z:H₀ a with
     |none=>exact .inl rfl
     |some w=>have:=r8.same _ _ z;rw[g1]at this;cases this;exact .inr rfl
    have o0:=hx.o0;refine⟨_,.ref a::kv,.bA 0 ks ds::kd,qD s0,(r8.base g1).keep (.bA g1 g2 g3 g4),λ_ _ _ _ h=>h.drop.Md s0 o0,λ_ _ H' _ h=>?_⟩;have e:=h.same _ _ (ah (H:=H₀) (a:=a));have r:=h.kept;cases r with
    |bA f1 f2 f3 f4=>
     rw[e]at f1;have Zd:=HO.dJ.inj (aaI f1);rw[<-GZ g2 f2 Zd.2]at f4;exact⟨a,rfl,e,g2,g3,f4⟩
  refine⟨λi m σ H=>aAF/\aCu/\∃ow ρ,avt/\aL (λy ρ=>auI) aCd ρ=some out,⟨xs.length,rfl,abk _,ow,ρ,xP,hd⟩,?_⟩;rintro t m σ H ⟨rfl,hi,ow,ρ,hx,hd⟩;refine cY (C2 _ H (vA _ _ _ _ hx)) λgo Bw stop=>?_;by_cases bj:t<xs.length
  .refine .inr ⟨go t bj,λσ H=>∃ow ρ,avt/\aL (λy ρ=>auI) (xs.drop (t+1)) ρ=some out,λbV H' h=>⟨xs.length-(t+1),ash,rfl,bj,h⟩,λx H3 hy=>?_⟩;obtain⟨s3,rx⟩:=Bw t x H3 xs[t] hy (by simp[bj]);rw[abv bj,aL]at hd;refine aa aa6 λo e2 hd=>aa (ajR e2) λES e2 e3=>hS bI ab Z Jd Je ow σ H3 ρ ES x xs[t] _ (hx.mono s3) rx e2 λkL bV xP=>⟨bI,ab,Z,Jd,Je,kL,ES,o,xP,e3,?_⟩;cases o with
   |next ρ'=>exact λow σ H h=>⟨ow,ρ',h,hd⟩
   |cont ρ'=>exact λow σ H h=>⟨ow,ρ',h,hd⟩
   |brk ρ'=>cases hd;exact λow σ H h=>k ow σ H (hk _ _ _ _ h)
   |ret d=>cases hd;exact λv H s r=>k v H (sm.trans s) r
  .have e:t=xs.length:=aum;subst e;rw[aeN,aL]at hd;cases hd;exact .inl ⟨stop,k ow σ H (hk _ _ _ _ hx)⟩
def Du(h:PS X st (asT g)):PS X st (tC X.K λρ=>g apv):=
 h.weak λD' σ H zz=>by
  refine mY zz λH₀ ab Z kv kd ow ρ out hx hd k=>?_;have key:∃kL,SX X.K H₀ ab Z kv kd kL σ H apv:=by
   have one:∀i:Nat,∃kL,SX X.K H₀ ab Z kv kd kL σ H (match ρ[i]? with
     |some (some (true,D.lst xs))=>ρ.set i (ajU (false,D.lst xs))
     |_=>ρ):=λi=>by
    cases e:ρ[i]? with
    |none=>exact⟨ow,hx⟩
    |some o=>cases o with
     |none=>exact⟨ow,hx⟩
     |some t=>
      obtain⟨b,d⟩:=t;cases b with
      |false=>exact⟨ow,hx⟩
      |true=>cases d with
       |lst=>exact⟨_,hx.freeze e⟩
       |_=>exact⟨ow,hx⟩
   cases it with
   |it a=>cases a with
    |var i=>exact one i
    |_=>exact⟨ow,hx⟩
   |Ba a=>cases a with
    |var i=>exact one i
    |_=>exact⟨ow,hx⟩
   |_=>exact⟨ow,hx⟩
  obtain⟨kL,h'⟩:=key;exact⟨H₀,ab,Z,kv,kd,kL,_,out,h',hd,k⟩
end
def G6(h:v8 ρ i=some d):ρ[i]?=some (ajU (true,aDy))/\d.1≠2:=by
 unfold v8 at h;refine slot (ρ:=ρ) (i:=i) (λe=>?_) (λe=>?_) λo d e=>?_<;>rw[e]at h
 .cases h
 .cases h
 cases o with
 |false=>cases h
 |true=>cases d with
  |bA t ks vs=>
   by_cases ht:t=2
   .exact nS ((aav ht).symm.trans h)
   .cases (aaC ht).symm.trans h;exact⟨e,ht⟩
  |_=>cases h
def mP(h:gC ρ i=some xs):ρ[i]?=some (ajU (true,agN)):=by
 unfold gC at h;split at h
 .rename_i xs e;cases h;exact e
 .cases h
section
variable {K:aE}{H₀:Hp}{ab Z:Addr->Prop}{kv:ad7}{kd:ac1}{ow:Nat->Option Addr}{σ:St}{H H1:Hp}{ρ:Env}
def SX.QH(hx:ab0)(h:v8 ρ i=some d):∃a vs,aiT/\σ[i]?=some aiY/\d.1≠2/\H a=some (gF d.1 d.2.1 vs)/\aBR/\n_ d.1 d.2.1/\au K af0 H vs d.2.2:=by
 obtain⟨e,h2⟩:=G6 h;have hp:nC aDy=false:=by show(d.1==2)=false;simp[h2]
 refine aa (hx.own i _ e) λa o2 o1=>?_;have o1:aiT:=o1.elim (λz=>z.2) λz=>by rw[hp]at z;exact nomatch z.1
 refine aa (aw6 e) λw q1 q2=>bF q2 λa' e6 e8 c=>?_;rw[o2]at q1;cases q1;cases e6;exact ED (c.bA h2) λvs c1 c2 c3 c4=>⟨a,vs,o1,o2,h2,c1,c2,c3,c4⟩
def SX.Mk(hx:ab0)(h:gC ρ i=some xs):∃a vs,aiT/\σ[i]?=some aiY/\al7/\au K af0 H vs xs:=by
 have e:=mP h;refine aa (hx.own i _ e) λa o2 o1=>?_;have o1:aiT:=o1.elim (λz=>z.2) λz=>nomatch z.1;refine aa (aw6 e) λw q1 q2=>bF q2 λa' e6 e8 c=>?_;rw[o2]at q1;cases q1;cases e6;exact aa c.lst λvs c1 c2=>⟨a,vs,o1,o2,c1,c2⟩
end
def mQ[DecidableEq κ](f:aa0->κ)(hl:agJ)(hf:∀k∈ks,f k=f x->k=x)(hx:x∉ks):fm aDC (f x) v=((ks++[x]).map f).zip amZ:=by
 have e:((((ks.map f).zip vs).any λkv=>decide (kv.1=f x))=true)=False:=by
  rw[eq_iff_iff,iff_false,List.any_eq_true];rintro⟨p,hp,hq⟩;have h1:=(aeT (show(p.1,p.2)∈_ from hp)).1;refine aa (akj h1) λk k1 k2=>?_;have:=hf k k1 (by rw[k2];exact of_decide_eq_true hq);exact hx (this▸k1)
 unfold fm;rw[aaC (by rw[e];exact id),aaM,List.zip_append (by rw[aad];exact hl)];rfl
section
variable {X:Cx}{c e ke:Expr}{st:Stmt}{ba:amx}{pos px o:Pos}{x:Str}{i j:Nat}{f fk:Env->Option D}
def Ml(hu:af2)(hi:X.N[i]?=some x)(hv:ah0)(Dt:aik)(nu:(x==("__classdict__":Str))=false)(hk:PE X ke (ajQ fk))(he:agZ)(hs:∀t,swapsWith e (ajU t) pos.line X.env=pure false):
  PS X arZ (tC X.K λρ=>(f ρ).bind λy=>(v8 ρ i).bind λd=>((fk ρ).bind azg).bind λx=>
   if d.2.1.length<bX/\x∉d.2.1 then some ao4 else none):=
 (xp asv alH hk he (hs _)).weak λD' σ H zz=>by
  refine mY zz λH₀ ab Z kv kd ow ρ out hx hd k=>aa aa6 λy e1 hd=>aa aa6 λd e2 hd=>aa aa6 λxx e3 hd=>aa (ajR e3) λdk e4 e5=>?_;split at hd
  .rename_i hz;cases hd;refine⟨af0,ρ,y,hx.ex,e1,λv H1 s1 r1=>?_⟩;refine Sz ((hx.mono s1).QH e2) λa vs o1 o2 o3 c1 c2 c3 c4=>?_;refine⟨ac_,o2,af0,ρ,dk,(hx.mono s1).ex,e4,λw H2 s2 r2=>?_⟩;have I9:=(hx.mono s1).mono s2;have xF:=s2 _ _ c1;have aI:vs.length<sizeLine:=by rw[cH,<-c2];exact hz.1
   have UX:au X.K af0 (L2.upd H2 a (gF d.1 azf amZ)) amZ (d.2.2++[y]):=((c4.mono s2).append (aj2 avf)).upd (amY ⟨i,o1⟩) xF gT;have UY:n_ d.1 azf:=by
    refine⟨?_,λh0 q hq=>?_⟩
    .rw[aby];exact⟨c3.1,by simp,λa ha b hb e=>hz.2 (by rw[aak.mp hb]at e;exact e▸ha)⟩
    .rcases aay.mp hq with hq|hq
     .exact c3.2 h0 q hq
     .rw[aak.mp hq];rcases iE r2.own e5 with⟨_,n,rfl,_⟩|⟨h1,_⟩
      .exact⟨n,rfl⟩
      .exact absurd h0 h1
   refine⟨a,_,rfl,?_,k ow _ _ (I9.UT (d0:= .bA d.1 azf (d.2.2++[y])) o1 o2 xF gT gT (by show(d.1==2)=false;simp[o3]) (amY (akf ⟨_,_,vs++[v],_,rfl,ah,by simp[c2],UY,UX⟩)))⟩;rcases iE r2.own e5 with⟨h0,n,rfl,rfl⟩|⟨h0,b,rfl,hb⟩
   .refine .inl ⟨_,Sum.inl n,by rw[xF];unfold gF;rw[aav h0],rfl,by rw[adf,aad,c2,aea];exact aI,?_⟩;unfold gF;rw[aav h0,<-mQ (λk:List Int=>(Sum.inl ahG:cD)) c2 (λq hm e=>?_) hz.2]
    .rfl
    .obtain⟨j,rfl⟩:=c3.2 h0 q hm;have:j=n:=afB e;rw[this]
   .refine .inr ⟨_,ayR,b,by rw[xF];unfold gF;rw[aaC h0],rfl,hb,by rw[adf,aad,c2,aea];exact aI,?_⟩;unfold gF;rw[aaC h0,<-mQ (λk:List Int=>k.map (Sum.inl:Int->cD)) c2 (λq _ e=>mO e) hz.2]
  .cases hd
def uT{K:aE}(h:ab0)(s:atv)(hp:ak9)(r:ap0)(h2:t≠2)(hl:agJ)(hk:n_ t ks)(i:Nat):
  ∃kL,SX K H₀ ab Z kv kd kL anG (akH am2) (al9 anS):=by
 by_cases hi:i<ρ.length
 .exact⟨_,h.Qx (u:=gF t ks vs) s hp gT i hi (by show(t==2)=false;simp[h2]) (amY (akf ⟨t,ks,vs,ds,rfl,ah,hl,hk,oz hp r⟩))⟩
 .have e1:aCb:=adg (by rw[<-h.len];exact aaS hi);have e2:Py.put ρ i true anS=ρ:=adg azv;rw[e1,e2];exact⟨ow,h.mono (s.trans ahu)⟩
def Mm(hN:amr)(hi:X.N[i]?=some x)(hx:ah8)(hf:ajj):
  PS X (anF (.Dict [] [] dp)) (tC X.K λρ=>some axX):=by
 refine(gL hN hi hx B7 rfl azi).weak λD' σ H zz=>NK λnO=>mY zz λH₀ ab Z kv kd ow ρ out hx hd k=>nO ?_;cases hd;intro p hp;exact(uT (t:=1) (ks:=[]) (vs:=[]) (ds:=[]) hx ad1 hp .nil aa2 rfl ⟨ads,λ_ _ z=>nomatch z⟩ i).elim λkL h=>k kL _ _ h
def G7{t:Nat}(hu:af2)(hN:amr)(hi:X.N[i]?=some x)(hx:ah8)(hf:ajj)(h0:t≠0)(hk:PE X ke (ajQ fk))(he:agZ):
  PS X (anF (avL [e])) (tC X.K λρ=>if t=2 then none else((fk ρ).bind λa=>(f ρ).bind λb=>(c_ t a).map λx=>D.bA t [x] [b]).map λd=> .next aCZ):=by
 refine(gL hN hi hx (FQ asv hk he) rfl azi).weak λD' σ H zz=>mY zz λH₀ ab Z kv kd ow ρ out hx hd k=>?_;split at hd
 .cases hd
 .rename_i h2;refine aa af4 λd ET rH=>aa (ajR ET) λda e1 ET=>aa (ajR ET) λdb e2 ET=>aa (akG ET) λxx e3 ET=>?_;subst ET;subst rH;intro p hp;have WM:=hx.ex.mono (ag.upd (o:= .dT []) hp);refine⟨af0,ρ,da,WM,e1,λv H1 s1 r1=>⟨af0,ρ,db,WM.mono s1,e2,λw H2 s2 r2=>?_⟩⟩;have B3:H2 p=some awi:=s2 _ _ (s1 _ _ ah);rcases iE avf e3 with⟨z,_⟩|⟨_,b,rfl,hb⟩
  .exact absurd z h0
  .refine⟨b,ayR,rfl,hb,B3,?_⟩
   let H3:Hp:=λq=>if q=p then none else H2 q
   have k3:∀q,q≠p->H3 q=H2 q:=λq hq=>aaC hq;have e4:L2.upd H2 p (.dT [(ayR,w)])=L2.upd H3 p (gF t [xx] [w]):=by
    funext q;unfold L2.upd;by_cases hq:q=p
    .rw[aav hq,aav hq];unfold gF;rw[aaC h0];rfl
    .rw[aaC hq,aaC hq,k3 q hq]
   have s3:ag H H3:=λq u hq=>by
    have WN:q≠p:=λz=>by rw[z,hp]at hq;cases hq
    rw[k3 q WN];exact s2 _ _ (s1 _ _ (by rw[aq WN];exact hq))
   have rep3:bz X.K af0 H3 w db:=iB (λq us hq=>by
     have WO:H2 q=some amb:=hq;show H3 q=some amb;rw[k3 q (c8 WO B3 (by intro z;cases z))];exact WO) (λq us hq nq=>⟨by
     rcases hq with hq|⟨ob,hq⟩
     .exact .inl (by rw[k3 q (c8 hq B3 (by intro z;cases z))];exact hq)
     .exact .inr ⟨ob,by rw[k3 q (c8 hq B3 (by intro z;cases z))];exact hq⟩,nq⟩) (λq ob u hq=>by rw[k3 q (c8 hq B3 (by intro z;cases z))];exact hq) r2.own
   obtain⟨kL,h'⟩:=uT (t:=t) (ks:=[xx]) (ds:=[db]) hx s3 aC1 (aj2 rep3) h2 rfl ⟨by simp,λz=>absurd z h0⟩ i;rw[e4];exact k kL _ _ h'
def uU(h:gw ρ j=some xs):∃o,ρ[j]?=some (ajU (o,agN)):=by
 unfold gw at h;refine slot (ρ:=ρ) (i:=j) (λe=>?_) (λe=>?_) λo d e=>?_<;>rw[e]at h
 .cases h
 .cases h
 cases d with
 |lst=>cases h;exact⟨_,e⟩
 |_=>cases h
def popped{K:aE}(hx:ab0)(e1:gC ρ j=some l)(e2:l.getLast?=some z):
  ∃a vs v,σ[j]?=some aiY/\al7/\vs[vs.length-1]?=some v/\SX K H₀ ab Z kv kd ow σ ajr (akY j)/\bz K af0 ajr v z:=by
 refine il (hx.Mk e1) λa vs o1 o2 o3 o4=>?_;have ll:=o4.length;have Fu:l[vs.length-1]?=some z:=by rw[ll,<-afo];exact e2
 refine aa (o4.get Fu) λv g1 g2=>?_;have rd:au K af0 H vs.dropLast l.dropLast:=by
  rw[adH,adH,ll];exact o4.take _
 exact⟨a,vs,v,o2,o3,g1,hx.wr o1 o2 o3 rd,g2.upd (amY ⟨j,o1⟩) o3 trivial⟩
def Dv(hv:PE X y (c9 j))(hb:attributeBase y "pop" X.env (ajY y)=eval y X.env)(hl:apk):
  PE X (at3 (.Attribute y "pop" ap)) (λσ H Q=>∃a vs v,σ[j]?=some aiY/\al7/\vs[vs.length-1]?=some v/\Q v ajr):=
 (Kr acI PySem.F.slot_list_pop PySem.F.type_list_pop Kv hv hb hl).weak λσ H Q ⟨a,vs,v,h1,h2,h3,q⟩=>⟨ac_,h1,.inl ⟨rfl,vs,cO.of h2⟩,a,vs,v,rfl,rfl,h2,h3,q⟩
def QI(hN:amr)(hi:X.N[i]?=some x)(hx:ah8)(hf:ajj){y:Expr}(hv:PE X y (c9 j))(hb:attributeBase y "pop" X.env (ajY y)=eval y X.env)(hl:apk):
  PS X (anF (at3 (.Attribute y "pop" ap))) (tC X.K λρ=>(gC ρ j).bind λl=>(l.getLast?).map λz=> .next ay0):=
 (gL hN hi hx (Dv hv hb hl) rfl azi).weak λD' σ H zz=>by
  refine mY zz λH₀ ab Z kv kd ow ρ out hx hd k=>aa aa6 λl e1 hd=>aa af4 λz e2 ak=>?_;subst ak;exact vx (popped hx e1 e2) λa vs v h1 h2 h3 h4 h5=>⟨a,vs,v,h1,h2,h3,k _ _ _ (h4.put h5 i)⟩
def QJ(hi:X.N[i]?=some x)(hv:ah0)(Dt:aik)(nu:(x==("__classdict__":Str))=false)(hl:apk)(he:agZ)(hn:axU):
  PS X (.Expr (azX (.Attribute ahs "extend" ap)) pos) (tC X.K λρ=>(f ρ).bind λd=>match d with
   | .lst zs=>(gC ρ i).bind λws=>if ws.length+zs.length<=bX then some aih else none
   |_=>none):=
 (jC (xi acI afz afA Cw alH (b_ he dm (bL hn)) rfl (by rw[bL hn];rfl) hl (bL hn) rfl) rfl).weak λD' σ H zz=>by
  refine mY zz λH₀ ab Z kv kd ow ρ out hx hd k=>aa aa6 λd e1 hd=>?_;cases d with
  |lst zs=>
   refine aa aa6 λws e2 hd=>?_;split at hd
   .rename_i hz;cases hd;refine il (hx.Mk e2) λa vs o1 o2 o3 o4=>⟨ac_,o2,.inl ⟨rfl,vs,cO.of o3⟩,af0,ρ,.lst zs,hx.ex,e1,λv H1 s1 r1=>?_⟩;have r8:=hx.mono s1;have QK:=s1 _ _ o3;refine bg r1.lst λb us ak h1 h2=>?_;subst ak;refine⟨a,b,vs,us,rfl,rfl,QK,h1,?_,?_⟩
    .rw[cH,o4.length,h2.length];exact hz
    .exact k ow _ _ (r8.wr o1 o2 QK ((o4.mono s1).append h2))
   .cases hd
  |_=>cases hd
def QL(hN:amr)(hi:X.N[i]?=some x)(hx:ah8)(hf:ajj)(hv:PE X al8 (c9 j)):PS X (anF al8) (tC X.K λρ=>(gC ρ j).map λxs=> .next aph):=
 (gL hN hi hx hv rfl azi).weak λD' σ H zz=>by
  refine mY zz λH₀ ab Z kv kd ow ρ out hx hd k=>aa af4 λxs e1 ak=>?_;subst ak;have h':=hx.freeze (mP e1);obtain⟨v,q1,q2⟩:=h'.ex.kK j false agN (by
   have hl:j<ρ.length:=(aax.mp (mP e1)).1;exact aaN hl)
  exact⟨v,q1,k _ _ _ (h'.put (show bz X.K _ H v agN from q2) i)⟩
theorem Dw{K:aE}:∀{ps:ac1}{kvs:atA}{us:ad7},nF ps=some kvs->au K O H us ps->∃rs:ad7,us.length=kvs.length/\rs.length=kvs.length/\au K O H rs (kvs.map (·.2))/\∀(j:Nat) z p,us[j]?=some z->((kvs.map λq=>q.1.map Sum.inl).zip rs)[j]?=some p->PR H z p
 |[],kvs,_,h,.nil =>by cases h;exact⟨[],rfl,rfl,.nil,λj z p h=>nomatch h⟩
 |d::ps,kvs,_,h,.cons (vs:=us) (v:=u) r t=>by
  cases d with
  |tup l=>
   match l,h,r with
   |[.tup xs,v],h,r=>
    obtain⟨k,h1,h⟩:=bind_some h;obtain⟨kr,h2,rfl⟩:=map_some h;obtain⟨rs,a1,a2,a3,a4⟩:=Dw h2 t;obtain⟨a,vs,rfl,g1,g2⟩:=r.gc
    match vs,g2 with
    |[_,w],.cons q1 (.cons q2 .nil)=>
     obtain⟨b,ws,rfl,q3,q4⟩:=q1.gc;rw[hU h1]at q4;have e:=lG q4;subst e;refine⟨w::rs,by simp[a1],by simp[a2],.cons q2 a3,λj z p e1 e2=>?_⟩;cases j with
     |zero=>cases e1;cases e2;exact⟨a,b,rfl,g1,by rw[aaV];exact q3⟩
     |succ j=>exact a4 j z p e1 e2
  |_=>cases h
theorem yI:∀{kvs:atA}{rs:ad7}{ks:aa_}{vs:ad7},(ks++kvs.map (·.1)).Nodup ->agJ->rs.length=kvs.length->
  ((kvs.map λq=>q.1.map (Sum.inl:Int->cD)).zip rs).foldl (λm p=>avT) ((ks.map λk=>aAJ).zip vs)=((ks++kvs.map (·.1)).map λk=>aAJ).zip (vs++rs)
 |[],[],ks,vs,_,_,_=>by simp
 |q::kvs,r::rs,ks,vs,hn,hl,h=>by
  have e:ks++(q::kvs).map (·.1)=(ks++[q.1])++kvs.map (·.1):=by simp
  rw[e]at hn⊢;have hx:q.1∉ks:=λz=>by
   rw[aaL,aby]at hn;exact hn.2.2 _ z _ (aw8 aio) rfl
  show List.foldl _ (fm _ (q.1.map Sum.inl) r) _=_;rw[mQ (λk:List Int=>k.map (Sum.inl:Int->cD)) hl (λq _ e=>mO e) hx];exact(yI hn (by simp[hl]) (age h)).trans ab5
def QM(hu:af2)(hc:agH)(hi:X.N[i]?=some x)(hv:ah0)(Dt:aik)(nu:(x==("__classdict__":Str))=false)(hl:apk)(he:agZ)(hn:axU):
  PS X (.Expr (azX (.Attribute ahs "update" ap)) pos) (tC X.K λρ=>((f ρ).bind eV).bind λps=>(v8 ρ i).bind λq=>(nF ps).bind λkvs=>if q.1=1/\(q.2.1++kvs.map (·.1)).Nodup /\q.2.1.length+kvs.length<=bX then some (ajW (akg (.bA 1 (q.2.1++kvs.map (·.1)) (q.2.2++kvs.map (·.2))))) else none):=
 (jC (Ln hu hc alH he ⟨rfl,by rw[bL hn];rfl,hl,by rw[bL hn];rfl⟩) rfl).weak λD' σ H zz=>by
  refine mY zz λH₀ ab Z kv kd ow ρ out hx hd k=>aa aa6 λps e1 hd=>aa aa6 λd e2 hd=>aa aa6 λkvs e3 hd=>aa (ajR e1) λy e4 e5=>?_;split at hd
  .rename_i hz;cases hd;cases y with
   |lst ys=>
    cases e5;obtain⟨h1,GU,UZ⟩:=hz;refine Sz (hx.QH e2) λa vs o1 o2 o3 c1 c2 c3 c4=>?_;rw[h1]at c1 c3;refine⟨ac_,o2,a,rfl,.inr ⟨_,.inl c1⟩,af0,ρ,.lst ps,hx.ex,e4,λv H1 s1 r1=>?_⟩;obtain⟨b,us,rfl,g1,g2⟩:=r1.lst;obtain⟨rs,a1,a2,a3,a4⟩:=Dw e3 g2;have xF:=s1 _ _ c1;have r8:=hx.mono s1;have lz:((d.2.1.map λk:List Int=>k.map (Sum.inl:Int->cD)).zip vs).length =d.2.1.length:=by rw[adf,aad,c2,aea]
    have lp:((kvs.map λq=>q.1.map (Sum.inl:Int->cD)).zip rs).length =kvs.length:=by rw[adf,aad,a2,aea]
    refine⟨a,b,us,_,_,rfl,rfl,xF,g1,a1.trans lp.symm,a4,by rw[lz,lp,cH];exact UZ,?_⟩;rw[yI GU c2 a2];refine k ow _ (L2.upd H1 a (gF 1 (d.2.1++kvs.map (·.1)) (vs++rs))) (r8.UT (d0:= .bA 1 (d.2.1++kvs.map (·.1)) (d.2.2++kvs.map (·.2))) o1 o2 xF gT gT rfl (.inr (.inl ⟨1,_,vs++rs,_,rfl,ah,by simp[c2,a2],⟨GU,λz=>nomatch z⟩,?_⟩)));exact((c4.mono s1).append a3).upd (amY ⟨i,o1⟩) xF gT
   |_=>cases e5
  .cases hd
end
section
variable {K:aE}{O O':Addr->Prop}{H H' H1 H2 H3:Hp}{a b:Addr}{as:af7}{T:ac1}
def ju(H H':Hp):Prop:=∀b us,H b=some amb->H' b=some amb
def ju.trans(h1:ju H H1)(h2:ju H1 H2):ju H H2:=λb us e=>h2 b us (h1 b us e)
def qG(s:ait):ju H H':=λb us e=>s _ _ e
def h_(e:al6)(hu:uK u):ju H aCS:=λb us h=>by
 rw[aq (c8 h e (by intro z;rw[<-z]at hu;exact hu))];exact h
def ed(ht:ju H H')(h:aiM):arJ->apy:=
 bz.rec (motive_1:=λv d _=>arJ->apy) (motive_2:=λvs ds _=>aX ds=true->aqT) (λ_=> .cv) (λb _=> .bl b) (λi _=> agF)
  (λh _ ih n=> .tup (ht _ _ h) (ih (by simpa[aG]using n))) (λ_ _ _ _ n=>absurd n (by simp[aG])) (λ_ _ _ n=>absurd n (by simp[aG])) (λ_ _ _ _ _ n=>absurd n (by simp[aG])) (λ_=> .nil)
  (λ_ _ i1 i2 n=>by
   simp only[aX,aae]at n;exact .cons (i1 n.1) (i2 n.2)) h
theorem fT(ht:ju H H'):∀{vs:ad7}{ds:ac1},ac7->aX ds=true->au K O' H' vs ds
 |_,_,.nil,_=> .nil
 |_,_,.cons r t,n=>by
  simp only[aX,aae]at n;exact .cons (ed ht r n.1) (fT ht t n.2)
theorem i_:∀{xs ys:ac1},aX ayS=(aX xs&&aX ys)
 |[],ys=>by simp[aX]
 |x::xs,ys=>by simp[aX,i_ (xs:=xs),Bool.and_assoc]
def oB(K:aE)(H:Hp)(b:Addr)(d:D):Prop:=∃ks vs xs,d= .bA 0 ks xs/\H b=some aqZ/\agJ/\n_ 0 ks/\aX xs=true/\au K (λ_=>False) H vs xs
def oB.keep(h:oB K H b d)(ht:ju H H')(e:H' b=H b):oB K H' b d:=by
 exact Nf h λks vs xs h1 h2 h3 h4 h5 h6=>⟨ks,vs,xs,h1,by rw[e];exact h2,h3,h4,h5,fT ht h6 h5⟩
def lH:∀{l:agM}{m:aoK},arK->(∀x y,x∈l->R x y->R' x y)->Paired R' l m:=λ{l m} h=>by
 induction h with
 |nil=>exact λ_=> .nil
 |cons r t ih=>exact λk=> .cons (k _ _ aal r) (ih λx y hx=>k x y azj)
def G8:∀{l:agM}{m:aoK}{i:Nat}{y:β},arK->m[i]?=some y->∃x,l[i]?=some x/\R x y:=λ{l m i y} h=>by
 induction h generalizing i with
 |nil=>intro e;simp at e
 |cons r t ih=>
  intro e;cases i with
  |zero=>simp at e;subst e;exact⟨_,rfl,r⟩
  |succ i=>exact aa (ih (i:=i) (by simpa using e)) λx h1 h2=>⟨x,by simpa using h1,h2⟩
def AK{α β:Type}{R:α->β->Prop}{x:α}{y:β}(h:R x y):∀{l:agM}{m:aoK},arK->Paired R (l++[x]) (m++[y]):=λ{l m} p=>by
 induction p with
 |nil=>exact .cons h .nil
 |cons r t ih=>exact .cons r ih
def kj:∀{l:agM}{m:aoK},arK->x∈l->∃y,R x y:=λ{l m} p=>by
 induction p with
 |nil=>exact λh=>nomatch h
 |cons r t ih=>exact λh=>(aat.mp h).elim (λe=>by subst e;exact⟨_,r⟩) ih
structure sZ(K:aE)(H:Hp)(a:Addr)(as:af7)(T:ac1):Prop where
 lst:H a=some aA8
 bA:Paired (oB K H) as T
 nd:(a::as).Nodup
theorem sZ.keep(h:an5)(ht:ju H H')(e:∀b,auj->H' b=H b):ayW:=
 ⟨by rw[e a aal];exact h.lst,lH h.bA λb d hb hd=>hd.keep ht (e b atq),h.nd⟩
def sZ.there(h:an5):∀b,auj->∃u,aot/\uK u:=λb hb=>by
 rcases aat.mp hb with e|hb
 .subst e;exact⟨_,h.lst,trivial⟩
 .exact Jw aAI λd ks vs xs _ h2 _=>⟨_,h2,gT⟩
def sZ.mut(h:an5):∀b,b∈as->nR H b:=λb hb=>by
 exact Jw aAI λd ks vs xs _ h2 _=>⟨_,h2,GL⟩
def sZ.yJ(h:an5)(s:ait):ayW:=
 h.keep (qG s) λb hb=>by
  refine aa (h.there b hb) λu e _=>?_;rw[e];exact s _ _ e
def uV(f:aqC):ju H1 H2:=λb us e=>by
 rw[f.out b λhb=>?_]
 .exact e
 .refine bg (f.at_ b hb) λo u e1 mu _=>?_;rw[e]at e1;cases e1;exact mu
def sZ.rep(h:sZ K H1 a as T)(f:aqC):bz K O H2 ac_ (aj1 T)\/O a:=by
 by_cases ho:O a
 .exact .inr ho
 .refine .inl (.lst (.inl (by rw[f.out a (aaW.mp h.nd).1];exact h.lst)) ho ?_);have all:∀{bs:af7}{S:ac1},(∀b∈bs,b∈as)->Paired (oB K H1) bs S->au K O H2 (bs.map V.ref) S:=by
   intro bs S hs p;induction p with
   |nil=>exact .nil
   |@cons b d bs S hd _ ih=>
    refine Nf hd λks vs xs ak h2 h3 h4 h5 h6=>?_
    try clear hd
    subst ak;refine bg (f.at_ b (hs b aal)) λo u e1 mu e2=>?_;rw[h2]at e1;cases e1;exact .cons (.bA e2 h3 h4 (fT (uV f) h6 h5)) (ih λc hc=>hs c (ake hc))
  exact all (λb hb=>hb) h.bA
def AM(f:aqC)(s:ag H2 H3):aqk/\ag H1 ak5/\ju H3 ak5:=by
 have c:aqk:=λb hb=>by
  exact bg (f.at_ b hb) λo u e1 mu e2=>⟨o,u,e1,mu,s _ _ e2⟩
 refine⟨c,λb u e=>?_,λb us e=>?_⟩
 .by_cases hb:b∈as
  .rw[j4 hb];exact e
  .rw[bU hb];exact s _ _ (by rw[f.out b hb];exact e)
 .rw[bU λhb=>?_]
  .exact e
  .refine bg (c b hb) λo u _ _ e2=>?_;rw[e]at e2;cases e2
def Dx(c:aqk)(hd:∀b∈as,∀zs,H1 b≠some (aj1 zs))(h:cO K H3 p us):cO K ak5 p us:=by
 rcases h with h|h
 .refine .inl ?_;have hp:p∉as:=λhb=>by
   refine bg (c p hb) λo u e1 mu e2=>?_;rcases h with h|⟨o',h⟩
   .rw[h]at e2;cases e2
   .rw[h]at e2;cases e2;exact hd p hb us e1
  rcases h with h|⟨o',h⟩
  .exact .inl (by rw[bU hp];exact h)
  .exact .inr ⟨o',by rw[bU hp];exact h⟩
 .exact .inr h
def Mn:∀us,gF t ks vs≠ .lst us:=by
 intro us h;unfold gF at h;split at h<;>cases h
def sZ.QN(h:an5):∀b∈as,∀zs,H b≠some (aj1 zs):=λb hb zs e=>by
 refine Jw aAI λd ks vs xs _ h2 _=>?_;rw[h2]at e;exact Mn _ (aaI e)
end
section
variable {K:aE}{H₀ bI:Hp}{ab Z:Addr->Prop}{kv:ad7}{kd:ac1}{ow:Nat->Option Addr}{σ:St}{H H1 H':Hp}{ρ:Env}{a b:Addr}{as:af7}{T:ac1}{x y:Nat}
def OT(ab:Addr->Prop)(a:Addr)(as:af7):Addr->Prop:=λb=>ab b\/b∈a::as
def bz.AN{l:af7}(h:apx)(hp:∀p∈l,akp):bz K (λb=>avu\/b∈l) H v d:=
 iB (λ_ _ h=>h) (λb us h n=>⟨h,λz=>z.elim n λe=>mM (hp b e) h⟩) (λ_ _ _ h=>h) h
def au.AN{l:af7}(h:au K af0 H v d)(hp:∀p∈l,akp):au K (λb=>avu\/b∈l) H v d:=
 fM (λ_ _ h=>h) (λb us h n=>⟨h,λz=>z.elim n λe=>mM (hp b e) h⟩) (λ_ _ _ h=>h) h
theorem eL.AN{l:af7}(h:eL K af0 H b d)(hp:∀p∈l,akp):eL K (λb=>avu\/b∈l) H b d:=by
 rcases h with⟨vs,ds,e1,e2,e3⟩|⟨t,ks,vs,ds,e1,e2,e3,e4,e5⟩|⟨e1,u',e2,e3⟩
 .exact .inl ⟨vs,ds,e1,e2,e3.AN hp⟩
 .exact .inr (akf ⟨t,ks,vs,ds,e1,e2,e3,e4,e5.AN hp⟩)
 .exact .inr ap1
noncomputable def oC(a:Addr)(as:af7)(H₀ H:Hp):Hp:=gE (a::as) H H₀
def U0:∀b,Os au4 (qC ow x none) b->avu\/auj:=λb z=>by
 rcases z with (z|z)|⟨j,z⟩
 .exact .inl aCV
 .exact .inr z
 .by_cases hj:j=x
  .rw[hj,aM]at z;cases z
  .rw[aQ hj]at z;exact .inl aq1
def SX.tab(h:ab0)(s:ait)(t:ayW)(hn:∀b∈a::as,aje)(nt:tT ρ=true)(hx:x<ρ.length):
  ag H₀ at9/\SX K at9 au4 (λb=>b=a) [] [] (qC ow x none) (σ.set x aiY) H' (Py.put ρ x true v_):=by
 have Ze:∀b∈a::as,atB:=λb hb=>by
  cases z:H₀ b with
  |none=>rfl
  |some w=>have:=h.same _ _ z;rw[hn b hb]at this;cases this
 have sb:ag H₀ at9:=λb u e=>by
  unfold oC;rw[bU λhb=>by rw[Ze b hb]at e;cases e];exact e
 have Jf:∀(j:Nat) (o:Bool) (d:D),ρ[j]?=some awM->nC d=false:=λj o d e=>by
  unfold tT at nt;have:=abI.mp nt _ (abd e);simpa using this
 refine⟨sb,⟨⟨λb hb=>?_,λj o d' hj=>?_⟩,λj d' hj=>?_,λj k b hj hk=>?_,λj b hj=>?_,λb u e=>?_,.nil,λb hb=>?_,by unfold Py.put;rw[abj,abj];exact h.len⟩⟩
 .rcases U0 b hb with z|z
  .exact aa (auN z) λu e q=>⟨u,s _ _ e,q⟩
  .exact t.there b z
 .by_cases e_:j=x
  .subst e_;unfold Py.put at hj;rw[aaN hx]at hj;cases hj;exact aa (t.there a aal) λu e q=>⟨ac_,aaN (by rw[<-h.len];exact hx),a,rfl,.inl (amY aal),.inr (amY ⟨rfl,u,e,q⟩)⟩
  .unfold Py.put at hj;rw[aaQ akJ]at hj;refine aa alL λw h1 h2=>⟨w,by rw[aaQ akJ];exact h1,?_⟩;cases o with
   |true=>
    refine bF h2 λb e1 e2 c=>aa aie λb' o2 o1=>?_;rw[h1]at o2;cases o2;cases e1;refine⟨b,rfl,o1.elim (λo1=> .inr ⟨j,by rw[aQ e_];exact o1.2⟩) (λo1=> .inl (akf o1.2.2)),((c.AN hn).mono s).weak U0⟩
   |false=>exact((bz.AN h2 hn).mono s).weak U0
 .by_cases e_:j=x
  .subst e_;unfold Py.put at hj;rw[aaN hx]at hj;cases hj;exact⟨a,aaN (by rw[<-h.len];exact hx),.inr ⟨rfl,rfl,.inr aal⟩⟩
  .unfold Py.put at hj;rw[aaQ akJ]at hj;refine aa aie λb o2 o1=>⟨b,by rw[aaQ akJ];exact o2,.inl ⟨Jf j true d' hj,?_⟩⟩;rw[aQ e_];exact o1.elim (λo1=>o1.2) λo1=>by rw[Jf j true d' hj]at o1;exact nomatch o1.1
 .by_cases h1:j=x
  .rw[h1,aM]at hj;cases hj
  .by_cases h2:k=x
   .rw[h2,aM]at hk;cases hk
   .rw[aQ h1]at hj;rw[aQ h2]at hk;exact h.inj j k b hj hk
 .by_cases h1:j=x
  .rw[h1,aM]at hj;cases hj
  .rw[aQ h1]at hj;refine aa (auN (amY ⟨j,hj⟩)) λu e _=>?_;unfold oC;rw[bU λhb=>by rw[hn b hb]at e;cases e];exact h.new j b hj
 .unfold oC at e;by_cases hb:b∈a::as
  .rw[j4 hb]at e;exact e
  .rw[bU hb]at e;exact s _ _ (h.same _ _ e)
 .unfold oC;by_cases iY:b∈a::as
  .exact aa (t.there b iY) λu e _=>⟨u,by rw[j4 iY];exact e⟩
  .rw[bU iY];exact h.o0 b (hb.resolve_right iY)
noncomputable def ja(bI H:Hp):Hp:=λb=>match H b with
 |some (.tup us)=>some amb
 |_=>bI b
def iF(e:H b=some amb):ja bI H b=some amb:=by unfold ja;rw[e]
def fU(e:∀us,H b≠some amb):ja bI H b=bI b:=by
 unfold ja;split
 .rename_i us z;exact absurd z (e us)
 .rfl
theorem SX.ja(h:SX K bI ab Z kv kd ow σ H ρ):SX K (ja bI H) ab Z kv kd ow σ H ρ:=by
 refine⟨h.ex,h.own,h.inj,λi b hb=>?_,λb u e=>?_,h.kp,λb hb=>?_,h.len⟩
 .refine aa aAf λu e q=>?_;rw[fU λus z=>by rw[e]at z;cases z;exact q];exact h.new i b hb
 .by_cases hb:∃us,H b=some amb
  .obtain⟨us,z⟩:=hb;rw[iF z]at e;cases e;exact z
  .rw[fU λus z=>hb ⟨us,z⟩]at e;exact h.same _ _ e
 .by_cases iY:∃us,H b=some amb
  .obtain⟨us,z⟩:=iY;exact⟨_,iF z⟩
  .rw[fU λus z=>iY ⟨us,z⟩];exact h.o0 b hb
def LS(K:aE)(H₀:Hp)(ab:Addr->Prop)(a:Addr)(as:af7)(T:ac1)(σ:St)(H:Hp)(ρ:Env):Prop:=
 ∃bI ow,ag H₀ bI/\SX K bI au4 (λb=>b=a) [] [] ow σ H ρ/\(∀b,auj->bI b=H b)/\sZ K H a as T
def SX.uW(hx:SX K bI au4 (λb=>b=a) [] [] ow σ H ρ)(t:an5)(s:ait)(e:∀b,auj->bI b=H b):∀b,auj->bI b=H' b:=λb hb=>by
 refine aa (t.there b hb) λu eu _=>?_;rw[e b hb,eu];exact(s _ _ eu).symm
theorem LS.mono(h:af3)(s:ait):LS K H₀ ab a as T σ H' ρ:=by
 exact il h λbI ow h1 h2 h3 h4=>⟨bI,ow,h1,h2.mono s,h2.uW h4 s h3,h4.yJ s⟩
def LS.run(h:af3)(e:f ρ=some aq3)(k:∀bV H',LS K H₀ ab a as T bV H' ρ'->D'.nx bV H'):tC K f D' σ H:=by
 refine il h λbI ow h1 h2 h3 h4=>⟨ja bI H,_,_,[],[],ow,ρ,.next ρ',h2.ja,e,λkL bV H' hx=>k bV H' ⟨_,kL,λb u eb=>?_,hx,λb hb=>?_,?_⟩⟩
 .have:=h1 _ _ eb;by_cases hb:∃us,H b=some amb
  .obtain⟨us,z⟩:=hb;rw[iF z,<-z];exact h2.same _ _ this
  .rw[fU λus z=>hb ⟨us,z⟩];exact this
 .refine aa (h4.there b hb) λu eu q=>?_;have e1:ja bI H b=some u:=by
   rw[fU λus z=>by rw[eu]at z;cases z;exact q,h3 b hb];exact eu
  rw[e1];exact(hx.same _ _ e1).symm
 .refine h4.keep (λb us z=>hx.same _ _ (iF z)) λb hb=>aa (h4.there b hb) λu eu q=>?_;have e1:ja bI H b=some u:=by
   rw[fU λus z=>by rw[eu]at z;cases z;exact q,h3 b hb];exact eu
  rw[eu];exact hx.same _ _ e1
def G9(h:apj):ρ[x]?=some (ajU (true,v_)):=by
 unfold jN at h;refine slot (ρ:=ρ) (i:=x) (λe=>?_) (λe=>?_) λo d e=>?_<;>rw[e]at h
 .cases h
 .cases h
 cases o with
 |false=>cases h
 |true=>cases d with
  |bA t ks vs=>cases ks with
   |nil=>cases vs with
    |nil=>cases eq_of_beq h;exact e
    |cons=>cases h
   |cons=>cases h
  |_=>cases h
def LS.at(h:af3)(ht:apj):σ[x]?=some aiY:=by
 refine il h λbI ow _ h2 _ _=>aa (h2.own x _ (G9 ht)) λb o2 o1=>?_;rcases o1 with o1|o1
 .exact nomatch o1.1
 .rw[o2,o1.2.1]
theorem LS.lst(h:af3)(e:asW):∃b vs,σ[y]?=some (ajU ajh)/\cO K H b vs/\vs.length=l.length:=by
 refine il h λbI ow _ h2 _ _=>?_;obtain⟨o,e2⟩:=uU e;refine aa (h2.ex.kK y o _ e2) λu q1 q2=>?_;cases o with
 |true=>
  refine bF q2 λb f1 f2 c=>aa c.lst λvs c1 c2=>?_;subst f1;exact⟨b,vs,q1,cO.of c1,c2.length⟩
 |false=>
  refine bg (bz.lst_inv q2) λb vs f1 f2 f3=>?_;subst f1;exact⟨b,vs,q1,f2,f3.length⟩
def AO(e:aza):asW:=by
 have:=mP e;unfold gw;rw[this]
end
def QO(h:c_ 0 d=some k):∃i,d= .int i/\k=[i]:=by
 cases d with
 |int i=>cases h;exact⟨i,rfl,rfl⟩
 |tup xs=>cases h
 |_=>cases h
def AQ{K:aE}(hx:ahT)(e1:fi ρ=some xs)(hz:amj)(hd:walk ave xs=some T)
  (q:∀p as H',ait->sZ K H' p as T->(∀b∈p::as,aje)->Q ahg H'):p9 1 fr (aB4 K) (cQ 0) (tB K λ_=>at8) (uA (aqH fk) (aqH fv)) σ H Q:=by
 refine⟨O,ρ,xs,hx,e1,λJ iw H1 s1 C2 uO p hp=>?_⟩;have r8:=hx.mono s1;have LR:fQ K (λa=>O a\/a=p) H1 iw:=uO.ok.own hp;refine⟨λi m H'=>aAF/\aCu/\ag H1 H'/\∃as S ba,H' p=some aA8/\Paired (oB K H') as S/\(p::as).Nodup /\(∀b∈as,H1 b=none)/\as.length=i/\walk ave aCd=some ba/\T=S++ba,
  ⟨xs.length,rfl,abk _,ahu,[],[],T,ah,.nil,by simp,λ_ z=>(nomatch z),rfl,hd,rfl⟩,?_⟩
 rintro i mm H2 ⟨rfl,hi,s2,as,S,ba,ep,pd,nd,hn,hl,hw,ho⟩;refine cY aAr λgo Bw stop=>?_;by_cases bj:i<xs.length
 .refine .inr ⟨go i bj,λx H3 hy=>?_⟩;have UN:xs[i]?=some xs[i]:=by simp[bj]
  obtain⟨s3,rx⟩:=Bw i x H3 _ hy UN;have Qq:H3 p=some aA8:=s3 _ _ ep;have UO:EX K (λa=>O a\/a=p) σ H3 ρ:=r8.ext hp atb Qq;have dr:xs.drop i=xs[i]::xs.drop (i+1):=(abv bj);rw[dr,walk]at hw;show tB K (λ_=>at8) ((List.replicate 1 none++jL fr σ).set 0 (ajU x)) H3 _;have Zf:(List.replicate 1 none++jL fr σ).set 0 (ajU x)=some x::jL fr σ:=rfl;rw[Zf];have Qr:=UO.inner (aj2 rx) fr;refine⟨_,_,true,Qr,rfl,λH4 s4=>ny λJg Sd=>?_⟩;cases en:tU fk fv fr ρ xs[i]with
  |none=>rw[en]at hw;cases hw
  |some o=>
  have Jh:=en;unfold tU at Jh;refine aa (ajR Jh) λkk g0 Jh=>aa (ajR g0) λdk g1 g2=>aa (ajR Jh) λd g3 Jh=>?_;split at Jh
  .rename_i vy;cases Jh;rw[en]at hw;refine aa (akG hw) λC3 yv Qs=>aa (QO g2) λki ak aN=>?_;subst ak;subst aN;have WQ:=(Qr.mono s4).mono (ag.upd (o:= .dK []) Sd);refine⟨_,_,_,WQ,g1,λkv H5 s5 r5=>⟨_,_,d,WQ.mono s5,g3,λv H6 s6 r6=>?_⟩⟩;have Mo:H6 Jg=some azM:=s6 _ _ (s5 _ _ ah);have Se:ag H4 H6:=((ag.upd (o:= .dK []) Sd).trans s5).trans s6;have U1:H6 p=some aA8:=Se _ _ (s4 _ _ Qq);have Sf:p≠Jg:=c8 U1 Mo (by intro z;cases z);have Zg:ag H2 H6:=(s3.trans s4).trans Se;have Mp:∀b u,H4 b=some u->b≠Jg:=λb u e z=>by rw[z,Sd]at e;cases e
   refine⟨ki,r5.int,Mo,anh,axB,by rw[aq Sf];exact U1,by rw[aad,hl,cH];exact aah bj hz,ash,rfl,bj,λbb oo eb=>?_,as++[Jg],S++[.bA 0 [[ki]] [d]],C3,?_,?_,?_,?_,?_,yv,?_⟩
   .have e4:H4 bb=some oo:=s4 _ _ (s3 _ _ (s2 _ _ eb));rw[aq (bZ eb hp),aq (Mp _ _ e4)];exact Se _ _ e4
   .rw[aaM];exact ah
   .have t6:ju H6 aku:=(h_ (o:= .dK [(Sum.inl ki,v)]) Mo trivial).trans (h_ (u:= .lst anh) (by rw[aq Sf];exact U1) trivial);have old:Paired (oB K aku) as S:=lH pd λb dd hb ET=>ET.keep ((qG Zg).trans t6) (by
     refine cC ET λks vs ys _ h2 _=>?_;have e4:H4 b=some aqZ:=s4 _ _ (s3 _ _ h2);have Zh:b≠p:=λz=>by rw[aaW]at nd;exact nd.1 (z▸hb)
     rw[aq Zh,aq (Mp _ _ e4),h2];exact Se _ _ e4)
    refine AK ⟨[[ki]],[v],[d],rfl,?_,rfl,⟨by simp,λ_ k hk=>⟨ki,by simpa using hk⟩⟩,by simp[aX,vy],.cons (ed t6 r6.own vy) .nil⟩ old;rw[aq (abD Sf),ah,ka];rfl
   .rw[<-List.cons_append,aby];refine⟨nd,by simp,λb hb c hc e=>?_⟩;rw[aak]at hc;rw[e,hc]at hb;rcases aat.mp hb with z|z
    .exact Sf z.symm
    .exact Jw (kj pd z) λdd ks vs ys _ h2 _=>Mp _ _ (s4 _ _ (s3 _ _ h2)) rfl
   .intro b hb;rcases aay.mp hb with hb|hb
    .exact hn b hb
    .rw[aak]at hb;subst hb;cases z:H1 b with
     |none=>rfl
     |some w=>have:=s4 _ _ (s3 _ _ (s2 _ _ z));rw[Sd]at this;cases this
   .rw[aan,abb,hl]
   .rw[ho,<-Qs,aaL];rfl
  .cases Jh
 .have ei:i=xs.length:=aum;subst ei;refine .inl ⟨stop,?_⟩;rw[aeN,walk]at hw;cases hw;rw[abf]at ho;subst ho;refine q p as H2 agV ⟨ep,pd,nd⟩ λb hb=>?_;have h1:H1 b=none:=(aat.mp hb).elim (λz=>z▸hp) (hn b);cases z:H b with
  |none=>rfl
  |some w=>have:=s1 _ _ z;rw[h1]at this;cases this
section
variable {K:aE}{H₀ bI:Hp}{ab G_ Z:Addr->Prop}{kv:ad7}{kd:ac1}{ow:Nat->Option Addr}{σ:St}{H H1 H':Hp}{ρ:Env}{a b:Addr}{as:af7}{T:ac1}{x y r:Nat}{u u':HO}
def Dy{α β:Type}{R R':α->β->Prop}{x:α}{y':β}(hy:R' x y'):∀{l:agM}{m:aoK}{q:Nat},arK->atf->l[q]?=some x->(∀z y,z∈l->z≠x->R z y->R' z y)->Paired R' l (m.set q y'):=λ{l m q} p=>by
 induction p generalizing q with
 |nil=>intro _ e;simp at e
 |cons r t ih=>
  intro nd e k;rw[aaW]at nd;cases q with
  |zero=>
   simp at e;subst e;exact .cons hy (lH t λz y hz=>k z y avZ λe=>nd.1 (e▸hz))
  |succ q=>
   have e':=by simpa using e
   exact .cons (k _ _ aal (λe2=>nd.1 (e2▸abd e')) r) (ih nd.2 e' λz y hz=>k z y avZ)
def SX.Zi(h:SX K bI G_ Z kv kd ow σ H ρ)(ob:G_ b)(e:aot)(hu:uK u)(qk:uK u')(hz:∀c,Z c->c≠b):SX K (L2.upd bI b u') G_ Z kv kd ow σ (aB6 u') ρ:=by
 have oa:Os G_ ow b:= .inl ob;obtain⟨w,hw⟩:=h.o0 b ob;have eG:∀i c,ow i=some c->c≠b:=λi c hc z=>by
  have:=h.new i c hc;rw[z,hw]at this;cases this
 refine⟨⟨λc hc=>?_,λj o d' hj=>?_⟩,h.own,h.inj,λi c hc=>by rw[aq (eG i c hc)];exact h.new i c hc,λc v hc=>?_,h.kp.upd oa e hu,λc hc=>?_,h.len⟩
 .by_cases yK:c=b
  .subst yK;exact⟨u',ah,qk⟩
  .exact aa (h.ex.live c hc) λus q qo=>⟨us,by rw[aq yK];exact q,qo⟩
 .refine aa alL λw q1 q2=>⟨w,q1,?_⟩;cases o with
  |true=>
   refine bF q2 λc e1 e2 c'=>aa aie λb' o2 o1=>?_;rw[q1]at o2;cases o2;cases e1;exact⟨c,rfl,e2,c'.upd (o1.elim (λo1=>eG j c o1.2) λo1=>hz c o1.2.1) oa e hu⟩
  |false=>exact bz.upd q2 oa e hu
 .by_cases yK:c=b
  .subst yK;rw[ah]at hc⊢;exact hc
  .rw[aq yK]at hc⊢;exact h.same _ _ hc
 .by_cases yK:c=b
  .subst yK;exact⟨u',ah⟩
  .obtain⟨v,hv⟩:=h.o0 c hc;exact⟨v,by rw[aq yK];exact hv⟩
theorem LS.put(h:af3)(rp:aqt)(n:arJ):LS K H₀ ab a as T (σ.set r amJ) H (Py.put ρ r false d):=by
 exact il h λbI ow h1 h2 h3 h4=>⟨bI,_,h1,h2.put (ed (λ_ _ e=>e) rp n) r,h3,h4⟩
def LS.own(h:af3)(e:aza):∃b vs O',σ[y]?=some (ajU ajh)/\H b=some ahp/\au K O' H vs l/\
  ∀L_ l' H',ait->au K O' H' L_ l'->LS K H₀ ab a as T σ (L2.upd H' b (aj1 L_)) (Py.put ρ y true (aj1 l')):=by
 refine il h λbI ow h1 h2 h3 h4=>il (h2.Mk e) λb vs o1 o2 o3 o4=>?_;refine⟨b,vs,_,o2,o3,o4,λL_ l' H' s rr=>?_⟩;have hb:∀c,c∈a::as->c≠b:=λc hc z=>by
  have n:=h2.new y b o1;refine aa (h4.there c hc) λu eu _=>?_;rw[<-z,h3 c hc,eu]at n;cases n
 have QK:=s _ _ o3;refine⟨bI,ow,h1,(h2.mono s).wr o1 o2 QK rr,λc hc=>?_,(h4.yJ s).keep (h_ QK trivial) λc hc=>aq (hb c hc)⟩;rw[aq (hb c hc)];exact h2.uW h4 s h3 c hc
def LS.dput(h:af3){xs:ac1}{ki:Int}(e:T[q]?=some (.bA 0 ks xs))(hk:[ki]∉ks)(hl:ks.length<bX)(rp:aqt)(n:arJ)(hn:∀b∈a::as,atB):
  ∃b H',as[q]?=some b/\K3 H b (amh ki) v H'/\LS K H₀ ab a as (T.set q (.bA 0 (ks++[[ki]]) (xs++[d]))) σ H' ρ:=by
 refine il h λbI ow h1 h2 h3 h4=>?_;obtain⟨b,e1,Y5,vs,PX,e2,g1,g2,g3,g4,g5⟩:=G8 h4.bA e;cases e2;have hb:b∈as:=abd e1;have nd:=aaW.mp h4.nd;have qq:a≠b:=λz=>nd.1 (z▸hb);have Mq:fm ((ks.map λk=>(Sum.inl ahG:cD)).zip vs) (Sum.inl ki) v=((ks++[[ki]]).map λk=>(Sum.inl ahG:cD)).zip amZ:=by
  have:=mQ (λk:List Int=>(Sum.inl ahG:cD)) (x:=[ki]) (v:=v) g2 (λk hm he=>by
   obtain⟨j,rfl⟩:=g3.2 rfl k hm;have:j=ki:=afB he;rw[this]) hk
  exact this
 refine⟨b,L2.upd H b apW,e1,.inl ⟨_,Sum.inl ki,by rw[g1,ka],rfl,by rw[adf,aad,g2,aea,cH,<-g2];exact hl,by rw[Mq,ka]⟩,?_⟩;have ts:ju H (aB6 apW):=h_ g1 gT;refine⟨L2.upd bI b apW,ow,λc w ec=>?_,h2.Zi (amY atq) g1 gT gT (λc hc=>by rw[hc];exact qq),λc hc=>?_,⟨by rw[aq qq];exact h4.lst,?_,h4.nd⟩⟩
 .have yK:c≠b:=λz=>by rw[z,hn b atq]at ec;cases ec
  rw[aq yK];exact h1 _ _ ec
 .by_cases yK:c=b
  .subst yK;rw[ah,ah]
  .rw[aq yK,aq yK];exact h3 c hc
 .refine Dy ⟨ks++[[ki]],amZ,xs++[d],rfl,ah,by simp[g2],⟨?_,λ_ k hm=>?_⟩,by rw[i_,g4];simp[aX,n],(fT ts g5 g4).append (aj2 (ed ts rp n))⟩ h4.bA nd.2 e1 λz y hz Zj hd=>hd.keep ts (aq Zj)
  .rw[aby];exact⟨g3.1,by simp,λa ha b hb e=>hk (by rw[aak.mp hb]at e;exact e▸ha)⟩
  .rcases aay.mp hm with hm|hm
   .exact g3.2 rfl k hm
   .exact⟨ki,aak.mp hm⟩
def LS.call(h:LS K H₀ ab a as T σ H1 ρ){Q:VK}(rz:bz K O' H1 v z)(nz:aG z=true)(fe:f [.lst T,z]=some d)(hn:∀ds d,f ds=some d->ds.length=n)
  (k:∀w H3,ag H1 ak5->bz K (λ_=>False) H3 w d->ju H3 ak5->aqk->Q w ak5):
  ∃QP:af7,QP.Nodup/\(∀b∈QP,nR H1 b)/\∀H2,F8 QP H1 H2->yr K n f ([ac_,v]++[]) H2 (λw H3=>uz QP H1 H3/\Q w (gE QP H1 H3)) E0:=by
 refine il h λbI ow h1 h2 h3 h4=>⟨as,(aaW.mp h4.nd).2,h4.mut,λH2 fz=>⟨λ_=>False,[.lst T,z],d,λ_ z=>z.elim,.cons ((h4.rep fz).resolve_right id) (aj2 (ed (uV fz) rz nz)),fe,hn _ _ fe,λw H3 s BG=>?_⟩⟩;exact cY (AM fz s) λc s' t=>⟨c,k w H3 s' BG t c⟩
def LS.ret(h:af3)(hn:∀b∈a::as,atB)(o0:∀b,ab b->∃w,H₀ b=some w)(fz:F8 as H H2):ag H₀ H2/\bz K ab H2 ac_ (aj1 T):=by
 refine il h λbI ow h1 h2 h3 h4=>⟨λb u e=>?_,(h4.rep fz).resolve_right λz=>?_⟩
 .rw[fz.out b λhb=>by rw[hn b atq]at e;cases e];exact h2.same _ _ (h1 _ _ e)
 .obtain⟨w,hw⟩:=o0 a z;rw[hn a aal]at hw;cases hw
end
abbrev Mr(K:aE)(n:Nat)(f:ac1->ahN)(t:TA):TE:=λσ H Q=>t σ H λvs H1=>∃as:af7,as.Nodup/\(∀b∈as,nR H1 b)/\∀H2,aqC->yr K n f (vs++[]) H2 (λv H3=>aqk/\Q v ak5) E0
abbrev Ha(y:Nat):TE:=λσ H Q=>∃a vs v,σ[y]?=some aiY/\al7/\vs[vs.length-1]?=some v/\Q v ajr
abbrev Dz(K:aE)(y:Nat):TT:=λσ H Q=>c9 y σ H λx H'=>∃k,Kc K x H' k/\Q k H'
section
variable {K:aE}{H₀:Hp}{ab:Addr->Prop}{σ:St}{H:Hp}{ρ:Env}{a:Addr}{as:af7}{T:ac1}{x y:Nat}
def DA(h:apj)(ne:x≠y):jN (Py.put ρ y o d) x=true:=by
 unfold jN Py.put at *;rw[aaQ (abD ne)];exact h
def LS.WR(h:af3)(e:asW)(q:Q (!l.isEmpty) H):Dz K y σ H Q:=by
 refine bg (h.lst e) λb vs h1 h2 h3=>?_;have he:(!vs.isEmpty)=!l.isEmpty:=by cases vs<;>cases l<;>simp at h3⊢
 exact⟨ajh,h1,!vs.isEmpty,.inl ⟨vs,h2,rfl⟩,by rw[he];exact q⟩
def DB(h:t {D' with nx:=u D'} σ H):qU t u D' σ H:=h
def LS.ifs(h:af3)(e:asW)(q:if(!l.isEmpty)=true then t D' σ H else u D' σ H):E5 (Dz K y) t u D' σ H:=by
 unfold E5;exact h.WR e q
def LS.turn(h:af3)(hn:∀b∈a::as,atB)(ht:apj)(vB:x≠y)(el:aza)(QQ:∀ds d,aqD->aCI)(QR:∀ds d,aBi->aCH)
  (e:jO F x y r f c2 m c3 p q u g w T ρ l=some (T',ρ')) (k:∀bV H',LS K H₀ ab a as T' bV H' ρ'->jN ρ' x=true->D'.nx bV H'):
  qU (pG (alG K) (cQ r)) (qU (tC K c2) (qU (E5 (Dz K m) (qU (tC K c3) (qU (xo (Ip (Fm K) (c9 x) (aqH p)) (aqH q) (aqH u)) (qU (w_ (RG K "list" (Cv K) (c9 y) (cX (Mr K n2 (F g) (cX (c9 x) (cX (aqH w) ni))) ni))) w8))) w8) w8)) D' σ H:=by
 unfold jO at e;obtain⟨z,e1,e⟩:=bind_some e;obtain⟨d,e2,e⟩:=bind_some e;split at e
 .rename_i QS;rw[aae]at QS;obtain⟨o,e3,e⟩:=bind_some e;cases o with
  |next OL=>
   dsimp only at e;split at e
   .rename_i U2;obtain⟨ms,e4,e⟩:=bind_some e;obtain⟨b,vs,O',y1,y2,y3,y4⟩:=h.own el;have pA:l[vs.length-1]?=some z:=by rw[y3.length,<-afo];exact e1
    obtain⟨v,z1,z2⟩:=y3.get pA;have yd:au K O' H vs.dropLast l.dropLast:=by
     rw[adH,adH,y3.length];exact y3.take _
    have h1:=y4 vs.dropLast l.dropLast H ad1 yd;have Zk:bz K (λ_=>False) (aB6 (aj1 vs.dropLast)) v z:=ed (h_ y2 trivial) z2 QS.1;refine⟨ac_,h.at ht,b,vs,v,y1,y2,z1,h1.call (Q:=λw H'=>qU (tC K c2) _ D' (σ.set r (ajU w)) H') Zk QS.1 e2 QQ λw H3 s3 r3 t3 U3=>?_⟩;have h2:=(h1.mono s3).put (r:=r) (ed (O':=λ_=>False) t3 r3 QS.2) QS.2;refine h2.run e3 λzB H4 h3=>DB (h3.ifs e4 ?_);generalize ms.isEmpty=bm at e⊢;cases bm with
    |true=>
     cases e;exact pL (k zB H4 h3 U2)
    |false=>
     rw[aaC aai]at e;obtain⟨o,e5,e⟩:=bind_some e;cases o with
     |next Bc=>
      dsimp only at e;split at e
      .rename_i U4;obtain⟨uv,e6,e⟩:=bind_some e;split at e
       .rename_i hu;obtain⟨pi,Zl,e⟩:=bind_some e;obtain⟨dp,e7,WS⟩:=bind_some Zl;have Zm:dp= .int pi:=by cases dp<;>first|(cases WS;rfl)|cases WS
        subst Zm;obtain⟨pq,e8,e⟩:=bind_some e;obtain⟨kk,Zn,e⟩:=bind_some e;obtain⟨dk,e9,Sg⟩:=bind_some Zn;obtain⟨ki,rfl,rfl⟩:=QO Sg;obtain⟨T2,yG,e⟩:=bind_some e;obtain⟨wv,Zo,e⟩:=bind_some e;split at e
        .rename_i hw;obtain⟨zd,aa,e⟩:=bind_some e;cases zd with
         |lst zs=>
          dsimp only at e;split at e
          .rename_i Zp;obtain⟨ws,bF,e⟩:=bind_some e;split at e
           .rename_i aI;cases e;refine ny (h3.run e5 λZq H5 h5=>?_);obtain⟨bI,ow,b1,b2,b3,b4⟩:=id h5;refine⟨_,Bc,uv,b2.ex,e6,λv6 H6 s6 r6=>⟨ac_,(h5.mono s6).at U4,_,Bc,.int pi,(b2.mono s6).ex,e7,λv7 H7 s7 r7=>?_⟩⟩;have h7:=(h5.mono s6).mono s7;have t7:=b4.yJ (s6.trans s7);unfold BU at yG;split at yG
            .rename_i ks xs eT;split at yG
             .rename_i K';cases yG;have lT:as.length=T.length:=adk t7.bA;obtain⟨b8,Zr,U5⟩:∃c,Iz (as.map V.ref) pi=some (V.ref c)/\as[pq]?=some c:=by
               have bj:pq<as.length:=by rw[lT];exact(aax.mp eT).1
               refine⟨as[pq],?_,aac bj⟩;unfold Iz;rw[aad,lT,<-oh,e8];show(as.map V.ref)[pq]?=_;rw[aau,aac bj];rfl
              refine⟨a,_,pi,.ref b8,rfl,r7.int,cO.of t7.lst,Zr,_,Bc,.int ki,((b2.mono s6).mono s7).ex,e9,λv9 H9 s9 r9=>?_⟩;have h9:=h7.mono s9;obtain⟨b',TF,f1,f2,f3⟩:=h9.dput eT K'.2 K'.1 (r6.own.mono (s7.trans s9)) hu hn;rw[U5]at f1;cases f1;refine⟨_,TF,rfl,by rw[r9.int];exact f2,?_⟩;obtain⟨c,us,O2,c1,IL,U3,c4⟩:=f3.own bF;obtain⟨Zt,ow2,d1,d2,d3,d4⟩:=id f3;refine⟨.ref c,c1,.inl ⟨rfl,us,cO.of IL⟩,ac_,f3.at U4,_,Bc,wv,d2.ex,Zo,λv11 TH KD Zu=>?_⟩;refine(f3.mono KD).call (Q:=λw2 H'=>Cv K aod [w2] H' λ_ WB=>D'.nx Zq WB) Zu.own hw aa QR λw2 H12 Zv Zw Zx Zy=>?_;obtain⟨bb,zv,rfl,g1,g2⟩:=Zw.lst_inv;have EO:=KD.trans Zv;refine⟨c,bb,us,zv,rfl,rfl,EO _ _ IL,Dx Zy (d4.yJ KD).QN g1,by rw[cH,U3.length,g2.length];exact aI,?_⟩;exact k _ _ (c4 _ _ _ EO ((U3.mono EO).append (fT Zx g2 Zp))) (DA U4 vB)
             .cases yG
            .cases yG
           .cases e
          .cases e
         |_=>cases e
        .cases e
       .cases e
      .cases e
     |_=>cases e
   .cases e
  |_=>cases e
 .cases e
end
def Mt(h:te σ H λv H1=>g v σ H1 D'.nx):pG te g D' σ H:=h
section
variable {X:Cx}{s1 s2 sr s5 s6 ss se:Stmt}{e1 e2 em:Expr}{wp ip rp:Pos}{x y r f m g n1 n2:Nat}{fr:ahj}{F:FT}{fi:Env->Option ac1}{fk fv p q u w:Env->Option D}{c1 c2 c3:Env->Option kU}
def QT(hp:aiJ)(QQ:∀ds d,aqD->aCI)(QR:∀ds d,aBi->aCH)
  (P1:PS X s1 (pG (p9 1 fr (aB4 X.K) (cQ 0) (tB X.K λ_=>at8) (uA (ajQ fk) (ajQ fv))) (cQ x)))
  (P2:PS X s2 (asT c1)) (Py:PT X e2 (Dz X.K y)) (Pr:awR) (P5:PS X s5 (asT c2)) (Pm:PT X em (Dz X.K m)) (P6:PS X s6 (asT c3))
  (Ps:PS X ss (xo (Ip (Fm X.K) (c9 x) (ajQ p)) (ajQ q) (ajQ u))) (Pe:PS X se (w_ (RG X.K "list" (Cv X.K) (c9 y) (cX (Mr X.K n2 (F g) (cX (c9 x) (cX (ajQ w) ni))) ni)))) (Pt:PE X e1 (c9 x)) (n:Nat):
  mB X [s1,s2,.While e2 [sr,s5,.If em [s6,ss,se] [] ip] [] wp,.Return (ajU e1) rp] (tC X.K λρ=>(fi ρ).bind λxs=>if xs.length<=bX/\x≠y/\x<ρ.length/\tT ρ=true then(walk ave xs).bind λT=>
   (c1 ate).bind λo=>match o with
   | .next KJ=>if jN KJ x then(gO aml y n T KJ).map λT=> .ret (aj1 T) else none
   |_=>none
  else none):=
 (b6 P1 (b6 P2 (b6 (tH hp Py (b6 Pr (b6 P5 (b6 (Im Pm (b6 P6 (b6 Ps (b6 Pe jB))) jB) jB)))) (b6 (vH (F9 Pt)) jB)))).weak λD' σ H zz=>by
  refine mY zz λH₀ ab Z kv kd ow ρ out hx hd k=>aa aa6 λxs pA hd=>?_;split at hd
  .rename_i hc;refine Bl hc λhz vB Zz ZA=>aa aa6 λT Fu hd=>aa aa6 λo e3 hd=>?_;cases o with
   |next KJ=>
    dsimp only at hd;split at hd
    .rename_i T8;refine aa af4 λT' e4 ak=>?_;subst ak;refine DB (Mt (AQ hx.ex pA hz Fu λa as H' s t hn=>?_));have Sb:∀b∈a::as,atB:=λb hb=>by
      cases z:H₀ b with
      |none=>rfl
      |some w'=>have:=hx.same _ _ z;rw[hn b hb]at this;cases this
     obtain⟨sb,r8⟩:=hx.tab s t hn ZA Zz;have L0:LS X.K H₀ ab a as T (σ.set x aiY) H' ate:=⟨_,_,sb,r8,λb hb=>j4 hb,t⟩;refine L0.run e3 λJV H1 L1=>⟨λi σ H=>∃S ρ,LS X.K H₀ ab a as S σ H ρ/\apj/\aAP,⟨n,T,KJ,L1,T8,e4⟩,?_⟩;rintro i A_ H2 ⟨S,ES,NG,WT,e5⟩;cases i with
     |zero=>cases e5
     |succ i=>
      rw[gO]at e5;refine aa (ajR e5) λl e6 e5=>NG.WR (AO e6) ?_;cases hl:l.isEmpty with
      |true=>
       rw[hl,aav rfl]at e5;cases e5;refine pL ?_;refine⟨ac_,NG.at WT,as,?_,?_,λH3 fz=>?_⟩
       .exact il NG λ_ _ _ _ _ t4=>(aaW.mp t4.nd).2
       .exact il NG λ_ _ _ _ _ t4=>t4.mut
       .obtain⟨q1,q2⟩:=NG.ret Sb hx.o0 fz;exact k _ _ q1 q2
      |false=>
       rw[hl,aaC aai]at e5;obtain⟨⟨S',ρ'⟩,e7,e5⟩:=bind_some e5;refine ny ⟨λbV H'=>∃S ρ,LS X.K H₀ ab a as S bV H' ρ/\apj/\aAP,λbV H' h=>⟨i,abT i,h⟩,?_⟩;exact NG.turn Sb WT vB e6 QQ QR e7 λbV H' L3 U2=>⟨S',ρ',L3,U2,e5⟩
    .cases hd
   |_=>cases hd
  .cases hd
end
section
variable {X:Cx}{c e:Expr}{st:Stmt}{pos px:Pos}{x:Str}{i:Nat}
def QU(hi:X.N[i]?=some x)(hv:ah0)(Dt:aik)(nu:(x==("__classdict__":Str))=false)(hl:apk)(he:agZ)(hn:axU):
  PS X (.Expr (azX (.Attribute ahs "append" ap)) pos) (tC X.K λρ=>(f ρ).bind λd=>match ρ[i]? with
   |some (some (true,.lst xs))=>if xs.length<bX then some aA7 else none
   |_=>none):=
 (jC (xi acI PySem.F.slot_list_append PySem.F.type_list_append p7 alH (b_ he dm (bL hn)) rfl (by rw[bL hn];rfl) hl (bL hn) rfl) rfl).weak λD' σ H zz=>by
  refine mY zz λH₀ ab Z kv kd ow ρ out hx hd k=>aa aa6 λd e1 hd=>?_;split at hd
  .rename_i xs Jb;split at hd
   .rename_i hz;cases hd;refine aa awu λa o2 o1=>?_;have o1:aiT:=o1.elim (λz=>z.2) λz=>nomatch z.1;refine aa (aw6 Jb) λw' q1 q2=>bF q2 λa' e6 e8 c0=>aa c0.lst λvs e9 yG=>?_;rw[o2]at q1;cases q1;cases e6;refine⟨ac_,o2,.inl ⟨rfl,vs,cO.of e9⟩,af0,ρ,d,hx.ex,e1,λv H1 s1 r1=>?_⟩;have r8:=hx.mono s1;have Sg:=s1 _ _ e9;refine⟨a,vs,v,rfl,rfl,Sg,?_,?_⟩
    .rw[cH,yG.length];exact hz
    .exact k ow _ _ (r8.wr o1 o2 Sg ((yG.mono s1).append (aj2 r1.own)))
   .cases hd
  .cases hd
end
structure Cs(X:Cx)(G:GT)(F:FT):Prop where
 ct:Ct X G F
 fn:∀x,X.fn x=true
 nd:X.N.Nodup
 pass:PassesOwn aa7 X.A X.env X.xe
structure cf(G:GT)(F:FT)(c:C):Prop where
 s:∀X,Cs X G F->∀st,awb->PS X st axW
 ss:∀X,Cs X G F->∀vE,gH G c X.N X.env.scope vE=true->mB X vE axW
section
variable {G:GT}{F:FT}
def cf.gg(s:∀X,Cs X G F->∀st,awb->PS X st axW)(n:∀N sc vE,gH G c N sc vE=false:=by intro _ _ _;rfl):cf G F c:=⟨s,λX hC vE h=>absurd h (by rw[n];exact aai)⟩
def Hb:cf G F .skip where
 s:=λX hC st h=>ff h
 ss:=λX hC vE h=>by
  cases vE with
  |nil=>exact Me
  |cons _ _=>exact ff h
def Mu(ha:cf G F a)(hb:cf G F b):cf G F (.seq a b) where
 s:=λX hC st h=>ff h
 ss:=λX hC vE h=>by
  cases vE with
  |nil=>exact ff h
  |cons s r=>
   change (Mc G a X.N X.env.scope s&&gH G b X.N X.env.scope r)=true at h;simp only[aae]at h;exact QE (ha.s X hC s h.1) (hb.ss X hC r h.2)
def yL{p px pos:Pos}(hs:¬swapsWith aqF att pos.line env=pure false):env.scope.names.lookup x=some .local /\swapsWith aqF att pos.line env=pure true:=by
 have e0:swapsWith aqF att pos.line env=pure (env.blockKind == .function&&env.kindOf x==some .local&&px.line==p.line
   && !(iD.names.any λ(n,k)=>n==x&&(k == .local||k == .cell))):=rfl
 cases eb:(env.blockKind == .function&&env.kindOf x==some .local&&px.line==p.line&&!(iD.names.any λ(n,k)=>n==x&&(k == .local||k == .cell)))with
 |false=>rw[eb]at e0;exact absurd e0 hs
 |true=>
  rw[eb]at e0;simp only[aae]at eb;exact⟨eq_of_beq eb.1.1.2,e0⟩
def Mv:cf G F ayM:= .gg λX hC st h=>by
 refine mr (eX (st:=st) h) λx px v pos ak hb=>?_;subst ak;replace h:=hb;simp only[aae,decide_eq_true_eq,aev]at h;obtain⟨⟨⟨h1,h2⟩,h3⟩,h4⟩:=h;exact QF hC.nd h1 aCB an9 ((snd e).e X hC.ct v h3 false) (oA h4)
def Hc:cf G F aBt:= .gg λX hC st h=>by
 refine mr (eX (st:=st) h) λx px v pos ak hb=>?_;subst ak;replace h:=hb;simp only[aae,decide_eq_true_eq]at h;obtain⟨⟨⟨⟨h1,h2⟩,h3⟩,h4⟩,h0⟩:=h;by_cases hs:swapsWith v att pos.line X.env=pure false
 .exact qE (gL hC.nd h1 aCB ((snd e).f X hC.ct v h3 h4) hs aA4) (λσ H Q z=>z)
 .have hv:gh v=true:=by
   cases z:gh v with
   |true=>rfl
   |false=>exact absurd (oA z) hs
  rw[hv]at h0;cases e with
  |comp fr tg it ifs eQ=>
   refine VJ (qB h3) λel n q iter fs iD p cV nQ UG R8 h5 h6 h7=>?_;subst cV;subst nQ;have e0:=yL hs;refine qE (nB alS (sq R8).1 hC.ct.calm R9 (oy hC.ct (snd it) (snd ifs) (snd eQ) R8 h5 h6 h7) (dP UG) hC.nd h1 e0.1 e0.2) (λσ H Q z=>?_);exact qx Qp σ H Q (yF σ H Q z)
  |_=>exact ff h0
def Hd:cf G F (.jM i ix e):= .gg λX hC st h=>by
 refine kI (kg (st:=st) h) λJa v pos zr h=>aa (bP h) λo aN h=>kI (kf h) λn k p2 cV h=>eO (cL h) λx px nQ dj=>?_;subst zr aN cV nQ;simp only[aae,decide_eq_true_eq]at dj;obtain⟨⟨⟨⟨⟨h1,h2⟩,h3⟩,h4⟩,h5⟩,h6⟩:=dj;exact Mf h1 aCq (b7 h3).1 (b7 h3).2 ((snd ix).e X hC.ct _ h4 false) h5 ((snd e).e X hC.ct v h6 false)
def Mw:cf G F (.app i e):= .gg λX hC st h=>by
 refine eO (fR (st:=st) h) λex pos zr h=>Jx (dY h) λo m ap as cp aN h=>aa (bP h) λv cV h=>eO (cL h) λx px nQ dj=>?_;subst zr aN cV nQ;simp only[aae,decide_eq_true_eq]at dj;obtain⟨⟨⟨⟨⟨⟨h1,h2⟩,h3⟩,rfl⟩,h4⟩,h5⟩,h6⟩:=dj;exact QU h1 aCq (b7 h3).1 (b7 h3).2 h4 ana h6
def Mx:cf G F (akL e):= .gg λX hC st h=>by
 cases st with
 |Return o pos=>
  cases o with
  |none=>exact ff h
  |some v=>
   have h:bM G e X.N X.env.scope v=true:=h;cases e with
   |var i=>
    cases v with
    |Name x px=>
     change (decide (X.N[i]?=some x)&&pS X.env.scope x&&yw x)=true at h;simp only[aae,decide_eq_true_eq]at h;obtain⟨⟨h1,h2⟩,h3⟩:=h;exact Mg h1 aCq (b7 h3).1 (b7 h3).2
    |_=>exact ff h
   |_=>exact QG ((snd _).e X hC.ct v h false)
 |_=>exact ff h
def My(ht:cf G F t)(hu:cf G F u):cf G F (.ifs c t u):= .gg λX hC st h=>by
 cases st with
 |If x a b pos=>
  change (bM G c X.N X.env.scope x&&Gx c&&gH G t X.N X.env.scope a&&gH G u X.N X.env.scope b)=true at h;simp only[aae]at h;obtain⟨⟨⟨h1,h2⟩,h3⟩,h4⟩:=h;exact UW aw3 (ht.ss X hC a h3) (hu.ss X hC b h4)
 |_=>exact ff h
def DC(hb:cf G F b):cf G F (.while c b):= .gg λX hC st h=>by
 cases st with
 |While x a o pos=>
  change (o.isEmpty&&bM G c X.N X.env.scope x&&Gx c&&gH G b X.N X.env.scope a)=true at h;simp only[aae]at h;obtain⟨⟨⟨h0,h1⟩,h2⟩,h3⟩:=h;cases o with
  |cons _ _=>exact ff h0
  |nil=>exact yH hC.pass aw3 (axu h3) fF
 |_=>exact ff h
def WU(hC:ag9)(h:Ma G it X.N X.env.scope sY iter=true):PI X sY iter (tI X.K false (nG F false it)):=by
 cases it with
 |Ba a=>
  cases sY with
  |Tuple es k p=>
   refine mr (dZ (e:=iter) h) λx q a0 cp zr dj=>?_;subst zr;simp only[aae,decide_eq_true_eq]at dj;obtain⟨⟨⟨rfl,h1⟩,h2⟩,h3⟩:=dj;exact Qm aCG (ao9 (by simp[jr])) ((snd a).e X hC _ h2 false) aCP
  |_=>exact ff h
 |_=>exact(snd _).i X hC _ iter h false
def Mz:ex F (axw it)=λρ=>(λρ=>(nG F false it ρ).bind λxs=>aL (λy ρ=>ard) xs ρ) apv:=by
 funext ρ;have e:(λ(x:D) (ρ:Env)=>(aB tg x).bind λys=>(cF ρ is ys).bind λρ'=>ar_)=λy ρ=>((aB tg y).bind (cF ρ is)).bind (ex F b):=by
  funext y ρ;cases aB tg y<;>rfl
 show(nG F false it apv).bind (λxs=>aL (λx ρ=>(aB tg x).bind λys=>(cF ρ is ys).bind λρ'=>ar_) xs apv)=_;rw[e]
def MA(hb:cf G F b):cf G F (axw it):= .gg λX hC st h=>by
 cases st with
 |For sY iter a o pos=>
  change (o.isEmpty&&gZ iter&&gH G b X.N X.env.scope a&&L' X.N X.env.scope is tg sY&&Ma G it X.N X.env.scope sY iter)=true at h;simp only[aae]at h;obtain⟨⟨⟨⟨h0,h1⟩,h2⟩,h3⟩,h4⟩:=h;cases o with
  |cons _ _=>exact ff h0
  |nil=>
   rw[Mz];refine Du (it:=it) (g:=λρ=>(nG F false it ρ).bind λxs=>aL (λy ρ=>ard) xs ρ) ?_;unfold L' at h3;cases sY with
   |Name x p=>
    simp only[aae,decide_eq_true_eq]at h3;obtain⟨⟨rfl,h5⟩,h6⟩:=h3;obtain⟨i,rfl⟩:∃i,is=[i]:=by
     cases is with
     |nil=>cases h6
     |cons i t=>cases t with|nil=>exact⟨i,rfl⟩|cons _ _=>cases h6
    unfold gm at h5;simp only[aae,decide_eq_true_eq]at h5;exact Jc (setT:=λρ d=>some ai3) hC.pass hC.ct.calm (mC hC.nd h5.1.1 (fx h5.1.2) aA4) G0 (WU hC.ct h4) (axu h2) (dP h1)
   |Tuple es k p=>
    simp only[aae,decide_eq_true_eq]at h3;obtain⟨⟨rfl,h5⟩,h6⟩:=h3;refine cY (qF hC.nd hC.fn h6) λq1 q2 q3=>?_;have DD:0<is.length:=by
     cases is with
     |nil=>
      unfold gm at h6;rw[h6]at h5;cases h5
     |cons _ _=>exact acz _
    exact Jc hC.pass hC.ct.calm (KZ hC.ct.calm q1 q2 q3) (Mj DD) (WU hC.ct h4) (axu h2) (dP h1)
   |_=>exact ff h3
 |_=>exact ff h
def He:cf G F (.v5 i t es):= .gg λX hC st h=>by
 refine mr (eX (st:=st) h) λx px v pos zr dj=>?_;subst zr;rw[aae,aae,decide_eq_true_eq]at dj;obtain⟨⟨h1,h2⟩,GU⟩:=dj;refine kI (lE GU) λks vs dp zr h=>aa (bP h) λko aN h=>aa (qz h) λke cV h=>aa (bP h) λwe nQ h3=>?_;subst zr aN cV nQ;simp only[aae,decide_eq_true_eq]at h3;refine kH (C' (F:=F) h3.2) λa b ak k1 _ k2 _=>?_;subst ak;have e0:ex F (.v5 i t (.cons a (aj2 b)))=λρ=>if t=2 then none else((ev F false a ρ).bind λx=>(ev F false b ρ).bind λy=>(c_ t x).map λz=>D.bA t [z] [y]).map λd=> .next aCZ:=by
  funext ρ;show(if t=2 then none else((dQ F false (.cons a (aj2 b)) ρ).bind (BQ t)).map λd=>kU.next aCZ)=_;rw[me];cases ev F false a ρ with
  |none=>rfl
  |some x=>
   show(if t=2 then none else(((dQ F false (aj2 b) ρ).bind λxs=>some (x::xs)).bind (BQ t)).map λd=>kU.next aCZ)=_;rw[me];cases ev F false b ρ with
   |none=>rfl
   |some y=>rfl
 rw[e0];exact G7 hC.ct.units hC.nd h1 aCB an9 h3.1 ((snd a).e X hC.ct ke k1 false) ((snd b).e X hC.ct we k2 false)
def DE:cf G F (.raise k):= .gg λX hC st h=>λU s σ H D' I zz=>abM λ_=>mY zz λ_ _ _ _ _ _ _ _ _ hd _=>nomatch hd
def MB:cf G F (.OK i j):= .gg λX hC st h=>by
 refine mr (eX (st:=st) h) λx px v pos ak hb=>?_;subst ak;replace h:=hb;simp only[aae,decide_eq_true_eq]at h;refine kH (bQ h.2) λy q cV n1 n2 n3 n4=>?_;subst cV;exact QL hC.nd h.1.1 (fx h.1.2) an9 ahq
def Hf:cf G F (.BS i):= .gg λX hC st h=>by
 refine mr (eX (st:=st) h) λx px v pos ak hb=>?_;subst ak;rw[aae,aae,decide_eq_true_eq]at hb;obtain⟨⟨h1,h2⟩,h3⟩:=hb;refine kI (lE h3) λks vs p zr h4=>?_;subst zr;rw[aae,adT,adT]at h4;obtain⟨rfl,rfl⟩:=h4;exact Mm hC.nd h1 aCB an9
def MC:cf G F (.upd i e):= .gg λX hC st h=>by
 refine eO (fR (st:=st) h) λex pos zr h=>Jx (dY h) λo m ap as cp aN h=>aa (bP h) λv cV h=>eO (cL h) λx px nQ dj=>?_;subst zr aN cV nQ;simp only[aae,decide_eq_true_eq]at dj;obtain⟨⟨⟨⟨⟨⟨h1,h2⟩,h3⟩,rfl⟩,h4⟩,h5⟩,h6⟩:=dj;exact QM hC.ct.units hC.ct.calm h1 aCq (b7 h3).1 (b7 h3).2 h4 ana h6
def MD:cf G F (.ext i e):= .gg λX hC st h=>by
 refine eO (fR (st:=st) h) λex pos zr h=>Jx (dY h) λo m ap as cp aN h=>aa (bP h) λv cV h=>eO (cL h) λx px nQ dj=>?_;subst zr aN cV nQ;simp only[aae,decide_eq_true_eq]at dj;obtain⟨⟨⟨⟨⟨⟨h1,h2⟩,h3⟩,rfl⟩,h4⟩,h5⟩,h6⟩:=dj;exact QJ h1 aCq (b7 h3).1 (b7 h3).2 h4 ana h6
def QV{X:Cx}{e:Expr}{i:Nat}(hv:PE X e (c9 i))(he:∀whole,isTrue e X.env whole=(do let v<-whole;standAt e.pos;holding [v] at7)):PT X e (tB X.K λρ=>((gw ρ i).map λxs=>D.bl !xs.isEmpty).bind fE):=
 (nh hv he).weak λσ H Q ⟨O,ρ,k,hx,hd,q⟩=>by
  obtain⟨d,h1,h2⟩:=bind_some hd;obtain⟨xs,h3,rfl⟩:=map_some h1;cases h2;obtain⟨o,h4⟩:=uU h3;obtain⟨v,h5,h6⟩:=hx.kK i o _ h4;have h7:∃a vs,ajy/\cO X.K H a vs/\au X.K O H vs xs:=by
   cases o with
   |true=>
    obtain⟨a,rfl,_,c⟩:=h6;obtain⟨vs,e1,e2⟩:=c.lst;exact⟨a,vs,rfl,cO.of e1,e2⟩
   |false=>exact bz.lst_inv h6
  obtain⟨a,vs,rfl,e1,e2⟩:=h7;refine⟨ac_,h5,!vs.isEmpty,.inl ⟨vs,e1,rfl⟩,?_⟩;have:(!vs.isEmpty)=!xs.isEmpty:=by cases e2<;>rfl
  rw[this];exact q H ad1
def AR(hb:cf G F b):cf G F (.nH i b):= .gg λX hC st h=>by
 cases st with
 |While x a o pos=>
  change (o.isEmpty&&c7 X.N X.env.scope i x&&gH G b X.N X.env.scope a)=true at h;simp only[aae]at h;obtain⟨⟨h0,h1⟩,h3⟩:=h;cases o with
  |cons _ _=>exact ff h0
  |nil=>
   refine kH (bQ h1) λy q ak n1 n2 n3 n4=>?_;subst ak;exact yH hC.pass (QV ahq λ_=>rfl) (axu h3) fF
 |_=>exact ff h
def Hg:cf G F (.expr e):= .gg λX hC st h=>by
 refine eO (fR (st:=st) h) λx pos zr h=>kI (lC h) λf a p aN h=>?_;subst zr aN;refine(jC ((snd e).e X hC.ct _ h true) rfl).weak λD' σ H zz=>mY zz λH₀ ab Z kv kd ow ρ out hx hd k=>aa af4 λd e1 zr=>?_;subst zr;exact⟨af0,ρ,d,hx.ex,e1,λv H1 s1 r1=>k ow σ H1 aho⟩
def Hh:cf G F (.zQ i k e):= .gg λX hC st h=>by
 refine kI (kg (st:=st) h) λJa v pos zr h=>aa (bP h) λt aN h=>kI (kf h) λo ix sp cV dj=>?_;subst zr aN cV;simp only[aae,aev]at dj;obtain⟨⟨⟨⟨h1,h2⟩,h3⟩,h4⟩,h5⟩:=dj;refine kH (bQ h1) λx q ak n1 n2 n3 n4=>?_;subst ak;exact Ml hC.ct.units n1 n2 n3 n4 ((snd k).e X hC.ct _ h2 false) ((snd e).e X hC.ct v h4 false) (λt=>oA h5)
def DF(h:Dq N sc y e=true):∃x px ap cp,e= .Call (.Attribute ahs "pop" ap) [] [] cp/\N[y]?=some x/\wX sc x/\aik/\(x==("__classdict__":Str))=false/\apk:=by
 refine Jx (dY h) λe2 nm ap as cp zr dj=>?_;subst zr;simp only[aae,decide_eq_true_eq,adT]at dj;obtain⟨⟨⟨rfl,rfl⟩,h1⟩,h2⟩:=dj;refine kH (bQ h1) λx q ak n1 n2 n3 n4=>?_;subst ak;exact⟨x,q,_,cp,rfl,n1,n2,n3,n4,h2⟩
def ME:cf G F (.pop i j):= .gg λX hC st h=>by
 refine mr (eX (st:=st) h) λx px v pos ak hb=>?_;subst ak;replace h:=hb;simp only[aae,decide_eq_true_eq]at h;refine EY (DF h.2) λy q ap cp cV n1 n2 n3 n4 n5=>?_;subst cV;exact QI hC.nd h.1.1 (fx h.1.2) an9 ahq rfl n5
def Ji(hC:ag9)(h:GV G x f X.N X.env.scope e ok=true)(hw:∀w,ok w=true->PE X w tw):∃n:Nat,(∀ds d,aqD->ds.length=n)/\PE X e (Mr X.K n (F f) (cX (c9 x) (cX tw ni)))/\gh e=false/\axU:=by
 refine mr (g_ h) λn pn as cp zr h=>eO (LY h) λe1 w aN dj=>?_;subst zr aN;simp only[aae,decide_eq_true_eq]at dj;obtain⟨⟨⟨⟨⟨h1,h2⟩,h3⟩,h4⟩,h5⟩,h6⟩:=dj;refine kH (bQ h4) λy q ak n1 n2 n3 n4=>?_;subst ak;exact EY (hC.call f n h1) λk fa fd ps g5 g6 g7 g8 g9 Px=>⟨ps.length,Px,Cu g5 g6 (eY h2) g7 g8 g9 (b_ ahq (b_ (hw w h5) dm (bL h6)) rfl) (b7 h3).1 rfl (by rw[bL h6];rfl),rfl,rfl⟩
def MF{st:Stmt}(h:I_ G x p q u N sc st=true):∃e1 pe qe e p1 p2 p3,st= .Assign [.Subscript (.Subscript e1 pe p1) qe p2] e p3/\(c7 N sc x e1&&bM G p N sc pe&&cc pe&&bM G q N sc qe&&cc qe&&bM G u N sc e&&!gh e)=true:=by
 exact kI (kg h) λJa e p3 z h=>aa (bP h) λo z2 h=>kI (kf h) λo2 qe p2 z3 h=>kI (kf h) λe1 pe p1 z4 h=>⟨e1,pe,qe,e,p1,p2,p3,by rw[z,z2,z3,z4],h⟩
def MG{st:Stmt}(h:Qz G x y g w N sc st=true):∃e2 m ap v cp pos,st= .Expr (.Call (.Attribute e2 m ap) [v] [] cp) pos/\(c7 N sc y e2&&decide (m="extend")&&agG&&bc v&&GV G x g N sc v (bM G w N sc))=true:=by
 exact eO (fR h) λe p z h=>Jx (dY h) λo m ap as cp z2 h=>aa (bP h) λv z3 h=>⟨o,m,ap,v,cp,p,by rw[z,z2,z3],h⟩
def QW(hC:Cs X G F){st:Stmt}(h:Qy G x fr it k v X.N X.env.scope st=true):PS X st (pG (p9 1 fr (tI X.K true (nG F true it)) (cQ 0) (tB X.K λ_=>at8) atN) (cQ x)):=by
 refine mr (eX h) λa pa e pos zr dj=>?_;subst zr;rw[aae,aae,decide_eq_true_eq]at dj;obtain⟨⟨h1,h2⟩,GU⟩:=dj;refine mr (yx GU) λel gs iD lp zr h=>kI (lE h) λks vs dp aN h=>aa (bP h) λko cV h=>aa (qz h) λke nQ h=>aa (bP h) λve Qk h=>aa (bP h) λg Ql UZ=>?_;obtain⟨sY,iter,fs,kk⟩:=g;refine eO (cL UZ) λn q NA WV=>?_;change sY=_ at NA;subst zr aN cV nQ Qk Ql NA;simp only[aae,decide_eq_true_eq,adT]at WV;obtain⟨⟨⟨⟨⟨⟨rfl,rfl⟩,h3⟩,h4⟩,h5⟩,h6⟩,h7⟩:=WV;refine cY (sq h4) λS US nd=>have hl:=US _ aal;?_;have parts:∀cl C U s H ex,azD/\zL agW [] (tB X.K λ_=>at8)/\PE agW (avL [ve]) atN:=λcl C U s H ex=>by
  have ND:=hC.ct.inner iD cl C aAY U s H ex;refine⟨awt,C4,F_ ?_ ((snd k).e _ ND ke h6 false) ((snd v).e _ ND ve h7 false)⟩;have:=ND.units;exact s_ this aa2
 by_cases hs:swapsWith (.ListComp (avL [ve]) [⟨.Name n q,iter,[],0⟩] iD lp) (ajU (.Name a pa)) pos.line X.env=pure false
 .exact gL hC.nd h1 aCB (xj alS S hC.ct.calm R9 parts (dP h3)) hs aA4
 .have e0:=yL hs;exact nB alS S hC.ct.calm R9 parts (dP h3) hC.nd h1 e0.1 e0.2
def MH(h1:cf G F c1)(h2:cf G F c2)(h3:cf G F c3):cf G F (.fst x fr it k v c1 y r f c2 m c3 p q u g w) where
 s:=λX hC st h=>ff h
 ss:=λX hC vE h=>by
  refine vG (Mb h) λs1 s2 s3 s4 ak o1 o2 oW oR=>?_;subst ak;refine Rv (GX oW) λe2 sr s5 sI wp aN o3 o4 o5 oI=>?_;subst aN;refine Rv (GW oI) λem s6 ss se ip cV o6 o7 o8 o9=>?_;subst cV;refine eO (GY oR) λe1 rp nQ ZC=>?_;subst nQ;refine kH (bQ o3) λyn yq Qk y1 y2 y3 y4=>?_;subst Qk;refine kH (bQ o6) λmn mq Ql m1 m2 m3 m4=>?_;subst Ql;refine kH (bQ ZC) λxn xq NA x1 x2 x3 x4=>?_;subst NA;have Pr:∃n1,(∀ds d,aqD->aCI)/\awR:=by
   refine mr (eX (st:=sr) o4) λxr pr e pos UE hb=>?_;subst UE;replace o4:=hb;simp only[aae,decide_eq_true_eq]at o4;obtain⟨n,g1,g2,g3,_⟩:=Ji hC.ct o4.2 (tw:=Ha y) λw hw=>by
    refine EY (DF hw) λyy q ap cp LI n1 n2 n3 n4 n5=>?_;subst LI;exact Dv ahq rfl n5
   exact⟨n,g1,gL hC.nd o4.1.1 (fx o4.1.2) g2 (oA g3) aA4⟩
  refine aa Pr λn1 QQ Pr=>?_;have Ps:PS X ss (xo (Ip (Fm X.K) (c9 x) (ajQ (ajT p))) (ajQ (ajT q)) (ajQ (ajT u))):=by
   obtain⟨e1,pe,qe,e,p1,p2,p3,rfl,WW⟩:=MF o8;simp only[aae,aev]at WW;obtain⟨⟨⟨⟨⟨⟨t1,t2⟩,t3⟩,t4⟩,t5⟩,t6⟩,t7⟩:=WW;refine kH (bQ t1) λxx q' LJ n1 n2 n3 n4=>?_;subst LJ;exact xp (by have:=hC.ct.units;exact s_ this aa2) (IA xg ahq ((snd p).e X hC.ct _ t2 false) (ot t3)) ((snd q).e X hC.ct _ t4 false) ((snd u).e X hC.ct _ t6 false) (oA t7)
  have Pe:∃n2,(∀ds d,aBi->aCH)/\PS X se (w_ (RG X.K "list" (Cv X.K) (c9 y) (cX (Mr X.K n2 (F g) (cX (c9 x) (cX (ajQ (ajT w)) ni))) ni))):=by
   obtain⟨e2,m,ap,v,cp,pos,rfl,WX⟩:=MG o9;simp only[aae,decide_eq_true_eq]at WX;obtain⟨⟨⟨⟨t1,rfl⟩,t3⟩,t4⟩,t5⟩:=WX;refine kH (bQ t1) λyy q' LK n1 n2 n3 n4=>?_;subst LK;exact ED (Ji hC.ct t5 (tw:=tV X.K false (ajT w)) λwe hw=>(snd w).e X hC.ct we hw false) λn g1 g2 _ _=>⟨n,g1,jC (xi acI afz afA Cw ahq (b_ g2 dm (bL t4)) rfl (by rw[bL t4];rfl) t3 (bL t4) rfl) rfl⟩
  exact aa Pe λn2 QR Pe=>QT hC.pass QQ QR (QW hC o1) (h1.s X hC s2 o2) (nh (bD y1 y2 y3 y4) λ_=>rfl) Pr (h2.s X hC s5 o5) (nh (bD m1 m2 m3 m4) λ_=>rfl) (h3.s X hC s6 o7) Ps Pe (bD x1 x2 x3 x4) fF
def U6(c:C):cf G F c:=by
 induction c with
 |skip=>exact Hb
 |seq a b ha hb=>exact Mu ha hb
 |asg i e=>exact Mv
 |bY i e=>exact Hc
 |jM i ix e=>exact Hd
 |app i e=>exact Mw
 |ret e=>exact Mx
 |ifs c t u ht hu=>exact My ht hu
 |«while» c b hb=>exact DC hb
 |«for» is tg it b hb=>exact MA hb
 |v5 i t es=>exact He
 |zQ i k e=>exact Hh
 |pop i j=>exact ME
 |raise k=>exact DE
 |OK i j=>exact MB
 |BS i=>exact Hf
 |upd i e=>exact MC
 |ext i e=>exact MD
 |expr e=>exact Hg
 |nH i b hb=>exact AR hb
 |fst x fr it k v c1 y r f c2 m c3 p q u g w h1 h2 h3=>exact MH h1 h2 h3
end
structure DG(K:aE)(mg:Str->af9)(G:GT)(x:Str)(d:Fd):Prop where
 ex:∃(st:Stmt) (fa:Addr) (fd:akq) (N ps:ae1),IB K x x st fa fd/\iq N ps asE/\anO/\aAE/\avS/\ps.length=d.par/\N.length=d.kK
def DH{K:aE}(hO:∀a,O a->∃u,al6/\uK u)(r:ac7)(h1:ds.length=d.par)(h2:N.length=d.kK):SX K H O (λ_=>False) [] [] (λ_=>none) aoT H aCR:=by
 have hl:=r.length;have sub:∀a,Os O (λ_=>none) a->O a:=λa z=>z.elim id λ⟨_,z⟩=>nomatch z;have nm:∀(i:Nat) (o:Bool) (dd:D),(aw d ds)[i]?=some (ajU (o,dd))->o=false/\ds[i]?=some dd:=λi o dd hi=>by
  unfold aw at hi;by_cases bj:i<ds.length
  .rw[abp (by simpa using bj),aau]at hi;refine aa (akG hi) λy e1 e2=>?_;cases e2;exact⟨rfl,e1⟩
  .rw[abt (by simpa using bj),afD]at hi;split at hi<;>cases hi
 refine⟨⟨λa ha=>hO a (sub a ha),λi o dd hi=>?_⟩,λi dd hi=>?_,λi j a h _=>(nomatch h),λi a h=>(nomatch h),ad1,.nil,λa ha=>let ⟨us,e,_⟩:=hO a ha;⟨_,e⟩,?_⟩
 .obtain⟨rfl,e⟩:=nm i o dd hi;refine aa (r.get e) λv e1 e2=>⟨v,?_,bz.weak e2 sub⟩;unfold L2.start;have bj:atk:=(aax.mp e1).1;rw[abp (by simpa using bj),aau,e1];rfl
 .exact absurd (nm i true dd hi).1 aa2
 .unfold aw L2.start;simp only[aan,aad,adz];lia
def yM(P:ad2)(w:World)(K:aE)(mg:Str->af9)(base:Heap)(G:GT)(T:List Fd)(n:Nat):Prop:=
 ∀(f:Nat) (x:Str),G.1[f]?=some x->∃(fa:Addr) (fd:akq) (ps:ae1),jE P w K mg base zJ n fa fd ps (yr K ps.length awp)/\aAE/\azC/\anO/\∀ds d,run T n f ds=some d->ds.length=ps.length
section
variable {P:ad2}{w:World}{K:aE}{mg:Str->Option Value}{base:Heap}{G:GT}{T:List Fd}
def uX(hT:T[f]?=some d)(z:run T (n+1) f ds=some r):ds.length=d.par/\out (ex atc d.body aCR)=some r:=by
 unfold run at z;rw[hT]at z;dsimp only at z;split at z
 .rename_i q;exact⟨q,z⟩
 .cases z
def DI{st:Stmt}(hb:∀x∈jr,mg x=none)(tM:∀(x:Str) (i:Int),asQ->∃t,avi)(ih:aBH)(F:IB K x x st fa fd)(S:iq N ps asE)(hT:T[f]?=some d)
  (ok:avS) (l1:ps.length=d.par) (l2:N.length=d.kK):jE P w K mg base zJ (n+1) fa fd ps atM:=by
 refine F.ok S (λvs H Q E z=>?_) (λfA A outer s H vs Q E hr z=>?_)
 .exact vx z λ_ _ _ _ _ _ q _=>q
 .refine vx z λO ds r hO hR Qs hl k=>?_;obtain⟨q1,q2⟩:=uX hT Qs;have U7:Cs (vO zJ P w K mg base N x asE fa fA A outer s H E).N7 G atc:=by
   refine⟨⟨rfl,hr.units,hb,tM,λg y hy=>?_⟩,λ_=>rfl,S.nd,PassesOwn.never⟩;exact vx (ih g y hy) λga gd ZD G1 G2 G3 G4 G5=>⟨n,ga,gd,ZD,G1,hr,G2,G3,G4,G5⟩
  cases eo:ex atc d.body aCR with
  |none=>rw[eo]at q2;cases q2
  |some o=>
   rw[eo]at q2;refine⟨tC K (ex atc d.body),(U6 d.body).ss _ U7 _ ok,H,O,λ_=>False,[],[],λ_=>none,aCR,o,DH hO hR q1 l2,eo,?_⟩;cases o with
   |ret dd=>cases q2;exact k
   |next ρ'=>cases q2;exact λow σ H' xP=>k .cv H' xP.same .cv
   |brk _=>cases q2
   |cont _=>cases q2
def wK(P:ad2)(w:World)(K:aE)(mg:Str->af9)(base:Heap)(G:GT)(T:List Fd)(f:Nat)(x:Str):Prop:=
 ∃(fa:Addr) (fd:akq) (ps:ae1),aAE/\azC/\anO/\(∀n ds d,run T n f ds=some d->ds.length=ps.length)/\
  ∀n,(∀m,m<=n->aBI)->jE P w K mg base zJ (n+1) fa fd ps atM
def DG.step(hb:∀x∈jr,mg x=none)(tM:∀(x:Str) (i:Int),asQ->∃t,avi)(hT:T[f]?=some d)(h:DG K mg G x d):azZ:=by
 obtain⟨st,fa,fd,N,ps,F,S,B,m,ok,l1,l2⟩:=h;refine⟨fa,fd,ps,m,F.kp,B,λn ds r z=>?_,λn ih=>?_⟩
 .cases n with
  |zero=>exact nomatch z
  |succ n=>exact(uX hT z).1.trans l1.symm
 .exact DI hb tM (ih n ad0) F S hT ok l1 l2
def Hi(h:∀(f:Nat) (x:Str),G.1[f]?=some x->azZ)(n:Nat):aBH:=by
 have all:∀n m:Nat,m<=n->aBI:=by
  intro n;induction n with
  |zero=>
   intro m hm f x hx;obtain rfl:m=0:=(Nat.eq_zero_of_le_zero hm);refine vx (h f x hx) λfa fd ps mm kp B l _=>?_;have no:∀vs H Q E,¬yr K ps.length (run T 0 f) vs H Q E:=λvs H Q E z=>by
    refine Ru z λ_ _ _ _ _ z _=>?_;cases z
   exact⟨fa,fd,ps,⟨λvs H Q E z=>aBV,λA outer s H args us vs Q E _ _ _ _ z=>aBV⟩,mm,kp,B,λds d z=>nomatch z⟩
  |succ n ih=>
   intro m hm;by_cases he:m=n+1
   .subst he;intro f x hx;exact vx (h f x hx) λfa fd ps mm kp B l st=>⟨fa,fd,ps,st n ih,mm,kp,B,l (n+1)⟩
   .exact ih m (aaU (acB hm he))
 exact all n n ad0
end
def MI{K:aE}(h:∀ns:aa0,ns.length<=m->az4)(H:Hp)(a:Addr)(ns:aa0)(hl:ns.length<=m)(hS:aCL):
  yr K 1 awp [ac_] H (λv _=>axD) λ_ _ _=>False:=by
 refine⟨λ_=>False,[aid],ag4,λ_ z=>z.elim,.cons ?_ .nil,h ns hl,rfl,λv H' _ r=>r.wF⟩;rcases hS with hS|hS
 .exact .lst hS id (fN ns)
 .exact .mod hS (fN ns)
def QX{l:ax7}{K:Params->aE}(hn:l.most=some 63)(Oz:asB)(ZF:n<=65)
  (hY:∀(w:World) (h:Heap),YP w h->aqc)
  (F:∀(w:World) (mg:Str->af9) (fa:Addr) (h:Heap),aqc->aoC->aua->
   ∃fd:akq,(∀(s:ab_) (u:Value),amC)/\∀base:Heap,(K w.params).In base->amT->jE l.prog w aq9 mg base zJ n fa fd [x] (yr aq9 1 awp))
  (hT:∀ns:aa0,ns.length<=63->az4):
  PySem.W.WalkO q loose XP YP l.row.toRowW d [] (λf vs=>ax4):=
 L2.Fp (n:=63) (k:=n) (x:=x) (CX:=λ_=>zJ) (sp:=λw=>yr aq9 1 awp) hn aa2 Oz (fg.mono (k:=65) ⟨rfl,by decide,by decide⟩ ZF) hY F (λw H a ns hl _ hS=>MI hT H a ns hl hS) λ_ _ _ _ _ z=>z
def QY(h:l.length=1):∃a,l=[a]:=by
 cases l with
 |nil=>cases h
 |cons a l=>cases l with
  |nil=>exact⟨a,rfl⟩
  |cons _ _=>cases h
def QZ(h:l.length=2):∃a b,l=[a,b]:=by
 cases l with
 |nil=>cases h
 |cons a l=>
  obtain⟨b,rfl⟩:=QY (age h);exact⟨a,b,rfl⟩
def U8(h:l.length=3):∃a b c,l=[a,b,c]:=by
 cases l with
 |nil=>cases h
 |cons a l=>
  refine EW (QZ (age h)) λb c ak=>?_;subst ak;exact⟨a,b,c,rfl⟩
end Py
namespace Py
noncomputable abbrev vf(d:D):aa9:=some (false,d)
noncomputable abbrev E.ci(i:Int):E:=.c agF
noncomputable abbrev E.o(a:E):E:=.cons a .nil
noncomputable def ic:Fd:=⟨2,2,(.seq (.ifs (.cmp .Lt ae6 ahb) (ajP (akL aso)) .skip) (ajP (akL amL)))⟩
noncomputable def oD(g:Nat):Fd:=⟨2,3,(.seq (axA ahz) (ajP (akL (aAw (.bin .Add (.bin .Add (at1 aib) (at1 (.ci 7))) ae6)))))⟩
noncomputable def iG:Fd:=⟨2,3,(.seq (axA ahX) (ajP (akL (aAw (.bin .Add (.bin .Add (at1 aib) (at1 (.ci 3))) ae6)))))⟩
noncomputable def gn(ns:aa0):D:= .lst ay2
noncomputable def cell(ns:aa0)(k:Nat):Int:=ns[k]?.getD 0
noncomputable def Hj(c k:Int):Int:=(c+7919*k+1)*48271%2147483647
noncomputable def Bi(ns:aa0)(k:Nat):Int:=(Hj alM k*Hj alM k+7*Hj alM k+k)%2147483629
noncomputable def sD(a k:Int):Int:=(a+104729*k+17)*69621%2147483647
noncomputable def drawn(a k:Int):Int:=(sD a k*sD a k+3*sD a k+k)%2147483629
def DJ(a k:Int):0<=drawn a k:=acA _ aa2
def cI(h:T[f]?=some d)(hl:xs.length=d.par):run T (n+1) f xs=out (ex atc d.body (aw d xs)):=by
 rw[run,h];exact aav hl
def cS(h:aq0):ex F ayM ρ=some (ajW ai3):=by
 rw[TX,h];rfl
def ae(h1:aqr)(h2:F f xs=some d)(h3:arJ):ev F b ao0 ρ=some d:=by
 rw[ON,h1];show(F f xs).bind _=_;rw[h2];show(if(rj ρ es&&!aG d)=true then none else some d)=_;rw[h3];rw[Bool.and_comm];rfl
section
variable {F:FT}{ρ:Env}{b:Bool}
def sE(h:ex F a ρ=some aq3):ex F (azV a) ρ=ex F c ρ':=by
 rw[zR,h];rfl
def MJ(h:ex F a ρ=some asH):ex F (azV a) ρ=some asH:=by
 rw[zR,h];rfl
def Bj(h1:anm)(h2:aCF):ev F b (aDK o) ρ=bin o x y:=by
 rw[TN,h1,h2];rfl
def DK(h1:amn)(h2:aoD)(hj:0<j):ev F b (aDK .Mod) ρ=some (amh (i%j)):=(Bj h1 h2).trans (aav hj)
def Sh(h0:ev F true ac3 ρ=some agF)(h1:ev F true ae6 ρ=some (amh j))(hj:0<j)(hk:0<k/\k<1073741824):ev F b (amQ (amS (.ci k))) ρ=some (amh (i/k%j)):=DK ((Bj h0 (y:= .int k) rfl).trans (aav hk)) h1 hj
def EU(h1:amn)(h2:aoD):ev F b (aDK .Add) ρ=some aCT:=Bj h1 h2
def Jj(h1:amn)(h2:aoD)(m:axN):ev F b (aDK .Mult) ρ=some (amh (i*j)):=(Bj h1 h2).trans (aav m)
def vF(h1:anm)(h2:aCF)(h3:cmp o x y=some k):ev F b (.cmp o a c) ρ=some (.bl k):=by
 rw[KL,h1,h2];show(cmp o x y).map D.bl=_;rw[h3];rfl
def iH(h:arD):out (ex F (.seq (akL e) t) ρ)=some d:=by
 rw[zR,KS,h];rfl
def qH(h:k<n):place n k=some k:=(aav akT).trans (aav (adh.mpr h))
def kl(h:aAb):ex F aBt ρ=some aq4:=by
 rw[KR,h];rfl
def xA(h:aq0)(k:ex F c ai3=r):ex F (azV ayM) ρ=r:=(sE (cS h)).trans k
def xB(h:aAb)(k:ex F c (ajS agN)=r):ex F (azV aBt) ρ=r:=(sE (kl h)).trans k
def xG(h:ex F a ρ=some aq3)(k:ex F c ρ'=r):ex F (azV a) ρ=r:=(sE h).trans k
def xN(h:ev F false e ρ=some ayh)(k:ex F c ρ=r):ex F (azV (.ifs e t .skip)) ρ=r:=xG (by rw[tW,h];rfl) k
def xY(h:aAc)(k:ex F t ρ=some aq3)(k':ex F c ρ'=r):ex F (azV (.ifs e t u)) ρ=r:=xG (by rw[tW,h];exact k) k'
def xZ(h:aAc)(k:ex F t ρ=some asH):ex F (azV (.ifs e t u)) ρ=some asH:=MJ (by rw[tW,h];exact k)
def xR(h:arD):ex F (azV (akL e)) ρ=some asH:=MJ (by rw[KS,h];rfl)
def xO(h:T[f]?=some fd)(hl:xs.length=fd.par)(k:ex atc fd.body (aw fd xs)=some asH):run T (n+1) f xs=some d:=by
 rw[cI h hl,k];rfl
def ZG(h:axh):ev F b (.not a) ρ=some (.bl !k):=by
 rw[OM,h];rfl
def ZH(h1:amn)(h2:ev F true c ρ=some agP)(hk:0<k/\k<1073741824):ev F b (aDK .FloorDiv) ρ=some (amh (i/k)):=(Bj h1 h2).trans (aav hk)
def ZI(h1:ev F true o ρ=some x)(h2:aqr)(h3:fj m x xs=v):ev F b (.fj m o es) ρ=v:=by
 rw[TQ,h1,h2];exact h3
def U9(h1:anm)(h2:ev F false e ρ=some y)(h3:item x y=v):ev F b (.idx a e) ρ=v:=by
 rw[KP,h1,h2];exact h3
def DL(h1:anm)(h3:prim p [x]=v):ev F b (.prim p (.o a)) ρ=v:=by
 rw[Fw,me,h1];exact h3
def ZJ(h:aBP)(h2:ev F false c ρ=some y):ev F b (akb avz) ρ=some (akb [x,y]):=by
 rw[KO,me,h,me,h2];rfl
def WY(h1:gv ρ i=some q)(h2:aBP)(h3:(c_ q.1 x).bind (iU q.2.1 q.2.2)=v):ev F b (.nD i a) ρ=v:=by
 rw[TV,h1,h2];exact h3
def gz(h:ex F c (put ρ i false x)=some aq3):aL (λx ρ=>(aB 0 x).bind λys=>(cF ρ [i] ys).bind λρ'=>ex F c ρ') (x::r) ρ=aL (λx ρ=>(aB 0 x).bind λys=>(cF ρ [i] ys).bind λρ'=>ex F c ρ') r ρ':=by
 rw[aL];show(ex F c (put ρ i false x)).bind _=_;rw[h];rfl
def ZK(h:ev F false a ρ=some d):ev F b (akb (.o a)) ρ=some (akb [d]):=by
 rw[KO,me,h];rfl
def ZL(h:ev F false a ρ=some (.bl !k)):ev F b (.BP k aor) ρ=some (.bl !k):=by
 rw[KN,Fx,h];cases k<;>rfl
def ZM(h:axh)(h2:ev F b (.BP k r) ρ=v):ev F b (.BP k aor) ρ=v:=by
 rw[KN,Fx,h];exact(congrArg (aw9 D.bl) aC1).trans h2
end
def Hk(ns:aa0)(k:Nat):out (ex F ic.body (anI ic))=some aA0:=by
 have hl:(ns.map D.int).length =ns.length:=aad ..;have t:ev F false (.cmp .Lt ae6 ahb) (anI ic)=some (.bl (aB5 ((k:Int)<((ns.map D.int).length :Nat)))):=vF (x:= .int k) (y:= .int ((ns.map D.int).length :Nat)) rfl rfl rfl;rw[hl]at t;by_cases h:k<ns.length
 .rw[decide_eq_true (adh.mpr h)]at t;refine congrArg out (MJ (d:= .int alM) ?_);rw[tW,t];have i:ev F true aso (anI ic)=some aA0:=by
   show(place (ns.map D.int).length k).bind (λj=>(ns.map D.int)[j]?)=_;rw[qH (hl.symm▸h)];show(ns.map D.int)[k]?=_;rw[aau,cell,aac h];rfl
  show ex F (ajP (.ret _)) _=_;rw[zR,KS,i];rfl
 .rw[decide_eq_false λz=>h (adh.mp z)]at t;refine(congrArg out (sE (ρ':=aw ic [gn ns,agP]) ?_)).trans ?_
  .rw[tW,t];rfl
  .rw[cell,aaH (aaS h)];rfl
def mR(i:Int)(h1: -(2 ^ 64)<j)(h2:j<2 ^ 64):axN:=agu.mpr (amY aof)
def mT(j:Int)(h1: -(2 ^ 64)<i)(h2:i<2 ^ 64):axN:=agu.mpr (akf aof)
def Jk(hm:0<m/\m<2 ^ 64):nE (n%m) (n%m)=true:=mR _ (Int.lt_of_lt_of_le aa2 (acA _ (aeA hm.1))) (Int.lt_trans (acn _ hm.1) hm.2)
def MK(ns:aa0)(k:Nat)(hk:k<1000)(hF:F g [gn ns,agP]=some aA0):out (ex F (oD g).body aAZ)=some awJ:=by
 have c1:ev F true (apc g) aAZ=some aA0:=ae (xs:=[gn ns,agP]) rfl hF rfl;have a2:ev F false ahz aAZ=some (amh (Hj alM k)):=
  DK (Jj (EU (akx c1) rfl) rfl (mR _ aa2 aa2)) rfl aa2
 exact(congrArg out (sE (cS a2))).trans ako
def DM(a k:Int):out (ex F iG.body (aw iG [as4,agP]))=some amF:=by
 have a2:ev F false ahX (aw iG [as4,agP])=some (amh (sD a k)):=
  DK (Jj (EU (akx rfl) rfl) rfl (mR _ aa2 aa2)) rfl aa2
 exact(congrArg out (sE (cS a2))).trans ako
noncomputable def perms:Nat->List aa0
 |0=>[[]]
 |n+1=>(perms n).flatMap λp=>(List.range (n+1)).map λk=>p.take k++(n:Int)::p.drop k
def qI(h:ahk)(hk:k<=n):p.take k++(n:Int)::p.drop k∈perms (n+1):=
 abn.mpr ⟨p,h,aao.mpr ⟨k,aaY.mpr (abr hk),rfl⟩⟩
theorem aC:∀{n:Nat}{p:aa0},ahk->p.length=n
 |0,p,h=>by
  cases aak.mp h;rfl
 |n+1,p,h=>by
  refine aa (abn.mp h) λq hq h=>aa azh λk hk ak=>?_;subst ak;have:=aC hq;have wz:=aaY.mp hk;rw[aan,abS,aaF,adn];exact NP this wz
noncomputable def tp(p:aa0):D:= .tup aiG
def wL{xs:ac1}:∀{p:aa0},aJ xs=some p->xs=p.map .int :=by
 induction xs with
 |nil=>intro p h;cases h;rfl
 |cons x r ih=>
  intro p h;cases x with
  |int i=>
   have h:(aJ r).map (i:: ·)=some p:=h;cases e:aJ r with
   |none=>rw[e]at h;cases h
   |some q=>
    rw[e]at h;cases h;rw[ih e];rfl
  |_=>cases h
noncomputable def ML(n:Nat):ahN->Bool
 |some (.tup xs)=>match aJ xs with
  |some p=>(perms n).contains p
  |none=>false
 |_=>false
def yN(h:ML n o=true):∃p∈perms n,o=some (tp p):=by
 cases o with
 |none=>cases h
 |some d=>cases d with
  |tup xs=>
   cases e:aJ xs with
   |none=>
    have h:(match aJ xs with|some p=>(perms n).contains p|none=>false)=true:=h;rw[e]at h;cases h
   |some p=>
    have h:(match aJ xs with|some p=>(perms n).contains p|none=>false)=true:=h;rw[e]at h;exact⟨p,List.contains_iff_mem.mp h,by rw[wL e];rfl⟩
  |_=>cases h
noncomputable def DN:C:=(.seq (.jM 2 amW aia) (.seq (.jM 2 aia amW) ah3))
noncomputable def MM:C:=(.seq (.for [7] 0 (.gJ (.u 5)) (ajP (.jM 2 (amQ (.bin .Add alb alI)) (amQ (.bin .Add alb (.bin .Mod (aDJ alI) (.var 5))))))) ah3)
noncomputable def Hl(g:Nat):C:=(.seq (.asg 9 alz) (ajP (.bY 8 aDx)))
noncomputable def lI(g:Nat):Fd:=⟨2,10,(.seq axq (.seq (.ifs (aj3 amL) (.seq (aB_ aCU) (.seq (aBG 4) DN)) .skip)
 (.seq (.ifs (aj3 akU) (.seq (.asg 5 (.bin .Add akU aCU)) (.seq (aBG 6) MM)) .skip)
 (.seq (arh 8) (.seq (.for [7] 0 ajE (Hl g)) (ajP (akL (aj0 (.u 8)))))))))⟩
noncomputable abbrev vi(i:Int):aa9:=vf agF
noncomputable abbrev vo(xs:ac1):aa9:=some (true,agN)
noncomputable def yO(a:Int)(s o1 o2:Nat):Env:=[vi a,vi s,vo aoU,vi o1,vi o2,none,none,none,none,none]
noncomputable def DO(a:Int)(s m o:Nat):Env:=[vi a,vi s,vo aoU,none,none,vi m,vi o,none,none,none]
set_option maxHeartbeats 0 in
def DP(F:FT)(a:Int):(List.range 6).all (λs=>(List.range (s+1)).all λo1=>(List.range (s+1)).all λo2=>ML (s+1) (out (ex F DN (yO a (s+1) o1 o2))))=true:=by kernel_rfl
set_option maxHeartbeats 0 in
def Hn(F:FT)(a:Int):(List.range 6).all (λs=>(List.range (s+1)).all λm=>(List.range (s+1)).all λo=>ML (s+1) (out (ex F MM (DO a (s+1) (m+1) o))))=true:=by kernel_rfl
def all_range(h:(List.range n).all f=true){k:Nat}(hk:k<n):f k=true:=abI.mp h k (aaY.mpr hk)
def Ho(F:FT)(a:Int)(h0:1<=s)(h6:s<=6)(h1:o1<s)(h2:o2<s):∃p∈perms s,out (ex F DN (yO a s o1 o2))=some (tp p):=by
 obtain⟨t,rfl⟩:∃t,s=t+1:=⟨s-1,(abc (adu h0))⟩;exact yN (all_range (all_range (all_range (DP F a) (k:=t) (h6)) h1) h2)
def MN(F:FT)(a:Int)(h0:1<=s)(h6:s<=6)(h1:m<s)(h2:o<s):∃p∈perms s,out (ex F MM (DO a s (m+1) o))=some (tp p):=by
 obtain⟨t,rfl⟩:∃t,s=t+1:=⟨s-1,(abc (adu h0))⟩;exact yN (all_range (all_range (all_range (Hn F a) (k:=t) (h6)) h1) h2)
def DQ(h:out o=some (tp p)):o=some aA6:=by
 cases o with
 |none=>cases h
 |some o=>cases o<;>cases h;rfl
noncomputable def ie(a s:Int)(x2:aa9)(made:aa0)(x7 x9:aa9):Env:=[vi a,vi s,x2,none,none,none,none,x7,vo (made.map .int),x9]
def uY(xs:ac1)(k:Nat)(h:k<=xs.length):Bb xs none (ajU (k:Int))=xs.take k:=by
 unfold Bb bound;simp only[adQ,Nat.sub_zero];congr 1;rw[aaC awN];exact NQ h
def uZ(xs:ac1)(k:Nat)(h:k<=xs.length):Bb xs (ajU (k:Int)) none=xs.drop k:=by
 unfold Bb bound;simp only;have e:(if(k:Int)<0 then max ((k:Int)+(xs.length:Int)) 0 else min (k:Int) (xs.length:Int)).toNat =k:=by
  rw[aaC awN];exact NQ h
 rw[e,abB ab5]
def DR(hF:anM)(hm:made∈perms k)(hk:k<=1000):
  ∃at'≤k,ex F (Hl g) aAC=some (ajW (ie a s x2 (made.take at'++(k:Int)::made.drop at') (vi k) (vi at'))):=by
 have AF:aoG:=rfl;have hl:=aC hm;have pW:(made.map D.int).length =k:=(aad ..).trans hl;have DD:(0:Int)<(k:Int)+1:=Int.add_le_add akT aa2;obtain⟨t,ht⟩:=aem (acA y (aeA DD));have U_:t<=k:=aaU (adh.mp (ht▸acn y DD));refine⟨t,U_,?_⟩
 let M:List D:=made.map .int
 let WZ:Env:=[vi a,vi s,x2,none,none,none,none,vi k,vo M,x9]
 let NH:Env:=[vi a,vi s,x2,none,none,none,none,vi k,vo M,vi t]
 have a9:ev F false alz WZ=some (amh t):=by
  have l1:ev F true (aDJ (.prim .len (.u 8))) WZ=some (amh ((k:Int)+1)):=(Bj (x:= .int M.length) (y:= .int 1) rfl rfl).trans (congrArg (λn:Nat=>some (D.int ((n:Int)+1))) pW);rw[DK (ae (xs:=[as4,agP]) rfl hF rfl) l1 DD,ht]
 have c1:ev F true (.sl (.var 8) .nil (.u 9)) NH=some (aj1 (M.take t)):=congrArg (λz=>some (D.lst z)) (uY M t (pW.symm▸U_));have c2:ev F true aoP NH=some (aj1 (M.drop t)):=congrArg (λz=>some (D.lst z)) (uZ M t (pW.symm▸U_));have z1:(M.take t).length+1<=k+1:=acD (aaf (List.length_take_le' t M) (aap pW));have b1:ev F true aiL NH=some (aj1 (M.take t++[agP])):=(Bj c1 (y:= .lst [agP]) rfl).trans (aav (aaf z1 (ajX (acD hk))));have b2:ev F false aDx NH=some atu:=(Bj b1 c2).trans (aav (by
  rw[aan];exact aaf (afm z1 (aaf (abO t M).length_le (aap pW))) (ajX (afm (acD hk) hk))))
 have e:ie a s x2 (made.take t++(k:Int)::made.drop t) (vi k) (vi t)=put NH 8 true atu:=by
  show _=[vi a,vi s,x2,none,none,none,none,vi k,vo _,vi t];rw[ie,aaM,aaK,afH,agC,aaL];rfl
 rw[e];exact(sE (ρ':=NH) (cS a9)).trans (sE (kl b2))
theorem u0(hF:∀k:Nat,∃y,anM):
  ∀(m k:Nat) (made:aa0) (x7 x9:aa9),made∈perms k->k+m<=1000->∃p∈perms (k+m),∃U' Va,aL (λx ρ=>(aB 0 x).bind λys=>(cF ρ [7] ys).bind λρ'=>ex F (Hl g) ρ') (bT k m) aqp=some (ajW (ie a s x2 p U' Va))
 |0,k,made,x7,x9,hm,_=>⟨made,hm,x7,x9,rfl⟩
 |m+1,k,made,x7,x9,hm,hk=>by
  obtain⟨y,hy⟩:=hF k;refine aa (DR (s:=s) (x2:=x2) (x7:=x7) (x9:=x9) hy hm (aaf alx hk)) λt ht e=>?_;obtain⟨p,hp,U',Va,e2⟩:=u0 (s:=s) (x2:=x2) hF m (k+1) _ (vi k) (vi t) (qI hm ht) (by lia);refine⟨p,by rw[show k+(m+1)=k+1+m by exact abc akS];exact hp,U',Va,?_⟩;rw[bT,aL];show(ex F (Hl g) aAC).bind _=_;rw[e];exact e2
def Hq(ha:0<=a)(h1:1<=s)(h6:s<=6)(hF:∀k:Nat,∃y,anM):∃p∈perms s,out (ex F (lI g).body aAX)=some (tp p):=by
 have hr:dw [agQ]=some aoU:=by
  show(if -(2 ^ 62)<=(s:Int)/\(s:Int)<=bX then some (bT 0 (s:Int).toNat) else none)=_;exact aav ⟨aaP _,Int.ofNat_le.mpr av1⟩
 have Jl:(0:Int)<s:=adh.mpr h1;obtain⟨o1,e1⟩:=aem (acA (a/3) (aeA Jl));obtain⟨o2,e2⟩:=aem (acA (a/18) (aeA Jl));have q1:o1<s:=adh.mp (e1▸acn (a/3) Jl);have q2:o2<s:=adh.mp (e2▸acn (a/18) Jl)
 let ES:Env:=[vi a,vi s,vo aoU,none,none,none,none,none,none,none]
 have s2:ex F axq aAX=some (ajW ES):=by
  rw[KR,OO];show((dw [agQ]).bind (rm .list)).bind _=_;rw[hr];rfl
 have t2:∀c:Int,ev F false (aj3 (.ci c)) ES=some (.bl (a%3==c)):=λc=>by
  rw[KL,DK (i:=a) (j:=3) rfl rfl aa2];rfl
 have go:∀{p:aa0}{c:Int}{t w:C},a%3=c->ex F t ES=some aA6->ex F arX ES=some aA6:=λ{p c t w} e h=>by
  refine MJ ?_;rw[tW,t2,beq_iff_eq.mpr e];exact h
 have no:∀{c:Int}{t w:C},¬a%3=c->ex F arX ES=ex F w ES:=λ{c t w} e=>by
  refine sE ?_;rw[tW,t2,beq_eq_false_iff_ne.mpr e];rfl
 by_cases c0:a%3=0
 .refine aa (Ho F a h1 h6 (o1:=o1) (o2:=o2) q1 q2) λp hp e=>⟨p,hp,congrArg out ((sE s2).trans (go c0 ?_))⟩;exact(sE (cS ((Sh rfl rfl Jl aa2).trans (congrArg (λz=>ane) e1)))).trans ((sE (cS ((Sh rfl rfl Jl aa2).trans (congrArg (λz=>ane) e2)))).trans (DQ e))
 .by_cases c1:a%3=1
  .refine aa (MN F a h1 h6 (m:=o1) (o:=o2) q1 q2) λp hp e=>⟨p,hp,congrArg out ((sE s2).trans ((no c0).trans (go c1 ?_)))⟩;refine(sE (cS (d:= .int ((o1+1:Nat):Int)) ?_)).trans ((sE (cS ((Sh rfl rfl Jl aa2).trans (congrArg (λz=>ane) e2)))).trans (DQ e));exact(Bj (x:= .int 1) rfl ((Sh rfl rfl Jl aa2).trans (congrArg (λz=>ane) e1))).trans (congrArg (λz=>ane) (Int.add_comm 1 (o1:Int)))
  .obtain⟨p,hp,x7,x9,e⟩:=u0 (a:=a) (s:=s) (x2:=vo aoU) hF s 0 [] none none aio (aaf (aap (abw s)) av1);rw[abw]at hp;refine⟨p,hp,congrArg out ((sE s2).trans ((no c0).trans ((no c1).trans ((sE (kl (xs:=[]) rfl)).trans ((sE (ρ':=ie a s (vo aoU) p x7 x9) ?_).trans (MJ ?_))))))⟩
   .rw[Fy];show(dw [agQ]).bind _=_;rw[hr];exact e
   .rfl
theorem sF:∀(n:Nat) (p:aa0),p.Nodup->(∀x∈p,0<=x/\x<n)->p.length<=n
 |0,p,_,h=>by
  cases p with
  |nil=>exact aam _
  |cons x r=>have:=h x aal;exact absurd this.2 (acd this.1)
 |n+1,p,nd,h=>by
  have h1:(p.erase (n:Int)).length <=n:=sF n _ (nd.sublist List.erase_sublist) λx hx=>by
   have h2:=h x (List.mem_of_mem_erase hx);have h3:x≠n:=λe=>by
    subst e;exact(List.Nodup.mem_erase_iff nd).mp hx |>.1 rfl
   exact Jz (And.intro h2.1 h2.2) h3
  by_cases hm:(n:Int)∈p
  .rw[aeb hm]at h1;exact XN (abr h1)
  .rw[List.erase_of_not_mem hm]at h1;exact afx h1
theorem ay:∀{n:Nat}{p:aa0},p∈perms n↔p.length=n/\p.Nodup/\∀x∈p,0<=x/\x<n
 |0,p=>by
  simp only[perms,aak];constructor
  .rintro rfl;exact⟨rfl,ads,λx h=>nomatch h⟩
  .rintro⟨h,_⟩;exact afI.mp h
 |n+1,p=>by
  constructor
  .intro h;refine aa (abn.mp h) λq hq h=>aa azh λk hk ak=>?_;subst ak;refine cY ayD λl nd bd=>?_;have wz:=aaY.mp hk;have Si:(q.take k++q.drop k).Nodup :=by rw[abR];exact nd
   have hn:(n:Int)∉q:=λz=>by have:=bd _ z;exact acd (adW this.2) this.2
   have nt:(n:Int)∉q.take k:=λz=>hn (acG z);have ZN:(n:Int)∉q.drop k:=λz=>hn (acF z);refine⟨by simp;exact NP l wz,?_,λx hx=>?_⟩
   .rw[aby]at Si⊢;refine⟨Si.1,aaW.mpr ⟨ZN,Si.2.1⟩,λa ha b hb=>?_⟩;rcases aat.mp hb with rfl|hb
    .exact λe=>nt (e▸ha)
    .exact Si.2.2 a ha b hb
   .rcases aay.mp hx with z|z
    .have:=bd x (acG z);exact And.intro this.1 (acW (adW this.2) (afJ _))
    .rcases aat.mp z with rfl|z
     .exact And.intro (aaP _) (afJ _)
     .have:=bd x (acF z);exact And.intro this.1 (acW (adW this.2) (afJ _))
  .rintro⟨l,nd,bd⟩;have hm:(n:Int)∈p:=by
    by_cases hm:(n:Int)∈p
    .exact hm
    .have:=sF n p nd λx hx=>by
      have h2:=bd x hx;have h3:x≠n:=λe=>hm (e▸hx);exact Jz (And.intro h2.1 h2.2) h3
     exact absurd l (aaJ (abr this))
   refine EW (List.append_of_mem hm) λu v aN=>?_;subst aN;rw[aby,aaW]at nd;have hq:u++v∈perms n:=by
    refine ay.mpr ⟨by simp at l⊢;exact age l,?_,λx hx=>?_⟩
    .rw[aby];exact⟨nd.1,nd.2.1.2,λa ha b hb=>nd.2.2 a ha b atq⟩
    .have xP:x∈u++(n:Int)::v:=by
      rcases aay.mp hx with z|z
      .exact aaA _ z
      .exact aaw _ (ake z)
     have h2:=bd x xP;have h3:x≠n:=λe=>by
      subst e;rcases aay.mp hx with z|z
      .exact nd.2.2 _ z _ aal rfl
      .exact nd.2.1.1 z
     exact Jz (And.intro h2.1 h2.2) h3
   have:=qI hq (k:=u.length) (by simp at l;exact Bm (agj l) alx);rw[List.take_left,List.drop_left]at this;exact this
noncomputable def comp(p q:aa0):aa0:=p.map λi=>q.getD i.toNat 0
def getD_mem{q:aa0}(h:k<q.length):q.getD k 0∈q:=by
 rw[aar,aac h];exact acU h
def bO{n:Nat}(hp:ahk)(hq:axJ):comp p q∈perms n:=by
 refine cY ajn λlp np bp=>cY ayD λlq nq bq=>ay.mpr ⟨by simp[comp,lp],?_,λx hx=>?_⟩
 .unfold comp;rw[abu]at np⊢;rw[abx];refine np.imp_of_mem λ{a b} ha hb qq e=>qq ?_;have h1:=bp a ha;have h2:=bp b hb;have l1:a.toNat<q.length:=anN;have l2:b.toNat<q.length:=(Bm (abc lq) (Jy h2.1 h2.2));rw[aar,aar,aac l1,aac l2]at e;have e':q[a.toNat]=q[b.toNat]:=e;have:=(List.getElem?_inj (j:=b.toNat) l1 nq).mp (by rw[aac l1,aac l2,e']);exact VQ h1.1 h2.1 this
 .refine aa avY λi hi ak=>?_;subst ak;have h1:=bp i hi;exact bq _ (getD_mem anN)
def jv(hp:ahk)(hq:axJ):comp aui r=comp p (comp q r):=by
 refine cY ajn λlp np bp=>cY ayD λlq nq bq=>?_;unfold comp;rw[aaV];refine acO λi hi=>?_;have h1:=bp i hi;have l1:i.toNat<q.length:=anN;show r.getD (q.getD i.toNat 0).toNat 0=_;rw[aar (l:=List.map _ q),aau,aar (l:=q),aac l1];rfl
noncomputable def inv:aa0->Nat
 |[]=>0
 |x::r=>(r.filter λy=>decide (y<x)).length+inv r
noncomputable def odd(p:aa0):Bool:=inv p%2==1
noncomputable def bR(n:Nat):aa0:=(List.range n).map λ(k:Nat)=>Int.ofNat k
def km(hp:ahk):comp p (bR n)=p:=by
 refine cY ajn λlp np bp=>?_;unfold comp;rw[acO (g:=id),afK];intro i hi;have h1:=bp i hi;have l1:i.toNat<n:=(Jy h1.1 h1.2);simp[bR,aau,acw l1];lia
theorem fV(h:α->D)(g:α->D)(f:D->asj):∀xs:agM,(∀x∈xs,f (h x)=some (ajU (g x)))->walk f ari=some (xs.map g)
 |[],_=>rfl
 |x::r,e=>by
  rw[aaK,walk,e x aal];show(walk f (r.map h)).map _=_;rw[fV h g f r λy hy=>e y ap2];rfl
noncomputable def fc:Fd:=⟨2,2,(ajP (akL (aj0 (.o ajO))))⟩
def yP(h0:0<=i)(h1:i<q.length):item (tp q) agF=some (amh (q.getD i.toNat 0)):=by
 show(place (q.map D.int).length i).bind _=_;unfold place;rw[aav h0,aav (by rw[aad];exact h1)];show(q.map D.int)[i.toNat]?=_;rw[aau,aar,aac (Jy h0 h1)];rfl
def u5(hn:aAD)(hp:ahk)(hq:axJ):out (ex F fc.body (aw fc [tp p,tp q]))=some (tp aui):=by
 refine cY ajn λlp np bp=>cY ayD λlq nq bq=>?_;have w:=fV (α:=Int) D.int (λi=> .int (q.getD i.toNat 0)) (λx=>(aB 0 x).bind λys=>(kT F true .nil auW).bind λk=>if k then(ev F false ao8 auW).map some else some none) p (λx hx=>by
  have h1:=bp x hx;show(item (tp q) (amh x)).map some=_;rw[yP h1.1 (adY h1.2 (Int.le_of_eq (congrArg _ (abc lq))))];rfl)
 have hl:(p.map D.int).length <=bX:=by rw[aad,lp];unfold bX;exact aaf hn aa2
 have e:ev F true ajO [ak1,vf (tp q)]=some (aj1 ((comp p q).map .int)):=by
  show(if(p.map D.int).length <=bX then _ else _)=_;rw[aav hl];show(walk _ (p.map D.int)).map D.lst=_;rw[w];simp[comp]<;>rfl
 show out ((((ev F true ajO [ak1,vf (tp q)]).bind _).bind _ |>.map _).bind _)=_;rw[e];rfl
theorem u6:∀a b:aa0,A' (a.map .int) (b.map .int)=decide (a=b)
 |[],[]=>rfl
 |[],_::_=>rfl
 |_::_,[]=>rfl
 |x::a,y::b=>by
  show(pB (amh x) (amh y)&&A' (a.map .int) (b.map .int))=_;rw[u6 a b];show((x==y)&&decide (a=b))=_;by_cases h1:x=y
  .subst h1;simp
  .simp[h1]
def DS(a b:aa0):pB (tp a) (tp b)=decide (a=b):=u6 a b
def wM(a:aa0)(n:Nat):gI (tp a) (n+1)=true:=kS n a
def oE(a:aa0):gI (tp a) 60=true:=wM a 59
def DT(a b:aa0):cmp .Eq (tp a) (tp b)=some (aB5 (a=b)):=by
 show(if gI (tp a) 60&&gI (tp b) 60 then some (pB (tp a) (tp b)) else none)=_;rw[oE,oE,DS];rfl
theorem u7:∀(n k:Nat),bT (k:Int) n=(List.range' k n).map λ(j:Nat)=>D.int (j:Int)
 |0,k=>rfl
 |n+1,k=>by
  rw[bT,aeJ,aaK];have e:(k:Int)+1=((k+1:Nat):Int):=by push_cast;rfl
  rw[e,u7 n (k+1)]
def ef(n:Nat):bT 0 n=(bR n).map .int :=by
 have:=u7 n 0;rw[show((0:Nat):Int)=0 from rfl]at this;rw[this,bR,aaV,adP];rfl
def cT{n:Nat}(h:aAD):dw [.int n]=some (bT 0 n):=by
 show(if -(2 ^ 62)<=(n:Int)/\(n:Int)<=bX then some (bT 0 (n:Int).toNat) else none)=_;rw[aav ⟨akT,by unfold bX;lia⟩];rfl
noncomputable def kn:Fd:=⟨1,1,(ajP (akL (.sX .tuple (.u 0))))⟩
def DU{n:Nat}(h:aAD):out (ex F kn.body (aw kn [.int n]))=some (tp (bR n)):=by
 refine iH ?_;rw[OO];show(dw [.int n]).bind awr=_;rw[cT h];show some (D.tup (bT 0 n))=_;rw[ef];rfl
def et(n:Nat):bR n∈perms n:=by
 refine ay.mpr ⟨by simp[bR],?_,λx hx=>?_⟩
 .unfold bR;rw[abu,abx];exact(abu.mp afP).imp λ{a b} h e=>h (adm e)
 .refine aa avY λk hk ak=>?_;subst ak;have:=aaY.mp hk;exact⟨aaP k,by show(k:Int)<n;lia⟩
def oF(hp:ahk):comp (bR n) p=p:=by
 refine cY ajn λlp np bp=>?_;apply abP;intro i;unfold comp bR;rw[aaV,aau];by_cases hi:i<n
 .rw[acw hi];show some (p.getD i 0)=_;rw[aar,aac (akZ hi)];rfl
 .rw[aaH (by simp;exact aaS hi),aaH (aaf atw azv)];rfl
def AS(hp:ahk){k:Int}(h0:0<=k)(h1:k<n):k∈p:=by
 refine cY ajn λlp np bp=>?_;by_cases hm:k∈p
 .exact hm
 .have:=sF n (k::p) (aaW.mpr ⟨hm,np⟩) λx hx=>by
   rcases aat.mp hx with rfl|hx
   .exact⟨h0,h1⟩
   .exact bp x hx
  rw[aaF]at this;exact absurd lp (aaJ this)
theorem oG:∀{p:aa0},k∈p->∃j,cE k p=some j
 |[],h=>nomatch h
 |n::r,h=>by
  unfold cE;by_cases e:n=k
  .exact⟨0,aav e⟩
  .rw[aaC e];obtain⟨j,hj⟩:=oG (List.mem_of_ne_of_mem (abD e) h);exact⟨j+1,by rw[hj];rfl⟩
theorem kq:∀{p:aa0}{j:Nat},cE k p=some j->p[j]?=some k
 |[],_,h=>by cases h
 |n::r,j,h=>by
  unfold cE at h;split at h
  .rename_i e;cases h;subst e;rfl
  .cases e:cE k r with
   |none=>rw[e]at h;cases h
   |some i=>rw[e]at h;cases h;simpa using kq e
theorem sG:∀{p:aa0}{j:Nat}{k:Int},p.Nodup->p[j]?=some k->cE k p=some j
 |[],_,_,_,h=>by simp at h
 |n::r,0,k,_,h=>by
  simp at h;unfold cE;rw[aav h]
 |n::r,j+1,k,nd,h=>by
  have h':r[j]?=some k:=by simpa using h
  have hn:n≠k:=λe=>(aaW.mp nd).1 (e▸abd h');unfold cE;rw[aaC hn,sG (aaW.mp nd).2 h'];rfl
noncomputable def ip(p:aa0):aa0:=(List.range p.length).map λ(k:Nat)=>(((cE (k:Int) p).getD 0:Nat):Int)
def jw(hp:ahk){k:Nat}(hk:k<n):∃j:Nat,cE (k:Int) p=some j/\(ip p)[k]?=some (j:Int)/\j<n/\p[j]?=some (k:Int):=by
 refine cY ajn λlp np bp=>?_;obtain⟨j,hj⟩:=oG (AS hp (k:=(k:Int)) akT (by lia));have hg:=kq hj;refine⟨j,hj,?_,by have:=(aax.mp hg).1;exact aah this atw,hg⟩;unfold ip;rw[aau,acw (akZ hk)];simp[hj]
def oH:(ip p).length =p.length:=by simp[ip]
def Hr(hp:ahk):comp p (ip p)=bR n:=by
 refine cY ajn λlp np bp=>?_;apply abP;intro i;unfold comp bR;rw[aau,aau];by_cases hi:i<n
 .have hb:=bp p[i] (acU (akZ hi));rw[acw hi,aac (akZ hi)];obtain⟨k,hk⟩:∃k:Nat,p[i]=(k:Int):=⟨p[i].toNat,(abc (acr hb.1))⟩;have K6:k<n:=by lia
  refine ED (jw hp K6) λj h1 h2 h3 h4=>?_;have BX:cE (k:Int) p=some i:=sG np (by rw[aac (akZ hi),hk]);rw[h1]at BX;have e:=aaI BX;subst e;show some ((ip p).getD (p[j].toNat) 0)=some (Int.ofNat j);rw[hk,abN,aar,h2];rfl
 .have l1:(List.range n)[i]?=none:=aaH (by simp;exact aaS hi);have l2:p[i]?=none:=aaH (aaf atw azv);rw[l1,l2];rfl
def yQ(hp:ahk):comp (ip p) p=bR n:=by
 refine cY ajn λlp np bp=>?_;apply abP;intro i;unfold comp bR;rw[aau,aau];by_cases hi:i<n
 .refine ED (jw hp hi) λj h1 h2 h3 h4=>?_;rw[h2,acw hi];show some (p.getD ((j:Int).toNat) 0)=some (Int.ofNat i);rw[abN,aar,h4];rfl
 .have l1:(List.range n)[i]?=none:=aaH (by simp;exact aaS hi);have l2:(ip p)[i]?=none:=aaH (by rw[oH];exact aaf atw azv);rw[l1,l2];rfl
def bS(hp:ahk):ip p∈perms n:=by
 refine cY ajn λlp np bp=>ay.mpr ⟨by rw[oH,lp],?_,λx hx=>?_⟩
 .rw[abu,acb];intro i j hi hj BX e;rw[oH,lp]at hi hj;refine ED (jw hp hi) λa a1 a2 a3 a4=>ED (jw hp hj) λb b1 b2 b3 b4=>?_;rw[aac (by rw[oH];lia)]at a2 b2;have ea:=aaI a2;have eb:=aaI b2;rw[ea,eb]at e;have:a=b:=(adm e);subst this;rw[a4]at b4;have:=aaI b4;lia
 .refine aa avY λk hk ak=>?_;subst ak;have wz:=aaY.mp hk;refine ED (jw hp (k:=k) (aah wz atw)) λj h1 _ h3 _=>?_;rw[h1];exact⟨aaP _,by show(j:Int)<n;lia⟩
def AU(hp:ahk)(hq:axJ)(h:comp p q=bR n):q=ip p:=by
 have e:comp (comp (ip p) p) q=comp (ip p) aui:=jv (bS hp) hp;rw[yQ hp,oF hq,h,km (bS hp)]at e;exact e
noncomputable def oJ:Fd:=⟨1,1,(ajP (akL (aj0 (.o aii))))⟩
theorem cM:∀p:aa0,aJ aiG=some p
 |[]=>rfl
 |x::p=>by
  show(aJ aiG).map (x:: ·)=_;rw[cM p];rfl
def Hs{n:Nat}(hn:aAD)(hp:ahk):out (ex F oJ.body (aw oJ [tp p]))=some awn:=by
 refine cY ajn λlp np bp=>?_;have w:=fV (α:=Nat) (λk=>D.int (k:Int)) (λ(k:Nat)=> .int (((cE (k:Int) p).getD 0:Nat):Int)) (λx=>(aB 0 x).bind λys=>(kT F true .nil aBO).bind λk=>if k then(ev F false (.fj .index ae6 (.u 0)) aBO).map some else some none) (List.range n) (λk hk=>by
  have wz:=aaY.mp hk;refine aa (jw hp wz) λj h1 _=>?_;show(fj .index (tp p) [.int (k:Int)]).map some=_;show(((aJ aiG).bind λns=>(cE (k:Int) ns).map λ(i:Nat)=>D.int (i:Int))).map some=_;rw[cM];show((cE (k:Int) p).map λ(i:Nat)=>D.int (i:Int)).map some=_;rw[h1];rfl)
 have hr:dw [.int ((p.map D.int).length :Nat)]=some ((List.range n).map λ(k:Nat)=>D.int (k:Int)):=by
  rw[aad,lp,cT hn,ef,bR,aaV];rfl
 have hl:((List.range n).map λ(k:Nat)=>D.int (k:Int)).length <=bX:=by rw[aad,ade];unfold bX;exact aaf hn aa2
 have e:ev F true aii [ak1]=some (aj1 ((ip p).map .int)):=by
  show(dw [.int ((p.map D.int).length :Nat)]).bind _=_;rw[hr];show(if((List.range n).map λ(k:Nat)=>D.int (k:Int)).length <=bX then _ else _)=_;rw[aav hl];show(walk _ ((List.range n).map λ(k:Nat)=>D.int (k:Int))).map D.lst=_;rw[w];simp[ip,lp]<;>rfl
 show out ((((ev F true aii [ak1]).bind _).bind _ |>.map _).bind _)=_;rw[e];rfl
noncomputable def sb:aa0->Nat->aa0->List Int
 |[],_,f=>f
 |g::r,i,f=>sb r (i+1) (aDG (i:Int))
theorem DV:∀(p:aa0) (i:Nat) (f:aa0),(sb p i f).length =f.length
 |[],_,_=>rfl
 |g::r,i,f=>by rw[sb,DV,abj]
def qJ(k n:Int)(r:aa0):cE k (n::r)=if n=k then some 0 else(cE k r).map (· + 1):=rfl
theorem DW:∀(p:aa0) (i:Nat) (f:aa0),p.Nodup->(∀x∈p,0<=x/\x<f.length)->∀k:Nat,k<f.length->(sb p i f)[k]?=match cE (k:Int) p with|some j=>some ((i+j:Nat):Int)|none=>f[k]?
 |[],i,f,_,_,k,_=>rfl
 |g::r,i,f,nd,bd,k,hk=>by
  have hg:=bd g aal;rw[sb,DW r (i+1) (aDG (i:Int)) (aaW.mp nd).2 (λx hx=>by rw[abj];exact bd x azj) k (by rw[abj];exact hk)];by_cases e:g=(k:Int)
  .have vy:cE (k:Int) r=none:=by
    cases h:cE (k:Int) r with
    |none=>rfl
    |some j=>exact absurd (abd (kq h)) (e▸(aaW.mp nd).1)
   rw[vy,qJ,aav e];have eg:g.toNat=k:=by lia
   show(f.set g.toNat (i:Int))[k]?=_;rw[eg,aaN hk];rfl
  .rw[qJ,aaC e];cases h:cE (k:Int) r with
   |none=>
    show(f.set g.toNat (i:Int))[k]?=_;rw[aaQ (by lia)];rfl
   |some j=>
    show some ((i+1+j:Nat):Int)=some ((i+(j+1):Nat):Int);congr 2;exact aaZ _ _ _
def Q0(hp:ahk):sb p 0 p=ip p:=by
 refine cY ajn λlp np bp=>?_;apply abP;intro k;by_cases hk:k<n
 .refine ED (jw hp hk) λj h1 h2 _ _=>?_;rw[DW p 0 p np (by rw[lp];exact bp) k (akZ hk),h1,h2];simp
 .rw[aaH (by rw[DV];exact aaf atw (aaS hk)),aaH (by rw[oH];exact aaf atw (aaS hk))]
noncomputable def gp:Fd:=⟨1,4,(.seq (ami 1) (ayn anQ))⟩
theorem oK:∀(r:aa0) (i:Nat) (f:aa0) (x2 x3:aa9),(∀x∈r,0<=x/\x<f.length)->∃Vb Vc,
  aL (λx ρ=>(aB 2 x).bind λys=>(cF ρ [2,3] ys).bind λρ'=>aCE) (aO (i:Int) (r.map .int)) [x0,vo (f.map .int),x2,x3]=some (ajW [x0,vo ((sb r i f).map .int),Vb,Vc])
 |[],i,f,x2,x3,_=>⟨x2,x3,rfl⟩
 |g::r,i,f,x2,x3,bd=>by
  have hg:=bd g aal;obtain⟨Vb,Vc,e⟩:=oK r (i+1) (aDG (i:Int)) (vi i) (vi g) (λx hx=>by rw[abj];exact bd x azj);refine⟨Vb,Vc,?_⟩;rw[aaK,aO,aL];have hp:place f.length g=some g.toNat:=by
   unfold place;rw[aav hg.1,aav hg.2]
  have step:(aB 2 (akb [.int (i:Int),.int g])).bind (λys=>(cF [x0,vo (f.map .int),x2,x3] [2,3] ys).bind λρ'=>aCE)=some (ajW [x0,vo ((f.set g.toNat (i:Int)).map .int),vi i,vi g]):=by
   refine(sE (ρ':=[x0,vo ((f.set g.toNat (i:Int)).map .int),vi i,vi g]) ?_).trans rfl;show(place (f.map D.int).length g).map (λj=>kU.next [x0,vo ((f.map .int).set j agF),vi i,vi g])=_;rw[aad,hp,List.map_set];rfl
  rw[step];have e':((i:Int)+1)=((i+1:Nat):Int):=by push_cast;rfl
  show aL _ (aO ((i:Int)+1) (r.map .int)) _=_;rw[e',sb];exact e
def DX(hp:ahk):out (ex F gp.body axV)=some awn:=by
 refine cY ajn λlp np bp=>EW (oK (F:=F) (x0:=vf (tp p)) p 0 p none none (by rw[lp];exact bp)) λx2 x3 e=>?_;rw[Q0 hp]at e;have e':aL (λx ρ=>(aB 2 x).bind λys=>(cF ρ [2,3] ys).bind λρ'=>aCE) (aO 0 aiG) [ak1,vo aiG,none,none]=some aro:=e;have h1:ex F (ami 1) axV=some (ajW [ak1,vo aiG,none,none]):=rfl;have h2:ex F anQ [ak1,vo aiG,none,none]=some aro:=by
  show aL _ (aO 0 aiG) _=_;exact e'
 show out ((ex F (ami 1) axV).bind _)=_;rw[h1];show out ((ex F (.seq anQ _) _))=_;rw[zR,h2];rfl
theorem oM:∀p:aa0,aX aiG=true
 |[]=>rfl
 |x::p=>by show(aG (amh x)&&aX aiG)=true;rw[oM p];rfl
def af(p:aa0):aG (tp p)=true:=oM p
noncomputable def pw(p:aa0):Nat->List Int
 |0=>bR p.length
 |m+1=>comp (pw p m) p
theorem ku(hp:ahk):∀m,pw p m∈perms n
 |0=>by rw[pw,aC hp];exact et n
 |m+1=>bO (ku hp m) hp
theorem DY(hp:ahk)(a:Nat):∀b,pw p (a+b)=comp (pw p a) (pw p b)
 |0=>by rw[afh,pw,aC hp,km (ku hp a)]
 |b+1=>by
  show comp (pw p (a+b)) p=comp (pw p a) (comp (pw p b) p);rw[DY hp a b,jv (ku hp a) (ku hp b)]
def MO(hp:ahk):pw p 1=p:=by
 show comp (bR p.length) p=p;rw[aC hp,oF hp]
noncomputable def AV(p:aa0):Nat:=(((List.range 6).find? λm=>pw p (m+1)==bR p.length).getD 0)+1
noncomputable def Jm(n:Nat)(p:aa0):Bool:=decide (pw p (AV p)=bR n)&&decide (AV p<=6)&&(List.range (AV p)).all λk=>k==0||decide (pw p k≠bR n)
set_option maxHeartbeats 0 in
def Ht:(List.range 7).all (λn=>(perms n).all (Jm n))=true:=by decide +kernel
def DZ(hn:n<=6)(hp:ahk):pw p (AV p)=bR n/\1<=AV p/\AV p<=6/\∀k,1<=k->k<AV p->pw p k≠bR n:=by
 have h:=abI.mp (all_range Ht (k:=n) (aaO hn aa2)) p hp;unfold Jm at h;simp only[aae,decide_eq_true_eq,abI,aaY,aeX,beq_iff_eq]at h;refine⟨h.1.1,by unfold AV;exact adE _ _,h.1.2,λk h1 h2=>?_⟩;rcases h.2 k h2 with z|z
 .exact absurd z (afZ h1)
 .exact z
def a_(h1:auh)(h2:ev F b c ρ=some y):dQ F b avz ρ=some [x,y]:=by
 rw[me,h1,me,h2];rfl
def cy(h1:auh):dQ F b (.o a) ρ=some [x]:=by
 rw[me,h1];rfl
noncomputable def u9(F:FT)(fr:ahj)(ifs eQ:E)(ρ:Env)(x:D):asj:=(kT F true ifs aA5).bind λk=>if k then(ev F false eQ aA5).map some else some none
def Hu(h1:ak6)(h2:seq d=some xs)(h3:amj):ev F b (aqO (.it a)) ρ=(walk aCg xs).map .lst :=by
 rw[KQ,Yi,h1,abJ,h2,abJ,aav h3];rfl
def oN(h1:atX)(h3:amj):ev F b (aqO awh) ρ=(walk aCg xs).map .lst :=by
 rw[KQ,TU,h1,abJ,aav h3];rfl
theorem l7:∀xs:ac1,(∀x∈xs,f x=some (if p x then some x else none))->walk f xs=some (xs.filter p)
 |[],_=>rfl
 |x::r,h=>by
  rw[walk,h x aal,ado];have ih:=l7 r λy hy=>h y ap2;cases p x with
  |true=>show(walk f r).map _=_;rw[ih];rfl
  |false=>exact ih
theorem yR(h g:α->D)(c:α->Bool)(f:D->asj):∀xs:agM,(∀x∈xs,f (h x)=some (if c x then some (g x) else none))->walk f ari=some aBy
 |[],_=>rfl
 |x::xs,H=>by
  rw[aaK,walk,H x aal,ado];have ih:=yR h g c f xs λy hy=>H y ap2;cases c x with
  |true=>show(walk f ari).map (g x:: ·)=_;rw[ih];rfl
  |false=>exact ih
def ky{xs:agM}{h g:α->D}{c:α->Bool}(h1:ak6)(h2:ayU)(hl:amj)(hi:∀x∈xs,kT F true ifs ajG=some (c x))(hc:∀x∈xs,axg):ev F b (anU ifs) ρ=some (aj1 aBy):=by
 rw[Hu h1 h2 (by rw[aad];exact hl),yR h g c _ _ λx hx=>?_]
 .rfl
 .show((kT F true ifs ajG).bind λk=>if k then(ev F false el ajG).map some else some none)=_;rw[hi x hx,hc x hx];cases c x<;>rfl
def fW{xs:agM}{h g:α->D}(h1:ak6)(h2:ayU)(hl:amj)(hc:∀x∈xs,axg):ev F b anR ρ=some (aj1 (xs.map g)):=by
 rw[ky (c:=λ_=>true) h1 h2 hl (λ_ _=>rfl) hc,List.filter_eq_self.mpr λ_ _=>rfl]
def Hv(h:ev F false a ρ=some (.bl j)):kT F true (.o a) ρ=some j:=by
 rw[Fx,h];cases j<;>rfl
def ZO(h:ev F false a ρ=some (.bl p))(h2:ev F false c ρ=some (.bl q)):ev F b (.BP true avz) ρ=some (.bl (p&&q)):=by
 cases p with
 |true=>exact ZM h (by rw[KN,Hv h2];rfl)
 |false=>exact ZL h
theorem yS{P:D->Prop}:∀xs:ac1,(∀x∈xs,∃y,P y/\f x=some (ajU y))->∃ys,walk f xs=some ys/\ys.length=xs.length/\∀y∈ys,P y
 |[],_=>⟨[],rfl,rfl,λ_ h=>nomatch h⟩
 |x::r,h=>by
  refine aa aAN λy hy e=>bF (yS r λz hz=>h z avZ) λys e2 hl hP=>⟨y::ys,?_,by rw[aaF,aaF,hl],λz hz=>?_⟩
  .rw[walk,e];show(walk f r).map _=_;rw[e2];rfl
  .rcases aat.mp hz with rfl|hz
   .exact hy
   .exact hP z hz
def u_(hx:x∈bT 0 n):∃k:Nat,k<n/\x= .int k:=by
 rw[ef]at hx;refine aa avY λi hi ak=>?_;subst ak;refine aa (akj hi) λj hj aN=>?_;subst aN;exact⟨j,axZ,rfl⟩
def ig(n:Nat):(bT 0 n).length =n:=by
 rw[ef,aad,bR,aad,ade]
noncomputable def jc(ft fd:Nat):Fd:=⟨2,2,(ajP (akL (aj0 (.o (.comp [0,1] 0 (.gJ (.o (.idx af8 (.bin .Mod ac3 (.ci 7))))) .nil as5)))))⟩
def MP(s:Nat)(y:D):Prop:=∃p∈perms s,y=tp p
def kz{k:Nat}(h:xs[k]?=some x):item ai6 agP=some x:=by
 show(place xs.length k).bind _=_;have hk:k<xs.length:=(aax.mp h).1;unfold place;rw[aav akT,aav (by lia)];show xs[((k:Int)).toNat]?=_;rw[abN];exact h
def MQ{a:Int}(hd:∀k:Nat,F fd [as4,agP]=some amF)(ht:∀b:Int,0<=b->∃p∈perms s,F ft [.int b,agQ]=some (tp p)):
  ∃ys,out (ex F (jc ft fd).body ahM)=some av0/\ys.length<=6/\∀y∈ys,MP s y:=by
 have g0:0<=a%7:=acA _ aa2;have g1:a%7<7:=acn _ aa2;obtain⟨j,hj⟩:∃j:Nat,a%7=j:=⟨(a%7).toNat,(abc (acr g0))⟩;have ZP:j<7:=adh.mp (hj▸g1);have key:∀j,j<7->∃n:Nat,n<=6/\[D.int 1,.int 1,.int 2,.int 2,.int 3,.int 0,.int 6][j]?=some (amh n):=λj hj=>
  ⟨[1,1,2,2,3,0,6][j],(show∀x∈[1,1,2,2,3,0,6],x<=6 by decide) _ (acU _),by rw[show [D.int 1,.int 1,.int 2,.int 2,.int 3,.int 0,.int 6]=[1,1,2,2,3,0,6].map λn:Nat=>D.int n from rfl,aau,aac hj];rfl⟩
 refine aa (key j ZP) λn hn hg=>?_;have e1:ev F false (.idx af8 (aj9 (.ci 7))) ahM=some (amh n):=by
  have q1:ev F true af8 ahM=some (akb [D.int 1,.int 1,.int 2,.int 2,.int 3,.int 0,.int 6]):=rfl;have q2:ev F false (aj9 (.ci 7)) ahM=some (amh j):=(DK rfl rfl aa2).trans (congrArg (λz=>ane) hj);rw[KP,q1,abJ,q2,abJ];exact kz hg
 obtain⟨ys,w,hl,hP⟩:=yS (f:=u9 F [0,1] .nil as5 ahM) (P:=MP s) (bT 0 n) λx hx=>by
  refine aa (u_ hx) λk hk ak=>?_;subst ak;refine aa (ht (drawn a k) (DJ _ _)) λp hp e=>⟨tp p,⟨p,hp,rfl⟩,?_⟩;show(ev F false _ (inner [.int (k:Int)] _ [0,1])).map some=_;have i1:ev F true (amP fd) (inner [.int (k:Int)] ahM [0,1])=some amF:=
   ae (xs:=[as4,agP]) ae4 (hd k) rfl
  rw[ae (xs:=[amF,agQ]) (d:=tp p) (azR i1) e (af _)];rfl
 refine⟨ys,iH ?_,by rw[hl,ig];exact hn,hP⟩;rw[Fw,cy (x:= .lst ys)]
 .rfl
 .rw[oN (xs:=bT 0 n) (by rw[cy e1,abJ,cT (ajX hn)]) (by rw[ig];unfold bX;exact aaf hn aa2),w];rfl
section
variable {s:Nat}{ps:aa_}(sH:∀p∈ps,akl)
include sH
end
def bH(h1:aqr)(h2:F f xs=some d)(h3:rj ρ es=false):ev F b ao0 ρ=some d:=by
 rw[ON,h1];show(F f xs).bind _=_;rw[h2];simp[h3]
def Vd(h1:auh)(h2:ev F b c ρ=some y)(h3:ev F b e ρ=some z):dQ F b (.cons a (.cons c (.o e))) ρ=some [x,y,z]:=by
 rw[me,h1,me,h2,me,h3];rfl
theorem D0:∀{s:Nat} (ys:ac1),(∀y∈ys,MP s y)->∃ps:aa_,ys=ps.map tp/\∀p∈ps,p∈perms s
 |_,[],_=>⟨[],rfl,λ_ h=>nomatch h⟩
 |s,y::r,h=>by
  refine aa (h y aal) λp hp ak=>?_;subst ak;refine aa (D0 r λz hz=>h z avZ) λps aN sH=>?_;subst aN;exact⟨p::ps,rfl,λq hq=>(aat.mp hq).elim (λe=>e▸hp) (sH q)⟩
def Hw(h:atX):ex F (axw awh) ρ=aL (λx ρ=>(aB tg x).bind λys=>(cF ρ is ys).bind λρ'=>ar_) xs ρ:=by
 rw[Fy];show((dQ F false es ρ).bind dw).bind _=_;rw[h];rfl
end Py
namespace eI
structure Pg(α:Type) where
 n:Nat
 S:α->Prop
 mul:α->α->α
 inv:α->α
 one:α
 im:α->Nat->Nat
structure cn{α:Type}(Y:Pg α):Prop where
 s1:Y.S Y.one
 sm:∀{a b},Y.S a->Y.S b->Y.S ajK
 si:∀{a},Y.S a->Y.S am5
 assoc:∀{a b c},Y.S a->Y.S b->Y.S c->Y.mul ajK c=Y.mul a (Y.mul b c)
 mul_one:∀{a},Y.S a->Y.mul a Y.one=a
 one_mul:∀{a},Y.S a->Y.mul Y.one a=a
 bJ:∀{a},Y.S a->Y.mul a am5=Y.one
 inv_mul:∀{a},Y.S a->Y.mul am5 a=Y.one
 bK:∀{k},k<Y.n->Y.im Y.one k=k
 aU:∀{a b k},Y.S a->Y.S b->k<Y.n->Y.im ajK k=Y.im b (Y.im a k)
 kA:∀{a k},Y.S a->k<Y.n->Y.im a k<Y.n
 ext:∀{a b},Y.S a->Y.S b->(∀k,k<Y.n->Y.im a k=Y.im b k)->a=b
section
variable {α:Type}{Y:Pg α}
def cn.inj(L:cn Y)(ha:Y.S a)(hk:k<Y.n)(hl:l<Y.n)(h:Y.im a k=Y.im a l):k=l:=by
 have e:∀j,j<Y.n->Y.im am5 (Y.im a j)=j:=λj hj=>by
  rw[<-L.aU ha aok hj,L.bJ ha,L.bK hj]
 rw[<-e k hk,<-e l hl,h]
def iX(Y:Pg α)(t:α)(i:Nat):Prop:=∀k,k<i->Y.im t k=k
abbrev Rg(α:Type):=List (Nat×α)
structure V(Y:Pg α)(i:Nat)(R:Rg α):Prop where
 st:∀p u,aoS->Y.S u/\iX Y u i/\Y.im u i=p
 one:(i,Y.one)∈R
 nd:(R.map (·.1)).Nodup
def VL(Y:Pg α):ad9->Nat->Prop
 |[],i=>i=Y.n
 |R::l,i=>V Y i R/\i<Y.n/\VL Y l (i+1)
def H(Y:Pg α):ad9->α->Prop
 |[],t=>t=Y.one
 |R::l,t=>∃p u w,aoS/\H Y l w/\t=Y.mul w u
def iI{R:Rg α}(h:(R.map (·.1)).Nodup)(h1:aoS)(h2:(p,v)∈R):u=v:=by
 induction R with
 |nil=>cases h1
 |cons e R ih=>
  rw[aaK,aaW]at h;rcases aat.mp h1 with a|a
  .rcases aat.mp h2 with b|b
   .exact(agv (a.trans b.symm)).2
   .exact absurd (amN ⟨_,b,by rw[<-a]⟩) h.1
  .rcases aat.mp h2 with b|b
   .exact absurd (amN ⟨_,a,by rw[<-b]⟩) h.1
   .exact ih h.2 a b
theorem H.good(L:cn Y):∀{l:ad9}{i:Nat}{t:α},alk->atD->Y.S t/\iX Y t i
 |[],i,t,hv,h=>by
  have h':t=Y.one:=h;have Hx:i=Y.n:=hv;subst h';exact⟨L.s1,λk hk=>L.bK (aah hk (aap Hx))⟩
 |R::l,i,t,⟨hv,hi,hl⟩,⟨p,u,w,hu,hw,e⟩=>by
  obtain⟨s1,f1⟩:=H.good L hl hw;refine cY (hv.st p u hu) λs2 f2 _=>?_;subst e;refine⟨L.sm s1 s2,λk hk=>?_⟩;rw[L.aU s1 s2 ajq,f1 k alw,f2 k hk]
theorem H.one(L:cn Y):∀{l:ad9}{i:Nat},alk->H Y l Y.one
 |[],_,_=>rfl
 |R::l,i,⟨hv,hi,hl⟩=>⟨i,Y.one,Y.one,hv.one,H.one L hl,(L.one_mul L.s1).symm⟩
def St(l:ad9)(u:α):Prop:=∃R∈l,∃p,(p,u)∈R
theorem St.good(L:cn Y):∀{l:ad9}{i:Nat}{u:α},alk->awa->Y.S u/\iX Y u i
 |[],_,_,_,⟨_,h,_⟩=>by cases h
 |R::l,i,u,⟨hv,hi,hl⟩,⟨R',hR,p,hp⟩=>by
  rcases aat.mp hR with e|e
  .rw[e]at hp;exact⟨(hv.st p u hp).1,(hv.st p u hp).2.1⟩
  .obtain⟨a,b⟩:=St.good L hl ⟨R',e,p,hp⟩;exact⟨a,λk hk=>b k alw⟩
def H.drop(L:cn Y){R:Rg α}(hv:aBa)(h:H Y (R::l) t)(hf:Y.im t i=i):atD:=by
 refine cY hv λhV hi hl=>cC h λp u w hu hw e=>?_;obtain⟨s1,f1⟩:=H.good L hl hw;refine cY (hV.st p u hu) λs2 f2 f3=>?_;have:p=i:=by
  rw[e,L.aU s1 s2 hi,f1 i ad0,f3]at hf;exact hf
 subst this;have:u=Y.one:=iI hV.nd hu hV.one;rw[this,L.mul_one s1]at e;rw[e];exact hw
def H.Hy(L:cn Y)(hv:aBa)(h:atD):H Y (R::l) t:=⟨i,Y.one,t,hv.1.one,h,(L.mul_one (H.good L hv.2.2 h).1).symm⟩
inductive Gen(Y:Pg α)(G:α->Prop):α->Prop
 |one:Gen Y G Y.one
 |mul {t u:α}:Gen Y G t->G u->Gen Y G aC_
theorem Gen.S(L:cn Y)(hG:∀u,G u->Y.S u):∀{t:α},Gen Y G t->Y.S t
 |_,.one =>L.s1
 |_,.mul h hu=>L.sm (aB7 h) (hG _ hu)
theorem Gen.mono(h:∀u,G u->G' u):∀{t:α},Gen Y G t->Gen Y G' t
 |_,.one => .one
 |_,.mul a hu=> .mul (Gen.mono h a) (h _ hu)
theorem Gen.app(L:cn Y)(hG:∀u,G u->Y.S u)(ha:Gen Y G a):∀{b:α},Gen Y G b->Gen Y G ajK
 |_,.one =>by rw[L.mul_one (aB7 ha)];exact ha
 |_,.mul (t:=t) (u:=u) h hu=>by
  rw[<-L.assoc (aB7 ha) (aB7 h) (hG _ hu)];exact .mul (Gen.app L hG ha h) hu
def Gen.of(L:cn Y)(hs:Y.S u)(h:G u):Gen Y G u:=by
 have:=Gen.mul (Gen.one (Y:=Y) (G:=G)) h;rwa [L.one_mul hs]at this
theorem H.gen(L:cn Y):∀{l:ad9}{i:Nat}{t:α},alk->atD->Gen Y (St l) t
 |[],_,t,_,h=>by
  have h':t=Y.one:=h;rw[h'];exact .one
 |R::l,i,t,⟨hV,hi,hl⟩,⟨p,u,w,hu,hw,e⟩=>by
  rw[e];exact .mul (Gen.mono (λx ⟨R',h,q⟩=>⟨R',aag _ h,q⟩) (H.gen L hl hw)) ⟨R,aal,p,hu⟩
theorem H.closed(L:cn Y):∀{l:ad9}{i:Nat},alk->(∀u v,awa->St l v->avx)->∀t v,atD->St l v->H Y l (Y.mul t v)
 |[],_,_,_,_,_,_,⟨_,h,_⟩=>by cases h
 |R::l,i,hv,hp,t,v,⟨p,u,w,hu,hw,e⟩,m8=>by
  have hl:=hv.2.2;have sub:∀x,St l x->St (R::l) x:=λx ⟨R',h,q⟩=>⟨R',aag _ h,q⟩;have ih:=H.closed L hl λx y hx hy=>by
   obtain⟨s1,f1⟩:=St.good L hl hx;obtain⟨s2,f2⟩:=St.good L hl hy;refine(hp x y (sub x hx) (sub y hy)).drop L hv ?_;rw[L.aU s1 s2 hv.2.1,f1 i ad0,f2 i ad0]
  have all:∀{x:α},azG->H Y l (Y.mul w x):=λ{x} hx=>by
   induction hx with
   |one=>rw[L.mul_one (H.good L hl hw).1];exact hw
   |mul h hu OR=>
    rw[<-L.assoc (H.good L hl hw).1 (Gen.S L (λu hu=>(St.good L hl hu).1) h) (St.good L hl hu).1];exact ih _ _ OR hu
  have su:St (R::l) u:=⟨R,aal,p,hu⟩;refine cC (hp u v su m8) λp' u' w' qk yv e'=>?_;obtain⟨sw,_⟩:=H.good L hl hw;obtain⟨MR,_⟩:=H.good L hl yv;have ZQ:=(St.good L hv su).1;have ZR:=(St.good L hv m8).1;have ZS:=(hv.1.st p' u' qk).1;refine⟨p',u',Y.mul w w',qk,all (H.gen L hl yv),?_⟩;rw[e,L.assoc sw ZQ ZR,e',<-L.assoc sw MR ZS]
def H.all(L:cn Y)(hv:alk)(hp:∀u v,awa->St l v->avx)(ht:atD)(hx:azG):H Y l (Y.mul t x):=by
 induction hx with
 |one=>rw[L.mul_one (H.good L hv ht).1];exact ht
 |mul h hu ih=>
  rw[<-L.assoc (H.good L hv ht).1 (Gen.S L (λu hu=>(St.good L hv hu).1) h) (St.good L hv hu).1];exact H.closed L hv hp _ _ ih hu
def H.row(L:cn Y)(hv:VL Y l 0)(hG:∀u,G u->Y.S u)(hp:∀u v,awa->St l v->avx)(hr:∀g,G g->H Y l g)(hs:∀u,awa->Gen Y G u)(t:α):H Y l t↔Gen Y G t:=by
 constructor
 .intro h;have:∀{x:α},azG->Gen Y G x:=λ{x} hx=>by
   induction hx with
   |one=>exact .one
   |mul h hu ih=>exact Gen.app L hG ih (hs _ hu)
  exact this (H.gen L hv h)
 .intro h;induction h with
  |one=>exact H.one L hv
  |mul h hu ih=>exact H.all L hv hp ih (H.gen L hv (hr _ hu))
noncomputable def dH(R:Rg α)(p:Nat):ayb:=(R.find? λe=>e.1==p).map (·.2)
def b9(h:dH R p=some u):aoS:=by
 unfold dH at h;cases e:R.find? (λe=>e.1==p)with
 |none=>rw[e]at h;cases h
 |some x=>
  rw[e]at h;cases h;have h1:=List.find?_some e;have h2:=List.mem_of_find?_eq_some e;have:x.1=p:=by simpa using h1
  rw[<-this];exact h2
def iJ{R:Rg α}(h:dH R p=none):p∉R.map (·.1):=λhm=>by
 unfold dH at h;rw[Option.map_eq_none_iff,agB]at h;exact aa (akj hm) λe he hp=>h e he (by simp[hp])
def yT{R:Rg α}(nd:(R.map (·.1)).Nodup)(h:aoS):dH R p=some u:=by
 cases e:dH R p with
 |none=>exact absurd (amN ⟨_,h,rfl⟩) (iJ e)
 |some v=>rw[iI nd h (b9 e)]
noncomputable def dB(Y:Pg α):ad9->Nat->α->α
 |[],_,t=>t
 |R::l,i,t=>match dH R als with
  |some u=>dB Y l (i+1) ajJ
  |none=>t
noncomputable def add:ad9->Nat->Nat×α->List (Rg α)
 |[],_,_=>[]
 |R::l,0,x=>(R++[x])::l
 |R::l,k+1,x=>R::add l k x
theorem H.add:∀{l:ad9}{k:Nat}{t:α},atD->H Y (eI.add l k x) t
 |[],_,_,h=>h
 |R::l,0,t,⟨p,u,w,hu,hw,e⟩=>⟨p,u,w,aaA _ hu,hw,e⟩
 |R::l,k+1,t,⟨p,u,w,hu,hw,e⟩=>⟨p,u,w,hu,H.add hw,e⟩
theorem St.add:∀{l:ad9}{k:Nat},St (eI.add l k x) v->St l v\/v=x.2
 |[],_,⟨_,h,_⟩=>by cases h
 |R::l,0,⟨R',hR,p,hp⟩=>by
  rcases aat.mp hR with e|e
  .rw[e]at hp;rcases aay.mp hp with z|z
   .exact .inl ⟨R,aal,p,z⟩
   .rw[aak]at z;exact .inr (by rw[<-z])
  .exact .inl ⟨R',aag _ e,p,hp⟩
 |R::l,k+1,⟨R',hR,p,hp⟩=>by
  rcases aat.mp hR with e|e
  .exact .inl ⟨R,aal,p,by rw[<-e];exact hp⟩
  .rcases St.add (l:=l) (k:=k) ⟨R',e,p,hp⟩with⟨R2,h2,q⟩|z
   .exact .inl ⟨R2,aag _ h2,q⟩
   .exact .inr z
theorem qK(L:cn Y):∀{l:ad9}{i:Nat}{t:α},alk->Y.S t->aue->
  (dB Y l i t=Y.one/\atD)\/∃k R,l[k]?=some R/\i+k<Y.n/\Y.S ali/\iX Y ali (i+k)/\Y.im ali (i+k)∉R.map (·.1)/\Y.im ali (i+k)≠i+k/\
   H Y axj t/\VL Y axj i
 |[],i,t,hv,hs,hf=>by
  have Hx:i=Y.n:=hv;have:t=Y.one:=L.ext hs L.s1 λk hk=>by rw[hf k (aah hk (aap (abc Hx))),L.bK hk]
  exact .inl ⟨this,this⟩
 |R::l,i,t,hv,hs,hf=>by
  refine cY hv λhV hi hl=>?_;unfold dB;cases e:dH R als with
  |none=>
   have hn:=iJ e;have eG:Y.im t i≠i:=λz=>hn (amN ⟨_,hV.one,z.symm⟩);refine .inr ⟨0,R,rfl,hi,hs,hf,hn,eG,?_,?_⟩
   .exact⟨als,t,Y.one,aqu,H.one L hl,(L.one_mul hs).symm⟩
   .refine⟨⟨λp u hu=>?_,aaA _ hV.one,?_⟩,hi,hl⟩
    .rcases aay.mp hu with z|z
     .exact hV.st p u z
     .rw[aak]at z;cases z;exact⟨hs,hf,rfl⟩
    .rw[aaM,aby];refine⟨hV.nd,by simp,λa ha b hb z=>?_⟩;have:b=Y.im t i:=by simpa using hb
     exact hn (by rw[<-this,<-z];exact ha)
  |some u=>
   have hu:=b9 e;refine cY (hV.st _ u hu) λs2 f2 f3=>?_;have sI:=L.si s2;have s3:Y.S ajJ:=L.sm hs sI;have back:Y.mul ajJ u=t:=by rw[L.assoc hs sI s2,L.inv_mul s2,L.mul_one hs]
   have D1:∀k,k<Y.n->ax2:=λk hk=>by rw[<-L.aU s2 sI hk,L.bJ s2,L.bK hk]
   have f4:iX Y ajJ (i+1):=λk hk=>by
    rw[L.aU hs sI asI];rcases abq k i with z|z
    .rw[hf k z];have:=D1 k (aah z azw);rwa [f2 k z]at this
    .have e2:k=i:=(aen z hk);rw[e2];have:=D1 i hi;rwa [f3]at this
   dsimp only;rcases qK L hl s3 f4 with⟨a,b⟩|⟨k,R',a1,a2,a3,a4,a5,a6,a7,a8⟩
   .exact .inl ⟨a,_,u,_,hu,b,back.symm⟩
   .have ek:i+1+k=i+(k+1):=akS;rw[ek]at a2 a4 a5 a6 a7 a8;exact .inr ⟨k+1,R',a1,a2,a3,a4,a5,a6,⟨_,u,_,hu,a7,back.symm⟩,hV,hi,a8⟩
structure Fd(Y:Pg α)(G:α->Prop)(l:ad9)(W:agM):Prop where
 v:VL Y l 0
 g:∀u,awa->Gen Y G u
 wg:∀t∈W,Gen Y G t
 row:∀t,G t->t∈W\/H Y l t
 Q1:∀u v,awa->St l v->Y.mul u v∈W\/H Y l (Y.mul u v)
def Fd.done(L:cn Y)(hG:∀u,G u->Y.S u)(h:Fd Y G l [])(t:α):H Y l t↔Gen Y G t:=
 H.row L h.v hG (λu v hu hv=>(h.Q1 u v hu hv).resolve_left ab5) (λg hg=>(h.row g hg).resolve_left ab5) h.g t
def Fd.none(h:Fd Y G l av8)(ht:atD):Fd Y G l W where
 v:=h.v
 g:=h.g
 wg:=λx hx=>h.wg x (aw8 hx)
 row:=λx hx=>by
  rcases h.row x hx with z|z
  .rcases aay.mp z with z|z
   .exact .inl z
   .rw[aak.mp z];exact .inr ht
  .exact .inr z
 Q1:=λu v hu hv=>by
  rcases h.Q1 u v hu hv with z|z
  .rcases aay.mp z with z|z
   .exact .inl z
   .rw[aak.mp z];exact .inr ht
  .exact .inr z
def Fd.more(L:cn Y)(h:Fd Y G l av8)(hv:VL Y awI 0)(ht:H Y awI t)(hr:Gen Y G r)(sH:∀x∈Ps,Gen Y G x)
  (hP:∀u,St awI u->Y.mul u r∈Ps/\Y.mul r u∈Ps):Fd Y G awI (W++Ps) where
 v:=hv
 g:=λu hu=>by
  rcases hu.add with z|z
  .exact h.g u z
  .rw[z];exact hr
 wg:=λx hx=>(aay.mp hx).elim (λz=>h.wg x (aw8 z)) (sH x)
 row:=λx hx=>by
  rcases h.row x hx with z|z
  .rcases aay.mp z with z|z
   .exact .inl (aw8 z)
   .rw[aak.mp z];exact .inr ht
  .exact .inr z.add
 Q1:=λu v hu Hx=>by
  rcases hu.add with z1|z1
  .rcases Hx.add with z2|z2
   .rcases h.Q1 u v z1 z2 with z|z
    .rcases aay.mp z with z|z
     .exact .inl (aw8 z)
     .rw[aak.mp z];exact .inr ht
    .exact .inr z.add
   .rw[z2];exact .inl (aaw _ (hP u hu).1)
  .rw[z1];exact .inl (aaw _ (hP v Hx).2)
theorem iX.mul(L:cn Y)(ha:Y.S a)(hb:Y.S b)(hi:i<=Y.n)(h1:iX Y a i)(h2:iX Y b i):iX Y ajK i:=λk hk=>by rw[L.aU ha hb asI,h1 k hk,h2 k hk]
theorem iX.inv(L:cn Y)(ha:Y.S a)(hi:i<=Y.n)(h1:iX Y a i):iX Y am5 i:=λk hk=>by
 have:=L.aU ha aok (k:=k) asI;rw[L.bJ ha,L.bK asI,h1 k hk]at this;exact this.symm
structure dC(Y:Pg α)(M:α->Prop):Prop where
 s:∀t,M t->Y.S t
 one:M Y.one
 mul:∀a b,M a->M b->M ajK
 inv:∀a,M a->M am5
def Hm(Y:Pg α)(M:α->Prop)(l:ad9)(i:Nat):Prop:=VL Y l i/\∀t,H Y l t↔M t/\iX Y t i
def Hm.tail(L:cn Y)(h:arO):Hm Y M l (i+1):=by
 refine⟨h.1.2.2,λt=>⟨λht=>?_,λ⟨h1,h2⟩=>?_⟩⟩
 .exact⟨((h.2 t).mp (ht.Hy L h.1)).1,(H.good L h.1.2.2 ht).2⟩
 .exact((h.2 t).mpr ⟨h1,λk hk=>h2 k alw⟩).drop L h.1 (h2 i ad0)
def Hm.step(L:cn Y)(h:arO)(hu:aoS):M u/\iX Y u i/\Y.im u i=p:=by
 refine cY (h.1.1.st p u hu) λs1 f1 f2=>?_;have:H Y (R::l) u:=⟨p,u,Y.one,hu,H.one L h.1.2.2,(L.one_mul s1).symm⟩;exact⟨((h.2 u).mp this).1,f1,f2⟩
def Hm.split(L:cn Y)(h:arO)(hM:M t)(hf:aue):∃u w,(als,u)∈R/\H Y l w/\t=Y.mul w u:=by
 refine cC ((h.2 t).mpr ⟨hM,hf⟩) λp u w hu hw e=>?_;obtain⟨s1,f1⟩:=H.good L h.1.2.2 hw;refine cY (h.1.1.st p u hu) λs2 f2 f3=>?_;have:Y.im t i=p:=by rw[e,L.aU s1 s2 h.1.2.1,f1 i ad0,f3]
 exact⟨u,w,by rw[this];exact hu,hw,e⟩
def Lt(Y:Pg α)(a b:α):Prop:=∃i,i<Y.n/\(∀k,k<i->Y.im a k=Y.im b k)/\Y.im a i<Y.im b i
def Lt.RV(h:Lt Y a b)(h':Lt Y b a):False:=by
 refine bF h λi i1 i2 i3=>bF h' λj j1 j2 j3=>?_;rcases acu i j with z|z|z
 .have:=j2 i z;exact aaJ i3 (abc this)
 .subst z;exact afQ i3 (aaE j3)
 .have:=i2 j z;exact aaJ j3 (abc this)
inductive LM(Y:Pg α):ad9->α->α->Prop
 |nil {u:α}:LM Y [] u u
 |cons {R:Rg α}{l:ad9}{u x:α}{p:Nat}{v:α}:(p,v)∈R->(∀q,q∈R.map (·.1)->Y.im u p<=Y.im u q)->LM Y l (Y.mul v u) x->LM Y (R::l) u x
theorem LM.least(L:cn Y):∀{l:ad9}{i:Nat}{u x:α},alk->Y.S u->LM Y l u x->(∃w,H Y l w/\x=Y.mul w u)/\∀w,H Y l w->x=Y.mul w u\/Lt Y x (Y.mul w u)
 |[],i,u,x,hv,hs,h=>by
  cases h;refine⟨⟨Y.one,rfl,(L.one_mul hs).symm⟩,λw hw=>?_⟩;have yv:w=Y.one:=hw;rw[yv,L.one_mul hs];exact .inl rfl
 |R::l,i,u,x,hv,hs,h=>by
  cases h;rename_i p v hp MS hl;refine cY hv λhV hi Ve=>cY (hV.st p v hp) λs2 f2 f3=>?_;obtain⟨⟨w',yv,ex⟩,ih⟩:=LM.least L Ve (L.sm s2 hs) hl;obtain⟨MR,W2⟩:=H.good L Ve yv;have hx:x=Y.mul (Y.mul w' v) u:=by rw[ex,L.assoc MR s2 hs]
  refine⟨⟨Y.mul w' v,⟨p,v,w',hp,yv,rfl⟩,hx⟩,?_⟩;rintro w ⟨p2,v2,w2,B3,W3,ew⟩;refine cY (hV.st p2 v2 B3) λs3 g2 g3=>?_;obtain⟨Q2,W4⟩:=H.good L Ve W3;by_cases e:p2=p
  .subst e;have:v2=v:=iI hV.nd B3 hp;subst this;rw[ew,L.assoc Q2 s3 hs];exact ih w2 W3
  .refine .inr ⟨i,hi,λk hk=>?_,?_⟩
   .rw[hx,ew,L.aU (L.sm MR s2) hs ajq,L.aU (L.sm Q2 s3) hs ajq,L.aU MR s2 ajq,L.aU Q2 s3 ajq,W2 k alw,W4 k alw,f2 k hk,g2 k hk]
   .rw[hx,ew,L.aU (L.sm MR s2) hs hi,L.aU (L.sm Q2 s3) hs hi,L.aU MR s2 hi,L.aU Q2 s3 hi,W2 i ad0,W4 i ad0,f3,g3];have h1:=MS p2 (amN ⟨_,B3,rfl⟩);have IF:p<Y.n:=by rw[<-f3];exact L.kA s2 hi
    have Vf:p2<Y.n:=by rw[<-g3];exact L.kA s3 hi
    have h2:Y.im u p≠Y.im u p2:=λz=>e (L.inj hs IF Vf z).symm;exact acB h1 h2
def fX(Y:Pg α)(M:α->Prop)(i p:Nat)(x:α):Prop:=M x/\iX Y x i/\Y.im x i=p/\∀t,M t->aue->Y.im t i=p->x=t\/Lt Y x t
def fX.Q3(h:al1)(h':fX Y M i p y):x=y:=by
 rcases h.2.2.2 y h'.1 h'.2.1 h'.2.2.1 with z|z
 .exact z
 .rcases h'.2.2.2 x h.1 h.2.1 h.2.2.1 with z'|z'
  .exact z'.symm
  .exact(z.RV z').elim
def Hm.best(L:cn Y)(hM:axS)(h:arO)(hu:aoS)(hx:LM Y l u x):al1:=by
 refine cY (h.step L hu) λm1 f1 f2=>?_;have hs:=hM.s u m1;obtain⟨⟨w,hw,ex⟩,least⟩:=LM.least L h.1.2.2 hs hx;obtain⟨mw,fw⟩:=((h.tail L).2 w).mp hw;have sw:=hM.s w mw;have hi:=h.1.2.1;refine⟨by rw[ex];exact hM.mul _ _ mw m1,?_,?_,λt ht hf hp=>?_⟩
 .rw[ex];exact iX.mul L sw hs azw (λk hk=>fw k alw) f1
 .rw[ex,L.aU sw hs hi,fw i ad0,f2]
 .refine bg (h.split L ht hf) λu' w' h1 h2 e=>?_;rw[hp]at h1;have:u'=u:=iI h.1.1.nd h1 hu;rw[e,this];exact least w' h2
def D2(L:cn Y)(hM:axS)(hi:i<Y.n):fX Y M i i Y.one:=by
 refine⟨hM.one,λk hk=>L.bK ajq,L.bK hi,λt ht hf hp=>?_⟩;have hs:=hM.s t ht;by_cases all:∀k,k<Y.n->Y.im t k=k
 .exact .inl (L.ext L.s1 hs λk hk=>by rw[L.bK hk,all k hk])
 .
  have ex:∃j,j<Y.n/\Y.im t j≠j/\∀k,k<j->Y.im t k=k:=by
   have key:∀m,m<=Y.n->(∀k,k<m->Y.im t k=k)\/∃j,j<m/\Y.im t j≠j/\∀k,k<j->Y.im t k=k:=λm=>by
    induction m with
    |zero=>intro _;exact .inl λk hk=>akA
    |succ m ih=>
     intro hm;rcases ih (aaE hm)with z|⟨j,z1,z2,z3⟩
     .by_cases e:Y.im t m=m
      .exact .inl λk hk=>by
        rcases abq k m with y|y
        .exact z k y
        .rw[show k=m by exact aen y hk];exact e
      .exact .inr ⟨m,ad0,e,z⟩
     .exact .inr ⟨j,(abr (aaE z1)),z2,z3⟩
   rcases key Y.n ad0 with z|⟨j,z1,z2,z3⟩
   .exact absurd z all
   .exact⟨j,z1,z2,z3⟩
  refine bF ex λj j1 j2 j3=> .inr ⟨j,j1,λk hk=>by rw[L.bK (aah hk (aaE j1)),j3 k hk],?_⟩;rw[L.bK j1];rcases acu (Y.im t j) j with z|z|z
  .have:=L.inj hs (L.kA hs j1) j1 (j3 _ z);exact absurd this (aaJ z)
  .exact absurd z j2
  .exact z
def Hz(Y:Pg α)(M:α->Prop):ad9->Nat->Prop
 |[],i=>i=Y.n
 |R::l,i=>i<Y.n/\(∀p x,(p,x)∈R->al1)/\(∀t,M t->aue->∃x,(als,x)∈R)/\(R.map (·.1)).Nodup /\Hz Y M l (i+1)
theorem Hz.hm(L:cn Y)(hM:axS):∀{l:ad9}{i:Nat},Hz Y M l i->Hm Y M l i
 |[],i,h=>by
  have h':i=Y.n:=h;refine⟨h,λt=>⟨λht=>?_,λ⟨h1,h2⟩=>?_⟩⟩
  .have e:t=Y.one:=ht;rw[e];exact⟨hM.one,λk hk=>L.bK (aah hk (aap h'))⟩
  .exact L.ext (hM.s t h1) L.s1 λk hk=>by rw[h2 k (aah hk (aap (abc h'))),L.bK hk]
 |R::l,i,⟨hi,hb,ha,nd,hl⟩=>by
  have ih:=Hz.hm L hM hl;have MT:(i,Y.one)∈R:=by
   obtain⟨x,hx⟩:=ha Y.one hM.one λk hk=>L.bK ajq;rw[L.bK hi]at hx;have:=(hb i x hx).Q3 (D2 L hM hi);rw[this]at hx;exact hx
  have hV:aBa:=⟨⟨λp u hu=>by
   exact Bl (hb p u hu) λb1 b2 b3 _=>⟨hM.s u b1,b2,b3⟩,MT,nd⟩,hi,ih.1⟩
  refine⟨hV,λt=>⟨?_,λ⟨h1,h2⟩=>?_⟩⟩
  .rintro⟨p,u,w,hu,hw,e⟩;refine Bl (hb p u hu) λb1 b2 b3 _=>?_;obtain⟨mw,fw⟩:=(ih.2 w).mp hw;rw[e];exact⟨hM.mul _ _ mw b1,iX.mul L (hM.s w mw) (hM.s u b1) azw (λk hk=>fw k alw) b2⟩
  .obtain⟨x,hx⟩:=ha t h1 h2;refine Bl (hb _ x hx) λb1 b2 b3 _=>?_;have st:=hM.s t h1;have sx:=hM.s x b1;have sI:=L.si sx;refine⟨_,x,Y.mul t (Y.inv x),hx,(ih.2 _).mpr ⟨hM.mul _ _ h1 (hM.inv _ b1),λk hk=>?_⟩,by rw[L.assoc st sI sx,L.inv_mul sx,L.mul_one st]⟩;rw[L.aU st sI asI];rcases abq k i with z|z
   .rw[h2 k z];exact iX.inv L sx azw b2 k z
   .have e:k=i:=(aen z hk);rw[e,<-b3,<-L.aU sx sI hi,L.bJ sx,L.bK hi]
noncomputable def TL(Y:Pg α):ad9->List α
 |[]=>[Y.one]
 |R::l=>R.flatMap λe=>(TL Y l).map λw=>Y.mul w e.2
theorem jx:∀{l:ad9}{t:α},t∈TL Y l↔H Y l t
 |[],t=>aak
 |R::l,t=>by
  unfold TL;simp only[abn,aao];constructor
  .rintro⟨e,he,w,hw,rfl⟩;exact⟨e.1,e.2,w,he,jx.mp hw,rfl⟩
  .rintro⟨p,u,w,hu,hw,e⟩;exact⟨(p,u),hu,w,jx.mpr hw,e.symm⟩
theorem oO(L:cn Y):∀{l:ad9}{i:Nat},alk->(TL Y l).Nodup
 |[],_,_=>by simp[TL]
 |R::l,i,⟨hV,hi,hl⟩=>by
  have ih:=oO L hl;have good:∀w,w∈TL Y l->Y.S w/\iX Y w (i+1):=λw hw=>H.good L hl (jx.mp hw);have key:∀{R':Rg α},(∀p u,(p,u)∈R'->Y.S u/\Y.im u i=p)->(R'.map (·.1)).Nodup ->(R'.flatMap λe=>(TL Y l).map λw=>Y.mul w e.2).Nodup :=λ{R'}=>by
   induction R' with
   |nil=>intro _ _;simp
   |cons e R' OR=>
    intro hs nd;rw[aaK,aaW]at nd;obtain⟨se,pe⟩:=hs e.1 e.2 aal;rw[adM,aby];refine⟨?_,OR (λp u h=>hs p u (ake h)) nd.2,λa ha b hb z=>?_⟩
    .refine abx.mpr (ih.imp_of_mem λ{a b} ha hb eG qq=>eG ?_);have sa:=(good a ha).1;have sb:=(good b hb).1;have sI:=L.si se;have:Y.mul (Y.mul a e.2) aDa=Y.mul (Y.mul b e.2) aDa:=congrArg (λx=>Y.mul x aDa) qq;rwa [L.assoc sa se sI,L.assoc sb se sI,L.bJ se,L.mul_one sa,L.mul_one sb]at this
    .refine aa (akj ha) λw hw ak=>?_;subst ak;refine aa (abn.mp hb) λe' As iY=>aa (akj iY) λw' yv aN=>?_;subst aN;obtain⟨ZT,ZU⟩:=hs e'.1 e'.2 (ake As);have h1:Y.im (Y.mul w e.2) i=e.1:=by rw[L.aU (good w hw).1 se hi,(good w hw).2 i ad0,pe]
     have h2:Y.im (Y.mul w' e'.2) i=e'.1:=by rw[L.aU (good w' yv).1 ZT hi,(good w' yv).2 i ad0,ZU]
     rw[z,h2]at h1;exact nd.1 (amN ⟨e',As,h1⟩)
  exact key (λp u h=>⟨(hV.st p u h).1,(hV.st p u h).2.2⟩) hV.nd
end
open Py
noncomputable def pg(s:Nat):Pg aa0 where
 n:=s
 S:=λp=>p∈perms s
 mul:=comp
 inv:=ip
 one:=bR s
 im:=λp k=>(p.getD k 0).toNat
section
variable {s:Nat}
def MU(hp:akl)(hk:k<s):p.getD k 0∈p:=getD_mem (by rw[aC hp];exact hk)
def D3(hp:akl)(hk:k<s):0<=p.getD k 0/\p.getD k 0<s:=(ay.mp hp).2.2 _ (MU hp hk)
def jd(hp:akl)(hk:k<s):p.getD k 0=(((pg s).im p k:Nat):Int):=by
 have:=D3 hp hk;show _=(((p.getD k 0).toNat :Nat):Int);exact abc (acr this.1)
def HA(hp:akl)(hk:k<s):(comp p q).getD k 0=q.getD (p.getD k 0).toNat 0:=by
 have hl:k<p.length:=by rw[aC hp];exact hk
 unfold comp;rw[aar,aau,aac hl,aar (l:=p),aac hl];rfl
def wN(hk:k<s):(bR s).getD k 0=(k:Int):=by
 unfold bR;rw[aar,aau,acw hk];rfl
def ai:cn (pg s) where
 s1:=et s
 sm:=λha hb=>bO ha hb
 si:=λha=>bS ha
 assoc:=λha hb _=>jv ha hb
 mul_one:=λha=>km ha
 one_mul:=λha=>oF ha
 bJ:=λha=>Hr ha
 inv_mul:=λha=>yQ ha
 bK:=λ{k} hk=>by
  show((bR s).getD k 0).toNat =k;rw[wN (s:=s) hk];exact afh _
 aU:=λ{a b k} ha hb hk=>by
  show((comp a b).getD k 0).toNat =(b.getD (a.getD k 0).toNat 0).toNat;rw[HA ha hk]
 kA:=λ{a k} ha hk=>by
  have:=D3 ha hk;show(a.getD k 0).toNat<s;exact Jy this.1 this.2
 ext:=λ{a b} ha hb h=>by
  apply abP;intro k;rcases abq k s with z|z
  .have h1:=jd ha z;have h2:=jd hb z;have h3:=h k z;rw[h3]at h1;have e:aC8:=h1.trans h2.symm;rw[aar,aar]at e;have la:k<a.length:=by rw[aC ha];exact z
   have lb:k<b.length:=by rw[aC hb];exact z
   rw[aac la,aac lb]at e⊢;simpa using e
  .rw[aaH (by rw[aC ha];exact z),aaH (by rw[aC hb];exact z)]
theorem yU:∀{a b:aa0},a.length=b.length->(br.bB a b=true↔ ∃i,i<a.length/\(∀k,k<i->aC8)/\a.getD i 0<b.getD i 0)
 |[],[],_=>by simp[br.bB]
 |[],_::_,h=>by simp at h
 |_::_,[],h=>by simp at h
 |x::a,y::b,h=>by
  have hl:a.length=b.length:=by simpa using h
  unfold br.bB;by_cases e:x=y
  .rw[aav e,yU hl];constructor
   .rintro⟨i,h1,h2,h3⟩;refine⟨i+1,by simpa using h1,λk hk=>?_,by simpa using h3⟩;cases k with
    |zero=>simpa using e
    |succ k=>simpa using h2 k (aaU hk)
   .rintro⟨i,h1,h2,h3⟩;cases i with
    |zero=>
     have:x<y:=by simpa using h3
     exact absurd e (Int.ne_of_lt this)
    |succ i=>exact⟨i,by simpa using h1,λk hk=>by simpa using h2 (k+1) (abr hk),by simpa using h3⟩
  .rw[aaC e];constructor
   .intro h;have:=of_decide_eq_true h;exact⟨0,by simp,λk hk=>akA,by simpa using this⟩
   .rintro⟨i,h1,h2,h3⟩;cases i with
    |zero=>exact decide_eq_true (by simpa using h3)
    |succ i=>exact absurd (by simpa using h2 0 (adE _ _)) e
def HB(ha:a∈perms s)(hb:b∈perms s):Lt (pg s) a b↔br.bB a b=true:=by
 have la:=aC ha;have lb:=aC hb;rw[yU (la.trans lb.symm),la];constructor
 .rintro⟨i,h1,h2,h3⟩;refine⟨i,h1,λk hk=>?_,?_⟩
  .rw[jd ha (adi hk h1),jd hb (adi hk h1),h2 k hk]
  .rw[jd ha h1,jd hb h1];lia
 .rintro⟨i,h1,h2,h3⟩;refine⟨i,h1,λk hk=>?_,?_⟩
  .show(a.getD k 0).toNat =(b.getD k 0).toNat;rw[h2 k hk]
  .have:=D3 ha h1;show(a.getD i 0).toNat<(b.getD i 0).toNat;lia
theorem D4(L:cn (pg s))(hG:∀u,G u->ais)(hu:Gen (pg s) G u):∀m,Gen (pg s) G (pw u m)
 |0=>by
  have hp:ais:=Gen.S L hG hu;have:pw u 0=bR s:=by show bR u.length=bR s;rw[aC hp]
  rw[this];exact .one
 |m+1=>by
  have:=Gen.app L hG (D4 L hG hu m) hu;exact this
def eC(h6:s<=6)(hG:∀u,G u->ais):dC (pg s) (ajV G) where
 s:=λt ht=>Gen.S ai hG ht
 one:= .one
 mul:=λa b ha hb=>Gen.app ai hG ha hb
 inv:=λa ha=>by
  have hp:a∈perms s:=Gen.S ai hG ha;refine Bl (DZ h6 hp) λo1 o2 o3 _=>?_;have e:comp a (pw a (AV a-1))=bR s:=by
   have:=DY hp 1 (AV a-1);rw[MO hp,show 1+(AV a-1)=AV a by exact aey _ _,o1]at this;exact this.symm
  have:ip a=pw a (AV a-1):=(AU hp (ku hp _) e).symm;show Gen (pg s) G (ip a);rw[this];exact D4 ai hG ha _
end
end eI
namespace eI
section
variable {α:Type}{Y:Pg α}
open Classical in
noncomputable def cU(Y:Pg α)(M:α->Prop)(i p:Nat):α:=@Classical.epsilon α ⟨Y.one⟩ (fX Y M i p)
def fY(h:al1):cU Y M i p=x:=(@afU α (fX Y M i p) ⟨x,h⟩).Q3 h
open Classical in
noncomputable def cN(Y:Pg α)(M:α->Prop)(i:Nat):Rg α:=((List.range Y.n).filter λp=>decide (∃x,al1)).map λp=>azO
def oP{l:ahj}(h:l.Pairwise (· < ·)):atf:=h.imp λz e=>(afQ z (aap (abc e)))
def Q4{l m:ahj}(h1:l.Pairwise (· < ·))(h2:m.Pairwise (· < ·))(h:∀a,a∈l↔a∈m):l=m:=
 ((acR (oP h1) (oP h2)).mpr h).eq_of_pairwise (λa b _ _ x y=>(adD (aaE x) (aaE y))) h1 h2
def D5(L:cn Y){i:Nat}(hi:i<Y.n)(hM:∀t,M t->Y.S t)(hb:∀p x,(p,x)∈R->al1)(ha:∀t,M t->aue->∃x,(als,x)∈R)(hs:(R.map (·.1)).Pairwise (· < ·)):R=cN Y M i:=by
 have keys:R.map (·.1)=(List.range Y.n).filter λp=>@decide (∃x,al1) ahR:=by
  refine Q4 hs (aes.sublist (aeY)) λp=>?_;rw[abe,aaY,aao];constructor
  .rintro⟨⟨q,x⟩,h1,h2⟩;have Ll:q=p:=h2;subst Ll;have b:=hb q x h1;exact⟨by rw[<-b.2.2.1];exact L.kA (hM x b.1) hi,@decide_eq_true _ ahR ⟨x,b⟩⟩
  .rintro⟨h1,h2⟩;obtain⟨x,b⟩:=@of_decide_eq_true _ ahR h2;obtain⟨y,hy⟩:=ha x b.1 b.2.1;rw[b.2.2.1]at hy;exact⟨(p,y),hy,rfl⟩
 unfold cN;rw[<-keys,aaV];have:R=R.map id:=(afK R).symm
 conv=>lhs;rw[this]
 refine acO λe he=>?_;show e=(e.1,cU Y M i e.1);rw[fY (hb e.1 e.2 he)]
def D6:((cN Y M i).map (·.1)).Pairwise (· < ·):=by
 unfold cN;rw[aaV];have:((λx:Nat×α=>x.1) ∘ λp=>azO)=id:=rfl;rw[this,afK];exact aes.sublist aeY
def oQ:∀p x,(p,x)∈cN Y M i->al1:=λp x h=>by
 refine aa azh λq hq e=>?_;cases e;obtain⟨y,hy⟩:=@of_decide_eq_true _ ahR (abe.mp hq).2;rw[fY hy];exact hy
noncomputable def ax(Y:Pg α)(M:α->Prop)(i:Nat):ad9:=(List.range' i (Y.n-i)).map (cN Y M)
theorem va(L:cn Y)(hM:axS)(vb:∀i t,i<Y.n->M t->aue->∃x,fX Y M i als x):∀(m i:Nat),i+m=Y.n->Hz Y M ((List.range' i m).map (cN Y M)) i
 |0,i,h=>by
  show i=Y.n;exact h
 |m+1,i,h=>by
  rw[aeJ,aaK];have hi:i<Y.n:=(VO (aap h) alx);refine⟨hi,oQ,λt ht hf=>?_,oP D6,va L hM vb m (i+1) (afg akS h)⟩;obtain⟨x,hx⟩:=vb i t hi ht hf;have hp:Y.im t i<Y.n:=L.kA (hM.s t ht) hi;exact⟨cU Y M i als,aao.mpr ⟨als,abe.mpr ⟨aaY.mpr hp,@decide_eq_true _ ahR ⟨x,hx⟩⟩,rfl⟩⟩
theorem D7(f:β->Nat):∀{l:aoK},l≠[]->∃e∈l,∀e'∈l,f e<=f e'
 |[],h=>absurd rfl h
 |[x],_=>⟨x,aio,λy hy=>by rw[aak.mp hy];exact aam _⟩
 |x::y::l,_=>by
  refine aa (D7 f (l:=y::l) ab5) λe h1 h2=>?_;by_cases c:f x<=f e
  .refine⟨x,aal,λz hz=>?_⟩;rcases aat.mp hz with rfl|hz
   .exact aam _
   .exact aaf c (h2 z hz)
  .refine⟨e,aag _ h1,λz hz=>?_⟩;rcases aat.mp hz with rfl|hz
   .exact aaE (Nat.lt_of_not_le c)
   .exact h2 z hz
theorem LM.ex:∀{l:ad9}{i:Nat},alk->∀u,∃x,LM Y l u x
 |[],_,_,u=>⟨u,.nil⟩
 |R::l,i,⟨hV,_,hl⟩,u=>by
  refine aa (D7 (λe:Nat×α=>Y.im u e.1) (l:=R) (λz=>by have:=hV.one;rw[z]at this;cases this)) λe h1 h2=>?_;obtain⟨x,hx⟩:=LM.ex hl (Y.mul e.2 u);refine⟨x,.cons (p:=e.1) (v:=e.2) h1 (λq hq=>?_) hx⟩;refine aa (akj hq) λe' As ak=>?_;subst ak;exact h2 e' As
theorem Hm.yV(L:cn Y)(hM:axS):∀{l:ad9}{i:Nat},Hm Y M l i->∀j t,i<=j->j<Y.n->M t->iX Y t j->∃x,fX Y M j (Y.im t j) x
 |[],i,h,j,t,h1,h2,_,_=>by
  have:i=Y.n:=h.1;exact absurd h1 (afQ (aah h2 aqi))
 |R::l,i,h,j,t,h1,h2,ht,hf=>by
  rcases abq i j with z|z
  .exact Hm.yV L hM (h.tail L) j t (z) h2 ht hf
  .have e:j=i:=(adD z h1);subst e;refine bg (h.split L ht hf) λu w hu _ _=>?_;obtain⟨x,hx⟩:=LM.ex h.1.2.2 u;exact⟨x,h.best L hM hu hx⟩
def D8(L:cn Y)(hM:axS)(h:Hm Y M l 0):Hz Y M ayE 0/\(∀t,t∈TL Y ayE↔M t)/\(TL Y ayE).Nodup :=by
 have hl:Hz Y M ayE 0:=va L hM (λi t hi ht hf=>h.yV L hM i t ao6 hi ht hf) _ 0 azt;have hm:=hl.hm L hM;refine⟨hl,λt=>?_,oO L hm.1⟩;rw[jx,hm.2 t];exact⟨λz=>z.1,λz=>⟨z,λk hk=>akA⟩⟩
def Fd.hm(L:cn Y)(hG:∀u,G u->Y.S u)(h:Fd Y G l []):Hm Y (Gen Y G) l 0:=
 ⟨h.v,λt=>⟨λz=>⟨(h.done L hG t).mp z,λk hk=>akA⟩,λz=>(h.done L hG t).mpr z.1⟩⟩
end
section
variable {α β:Type}{act:β->α->β}{b t:β}{G D:agM}{B W:aoK}
inductive EN(act:β->α->β)(b:β)(G:agM):β->Prop
 |one:EN act b G b
 |mul:EN act b G x->g∈G->EN act b G (act x g)
structure Al(act:β->α->β)(b:β)(G:agM)(B W:aoK):Prop where
 one:b∈B
 nd:B.Nodup
 wb:∀x∈W,x∈B
 gen:∀x∈B,EN act b G x
 out:∀x∈B,x∉W->∀g∈G,act x g∈B
def ZV:Al act b G [b] [b] where
 one:=aak.mpr rfl
 nd:=by simp
 wb:=λ_ h=>h
 gen:=λx hx=>by rw[aak.mp hx];exact .one
 out:=λx hx h=>absurd hx h
structure Am(act:β->α->β)(b:β)(G:agM)(t:β)(D:agM)(B W:aoK):Prop where
 one:b∈B
 nd:B.Nodup
 wb:∀x∈W,x∈B
 gen:∀x∈B,EN act b G x
 tb:t∈B
 out:∀x∈B,x∉W->x≠t->∀g∈G,act x g∈B
 now:∀g∈D,act t g∈B
def Al.start(h:Al act b G B av8):Am act b G t [] B W where
 one:=h.one
 nd:=h.nd
 wb:=λx hx=>h.wb x (aw8 hx)
 gen:=h.gen
 tb:=h.wb t aqu
 out:=λx hx h1 h2=>h.out x hx λz=>(aay.mp z).elim h1 λz=>h2 (aak.mp z)
 now:=λ_ h=>nomatch h
def Am.old(h:auC)(hg:act t g∈B):Am act b G t (D++[g]) B W:=
 ⟨h.one,h.nd,h.wb,h.gen,h.tb,h.out,λx hx=>(aay.mp hx).elim (h.now x) λz=>by rw[aak.mp z];exact hg⟩
def Am.new(h:auC)(hG:g∈G)(hg:act t g∉B):Am act b G t (D++[g]) (B++[act t g]) (W++[act t g]) where
 one:=aaA _ h.one
 nd:=by
  rw[aby];exact⟨h.nd,by simp,λa ha b hb e=>hg (by rw[<-aak.mp hb,<-e];exact ha)⟩
 wb:=λx hx=>(aay.mp hx).elim (λz=>aaA _ (h.wb x z)) λz=>aaw _ z
 gen:=λx hx=>(aay.mp hx).elim (h.gen x) λz=>by
  rw[aak.mp z];exact .mul (h.gen t h.tb) hG
 tb:=aaA _ h.tb
 out:=λx hx h1 h2 g' EM=>by
  rcases aay.mp hx with z|z
  .exact aaA _ (h.out x z (λy=>h1 (aw8 y)) h2 g' EM)
  .exact absurd (aaw _ z) h1
 now:=λx hx=>(aay.mp hx).elim (λz=>aaA _ (h.now x z)) λz=>by
  rw[aak.mp z];exact aaw _ aio
def Am.fin[DecidableEq β](h:auC)(hD:∀g∈G,g∈D):Al act b G B W where
 one:=h.one
 nd:=h.nd
 wb:=h.wb
 gen:=h.gen
 out:=λx hx hw g hg=>by
  by_cases e:x=t
  .rw[e];exact h.now g (hD g hg)
  .exact h.out x hx hw e g hg
def Al.done(h:Al act b G B [])(t:β):t∈B↔EN act b G t:=by
 refine⟨h.gen t,λz=>?_⟩;induction z with
 |one=>exact h.one
 |mul _ hu ih=>exact h.out _ ih ab5 _ hu
end
def yW:EN Py.comp (Py.bR s) G t↔Gen (pg s) (· ∈G) t:=by
 constructor
 .intro h;induction h with
  |one=>exact .one
  |mul _ hu ih=>exact .mul ih hu
 .intro h;induction h with
  |one=>exact .one
  |mul _ hu ih=>exact .mul ih hu
def D9(hG:∀u∈G,u∈Py.perms s)(h:EN Py.comp (Py.bR s) G t):t∈Py.perms s:=Gen.S ai hG (yW.mp h)
end eI
namespace dD
open Py
noncomputable abbrev lo1:C:=(.seq (.ifs (.zO true asm 4) aq6 .skip) (ajP (axA (apb (.w 2 (.o (.call 2 (.o (.nD 4 asm)))))))))
noncomputable abbrev Vg:C:=(.seq (.app 2 (apb (.w 1 (.u 4)))) (ajP (.app 2 (apb (.w 4 (.u 1))))))
noncomputable abbrev Vh:C:=(ajP (.for [4] 0 (.dv 3) Vg))
noncomputable abbrev Vi:C:=(.seq (.asg 5 (.prim .min (.o au_))) (ajP (aB_ (apb (.cons (.nD 4 (.fj .index amW (.u 5))) (.u 3))))))
noncomputable abbrev oT:E:= .it (.sl ac3 (.o (aDJ ae6)) .nil)
noncomputable abbrev oR:E:= .call 6 (.w 1 (.w 2 (.o (.nD 3 ac3))))
noncomputable abbrev oS:E:= .tup (.w 0 (.o oR))
noncomputable abbrev Sj:C:=(.seq (.asg 7 (avK (.w 5 (.u 6)))) (ajP (.ifs (aB8 alI) (.seq aB2 (aB9 aBv)) .skip)))
noncomputable abbrev Q5:C:=(.seq ayK (ajP aDt))
noncomputable abbrev Jn:E:=(.comp [3,5] 0 aw1 (.o (.BP true (.cons (.cmp .Eq (.sl ac3 .nil (.u 1)) asN) (.o (.cmp .Eq aso aib))))) ac3)
noncomputable abbrev W5:C:=(.seq (.bY 6 Jn) (ajP (.ifs (amO alb) (aB9 (.app 4 arF)) .skip)))
noncomputable abbrev W6:C:=(.seq (arh 4) (.seq (.for [5] 0 ajE W5) (ajP (.app 2 (aj0 (.u 4))))))
noncomputable abbrev Sl:E:= .comp [] 0 atG .nil (.idx ac3 akU)
noncomputable abbrev Q6:C:=(.seq (.bY 6 (aks .nil)) (.seq (.ifs atW (ajP (akL (.c .cv))) .skip) (.seq (.asg 7 (.fj .rg alb (.o (.idx amW aia)))) (.seq (axA (.bin .Add (.bin .Mult aib (.prim .len (.u 5))) alI)) (ajP (aB_ (apb (.w 3 (.o (.call 2 (.o (.idx (.idx (.var 5) alI) akU))))))))))))
noncomputable abbrev ZW:C:=(.seq (aB_ (.call 8 (.cons (.bin .Add (axz 10) (akb (.u 7))) (.o (.prim .len (.u 3)))))) (ajP aBv))
noncomputable abbrev Sn:C:=(.seq (.asg 7 (.call 14 (.w 5 (.u 6)))) (ajP (.ifs auD ZW .skip)))
noncomputable abbrev Sr:C:=(.seq ayK (ajP (.for [6] 0 atG Sn)))
noncomputable abbrev W7:E:=(.comp [4] 0 atH .nil (apb (.w 0 (.o (.idx ae6 akU)))))
noncomputable abbrev W8:C:=(ajP (.ext 3 W7))
noncomputable abbrev W9:C:=(.seq (arh 3) (.seq (.for [4] 0 atG W8) (ajP (.OK 1 3))))
noncomputable abbrev Vj:E:=(.comp [3] 0 atH .nil (amP 19))
noncomputable abbrev W_:E:=(.comp [4] 0 atH .nil (amP 14))
noncomputable abbrev ZX:C:=(.seq (.asg 5 (.sset W_)) (.seq (.app 2 (aj0 (.u 5))) (ajP (.upd 3 ah4))))
noncomputable abbrev Vk:C:=(ajP (.ifs (aB8 aia) ZX .skip))
noncomputable abbrev Xa:E:=(axc [6])
noncomputable abbrev Xb:C:=(.seq (.asg 7 (aj0 (.o (.sset Xa)))) (ajP (.ifs avA (aB9 (.app 5 alI)) .skip)))
noncomputable abbrev T4:E:=(.comp [6] 0 atG .nil (avK (.cons (aka 28) (.o (amP 31)))))
noncomputable abbrev Xc:C:=(ajP (.bY 9 (.bin .Add (.var 9) T4)))
noncomputable abbrev ZY:E:=(axc [12])
noncomputable abbrev Xd:C:=(ajP (.bY 11 (.bin .Add (.var 11) ZY)))
noncomputable abbrev Xe:C:=(.seq (.asg 15 (avK (.cons (.call 28 (.o (.call 27 (.w 6 (.u 14))))) (.o (.call 27 (.w 14 (.u 6))))))) (ajP (at0 (.cmp .NotIn (.var 15) (.var 13)))))
noncomputable abbrev Xf:C:=(ajP (.for [14] 0 atG Xe))
noncomputable abbrev Vl:C:=(.seq (aB_ (.call 8 (.w 2 (.u 1)))) (.seq (.asg 4 (.call 29 (.w 2 (.u 1)))) (.seq (arh 5) (.seq (.for [6] 0 (.it aia) Xb) (.seq (at0 (.cmp .NotEq (axz 21) (aj0 (.u 5)))) (.seq (.bY 8 (aks (.o (.cmp .Eq ahb akU)))) (.seq (at0 (.cmp .NotEq (axz 18) (.call 30 (.w 8 (.u 1))))) (.seq (arh 9) (.seq (.for [6] 0 (.it aia) Xc) (.seq (.asg 10 (axz 20)) (.seq (arh 11) (.seq (.for [12] 0 (.it (.sset (.var 9))) Xd) (.seq (at0 (.cmp .NotEq (.var 10) (.call 30 (axx (.call 29 (.cons (.sset (.var 11)) (.u 1))))))) (.seq (.asg 13 (.call 9 (.u 10))) (.seq (.for [6] 0 atG Xf) (ajP (akL (.c ag4))))))))))))))))))
noncomputable def d3:Fd:=⟨2,5,(.seq (axA ae6) (.seq (.for [3,4] 2 (.Ba ac3) lo1) aq6))⟩
noncomputable def d4:Fd:=⟨2,5,(axv (.seq (.for [3] 0 aw1 Vh) aq6))⟩
noncomputable def d5:Fd:=⟨2,7,(.fst 2 [1] ajE ac3 (aka 0) (ami 3) 3 4 3 (.bY 5 am9) 5 (.asg 6 asP) alb asn aia 4 aia)⟩
noncomputable def d6:Fd:=⟨3,6,(.seq (aB_ aib) (.seq (.for [4] 0 oT Vi) (ajP (akL amW))))⟩
noncomputable def d7:Fd:=⟨2,3,(.seq (axA aso) (ajP (akL (aj0 (.o (.comp [0,1,2] 0 (.it (.i6 2)) .nil oS))))))⟩
noncomputable def d8:Fd:=⟨2,3,(.seq (axA (apc 5)) (ajP (akL (aj0 (.o (.comp [2] 0 ajE .nil (amP 7)))))))⟩
noncomputable def d9:Fd:=⟨1,5,(.seq (.bY 1 (aj1 (.o (.call 0 (.o ahb))))) (.seq (.for [2] 0 (.Nm ac3) W9) (ajP (akL (aj0 (.o (.prim .sorted (.u 1))))))))⟩
noncomputable def Q7:Fd:=⟨1,3,(.seq (arh 1) (ayn (.for [2] 0 aw1 (ajP aDu))))⟩
noncomputable def Q8:Fd:=⟨2,2,(ajP (akL (.cmp .IsNot (apc 12) (.c .cv))))⟩
noncomputable def Q9:Fd:=⟨2,8,(.seq (axA amL) (.seq (aB_ ae6) (.seq (.for [4,5] 2 (.Ba ac3) Q6) aq6)))⟩
noncomputable def Q_:Fd:=⟨2,2,(ajP (akL (.prim .all (.o (.comp [1] 0 (.it (anV 10)) .nil (amP 11))))))⟩
noncomputable def MV:Fd:=⟨2,2,(ajP (akL (apb (axx (.call 1 (.cons (aka 2) (.u 0)))))))⟩
noncomputable def MW:Fd:=⟨2,2,(ajP (.ifs (.not (apc 13)) (aB9 (.raise 3)) .skip))⟩
noncomputable def Vm:Fd:=⟨2,8,(.seq (.expr (apc 15)) (.seq (axA (aka 10)) (.seq (aB_ ac3) (.seq (.bY 4 (.prim .list (.o (anV 10)))) (.seq (.nH 4 Sr) (ajP (akL amW)))))))⟩
noncomputable def Vn:Fd:=⟨2,2,(ajP (akL (.prim .all (.o (.comp [0] 0 atH .nil (.cmp .Eq (amP 1) (apc 1)))))))⟩
noncomputable def Vo:Fd:=⟨1,2,(.seq (aCa (anV 10)) (ajP (akL (.call 8 (.cons (aj0 (.o (.comp [1] 0 (.it (anV 9)) (.o (apc 17)) ac3))) (.o ahb))))))⟩
noncomputable def Vp:Fd:=⟨2,2,(ajP (akL (apb (.cons (.call 1 (.cons (anV 2) (.o (aka 2)))) (.o (.call 1 ajN))))))⟩
noncomputable def Vq:Fd:=⟨1,4,(.seq (aCa (anV 10)) (axv (.seq (.for [3] 0 atH (ajP (.ext 2 Vj))) (ajP (akL (.call 16 (.cons (.call 8 (.cons (aj0 (.u 2)) (.o ahb))) (.u 0))))))))⟩
noncomputable def Vr:Fd:=⟨1,6,(.seq (aCa (anV 9)) (axv (.seq (.BS 3) (.seq (.for [4] 0 atH Vk) ah3))))⟩
noncomputable def NI:Fd:=⟨2,8,(.seq (axA asN) (.seq au9 (.seq (.bY 4 (aj1 (.u 2))) (.seq (.while aA2 Q5) (ajP (akL (.i6 3)))))))⟩
noncomputable def Ra:Fd:=⟨2,7,(axv (.seq (.for [3] 0 ajE W6) ah3))⟩
noncomputable def Vs:Fd:=⟨2,2,(ajP (akL (avK (axx (.call 27 (.cons (aka 28) (.u 0)))))))⟩
noncomputable def MX:Fd:=⟨1,2,(.seq (aCa (.tup (.cons (akb (.cons aiR (.o (.tup (.cons amL (avH (.cons (.ci 3) (av5 (.cons azN (.o aDw)))))))))) (.cons (akb (.cons (.tup (avH (av5 (apr amL)))) (.o (.tup (avI (.cons aDw (.cons azN (.cons amL (.cons akU (.o (.ci 2))))))))))) (.o (akb (.o aiQ))))))) (.seq (aCa (aDI (akb (.o (.tup (.cons aiQ (.o (.tup (.cons azN (.cons aDw (avI (av5 (.cons akU (.o amL)))))))))))))) (.seq (aCa (aDI (akb (.o (.tup (.cons (.tup (avH (av5 (.cons amL (.cons (.ci 3) (.cons aDw (.o azN))))))) (.cons (.tup (.cons amL (avH (apr (.ci 2))))) (.o aiR)))))))) asf)))⟩
noncomputable def Rb:Fd:=⟨1,16,(.seq (aCa (.bin .Add akU (.bin .Mod (.call 23 (.w 0 (.o amL))) aDw))) (.seq (.ifs (anE akU) (ajP (aCa azN)) .skip) ae2))⟩
noncomputable def T:List Fd:=[kn,fc,oJ,d3,d4,d5,d6,d7,d8,d9,Q7,Q8,Q9,Q_,MV,MW,Vm,Vn,Vo,Vp,Vq,Vr,ic,oD 22,iG,lI 24,jc 25 24,fc,gp,NI,Ra,Vs,MX,Rb]
open eI
noncomputable abbrev kR(R:ap6):aa_:=R.map λe=>[(e.1:Int)]
noncomputable abbrev vR(R:ap6):ac1:=R.map λe=>tp e.2
noncomputable def aD(R:ap6):D:= .bA 0 (kR R) (vR R)
theorem iK:∀(R:ap6) (k:Nat),iU (kR R) (vR R) [(k:Int)]=(dH R k).map tp
 |[],k=>rfl
 |e::R,k=>by
  show iU ([(e.1:Int)]::kR R) (tp e.2::vR R) [(k:Int)]=_;rw[iU];unfold dH;rw[acN];by_cases h:e.1=k
  .subst h;rw[aav rfl];simp
  .have h':¬([(e.1:Int)]=[(k:Int)]):=λz=>h (by injection z with z _;exact adm z);rw[aaC h',iK R k];have:(e.1==k)=false:=by simp[h]
   rw[this];rfl
def D_{k:Nat}:[(k:Int)]∈kR R↔dH R k≠none:=by
 constructor
 .intro h z;refine aa azh λe he hk=>?_;have:e.1=k:=by injection hk with hk _;exact adm hk
  exact iJ z aA3
 .intro h;cases z:dH R k with
  |none=>exact absurd z h
  |some u=>exact aao.mpr ⟨_,b9 z,rfl⟩
section
variable {s:Nat}{F:FT}
def ij(ht:ac4)(hk:k<s):item (tp t) agP=some (amh ((pg s).im t k:Nat)):=by
 rw[yP akT (by rw[aC ht];lia)];show some (D.int (t.getD (k:Int).toNat 0))=_;rw[abN,jd ht hk]
def mU(a b:Nat):((a:Int)==(b:Int))=decide (a=b):=by
 by_cases h:a=b
 .rw[h,decide_eq_true rfl];exact beq_self_eq_true _
 .rw[decide_eq_false h];exact beq_eq_false_iff_ne.mpr λz=>h (adm z)
theorem VL.len:∀{l:af6}{i:Nat},alk->i+l.length=Y.n
 |[],i,h=>h
 |R::l,i,h=>by
  have:=VL.len h.2.2;rw[aaF];lia
noncomputable abbrev LE(x0 x1:aa9)(t:aa0)(x3 x4:aa9):Env:=[x0,x1,ad_,x3,x4]
def HC(ht:∀p∈perms s,∀q∈perms s,ab6)(hb:∀p∈perms s,ahr){x0 x1 x3 x4:aa9}(hi:i<s)(hv:av9)(hp:ac4):
  ex F lo1 ai5=match dH R akV with
   |some u=>some (ajW (LE x0 x1 (comp t (ip u)) ar3 (vf (aD R))))
   |none=>some (akL (tp t)):=by
 have HD:ev F false (.zO true asm 4) ai5=some (.bl (!decide ([((pg s).im t i:Int)]∈kR R))):=by
  rw[OP,show ev F false asm ai5=_ from ij hp hi];rfl
 cases e:dH R akV with
 |none=>
  rw[decide_eq_false λz=>D_.mp z e]at HD;exact xZ HD rfl
 |some u=>
  rw[decide_eq_true (D_.mpr (by rw[e];simp))]at HD;have hu:ais:=(hv.st _ _ (b9 e)).1;refine xN HD (xA (ae (a_ rfl (ae (cy (WY (q:=(0,kR R,vR R)) rfl (ij hp hi) ?_)) (hb u hu) (af _))) (ht t hp _ (bS hu)) (af _)) rfl);show iU (kR R) (vR R) [((pg s).im t i:Int)]=_;rw[iK,e];rfl
theorem yX(ht:∀p∈perms s,∀q∈perms s,ab6)(hb:∀p∈perms s,ahr){x0 x1:aa9}:∀{l:af6}{i:Nat}{t:aa0}{x3 x4:aa9},aqv->ac4->
  ∃o,aL (λx ρ=>(aB 2 x).bind λys=>(cF ρ [3,4] ys).bind λρ'=>ex F lo1 ρ') (aO i ajA) (LE x0 x1 t x3 x4)=some o/\(o= .ret (tp (dB (pg s) l i t))\/∃y3 y4,o= .next (LE x0 x1 (dB (pg s) l i t) y3 y4))
 |[],i,t,x3,x4,_,_=>⟨_,rfl,.inr ⟨x3,x4,rfl⟩⟩
 |R::l,i,t,x3,x4,hv,hp=>by
  have hi:i<s:=hv.2.1;have h1:=HC (x0:=x0) (x1:=x1) (x3:=x3) (x4:=x4) ht hb hi hv.1 hp;show∃o,aL _ (.tup [agF,aD R]::aO ((i:Int)+1) ajA) _=some o/\_;rw[aL];show∃o,(ex F lo1 ai5).bind _=some o/\_;rw[h1];unfold dB;cases e:dH R akV with
  |none=>exact⟨_,rfl,agR⟩
  |some u=>
   have hu:ais:=(hv.1.st _ _ (b9 e)).1;have:=yX ht hb (x0:=x0) (x1:=x1) (l:=l) (i:=i+1) (t:=comp t (ip u)) (x3:=vf agF) (x4:=vf (aD R)) hv.2.2 (bO hp (bS hu));rw[show(((i+1:Nat):Int))=(i:Int)+1 by exact Int.natCast_add _ _]at this;exact this
def HE(ht:∀p∈perms s,∀q∈perms s,ab6)(hb:∀p∈perms s,ahr)(hv:ajd)(hp:ac4):
  ex F d3.body (aw d3 [ac8,tp t])=some (akL (tp aif)):=by
 refine aa (yX ht hb (x0:=vf ac8) (x1:=vf (tp t)) (x3:=none) (x4:=none) hv hp) λo h1 h2=>?_;rcases h2 with rfl|⟨y3,y4,rfl⟩
 .exact xA rfl (MJ h1)
 .exact xA rfl aqf
noncomputable def vc(r:aa0)(R:ap6):aa_:=R.flatMap λe=>[comp r e.2,comp e.2 r]
noncomputable def bE(r:aa0)(l:af6):aa_:=l.flatMap (vc r)
theorem kB(r:aa0):∀R:ap6,(vc r R).length =2*R.length
 |[]=>rfl
 |e::R=>by
  show([comp r e.2,comp e.2 r]++vc r R).length =_;rw[aan,kB r R,aaF];simp;exact aey _ _
noncomputable abbrev PE(x0:aa9)(r:aa0)(acc:aa_)(x3 x4:aa9):Env:=[x0,ah5,aky,x3,x4]
def dh(h:aq0)(hi:ρ[i]?=some (ajU (true,agN)))(hl:xs.length<bX):ex F (.app i e) ρ=some aA7:=by
 rw[TY,h];show(match ρ[i]? with
  |some (some (true,.lst xs))=>if xs.length<bX then some (kU.next ahY) else none
  |_=>none)=_
 rw[hi];exact aav hl
def HF(ht:∀p∈perms s,∀q∈perms s,ab6)(hr:alY)(hu:ais)(hl:acc.length+2<=10000):
  ex F Vg (aBE aoz)=some (ajW (PE x0 r (acc++[axT,comp u r]) x3 aoz)):=by
 have e2:acc.map tp++[tp axT]++[tp (comp u r)]=(acc++[axT,comp u r]).map tp:=by rw[aaM,aaL];rfl
 refine xG (dh (aj8 (ht r hr u hu)) (xs:=acc.map tp) rfl ?_) (xG (dh (aj8 (ht u hu r hr)) (xs:=acc.map tp++[tp axT]) rfl ?_) (by rw[e2];rfl))
 .rw[aad];exact aah (aaE hl) aa2
 .rw[aan,aad];exact aah hl aa2
theorem Jo(ht:∀p∈perms s,∀q∈perms s,ab6)(hr:alY):∀{R:ap6}{acc:aa_}{x4:aa9},(∀e∈R,aqq)->acc.length+2*R.length<=10000->
  ∃y4,aL (λx ρ=>(aB 0 x).bind λys=>(cF ρ [4] ys).bind λρ'=>ex F Vg ρ') (vR R) (aBE x4)=some (ajW (PE x0 r (acc++vc r R) x3 y4))
 |[],acc,x4,_,_=>⟨x4,by show some asA=_;rw[show vc r []=[] from rfl,abf]⟩
 |e::R,acc,x4,h,hl=>by
  rw[aaF]at hl;have hu:=h e aal;obtain⟨y4,ih⟩:=Jo ht (x0:=x0) (x3:=x3) hr (R:=R) (acc:=acc++[comp r e.2,comp e.2 r]) (x4:=vf (tp e.2)) (λe' As=>h e' (ake As)) (by rw[aan];simp;exact NO akS hl);refine⟨y4,?_⟩;exact(gz (HF ht hr hu (s_ hl (adE _ _)))).trans (by rw[ih,aaL];rfl)
theorem Ea(ht:∀p∈perms s,∀q∈perms s,ab6)(hr:alY):∀{l:af6}{acc:aa_}{x3 x4:aa9},(∀R∈l,∀e∈R,aqq)->acc.length+(bE r l).length <=10000->
  ∃y3 y4,aL (λx ρ=>(aB 0 x).bind λys=>(cF ρ [3] ys).bind λρ'=>ex F Vh ρ') ajA (aBE x4)=some (ajW (PE x0 r (acc++bE r l) y3 y4))
 |[],acc,x3,x4,_,_=>⟨x3,x4,by show some asA=_;rw[show bE r []=[] from rfl,abf]⟩
 |R::l,acc,x3,x4,h,hl=>by
  have e0:bE r (R::l)=vc r R++bE r l:=rfl;rw[e0,aan,kB]at hl;obtain⟨z4,i1⟩:=Jo ht (x0:=x0) (x3:=vf (aD R)) hr (R:=R) (acc:=acc) (x4:=x4) (h R aal) (VN hl (adU alx _));refine EW (Ea ht (x0:=x0) hr (l:=l) (acc:=acc++vc r R) (x3:=vf (aD R)) (x4:=z4) (λR' ZZ=>h R' (ake ZZ)) (by rw[aan,kB];exact NO (acH _ _ _) hl)) λy3 y4 ih=>⟨y3,y4,?_⟩;refine afg (gz (c:=Vh) (xG i1 rfl)) ?_;rw[ih,e0,aaL]
def HG(ht:∀p∈perms s,∀q∈perms s,ab6)(hr:alY)(h:∀R∈l,∀e∈R,aqq)(hl:(bE r l).length <=10000):
  ex F d4.body (aw d4 [ac8,tp r])=some (akL amc):=
 EW (Ea ht (x0:=vf ac8) hr (l:=l) (acc:=[]) (x3:=none) (x4:=none) h (by simpa using hl)) λy3 y4 h1=>xB (xs:=[]) rfl aqf
end
end dD
namespace eI
section
variable {α:Type}{Y:Pg α}
theorem mV(hM:axS):∀{l:ad9}{i:Nat}{t:α},(∀u,awa->M u)->M t->M ali
 |[],_,_,_,h=>h
 |R::l,i,t,hs,h=>by
  unfold dB;cases e:dH R als with
  |none=>exact h
  |some u=>exact mV hM (λv ⟨R',hR,q⟩=>hs v ⟨R',aag _ hR,q⟩) (hM.mul _ _ h (hM.inv _ (hs u ⟨R,aal,_,b9 e⟩)))
theorem yY:∀{l:ad9}{k:Nat}{R:Rg α},l[k]?=some R->add l k x=l.set k (R++[x])
 |[],_,_,h=>by simp at h
 |R::l,0,_,h=>by simp at h;subst h;rfl
 |R::l,k+1,R',h=>by
  show R::add l k x=R::l.set k (R'++[x]);rw[yY (by simpa using h)]
noncomputable def cnt:ad9->Nat
 |[]=>0
 |R::l=>R.length+cnt l
theorem yZ:∀{l:ad9}{k:Nat}{R:Rg α},l[k]?=some R->cnt (anC x)=cnt l+1
 |[],_,_,h=>by simp at h
 |R::l,0,_,h=>by
  show(R++[x]).length+cnt l=R.length+cnt l+1;rw[aan,abb];exact aaZ _ _ _
 |R::l,k+1,R',h=>by
  show R.length+cnt (anC x)=R.length+cnt l+1;rw[yZ (by simpa using h)];exact afh _
def Eb{l:ahj}(nd:atf)(h:∀k∈l,k<n):l.length<=n:=by
 have:(l.map λk:Nat=>(k:Int)).length <=n:=Py.sF n _ (by
  rw[abu,abx];exact nd.imp λh e=>h (adm e)) λx hx=>by
   refine aa avY λk hk ak=>?_;subst ak;have:=h k hk;lia
 rwa [aad]at this
theorem sJ(L:cn Y):∀{l:ad9}{i:Nat},alk->cnt l<=l.length*Y.n
 |[],_,_=>by simp[cnt]
 |R::l,i,⟨hv,hi,hl⟩=>by
  have h1:R.length<=Y.n:=by
   have:=Eb hv.nd (n:=Y.n) λp hp=>by
    refine aa (akj hp) λe he ak=>?_;subst ak;refine cY atl λs1 _ s3=>?_;rw[<-s3];exact L.kA s1 hi
   rwa [aad]at this
  have:=sJ L hl;show R.length+cnt l<=(l.length+1)*Y.n;rw[Nat.add_mul];lia
end
end eI
namespace dD
open Py eI
section
variable {s:Nat}{F:FT}
theorem lJ(r:aa0):∀l:af6,(bE r l).length =2*cnt l
 |[]=>rfl
 |R::l=>by
  show(vc r R++bE r l).length =2*(R.length+cnt l);rw[aan,kB,lJ r l];lia
def AW(h:awa):comp u r∈bE r l/\comp r u∈bE r l:=by
 obtain⟨R,hR,p,hp⟩:=h;have h1:∀x,x∈[axT,comp u r]->x∈bE r l:=λx hx=>abn.mpr ⟨R,hR,abn.mpr ⟨(p,u),hp,hx⟩⟩;exact⟨h1 _ ab5,h1 _ ab5⟩
def Ec(hM:aiV)(hr:M r)(hs:∀u,awa->M u):∀x∈bE r l,M x:=λx hx=>by
 refine aa (abn.mp hx) λR hR hx=>aa (abn.mp hx) λe he hx=>?_;have hu:=hs e.2 ⟨R,hR,e.1,he⟩;rcases aat.mp hx with z|z
 .rw[z];exact hM.mul _ _ hr hu
 .rw[aak.mp z];exact hM.mul _ _ hu hr
noncomputable def lK(s:Nat)(r:aa0):ahj:=(List.range s).filter λk=>decide aiX
noncomputable abbrev FE(x0:aa9)(s:Nat)(W:aa_)(x4 x5 x6:aa9):Env:=[x0,apf,some (true,v_),akP,x4,x5,x6]
noncomputable abbrev Ss:C:=(.bY 5 am9)
def gq(n:Nat):bT 0 n=(List.range n).map λ(k:Nat)=>D.int (k:Int):=by
 rw[ef];unfold bR;rw[aaV];rfl
def HH{n:Nat}{g:Nat->D}(h1:avW)(hn:aAD)(hc:∀k<n,ev F false el (akc [.int (k:Nat)])=some (g k)):ev F b (.comp fr 0 awh .nil el) ρ=some (aj1 ((List.range n).map g)):=by
 rw[oN (by rw[h1];exact cT hn) (by rw[ig];exact aaf hn aa2),gq,fV (λk:Nat=>D.int (k:Int)) g _ _ λk hk=>congrArg (aw9 some) (hc k (aaY.mp hk))];rfl
def Jp(h6:s<=6)(hr:alY):ex F Ss azp=some (ajW (FE x0 s W ah5 (some (true,.lst ((lK s r).map λ(k:Nat)=>D.int (k:Int)))) x6)):=by
 have hc:ev F false am9 azp=some (aj1 ((lK s r).map λ(k:Nat)=>D.int (k:Int))):=by
  have AF:aoG:=rfl;have Z0:(dQ F false (.u 1) azp).bind dw=some aoU:=cT av1;rw[oN Z0 (by rw[ig];exact aaf h6 aa2)];have hw:walk (u9 F [4] (.o ahn) ac3 azp) aoU=some ((bT 0 s).filter λd=>match d with
    | .int k=>decide ((pg s).im r k.toNat≠k.toNat)
    |_=>false):=by
   refine l7 _ λx hx=>aa (u_ hx) λk hk ak=>?_;subst ak;have hi:ev F true ao8 [aoy,ah5]=some (amh ((pg s).im r k:Nat)):=ij hr hk;have Z1:ev F false ahn [aoy,ah5]=some (.bl (aB5 aiX)):=by
    rw[KL,hi];show some (D.bl (!(((pg s).im r k:Nat):Int)==(k:Int)))=_;rw[mU,<-decide_not]
   show((kT F true (.o ahn) [aoy,ah5]).bind λk'=>if k' then some (ajU (D.int k)) else some none)=_;rw[Fx,Z1];show((if decide aiX=true then kT F true .nil _ else some (aB5 aiX)).bind _)=some (if decide ((pg s).im r (k:Int).toNat ≠(k:Int).toNat)=true then some (D.int k) else none);rw[abN];cases decide aiX<;>rfl
  rw[hw,gq,List.filter_map];rfl
 rw[KR,hc];rfl
def vd(hk:k<s)(hf:iX (pg s) r k)(hm:aiX):∃ba,lK s r=k::ba:=by
 unfold lK;obtain⟨m,hs⟩:∃m,s=k+(m+1):=⟨s-k-1,(SF hk)⟩;have e:List.range s=List.range k++k::(List.range m).map λj=>k+(j+1):=by
  rw[hs,List.range_add,afV,aaK,aaV];rfl
 have e1:(List.range k).filter (λj=>decide ((pg s).im r j≠j))=[]:=by
  rw[afW];intro j hj;have:=hf j axZ;simp[this]
 rw[e,afi,e1,aei,ado,aav (by simp[hm])];exact⟨_,rfl⟩
def wO(hs:0<=s):lK s (bR s)=[]:=by
 unfold lK;rw[afW];intro j hj;have:(pg s).im (bR s) j=j:=ai.bK (Y:=pg s) axZ;simp[this]
end
noncomputable abbrev Vt:C:=(.asg 6 asP)
section
variable {s:Nat}{F:FT}
noncomputable abbrev HI(F:FT):ac1->Env->ac1->asJ:=jO F 2 3 4 3 (ex F Ss) 5 (ex F Vt) (ajT alb) (ajT asn) (ajT aia) 4 (ajT aia)
def HJ(h:l[k]?=some R):(l.map aD).set k (.bA 0 (kR R++[[(x.1:Int)]]) (vR R++[tp x.2]))=(add l k x).map aD:=by
 rw[yY h,List.map_set];congr 1;unfold aD kR vR;rw[aaM,aaM];rfl
def AX(h6:s<=6){l:af6}(hl:F 3 [ac8,tp t]=some ahf):
  HI F ajA (ars av8) ((W++[t]).map tp)=some (ajA,FE x0 s W az0 (ajU apG) x6):=by
 have e1:((W++[t]).map tp).getLast? =some (tp t):=by rw[aaM];simp
 have e2:((W++[t]).map tp).dropLast =W.map tp:=by rw[aaM];simp
 have hc:=Jp (F:=F) h6 (x0:=x0) (x5:=x5) (x6:=x6) (W:=W) (et s);rw[wO ao6]at hc;unfold HI jO;rw[e1,e2];show ayl=_;rw[hl];show(if(aG (tp t)&&aG ahf)=true then(ex F Ss (FE x0 s W az0 x5 x6)).bind _ else none)=_;rw[af,af,Bool.and_self,aav rfl,hc];rfl
def AY(h6:s<=6)(hl:F 3 [ac8,tp t]=some (tp r))(hr:alY)(hk:k<s)(hR:l[k]?=some R)(hf:iX (pg s) r k)(hm:aiX)(hn:(pg s).im r k∉R.map (·.1))(Z3:R.length<=6)
  (hg:F 4 [.lst amX,tp r]=some (aj1 anz)) (hW:W.length+(bE r (anC ahx)).length <=10000):
  ∃y4 y5 y6,HI F ajA (ars av8) ((W++[t]).map tp)=some (amX,FE x0 s (W++bE r (anC ahx)) y4 y5 y6):=by
 have e1:((W++[t]).map tp).getLast? =some (tp t):=by rw[aaM];simp
 have e2:((W++[t]).map tp).dropLast =W.map tp:=by rw[aaM];simp
 have hc:=Jp (F:=F) h6 (x0:=x0) (x5:=x5) (x6:=x6) (W:=W) hr;obtain⟨ba,Z4⟩:=vd hk hf hm;rw[Z4]at hc;have AF:aoG:=rfl;have Su:k<l.length:=(aax.mp hR).1;have Mq:BU ajA k [((pg s).im r k:Int)] (tp r)=some amX:=by
  unfold BU;rw[aau,hR];show(if(kR R).length<bX/\[((pg s).im r k:Int)]∉kR R then some ((l.map aD).set k (.bA 0 (kR R++[[((pg s).im r k:Int)]]) (vR R++[tp r]))) else none)=_;have Z5:[((pg s).im r k:Int)]∉kR R:=λz=>by
   refine aa (akj z) λe he hq=>?_;have:e.1=(pg s).im r k:=by injection hq with hq _;exact adm hq
   exact hn aA3
  rw[aav ⟨by rw[aad];exact aaO Z3 aa2,Z5⟩];exact congrArg some (HJ (x:=ahx) hR)
 have fy:place (l.map aD).length (k:Int)=some k:=by
  unfold place;rw[aad,aav akT,aav (by lia)];rfl
 have Z6:∀Xg,ev F false asn (axb Xg)=some (amh ((pg s).im r k:Nat)):=λXg=>ij hr hk;have Z7:ex F Vt (aj6 (some (true,.lst ((k::ba).map λ(k:Nat)=>D.int (k:Int)))))=some (ajW (axb (some (true,.lst ((k::ba).map λ(k:Nat)=>D.int (k:Int)))))):=by
  have hi:ev F false asP (aj6 (some (true,.lst ((k::ba).map λ(k:Nat)=>D.int (k:Int)))))=some agP:=by
   show((place ((k::ba).map λ(k:Nat)=>D.int (k:Int)).length 0).bind λj=>((k::ba).map λ(k:Nat)=>D.int (k:Int))[j]?)=_;unfold place;rw[aav aa2,aav (by rw[aad,aaF];exact acW akT (afJ _))];rfl
  rw[cS hi];rfl
 refine⟨some (false,tp r),some (true,.lst ((k::ba).map λ(k:Nat)=>D.int (k:Int))),aoy,?_⟩;unfold HI jO;rw[e1,e2];show ayl=_;rw[hl];show(if(aG (tp t)&&aG (tp r))=true then(ex F Ss azp).bind _ else none)=_;rw[af,af,Bool.and_self,aav rfl,hc];show((ex F Vt (aj6 (some (true,.lst ((k::ba).map λ(k:Nat)=>D.int (k:Int)))))).bind _)=_;rw[Z7];show(if aG (tp r)=true then _ else none)=_;rw[af,aav rfl];show((place (l.map aD).length (k:Int)).bind _)=_;rw[fy];show(((ev F false asn (axb (ajU (true,.lst ((k::ba).map λ(k:Nat)=>D.int (k:Int)))))).bind (c_ 0)).bind _)=_;rw[Z6];show((BU ajA k [((pg s).im r k:Int)] (tp r)).bind _)=_;rw[Mq];show(if aG (tp r)=true then(F 4 [.lst amX,tp r]).bind _ else none)=_;rw[af,aav rfl,hg];have nl:aX anz=true:=by
  have:∀ps:aa_,aX apO=true:=λps=>by
   induction ps with
   |nil=>rfl
   |cons p ps ih=>show(aG (tp p)&&aX apO)=true;rw[af,ih];rfl
  exact this _
 show(if aX anz=true then(if(W.map tp).length+((bE r (anC ahx)).map tp).length <=bX then _ else none) else none)=_;rw[nl,aav rfl,aav (by rw[aad,aad];exact aaf hW aa2),<-aaM];rfl
theorem VL.at:∀{l:af6}{i k:Nat}{R:ap6},alk->l[k]?=some R->V Y (i+k) R
 |[],_,_,_,_,h=>by simp at h
 |R::l,i,0,_,hv,h=>by simp at h;subst h;exact hv.1
 |R::l,i,k+1,R',hv,h=>by
  have:=VL.at hv.2.2 (k:=k) (R:=R') (by simpa using h);rwa [show i+1+k=i+(k+1) by exact aaZ _ _ _]at this
def oU(hi:i<s)(hv:av9):R.length<=s:=by
 have:=Eb hv.nd (n:=s) λp hp=>by
  refine aa (akj hp) λe he ak=>?_;subst ak;refine cY atl λs1 _ s3=>?_;rw[<-s3];exact ai.kA (Y:=pg s) s1 hi
 rwa [aad]at this
def HK(hv:aqv):∀R∈l,∀e∈R,aqq:=λR hR e he=>(St.good ai hv ⟨R,hR,e.1,he⟩).1
theorem jy(h6:s<=6)(hG:∀u,G u->ais)(oV:∀l t,ajd->ac4->axo)
  (oX:∀l r,ajd->alY->aBk):∀(n:Nat) (l:af6) (W:aa_) (x4 x5 x6:aa9),Fd (pg s) G l W->(36-cnt l)*100+W.length<n->(36-cnt l)*100+W.length<=5000->
  ∃l',gO (HI F) 3 n ajA (ars W)=some (l'.map aD)/\Fd (pg s) G l' []
 |0,_,_,_,_,_,_,h,_=>absurd h anp
 |n+1,l,W,x4,x5,x6,hd,hn,hm=>by
  have hY:=eC h6 hG;have ss:s*s<=36:=ago h6 h6;have cl:∀{l':af6},VL (pg s) l' 0->cnt l'<=36:=λ{l'} hv=>by
   have h1:=sJ ai hv;have h2:=VL.len hv;have h3:l'.length=s:=by rw[abw]at h2;exact h2
   rw[h3]at h1;exact aaf h1 ss
  rw[gO];show∃l':af6,(if(W.map tp).isEmpty =true then some ajA else(HI F ajA (ars W) (W.map tp)).bind λz=>gO (HI F) 3 n z.1 z.2)=some (l'.map aD)/\_;rcases aeF W with rfl|⟨W0,t,rfl⟩
  .exact⟨l,rfl,hd⟩
  .rw[aeG]at hd hn hm⊢;have eG:((W0++[t]).map tp).isEmpty =false:=by rw[aaM];simp
   rw[eG,aaC aai];rw[aan,abb]at hn hm;have ht:Gen (pg s) G t:=hd.wg t aqu;have Xh:ac4:=Gen.S ai hG ht;have hl:=oV l t hd.v Xh;rcases qK ai hd.v Xh (λk hk=>akA)with⟨e1,e2⟩|⟨k,R,a1,a2,a3,a4,a5,a6,a7,a8⟩
   .rw[e1]at hl;rw[AX h6 hl];exact jy h6 hG oV oX n l W0 _ _ _ (hd.none e2) (aaU hn) (aaE hm)
   .rw[abw]at a2 a4 a5 a6 a7 a8;have hk:k<s:=a2;have hV:=VL.at hd.v a1;rw[abw]at hV;have Jq:=oU hk hV;have hg:=oX _ _ a8 a3;have kJ:=cl a8;have hca:=yZ (x:=aDE) a1;have fy:=lJ aif (anC aDE);refine NM (AY h6 hl a3 hk a1 a4 a6 a5 aC3 hg (x0:=x0) (x4:=x4) (x5:=x5) (x6:=x6) (W:=W0) (by lia)) λy4 y5 y6 hT=>?_;rw[hT];refine jy h6 hG oV oX n _ _ _ _ _ (hd.more ai a8 a7 (mV hY hd.g ht) (Ec hY (mV hY hd.g ht) λu hu=>?_) λu hu=>AW hu) ?_ ?_
    .rcases hu.add with z|z
     .exact hd.g u z
     .rw[z];exact mV hY hd.g ht
    .rw[aan];lia
    .rw[aan];lia
noncomputable def y0(s:Nat):af6:=(List.range s).map λi=>[(i,bR s)]
theorem VL.y0:∀(m i:Nat),i+m=s->VL (pg s) ((List.range' i m).map λi=>[(i,bR s)]) i
 |0,i,h=>by show i=s;exact h
 |m+1,i,h=>by
  rw[aeJ,aaK];have hi:i<s:=(VO (aap h) alx);refine⟨⟨λp u hu=>?_,aio,by simp⟩,hi,VL.y0 m (i+1) (afg akS h)⟩;rw[aak]at hu;cases hu;exact⟨et s,λk hk=>ai.bK (Y:=pg s) (show k<s by exact Bm h (Nat.lt_add_right _ hk)),ai.bK (Y:=pg s) hi⟩
def Ed(sH:∀p∈ps,akl):Fd (pg s) (· ∈ps) (y0 s) ps:=by
 have m8:∀u,St (y0 s) u->u=bR s:=λu zz=>by
  obtain⟨R,hR,p,hp⟩:=zz;refine aa (akj hR) λi _ ak=>?_;subst ak;rw[aak]at hp;exact(agv hp).2
 have hv:VL (pg s) (y0 s) 0:=by
  have:=VL.y0 (s:=s) s 0 azt;unfold dD.y0;rw[adP];exact this
 refine⟨hv,λu hu=>by rw[m8 u hu];exact .one,λt ht=>Gen.of ai (sH t ht) ht,λt ht=> .inl ht,λu v hu Hx=> .inr ?_⟩;rw[m8 u hu,m8 v Hx];show H (pg s) (y0 s) (comp (bR s) (bR s));rw[km (et s)];exact H.one ai hv
def Ee(h6:s<=6){ps:aa_}(sH:∀p∈ps,akl)(aI:ps.length<=1300)(m8:F 0 [agQ]=some ahf)(oV:∀l t,ajd->ac4->axo)
  (oX:∀l r,ajd->alY->aBk):
  ∃l,out (ex F d5.body ajo)=some ac8/\Fd (pg s) (· ∈ps) l []:=by
 have AF:aoG:=rfl;obtain⟨l,h1,h2⟩:=jy h6 sH oV oX (x0:=vf ae9) fF (y0 s) ps none none none (Ed sH) (by
  have:fF=1000000:=rfl;rw[this];have:(36-cnt (y0 s))*100<=3600:=by lia
  lia) (by
  have:(36-cnt (y0 s))*100<=3600:=by lia
  lia)
 refine⟨l,?_,h2⟩;have hr:nG F true ajE ajo=some aoU:=cT (by lia);have hw:walk aps aoU=some ((y0 s).map aD):=by
  rw[gq];unfold y0;rw[aaV];refine fV (λk:Nat=>D.int (k:Int)) _ _ _ λk hk=>?_;have hc:ev F false (aka 0) [aoy,apf]=some ahf:=ae aiB m8 (af _);show((ev F false (aka 0) [aoy,apf]).bind λd=>if aG d then some (ajU (D.bA 0 [[(k:Int)]] [d])) else none)=_;rw[hc];show(if aG ahf=true then _ else none)=_;rw[af,aav rfl];rfl
 have hx:ex F d5.body ajo=(nG F true ajE ajo).bind λxs=>if xs.length<=bX/\2≠3/\2<(aw d5 [ae9,agQ]).length /\tT ajo=true then
   (walk aps xs).bind λS=>(gO (HI F) 3 fF S atE).map λS=> .ret (aj1 S) else none:=rfl
 rw[hx,hr];show out (if _ then _ else none)=_;rw[aav ⟨by rw[ig];lia,by decide,(by decide:2<7),rfl⟩,hw];show out ((gO (HI F) 3 fF ((y0 s).map aD) atE).map λS=> .ret (aj1 S))=_;rw[h1];rfl
end
end dD
namespace Py
theorem qL:∀(r:aa0) (a:Int),iV a r∈a::r/\∀x∈a::r,iV a r<=x
 |[],a=>⟨aio,λx hx=>by rw[aak.mp hx];exact afJ _⟩
 |b::r,a=>by
  rw[iV];obtain⟨h1,h2⟩:=qL r (if b<a then b else a);have h0:=h2 _ aal;have wd:(if b<a then b else a)<=a/\(if b<a then b else a)<=b:=by split<;>lia
  refine⟨?_,λx hx=>?_⟩
  .rcases aat.mp h1 with z|z
   .rw[z];split
    .exact aag _ aal
    .exact aal
   .exact aag _ (ake z)
  .rcases aat.mp hx with z|hx
   .rw[z];exact adY h0 wd.1
   .rcases aat.mp hx with z|hx
    .rw[z];exact adY h0 wd.2
    .exact h2 x azj
end Py
namespace dD
open Py eI
section
variable {s:Nat}{F:FT}
noncomputable abbrev TE(x0 x1 x2:aa9)(u:aa0)(x4 x5:aa9):Env:=[x0,x1,x2,aoz,x4,x5]
def HL(h6:s<=6)(ht:∀p∈perms s,∀q∈perms s,ab6)(hi:i<s)(hv:av9)(hu:ais):
  ∃e∈R,(∀q,q∈R.map (·.1)->(pg s).im u e.1<=(pg s).im u q)/\∃y5,ex F Vi ajD=some (ajW (TE x0 x1 x2 (comp e.2 u) (vf (aD R)) y5)):=by
 have kb:∀e∈R,e.1<s:=λe he=>by
  refine cY atl λs1 _ s3=>?_;rw[<-s3];exact ai.kA (Y:=pg s) s1 hi
 have Jq:=oU hi hv;have hc:ev F true au_ ajD=some (aj1 ((R.map λe=>(((pg s).im u e.1:Nat):Int)).map .int)):=by
  have hk:nG F true (.dk 4) ajD=some (R.map λe=>D.int (e.1:Int)):=by
   show some ((kR R).map λk=>D.int ahG)=_;rw[aaV];rfl
  have hw:walk (u9 F [3] .nil ao8 ajD) (R.map λe=>D.int (e.1:Int))=some (R.map λe=>D.int (((pg s).im u e.1:Nat):Int)):=
   fV (λe:Nat×List Int=>D.int (e.1:Int)) _ _ _ λe he=>congrArg (aw9 some) (ij hu (kb e he))
  rw[KQ,hk,abJ,aav (by rw[aad];exact aaf Jq av1)];exact(congrArg (aw9 D.lst) hw).trans (by rw[aaV];rfl)
 obtain⟨e0,R0,hR⟩:∃e0 R0,R=e0::R0:=by
  cases R with
  |nil=>exact absurd hv.one ab5
  |cons e R=>exact⟨e,R,rfl⟩
 obtain⟨m1,m2⟩:=qL (R0.map λe=>(((pg s).im u e.1:Nat):Int)) (((pg s).im u e0.1:Nat):Int);have Rc:R.map (λe=>(((pg s).im u e.1:Nat):Int))=(((pg s).im u e0.1:Nat):Int)::R0.map λe=>(((pg s).im u e.1:Nat):Int):=by rw[hR];rfl
 generalize Z8:iV (((pg s).im u e0.1:Nat):Int) (R0.map λe=>(((pg s).im u e.1:Nat):Int))=mn at m1 m2;rw[<-Rc]at m1 m2;refine aa (akj m1) λe he Z9=>⟨e,he,λq hq=>?_,vf (amh mn),?_⟩
 .refine aa (akj hq) λe' As ak=>?_;subst ak;have:=m2 _ (amN ⟨e',As,rfl⟩);lia
 .refine xA (d:= .int mn) (DL hc ?_) (xA (ae (a_ (WY (q:=(0,kR R,vR R)) rfl (x:= .int (e.1:Nat)) ?_ ?_) rfl) (ht _ (hv.st _ _ (show(e.1,e.2)∈R from he)).1 u hu) (af _)) rfl)
  .show(match aJ ((R.map λe=>(((pg s).im u e.1:Nat):Int)).map .int)with
    |some ns=>match ns with|[]=>none|a::r=>some (D.int (iV a r))
    |none=>_)=_
   rw[cM,Rc];show some (D.int (iV _ _))=_;rw[Z8]
  .have Z_:u[e.1]?=some mn:=by
    have bj:e.1<u.length:=by rw[aC hu];exact kb e he
    rw[aac bj];have h1:=jd hu (kb e he);rw[aar,aac bj]at h1;have h2:u[e.1]=(((pg s).im u e.1:Nat):Int):=h1;rw[h2,Z9]
   show(aJ (u.map .int)).bind (λns=>(cE mn ns).map λ(i:Nat)=>D.int (i:Int))=_;rw[cM,abJ,sG (ay.mp hu).2.1 Z_];rfl
  .show iU (kR R) (vR R) [(e.1:Int)]=_;rw[iK,yT hv.nd (show(e.1,e.2)∈R from he)];rfl
theorem y8(h6:s<=6)(ht:∀p∈perms s,∀q∈perms s,ab6):∀{l:af6}{i:Nat}{u:aa0}{x4 x5:aa9},aqv->ais->
  ∃x y4 y5,aL (λx ρ=>(aB 0 x).bind λys=>(cF ρ [4] ys).bind λρ'=>ex F Vi ρ') ajA (TE x0 x1 x2 u x4 x5)=some (ajW (TE x0 x1 x2 x y4 y5))/\LM (pg s) l u x
 |[],_,u,x4,x5,_,_=>⟨u,x4,x5,rfl,.nil⟩
 |R::l,i,u,x4,x5,hv,hu=>by
  obtain⟨e,he,hm,z5,h1⟩:=HL (x0:=x0) (x1:=x1) (x2:=x2) (x5:=x5) h6 ht hv.2.1 hv.1 hu;have hs:=(hv.1.st e.1 e.2 he).1;refine kI (y8 h6 ht (x0:=x0) (x1:=x1) (x2:=x2) (l:=l) (i:=i+1) (u:=comp e.2 u) (x4:=vf (aD R)) (x5:=z5) hv.2.2 (bO hs hu)) λx y4 y5 h2 h3=>?_;refine⟨x,y4,y5,?_,.cons (p:=e.1) (v:=e.2) he hm h3⟩;rw[aaK,gz h1];exact h2
theorem VL.drop:∀{l:af6}{i:Nat} (k:Nat),alk->k<=l.length->VL Y (l.drop k) (i+k)
 |l,i,0,h,_=>h
 |[],i,k+1,h,hk=>absurd hk ab5
 |R::l,i,k+1,h,hk=>by
  have:=VL.drop k h.2.2 (by simpa using hk);rwa [show i+1+k=i+(k+1) by exact aaZ _ _ _]at this
def Ef(h6:s<=6)(ht:∀p∈perms s,∀q∈perms s,ab6)(hv:ajd)(hk:k<s)(hu:ais):
  ∃x,ex F d6.body (aw d6 [ac8,agP,tp u])=some (akL (tp x))/\axl:=by
 have hl:l.length=s:=by have:=VL.len hv;rw[abw]at this;exact this
 refine kI (y8 h6 ht (x0:=vf ac8) (x1:=vf agP) (x2:=vf (tp u)) (l:=l.drop (k+1)) (u:=u) (x4:=none) (x5:=none) (VL.drop (k+1) hv (aah hk aiH)) hu) λx y4 y5 h1 h2=>⟨x,?_,h2⟩;have RK:nG F false oT aty=some ((l.drop (k+1)).map aD):=by
  show seq (aj1 (Bb ajA (some ((k:Int)+1)) none))=_;rw[show(k:Int)+1=((k+1:Nat):Int) by exact Int.natCast_add _ _,uZ _ _ (by rw[aad];exact aah hk aiH),<-agC];rfl
 refine xA rfl (xG (ρ':=TE (vf ac8) aoy aoz x y4 y5) ?_ (xR rfl));show(nG F false oT aty).bind _=_;rw[RK];exact h1
end
noncomputable def pairD(e:Nat×List Int):D:= .tup [.int (e.1:Int),tp e.2]
noncomputable def aP(R:ap6):D:= .tup ame
noncomputable def aH(l:af6):D:= .tup arn
section
variable {s:Nat}{F:FT}
noncomputable def pV(R:ap6):ahj:=(sortI (R.map λe=>(e.1:Int))).map Int.toNat
def oY(R:ap6):sortI (R.map λe=>(e.1:Int))=(pV R).map λ(k:Nat)=>(k:Int):=by
 unfold pV;rw[aaV];have:∀x∈sortI (R.map λe=>(e.1:Int)),((λ(k:Nat)=>(k:Int))∘Int.toNat) x=x:=λx hx=>by
  refine aa ase λe _ ak=>?_;subst ak;show((e.1:Int).toNat :Int)=_;exact acr akT
 rw[acO this,List.map_id']
def sL:k∈pV R↔k∈R.map (·.1):=by
 unfold pV;constructor
 .intro h;refine aa azh λx hx ak=>?_;subst ak;refine aa ase λe he aN=>?_;subst aN;exact aao.mpr ⟨e,he,by simp⟩
 .intro h;refine aa azh λe he cV=>?_;subst cV;exact aao.mpr ⟨(e.1:Int),(sortI_perm _).mem_iff.mpr (amN ⟨e,he,rfl⟩),by simp⟩
def MY(nd:(R.map (·.1)).Nodup):(pV R).Pairwise (· < ·):=by
 have h1:=ox (R.map λe=>(e.1:Int));have h2:(sortI (R.map λe=>(e.1:Int))).Nodup :=by
  rw[(sortI_perm _).nodup_iff];rw[abu,abx]at nd⊢;exact nd.imp λh e=>h (adm e)
 rw[oY,abx]at h1;rw[oY,abu,abx]at h2;exact(h1.and h2).imp λh=>by lia
theorem Hm.drop:∀{l:af6}{i:Nat} (k:Nat),Hm (pg s) M l i->k<=l.length->Hm (pg s) M (l.drop k) (i+k)
 |l,i,0,h,_=>h
 |[],i,k+1,h,hk=>absurd hk ab5
 |R::l,i,k+1,h,hk=>by
  have:=Hm.drop k (h.tail ai) (by simpa using hk);rwa [show i+1+k=i+(k+1) by exact aaZ _ _ _]at this
def HM(h6:s<=6)(hM:aiV)(hl:Hm (pg s) M l 0)(hk:k<s)
  (MZ:∀u∈perms s,∃x,awf/\axl):
  ex F d7.body (aw d7 [ac8,agP])=some (akL aC5):=by
 have aI:l.length=s:=by have:=VL.len hl.1;rw[abw]at this;exact this
 have Su:k<l.length:=(aah hk amU);obtain⟨R,hR⟩:∃R,l[k]?=some R:=⟨l[k],aac Su⟩;have hdr:l.drop k=R::l.drop (k+1):=by
  rw[abv Su];rw[aac Su]at hR;cases hR;rfl
 have hm:=Hm.drop k hl (aaf (aaE hk) amU);rw[abw,hdr]at hm;have hV:=hm.1.1;have Jq:=oU hk hV;have best:∀p u,aoS->∃x,awf/\fX (pg s) M k p x:=λp u hu=>by
  exact aa (MZ u (hV.st p u hu).1) λx h1 h2=>⟨x,h1,hm.best ai hM hu h2⟩
 have m8:item ac8 agP=some (aD R):=by
  show((place (l.map aD).length (k:Int)).bind λj=>(l.map aD)[j]?)=_;unfold place;rw[aad,aav akT,aav (by lia)];show(l.map aD)[k]?=_;rw[aau,hR];rfl
 have wx:ev F true (.i6 2) [vf ac8,aoy,vf (aD R)]=some (aj1 ((pV R).map λ(k:Nat)=>D.int (k:Int))):=by
  show(if(kR R).length<64 then some (D.lst ((sortI ((kR R).map λk=>ahG)).map .int)) else none)=_;rw[aav (by rw[aad];exact aaO Jq (aaO h6 aa2)),aaV];show some (D.lst ((sortI (R.map λe=>(e.1:Int))).map .int))=_;rw[oY,aaV];rfl
 have MT:(pV R).map (λp=>akr)=cN (pg s) M k:=by
  refine D5 ai hk hM.s (λp x hx=>?_) (λt ht hf=>?_) ?_
  .refine aa avY λq hq e=>?_;rw[<-(agv e).1,<-(agv e).2];refine aa (akj (sL.mp hq)) λe he Vu=>aa (best q e.2 (by rw[<-Vu];exact he)) λy _ hy=>?_;rw[fY hy];exact hy
  .exact bg (hm.split ai ht hf) λu w hu _ _=>⟨_,aao.mpr ⟨_,sL.mpr (amN ⟨_,hu,rfl⟩),rfl⟩⟩
  .rw[aaV];have:((λx:Nat×List Int=>x.1) ∘ λp=>akr)=id:=rfl;rw[this,afK];exact MY hV.nd
 refine xA m8 (xR (DL (x:= .lst ((pV R).map λp=>pairD akr)) (fW wx rfl ?_ λp hp=>?_) ?_))
 .unfold pV;rw[aad,(sortI_perm _).length_eq,aad];exact aaf aC3 aa2
 .refine aa (akj (sL.mp hp)) λe he Vu=>?_;have As:(p,e.2)∈R:=by rw[<-Vu];exact he
  refine aa (best p e.2 As) λx r8 I9=>?_;rw[fY I9];refine ZJ (x:= .int p) rfl (ae (Vd rfl rfl ?_) r8 (af _));show iU (kR R) (vR R) [(p:Int)]=_;rw[iK,yT hV.nd As];rfl
 .show some (D.tup ((pV R).map λp=>pairD akr))=_;rw[<-MT];unfold aP;rw[aaV];rfl
def y9(R:ap6):aG (aP R)=true:=by
 show aX ame=true;induction R with
 |nil=>rfl
 |cons e R ih=>
  show(aG (pairD e)&&aX ame)=true;rw[ih];show((aG (amh (e.1:Int))&&(aG (tp e.2)&&true))&&true)=true;rw[af];rfl
def AZ(h6:s<=6){l:af6}(hf:F 5 [row,agQ]=some ac8)(Rf:aG row=true)(hr:∀k,k<s->F 7 [ac8,agP]=some aC5):
  ex F d8.body (aw d8 [row,agQ])=some (akL al3):=by
 refine xA (bH ae4 hf rfl) (xR (DL (HH aiB av1 λk hk=>ae ae4 (hr k hk) (y9 _)) ?_));show some (D.tup ((List.range s).map λk=>aC5))=_;unfold aH ax;rw[aaV,adP];rfl
end
def A0:(List.range 7).all (λn=>decide ((perms n).length <=720))=true:=by decide +kernel
section
variable {s:Nat}{F:FT}
def fZ(h6:s<=6):(perms s).length <=720:=of_decide_eq_true (all_range A0 (show s<7 by exact aaO h6 aa2))
theorem dI[DecidableEq α]:∀(l m:agM),atf->(∀x∈l,x∈m)->l.length<=m.length
 |[],_,_,_=>abk _
 |x::l,m,nd,h=>by
  rw[aaW]at nd;have hx:=h x aal;have:=dI l (m.erase x) nd.2 λy hy=>(agl (λe:y=x=>nd.1 (e▸hy))).mpr (h y ap2);rw[aeb hx]at this;have:0<m.length:=afX hx;rw[aaF];lia
def y_(h6:s<=6)(hv:aqv):(TL (pg s) l).length <=720:=
 aaf (dI _ _ (oO ai hv) λx hx=>(H.good ai hv (jx.mp hx)).1) azb
theorem iL:∀{ks:aa_},(∀k∈ks,k≠[])->du (ks.map tp)=some ks
 |[],_=>rfl
 |k::ks,h=>by
  show(aJ (k.map .int)).bind _=_;rw[cM];show(if k=[] then none else(du (ks.map tp)).map (k:: ·))=_;rw[aaC (h k aal),iL λx hx=>h x azj];rfl
def sM(h1:1<=s)(h:ac4):t≠[]:=λz=>by
 have:=aC h;rw[z]at this;simp at this;exact aaJ h1 this
noncomputable abbrev mv(B:aa_):ac1:=B.map λ_=>D.bl true
noncomputable abbrev AE(x0 x1 x2:aa9)(B W:aa_)(x5 x6 x7:aa9):Env:=[x0,x1,x2,some (true,.bA 1 B (mv B)),akP,x5,x6,x7]
def mW(h:t≠0)(p:aa0):c_ t (tp p)=some p:=by
 show(if t=0 then none else aJ aiG)=some p;rw[aaC h];exact cM p
def HN(bj:∀p∈perms s,∀q∈perms s,aiD)(ht:ac4)(hg:alZ)(hB:B.length<=1000)(hW:W.length<=10000):
  ex F Sj (AE x0 x1 x2 B W ad_ ahy x7)=some (ajW (if comp t g∈B then AE x0 x1 x2 B W ad_ ahy avN else AE x0 x1 x2 arp (W++[ama]) ad_ ahy avN)):=by
 have h2:ev F false (aB8 alI) (aj4 B)=some (.bl (!decide (comp t g∈B))):=by
  show((c_ 1 ag5).map λx=>D.bl (!decide (x∈B)))=_;rw[mW aa2];rfl
 refine xA (aj8 (bj t ht g hg)) ?_;by_cases hm:comp t g∈B
 .rw[decide_eq_true hm]at h2;rw[aav hm];exact xN h2 rfl
 rw[decide_eq_false hm]at h2;rw[aaC hm];have s1:ex F aB2 (aj4 B)=some (ajW (azU W)):=by
  show((c_ 1 ag5).bind λx=>if B.length<bX/\x∉B then some (kU.next (put (aj4 B) 3 true (.bA 1 (B++[x]) (mv B++[ag4])))) else none)=_;rw[mW aa2];show(if B.length<bX/\comp t g∉B then _ else none)=_;have:mv B++[D.bl true]=mv arp:=by unfold mv;rw[aaM];rfl
  rw[aav ⟨aaO hB aa2,hm⟩,this];rfl
 have s2:ex F aBv (aj4 arp)=some (ajW (azU (W++[ama]))):=by
  rw[dh (d:=tp ama) (xs:=W.map tp) rfl rfl (by rw[aad];exact aaO hW aa2)];have:W.map tp++[ag5]=(W++[ama]).map tp:=by rw[aaM];rfl
  rw[this];rfl
 exact xY h2 (xG s1 (xG s2 rfl)) rfl
theorem Eg(h6:s<=6)(bj:∀p∈perms s,∀q∈perms s,aiD)(hG:∀g∈G,alZ)(ht:ac4):∀{gs done B W:aa_}{x6 x7:aa9},(∀g∈gs,g∈G)->Am comp (bR s) G t done B W->W.length+gs.length<=5000->
  ∃B' W' y6 y7,aL (λx ρ=>(aB 0 x).bind λys=>(cF ρ [6] ys).bind λρ'=>ex F Sj ρ') (gs.map tp) (AE x0 x1 x2 B W ad_ x6 x7)=some (ajW (aqN x0))/\Am comp (bR s) G t (done++gs) B' W'/\B.length<=B'.length/\B'.length+W.length=B.length+W'.length
 |[],done,B,W,x6,x7,_,h,_=>⟨B,W,x6,x7,rfl,by rw[abf];exact h,aam _,rfl⟩
 |g::gs,done,B,W,x6,x7,Vv,h,hn=>by
  rw[aaF]at hn;have Xi:=Vv g aal;have hg:=hG g Xi;have hB:B.length<=720:=aaf (dI _ _ h.nd λx hx=>D9 hG (h.gen x hx)) azb;have h1:=HN bj (x0:=x0) (x1:=x1) (x2:=x2) (x7:=x7) (B:=B) (W:=W) ht hg (ajX hB) (by lia);have e0:done++g::gs=(done++[g])++gs:=by rw[aaL];rfl
  by_cases hm:comp t g∈B
  .rw[aav hm]at h1;refine NN (Eg h6 bj hG (x0:=x0) (x1:=x1) (x2:=x2) ht (gs:=gs) (done:=done++[g]) (B:=B) (W:=W) (x6:=vf (tp g)) (x7:=vf ag5) (λq hq=>Vv q (ake hq)) (h.old hm) (aaE hn)) λB' W' y6 y7 i1 i2 i3 i4=>⟨B',W',y6,y7,?_,by rw[e0];exact i2,i3,i4⟩;rw[aaK,gz (ρ':=AE x0 x1 x2 B W ad_ ahy avN) h1];exact i1
  .rw[aaC hm]at h1;refine NN (Eg h6 bj hG (x0:=x0) (x1:=x1) (x2:=x2) ht (gs:=gs) (done:=done++[g]) (B:=B++[ama]) (W:=W++[ama]) (x6:=vf (tp g)) (x7:=vf ag5) (λq hq=>Vv q (ake hq)) (h.new Xi hm) (by rw[aan,abb];exact NO akS hn)) λB' W' y6 y7 i1 i2 i3 i4=>?_;rw[aan,abb]at i3;rw[aan,abb,aan,abb]at i4;refine⟨B',W',y6,y7,?_,by rw[e0];exact i2,(aaE i3),by lia⟩;rw[aaK,gz (ρ':=AE x0 x1 x2 arp (W++[ama]) ad_ ahy avN) h1];exact i1
theorem ik(n:Nat):∀W:aa_,eJ (W.map tp) (n+1)=true
 |[]=>rfl
 |t::W=>by
  show(gI (tp t) (n+1)&&eJ (W.map tp) (n+1))=true;rw[wM,ik n W];rfl
theorem za:∀xs ys:aa_,A' alJ aCc=decide (xs=ys)
 |[],[]=>rfl
 |[],_::_=>rfl
 |_::_,[]=>rfl
 |x::xs,y::ys=>by
  show(pB (tp x) (tp y)&&A' alJ aCc)=_;rw[DS,za xs ys,Bool.eq_iff_iff,aae,decide_eq_true_eq,decide_eq_true_eq,decide_eq_true_eq,List.cons.injEq]
def Eh{A B:aa_}:cmp .NotEq aqh avq=some (!decide (A=B)):=by
 show(if(gI aqh 60&&gI avq 60)=true then some (!A' (A.map tp) (B.map tp)) else none)=_;rw[show gI aqh 60=true from ik 58 A,show gI avq 60=true from ik 58 B,za];rfl
def HP:ev F false aA2 (AE x0 x1 x2 B W x5 x6 x7)=some (.bl (!decide (W=[]))):=vF (a:= .var 4) (c:= .lst .nil) (y:= .lst (([]:aa_).map tp)) rfl rfl Eh
theorem zb(h6:s<=6)(bj:∀p∈perms s,∀q∈perms s,aiD)(hG:∀g∈G,alZ)(Vw:G.length<=1000)(he:aCh):∀(n:Nat) {B W:aa_}{x5 x6 x7:aa9},Al comp (bR s) G B W->2*(720-B.length)+W.length<n->2*(720-B.length)+W.length<=2000->
  ∃B' y5 y6 y7,gx (λρ=>(ev F false aA2 ρ).bind fE) (ex F Q5) n (AE (vf e) x1 x2 B W x5 x6 x7)=some (ajW (AE (vf e) x1 x2 B' [] y5 y6 y7))/\Al comp (bR s) G B' []
 |0,_,_,_,_,_,_,h,_=>absurd h anp
 |n+1,B,W,x5,x6,x7,h,hn,hb=>by
  rw[gx,HP];rcases aeF W with rfl|⟨W0,t,rfl⟩
  .exact⟨B,x5,x6,x7,rfl,h⟩
  .rw[aeG]at h hn hb⊢;rw[aan,abb]at hn hb;rw[decide_eq_false (by simp:W0++[t]≠[])];have htB:t∈B:=h.wb t aqu;have ht:ac4:=D9 hG (h.gen t htB);refine NN (Eg h6 bj hG (x0:=vf e) (x1:=x1) (x2:=x2) ht (gs:=G) (done:=[]) (B:=B) (W:=W0) (x6:=x6) (x7:=x7) (λ_ z=>z) h.start (by lia)) λB' W' y6 y7 i1 i2 i3 i4=>?_;rw[aei]at i2;have hA:=i2.fin λg hg=>hg;have hB':B'.length<=720:=aaf (dI _ _ hA.nd λx hx=>D9 hG (hA.gen x hx)) azb;refine mr (zb h6 bj hG Vw he (x1:=x1) (x2:=x2) n (B:=B') (W:=W') (x5:=vf (tp t)) (x6:=y6) (x7:=y7) hA (by lia) (VN (aaE hb) (SD i3 i4 hB'))) λB2 z5 z6 z7 j1 j2=>?_;refine⟨B2,z5,z6,z7,?_,j2⟩;have p1:ex F ayK ain=some (ajW atV):=by
    have e1:((W0++[t]).map tp).getLast? =some (tp t):=by rw[aaM];simp
    have e2:((W0++[t]).map tp).dropLast =W0.map tp:=by rw[aaM];simp
    show(((W0++[t]).map tp).getLast?.map λz=>kU.next (put (aqI ain) 5 false z))=_;rw[e1,e2];rfl
   have p2:ex F aDt atV=some aq5:=by
    show(seq e).bind (λxs=>aL _ xs _)=_;rw[he];exact i1
   have p3:ex F Q5 ain=some aq5:=xG p1 (xG p2 rfl);show((ex F Q5 ain).bind _)=_;rw[p3];exact j1
def M0(h1:1<=s)(h6:s<=6)(bj:∀p∈perms s,∀q∈perms s,aiD)(hG:∀g∈G,alZ)(Vw:G.length<=1000)(he:aCh):
  ∃B,ex F NI.body (aw NI [e,agQ])=some (akL ayH)/\Al comp (bR s) G B []:=by
 obtain⟨B,y5,y6,y7,i1,i2⟩:=zb h6 bj hG Vw he (x1:=vf agQ) (x2:=vf ahf) fF (B:=[bR s]) (W:=[bR s]) (x5:=none) (x6:=none) (x7:=none) ZV (by
  have:fF=1000000:=rfl;rw[this,abb];exact by decide) (by rw[abb];exact by decide)
 refine⟨B,?_,i2⟩;have a1:ev F false asN (aw NI [e,agQ])=some ahf:=by
  show(dw [agQ]).bind awr=_;rw[cT av1,ef];rfl
 have a2:ex F au9 [vf e,apf,az0,none,none,none,none,none]=some (ajW [vf e,apf,az0,some (true,.bA 1 [bR s] [ag4]),none,none,none,none]):=by
  show(((c_ 1 ahf).map λx=>D.bA 1 [x] [ag4]).map λd=>kU.next (put [vf e,apf,az0,none,none,none,none,none] 3 true d))=_;rw[mW aa2];rfl
 have a3:ex F (.while aA2 Q5) (AE (vf e) apf az0 [bR s] [bR s] none none none)=some (ajW arq):=i1;have a4:ev F true (.i6 3) arq=some ayH:=by
  show(if []∈B then none else some (D.lst ((br.aZ B).map md)))=_;rw[aaC λz=>sM h1 (D9 hG (i2.gen _ z)) rfl];rfl
 exact xA a1 (xG a2 (xB (xs:=[ahf]) rfl (xG a3 (xR a4))))
end
section
variable {s:Nat}{F:FT}
def Ei(ht:ac4)(hi:i<=s):t.take i=bR i↔iX (pg s) t i:=by
 have hl:=aC ht;constructor
 .intro h k hk;have h1:=jd ht (show k<s by lia);have e:(t.take i).getD k 0=(bR i).getD k 0:=by rw[h]
  rw[wN hk,aar,adw,aav hk,<-aar,h1]at e;lia
 .intro h;apply abP;intro k;rw[adw];by_cases hk:k<i
  .rw[aav hk];have h1:=jd ht (show k<s by lia);have h2:=wN hk;rw[h k hk]at h1;have la:k<t.length:=by lia
   have lb:k<(bR i).length :=by rw[aC (et i)];exact hk
   rw[aar,aac la]at h1;rw[aar,aac lb]at h2;rw[aac la,aac lb];have UQ:t[k]=(k:Int):=h1;have Ll:(bR i)[k]=(k:Int):=h2;rw[UQ,Ll]
  .rw[aaC hk,aaH (by rw[aC (et i)];lia)]
noncomputable def l9(s i p:Nat)(t:aa0):Bool:=decide (t.take i=bR i)&&decide ((pg s).im t i=p)
def lL(ht:ac4)(hi:i<=s):l9 s i p t=true↔iX (pg s) t i/\(pg s).im t i=p:=by
 unfold l9;rw[aae,decide_eq_true_eq,decide_eq_true_eq,Ei ht hi]
def Ej{M:aa0->Prop}(hM:aiV){Ts:aa_}(hT:∀t,t∈Ts↔M t){i p:Nat}(hi:i<s){a:aa0}{r:aa_}(h:Ts.filter arl=a::r):fX (pg s) M i p asD:=by
 have mem:∀x,x∈a::r↔M x/\iX (pg s) x i/\(pg s).im x i=p:=λx=>by
  rw[<-h,abe,hT];constructor
  .rintro⟨h1,h2⟩;exact⟨h1,(lL (hM.s x h1) (by lia)).mp h2⟩
  .rintro⟨h1,h2⟩;exact⟨h1,(lL (hM.s x h1) (by lia)).mpr h2⟩
 refine cY ((mem _).mp (br.ux r a)) λm1 m2 m3=>⟨m1,m2,m3,λt h1 h2 h3=>?_⟩;have wd:=br.xK r a t ((mem t).mpr ⟨h1,h2,h3⟩);cases e:br.bB asD t with
 |true=>exact .inr ((HB (hM.s _ m1) (hM.s t h1)).mpr e)
 |false=>exact .inl (br.iy _ _ e wd)
def HQ{M:aa0->Prop}(hM:aiV){Ts:aa_}(hT:∀t,t∈Ts↔M t){i p:Nat}(hi:i<s)(h:Ts.filter arl=[]):¬ ∃x,avn:=λzz=>by
 obtain⟨x,b⟩:=zz;have:x∈Ts.filter arl:=abe.mpr ⟨(hT x).mpr b.1,(lL (hM.s x b.1) (by lia)).mpr ⟨b.2.1,b.2.2.1⟩⟩;rw[h]at this;cases this
noncomputable abbrev ZE(Ts:aa_)(s:Nat)(x2 x3:aa9)(acc:ac1)(x5 x6:aa9):Env:=[vf ahZ,apf,x2,x3,some ayi,x5,x6]
def Rh{n:Nat}(h:avW)(hn:aAD)(k:aL (λx ρ=>(aB tg x).bind λys=>(cF ρ is ys).bind λρ'=>ar_) ((List.range n).map λ(k:Nat)=>D.int (k:Int)) ρ=o):ex F (axw awh) ρ=o:=by
 rw[Hw (by rw[h];exact cT hn),gq];exact k
def HR(h6:s<=6){Ts:aa_}(Fg:∀t∈Ts,ac4)(EV:aoI){i p:Nat}(hi:i<s){x2 x6:aa9}{acc:ac1}:
  ev F false Jn (aj7 x6)=some (aj1 ((Ts.filter arl).map tp)):=by
 refine ky (d:= .lst (Ts.map tp)) rfl rfl (ajX EV) (λt h=>Hv (ZO (vF (x:=tp (t.take i)) (y:=tp (bR i)) ?_ ?_ (DT _ _)) (vF (ij (Fg t h) hi) (c:= .var 2) (y:= .int p) rfl (congrArg some (mU _ _))))) λ_ _=>rfl
 .show some (D.tup (Bb (t.map .int) none (ajU (i:Int))))=_;rw[uY _ _ (by rw[aad,aC (Fg t h)];omega),<-afH];rfl
 .show(dw [agF]).bind awr=_;rw[cT aa1,ef];rfl
open Classical in
theorem Ek(h6:s<=6)(h1:1<=s)(hM:aiV)(hT:∀t,t∈Ts↔M t)(EV:aoI)(hi:i<s):∀{qs:ahj}{acc:ac1}{x5 x6:aa9},acc.length+qs.length<=10000->
  ∃y5 y6,aL (λx ρ=>(aB 0 x).bind λys=>(cF ρ [5] ys).bind λρ'=>ex F W5 ρ') (qs.map λ(k:Nat)=>D.int (k:Int)) (ZE Ts s x2 ar3 acc x5 x6)=some (ajW (ZE Ts s x2 ar3 (acc++((qs.filter λp=>decide (∃x,avn)).map λp=>aja)) y5 y6))
 |[],acc,x5,x6,_=>⟨x5,x6,by show some asA=_;rw[List.filter_nil,afe,abf]⟩
 |p::qs,acc,x5,x6,hn=>by
  rw[aaF]at hn;have Fg:∀t∈Ts,ac4:=λt h=>hM.s t ((hT t).mp h);have hg:=HR (F:=F) h6 Fg EV (p:=p) hi (x2:=x2) (x6:=x6) (acc:=acc);have a2:∀{W:aa_},ev F false (amO alb) (aj7 akP)=some (.bl (!decide (W=[]))):=vF (a:= .var 6) (c:= .lst .nil) (y:= .lst (([]:aa_).map tp)) rfl rfl Eh;rw[aaK,ado];cases hf:Ts.filter arl with
  |nil=>
   rw[hf]at hg;refine EW (Ek h6 h1 hM hT EV hi (x2:=x2) (qs:=qs) (acc:=acc) (x5:=vf (amh p)) (x6:=some apG) aa1) λy5 y6 ih=>⟨y5,y6,?_⟩;rw[gz (ρ':=ZE Ts s x2 ar3 acc (vf (amh p)) (ajU apG)) (xB hg (xN (a2 (W:=[])) rfl)),ih,aaC (by rw[decide_eq_true_eq];exact HQ hM hT hi hf)]
  |cons a r=>
   rw[hf]at hg;have vb:=Ej hM hT hi hf;refine EW (Ek h6 h1 hM hT EV hi (x2:=x2) (qs:=qs) (acc:=acc++[aja]) (x5:=vf (amh p)) (x6:=some alc) (by rw[aan,abb];omega)) λy5 y6 ih=>⟨y5,y6,?_⟩;have MS:ev F false (.prim .min (.u 6)) (aj7 (some alc))=some (tp asD):=by
    show((du ((a::r).map tp)).bind λks=>match ks with|[]=>none|a::r=>some (md asD))=_;rw[iL λt ht=>sM h1 (Fg t (abe.mp (show t∈Ts.filter arl by rw[hf];exact ht)).1)];rfl
   have Vx:ev F false arF (aj7 (some alc))=some aja:=by
    rw[KO,a_ (a:= .var 5) (x:= .int p) rfl MS,fY vb];rfl
   rw[gz (ρ':=ZE Ts s x2 ar3 (acc++[aja]) (vf (amh p)) (ajU alc)) (xB hg (xY (a2 (W:=a::r)) (xG (dh Vx (xs:=acc) rfl (aaO (show acc.length<=10000 by omega) aa2)) rfl) rfl)),ih,aav (by rw[decide_eq_true_eq];exact⟨_,vb⟩),aaK,aaL];rfl
theorem El(h6:s<=6)(h1:1<=s){M:aa0->Prop}(hM:aiV){Ts:aa_}(hT:∀t,t∈Ts↔M t)(EV:aoI):∀{is:ahj}{acc:ac1}{x3 x4 x5 x6:aa9},(∀i∈is,i<s)->acc.length+is.length<=1000->
  ∃y3 y4 y5 y6,aL (λx ρ=>(aB 0 x).bind λys=>(cF ρ [3] ys).bind λρ'=>ex F W6 ρ') (is.map λ(k:Nat)=>D.int (k:Int)) [vf ahZ,apf,some ayi,x3,x4,x5,x6]=
   some (ajW [vf ahZ,apf,some (true,.lst (acc++is.map λi=>aAh)),y3,y4,y5,y6])
 |[],acc,x3,x4,x5,x6,_,_=>⟨x3,x4,x5,x6,by show some asA=_;rw[afe,abf]⟩
 |i::is,acc,x3,x4,x5,x6,Xj,hn=>by
  rw[aaF]at hn;have hi:=Xj i aal;refine EW (Ek h6 h1 hM hT EV hi (F:=F) (x2:=some ayi) (qs:=List.range s) (acc:=[]) (x5:=x5) (x6:=x6) (by rw[acL,ade];omega)) λz5 z6 i1=>?_;rw[aei,show((List.range s).filter λp=>@decide (∃x,avn) ahR).map (λp=>aja)=(cN (pg s) M i).map pairD by unfold cN;rw[aaV];rfl]at i1;refine VG (El h6 h1 hM hT EV (is:=is) (acc:=acc++[aAh]) (x3:=vf agF) (x4:=some ar0) (x5:=z5) (x6:=z6) (λj hj=>Xj j (ake hj)) (by rw[aan,abb];omega)) λy3 y4 y5 y6 ih=>⟨y3,y4,y5,y6,?_⟩;rw[aaK,gz (ρ':=[vf ahZ,apf,some (true,.lst (acc++[aAh])),ar3,some ar0,z5,z6]) (xB (xs:=[]) rfl (xG (Rh aiB aa1 i1) (xG (dh (d:=aP (anB i)) (xs:=acc) rfl rfl (aaO (show acc.length<=1000 by omega) aa2)) rfl))),ih,aaL];rfl
def wQ(h6:s<=6)(h1:1<=s){M:aa0->Prop}(hM:aiV){Ts:aa_}(hT:∀t,t∈Ts↔M t)(EV:aoI):
  ex F Ra.body (aw Ra [ahZ,agQ])=some (akL al3):=by
 refine VG (El h6 h1 hM hT EV (F:=F) (is:=List.range s) (acc:=[]) (x3:=none) (x4:=none) (x5:=none) (x6:=none) (λi h=>aaY.mp h) (by rw[acL,ade];omega)) λy3 y4 y5 y6 i1=>?_;refine xB (xs:=[]) rfl (xG (Rh aiB aa1 i1) (xR ?_));show some (D.tup ([]++(List.range s).map λi=>aAh))=_;unfold aH ax;rw[aaV,adP];rfl
end
end dD
namespace eI
variable {α:Type}{Y:Pg α}{G N P Q Z:α->Prop}{a b c t u g:α}
noncomputable def cj(Y:Pg α)(t c:α):α:=Y.mul (Y.mul (Y.inv c) t) c
def lM(L:cn Y)(ht:Y.S t)(hc:Y.S c):Y.S ahK:=L.sm (auQ awX) hc
def M3(L:cn Y)(hc:Y.S c):cj Y Y.one c=Y.one:=by
 unfold cj;rw[L.mul_one awX,L.inv_mul hc]
def HS(L:cn Y):Y.inv Y.one=Y.one:=by
 have:=L.bJ L.s1;rw[L.one_mul (L.si L.s1)]at this;exact this
def lN(L:cn Y)(ht:Y.S t):cj Y t Y.one=t:=by
 unfold cj;rw[HS L,L.one_mul ht,L.mul_one ht]
def M4(L:cn Y)(ht:Y.S t)(hu:Y.S u)(hc:Y.S c):cj Y aC_ c=Y.mul ahK (cj Y u c):=by
 unfold cj;have hi:=L.si hc;rw[L.assoc (auQ hi) hc (L.sm (L.sm hi hu) hc),<-L.assoc hc (L.sm hi hu) hc,<-L.assoc hc hi hu,L.bJ hc,L.one_mul hu,<-L.assoc (auQ hi) hu hc,L.assoc hi ht hu]
def vg(L:cn Y)(ha:Y.S a)(hb:Y.S b):Y.inv ajK=Y.mul (Y.inv b) am5:=by
 have qq:=L.sm ha hb;have e:Y.mul ajK (Y.mul (Y.inv b) am5)=Y.one:=by
  rw[L.assoc ha hb ayc,<-L.assoc hb aq8 aok,L.bJ hb,L.one_mul aok,L.bJ ha]
 have h:=congrArg (Y.mul (Y.inv ajK)) e;rw[L.mul_one (L.si qq),<-L.assoc (L.si qq) qq ayc,L.inv_mul qq,L.one_mul ayc]at h;exact h.symm
def zc(L:cn Y)(ht:Y.S t)(hc:Y.S c)(hg:Y.S g):cj Y ahK g=cj Y t (Y.mul c g):=by
 unfold cj;rw[vg L hc hg,<-L.assoc aq7 (auQ awX) hc,<-L.assoc aq7 awX ht,L.assoc (auQ (L.sm aq7 awX)) hc hg]
def qM(L:cn Y)(hP:∀t,P t->Y.S t)(hZ:∀t,Z t->Y.S t)(hc:Y.S c)(h:∀t,P t->aqB):∀{t:α},Gen Y P t->aqB:=λ{t} ht=>by
 induction ht with
 |one=>rw[M3 L hc];exact .one
 |mul ht hu ih=>
  rw[M4 L (Gen.S L hP ht) (hP _ hu) hc];exact Gen.app L hZ ih (h _ hu)
def Em(L:cn Y)(hZ:∀t,Z t->Y.S t)(hQ:∀t,Q t->Y.S t)(h:∀c,Q c->∀t,Z t->aqB):∀{c:α},auv->∀{t:α},ayf->aqB:=λ{c} hc=>by
 induction hc with
 |one=>intro t ht;rw[lN L (Gen.S L hZ ht)];exact ht
 |mul hc hu ih=>
  intro t ht;rw[<-zc L (Gen.S L hZ ht) (Gen.S L hQ hc) (hQ _ hu)];exact qM L hZ hZ (hQ _ hu) (h _ hu) (ih ht)
noncomputable def NJ(Y:Pg α)(P G:α->Prop)(x:α):Prop:=∃t g,P t/\G g/\x=cj Y t g
def vh(L:cn Y)(hP:∀t,P t->Y.S t)(hG:∀t,G t->Y.S t):∀x,NJ Y P G x->Y.S x:=λx ⟨t,g,h1,h2,e⟩=>e▸lM L (hP t h1) (hG g h2)
def wR(L:cn Y)(hP:∀t,P t->Y.S t)(hQ:∀t,Q t->Y.S t)(h:P t):Gen Y aoY t:=
 Gen.of L (hP t h) ⟨t,Y.one,h,.one,(lN L (hP t h)).symm⟩
def sN(L:cn Y)(hP:∀t,P t->Y.S t)(hQ:∀t,Q t->Y.S t):∀{c:α},auv->∀{t:α},Gen Y aoY t->Gen Y aoY ahK:=λ{c} hc=>by
 have hG:∀t,aDo->Y.S t:=λt h=>Gen.S L hQ h;have hZ:=vh L hP hG;refine λ{t}=>qM L hZ hZ (hG c hc) λx hx=>?_;obtain⟨t,g,h1,h2,rfl⟩:=hx;rw[zc L (hP t h1) (hG g h2) (hG c hc)];exact Gen.of L (lM L (hP t h1) (L.sm (hG g h2) (hG c hc))) ⟨t,_,h1,Gen.app L hQ h2 hc,rfl⟩
def sO(L:cn Y)(ht:Y.S t)(hg:Y.S g):Y.mul g (cj Y t g)=Y.mul t g:=by
 unfold cj;rw[<-L.assoc hg (auQ aq7) hg,<-L.assoc hg aq7 ht,L.bJ hg,L.one_mul ht]
def sQ(L:cn Y)(hg:Y.S g)(ha:Y.S a)(hb:Y.S b)(h:Y.mul g a=Y.mul g b):a=b:=by
 have h:=congrArg (Y.mul (Y.inv g)) h;rw[<-L.assoc aq7 hg ha,<-L.assoc aq7 hg hb,L.inv_mul hg,L.one_mul ha,L.one_mul hb]at h;exact h
variable {α:Type}{Y:Pg α}{P Q:α->Prop}{C Z W D:agM}{t c u:α}
noncomputable abbrev NC(Y:Pg α)(P Q:α->Prop):α->Prop:=Gen Y aoY
structure Ar(Y:Pg α)(P Q:α->Prop)(C Z W:agM):Prop where
 zs:∀t∈Z,Y.S t
 nc:∀t∈Z,NC Y P Q t
 has:∀t,P t->Gen Y (· ∈Z) t
 dn:∀t∈Z,t∉W->∀c∈C,Gen Y (· ∈Z) ahK
structure Ap(Y:Pg α)(P Q:α->Prop)(C Z W:agM)(t:α)(D:agM):Prop where
 zs:∀t∈Z,Y.S t
 nc:∀t∈Z,NC Y P Q t
 has:∀t,P t->Gen Y (· ∈Z) t
 mem:t∈Z
 cur:∀c∈D,Gen Y (· ∈Z) ahK
 dn:∀u∈Z,u∉W->u≠t->∀c∈C,Gen Y (· ∈Z) (cj Y u c)
def Ar.start(L:cn Y)(hP:∀t,P t->Y.S t)(hQ:∀t,Q t->Y.S t)(zs:∀t∈Z,Y.S t)(h1:∀t,P t->Gen Y (· ∈Z) t)(h2:∀t∈Z,Gen Y P t):Ar Y P Q C Z Z:=by
 refine⟨zs,λt ht=>?_,h1,λt ht h=>absurd ht h⟩;have h:=h2 t ht;clear ht;induction h with
 |one=>exact .one
 |mul ht hu ih=>exact Gen.app L (vh L hP λt h=>Gen.S L hQ h) ih (wR L hP hQ hu)
def Ar.pop(h:Ar Y P Q C Z av8)(hw:t∈Z):Ap Y P Q C Z W t []:=
 ⟨h.zs,h.nc,h.has,hw,λc hc=>(nomatch hc),λu hu hn eG=>h.dn u hu λz=>(aay.mp z).elim hn λz=>eG (aak.mp z)⟩
def Ap.old(h:Ap Y P Q C Z W t D)(hc:Gen Y (· ∈Z) ahK):Ap Y P Q C Z W t (D++[c]):=
 ⟨h.zs,h.nc,h.has,h.mem,λd hd=>(aay.mp hd).elim (h.cur d) λz=>aak.mp z▸hc,h.dn⟩
def Ap.new(L:cn Y)(hP:∀t,P t->Y.S t)(hQ:∀t,Q t->Y.S t)(h:Ap Y P Q C Z W t D)(hc:auv):Ap Y P Q C (Z++[ahK]) (W++[ahK]) t (D++[c]):=by
 have tM:=Gen.S L hQ hc;have up:∀{x},Gen Y (· ∈Z) x->Gen Y (· ∈Z++[ahK]) x:=λ{x} hx=>Gen.mono (λu hu=>aaA _ hu) hx;have sm:Y.S ahK:=lM L (h.zs t h.mem) tM;refine⟨λu hu=>?_,λu hu=>?_,λu hu=>up (h.has u hu),aaA _ h.mem,λd hd=>?_,λu hu hn eG d hd=>?_⟩
 .rcases aay.mp hu with z|z
  .exact h.zs u z
  .rw[aak.mp z];exact sm
 .rcases aay.mp hu with z|z
  .exact h.nc u z
  .rw[aak.mp z];exact sN L hP hQ hc (h.nc t h.mem)
 .rcases aay.mp hd with z|z
  .exact up (h.cur d z)
  .rw[aak.mp z];exact Gen.of L sm (aaw _ aal)
 .rcases aay.mp hu with z|z
  .exact up (h.dn u z (λq=>hn (aw8 q)) eG d hd)
  .exact absurd (aaw W z) hn
def Ap.fin(h:Ap Y P Q C Z W t C):Ar Y P Q C Z W:=
 ⟨h.zs,h.nc,h.has,λu hu hn c hc=>Classical.byCases (λe:u=t=>e▸h.cur c hc) λe=>h.dn u hu hn e c hc⟩
def Ar.done(L:cn Y)(hP:∀t,P t->Y.S t)(hQ:∀t,Q t->Y.S t)(hC:∀t,Gen Y Q t↔Gen Y (· ∈C) t)(U7:∀t∈C,Y.S t)(h:Ar Y P Q C Z []):∀t,Gen Y (· ∈Z) t↔NC Y P Q t:=by
 have hG:∀t,aDo->Y.S t:=λt h=>Gen.S L hQ h;intro t;constructor
 .intro hx;induction hx with
  |one=>exact .one
  |mul ht hu ih=>exact Gen.app L (vh L hP hG) ih (h.nc _ hu)
 .intro hx;induction hx with
  |one=>exact .one
  |mul ht hu ih=>
   obtain⟨p,g,a1,a2,rfl⟩:=hu;exact Gen.app L h.zs ih (Em L h.zs U7 (λc hc t ht=>h.dn t ht aeO c hc) ((hC g).mp a2) (h.has p a1))
def dI{α:Type}:∀{l m:agM},atf->(∀x∈l,x∈m)->l.length<=m.length:=by
 classical
 intro l;induction l with
 |nil=>intro m _ _;exact abk _
 |cons x l ih=>
  intro m hn h;obtain⟨h1,h2⟩:=aaW.mp hn;have:=ih (m:=m.erase x) h2 λy hy=>(agl (a:=y) (b:=x) λe:y=x=>h1 (e▸hy)).mpr (h y ap2);rw[aeb aAN]at this;have:=afX aAN;rw[aaF];omega
def sub_lt{α:Type}{l m:agM}{y:α}(hn:atf)(h:∀x∈l,x∈m)(hy:y∈m)(NZ:y∉l):l.length<m.length:=
 dI (l:=y::l) (aaW.mpr ⟨NZ,hn⟩) λx hx=>(aat.mp hx).elim (λe=>e▸hy) (h x)
variable {α:Type}{Y:Pg α}{P Q:α->Prop}{G G':α->Prop}{M l l':agM}{t:α}
def En(L:cn Y)(hl:atf)(h1:∀x,x∈l↔Gen Y G x)(h2:∀x,x∈l'↔Gen Y G' x)(hs:∀u,G u->G' u)(ht:Y.S t)(hG:G' t)(hn:¬Gen Y G t):l.length<l'.length:=
 sub_lt (y:=t) hl (λx hx=>(h2 x).mpr (Gen.mono hs ((h1 x).mp hx))) ((h2 t).mpr (Gen.of L ht hG)) λz=>hn ((h1 t).mp z)
def Eo(L:cn Y){ones other M:agM}(hQ:∀x,x∈ones↔Gen Y Q x)(hM:∀x,x∈M↔ ∃t∈ones,∃e∈other,x=cj Y e t):∀x,Gen Y (· ∈M) x↔NC Y (· ∈other) Q x:=by
 have e1:∀x,x∈M↔NJ Y (· ∈other) (Gen Y Q) x:=λx=>(hM x).trans
  ⟨λ⟨t,ht,e,he,q⟩=>⟨e,t,he,(hQ t).mp ht,q⟩,λ⟨e,t,he,ht,q⟩=>⟨t,(hQ t).mpr ht,e,he,q⟩⟩
 exact λx=>⟨Gen.mono λu hu=>(e1 u).mp hu,Gen.mono λu hu=>(e1 u).mpr hu⟩
variable {α:Type}{Y:Pg α}{K Q Z:α->Prop}{a b t u g h k:α}
noncomputable def cm(Y:Pg α)(a b:α):α:=Y.mul (Y.mul am5 (Y.inv b)) ajK
def oZ(L:cn Y)(ha:Y.S a)(hb:Y.S b):Y.S ayA:=L.sm (L.sm aok aq8) au5
def zf(L:cn Y)(ha:Y.S a)(hb:Y.S b):cm Y a b=Y.mul (Y.inv (Y.mul b a)) ajK:=by
 unfold cm;rw[vg L hb ha]
def qN(L:cn Y)(ha:Y.S a)(hb:Y.S b):Y.mul (Y.mul b a) ayA=Y.mul a b:=by
 have hm:=L.sm hb ha;rw[zf L ha hb,<-L.assoc hm (L.si hm) au5,L.bJ hm,L.one_mul au5]
def Ri(L:cn Y)(ha:Y.S a)(hb:Y.S b):Y.mul am5 (cj Y a b)=cm Y a b:=by
 unfold cj cm;rw[L.assoc aq8 ha hb,<-L.assoc aok aq8 au5]
def Vy(L:cn Y)(hg:Y.S g)(hh:Y.S h)(hk:Y.S k):cm Y g (Y.mul h k)=Y.mul (cm Y g k) (cj Y (cm Y g h) k):=by
 have h1:=oZ L hg hh;have h2:=oZ L hg hk;have h3:=lM L h1 hk;refine sQ L (L.sm (auP hk) hg) (oZ L hg (auP hk)) (L.sm h2 h3) ?_;rw[qN L hg (auP hk),L.assoc hh hk hg,<-L.assoc (auP (L.sm hk hg)) h2 h3,L.assoc hh (L.sm hk hg) h2,qN L hg hk,L.assoc hh (L.sm hg hk) h3,L.assoc hg hk h3,sO L h1 hk,<-L.assoc hg h1 hk,<-L.assoc hh (L.sm hg h1) hk,<-L.assoc hh hg h1,qN L hg hh,L.assoc hg hh hk]
def Vz(L:cn Y)(ht:Y.S t)(hu:Y.S u)(hh:Y.S h):cm Y aC_ h=Y.mul (cj Y (cm Y t h) u) (cm Y u h):=by
 have h1:=oZ L ht hh;have h2:=oZ L hu hh;have h3:=lM L h1 hu;refine sQ L (auP aBe) (oZ L aBe hh) (L.sm h3 h2) ?_;rw[qN L aBe hh,<-L.assoc hh ht hu,<-L.assoc (L.sm (auQ hh) hu) h3 h2,L.assoc (auQ hh) hu h3,sO L h1 hu,<-L.assoc (auQ hh) h1 hu,qN L ht hh,L.assoc ht hh hu,L.assoc ht (auP hu) h2,qN L hu hh,L.assoc ht hu hh]
def Rj(L:cn Y)(hg:Y.S g):cm Y g Y.one=Y.one/\cm Y Y.one g=Y.one:=by
 rw[zf L hg L.s1,zf L L.s1 hg,L.one_mul hg,L.mul_one hg,L.inv_mul hg];exact⟨rfl,rfl⟩
section
variable (L:cn Y)(hZ:∀t,Z t->Y.S t)(hK:∀t,K t->Y.S t)(hE:∀{c},Gen Y K c->∀{t},ayf->aqB)
include L hZ hK hE
def Jr(hg:Y.S g)(h:∀b,K b->Gen Y Z (cm Y g b)):∀{b:α},Gen Y K b->Gen Y Z (cm Y g b):=λ{b} hb=>by
 induction hb with
 |one=>rw[(Rj L hg).1];exact .one
 |mul hb hk ih=>
  rw[Vy L hg (Gen.S L hK hb) (hK _ hk)];exact Gen.app L hZ (h _ hk) auf
def Rk(hg:Y.S g)(h:∀b,K b->Gen Y Z (cm Y b g)):∀{b:α},Gen Y K b->Gen Y Z (cm Y b g):=λ{b} hb=>by
 induction hb with
 |one=>rw[(Rj L hg).2];exact .one
 |mul hb hk ih=>
  rw[Vz L (Gen.S L hK hb) (hK _ hk) hg];exact Gen.app L hZ auf (h _ hk)
end
def Ep(L:cn Y)(hZ:∀t,Z t->Y.S t)(hE:∀{c},Gen Y K c->∀{t},ayf->aqB){P:α->Prop}(h:∀t,P t->ayf):∀{t:α},NC Y P K t->ayf:=λ{t} ht=>by
 induction ht with
 |one=>exact .one
 |mul ht hu ih=>
  obtain⟨p,g,a1,a2,rfl⟩:=hu;exact Gen.app L hZ ih (hE a2 (h p a1))
def Rl(L:cn Y)(hQ:∀t,Q t->Y.S t)(hK:∀t,K t->Y.S t)(e:Gen Y K=Gen Y Q){P P':α->Prop}(hP:∀x,P x↔ ∃a b,K a/\K b/\x=cm Y a b)(mi:∀x,P' x↔ ∃t b,aDo/\Q b/\x=cm Y t b):
  NC Y P Q=NC Y P' Q/\∀a b,Gen Y Q a->Gen Y Q b->NC Y P Q ayA:=by
 have hG:∀t,aDo->Y.S t:=λt h=>Gen.S L hQ h;have sP:∀t,P t->Y.S t:=λt h=>let ⟨a,b,h1,h2,q⟩:=(hP t).mp h;q▸oZ L (hK a h1) (hK b h2);have VA:∀t,P' t->Y.S t:=λt h=>let ⟨a,b,h1,h2,q⟩:=(mi t).mp h;q▸oZ L (hG a h1) (hQ b h2);have zP:=vh L sP hG;have Xk:=vh L VA hG;have E:∀{c},auv->∀{t},NC Y P Q t->NC Y P Q ahK:=sN L sP hQ;have E':∀{c},auv->∀{t},NC Y P' Q t->NC Y P' Q ahK:=sN L VA hQ;have EK:∀{c},Gen Y K c->∀{t},NC Y P Q t->NC Y P Q ahK:=by rw[e];exact E
 have all:∀a b,Gen Y Q a->Gen Y Q b->NC Y P Q ayA:=λa b ha hb=>by
  have Xl:=ha;have iY:=hb;rw[<-e]at Xl iY;exact Rk L zP hK EK (hG b hb) (λc hc=>Jr L zP hK EK (hK c hc) (λd hd=>wR L sP hQ ((hP _).mpr ⟨c,d,hc,hd,rfl⟩)) iY) Xl
 have Xm:∀c,K c->auv:=λc hc=>by rw[<-e];exact Gen.of L (hK c hc) hc
 refine⟨funext λt=>propext ⟨Ep L Xk E' λx hx=>?_,Ep L zP E λx hx=>?_⟩,all⟩
 .obtain⟨c,d,hc,hd,rfl⟩:=(hP x).mp hx;exact Jr L Xk hQ E' (hK c hc) (λb hb=>wR L VA hQ ((mi _).mpr ⟨c,b,Xm c hc,hb,rfl⟩)) (Xm d hd)
 .obtain⟨c,d,hc,hd,rfl⟩:=(mi x).mp hx;exact all c d hc (Gen.of L (hQ d hd) hd)
def zg(L:cn Y)(ht:Y.S t)(hg:Y.S g):cj Y t g=t↔Y.mul t g=Y.mul g t:=by
 rw[<-sO L ht hg];exact⟨λh=>by rw[h],λh=>sQ L hg (lM L ht hg) ht h⟩
def M5(L:cn Y)(hK:∀t,K t->Y.S t)(ht:Y.S t)(h:∀u,K u->Y.mul t u=Y.mul u t):∀{u:α},Gen Y K u->Y.mul t u=Y.mul u t:=λ{u} hu=>by
 induction hu with
 |one=>rw[L.mul_one ht,L.one_mul ht]
 |mul ha hb ih=>
  have sa:=Gen.S L hK ha;have sb:=hK _ hb;rw[<-L.assoc ht sa sb,ih,L.assoc sa ht sb,h _ hb,L.assoc sa sb ht]
noncomputable def Sv(Y:Pg α)(M:α->Prop)(t:α):Prop:=M t/\∀u,M u->Y.mul t u=Y.mul u t
def vj(L:cn Y){M:α->Prop}(hM:axS):dC Y (Sv Y M):=by
 refine⟨λt h=>hM.s t h.1,⟨hM.one,λu hu=>by rw[L.mul_one (hM.s u hu),L.one_mul (hM.s u hu)]⟩,λa b ha hb=>⟨hM.mul _ _ ha.1 hb.1,λu hu=>?_⟩,λa ha=>⟨hM.inv _ ha.1,λu hu=>?_⟩⟩
 .have sa:=hM.s a ha.1;have sb:=hM.s b hb.1;have su:=hM.s u hu;rw[L.assoc sa sb su,hb.2 u hu,<-L.assoc sa su sb,ha.2 u hu,L.assoc su sa sb]
 .have sa:=hM.s a ha.1;have su:=hM.s u hu;refine sQ L sa (L.sm awV su) (L.sm su awV) ?_;rw[<-L.assoc sa awV su,L.bJ sa,L.one_mul su,<-L.assoc sa su awV,ha.2 u hu,L.assoc su sa awV,L.bJ sa,L.mul_one su]
def A1(L:cn Y){M:α->Prop}(hM:axS)(ht:M t)(hg:M g){x:α}:(∃h,M h/\x=cj Y (cj Y t g) h)↔ ∃h,M h/\x=cj Y t h:=by
 have st:=hM.s t ht;have sg:=hM.s g hg;constructor
 .rintro⟨h,hh,rfl⟩;exact⟨_,hM.mul _ _ hg hh,zc L st sg (hM.s h hh)⟩
 .rintro⟨h,hh,rfl⟩;have sh:=hM.s h hh;refine⟨_,hM.mul _ _ (hM.inv _ hg) hh,?_⟩;rw[zc L st sg (L.sm (L.si sg) sh),<-L.assoc sg (L.si sg) sh,L.bJ sg,L.one_mul sh]
section
variable {α:Type}{Y:Pg α}
noncomputable def o_(Y:Pg α):ad9->Nat->α->Bool
 |[],_,_=>true
 |R::l,i,t=>match dH R als with
  |some u=>o_ Y l (i+1) ajJ
  |none=>false
theorem vk(L:cn Y):∀{l:ad9}{i:Nat}{t:α},alk->Y.S t->aue->(o_ Y l i t=true↔H Y l t)
 |[],i,t,hv,hs,hf=>by
  have Hx:i=Y.n:=hv;exact⟨λ_=>L.ext hs L.s1 λk hk=>by rw[hf k (by lia),L.bK hk],λ_=>rfl⟩
 |R::l,i,t,hv,hs,hf=>by
  refine cY hv λhV hi hl=>?_;have at':∀p u w,aoS->H Y l w->t=Y.mul w u->p=Y.im t i:=λp u w hu hw e=>by
   obtain⟨s1,f1⟩:=H.good L hl hw;refine cY (hV.st p u hu) λs2 f2 f3=>?_;rw[e,L.aU s1 s2 hi,f1 i (by lia),f3]
  unfold o_;cases e:dH R als with
  |none=>
   refine⟨λz=>av6,λh=>cC h λp u w hu hw ew=>?_⟩;exact absurd (amN ⟨_,hu,at' p u w hu hw ew⟩) (iJ e)
  |some u=>
   have hu:=b9 e;refine cY (hV.st _ u hu) λs2 f2 f3=>?_;have back:∀k,k<Y.n->ax2:=λk hk=>by rw[<-L.aU s2 awW hk,L.bJ s2,L.bK hk]
   have RY:iX Y ajJ (i+1):=λk hk=>by
    rw[L.aU hs awW (by lia)];rcases abq k i with z|z
    .rw[hf k z];have:=back k (by lia);rwa [f2 k z]at this
    .have:k=i:=by lia
     subst this;rw[<-f3];exact back k hi
   have ih:=vk L hl (L.sm hs awW) RY;refine Iff.trans ih ⟨λh=>⟨_,u,_,hu,h,?_⟩,λh=>cC h λp u' w qk hw ew=>?_⟩
   .rw[L.assoc hs awW s2,L.inv_mul s2,L.mul_one hs]
   .have hp:=at' p u' w qk hw ew;subst hp;have hu2:u'=u:=iI hV.nd qk hu;subst hu2;rw[ew,L.assoc (H.good L hl hw).1 s2 awW,L.bJ s2,L.mul_one (H.good L hl hw).1];exact hw
end
end eI
namespace dD
open Py eI
section
variable {s:Nat}{F:FT}{M:aa0->Prop}{G:aa_}
noncomputable def eM(l:af6):aa_:=l.flatMap λR=>R.map (·.2)
theorem zh:∀{l:af6}{acc:aa_}{x2:aa9},acc.length+(eM l).length <=10000->
  ∃y2,aL (λx ρ=>(aB 0 x).bind λys=>(cF ρ [2] ys).bind λρ'=>ex F (ajP aDu) ρ') arn [x0,aky,x2]=some (ajW [x0,some (true,.lst ((acc++eM l).map tp)),y2])
 |[],acc,x2,_=>⟨x2,by show some asA=_;rw[show eM []=[] from rfl,abf]⟩
 |R::l,acc,x2,h=>by
  have e0:eM (R::l)=R.map (·.2)++eM l:=rfl;rw[e0,aan,aad]at h;obtain⟨y2,ih⟩:=zh (l:=l) (acc:=acc++R.map (·.2)) (x0:=x0) (x2:=vf (aP R)) (by rw[aan,aad];lia);refine⟨y2,?_⟩;have hc:ev F false Sl [x0,aky,avd]=some (aj1 ((R.map (·.2)).map tp)):=by
   rw[aaV];exact fW (d:=aP R) (xs:=R) (h:=pairD) rfl rfl (ajX (show R.length<=10000 by omega)) λe _=>rfl
  have hb:ex F aDu [x0,aky,avd]=some (ajW [x0,some (true,.lst ((acc++R.map (·.2)).map tp)),avd]):=by
   rw[OQ,hc];show(if(acc.map tp).length+((R.map (·.2)).map tp).length <=bX then _ else none)=_;rw[aav (by simp only[aad];exact aaf (show acc.length+R.length<=10000 by omega) aa2),<-aaM];rfl
  rw[aaK,gz (xG hb rfl),ih,e0,aaL]
def A2(h:(eM l).length <=10000):ex F Q7.body (aw Q7 [aH l])=some (akL (akb ((eM l).map tp))):=by
 obtain⟨y2,h1⟩:=zh (F:=F) (x0:=vf (aH l)) (l:=l) (acc:=[]) (x2:=none) (by rw[acL];omega);exact xB (xs:=[]) rfl aqf
theorem zi(k:Nat):∀R:ap6,((R.map λe=>D.int (e.1:Int)).any λz=>pB z agP)=(dH R k).isSome
 |[]=>rfl
 |e::R=>by
  rw[aaK,aeg,zi k R];show(((e.1:Int)==(k:Int))||_)=_;rw[mU];unfold dH;rw[acN];by_cases h:e.1=k
  .rw[decide_eq_true h,show(e.1==k)=true by simp[h]];rfl
  .rw[decide_eq_false h,show(e.1==k)=false by simp[h]];rfl
noncomputable abbrev NE(x0 x1:aa9)(c:Int)(t:aa0)(x4 x5 x6 x7:aa9):Env:=[x0,x1,vf (amh c),ad_,x4,x5,x6,x7]
def HU(h6:s<=6)(ht:∀p∈perms s,∀q∈perms s,ab6)(hb:∀p∈perms s,ahr)(hi:i<s)(hv:av9)(hp:ac4):
  (dH R akV=none->ex F Q6 ah2=some (akL .cv))/\
  ∀u,dH R akV=some u->∃c' y6 y7,ex F Q6 ah2=some (ajW (NE x0 x1 c' (comp t (ip u)) ar3 avd y6 y7)):=by
 have Jq:R.length<=s:=oU hi hv
 let P:List D:=R.map λe=>D.int (e.1:Int)
 have hP:P=(R.map λe=>(e.1:Int)).map D.int:=by rw[aaV];rfl
 have a6:ev F false (aks .nil) ah2=some (aj1 P):=fW (d:=aP R) (xs:=R) (h:=pairD) rfl rfl (ajX aC3) λe _=>rfl;have HV:ev F false atW (NE x0 x1 c t ar3 avd (ajU (true,.lst P)) x7)=some (.bl (!(dH R akV).isSome)):=by
  refine vF (ij hp hi) (c:= .var 6) (y:= .lst P) rfl ?_;show(if(true&&eJ P 59)=true then some (!P.any λz=>pB z (amh ((pg s).im t i:Nat))) else none)=_;rw[zi,hP,kS];rfl
 constructor
 .intro e;rw[e]at HV;exact xB a6 (xZ HV rfl)
 .intro u e;rw[e]at HV;have hk:((pg s).im t i:Int)∈R.map λe=>(e.1:Int):=aao.mpr ⟨_,b9 e,rfl⟩;obtain⟨j,hj⟩:=oG hk;have hg:=kq hj;rw[aau]at hg;refine aa (abY.mp hg) λe' Xn V6=>?_;have hu:e'.2=u:=iI hv.nd (p:=(pg s).im t i) (by
   have:e'.1=(pg s).im t i:=by omega
   rw[<-this];exact abd Xn) (b9 e)
  subst hu;have Xo:e'.2∈perms s:=(hv.st _ _ (b9 e)).1;refine⟨c*R.length+j,some (true,.lst P),vf (amh (j:Nat)),xB a6 (xN HV (xA (d:= .int (j:Nat)) ?_ (xA (d:= .int (c*R.length+j)) ?_ (xA (d:=tp (comp t (ip e'.2))) (ae (a_ (x:=tp t) rfl (ae (cy ?_) (hb e'.2 Xo) (af _))) (ht t hp _ (bS Xo)) (af _)) rfl))))⟩
  .refine ZI (x:= .lst P) rfl (cy (ij hp hi)) ?_;show(aJ P).bind (λns=>(cE ((pg s).im t i:Nat) ns).map λ(i:Nat)=>D.int (i:Int))=_;rw[hP,cM,abJ,hj];rfl
  .refine EU (i:=c*R.length) (j:=(j:Nat)) ?_ rfl;rw[Bj (a:= .var 2) (x:= .int c) (c:= .prim .len (.u 5)) (y:= .int ((R.map pairD).length :Nat)) rfl rfl,aad];exact aav (mR c aa1 aa1)
  .exact U9 (x:=pairD e') (kz (by rw[aau,Xn];rfl)) rfl rfl
theorem zk(h6:s<=6)(ht:∀p∈perms s,∀q∈perms s,ab6)(hb:∀p∈perms s,ahr):∀{l:af6}{i:Nat}{c:Int}{t:aa0}{x4 x5 x6 x7:aa9},aqv->ac4->
  ∃o,aL (λx ρ=>(aB 2 x).bind λys=>(cF ρ [4,5] ys).bind λρ'=>ex F Q6 ρ') (aO i arn) (NE x0 x1 c t x4 x5 x6 x7)=some o/\if o_ (pg s) l i t then∃c' t' y4 y5 y6 y7,o= .next (NE x0 x1 c' t' y4 y5 y6 y7) else o= .ret .cv
 |[],i,c,t,x4,x5,x6,x7,_,_=>⟨_,rfl,c,t,x4,x5,x6,x7,rfl⟩
 |R::l,i,c,t,x4,x5,x6,x7,hv,hp=>by
  have hi:i<s:=hv.2.1;obtain⟨t1,t2⟩:=HU (x0:=x0) (x1:=x1) (x6:=x6) (x7:=x7) (c:=c) h6 ht hb hi hv.1 hp;show∃o,aL _ (.tup [agF,aP R]::aO ((i:Int)+1) arn) _=some o/\_;rw[aL];show∃o,(ex F Q6 ah2).bind _=some o/\_;unfold o_;cases e:dH R akV with
  |none=>rw[t1 e];exact⟨_,rfl,rfl⟩
  |some u=>
   have hu:ais:=(hv.1.st _ _ (b9 e)).1;refine NM (t2 u e) λc' y6 y7 e2=>?_;rw[e2];have:=zk h6 ht hb (x0:=x0) (x1:=x1) (l:=l) (i:=i+1) (c:=c') (t:=comp t (ip u)) (x4:=vf agF) (x5:=vf (aP R)) (x6:=y6) (x7:=y7) hv.2.2 (bO hp (bS hu));rw[show(((i+1:Nat):Int))=(i:Int)+1 by lia]at this;exact this
def A3(h6:s<=6)(ht:∀p∈perms s,∀q∈perms s,ab6)(hb:∀p∈perms s,ahr)(hv:ajd)(hp:ac4):
  ∃d,ex F Q9.body (aw Q9 [aH l,tp t])=some asH/\if o_ (pg s) l 0 t then∃c,d= .int c else d= .cv :=by
 refine aa (zk h6 ht hb (x0:=vf (aH l)) (x1:=vf (tp t)) (c:=0) (x4:=none) (x5:=none) (x6:=none) (x7:=none) hv hp) λo h1 h2=>?_;cases hh:o_ (pg s) l 0 t with
 |true=>
  rw[hh]at h2;obtain⟨c',t',y4,y5,y6,y7,rfl⟩:=h2;exact⟨_,xA rfl (xA rfl aqf),c',rfl⟩
 |false=>
  rw[hh]at h2;have h2:o= .ret .cv :=h2;subst h2;exact⟨_,xA rfl (xA rfl (MJ h1)),rfl⟩
def M6(hn:F 12 [aH l,tp t]=some d)(h:if o_ (pg s) l 0 t then∃c,d= .int c else d= .cv):
  ex F Q8.body (aw Q8 [aH l,tp t])=some (akL (.bl (o_ (pg s) l 0 t))):=by
 cases hh:o_ (pg s) l 0 t with
 |true=>
  rw[hh]at h;obtain⟨c,rfl⟩:=h;exact xR (vF (c:= .c .cv) (y:= .cv) (aw7 hn) rfl rfl)
 |false=>
  rw[hh]at h;have h:d= .cv :=h;subst h;exact xR (vF (c:= .c .cv) (y:= .cv) (aw7 hn) rfl rfl)
def zl:u∈eM l↔St l u:=by
 unfold eM;rw[abn];constructor
 .rintro⟨R,hR,h⟩;obtain⟨e,he,rfl⟩:=aao.mp h;exact⟨R,hR,e.1,he⟩
 .rintro⟨R,hR,p,h⟩;exact⟨R,hR,aao.mpr ⟨_,h,rfl⟩⟩
def je(h:u∈eM ac0):M u:=by
 obtain⟨R,hR,p,hp⟩:=zl.mp h;obtain⟨i,_,rfl⟩:=aao.mp hR;exact(oQ p u hp).1
def lO(hM:aiV)(hG:∀u∈G,M u)(h:Gen (pg s) (· ∈G) t):M t:=by
 induction h with
 |one=>exact hM.one
 |mul _ hu ih=>exact hM.mul _ _ ih (hG _ hu)
def lP(hM:aiV)(hl:Hz (pg s) M ac0 0):Gen (pg s) (· ∈eM ac0) t↔M t:=by
 refine⟨lO hM λu=>je,λh=>?_⟩;have hm:=hl.hm ai hM;exact(H.gen ai hm.1 ((hm.2 t).mpr ⟨h,λk hk=>by lia⟩)).mono λu hu=>zl.mpr hu
def HW(hM:aiV)(hT:∀t,t∈G↔M t):Gen (pg s) (· ∈G)=M:=by
 funext t;refine propext ⟨lO hM λu h=>(hT u).mp h,λh=>Gen.of ai (hM.s t h) ((hT t).mpr h)⟩
def kC{P:α->Prop}{a b:agM}(ha:∀u∈a,P u)(hb:∀u∈b,P u):∀u∈a++b,P u:=λu h=>(aay.mp h).elim (ha u) (hb u)
def HX(h6:s<=6){a Z:aa_}{u:aa0}(hZ:∀t∈Z,ac4)(ha:∀t,Gen (pg s) (· ∈a) t↔Gen (pg s) (· ∈Z) t)(hA:∀t∈a,ac4)(hu:ais):Gen (pg s) (· ∈a++[u])=Gen (pg s) (· ∈Z++[u]):=by
 have qk:∀v∈[u],v∈perms s:=λv hv=>by rw[aak.mp hv];exact hu
 funext t;refine propext ⟨lO (eC h6 (kC hZ qk)) (kC (λv h=>((ha v).mp (Gen.of ai (hA v h) h)).mono λw hw=>aaA _ hw) λv h=>axm),lO (eC h6 (kC hA qk)) (kC (λv h=>((ha v).mpr (Gen.of ai (hZ v h) h)).mono λw hw=>aaA _ hw) λv h=>axm)⟩
end
section
variable {s:Nat}{F:FT}{l m:af6}
theorem Js:∀bs:apB,eU (bs.map .bl)=some bs
 |[]=>rfl
 |b::bs=>by show(eU (bs.map .bl)).map (b:: ·)=_;rw[Js bs];rfl
def vm{xs:agM}{h:α->D}{c:α->Bool}(h1:ak6)(h2:ayU)(hl:amj)(hc:∀x∈xs,ev F false el ajG=some (.bl (c x))):ev F b (.prim .all (.o anR)) ρ=some (.bl (xs.all c)):=by
 rw[Fw,cy (fW (g:=λx=> .bl (c x)) h1 h2 hl hc),show xs.map (λx=>D.bl (c x))=(xs.map c).map .bl by rw[aaV];rfl];show(eU ((xs.map c).map .bl)).map (λbs=>D.bl asC)=_;rw[Js];show some (D.bl ((xs.map c).all id))=_;rw[List.all_map];rfl
def A4{a:aa_}{c:aa0->Bool}(hal:a.length<=bX)(h9:F 10 [aH l]=some (akb (a.map tp)))(NB:∀t∈a,F 11 [aH m,tp t]=some (.bl (c t))):
  out (ex F Q_.body (aw Q_ [aH l,aH m]))=some (.bl (a.all c)):=
 iH (vm (aqM h9) rfl hal λt ht=>ae ae4 (NB t ht) rfl)
def Er(ht:∀p∈perms s,∀q∈perms s,ab6)(hb:∀p∈perms s,ahr)(hg:alZ)(hp:ac4):out (ex F MV.body asG)=some an2:=by
 have hi:ip g∈perms s:=ai.si (Y:=pg s) hg;have c1:ev F true (aka 2) asG=some (tp (ip g)):=ae aiB (hb g hg) (af _);have c2:ev F true (apb (axy (aka 2))) asG=some (tp (comp (ip g) t)):=ae (azR c1) (ht _ hi t hp) (af _);exact iH (ae (azR c2) (ht _ (ai.sm (Y:=pg s) hi hp) g hg) (af _))
def A5(h:F 13 [aH l,aH m]=some ag4):out (ex F MW.body asF)=some .cv :=by
 have c:ev F false (.not (apc 13)) asF=some ayh:=by
  rw[OM,ae (b:=false) ae4 h rfl];rfl
 show out (ex F (ajP (.ifs _ _ _)) asF)=_;rw[zR,tW,c];rfl
def A6(h:arD):ex F (.expr e) ρ=some av2:=by
 show(ev F true e ρ).map _=_;rw[h];rfl
def HY(h:∀t∈xs,t≠[])(h1:awC):ev F b (.prim .sorted (.o a)) ρ=some (aj1 ((br.aZ xs).map tp)):=by
 rw[Fw,cy h1];show(du alJ).map (λks=>D.lst asS)=_;rw[iL h];rfl
end
end dD
namespace Py
mutual
theorem pb:∀d:D,pB d d=true
 | .cv =>rfl
 | .bl b=>by show(b==b)=true;simp
 | .int i=>by show(i==i)=true;simp
 | .tup xs=>ph xs
 | .lst xs=>ph xs
 | .bA _ _ _=>rfl
theorem ph:∀l:ac1,A' l l=true
 |[]=>rfl
 |x::l=>by show(pB x x&&A' l l)=true;rw[pb x,ph l];rfl
end
end Py
namespace dD
open Py eI
section
variable {n s:Nat}
def Es(h:s<=6):run T (n+1) 0 [agQ]=some ahf:=by
 rw[cI (d:=kn) rfl rfl];exact DU (by lia)
def eE(h:s<=6):∀p∈perms s,∀q∈perms s,run T (n+1) 1 [tp p,tp q]=some (tp aui):=λp hp q hq=>by
 rw[cI (d:=fc) rfl rfl];exact u5 (by lia) hp hq
def gr(h:s<=6):∀p∈perms s,∀q∈perms s,run T (n+1) 27 [tp p,tp q]=some (tp aui):=λp hp q hq=>by
 rw[cI (d:=fc) rfl rfl];exact u5 (by lia) hp hq
def vn(h:s<=6):∀p∈perms s,run T (n+1) 2 [tp p]=some awn:=λp hp=>by
 rw[cI (d:=oJ) rfl rfl];exact Hs (by lia) hp
def wU:∀p∈perms s,run T (n+1) 28 [tp p]=some awn:=λp hp=>by
 rw[cI (d:=gp) rfl rfl];exact DX hp
def VB(ns:aa0){k:Nat}(hk:k<1000):run T (n+2) 23 [aid,agP]=some awJ:=by
 rw[cI (d:=oD 22) rfl rfl];refine MK ns k hk ?_;rw[cI (d:=ic) rfl rfl];exact Hk ns k
def Et(a k:Int):run T (n+1) 24 [as4,agP]=some amF:=by
 rw[cI (d:=iG) rfl rfl];exact DM a k
def Rm(ha:0<=a)(h1:1<=s)(h6:s<=6):∃p∈perms s,run T (n+2) 25 [as4,agQ]=some (tp p):=by
 rw[cI (d:=lI 24) rfl rfl];exact Hq ha h1 h6 λk=>⟨drawn a k,Et a k⟩
def Rf(a:Int)(h1:1<=s)(h6:s<=6):∃ps:aa_,run T (n+3) 26 [as4,agQ]=some ae9/\auS/\∀p∈ps,akl:=by
 rw[cI (d:=jc 25 24) rfl rfl];refine bF (MQ (F:=run T (n+2)) (ft:=25) (fd:=24) (s:=s) (a:=a) (λk=>Et a k) λb hb=>Rm hb h1 h6) λys e hl hP=>aa (D0 ys hP) λps ak sH=>?_;subst ak;exact⟨ps,e,by rwa [aad]at hl,sH⟩
theorem cq:∀ps:aa_,aG ae9=true
 |[]=>rfl
 |p::ps=>by
  show(aG (tp p)&&aG ae9)=true;rw[af,cq ps];rfl
def oV(h6:s<=6):∀l t,ajd->ac4->run T (n+2) 3 [ac8,tp t]=some (tp aif):=λl t hv ht=>by
 exact xO (fd:=d3) rfl rfl (HE azd (vn h6) hv ht)
def oX(h6:s<=6):∀l r,ajd->alY->run T (n+2) 4 [ac8,tp r]=some amc:=λl r hv hr=>by
 refine xO (fd:=d4) rfl rfl (HG azd hr (HK hv) ?_);have h1:=sJ ai hv;have h2:=VL.len hv;rw[abw]at h2;have h3:l.length*(pg s).n <=6*6:=ago (by rw[h2];exact h6) h6;rw[lJ];lia
def HZ(h6:s<=6){ps:aa_}(sH:∀p∈ps,akl)(hl:ps.length<=1300):
  ∃l,Fd (pg s) (· ∈ps) l []/\∀n,run T (n+4) 8 [ae9,agQ]=some aiS:=by
 have key:∀n,∃l,run T (n+3) 5 [ae9,agQ]=some ac8/\Fd (pg s) (· ∈ps) l []:=λn=>by
  exact aa (Ee (F:=run T (n+2)) h6 sH hl (Es h6) (oV h6) (oX h6)) λl e hd=>⟨l,by rw[cI (d:=d5) rfl rfl];exact e,hd⟩
 refine aa (key 0) λl0 _ RU=>⟨l0,RU,λn=>?_⟩;refine aa (key n) λl e hd=>?_;have hM:=eC h6 sH;have hm:=hd.hm ai sH;refine xO (fd:=d8) rfl rfl (AZ h6 e (cq ps) λk hk=>xO (fd:=d7) rfl rfl (HM h6 hM hm hk λu hu=>?_));exact aa (Ef (F:=run T (n+1)) h6 azd hm.1 hk hu) λx e1 e2=>⟨x,xO (fd:=d6) rfl rfl e1,e2⟩
theorem qO(n:Nat):∀R:ap6,eJ ame (n+2)=true
 |[]=>rfl
 |e::R=>by
  show((true&&(gI (tp e.2) (n+1)&&true))&&eJ ame (n+2))=true;rw[wM,qO n R];rfl
theorem qP(n:Nat):∀l:af6,eJ arn (n+3)=true
 |[]=>rfl
 |R::l=>by
  show(eJ ame (n+2)&&eJ arn (n+3))=true;rw[qO,qP n l];rfl
def vp(l:af6):gI (aH l) 60=true:=qP 56 l
def sR(h:gI d 60=true):cmp .NotEq d d=some false:=by
 show(if(gI d 60&&gI d 60)=true then some (!pB d d) else none)=_;rw[h,pb];rfl
end
section
variable {n s:Nat}{F:FT}{M N:aa0->Prop}
theorem Eu:∀l:af6,(eM l).length =cnt l
 |[]=>rfl
 |R::l=>by
  show(R.map (·.2)++eM l).length =R.length+cnt l;rw[aan,aad,Eu l]
structure Kn(s:Nat)(M:aa0->Prop):Prop where
 y:dC (pg s) M
 M7:Hz (pg s) M ac0 0
 tl:∀t,t∈TL (pg s) ac0↔M t
 nd:(TL (pg s) ac0).Nodup
 v:VL (pg s) ac0 0
 len:(ax (pg s) M 0).length =s
 kX:(eM ac0).length <=36
 rl:∀R∈ax (pg s) M 0,R.length<=1000
def Rn(h6:s<=6)(hM:aiV)(h:Hm (pg s) M l 0):amy:=by
 obtain⟨a,b,c⟩:=D8 ai hM h;have v:=(a.hm ai hM).1;have hl:(ax (pg s) M 0).length =s:=by have:=VL.len v;rw[abw]at this;exact this
 have h2:=sJ ai v;rw[hl]at h2;refine⟨hM,a,b,c,v,hl,by rw[Eu];exact aaf h2 (ago h6 h6),λR hR=>?_⟩;obtain⟨i,hi⟩:=List.getElem?_of_mem hR;have:=oU (by have:=(aax.mp hi).1;lia) (VL.at v hi);lia
theorem iM:∀l:af6,aG (aH l)=true
 |[]=>rfl
 |R::l=>by
  show(aG (aP R)&&aG (aH l))=true;rw[y9,iM l];rfl
def iN(k:amy):run T (n+1) 10 [al3]=some (akb auK):=by
 exact xO (fd:=Q7) rfl rfl (A2 (by have:=k.kX;omega))
noncomputable abbrev hB(s:Nat)(M:aa0->Prop)(t:aa0):Bool:=o_ (pg s) ac0 0 t
def sT(k:amy)(ht:ac4):hB s M t=true↔M t:=by
 have hm:=k.M7.hm ai k.y;exact(vk ai k.v ht λj hj=>absurd hj anp).trans ((hm.2 t).trans ⟨λh=>h.1,λh=>⟨h,λj hj=>absurd hj anp⟩⟩)
def Ro(h6:s<=6)(k:amy)(ht:ac4):run T (n+3) 11 [al3,tp t]=some (.bl (hB s M t)):=by
 obtain⟨d,e,q⟩:=A3 (F:=run T (n+1)) h6 azd (vn h6) k.v ht;exact xO (fd:=Q8) rfl rfl (M6 (s:=s) (xO (fd:=Q9) rfl rfl e) q)
def H_(h6:s<=6){G:aa_}(hG:∀u∈G,ais)(hl:G.length<=1300)(hM:aiV)(e:Gen (pg s) (· ∈G)=M):amy/\∀n,run T (n+4) 8 [.tup (G.map tp),agQ]=some al3:=by
 obtain⟨l,hd,f⟩:=HZ h6 hG hl;have hm:=hd.hm ai hG;rw[e]at hm f;exact⟨Rn h6 hM hm,f⟩
def ml(k:amy):∀u∈eM ac0,ais:=λu h=>k.y.s u (je h)
structure Xp(s:Nat)(M:aa0->Prop)(Ts:aa_):Prop where
 mem:∀t,t∈Ts↔M t
 kX:Ts.length<=1000
 nd:Ts.Nodup
 up:Ts.Pairwise br.FX
def ma(h1:1<=s)(h6:s<=6){ps:aa_}(sH:∀p∈ps,akl)(hl:ps.length<=1000)(he:seq e=some apO):∃Ts,run T (n+2) 29 [e,agQ]=some ahZ/\Xp s aa5 Ts:=by
 obtain⟨B,eB,hB⟩:=M0 (F:=run T (n+1)) h1 h6 (gr h6) sH hl he;have hBl:B.length<=720:=aaf (dI _ _ hB.nd λx hx=>D9 sH (hB.gen x hx)) azb;exact⟨_,xO (fd:=NI) rfl rfl eB,λt=>((br.aK B).mem_iff).trans ((hB.done t).trans yW),by rw[(br.aK B).length_eq];lia,(br.aK B).nodup_iff.mpr hB.nd,br.fJ B⟩
def Jt(h1:1<=s)(h6:s<=6)(hM:aiV){Ts:aa_}(hT:∀t,t∈Ts↔M t)(hl:aoI):run T (n+1) 30 [ahZ,agQ]=some al3:=by
 exact xO (fd:=Ra) rfl rfl (wQ h6 h1 hM hT hl)
def Ia(h6:s<=6)(k:amy)(j:Kn s N):run T (n+4) 13 [al3,aH (akd N)]=some (.bl ((eM ac0).all (hB s N))):=by
 rw[cI (d:=Q_) rfl rfl];exact A4 (ajX k.kX) (iN k) λt ht=>Ro h6 j (ml k t ht)
def M8(k:amy)(j:Kn s N):(eM ac0).all (hB s N)=true↔ ∀t,M t->N t:=by
 rw[abI];exact⟨λh t ht=>lO j.y (λu hu=>(sT j aws).mp (h u hu)) ((lP k.y k.M7).mpr ht),λh u hu=>(sT j aws).mpr (h u (je hu))⟩
def Ib(h6:s<=6)(k:amy)(j:Kn s N)(h:∀t,M t->N t):run T (n+5) 15 [al3,aH (akd N)]=some .cv :=by
 rw[cI (d:=MW) rfl rfl];refine A5 ?_;rw[Ia h6 k j,(M8 k j).mpr h]
def Ew(h6:s<=6)(hp:ac4)(hg:alZ):run T (n+2) 14 [tp t,tp g]=some an2:=by
 rw[cI (d:=MV) rfl rfl];exact Er (F:=run T (n+1)) azd (vn h6) hg hp
end
section
variable {s n:Nat}{P Q:aa0->Prop}{Cr:aa_}{F:FT}
noncomputable abbrev yD(s:Nat)(Z:aa_):D:=aH (akd (axa (· ∈Z)))
noncomputable abbrev RE(s:Nat)(x0 x1:aa9)(Cr Z W:aa_)(x5 x6 x7:aa9):Env:=[x0,x1,vf (akb (Cr.map tp)),vf (yD s Z),akP,x5,x6,x7]
noncomputable abbrev nT(s:Nat)(Z:aa_):Nat:=(TL (pg s) (akd (axa (· ∈Z)))).length
def Ic(h6:s<=6)(k:Kn s (ajV (· ∈Z)))(hZ:∀t∈Z,ac4)(ht:ac4)(hg:alZ)(hW:W.length<=2000):
  (Gen (pg s) (· ∈Z) ac9->ex ak2 Sn au3=some (ajW (RE s x0 x1 Cr Z W ad_ ahy (vf an2))))/\
  (¬Gen (pg s) (· ∈Z) ac9->Kn s (ajV (· ∈Z++[ac9]))/\ex ak2 Sn au3=some (ajW (RE s x0 x1 Cr auo (W++[ac9]) ad_ ahy (vf an2)))):=by
 have hu:cj (pg s) t g∈perms s:=lM ai ht hg;have hi:=sT k hu;have VC:run T (n+5) 14 [tp t,tp g]=some an2:=Ew h6 ht hg;have NB:run T (n+5) 11 [yD s Z,an2]=some (.bl (hB s (ajV (· ∈Z)) ac9)):=Ro (n:=n+2) h6 k hu;generalize cj (pg s) t g=u at hu hi VC NB⊢;have b1:ev ak2 false auD (RE s x0 x1 Cr Z W ad_ ahy aoz)=some (.bl !(hB s (ajV (· ∈Z)) u)):=ZG (aw7 NB);refine⟨λh=>?_,λh=>?_⟩
 .rw[hi.mpr h]at b1;exact xA (aj8 VC) (xN b1 rfl)
 .rw[Bool.eq_false_iff.mpr λz=>h (hi.mp z)]at b1;have hS:∀v∈eM (akd (axa (· ∈Z)))++[u],v∈perms s:=kC (ml k) λv hv=>by rw[aak.mp hv];exact hu
  have e:=HX h6 hZ (λt=>aAG) (ml k) hu;obtain⟨k',f8⟩:=H_ h6 hS (by rw[aan,abb];exact aaf (acD k.kX) aa2) (M:=Gen (pg s) (· ∈Z++[u])) (by rw[<-e];exact eC h6 hS) e;refine⟨k',xA (aj8 VC) (xY b1 (xA (bH (a_ ?_ ?_) (f8 (n+1)) rfl) (xG (dh (d:=tp u) (xs:=W.map tp) rfl rfl (by rw[aad];exact aaO hW aa2)) ?_)) rfl)⟩
  .rw[Bj (aqM (iN (n:=n+4) k)) (ZK rfl),aaM];exact aav (by rw[aad];exact aaf (acD k.kX) aa2)
  .show some (D.int (((ax (pg s) (ajV (· ∈Z)) 0).map aP).length :Nat))=_;rw[aad,k.len]
  .rw[show W.map tp++[tp u]=(W++[u]).map tp by rw[aaM];rfl];rfl
structure Ao(s:Nat)(Z W:aa_):Prop where
 k:Kn s (ajV (· ∈Z))
 w:∀t∈W,t∈Z
 kX:2*au8+W.length<=2000
theorem Ex(h6:s<=6)(hP:∀t,P t->ac4)(hQ:∀t,Q t->ac4)(hC:∀c∈Cr,azH):∀{cs dn Z W:aa_}{x6 x7:aa9},(∀c∈cs,c∈Cr)->Ap (pg s) P Q Cr Z W t dn->Ao s Z W->
  ∃Z' W' y6 y7,aL (λx ρ=>(aB 0 x).bind λys=>(cF ρ [6] ys).bind λρ'=>ex ak2 Sn ρ') (cs.map tp) (RE s x0 x1 Cr Z W ad_ x6 x7)=some arG/\Ap (pg s) P Q Cr Z' W' t (dn++cs)/\Ao s Z' W'/\2*(720-nT s Z')+W'.length<=2*au8+W.length
 |[],dn,Z,W,x6,x7,_,h,a=>⟨Z,W,x6,x7,rfl,by rw[abf];exact h,a,aam _⟩
 |g::cs,dn,Z,W,x6,x7,tM,h,a=>by
  have Xq:=tM g aal;have hg:alZ:=Gen.S ai hQ (hC g Xq);have ht:ac4:=h.zs t h.mem;have e0:dn++g::cs=(dn++[g])++cs:=by rw[aaL];rfl
  obtain⟨t1,t2⟩:=Ic (n:=n) (Cr:=Cr) (x0:=x0) (x1:=x1) (x7:=x7) (W:=W) h6 a.k h.zs ht hg (aaf (adE _ _) a.kX);rw[e0,aaK];by_cases hm:Gen (pg s) (· ∈Z) ac9
  .obtain⟨Z',W',y6,y7,i1,i2,i3,i4⟩:=Ex h6 hP hQ hC (x0:=x0) (x1:=x1) (cs:=cs) (x6:=vf (tp g)) (x7:=vf an2) (λc hc=>tM c (ake hc)) (h.old hm) a;exact⟨Z',W',y6,y7,by rw[gz (ρ':=RE s x0 x1 Cr Z W ad_ ahy (vf an2)) (t1 hm)];exact i1,i2,i3,i4⟩
  .obtain⟨k',e1⟩:=t2 hm;have hn:=h.new ai hP hQ (hC g Xq);have lt:nT s Z<nT s auo:=En ai a.k.nd a.k.tl k'.tl (λu hu=>aaA _ hu) (lM ai ht hg) aqu hm;have le:nT s auo<=720:=y_ h6 k'.v;have len:(W++[ac9]).length =W.length+1:=by rw[aan];rfl
   have kX:=a.kX;have st:2*(720-nT s auo)+(W++[ac9]).length <=2*au8+W.length:=by rw[len];omega
   obtain⟨Z',W',y6,y7,i1,i2,i3,i4⟩:=Ex h6 hP hQ hC (x0:=x0) (x1:=x1) (cs:=cs) (x6:=vf (tp g)) (x7:=vf an2) (λc hc=>tM c (ake hc)) hn ⟨k',λw hw=>(aay.mp hw).elim (λz=>aaA _ (a.w w z)) λz=>aaw _ z,aaf st kX⟩;exact⟨Z',W',y6,y7,by rw[gz (ρ':=RE s x0 x1 Cr auo (W++[ac9]) ad_ ahy (vf an2)) e1];exact i1,i2,i3,aaf i4 st⟩
theorem zo(h6:s<=6)(hP:∀t,P t->ac4)(hQ:∀t,Q t->ac4)(hC:∀c∈Cr,azH):∀(m:Nat) {Z W:aa_}{x5 x6 x7:aa9},Ar (pg s) P Q Cr Z W->Ao s Z W->2*au8+W.length<m->
  ∃Z' y5 y6 y7,gx (λρ=>((gw ρ 4).map λxs=>D.bl !xs.isEmpty).bind fE) (ex ak2 Sr) m (RE s x0 x1 Cr Z W x5 x6 x7)=some (ajW (RE s x0 x1 Cr Z' [] y5 y6 y7))/\Ar (pg s) P Q Cr Z' []/\Ao s Z' []
 |0,_,_,_,_,_,_,_,h=>absurd h anp
 |m+1,Z,W,x5,x6,x7,h,a,hn=>by
  rw[gx];rcases aeF W with rfl|⟨W0,t,rfl⟩
  .exact⟨Z,x5,x6,x7,rfl,h,a⟩
  .rw[aeG]at h a hn⊢;have len:(W0++[t]).length =W0.length+1:=by rw[aan];rfl
   have kX:=a.kX;rw[len]at hn kX;have a':Ao s Z W0:=⟨a.k,λw hw=>a.w w (aw8 hw),aaE kX⟩;obtain⟨Z',W',y6,y7,i1,i2,i3,i4⟩:=Ex (n:=n) h6 hP hQ hC (x0:=x0) (x1:=x1) (cs:=Cr) (x6:=x6) (x7:=x7) (λc hc=>hc) (h.pop (a.w t aqu)) a';obtain⟨Z2,z5,z6,z7,j1,j2,j3⟩:=zo h6 hP hQ hC (x0:=x0) (x1:=x1) m (x5:=vf (tp t)) (x6:=y6) (x7:=y7) i2.fin i3 (aaO i4 (aer hn));refine⟨Z2,z5,z6,z7,?_,j2,j3⟩;have e1:((W0++[t]).map tp).getLast? =some (tp t):=by rw[aaM];simp
   have e2:((W0++[t]).map tp).dropLast =W0.map tp:=by rw[aaM];simp
   have p1:ex ak2 ayK ahB=some (ajW (RE s x0 x1 Cr Z W0 ad_ x6 x7)):=by
    show(((W0++[t]).map tp).getLast?.map λz=>kU.next (put (aqI ahB) 5 false z))=_;rw[e1,e2];rfl
   have p0:((gw ahB 4).map λxs=>D.bl !xs.isEmpty).bind fE=some true:=by
    show some (!((W0++[t]).map tp).isEmpty)=some true;simp
   rw[p0];show((ex ak2 Sr ahB).bind _)=_;rw[show ex ak2 Sr ahB=some arG from xG p1 (xG i1 rfl)];exact j1
def Ie(h6:s<=6)(hP:∀t,P t->ac4)(hQ:∀t,Q t->ac4)(k:Kn s (ajV P))(j:Kn s awL)(h:∀t,Gen (pg s) P t->Gen (pg s) Q t):
  Kn s (azT P)/\run T (n+6) 16 [aH ad5,aC6]=some (aH (akd (azT P))):=by
 have eP:Gen (pg s) (· ∈eM ad5)=Gen (pg s) P:=by
  funext t;exact propext aAG
 have k0:Kn s (ajV (· ∈eM ad5)):=by rw[eP];exact k
 have ao:Ao s avU avU:=⟨k0,λ_ z=>z,aaf (afm (Nat.mul_le_mul_left 2 aA9) k.kX) aa2⟩;have hC:∀c∈eM ac6,azH:=λc hc=>je hc;have ar:Ar (pg s) P Q (eM ac6) avU avU:=
  Ar.start ai hP hQ (ml k) (λt ht=>by rw[eP];exact Gen.of ai (hP t ht) ht) λt ht=>je ht
 obtain⟨Z,y5,y6,y7,i1,i2,i3⟩:=zo (n:=n) h6 hP hQ hC (x0:=vf (aH ad5)) (x1:=vf aC6) fF (x5:=none) (x6:=none) (x7:=none) ar ao (aaO ao.kX aa2);have eZ:Gen (pg s) (· ∈Z)=NC (pg s) P Q:=by
  funext t;exact propext (i2.done ai hP hQ (λt=>(lP j.y j.M7).symm) (ml j) t)
 refine⟨by rw[<-eZ];exact i3.k,?_⟩;have ey:yD s avU=aH ad5:=by
  show aH (akd (axa (· ∈eM ad5)))=_;rw[eP]
 rw[<-eZ];refine xO (fd:=Vm) rfl rfl (xG (A6 (aw7 (Ib h6 k j h))) (xA (aqM (iN (n:=n+4) j)) (xA (d:=yD s avU) (congrArg some ey.symm) (xB (xs:=(eM ad5).map tp) ?_ (xG i1 (xR rfl))))));exact DL (aqM (iN (n:=n+4) k)) rfl
theorem cz{α γ:Type}{c:C}{i:Nat}{h:α->D}{E:agM->γ->Env}{all:agM}(step:∀pre x post y,awK->∃y',ex F c (put (E pre y) i false (h x))=some (ajW (E (pre++[x]) y'))):∀{pre post:agM} (y:γ),all=pre++post->
  ∃y',aL (λx ρ=>(aB 0 x).bind λys=>(cF ρ [i] ys).bind λρ'=>ex F c ρ') (post.map h) (E pre y)=some (ajW (E all y'))
 |pre,[],y,e=>⟨y,by rw[e,abf];rfl⟩
 |pre,x::post,y,e=>by
  obtain⟨y1,s1⟩:=step pre x post y e;obtain⟨y2,s2⟩:=cz step (pre:=pre++[x]) (post:=post) y1 (by rw[e,aaL];rfl);exact⟨y2,(gz s1).trans s2⟩
def vq(h:ev F false e ρ=some (aj1 zs))(h2:gC ρ i=some ws)(hl:ws.length+zs.length<=bX):ex F (.ext i e) ρ=some aih:=by
 rw[OQ,h];show(gC ρ i).bind _=_;rw[h2];exact aav hl
def iO{xs:aa_}{g:aa0->List Int}(h1:ak6)(h2:seq d=some alJ)(hl:amj)(hc:∀x∈xs,ev F false el (akc [tp x])=some (tp (g x))):ev F b anR ρ=some (aj1 ((xs.map g).map tp)):=by
 rw[fW h1 h2 hl hc,aaV];rfl
def kE{f:α->List β}{all pre post:agM}{x:α}(e:awK)(h:(all.flatMap f).length <=k):(pre.flatMap f).length+(f x).length <=k:=by
 rw[e,aeZ,adM,aan,aan]at h;omega
def iP{f:α->List β}{pre:agM}{x:α}:(pre++[x]).flatMap f=pre.flatMap f++f x:=by
 rw[aeZ,adM,List.flatMap_nil,abf]
def eF{all pre post:agM}{x:α}(e:awK):x∈all:=e▸aaw _ aal
noncomputable abbrev OE(x0:aa9)(o:Bool)(ts:aa_)(x2 x3 x4:aa9):Env:=[x0,some (o,.lst (ts.map tp)),x2,x3,x4]
def Rp(ht:∀p∈perms s,∀q∈perms s,ab6)(hts:∀t∈ts,ac4)(hl:ts.length<=1000){R:ap6}(hR:∀e∈R,aqq)(hb:(R.flatMap λe=>ts.map λw=>avo).length <=10000):
  ∃y4,aL (λx ρ=>(aB 0 x).bind λys=>(cF ρ [4] ys).bind λρ'=>ex F W8 ρ') ame (OE x0 o ts x2 (ajU apG) x4)=some (ajW (OE x0 o ts x2 (some (true,.lst ((R.flatMap λe=>ts.map λw=>avo).map tp))) y4)):=by
 refine cz (E:=λ(pre:Rg (List Int)) y=>OE x0 o ts x2 (ajU (true,.lst ((pre.flatMap λe=>ts.map λw=>avo).map tp))) y) (λpre e post y h=>?_) (pre:=[]) x4 rfl;have hf:=kE h hb;have hc:ev F false W7 (OE x0 o ts x2 (ajU (true,.lst ((pre.flatMap λe=>ts.map λw=>avo).map tp))) (vf (pairD e)))=some (aj1 ((ts.map λw=>avo).map tp)):=
  iO (d:= .lst (ts.map tp)) (by cases o<;>rfl) rfl (ajX hl) λw hw=>ae ae4 (ht w (hts w hw) _ (hR e (eF h))) (af _)
 refine⟨some (false,pairD e),xG (vq hc rfl ?_) ?_⟩
 .rw[aad,aad];exact aaf hf aa2
 .rw[iP,aaM];rfl
def Ey(h1:1<=s)(h6:s<=6)(m8:F 0 [agQ]=some ahf)(ht:∀p∈perms s,∀q∈perms s,ab6)(hv:ajd):
  ex F d9.body (aw d9 [aH l])=some (akL (akb ((br.aZ (azS l)).map tp))):=by
 have aI:l.length=s:=by have:=VL.len hv;rw[abw]at this;exact this
 have e1:ev F false (.call 0 (.o ahb)) (aw d9 [aH l])=some ahf:=by
  refine ae (cy (x:= .int s) ?_) m8 (af _);show some (D.int ((l.map aP).length :Nat))=_;rw[aad,aI]
 obtain⟨⟨o,y2,y3,y4⟩,h2⟩:=cz (F:=F) (c:=W9) (i:=2) (h:=aP) (all:=l.reverse) (E:=λ(pre:List (Rg (List Int))) (y:Bool×Option (Bool×D)×Option (Bool×D)×Option (Bool×D))=>OE (vf (aH l)) y.1 (azS pre.reverse) y.2.1 y.2.2.1 y.2.2.2) (λpre R post y h=>by
  have e0:l=post.reverse++R::pre.reverse:=by rw[<-agm l,h,agw,List.reverse_cons,aaL];rfl
  have VD:VL (pg s) (R::pre.reverse) (0+post.reverse.length):=by
   have:=VL.drop post.reverse.length hv (by rw[e0,aan];exact aba _ _);rwa [e0,List.drop_left]at this
  have hl:=VD.2.2;obtain⟨z4,i1⟩:=Rp ht (x0:=vf (aH l)) (x2:=vf (aP R)) (x4:=y.2.2.2) (o:=y.1) (λt h=>(H.good ai hl (jx.mp h)).1) (ajX (y_ h6 hl)) (R:=R) (λe he=>(VD.1.st e.1 e.2 he).1) (ajX (y_ h6 VD));refine⟨al0,xB (xs:=[]) rfl (xG i1 ?_)⟩;show _=some (kU.next (OE _ _ (TL (pg s) (pre++[R]).reverse) _ _ _));rw[agw];rfl) (pre:=[]) (true,none,none,none) rfl
 rw[agm]at h2;refine xB (xs:=[ahf]) (by rw[TR,cy e1];rfl) (xG (ρ':=OE (vf (aH l)) o (azS l) y2 y3 y4) ?_ (xR (DL (HY (λt h=>sM h1 (H.good ai hv (jx.mp h)).1) (by cases o<;>rfl)) rfl)));rw[Fy];show aL _ ((l.map aP).reverse) _=_;rw[<-List.map_reverse];exact h2
def wV(h1:1<=s)(h6:s<=6)(k:amy):run T (n+2) 9 [al3]=some (akb ((br.aZ (azS ac0)).map tp)):=xO (fd:=d9) rfl rfl (Ey h1 h6 (Es h6) azd k.v)
end
section
variable {s n:Nat}{F:FT}{M Q:aa0->Prop}
theorem mX{f:α->List β}{c:Nat}:∀{l:agM},(∀x∈l,(f x).length <=c)->(l.flatMap f).length <=l.length*c
 |[],_=>abk _
 |x::l,h=>by
  have:=mX (l:=l) λy hy=>h y ap2;have:=h x aal;rw[adM,aan,aaF,Nat.add_mul];omega
noncomputable abbrev AL(s:Nat)(M:aa0->Prop):aa_:=br.aZ (azS ac0)
def cu(k:amy):t∈AL s M↔M t:=(br.aK _).mem_iff.trans (k.tl t)
def pj(h6:s<=6)(k:amy):(AL s M).length <=720:=by rw[(br.aK _).length_eq];exact y_ h6 k.v
def Ig(k:amy)(h:Xp s M A):A=AL s M:=br.gQ ((acR h.nd k.nd).mpr λt=>(h.mem t).trans (k.tl t).symm) h.up
def Ez(k:amy)(h:ev F true ac3 ρ=some al3):ev F b ahb ρ=some agQ:=by
 refine DL h ?_;show some (D.int (((ax (pg s) M 0).map aP).length :Nat))=_;rw[aad,k.len]
noncomputable abbrev gB(s:Nat)(M:aa0->Prop)(t:aa0):Bool:=(eM ac0).all λu=>decide (comp t u=comp u t)
def Rq(h6:s<=6)(k:amy)(hp:ac4):run T (n+2) 17 [tp t,.tup auK]=some (.bl (gB s M t)):=
 xO (fd:=Vn) rfl rfl (xR (vm (d:= .tup auK) rfl rfl (ajX k.kX) λu hu=>vF (aj8 (eE h6 t hp u aws)) (aj8 (eE h6 u aws t hp)) (DT _ _)))
def mem_mid(k:amy):t∈(AL s M).filter (gB s M)↔Sv (pg s) M t:=by
 rw[abe,cu k,abI];refine and_congr_right λht=>⟨λh u hu=>M5 ai (ml k) (k.y.s t ht) (λv hv=>of_decide_eq_true (h v hv)) ((lP k.y k.M7).mpr hu),λh u hu=>decide_eq_true (h u (je hu))⟩
def VE(h1:1<=s)(h6:s<=6)(k:amy):run T (n+5) 18 [al3]=some (aH (akd (Sv (pg s) M))):=by
 have hy:=vj (ai (s:=s)) k.y;obtain⟨kc,f⟩:=H_ h6 (λu hu=>hy.s u ((mem_mid k).mp hu)) (aaf (acX ..) aq2) hy (HW hy λt=>mem_mid k);refine xO (fd:=Vo) rfl rfl (xA (arf (iN k)) (xR (ae (a_ (DL (ky (xs:=AL s M) (h:=tp) (g:=tp) (c:=gB s M) (arf (wV h1 h6 k)) rfl aq2 (λt ht=>Hv (aw7 (Rq h6 k (k.y.s t alF)))) λt _=>rfl) rfl) (Ez k rfl)) (f n) (iM _))))
def M9(h6:s<=6)(ha:a∈perms s)(hb:b∈perms s):run T (n+2) 19 [tp a,tp b]=some (tp (cm (pg s) a b)):=
 xO (fd:=Vp) rfl rfl (xR (ae (a_ (ae (a_ (avF (vn h6 a ha)) (avF (vn h6 b hb))) (eE h6 _ (bS ha) _ (bS hb)) (af _)) (aj8 (eE h6 a ha b hb))) (eE h6 _ (bO (bS ha) (bS hb)) _ (bO ha hb)) (af _)))
noncomputable abbrev Bk(s:Nat)(as bs:aa_):aa_:=as.flatMap λa=>bs.map λb=>cm (pg s) a b
def kF:x∈Bk s as bs↔ ∃a b,a∈as/\b∈bs/\x=cm (pg s) a b:=by
 rw[abn];exact⟨λ⟨a,ha,h⟩=>let ⟨b,hb,q⟩:=aao.mp h;⟨a,b,ha,hb,q.symm⟩,λ⟨a,b,ha,hb,q⟩=>⟨a,ha,aao.mpr ⟨b,hb,q.symm⟩⟩⟩
noncomputable abbrev A7(s:Nat)(M:aa0->Prop):aa_:=Bk s (eM ac0) (eM ac0)
def Ih(h6:s<=6)(hQ:∀t,Q t->ac4)(k:Kn s awL):Kn s (azT (· ∈A7 s awL))/\run T (n+7) 20 [aC6]=some (aH (akd (azT (· ∈A7 s (axa Q))))):=by
 have hm:=ml k;have hS:∀t∈A7 s awL,ac4:=λt ht=>by
  obtain⟨a,b,ha,hb,rfl⟩:=kF.mp ht;exact oZ ai (hm a ha) (hm b hb)
 have hl:(A7 s awL).length <=1296:=by
  refine aaf (mX (c:=36) λx _=>by rw[aad];exact k.kX) ?_;have:=k.kX;omega
 have sub:∀t,Gen (pg s) (· ∈A7 s awL) t->Gen (pg s) Q t:=λt ht=>lO k.y (λu hu=>by
  obtain⟨a,b,ha,hb,rfl⟩:=kF.mp hu;exact k.y.mul _ _ (k.y.mul _ _ (k.y.inv _ (je ha)) (k.y.inv _ (je hb))) (k.y.mul _ _ (je ha) (je hb))) ht
 obtain⟨kt,f⟩:=H_ h6 hS (ajX hl) (eC h6 hS) rfl;obtain⟨k3,f3⟩:=Ie (n:=n) (P:=(· ∈A7 s awL)) (Q:=Q) h6 hS hQ kt k sub;obtain⟨y,h2⟩:=cz (F:=run T (n+6)) (c:= .seq (.ext 2 Vj) .skip) (i:=3) (h:=tp) (all:=eM ac6) (E:=λpre y=>[vf aC6,vf (akb auJ),apL,y]) (λpre a post y h=>by
  have hf:=kE h hl;have hc:ev (run T (n+6)) false Vj [vf aC6,vf (akb auJ),apL,vf (tp a)]=some (aj1 (((eM ac6).map λb=>cm (pg s) a b).map tp)):=
   iO (d:= .tup auJ) rfl rfl (ajX k.kX) λb hb=>ae ae4 (M9 h6 (hm a (eF h)) (hm b hb)) (af _)
  refine⟨some (false,tp a),xG (vq hc rfl ?_) ?_⟩
  .rw[aad,aad];exact aaf hf aa2
  .rw[show Bk s (pre++[a]) (eM ac6)=_ from iP,aaM];rfl) (pre:=[]) none rfl
 exact⟨k3,xO (fd:=Vq) rfl rfl (xA (arf (iN k)) (xB (xs:=[]) rfl (xG h2 (xR (ae (azR (ae (a_ aBl (Ez k rfl)) (f (n+2)) (iM _))) f3 (iM _))))))⟩
end
noncomputable def fB(cl:aa0->aa_)(t:aa0):Bool:=decide ((cl t)[0]?=some t)
def Rr{cl:aa0->List aa0}(e:cl t=x::r):fB cl t=decide (x=t):=by
 unfold fB;rw[e];exact decide_eq_decide.mpr ⟨λz=>aaI z,λz=>congrArg some z⟩
theorem vt{f:α->List β}:∀{l:agM},atf->(∀x∈l,(f x).Nodup)->(∀x∈l,∀y∈l,∀z,z∈f x->z∈f y->x=y)->(l.flatMap f).Nodup
 |[],_,_,_=>ads
 |x::l,nd,h1,h2=>by
  obtain⟨n1,n2⟩:=aaW.mp nd;rw[adM,aby];refine⟨h1 x aal,vt n2 (λy hy=>h1 y ap2) λa ha b hb=>h2 a (ake ha) b atq,λa ha b hb e=>?_⟩;obtain⟨y,hy,q⟩:=abn.mp hb;exact n1 (h2 x aal y ap2 a ha (e▸q)▸hy)
structure Kd(A:aa_)(cl:aa0->aa_):Prop where
 up:A.Pairwise br.FX
 nd:A.Nodup
 c0:∀t∈A,t∈cl t
 c1:∀t∈A,∀u∈cl t,u∈A
 c2:∀t,(cl t).Pairwise br.FX
 c3:∀t,(cl t).Nodup
 c4:∀t∈A,∀u∈cl t,cl u=cl t
section
variable {A pre post:aa_}{cl:aa0->List aa0}{t:aa0}(k:Kd A cl)
include k
def Kd.fst(h:t∈A):∃x r,cl t=x::r/\x∈A/\br.FX x t/\cl x=cl t:=by
 have h0:=k.c0 t h;have h2:=k.c2 t;cases e:cl t with
 |nil=>rw[e]at h0;cases h0
 |cons x r=>
  have hx:x∈cl t:=e▸aal;rw[e]at h0 h2;refine⟨x,r,rfl,k.c1 t h x hx,?_,(k.c4 t h x hx).trans e⟩;rcases aat.mp h0 with z|z
  .rw[z];cases q:br.bB x x with
   |false=>exact q
   |true=>exact br.fI x x q
  .exact(abH.mp h2).1 t z
def Kd.one(hu:u∈A)(hv:v∈A)(fu:fB cl u=true)(fv:fB cl v=true)(hx:x∈cl u)(hy:x∈cl v):u=v:=by
 have e:=(k.c4 u hu x hx).symm.trans (k.c4 v hv x hy);have a:=of_decide_eq_true fu;rw[e,of_decide_eq_true fv]at a;exact(aaI a).symm
def Kd.new(e:A=pre++t::post):(!decide (t∈(pre.filter (fB cl)).flatMap cl))=fB cl t:=by
 have ht:=eF e;have ip:∀u∈pre,u∈A:=λu hu=>e▸aaA _ hu;cases ft:fB cl t with
 |true=>
  rw[decide_eq_false]
  .rfl
  .intro z;obtain⟨u,hu,q⟩:=abn.mp z;obtain⟨hu,fu⟩:=abe.mp hu;have:=k.one (ip u hu) ht fu ft q (k.c0 t ht);subst this;have nd:=k.nd;rw[e,aby]at nd;exact nd.2.2 u hu u aal rfl
 |false=>
  rw[decide_eq_true]
  .rfl
  obtain⟨x,r,e1,hx,le,e2⟩:=k.fst ht;have ne:x≠t:=λz=>by rw[Rr e1,decide_eq_true z]at ft;cases ft
  have up:=k.up;rw[e]at hx up;refine abn.mpr ⟨x,abe.mpr ⟨?_,?_⟩,by rw[e2];exact k.c0 t ht⟩
  .rcases aay.mp hx with z|z
   .exact z
   .rcases aat.mp z with z|z
    .exact absurd z ne
    .exact absurd (br.iy _ _ ((abH.mp (aaX.mp up).2.1).1 x z) le) ne
  .unfold fB;rw[e2,e1];exact decide_eq_true rfl
def Kd.nodup(e:A=pre++post):((pre.filter (fB cl)).flatMap cl).Nodup :=by
 have ip:∀u∈pre,u∈A:=λu hu=>e▸aaA _ hu;have nd:=k.nd;rw[e]at nd;exact vt ((aby.mp nd).1.sublist aeY) (λx _=>k.c3 x) λx hx y hy z h1 h2=>k.one (ip x (abe.mp hx).1) (ip y (abe.mp hy).1) (abe.mp hx).2 (abe.mp hy).2 h1 h2
end
section
variable {s n:Nat}{F:FT}{M:aa0->Prop}
noncomputable def f6(s:Nat)(A:aa_)(t:aa0):aa_:=br.aZ (S2.iZ (A.map λg=>ac9))
def sU:x∈f6 s A t↔ ∃g∈A,x=cj (pg s) t g:=
 (br.aK _).mem_iff.trans (S2.mJ.trans (aao.trans ⟨λ⟨g,h,e⟩=>⟨g,h,e.symm⟩,λ⟨g,h,e⟩=>⟨g,h,e.symm⟩⟩))
def zp(k:amy):Kd af1 akh:=by
 have hc:∀{t x},x∈f6 s af1 t↔ ∃g,M g/\x=cj (pg s) t g:=λ{t x}=>sU.trans ⟨λ⟨g,h,e⟩=>⟨g,(cu k).mp h,e⟩,λ⟨g,h,e⟩=>⟨g,(cu k).mpr h,e⟩⟩;refine⟨br.fJ _,(br.aK _).nodup_iff.mpr k.nd,λt ht=>hc.mpr ⟨_,k.y.one,(lN ai (k.y.s t alF)).symm⟩,λt ht u hu=>?_,λt=>br.fJ _,λt=>(br.aK _).nodup_iff.mpr (S2.iA _),λt ht u hu=>?_⟩
 .obtain⟨g,hg,rfl⟩:=hc.mp hu;exact(cu k).mpr (k.y.mul _ _ (k.y.mul _ _ (k.y.inv _ hg) alF) hg)
 .obtain⟨g,hg,rfl⟩:=hc.mp hu;refine br.nP ((acR (S2.iA _) (S2.iA _)).mpr λx=>?_);rw[<-(br.aK _).mem_iff,<-(br.aK (S2.iZ ((AL s M).map λg=>ac9))).mem_iff];exact hc.trans ((A1 ai k.y alF hg).trans hc.symm)
def kG(h1:1<=s)(h6:s<=6)(h:∀t∈xs,ac4):(∀{a ρ b},awC->ev F b aw0 ρ=some (aj1 ((br.aZ (S2.iZ xs)).map tp)))/\(br.aZ (S2.iZ xs)).length <=720/\∀t,t∈br.aZ (S2.iZ xs)↔t∈xs:=by
 have hl:(S2.iZ xs).length <=720:=aaf (dI _ _ (S2.iA xs) λt ht=>h t (S2.mJ.mp ht)) azb;refine⟨λ{a ρ b} e=>?_,by rw[(br.aK _).length_eq];exact hl,λt=>(br.aK _).mem_iff.trans S2.mJ⟩;show((ev F true a ρ).bind tS).map D.lst=_;rw[e];show((du alJ).bind λks=>if(S2.iZ ks).length <=720 then some aw4 else none).map D.lst=_;rw[iL λt ht=>sM h1 (h t ht),abJ,aav hl];rfl
theorem EA:∀c:aa_,nF (c.map λx=> arW)=some (c.map λx=>(x,ag4))
 |[]=>rfl
 |x::c=>by
  show(aJ (x.map .int)).bind (λk=>(nF (c.map λx=> arW)).map ((k,ag4):: ·))=_;rw[cM,EA c];rfl
noncomputable abbrev kD(c:aa_):D:= .tup (c.map tp)
noncomputable abbrev eN(s:Nat)(M:aa0->Prop)(pre:aa_):List aa_:=(pre.filter (fB akh)).map akh
def pv:eN s M alV=if fB akh t then eN s M pre++[al2] else eN s M pre:=by
 unfold eN;rw[afi,aaM,ado];cases fB akh t<;>simp
noncomputable abbrev dF(s:Nat)(M:aa0->Prop)(pre:aa_):aa_:=(pre.filter (fB akh)).flatMap akh
noncomputable abbrev KE(s:Nat)(M:aa0->Prop)(pre:aa_)(x4 x5:aa9):Env:=[vf al3,avO,some (true,.lst anb),ai_,x4,x5]
def lQ:dF s M alV=if fB akh t then dF s M pre++f6 s af1 t else dF s M pre:=by
 unfold dF;rw[afi,aeZ,ado];cases fB akh t<;>simp
def M_(h1:1<=s)(h6:s<=6)(k:amy):run T (n+3) 21 [al3]=some (akb aBA):=by
 have kd:=zp k;have hS:∀t∈AL s M,ac4:=λt ht=>k.y.s t alF;obtain⟨y,h2⟩:=cz (F:=run T (n+2)) (c:=Vk) (i:=4) (h:=tp) (all:=AL s M) (E:=λpre (y:Option (Bool×D)×Option (Bool×D))=>KE s M pre y.1 y.2) (λpre t post y h=>by
  have ht:=eF h;have hd:ev apN false (aB8 aia) arL=some (.bl (fB akh t)):=by
   rw[<-kd.new h,OP];show((c_ 1 (tp t)).map λx=>D.bl (!decide (x∈dF s M pre)))=_;rw[mW aa2];rfl
  have nd:(dF s M alV).Nodup :=kd.nodup (show AL s M=alV++post by rw[h,aaL];rfl);have sub:∀x∈dF s M alV,x∈perms s:=λx hx=>by
   obtain⟨u,hu,q⟩:=abn.mp hx;refine hS x (kd.c1 u ?_ x q);rw[h];rcases aay.mp (abe.mp hu).1 with z|z
   .exact aaA _ z
   .rw[aak.mp z];exact aaw _ aal
  have kX:(dF s M alV).length <=720:=aaf (dI _ _ nd sub) azb;show∃y':atU,ex apN Vk arL=_;cases ft:fB akh t with
  |false=>
   rw[ft]at hd;refine⟨(ad_,y.2),xN hd ?_⟩;show _=some (kU.next (KE s M alV _ _));unfold KE;rw[pv,lQ,ft];rfl
  |true=>
   rw[ft]at hd;have e1:ev apN true W_ arL=some (aj1 (((AL s M).map λg=>ac9).map tp)):=
    iO (d:= .tup ajt) rfl rfl aq2 λg hg=>ae ae4 (Ew h6 awx awy) (af _)
   obtain⟨s1,_,_⟩:=kG (F:=run T (n+2)) h1 h6 (xs:=(AL s M).map λg=>ac9) λx hx=>by
    obtain⟨g,hg,rfl⟩:=aao.mp hx;exact lM ai awx awy
   rw[lQ,ft,aav rfl]at nd kX;have l1:(eN s M pre).length <=720:=by
    rw[aad];refine aaf (acX ..) (aaf ?_ (pj h6 k));rw[h,aan];exact aba _ _
   refine⟨(ad_,ajm),xY hd (xA (s1 e1) (xG (dh (d:=kD al2) (xs:=(eN s M pre).map kD) aBl rfl (by rw[aad];exact aaO l1 aa2)) (xG (ρ':=KE s M alV ad_ ajm) ?_ rfl))) rfl⟩;have e2:ev apN false ah4 [vf al3,avO,apg,ai_,ad_,ajm]=some (aj1 ((f6 s af1 t).map λx=> arW)):=
    fW (d:= .lst ((f6 s af1 t).map tp)) rfl rfl (aaf (aaf (by rw[aan];exact adE _ _) kX) aa2) λx _=>rfl
   show((ev apN false ah4 [vf al3,avO,apg,ai_,ad_,ajm]).bind eV).bind _=_;rw[e2];show(nF ((f6 s af1 t).map λx=> arW)).bind _=_;rw[EA];have m1:((f6 s af1 t).map λx=>alq).map (·.1)=f6 s af1 t:=by rw[aaV];exact afK _
   have m2:((f6 s af1 t).map λx=>alq).map (·.2)=mv al2:=aaV ..;show(if(1:Nat)=1/\(dF s M pre++((f6 s af1 t).map λx=>alq).map (·.1)).Nodup /\(dF s M pre).length+((f6 s af1 t).map λx=>alq).length <=bX then _ else none)=_;rw[m1,m2,aav ⟨rfl,nd,by rw[aad,<-aan];exact aaf kX aa2⟩];unfold KE;rw[pv,lQ,ft,aav rfl,aav rfl,aaM,mv,mv,mv,<-aaM];rfl) (pre:=[]) (none,none) rfl
 exact xO (fd:=Vr) rfl rfl (xA (arf (wV h1 h6 k)) (xB (xs:=[]) rfl (xG (ρ':=[vf al3,avO,some apG,some (true,.bA 1 [] []),none,none]) rfl (xG h2 (xR rfl)))))
end
section
variable {s:Nat}{F:FT}
noncomputable def pz:List aa_:=[[[1,0,2,3,4,5],[0,1,3,2,5,4]],[[1,2,0,4,5,3],[3,4,5,0,1,2]],[[1,2,3,4,5,0]],[[1,2,3,4,5,0],[5,4,3,2,1,0]],[[1,2,0,3,4,5],[0,1,2,4,5,3],[1,0,2,3,4,5]]]
def M':pz.all (λps=>decide auS&&ps.all λp=>decide (p∈perms 6))=true:=by decide +kernel
noncomputable abbrev A8(ps:aa_):D:= .tup apO
def Na(a:Int):∃ps:aa_,ex F MX.body (aw MX [as4])=some (akL ae9)/\auS/\∀p∈ps,p∈perms 6:=by
 have g0:0<=a%5:=acA _ aa2;have g1:a%5<5:=acn _ aa2;obtain⟨j,hj⟩:∃j:Nat,a%5=j:=⟨(a%5).toNat,(acr g0).symm⟩;have bj:j<5:=by omega
 have hr:pz[j]?=some pz[j]:=aac bj;have hm:=abI.mp M' _ (acU (l:=pz) (n:=j) bj);rw[aae,decide_eq_true_eq,abI]at hm;refine⟨pz[j],?_,hm.1,λp hp=>of_decide_eq_true (hm.2 p hp)⟩;have e:ex F MX.body (aw MX [as4])=(ex F asf [vf (amh a),vf (akb (pz.map A8))]):=rfl;rw[e];have m1:ev F false (aj9 azN) [vf (amh a),vf (akb (pz.map A8))]=some (amh j):=by
  rw[<-hj];exact DK (i:=a) rfl rfl aa2
 refine xR ?_;rw[KP,m1];show(place (pz.map A8).length (j:Int)).bind (λj=>(pz.map A8)[j]?)=_;rw[qH (show j<(pz.map A8).length from bj)];show(pz.map A8)[j]?=_;rw[aau,hr];rfl
end
section
variable {s n:Nat}{F:FT}{M:aa0->Prop}{ps:aa_}
def EB(h6:s<=6)(hp:ac4)(hg:alZ):run T (n+2) 31 [tp t,tp g]=some an2:=
 xO (fd:=Vs) rfl rfl (xR (ae (azR (ae (a_ (avF (wU g hg)) rfl) (gr h6 _ (bS hg) t hp) (af _))) (gr h6 _ (bO (bS hg) hp) g hg) (af _)))
def Nb{Ts:aa_}(h:t∈Ts):cmp .NotIn (tp t) (akb (Ts.map tp))=some false:=by
 show(if(gI (tp t) 60&&gI ahZ 60)=true then some (!(Ts.map tp).any λz=>pB z (tp t)) else none)=_;rw[oE,show gI ahZ 60=true from ik 58 Ts,show((Ts.map tp).any λz=>pB z (tp t))=true from List.any_eq_true.mpr ⟨_,aao.mpr ⟨t,h,rfl⟩,pb _⟩];rfl
theorem zq(n:Nat):∀cs:List aa_,eJ (cs.map kD) (n+2)=true
 |[]=>rfl
 |c::cs=>by
  show(eJ (c.map tp) (n+1)&&eJ (cs.map kD) (n+2))=true;rw[ik,zq n cs];rfl
noncomputable abbrev fr(d:D):aa9:=vf d
noncomputable abbrev ow(d:ac1):aa9:=some (true,.lst d)
noncomputable abbrev LW(sc:aa9)(s:Nat)(ps:aa_)(x3:aa9)(A:aa_)(x5 x6 x7 x8 x9 x10 x11 x12 x13 x14 x15:aa9):Env:=[sc,fr agQ,fr ae9,x3,fr aqh,x5,x6,x7,x8,x9,x10,x11,x12,x13,x14,x15]
def Ii(h1:1<=s)(h6:s<=6)(k:amy):∃y:atU,aL (λx ρ=>(aB 0 x).bind λys=>(cF ρ [6] ys).bind λρ'=>ex ayY Xb ρ') ajt (LW sc s ps x3 af1 (ow []) none none none none none none none none none none)=some (ajW (LW sc s ps x3 af1 (ow aBA) y.1 y.2 none none none none none none none none)):=by
 have kd:=zp k;have hS:∀t∈AL s M,ac4:=λt ht=>k.y.s t alF;refine cz (E:=λpre (y:Option (Bool×D)×Option (Bool×D))=>LW sc s ps x3 af1 (ow anb) y.1 y.2 none none none none none none none none) (λpre t post y h=>?_) (pre:=[]) (none,none) rfl;have ht:=eF h;obtain⟨x,r,e0,_⟩:=kd.fst ht;have e1:ev ayY true Xa (LW sc s ps x3 af1 (ow anb) avm y.2 none none none none none none none none)=some (aj1 (((AL s M).map λg=>ac9).map tp)):=
  iO (d:= .lst ajt) rfl rfl aq2 λg hg=>ae ae4 (EB h6 awx awy) (af _)
 obtain⟨s1,_,_⟩:=kG (F:=run T (n+3)) h1 h6 (xs:=(AL s M).map λg=>ac9) λx hx=>by
  obtain⟨g,hg,rfl⟩:=aao.mp hx;exact lM ai awx awy
 have c1:ev ayY false avA (LW sc s ps x3 af1 (ow anb) avm (fr (kD al2)) none none none none none none none none)=some (.bl (fB akh t)):=by
  rw[Rr e0];exact vF (U9 rfl rfl (kz (k:=0) (x:=tp x) (by rw[e0];rfl))) rfl (DT x t)
 have l1:(eN s M pre).length <=720:=by
  rw[aad];refine aaf (acX ..) (aaf ?_ (pj h6 k));rw[h,aan];exact aba _ _
 refine⟨(avm,fr (kD al2)),xA (DL (s1 e1) rfl) ?_⟩;show _=some (kU.next (LW sc s ps x3 af1 (ow ((eN s M alV).map kD)) _ _ none none none none none none none none));rw[pv];cases ft:fB akh t with
 |false=>rw[ft]at c1;exact xN c1 rfl
 |true=>
  rw[ft]at c1;rw[aav rfl,aaM];exact xY c1 (xG (dh (d:=kD al2) (xs:=(eN s M pre).map kD) rfl rfl (by rw[aad];exact aaO l1 aa2)) rfl) rfl
noncomputable abbrev wW(s:Nat)(M:aa0->Prop):aa_:=((eN s M af1).filter λc=>decide (c.length=1)).map λc=>c.headD []
def A9(k:amy):t∈wW s M↔Sv (pg s) M t:=by
 have kd:=zp k;have hS:∀t∈AL s M,ac4:=λt ht=>k.y.s t alF;rw[aao];constructor
 .rintro⟨c,hc,rfl⟩;obtain⟨h1,h2⟩:=abe.mp hc;obtain⟨u,hu,rfl⟩:=aao.mp h1;have hu:=(abe.mp hu).1;obtain⟨x,e⟩:=List.length_eq_one_iff.mp (aqK h2);have hx:=kd.c0 u hu;rw[e]at hx⊢;cases aak.mp hx;refine⟨(cu k).mp hu,λg hg=>(zg ai (hS u hu) (k.y.s g hg)).mp ?_⟩;have:cj (pg s) u g∈f6 s af1 u:=sU.mpr ⟨g,(cu k).mpr hg,rfl⟩;rw[e]at this;exact aak.mp this
 .intro h;have ht:=(cu k).mpr h.1;have all:∀x∈f6 s af1 t,x=t:=λx hx=>by
   obtain⟨g,hg,rfl⟩:=sU.mp hx;exact(zg ai awx awy).mpr (h.2 g ((cu k).mp hg))
  have e:f6 s af1 t=[t]:=by
   have nd:=kd.c3 t;have h0:=kd.c0 t ht
   match hc:f6 s af1 t with
   |[]=>rw[hc]at h0;cases h0
   |[x]=>rw[all x (by rw[hc];exact aal)]
   |x::y::r=>
    rw[hc]at nd all;exact absurd ((all x ab5).trans (all y ab5).symm) λz=>(aaW.mp nd).1 (z▸aal)
  exact⟨[t],abe.mpr ⟨aao.mpr ⟨t,abe.mpr ⟨ht,by unfold fB;rw[e];exact decide_eq_true rfl⟩,e⟩,rfl⟩,rfl⟩
def vw{xs ys:aa_}(h:ρ[i]?=some (ow alJ))(h2:ev F true e ρ=some (aj1 aCc))(hl:xs.length+ys.length<=1000000):ex F (.bY i (.bin .Add atF e)) ρ=some (ajW (akg (.lst ((xs++ys).map tp)))):=by
 refine kl ?_;rw[Bj (x:= .lst alJ) (by rw[TM];unfold rd;rw[h];rfl) h2,aaM];exact aav (by rw[aad,aad];exact aaf hl aa2)
end
section
variable {s:Nat}
def zu(h1:1<=s)(h6:s<=6){ps:aa_}(fy:auS)(hp:∀p∈ps,akl){sc:aa9}:
  ex awq Vl [sc,fr agQ,fr ae9,none,none,none,none,none,none,none,none,none,none,none,none,none]=some (akL ag4):=by
 obtain⟨k,e1⟩:=H_ h6 hp (ajX fy) (eC h6 hp) rfl;obtain⟨A,eA,aA⟩:=ma (n:=5) h1 h6 hp (ajX fy) (e:= .tup apO) rfl;obtain rfl:=Ig k aA;have kd:=zp k;have hA:∀t∈AL s aa5,ac4:=λt ht=>k.y.s t ((aA.mem t).mp ht);have lA:(AL s aa5).length <=720:=pj h6 k;obtain⟨⟨y6,y7⟩,i1⟩:=Ii (n:=4) (sc:=sc) (ps:=ps) (x3:=fr aiS) h1 h6 k;have lD:(eN s aa5 akw).length <=720:=by rw[aad];exact aaf (acX ..) lA
 refine xA (bH ae4 (e1 3) rfl) (xA (bH ae4 eA rfl) (xB (xs:=[]) rfl (xG i1 (xN (vF (aqM (M_ (n:=4) h1 h6 k)) aBl (sR (zq 57 _))) (xB (xs:=(wW s aa5).map tp) ?_ (xN (vF (aqM (VE (n:=2) h1 h6 k)) (ae ae4 (Jt (n:=6) h1 h6 (vj ai k.y) (λt=>A9 k) ?_) (iM _)) (sR (vp _))) (xB (xs:=[]) rfl ?_)))))))
 .refine(ky (xs:=eN s aa5 akw) (h:=kD) (c:=λc=>decide (c.length=1)) (g:=λc=>tp (c.headD [])) (d:= .lst ((eN s aa5 akw).map kD)) rfl rfl (ajX lD) (λc _=>Hv ?_) λc hc=>?_).trans ?_
  .refine vF (x:= .int ((c.map tp).length :Nat)) (y:= .int ((1:Nat):Int)) rfl rfl ?_;rw[aad];exact congrArg some (mU _ _)
  .obtain⟨t,ht,rfl⟩:=aao.mp hc;obtain⟨x,r,e0,_⟩:=kd.fst (abe.mp ht).1;exact U9 rfl rfl (kz (k:=0) (x:=tp _) (by rw[e0];rfl))
  .rw[aaV];rfl
 .rw[aad];exact aaf (acX ..) (ajX lD)
 generalize (eN s aa5 akw).map kD=Sw;generalize (wW s aa5).map tp=al;have lT:(Bk s akw ps).length <=4320:=by
  refine aaf (mX (c:=6) λx _=>by rw[aad];exact fy) ?_;omega
 obtain⟨z6,i2⟩:=cz (F:=run T 7) (c:=Xc) (i:=6) (h:=tp) (all:=AL s aa5) (E:=λpre y=>LW sc s ps (fr aiS) akw (ow Sw) y y7 (ow al) (ow ((Bk s pre ps).map tp)) none none none none none none) (λpre t post y h=>by
  have ht:=hA t (eF h);refine⟨avm,xG (vw (xs:=Bk s pre ps) rfl (iO (g:=λb=>cm (pg s) t b) (d:= .tup apO) rfl rfl (ajX fy) λb hb=>?_) (ajX (kE h lT))) ?_⟩
  .rw[<-Ri ai ht awv];exact ae (a_ (avF (wU t ht)) (aj8 (EB (n:=5) h6 ht awv))) (gr h6 _ (bS ht) _ (lM ai ht awv)) (af _)
  .rw[show Bk s alV ps=_ from iP];rfl) (pre:=[]) y6 rfl
 obtain⟨kt,f20⟩:=Ih (n:=0) (Q:=(· ∈ps)) h6 hp k;refine xG i2 (xA (aqM f20) (xB (xs:=[]) rfl ?_));obtain⟨s9,lS,mS⟩:=kG (F:=run T 7) h1 h6 (xs:=Bk s akw ps) λt ht=>by
  obtain⟨a,b,ha,hb,rfl⟩:=kF.mp ht;exact oZ ai (hA a ha) awv
 generalize br.aZ (S2.iZ (Bk s akw ps))=S at s9 lS mS;have hS:∀x,x∈S↔ ∃t b,Gen (pg s) (· ∈ps) t/\b∈ps/\x=cm (pg s) t b:=λx=>(mS x).trans (kF.trans ⟨λ⟨a,b,ha,q⟩=>⟨a,b,(aA.mem a).mp ha,q⟩,λ⟨a,b,ha,q⟩=>⟨a,b,(aA.mem a).mpr ha,q⟩⟩);have sS:∀t∈S,ac4:=λt ht=>by
  obtain⟨a,b,ha,hb,rfl⟩:=(hS t).mp ht;exact oZ ai (k.y.s a ha) awv
 obtain⟨nc,com⟩:=Rl ai (Q:=(· ∈ps)) (K:=(· ∈eM (akd aa5))) hp (ml k) (funext λt=>propext aAG) (P:=(· ∈A7 s aa5)) (P':=(· ∈S)) (λx=>kF) hS;have lV:(S.flatMap λw=>(AL s aa5).map λg=>aoa).length <=518400:=by
  refine aaf (mX (c:=720) λx _=>by rw[aad];exact lA) ?_;omega
 generalize (Bk s akw ps).map tp=tw at s9;obtain⟨Xr,i3⟩:=cz (F:=run T 7) (c:=Xd) (i:=12) (h:=tp) (all:=S) (E:=λpre y=>LW sc s ps (fr aiS) akw (ow Sw) z6 y7 (ow al) (ow tw) (fr (aH (akd (NC (pg s) (· ∈A7 s aa5) (· ∈ps))))) (ow ((pre.flatMap λw=>(AL s aa5).map λg=>aoa).map tp)) y none none none) (λpre t post y h=>by
  have ht:=sS t (eF h);refine⟨avm,xG (vw (xs:=pre.flatMap λw=>(AL s aa5).map λg=>aoa) rfl (iO (g:=λg=>ac9) (d:= .lst ((AL s aa5).map tp)) rfl rfl (ajX lA) λg hg=>ae ae4 (EB (n:=5) h6 ht (hA g hg)) (af _)) (ajX (kE h lV))) ?_⟩;rw[iP];rfl) (pre:=[]) none rfl
 refine xG (by rw[Fy];show((ev awq false (.sset (.var 9)) _).bind seq).bind _=_;rw[s9 rfl];exact i3) ?_;obtain⟨KD,Xs,Xt⟩:=kG (F:=run T 7) h1 h6 (xs:=S.flatMap λw=>(AL s aa5).map λg=>aoa) λt ht=>by
  obtain⟨w,hw,h⟩:=abn.mp ht;obtain⟨g,hg,rfl⟩:=aao.mp h;exact lM ai (sS w hw) (hA g hg)
 generalize br.aZ (S2.iZ (S.flatMap λw=>(AL s aa5).map λg=>aoa))=V at KD Xs Xt;have hV:∀x,x∈V↔ ∃g∈AL s aa5,∃w∈S,x=cj (pg s) w g:=λx=>(Xt x).trans (abn.trans ⟨λ⟨w,hw,h⟩=>let ⟨g,hg,q⟩:=aao.mp h;⟨g,hg,w,hw,q.symm⟩,λ⟨g,hg,w,hw,q⟩=>⟨w,hw,aao.mpr ⟨g,hg,q.symm⟩⟩⟩);have sV:∀t∈V,ac4:=λt ht=>by
  obtain⟨g,hg,w,hw,rfl⟩:=(hV t).mp ht;exact lM ai (sS w hw) (hA g hg)
 obtain⟨W,eW,aW⟩:=ma (n:=5) h1 h6 sV (ajX Xs) (e:= .lst (V.map tp)) rfl;have g2:Gen (pg s) (· ∈V)=NC (pg s) (· ∈A7 s aa5) (· ∈ps):=(funext λx=>propext (Eo ai (Q:=(· ∈ps)) (ones:=AL s aa5) (other:=S) (λx=>aA.mem x) hV x)).trans nc.symm;rw[g2]at aW;refine xN (vF rfl (ae (azR (bH (a_ (KD rfl) rfl) eW rfl)) (Jt (n:=6) h1 h6 kt.y aW.mem aW.kX) (iM _)) (sR (vp _))) (xA (arf (wV (n:=5) h1 h6 kt)) ?_);generalize (S.flatMap λw=>(AL s aa5).map λg=>aoa).map tp=tu;obtain⟨y,i4⟩:=cz (F:=run T 7) (c:=Xf) (i:=6) (h:=tp) (all:=ps) (E:=λpre (y:Option (Bool×D)×Option (Bool×D)×Option (Bool×D))=>LW sc s ps (fr aiS) akw (ow Sw) y.1 y7 (ow al) (ow tw) (fr (aH (akd (NC (pg s) (· ∈A7 s aa5) (· ∈ps))))) (ow tu) Xr (fr (akb ((AL s (NC (pg s) (· ∈A7 s aa5) (· ∈ps))).map tp))) y.2.1 y.2.2) (λpre a post y h=>by
  have ha:=hp a (eF h);obtain⟨z,i5⟩:=cz (F:=run T 7) (c:=Xe) (i:=14) (h:=tp) (all:=ps) (E:=λpre (z:Option (Bool×D)×Option (Bool×D))=>LW sc s ps (fr aiS) akw (ow Sw) (fr (tp a)) y7 (ow al) (ow tw) (fr (aH (akd (NC (pg s) (· ∈A7 s aa5) (· ∈ps))))) (ow tu) Xr (fr (akb ((AL s (NC (pg s) (· ∈A7 s aa5) (· ∈ps))).map tp))) z.1 z.2) (λpre b post z h'=>by
   have hb:=hp b (eF h');refine⟨atL,xA (d:=tp (cm (pg s) b a)) ?_ (xN (vF rfl rfl (Nb ((cu kt).mpr (com b a (Gen.of ai hb (eF h')) (Gen.of ai ha (eF h)))))) rfl)⟩;rw[zf ai hb ha];exact ae (a_ (ae (cy (aj8 (gr h6 a ha b hb))) (wU _ (bO ha hb)) (af _)) (aj8 (gr h6 b hb a ha))) (gr h6 _ (bS (bO ha hb)) _ (bO hb ha)) (af _)) (pre:=[]) (y.2.1,y.2.2) rfl
  exact⟨(fr (tp a),z.1,z.2),xG i5 rfl⟩) (pre:=[]) (z6,none,none) rfl
 exact xG i4 (xR rfl)
end
def holds(ns:aa0)(hl:ns.length<=63):run T (7+1) 33 [aid]=some ag4:=by
 have mx:∀(k:Nat),k<1000->∀{b:Bool}{r:Env},ev awq b (.call 23 (.w 0 (.o (.ci k)))) (vf aid::r)=some awJ:=λk hk=>ae ae4 (VB (n:=5) ns hk) rfl;have Sx:∀(k:Int) {r:Env},ev awq false (anE (.ci k)) (vf aid::r)=some (.bl (Bi ns 2%5==k)):=λk r=>vF (DK (mx 2 aa2) (j:=5) rfl aa2) (c:= .ci k) (y:= .int k) rfl rfl;have go:∀s:Nat,1<=s->s<=6->ex awq ae2 [vf aid,apf,none,none,none,none,none,none,none,none,none,none,none,none,none,none]=some (akL ag4):=λs h1 h6=>by
  obtain⟨ps,er,fy,hp⟩:=Rf (n:=4) (Bi ns 1) h1 h6;refine xA (ae (azR (mx 1 aa2)) er (cq _)) ?_;cases hb:(Bi ns 2%5==2)with
  |false=>exact xN ((Sx 2).trans (by rw[hb])) (zu h1 h6 fy hp)
  |true=>
   obtain⟨qs,kI,hql,hq⟩:=Na (F:=run T 6) (Bi ns 2/5);exact xY ((Sx 2).trans (by rw[hb])) (xA (d:= .int 6) rfl (xA (ae (cy (ZH (mx 2 aa2) (k:=5) rfl aa2)) (xO (n:=6) (fd:=MX) rfl rfl kI) (cq _)) rfl)) (zu (s:=6) aa2 aa2 hql hq)
 have g0:0<=Bi ns 0%4:=acA _ aa2;have g1:Bi ns 0%4<4:=acn _ aa2;obtain⟨s,hs⟩:∃s:Nat,1+Bi ns 0%4=s:=⟨(1+Bi ns 0%4).toNat,by omega⟩;refine xO (fd:=Rb) rfl rfl (xA (d:= .int s) (by rw[<-hs];exact EU rfl (DK (mx 0 aa2) (j:=4) rfl aa2)) ?_);cases hb:(Bi ns 2%5==1)with
 |true=>exact xY ((Sx 1).trans (by rw[hb])) (xA (d:= .int 5) rfl rfl) (go 5 aa2 aa2)
 |false=>exact xN ((Sx 1).trans (by rw[hb])) (go s aa1 aa1)
end dD
namespace dD
open PySem L2 Py
def kM(i:Nat):Stmt:=PySem.Challenge.pw_turnyard_k24_whole_kinds.main.body.getD i (.Pass ⟨0,0,0,0⟩)
abbrev Row:=Str×Nat×Fd×List Str
noncomputable def tb:aut:=("still",4,kn,["size"])::
 ("times",5,fc,["one","other"])::
 ("back",6,oJ,["turn"])::
 ("left_over",8,d3,["found","turn","rest","place","steps"])::
 ("products_with",9,d4,["found","turn","made","steps","step"])::
 ("found_steps",10,d5,["row","size","found","waiting","rest","moved","place"])::
 ("least_turn",11,d6,["found","place","turn","least","steps","part"])::
 ("rung_at",12,d7,["found","place","steps"])::
 ("ladder",13,d8,["row","size","found"])::
 ("turns_of",14,d9,["yard","turns","rung","longer","pair"])::
 ("makers",15,Q7,["yard","turns","rung"])::
 ("has",16,Q8,["yard","turn"])::
 ("number_of",17,Q9,["yard","turn","number","rest","place","rung","points","chosen"])::
 ("within",19,Q_,["one","other"])::
 ("carried_turn",20,MV,["turn","carrier"])::
 ("refuse_unless_within",21,MW,["inner","outer"])::
 ("around",22,Vm,["inner","outer","carriers","yard","waiting","turn","carrier","made"])::
 ("goes_with_all",24,Vn,["turn","others"])::
 ("middle",25,Vo,["yard","steps"])::
 ("twist",26,Vp,["one","other"])::
 ("twists",27,Vq,["yard","steps","made","one"])::
 ("kinds",28,Vr,["yard","turns","told","seen","turn","kind"])::
 ("_law_cell_at",30,ic,["_law_script","_law_k"])::
 ("_law_mixed",31,oD 22,["_law_script","_law_k","_law_drawn_here"])::
 ("_law_drawn",32,iG,["_law_number","_law_k","_law_drawn_here"])::
 ("_law_turn",33,lI 24,["_law_number","_law_size","_law_found","_law_one","_law_other","_law_many","_law_shift","_law_k","_law_made","_law_at"])::
 ("_law_row",34,jc 25 24,["_law_number","_law_size"])::
 ("_law_times",35,fc,["_law_one","_law_other"])::
 ("_law_back",36,gp,["_law_turn_here","_law_found","_law_point","_law_goal"])::
 ("_law_all",37,NI,["_law_row_here","_law_size","_law_start","_law_met","_law_todo","_law_turn_here","_law_other","_law_goal"])::
 ("_law_ladder",38,Ra,["_law_turns","_law_size","_law_rungs","_law_level","_law_rung","_law_point","_law_good"])::
 ("_law_carried",39,Vs,["_law_one","_law_turn_here"])::
 ("_law_six",40,MX,["_law_number","_law_rows"])::
 ("law",41,Rb,["_law_script","_law_size","_law_row_here","_law_yard","_law_turns","_law_due","_law_one","_law_kind","_law_alone","_law_twisted","_law_inner","_law_turned","_law_twist","_law_small","_law_other","_law_back_and_forth"])::[]
noncomputable def G:GT:=(tb.map λr=>r.1,[])
noncomputable def Xu(r:Row):Bool:=
 decide ((az ajB).kind = .function)&&!(az ajB).isCoroutine&&!(az ajB).isGenerator&&decide r.2.2.2.Nodup&&decide ((r.2.2.2.take r.2.2.1.par).length =r.2.2.1.par) &&
 (r.2.2.2.take r.2.2.1.par).all (λx=>decide ((az ajB).names.lookup x=some .local \/(az ajB).names.lookup x=some .cell))&&(az ajB).names.all (λy=>decide (y.2≠ .free)) &&
 gH G r.2.2.1.body r.2.2.2 (az ajB) (bW ajB)&&decide axI
def ck:tb.all Xu=true:=by decide +kernel
def Bd(r:Row):Prop:=∀(kV iQ pm:Value) (an:ahe) (fA ct:Value) (us:ab2),us.length=(r.2.2.2.take r.2.2.1.par).length ->bindArgs ae3 ⟨us,[]⟩=pure ((r.2.2.2.take r.2.2.1.par).zip us)
def Nc:aut->Prop
 |[]=>True
 |r::l=>Bd r/\Nc l
section
variable {r:Row}{l:aut}{p q o:Str}(H:Nc l)
include H
def bd1(e:r.2.2.2.take r.2.2.1.par=[p])(h:∀(kV iQ pm:Value) (an:ahe) (fA ct u:Value),bindArgs ae3 ⟨[u],[]⟩=pure [(p,u)]):Nc (r::l):=
 ⟨λkV iQ pm an fA ct us hl=>by rw[e]at hl⊢;obtain⟨u,rfl⟩:=QY hl;exact h kV iQ pm an fA ct u,H⟩
def bd2(e:r.2.2.2.take r.2.2.1.par=[p,q])(h:∀(kV iQ pm:Value) (an:ahe) (fA ct u v:Value),bindArgs ae3 ⟨[u,v],[]⟩=pure [(p,u),(q,v)]):Nc (r::l):=
 ⟨λkV iQ pm an fA ct us hl=>by rw[e]at hl⊢;obtain⟨u,v,rfl⟩:=QZ hl;exact h kV iQ pm an fA ct u v,H⟩
def bd3(e:r.2.2.2.take r.2.2.1.par=[p,q,o])(h:∀(kV iQ pm:Value) (an:ahe) (fA ct u v w:Value),bindArgs ae3 ⟨[u,v,w],[]⟩=pure [(p,u),(q,v),(o,w)]):Nc (r::l):=
 ⟨λkV iQ pm an fA ct us hl=>by rw[e]at hl⊢;obtain⟨u,v,w,rfl⟩:=U8 hl;exact h kV iQ pm an fA ct u v w,H⟩
end
def bds:Nc tb:=by
 repeat first
  |refine bd1 ?_ rfl λ_ _ _ _ _ _ _=>rfl
  |refine bd2 ?_ rfl λ_ _ _ _ _ _ _ _=>rfl
  |refine bd3 ?_ rfl λ_ _ _ _ _ _ _ _ _=>rfl
 exact trivial
theorem Ju:∀{l:aut},Nc l->∀r∈l,Bd r
 |_::_,h,_,.head _=>h.1
 |_::_,h,r,.tail _ m=>Ju h.2 r m
def Dh(K:aE)(r:Row):Prop:=∃(f:Addr) (fd:akq),IB K r.1 r.1 ajB f fd/\PySem.W.nsIn K mainGlobals r.1=some (ajU ano)
def Rt(K:aE):aut->Prop
 |[]=>True
 |r::l=>Dh K r/\Rt K l
theorem EC{K:aE}:∀{l:aut},Rt K l->∀r∈l,Dh K r
 |_::_,h,_,.head _=>h.1
 |_::_,h,r,.tail _ m=>EC h.2 r m
def dhs{K:aE}{r:aut}{x:Str}{i:Nat}{d:Fd}{N:ae1}{f:Addr}{oc:Value}{od an:ahe}{sl:aoN}{kV dc pm cd ct:Value}(a:PySem.W.nsIn K mainGlobals x=some (ajU ano))
  (l:K.lookup f=some ⟨oc,od,.func (PySem.W.fnOf x x (dG (kM i)) (bW (kM i)) (az (kM i)) .none kV dc pm an cd ct),sl⟩) (c:PySem.W.codeIn K cd x=true) (k:azB) (h:Rt K r):Rt K ((x,i,d,N)::r):=
 ⟨⟨f,_,Kz l c k,a⟩,h⟩
def Zs(K:aE):ae1->Prop
 |[]=>True
 |x::l=>PySem.W.nsIn K mainGlobals x=some none/\Zs K l
def zs{K:aE}(a:PySem.W.nsIn K mainGlobals x=some none)(h:Zs K l):Zs K (x::l):=⟨a,h⟩
theorem Jv{K:aE}(X:K.In h)(GM:aoC):∀{l:ae1},Zs K l->∀x∈l,mg x=none
 |_::_,z,_,.head _=>PySem.W.mg_none_of X GM z.1
 |_::_,z,x,.tail _ m=>Jv X GM z.2 x m
def all_mk{l:ax7}{w:World}{K:aE}{h:Heap}{mg:Str->Option Value}{fa:Addr}(X:K.In h)(GM:aoC)(hfa:mg "law"=some ai7)(D:Rt K tb)(Z:Zs K jr):
  ∃fd:akq,(∀(s:ab_) (v:Value),BindsTo s fd ⟨[v],[]⟩ [("_law_script",v)])/\∀base:Heap,K.In base->amT->jE l.prog w K mg base zJ (7+1) fa fd ["_law_script"] (yr K 1 (run T (7+1) 33)):=by
 have hb:=Jv X GM Z;have tM:∀(x:Str) (i:Int),asQ->∃t,avi:=λx i hx=>nomatch hx;have cr:∀r∈tb,iq r.2.2.2 (r.2.2.2.take r.2.2.1.par) (az ajB)/\gH G r.2.2.1.body r.2.2.2 (az ajB) (bW ajB)=true/\(r.2.2.2.take r.2.2.1.par).length =r.2.2.1.par/\axI:=λr hr=>by
  have h:=abI.mp ck r hr;unfold Xu at h;simp only[aae,decide_eq_true_eq,abI,aev]at h;obtain⟨⟨⟨⟨⟨⟨⟨⟨h1,h2⟩,h3⟩,h4⟩,h5⟩,h6⟩,h7⟩,h8⟩,h9⟩:=h;exact⟨⟨h1,h2,h3,h4,by rw[h5],h6,h7⟩,h8,h5,h9⟩
 have m8:∀(base:Heap) (f:Nat) (x:Str),G.1[f]?=some x->wK l.prog w K mg base G T f x:=λbase f x hf=>by
  obtain⟨r,hr,rfl⟩:=abY.mp ((aau ..).symm.trans hf);have hm:=abd hr;obtain⟨fa,fd,F,a⟩:=EC D r hm;obtain⟨S,ok,l1,l2⟩:=cr r hm;refine DG.step hb tM (d:=r.2.2.1) ?_ ⟨ajB,fa,fd,_,_,F,S,F.binds (Ju bds r hm),aBX,ok,l1,l2⟩;show(tb.map λr=>r.2.2.1)[f]?=_;rw[aau,hr];rfl
 have hl:tb[33]?=some (("law",41,Rb,["_law_script","_law_size","_law_row_here","_law_yard","_law_turns","_law_due","_law_one","_law_kind","_law_alone","_law_twisted","_law_inner","_law_turned","_law_twist","_law_small","_law_other","_law_back_and_forth"]):Row):=rfl;have hm:=abd hl;obtain⟨f,fd,F,a⟩:=EC D _ hm;cases hfa.symm.trans aBX;obtain⟨S,ok,l1,l2⟩:=cr _ hm;obtain⟨oc,od,kV,iQ,pm,an,fA,ct,Fe,rfl,_⟩:=id F.ex;exact⟨_,λs v=> .of_eq rfl,λbase _ _=>DI (n:=7) (f:=33) (d:=Rb) (ps:=["_law_script"]) hb tM (Hi (m8 base) 7) F S rfl ok l1 l2⟩
end dD
namespace PySem.W.Fast
def tw17267613441745692293:=()
def tw2988900695993517722:=()
def tw17171162116217247823:=()
def tw11206875468773637132:=()
def tw1396924290993918464:=()
def tw17241076822997557542:=()
def tw10958381218192250858:=()
def tw9596733376314231392:=()
def tw2780570142110491447:=()
def tw15472307657468286921:=()
def tw8580026348553534402:=()
def tw14905596746258992420:=()
def tw6413774177790432491:=()
def tw14828178024516120465:=()
def tw16998609273784560404:=()
def tw17332490376893192533:=()
def tw15147111487056418417:=()
def tw13681472917898355288:=()
def tw2163418791602209283:=()
def tw15236466176011228303:=()
def tw16677123952045428644:=()
def tw6065834890702240146:=()
def tw5479709683924096310:=()
def tw688999983915188299:=()
def tw7101607347273481961:=()
def tw13591614664761485077:=()
def tw14238963618200862059:=()
def tw11033362447015071600:=()
def tw10833719369050502656:=()
def tw16985970628221730544:=()
def tw16173820715259505808:=()
def tw4827284818838380355:=()
def tw5524879625303248664:=()
def tw17407659689632646216:=()
def tw48707468334023098:=()
def tw13194187414993706974:=()
def tw18321494235415258616:=()
def tw9646795750654506064:=()
def tw13356497682616119649:=()
def tw5099689249016991761:=()
def tw358598766435975758:=()
def tw11297618507661534275:=()
def tw11807035237513702498:=()
def tw4638147606791051592:=()
def tw4773323521218582110:=()
def tw12272503328285512209:=()
def tw17271063707180672563:=()
def tw12240433753560949874:=()
def tw5747376133970147267:=()
def tw13539080281002428362:=()
def tw2420604225611511696:=()
def tw2463545303234190521:=()
def tw10981052260620222841:=()
def tw17257387025238602084:=()
def tw12558341879882366916:=()
def tw3577728993450274078:=()
def tw7602954050969927642:=()
def tw4299794688907340817:=()
def tw15554981449320052136:=()
def tw5350584070708754679:=()
def tw16238496503613298115:=()
def tw17354642691238644489:=()
def tw11244756897948444743:=()
def tw6970763298753324297:=()
def tw16213025865829930401:=()
def tw14921346879896550315:=()
def tw8979944753075722753:=()
def tw16642866214793092550:=()
def tw2243150807684499248:=()
def tw1578084915722230712:=()
def tw5521947377196253106:=()
def tw17002522218383444071:=()
def tw9662380207117901913:=()
def tw16079020563543096370:=()
def tw10740835884732279743:=()
def tw14634119455936991727:=()
def tw8182907272648345662:=()
def tw5514988161173136243:=()
def tw8783565392919011790:=()
def tw11048469444400022410:=()
def tw3663336902436005694:=()
def tw6296722255391757090:=()
def tw16736529328389077748:=()
def tw4446470101666807925:=()
def tw5549679790434002055:=()
def tw17410367944105413169:=()
def tw1001627090412469:=()
def tw5819962285123663860:=()
def tw11951376071040935053:=()
def tw4317658954025281747:=()
def tw16354456538011100062:=()
def tw4738736435354393774:=()
def tw9514801489462866520:=()
def tw12760059216261971867:=()
def tw9224444270700318841:=()
def tw5123180767198439614:=()
def tw18372901945953610078:=()
def tw13641825202435788958:=()
def tw10649380441194066848:=()
def tw11353524459078839679:=()
def tw1993320616071450534:=()
def tw14489448282441454148:=()
def tw970918768950076756:=()
def tw9531817276966294849:=()
def tw11235827880340572606:=()
def tw15691983758125051165:=()
def tw7772126842176968730:=()
def tw15248425504289985231:=()
def tw15179600521358964117:=()
def tw7961734514231472050:=()
def tw6474619768240062301:=()
def tw2273178605697797902:=()
def tw17360296123109073521:=()
end PySem.W.Fast
open PySem PySem.W PyProof.Rows
set_option maxRecDepth 100000 in
set_option maxHeartbeats 0 in
theorem PySem.Challenge.cw_turnyard_k24_whole_kinds_holds : PySem.Challenge.rw_turnyard_k24_whole_kinds.Holds := by
 w_on;o_law;k_head;(case hw=>w_witness2)
 k_fill
 refine Py.QX (x:="_law_script") (l:=PySem.Challenge.rw_turnyard_k24_whole_kinds) (T:=dD.T) (n:=7+1) (f:=33) rfl rfl (by decide) (λw h Y=>PySem.W.kIn_of Y) ?F dD.holds
 case F=>
  intro w mg fa h KX G OA;refine' dD.all_mk KX G OA ?D ?Z
  (case D=>
   iterate 34 (apply dD.dhs;(case a=>k_is);(case l=>k_is);(case c=>k_is);(case k=>k_is))
   exact trivial)
  (case Z=>
   iterate 10 (apply dD.zs;(case a=>k_is))
   exact trivial)
