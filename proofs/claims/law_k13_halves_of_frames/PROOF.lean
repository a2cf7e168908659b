import PyProof.Rows.All
import Wide.All
import OpenK.AllK
import Wide.FinOn
import PyProof.EqAt
import PyProof.EqKinds
import PyProof.TupleCall
import PySem.Str
import PyProof.NeKinds
import PyProof.CompMap
import PyProof.CompFree
import PyProof.EnumMake
import PyProof.Draws
import PyProof.ListRange
import PyProof.ConsumeWalk
import PyProof.Rows.SetFrom
import PyProof.SetRoads
import PyProof.ZipIter
import PyProof.Rows.SumAny
import PyProof.Rows.SortWalk
import PyProof.Rows.SeqMore2
import PyProof.Rows.SeqMore
import PyProof.ExcAttrAll.ValueError
import PyProof.ExcBaseAll.ValueError
import PyProof.Rows.FStr
import PyProof.Rows.StrJoin2
import PySem.Challenge.RW_ribbonloft_k13_halves_of_frames
set_option Elab.async false
set_option linter.all false
set_option maxRecDepth 100000
set_option maxHeartbeats 4000000
set_option autoImplicit true
set_option relaxedAutoImplicit true
set_option genSizeOf false
set_option genSizeOfSpec false
section
local macro_rules
|`(def $d $s:optDeclSig $v:declVal)=>`(theorem $d $(Lean.TSyntax.mk (Lean.mkNode ``Lean.Parser.Command.declSig #[s.raw[0],s.raw[1][0]])):declSig $v:declVal)
|`(abbrev $d $s:optDeclSig $v:declVal)=>`(noncomputable def $d $s:optDeclSig $v:declVal)
namespace RL
open PySem (Str)
@[reducible]noncomputable def Ky:=Sum Int Str
inductive D where
 | non
 | bl (b:Bool)
 | int (i:Int)
 | str (x:Str)
 | tup (xs:List D)
 | lst (xs:List D)
 | dK (ks:List Ky) (vs:List D)
 | dT (ks:List (List Ky)) (vs:List D)
 | scr (xs:List D)
 | exc (c:Str)
 deriving Inhabited
mutual
noncomputable def D.imm:D->Bool
 | .tup xs=>au xs
 | .lst _=>false
 | .dK _ _=>false
 | .dT _ _=>false
 | .scr xs=>au xs
 | _=>true
noncomputable def au:List D->Bool
 | []=>true
 | d::r=>d.imm&&au r
end
inductive Bop where | add | sub | mul | fdiv | mod | pow
 deriving DecidableEq
inductive Cop where | lt | le | gt | ge | eq | ne
 deriving DecidableEq
inductive Bi where | len | list | tuple | int | all | any | lenSet | sorted | sortedSet | abs | sum
 deriving DecidableEq
inductive Ty where | int | bool | list | tuple | str
 deriving DecidableEq
mutual
inductive E where
 | var (i:Nat)
 | cst (d:D)
 | glb (x:Str) (i:Int)
 | bin (o:Bop) (a b:E)
 | cmp (c:Cop) (a b:E)
 | chain (c c':Cop) (a b e:E)
 | isN (neg:Bool) (a:E)
 | inD (neg:Bool) (a b:E)
 | and (a b:E)
 | or (a b:E)
 | not (a:E)
 | ifx (t a b:E)
 | tup (es:Es)
 | lst (es:Es)
 | ix (a b:E)
 | ixD (a b:E)
 | slT (a b:E)
 | call (f:Nat) (es:Es)
 | call0 (f:Nat)
 | bi (b:Bi) (a:E)
 | max (a b:E)
 | isi (a:E) (t:Ty)
 | rng1 (a:E)
 | rngT (a:E)
 | rng2 (a b:E)
 | rng3 (c:Int) (a b:E)
 | neg (a:E)
 | comp (e:E) (tg:List Nat) (it:It) (c:E)
 | compA (e:E) (tg:List Nat) (it:It)
 | join (a:E)
 | isx (a:E) (c:Str)
 | dk0
 | dt0
inductive Es where
 | nil
 | cons (e:E) (es:Es)
inductive It where
 | seq (e:E)
 | rng1 (a:E)
 | rng2 (a b:E)
 | rng3 (c:Int) (a b:E)
 | enm (e:E)
 | zip (a b:E)
end
mutual
inductive S where
 | asg (i:Nat) (e:E)
 | own (i:Nat) (e:E)
 | unp (is:List Nat) (e:E)
 | par (i j:Nat) (a b:E)
 | app (i:Nat) (e:E)
 | put (i:Nat) (k e:E)
 | pop (i j:Nat)
 | ife (t:E) (a b:Ss)
 | ifp (i:Nat) (e:E) (a b:Ss)
 | forr (tg:List Nat) (it:It) (b:Ss)
 | mexc (f:Nat) (es:Es) (ps ms:List Nat)
 | ret (e:E)
 | exc (e:E)
 | rais (c:Str) (ps:Es)
 | tryc (b:Ss) (c:Str) (i:Nat) (h:Ss)
inductive Ss where
 | nil
 | cons (s:S) (r:Ss)
end
@[reducible]noncomputable def St:=List (Option D)
@[reducible]noncomputable def Cl:=Nat->List D->Option D
abbrev most:Nat:=100000
abbrev dz{α:Type}(xs:List α)(i:Int):Option α :=
 if 0<=i then xs[i.toNat]? else if -(xs.length:Int)<=i then xs[(i+xs.length).toNat]? else none
abbrev mU(n:Nat)(i:Int):Option Nat :=
 if 0<=i then(if i<n then some i.toNat else none)else if -(n:Int)<=i then some (i+n).toNat else none
abbrev cutAt(n:Nat)(i:Int):Nat:=if 0<=i then min i.toNat n else(i+n).toNat
abbrev aA:Bop->D->D->Option D
 | .add,.int a,.int b=>some (.int (a+b))
 | .add,.str a,.str b=>if a.length+b.length<=most then some (.str (a++b))else none
 | .add,.lst a,.lst b=>if a.length+b.length<=most then some (.lst (a++b))else none
 | .add,.tup a,.tup b=>if a.length+b.length<=most/\0<a.length then some (.tup (a++b))else none
 | .sub,.int a,.int b=>some (.int (a-b))
 | .mul,.int a,.int b=>if(-(2 ^ 64)<a/\a<2 ^ 64)\/(-(2 ^ 64)<b/\b<2 ^ 64)then some (.int (a*b))else none
 | .mul,.lst a,.int b=>if 0<=b/\b<=most/\a.length*b.toNat<=most then some (.lst (List.replicate b.toNat a).flatten)else none
 | .fdiv,.int a,.int b=>if 0<b/\b<2 ^ 200 then some (.int (a / b))else none
 | .mod,.int a,.int b=>if 0<b then some (.int (a%b))else none
 | .pow,.int a,.int b=>if 0<=b/\b<=1000/\a.natAbs<2 ^ 64 then some (.int (a ^ b.toNat))else none
 | _,_,_=>none
abbrev eqs(f:D->D->Option Bool):List D->List D->Option Bool
 | a::r,b::s=>(f a b).bind fun e=>(eqs f r s).map fun k=>e&&k
 | _,_=>some true
abbrev eqD:Nat->D->D->Option Bool
 | _,.int a,.int b=>some (a == b)
 | _,.str a,.str b=>some (a == b)
 | _,.bl a,.bl b=>some (a == b)
 | n+1,.tup a,.tup b=>(eqs (eqD n) a b).map fun k=>k&&a.length == b.length
 | n+1,.lst a,.lst b=>(eqs (eqD n) a b).map fun k=>k&&a.length == b.length
 | _,_,_=>none
abbrev bE:Cop->D->D->Option Bool
 | .lt,.int a,.int b=>some (decide (a<b))
 | .le,.int a,.int b=>some (decide (a<=b))
 | .gt,.int a,.int b=>some (decide (b<a))
 | .ge,.int a,.int b=>some (decide (b<=a))
 | .eq,a,b=>eqD 8 a b
 | .ne,a,b=>(eqD 8 a b).map not
 | _,_,_=>none
abbrev truth:D->Option Bool
 | .bl b=>some b
 | .lst xs=>some (!xs.isEmpty)
 | .tup xs=>some (!xs.isEmpty)
 | .int i=>some (i != 0)
 | _=>none
abbrev f7:List D->Option (List Int)
 | []=>some []
 | .int i::r=>(f7 r).map (i :: ·)
 | _=>none
abbrev dE:List D->Option (List Bool)
 | []=>some []
 | .bl i::r=>(dE r).map (i :: ·)
 | _=>none
abbrev strs?:List D->Option (List Str)
 | []=>some []
 | .str i::r=>(strs? r).map (i :: ·)
 | _=>none
abbrev sq(a:Int):List Int->List Int
 | []=>[a]
 | b::r=>if a<=b then a::b::r else b::sq a r
abbrev sortI:List Int->List Int
 | []=>[]
 | a::r=>sq a (sortI r)
abbrev iG(xs:List Int):List Int:=xs.foldl (fun m k=>if m.any (· == k)then m else m++[k]) []
abbrev items:D->Option (List D)
 | .lst xs=>some xs
 | .tup xs=>some xs
 | _=>none
abbrev fF:D->Option (List D)
 | .lst xs=>some xs
 | .tup xs=>some xs
 | .str x=>some (x.cps.toList.map fun c=>.str ⟨#[c]⟩)
 | _=>none
abbrev biV:Bi->D->Option D
 | .len,.str x=>if x.length<=most then some (.int x.length)else none
 | .len,.dK ks _=>some (.int ks.length)
 | .len,.dT ks _=>some (.int ks.length)
 | .len,d=>(items d).map fun xs=>.int xs.length
 | .list,d=>(items d).map .lst
 | .tuple,d=>(items d).map .tup
 | .int,.bl b=>some (.int (if b then 1 else 0))
 | .int,.int i=>some (.int i)
 | .int,_=>none
 | .all,.lst xs=>(dE xs).map fun bs=>.bl (bs.all id)
 | .any,.lst xs=>(dE xs).map fun bs=>.bl (bs.any id)
 | .all,_=>none
 | .any,_=>none
 | .lenSet,.lst xs=>if xs.length<=1000 then(f7 xs).map fun is=>.int (iG is).length else none
 | .lenSet,_=>none
 | .sorted,.lst xs=>if xs.length<64 then(f7 xs).map fun is=>.lst ((sortI is).map .int)else none
 | .sorted,_=>none
 | .sortedSet,.lst xs=>(f7 xs).map fun is=>.lst ((sortI (iG is)).map .int)
 | .sortedSet,_=>none
 | .abs,.int i=>some (.int (if i<0 then -i else i))
 | .abs,_=>none
 | .sum,.lst xs=>(f7 xs).map fun is=>.int is.sum
 | .sum,_=>none
abbrev fN:Ty->D->Option Bool
 | .int,.int _=>some true
 | .int,.bl _=>some true
 | .bool,.bl _=>some true
 | .list,.lst _=>some true
 | .tuple,.tup _=>some true
 | .str,.str _=>some true
 | _,.non=>some false
 | _,.bl _=>some false
 | _,.int _=>some false
 | _,.str _=>some false
 | _,.tup _=>some false
 | _,.lst _=>some false
 | _,_=>none
abbrev keyOf:D->Option Ky
 | .int i=>some (.inl i)
 | .str x=>some (.inr x)
 | _=>none
abbrev keysOf:List D->Option (List Ky)
 | []=>some []
 | d::r=>(keyOf d).bind fun k=>(keysOf r).map (k :: ·)
abbrev aL{κ:Type} [DecidableEq κ]:List κ->List D->κ->Option D
 | k::ks,v::vs,x=>if k=x then some v else aL ks vs x
 | _,_,_=>none
abbrev putD{κ:Type} [DecidableEq κ](ks:List κ)(vs:List D)(x:κ)(d:D):List κ × List D :=
 if x∈ks then(ks,List.zipWith (fun k v=>if k=x then d else v) ks vs)else(ks++[x],vs++[d])
abbrev ixV:D->D->Option D
 | .lst xs,.int i=>dz xs i
 | .tup xs,.int i=>dz xs i
 | .str x,.int i=>if x.length<=most then(dz x.cps.toList i).map fun c=>.str ⟨#[c]⟩else none
 | _,_=>none
abbrev qM:D->D->Option D
 | .dK ks vs,k=>(keyOf k).bind (aL ks vs)
 | .dT ks vs,.tup k=>(keysOf k).bind (aL ks vs)
 | _,_=>none
abbrev xS:D->D->Option Bool
 | .dK ks vs,k=>(keyOf k).map fun k=>(aL ks vs k).isSome
 | .dT ks vs,.tup k=>(keysOf k).map fun k=>(aL ks vs k).isSome
 | _,_=>none
abbrev flat:D->Bool
 | .int _=>true
 | .str _=>true
 | _=>false
abbrev eqF:D->D->Bool
 | .int a,.int b=>a == b
 | .str a,.str b=>a == b
 | _,_=>false
abbrev inV(a b:D):Option Bool :=
 (items b).bind fun xs=>if flat a&&xs.all flat then some (xs.any fun x=>eqF x a)else none
abbrev pG:D->D->Option D
 | .scr xs,.int k=>some (.lst (xs.take (cutAt xs.length k)))
 | .lst xs,.int k=>some (.lst (xs.take (cutAt xs.length k)))
 | .tup xs,.int k=>if cutAt xs.length k<xs.length then some (.tup (xs.take (cutAt xs.length k)))else none
 | _,_=>none
abbrev cE(lo:Int):Nat->List D
 | 0=>[]
 | n+1=>.int lo::cE (lo+1) n
abbrev bV(c lo:Int):Nat->List D
 | 0=>[]
 | n+1=>.int lo::bV c (lo+c) n
abbrev bD(c a b:Int):Nat:=(if c > 0 then(if a<b then(b-a-1) / c+1 else 0)else(if a > b then(a-b-1) / (-c)+1 else 0)).toNat
abbrev c8:D->D->Option (List D)
 | .int a,.int b=>if(b-a).toNat<=most/\-(2 ^ 60)<=a/\a<2 ^ 60/\-(2 ^ 60)<=b/\b<2 ^ 60 then some (cE a (b-a).toNat)else none
 | _,_=>none
abbrev fU(c:Int):D->D->Option (List D)
 | .int a,.int b=>if c≠0/\-(2 ^ 60)<c/\c<2 ^ 60/\bD c a b<=most/\-(2 ^ 60)<=a/\a<2 ^ 60/\-(2 ^ 60)<=b/\b<2 ^ 60 then some (bV c a (bD c a b))else none
 | _,_=>none
abbrev cQ(i:Int):List D->List D
 | []=>[]
 | d::r=>.tup [.int i,d]::cQ (i+1) r
abbrev dY:List D->List D->List D
 | a::r,b::s=>.tup [a,b]::dY r s
 | _,_=>[]
abbrev bK:List Nat->List D->St->Option St
 | [],[],σ=>some σ
 | i::is,d::ds,σ=>bK is ds (σ.set i (some d))
 | _,_,_=>none
abbrev aF(tg:List Nat)(d:D)(σ:St):Option St :=
 match tg with
 | [i]=>some (σ.set i (some d))
 | tg=>match d with
  | .tup ds=>bK tg ds σ
  | .lst ds=>bK tg ds σ
  | _=>none
abbrev jJ(y:Option D)(ys:List D):Option (List D) :=
 match y with
 | some e=>if e.imm then some (e::ys)else none
 | none=>some ys
abbrev cu(f:St->Option (Option D))(tg:List Nat)(σ:St):List D->Option (List D)
 | []=>some []
 | d::r=>(aF tg d σ).bind fun σ1=>(f σ1).bind fun y=>(cu f tg σ r).bind (jJ y)
abbrev aK:D->Bool
 | .lst xs=>au xs
 | .dK _ vs=>au vs
 | .dT _ vs=>au vs
 | _=>false
abbrev FN(f:St->Option D)(fr:Bool)(tg:List Nat)(σ:St):List D->Option (List D)
 | []=>some []
 | d::r=>(aF tg d σ).bind fun σ1=>(f σ1).bind fun y=>if aK y&&fr then(FN f fr tg σ r).map (y :: ·)else none
abbrev fits(xs:List D):Option (List D):=if xs.length<=most then some xs else none
abbrev aR:E->Bool
 | .lst _=>true
 | .tup _=>true
 | .comp _ _ _ _=>true
 | .compA _ _ _=>true
 | .bin _ _ _=>true
 | .slT _ _=>true
 | .call _ _=>true
 | .call0 _=>true
 | .bi _ _=>true
 | .rng1 _=>true
 | .rngT _=>true
 | .rng2 _ _=>true
 | .rng3 _ _ _=>true
 | .dk0=>true
 | .dt0=>true
 | _=>false
abbrev cH(n c:Str):Bool:=n == c || c == "RibbonError" || c == "ValueError"
abbrev Gq(neg:Bool):D->Option D
 | .non=>some (.bl (!neg))
 | .dK _ _=>none
 | .dT _ _=>none
 | _=>some (.bl neg)
abbrev yu(y:Option D):D->Option D
 | .bl true=>y
 | .bl false=>some (.bl false)
 | _=>none
abbrev orV(y:Option D):D->Option D
 | .bl false=>y
 | .bl true=>some (.bl true)
 | _=>none
abbrev Cq:D->Option D
 | .int i=>some (.int (-i))
 | _=>none
abbrev Ec:D->D->Option D
 | .int i,.int j=>some (.int (if j > i then j else i))
 | _,_=>none
abbrev ER:D->Option D
 | .lst xs=>(strs? xs).bind fun ss=>if ss.length<=most/\ss.all (fun s=>s.length<=100)then some (.str ⟨(ss.flatMap fun s=>s.cps.toList).toArray⟩)else none
 | _=>none
abbrev G3(c:Str):D->Option D
 | .exc n=>some (.bl (cH n c))
 | _=>none
@[simp] theorem sv_andt {y:Option D}:yu y (.bl true)=y:=rfl
@[simp] theorem sv_andf {y:Option D}:yu y (.bl false)=some (.bl false):=rfl
@[simp] theorem sv_ort {y:Option D}:orV y (.bl true)=some (.bl true):=rfl
@[simp] theorem sv_orf {y:Option D}:orV y (.bl false)=y:=rfl
@[simp] theorem sv_max {i j:Int}:Ec (.int i) (.int j)=some (.int (if j > i then j else i)):=rfl
@[simp] theorem sv_neg {i:Int}:Cq (.int i)=some (.int (-i)):=rfl
mutual
noncomputable def ev(cl:Cl)(σ:St):E->Option D
 | .var i=>(σ[i]?).bind id
 | .cst d=>some d
 | .glb _ i=>some (.int i)
 | .bin o a b=>(ev cl σ a).bind fun x=>(ev cl σ b).bind fun y=>aA o x y
 | .cmp c a b=>(ev cl σ a).bind fun x=>(ev cl σ b).bind fun y=>(bE c x y).map .bl
 | .chain c c' a b e=>(ev cl σ a).bind fun x=>(ev cl σ b).bind fun y=>(bE c x y).bind fun k=>if k then(ev cl σ e).bind fun z=>(bE c' y z).map .bl else some (.bl false)
 | .isN neg a=>(ev cl σ a).bind (Gq neg)
 | .inD neg a b=>(ev cl σ a).bind fun x=>(ev cl σ b).bind fun y=>(xS y x).map fun k=>.bl (if neg then !k else k)
 | .and a b=>(ev cl σ a).bind (yu (ev cl σ b))
 | .or a b=>(ev cl σ a).bind (orV (ev cl σ b))
 | .not a=>((ev cl σ a).bind truth).map fun k=>.bl (!k)
 | .ifx t a b=>((ev cl σ t).bind truth).bind fun k=>if k then ev cl σ a else ev cl σ b
 | .tup es=>(evs cl σ es).map .tup
 | .lst es=>(evs cl σ es).map .lst
 | .ix a b=>(ev cl σ a).bind fun x=>(ev cl σ b).bind fun y=>ixV x y
 | .ixD a b=>(ev cl σ a).bind fun x=>(ev cl σ b).bind fun y=>qM x y
 | .slT a b=>(ev cl σ a).bind fun x=>(ev cl σ b).bind fun y=>pG x y
 | .call f es=>(evs cl σ es).bind fun ds=>cl f ds
 | .call0 f=>cl f []
 | .bi b a=>(ev cl σ a).bind fun x=>biV b x
 | .max a b=>(ev cl σ a).bind fun x=>(ev cl σ b).bind fun y=>Ec x y
 | .isi a t=>(ev cl σ a).bind fun x=>(fN t x).map .bl
 | .rng1 a=>(ev cl σ a).bind fun x=>(c8 (.int 0) x).map .lst
 | .rngT a=>(ev cl σ a).bind fun x=>(c8 (.int 0) x).map .tup
 | .rng2 a b=>(ev cl σ a).bind fun x=>(ev cl σ b).bind fun y=>(c8 x y).map .lst
 | .rng3 c a b=>(ev cl σ a).bind fun x=>(ev cl σ b).bind fun y=>(fU c x y).map .lst
 | .neg a=>(ev cl σ a).bind Cq
 | .comp e tg it c=>(bB cl σ it).bind fun ds=>(fits ds).bind fun ds=>(cu (fun σ1=>((ev cl σ1 c).bind truth).bind fun k=>if k then(ev cl σ1 e).map some else some none) tg σ ds).map .lst
 | .compA e tg it=>(bB cl σ it).bind fun ds=>(fits ds).bind fun ds=>(cu (fun σ1=>(ev cl σ1 e).map some) tg σ ds).map .lst
 | .join a=>(ev cl σ a).bind ER
 | .isx a c=>(ev cl σ a).bind (G3 c)
 | .dk0=>some (.dK [] [])
 | .dt0=>some (.dT [] [])
noncomputable def evs(cl:Cl)(σ:St):Es->Option (List D)
 | .nil=>some []
 | .cons e es=>(ev cl σ e).bind fun d=>(evs cl σ es).map (d :: ·)
noncomputable def bB(cl:Cl)(σ:St):It->Option (List D)
 | .seq e=>(ev cl σ e).bind items
 | .rng1 a=>(ev cl σ a).bind fun x=>c8 (.int 0) x
 | .rng2 a b=>(ev cl σ a).bind fun x=>(ev cl σ b).bind fun y=>c8 x y
 | .rng3 c a b=>(ev cl σ a).bind fun x=>(ev cl σ b).bind fun y=>fU c x y
 | .enm e=>(ev cl σ e).bind fun x=>(fF x).map (cQ 0)
 | .zip a b=>(ev cl σ a).bind fun x=>(ev cl σ b).bind fun y=>(items x).bind fun xs=>(items y).bind fun ys=>if xs.length=ys.length then some (dY xs ys)else none
end
abbrev clX(cl:Cl)(f:Nat)(ds:List D):Option Str:=(cl (f+1000) ds).bind fun d=>match d with
 | .str x=>some x
 | _=>none
mutual
noncomputable def evX(cl:Cl)(σ:St):E->Option Str
 | .call f es=>match evs cl σ es with
  | some ds=>clX cl f ds
  | none=>mC cl σ es
 | .ix a _=>evX cl σ a
 | _=>none
noncomputable def mC(cl:Cl)(σ:St):Es->Option Str
 | .nil=>none
 | .cons e es=>match ev cl σ e with
  | some _=>mC cl σ es
  | none=>evX cl σ e
end
abbrev written:D->Bool
 | .int i=>decide (i.natAbs<2 ^ 1900)
 | _=>false
inductive Out where
 | nx
 | rt (d:D)
abbrev avE(M:List Nat):E->Bool
 | .var j=>!M.contains j
 | .ix a _=>avE M a
 | .call _ _=>true
 | .ifx _ a b=>avE M a&&avE M b
 | _=>false
abbrev rF(M:List Nat):It->Bool
 | .seq e=>avE M e || aR e
 | .enm e=>avE M e || aR e
 | .zip a b=>(avE M a || aR a)&&(avE M b || aR b)
 | _=>true
abbrev bc(M:List Nat)(e:E)(d:D):Bool :=
 d.imm || (aK d&&(aR e || match e with | .var i=>M.contains i | _=>false))
abbrev bb(M:List Nat)(e:E)(d:D):Bool:=d.imm || (aK d&&aR e) || avE M e
abbrev isVar:E->Bool
 | .var _=>true
 | _=>false
abbrev i5(M ps:List Nat):Nat->Es->List D->Bool
 | _,.nil,[]=>true
 | q,.cons e es,d::ds=>(if ps.contains q then isVar e else bb M e d)&&i5 M ps (q+1) es ds
 | _,_,_=>false
abbrev df:D->D->D->Option D
 | .lst xs,.int k,d=>(mU xs.length k).map fun j=>.lst (xs.set j d)
 | .dK ks vs,k,d=>(keyOf k).bind fun k=>if ks.length<most then some (.dK (putD ks vs k d).1 (putD ks vs k d).2)else none
 | .dT ks vs,.tup k,d=>(keysOf k).bind fun k=>if ks.length<most then some (.dT (putD ks vs k d).1 (putD ks vs k d).2)else none
 | _,_,_=>none
abbrev bz(f:St->Option (Out × St))(tg:List Nat):List D->St->Option (Out × St)
 | [],σ=>some (.nx,σ)
 | d::r,σ=>if d.imm then(aF tg d σ).bind fun σ1=>(f σ1).bind fun p=>match p.1 with
   | .nx=>bz f tg r p.2
   | .rt d=>some (.rt d,p.2)
  else none
abbrev whF(t:St->Option Bool)(f:St->Option (Out × St)):Nat->St->Option (Out × St)
 | 0,_=>none
 | n+1,σ=>(t σ).bind fun k=>if k then(f σ).bind fun p=>match p.1 with
   | .nx=>whF t f n p.2
   | .rt d=>some (.rt d,p.2)
  else some (.nx,σ)
abbrev hW(f:St->Option (Out × St))(fx:St->Option (Str × St))(tg:List Nat):List D->St->Option (Str × St)
 | [],_=>none
 | d::r,σ=>if d.imm then(aF tg d σ).bind fun σ1=>match f σ1 with
   | some p=>match p.1 with
    | .nx=>hW f fx tg r p.2
    | .rt _=>none
   | none=>fx σ1
  else none
mutual
noncomputable def evS(cl:Cl)(M:List Nat):S->St->Option (Out × St)
 | .asg i e,σ=>(ev cl σ e).bind fun d=>if bb M e d then some (.nx,σ.set i (some d))else none
 | .own i e,σ=>(ev cl σ e).bind fun d=>if aK d&&aR e then some (.nx,σ.set i (some d))else none
 | .unp is e,σ=>(ev cl σ e).bind fun d=>(items d).bind fun ds=>if au ds then(bK is ds σ).map fun σ1=>(.nx,σ1)else none
 | .par i j a b,σ=>(ev cl σ a).bind fun x=>(ev cl σ b).bind fun y=>if x.imm&&y.imm then some (.nx,(σ.set i (some x)).set j (some y))else none
 | .app i e,σ=>(ev cl σ e).bind fun d=>((σ[i]?).bind id).bind fun l=>match l with
  | .lst xs=>if d.imm&&decide (xs.length<most)then some (.nx,σ.set i (some (.lst (xs++[d]))))else none
  | _=>none
 | .put i k e,σ=>(ev cl σ e).bind fun d=>(ev cl σ k).bind fun kk=>((σ[i]?).bind id).bind fun l=>if d.imm then(df l kk d).map fun l'=>(.nx,σ.set i (some l'))else none
 | .pop i j,σ=>((σ[i]?).bind id).bind fun l=>match l with
  | .lst xs=>(xs[xs.length-1]?).map fun d=>(.nx,(σ.set i (some (.lst xs.dropLast))).set j (some d))
  | _=>none
 | .ife t a b,σ=>((ev cl σ t).bind truth).bind fun k=>if k then ag cl M a σ else ag cl M b σ
 | .ifp i e a b,σ=>((σ[i]?).bind id).bind fun l=>match l with
  | .lst xs=>(xs[xs.length-1]?).bind fun d=>(ev cl (σ.set i (some (.lst xs.dropLast))) e).bind fun y=>match d,y with
   | .int p,.int q=>if decide (p=q)then ag cl M b (σ.set i (some (.lst xs.dropLast)))else ag cl M a (σ.set i (some (.lst xs.dropLast)))
   | _,_=>none
  | _=>none
 | .forr tg it b,σ=>(bB cl σ it).bind fun ds=>bz (ag cl M b) tg ds σ
 | .mexc f es ps ms,σ=>(evs cl σ es).bind fun ds=>if i5 M ps 0 es ds then(cl f ds).bind fun r=>match r with
  | .tup (_::outs)=>(bK ms outs σ).map fun σ1=>(.nx,σ1)
  | _=>none
  else none
 | .ret e,σ=>(ev cl σ e).bind fun d=>if bc M e d then some (.rt d,σ)else none
 | .exc e,σ=>(ev cl σ e).map fun _=>(.nx,σ)
 | .rais _ _,_=>none
 | .tryc b c i h,σ=>match ag cl M b σ with
  | some p=>some p
  | none=>(cq cl M b σ).bind fun q=>if cH q.1 c then(ag cl M h (q.2.set i (some (.exc q.1)))).map fun r=>(r.1,r.2.set i none)else none
noncomputable def ag(cl:Cl)(M:List Nat):Ss->St->Option (Out × St)
 | .nil,σ=>some (.nx,σ)
 | .cons s r,σ=>(evS cl M s σ).bind fun p=>match p.1 with
  | .nx=>ag cl M r p.2
  | .rt d=>some (.rt d,p.2)
noncomputable def iK(cl:Cl)(M:List Nat):S->St->Option (Str × St)
 | .asg _ e,σ=>(evX cl σ e).map fun x=>(x,σ)
 | .own _ e,σ=>(evX cl σ e).map fun x=>(x,σ)
 | .unp _ e,σ=>(evX cl σ e).map fun x=>(x,σ)
 | .exc e,σ=>(evX cl σ e).map fun x=>(x,σ)
 | .ret e,σ=>(evX cl σ e).map fun x=>(x,σ)
 | .ife t a b,σ=>((ev cl σ t).bind truth).bind fun k=>if k then cq cl M a σ else cq cl M b σ
 | .forr tg it b,σ=>(bB cl σ it).bind fun ds=>hW (ag cl M b) (cq cl M b) tg ds σ
 | .rais c ps,σ=>(evs cl σ ps).bind fun ds=>if ds.all written then some (c,σ)else none
 | _,_=>none
noncomputable def cq(cl:Cl)(M:List Nat):Ss->St->Option (Str × St)
 | .nil,_=>none
 | .cons s r,σ=>match evS cl M s σ with
  | some p=>match p.1 with
   | .nx=>cq cl M r p.2
   | .rt _=>none
  | none=>iK cl M s σ
end
structure Fn where
 ps:Nat
 nn:Nat
 M:List Nat
 mp:List Nat
 body:Ss
abbrev gI(σ:St):List Nat->Option (List D)
 | []=>some []
 | i::is=>((σ[i]?).bind id).bind fun d=>(gI σ is).map (d :: ·)
abbrev aW(fn:Fn)(d:D)(σ:St):Option D :=
 if fn.mp.isEmpty then some d else if d.imm then(gI σ fn.mp).map fun os=>.tup (d::os)else none
abbrev ak(T:List Fn):Nat->Cl
 | 0,_,_=>none
 | n+1,f,ds=>match T[f]? with
  | some fn=>if ds.length=fn.ps then(ag (ak T n) fn.M fn.body (ds.map some++List.replicate (fn.nn-fn.ps) none)).bind fun p=>match p.1 with
   | .nx=>aW fn .non p.2
   | .rt d=>aW fn d p.2
   else none
  | none=>(T[f-1000]?).bind fun fn=>if ds.length=fn.ps/\fn.mp=[]then(cq (ak T n) fn.M fn.body (ds.map some++List.replicate (fn.nn-fn.ps) none)).map fun p=>.str p.1 else none
end RL
namespace RT
open RL
abbrev ie:Fn :=
 ⟨1,1,[],[],(.cons (.ret (.and (.isi (.var 0) .int) (.not (.isi (.var 0) .bool)))) .nil)⟩
abbrev dS(f_is_number:Nat):Fn :=
 ⟨1,1,[],[],(.cons (.ret (.and (.call f_is_number (.cons (.var 0) .nil)) (.chain .le .le (.cst (.int 1)) (.var 0) (.glb "MOST_PEGS" 10)))) .nil)⟩
abbrev c6(f_is_peg_count:Nat):Fn :=
 ⟨1,1,[],[],(.cons (.ife (.not (.call f_is_peg_count (.cons (.var 0) .nil))) (.cons (.rais "BadPegs" (.cons (.glb "MOST_PEGS" 10) .nil)) .nil) .nil) .nil)⟩
abbrev oS:Fn :=
 ⟨3,3,[0,0],[0],(.cons (.put 0 (.var 1) (.var 2)) (.cons (.put 0 (.var 2) (.var 1)) .nil))⟩
abbrev j9:Fn :=
 ⟨1,1,[],[],(.cons (.ret (.bin .fdiv (.bi .len (.var 0)) (.cst (.int 2)))) .nil)⟩
abbrev gh(f_check_pegs:Nat):Fn :=
 ⟨1,1,[],[],(.cons (.exc (.call f_check_pegs (.cons (.var 0) .nil))) (.cons (.ret (.bi .tuple (.bin .add (.rng2 (.var 0) (.bin .mul (.cst (.int 2)) (.var 0))) (.rng1 (.var 0))))) .nil))⟩
abbrev jN:Fn :=
 ⟨1,3,[],[],(.cons (.asg 1 (.bin .mod (.bin .add (.bin .mul (.var 0) (.cst (.int 48271))) (.cst (.int 11))) (.cst (.int 2147483647)))) (.cons (.asg 2 (.bin .mod (.bin .add (.bin .add (.bin .mul (.var 1) (.var 1)) (.bin .mul (.cst (.int 40692)) (.var 1))) (.var 0)) (.cst (.int 2147483399)))) (.cons (.ret (.bin .mod (.bin .add (.bin .add (.bin .mul (.var 2) (.var 2)) (.bin .mul (.cst (.int 69621)) (.var 2))) (.var 1)) (.cst (.int 2147483563)))) .nil)))⟩
abbrev iP(f_law_mix:Nat):Ss :=
 (.cons (.asg 3 (.bin .add (.bin .mul (.var 3) (.cst (.int 2147483563))) (.call f_law_mix (.cons (.bin .add (.bin .add (.var 2) (.bin .mul (.cst (.int 1009)) (.var 1))) (.bin .mul (.cst (.int 7919)) (.var 4))) .nil)))) .nil)
abbrev jC(f_law_mix:Nat):Fn :=
 ⟨2,5,[],[],(.cons (.asg 2 (.bin .add (.bin .mul (.cst (.int 7)) (.var 1)) (.cst (.int 3)))) (.cons (.ife (.cmp .gt (.bi .len (.var 0)) (.cst (.int 0))) (.cons (.asg 2 (.bin .add (.ix (.var 0) (.bin .mod (.var 1) (.bi .len (.var 0)))) (.bin .mul (.cst (.int 9973)) (.bin .fdiv (.var 1) (.bi .len (.var 0)))))) .nil) .nil) (.cons (.ife (.and (.cmp .lt (.var 1) (.bi .len (.var 0))) (.cmp .ge (.var 2) (.bin .pow (.cst (.int 10)) (.cst (.int 18))))) (.cons (.ret (.bin .sub (.var 2) (.bin .pow (.cst (.int 10)) (.cst (.int 18))))) .nil) .nil) (.cons (.asg 3 (.cst (.int 0))) (.cons (.forr [4] (.rng1 (.cst (.int 40))) (iP f_law_mix)) (.cons (.ret (.var 3)) .nil))))))⟩
abbrev fR(f_law_raw:Nat):Ss :=
 (.cons (.app 4 (.bin .mod (.var 3) (.var 5))) (.cons (.asg 3 (.bin .fdiv (.var 3) (.var 5))) .nil))
abbrev eN(f_law_raw:Nat):Fn :=
 ⟨3,6,[4],[],(.cons (.asg 3 (.call f_law_raw (.cons (.var 0) (.cons (.var 1) .nil)))) (.cons (.own 4 (.lst .nil)) (.cons (.forr [5] (.seq (.var 2)) (fR f_law_raw)) (.cons (.ret (.var 4)) .nil))))⟩
abbrev eM(f_names_back:Nat):Fn :=
 ⟨1,2,[],[],(.cons (.ret (.and (.isi (.var 0) .tuple) (.bi .all (.compA (.call f_names_back (.cons (.var 0) (.cons (.var 1) .nil))) [1] (.rng1 (.bi .len (.var 0))))))) .nil)⟩
abbrev eK(f_is_number:Nat):Fn :=
 ⟨2,3,[],[],(.cons (.asg 2 (.ix (.var 0) (.var 1))) (.cons (.ret (.and (.call f_is_number (.cons (.var 2) .nil)) (.and (.chain .le .lt (.cst (.int 0)) (.var 2) (.bi .len (.var 0))) (.cmp .eq (.ix (.var 0) (.var 2)) (.var 1))))) .nil))⟩
abbrev bN:Ss :=
 (.cons (.ife (.cmp .gt (.var 3) (.var 2)) (.cons (.app 1 (.var 2)) .nil) (.cons (.ife (.cmp .eq (.var 3) (.var 2)) (.cons (.ife (.var 1) (.cons (.ret (.cst (.bl false))) .nil) .nil) .nil) (.cons (.ifp 1 (.var 3) (.cons (.ret (.cst (.bl false))) .nil) .nil) .nil)) .nil)) .nil)
abbrev dM:Fn :=
 ⟨1,4,[1],[],(.cons (.own 1 (.lst .nil)) (.cons (.forr [2,3] (.enm (.var 0)) (bN)) (.cons (.ret (.cst (.bl true))) .nil)))⟩
abbrev fW(f_is_uncrossed f_in_round f_is_pairing f_is_peg_count f_pegs_of:Nat):Fn :=
 ⟨1,5,[],[],(.cons (.asg 1 (.call f_pegs_of (.cons (.var 0) .nil))) (.cons (.ife (.or (.cmp .ne (.bi .len (.var 0)) (.bin .mul (.cst (.int 2)) (.var 1))) (.or (.not (.call f_is_peg_count (.cons (.var 1) .nil))) (.not (.call f_is_pairing (.cons (.var 0) .nil))))) (.cons (.ret (.cst (.bl false))) .nil) .nil) (.cons (.asg 2 (.comp (.var 3) [3,4] (.enm (.var 0)) (.cmp .eq (.var 3) (.var 4)))) (.cons (.ret (.and (.not (.var 2)) (.call f_is_uncrossed (.cons (.call f_in_round (.cons (.var 0) .nil)) .nil)))) .nil))))⟩
abbrev et(f_is_frame:Nat):Fn :=
 ⟨1,1,[],[],(.cons (.ife (.not (.call f_is_frame (.cons (.var 0) .nil))) (.cons (.rais "BadFrame" .nil) .nil) .nil) .nil)⟩
abbrev di:Fn :=
 ⟨2,2,[],[],(.cons (.ret (.ifx (.cmp .lt (.var 1) (.var 0)) (.var 1) (.bin .sub (.bin .sub (.bin .mul (.cst (.int 3)) (.var 0)) (.cst (.int 1))) (.var 1)))) .nil)⟩
abbrev gc(f_moved f_round_place f_pegs_of:Nat):Fn :=
 ⟨1,3,[],[],(.cons (.asg 1 (.call f_pegs_of (.cons (.var 0) .nil))) (.cons (.ret (.call f_moved (.cons (.var 0) (.cons (.compA (.call f_round_place (.cons (.var 1) (.cons (.var 2) .nil))) [2] (.rng1 (.bin .mul (.cst (.int 2)) (.var 1)))) .nil)))) .nil))⟩
abbrev l8:Ss :=
 (.cons (.put 2 (.ix (.var 1) (.var 3)) (.ix (.var 1) (.var 4))) .nil)
abbrev k6:Fn :=
 ⟨2,5,[2],[],(.cons (.own 2 (.bin .mul (.lst (.cons (.cst (.int 0)) .nil)) (.bi .len (.var 0)))) (.cons (.forr [3,4] (.enm (.var 0)) (l8)) (.cons (.ret (.bi .tuple (.var 2))) .nil)))⟩
abbrev eg:Fn :=
 ⟨1,2,[],[],(.cons (.ret (.bi .tuple (.bin .add (.compA (.bin .add (.var 0) (.var 1)) [1] (.rng1 (.var 0))) (.rng1 (.var 0))))) .nil)⟩
abbrev kM(f_law_plain:Nat):Ss :=
 (.cons (.put 2 (.var 3) (.bin .add (.var 3) (.cst (.int 1)))) (.cons (.put 2 (.bin .add (.var 3) (.cst (.int 1))) (.var 3)) .nil))
abbrev fV(f_law_plain:Nat):Fn :=
 ⟨2,4,[2],[],(.cons (.own 2 (.bi .list (.call f_law_plain (.cons (.var 0) .nil)))) (.cons (.forr [3] (.seq (.tup (.cons (.var 1) (.cons (.bin .add (.var 0) (.var 1)) .nil)))) (kM f_law_plain)) (.cons (.ret (.bi .tuple (.var 2))) .nil)))⟩
abbrev eV:Fn :=
 ⟨1,1,[],[],(.cons (.ret (.bin .add (.rng1 (.var 0)) (.rng3 (-1) (.bin .sub (.bin .mul (.cst (.int 2)) (.var 0)) (.cst (.int 1))) (.bin .sub (.var 0) (.cst (.int 1)))))) .nil)⟩
abbrev da(f_law_circle:Nat):Ss :=
 (.cons (.ife (.cmp .eq (.var 6) (.cst (.str "("))) (.cons (.app 4 (.ix (.var 2) (.var 5))) .nil) (.cons (.pop 4 8) (.cons (.put 3 (.var 8) (.ix (.var 2) (.var 5))) (.cons (.put 3 (.ix (.var 2) (.var 5)) (.var 8)) .nil)))) .nil)
abbrev eY(f_law_circle:Nat):Fn :=
 ⟨1,9,[3,4],[],(.cons (.asg 1 (.bin .fdiv (.bi .len (.var 0)) (.cst (.int 2)))) (.cons (.asg 2 (.call f_law_circle (.cons (.var 1) .nil))) (.cons (.own 3 (.compA (.cst (.int 0)) [7] (.seq (.var 2)))) (.cons (.own 4 (.lst .nil)) (.cons (.forr [5,6] (.enm (.var 0)) (da f_law_circle)) (.cons (.ret (.bi .tuple (.var 3))) .nil))))))⟩
abbrev fC:Ss :=
 (.cons (.par 0 6 (.bin .fdiv (.var 0) (.cst (.int 2))) (.bin .mod (.var 0) (.cst (.int 2)))) (.cons (.asg 5 (.or (.cmp .eq (.var 3) (.cst (.int 0))) (.and (.cmp .lt (.var 3) (.var 4)) (.cmp .eq (.var 6) (.cst (.int 1)))))) (.cons (.asg 2 (.bin .add (.var 2) (.ix (.lst (.cons (.cst (.str ")")) (.cons (.cst (.str "(")) .nil))) (.bi .int (.var 5))))) (.cons (.asg 3 (.bin .add (.var 3) (.ix (.lst (.cons (.neg (.cst (.int 1))) (.cons (.cst (.int 1)) .nil))) (.bi .int (.var 5))))) .nil))))
abbrev iJ:Fn :=
 ⟨2,7,[],[],(.cons (.asg 2 (.cst (.str ""))) (.cons (.asg 3 (.cst (.int 0))) (.cons (.forr [4] (.rng3 (-1) (.bin .mul (.cst (.int 2)) (.var 1)) (.cst (.int 0))) (fC)) (.cons (.ret (.var 2)) .nil))))⟩
abbrev cF:Ss :=
 (.cons (.ife (.cmp .eq (.ixD (.var 4) (.var 7)) (.var 9)) (.cons (.put 4 (.var 7) (.var 8)) .nil) .nil) .nil)
abbrev d8:Ss :=
 (.cons (.par 8 9 (.ixD (.var 4) (.var 5)) (.ixD (.var 4) (.var 6))) (.cons (.forr [7] (.seq (.var 2)) (cF)) .nil))
abbrev eG:Ss :=
 (.cons (.forr [6] (.seq (.tup (.cons (.ix (.var 1) (.var 5)) (.cons (.bin .sub (.ix (.var 0) (.bin .add (.var 3) (.var 5))) (.var 3)) .nil)))) (d8)) .nil)
abbrev eW:Ss :=
 (.cons (.put 4 (.var 5) (.var 5)) .nil)
abbrev dJ:Fn :=
 ⟨3,10,[4],[],(.cons (.asg 3 (.bin .fdiv (.bi .len (.var 0)) (.cst (.int 2)))) (.cons (.own 4 .dk0) (.cons (.forr [5] (.seq (.var 2)) (eW)) (.cons (.forr [5] (.seq (.var 2)) (eG)) (.cons (.ret (.bi .lenSet (.compA (.ixD (.var 4) (.var 5)) [5] (.seq (.var 2))))) .nil)))))⟩
abbrev dk(f_law_rings_by:Nat):Ss :=
 (.cons (.ife (.cmp .eq (.cmp .eq (.ix (.var 7) (.cst (.int 0))) (.cst (.str "high"))) (.cmp .ge (.ix (.var 7) (.cst (.int 1))) (.var 2))) (.cons (.put 6 (.bin .mod (.ix (.var 7) (.cst (.int 1))) (.var 2)) (.cst (.bl true))) (.cons (.asg 7 (.ixD (.var 3) (.tup (.cons (.ix (.lst (.cons (.cst (.str "high")) (.cons (.cst (.str "low")) .nil))) (.bi .int (.cmp .eq (.ix (.var 7) (.cst (.int 0))) (.cst (.str "high"))))) (.cons (.bin .mod (.bin .add (.ix (.var 7) (.cst (.int 1))) (.var 2)) (.bin .mul (.cst (.int 2)) (.var 2))) .nil))))) .nil)) .nil) .nil)
abbrev fy(f_law_rings_by:Nat):Ss :=
 (.cons (.asg 7 (.ixD (.var 3) (.tup (.cons (.ix (.lst (.cons (.cst (.str "high")) (.cons (.cst (.str "low")) .nil))) (.bi .int (.cmp .ge (.var 4) (.var 2)))) (.cons (.var 4) .nil))))) (.cons (.forr [8] (.rng1 (.bin .mul (.cst (.int 4)) (.var 2))) (dk f_law_rings_by)) (.cons (.app 5 (.ix (.var 7) (.cst (.int 1)))) .nil)))
abbrev fA(f_law_rings_by:Nat):Ss :=
 (.cons (.put 3 (.tup (.cons (.cst (.str "high")) (.cons (.var 4) .nil))) (.tup (.cons (.cst (.str "high")) (.cons (.ix (.var 0) (.var 4)) .nil)))) (.cons (.put 3 (.tup (.cons (.cst (.str "low")) (.cons (.var 4) .nil))) (.tup (.cons (.cst (.str "low")) (.cons (.ix (.var 1) (.var 4)) .nil)))) .nil))
abbrev eU(f_law_rings_by:Nat):Fn :=
 ⟨2,9,[3,5,6],[],(.cons (.asg 2 (.bin .fdiv (.bi .len (.var 0)) (.cst (.int 2)))) (.cons (.own 3 .dt0) (.cons (.forr [4] (.rng1 (.bin .mul (.cst (.int 2)) (.var 2))) (fA f_law_rings_by)) (.cons (.own 5 (.lst .nil)) (.cons (.own 6 .dk0) (.cons (.forr [4] (.rng1 (.bin .mul (.cst (.int 2)) (.var 2))) (fy f_law_rings_by)) (.cons (.ret (.tup (.cons (.bi .tuple (.var 5)) (.cons (.call f_law_rings_by (.cons (.var 0) (.cons (.var 1) (.cons (.comp (.var 4) [4] (.rng1 (.var 2)) (.inD true (.var 4) (.var 6))) .nil)))) .nil)))) .nil)))))))⟩
abbrev fT:Fn :=
 ⟨1,3,[],[],(.cons (.asg 1 (.bin .fdiv (.bi .len (.var 0)) (.cst (.int 2)))) (.cons (.ret (.bi .tuple (.compA (.bin .mod (.bin .add (.ix (.var 0) (.bin .mod (.bin .add (.var 2) (.var 1)) (.bin .mul (.cst (.int 2)) (.var 1)))) (.var 1)) (.bin .mul (.cst (.int 2)) (.var 1))) [2] (.rng1 (.bin .mul (.cst (.int 2)) (.var 1)))))) .nil))⟩
abbrev ig(f_law_hung f_law_over f_law_from_text f_law_text f_law_hook f_law_plain f_law_digits:Nat):Fn :=
 ⟨3,7,[],[],(.cons (.unp [4,5,6] (.call f_law_digits (.cons (.var 0) (.cons (.var 1) (.cons (.lst (.cons (.cst (.int 8)) (.cons (.bin .pow (.cst (.int 10)) (.cst (.int 12))) (.cons (.max (.cst (.int 1)) (.bin .sub (.var 2) (.cst (.int 1)))) .nil)))) .nil))))) (.cons (.ife (.cmp .eq (.var 4) (.cst (.int 0))) (.cons (.ret (.call f_law_plain (.cons (.var 2) .nil))) .nil) .nil) (.cons (.ife (.and (.cmp .eq (.var 4) (.cst (.int 1))) (.cmp .gt (.var 2) (.cst (.int 1)))) (.cons (.ret (.call f_law_hook (.cons (.var 2) (.cons (.var 6) .nil)))) .nil) .nil) (.cons (.asg 3 (.call f_law_from_text (.cons (.call f_law_text (.cons (.var 5) (.cons (.var 2) .nil))) .nil))) (.cons (.ife (.cmp .eq (.var 4) (.cst (.int 2))) (.cons (.ret (.ix (.call f_law_hung (.cons (.var 3) (.cons (.call f_law_over (.cons (.var 3) .nil)) .nil))) (.cst (.int 0)))) .nil) .nil) (.cons (.ret (.var 3)) .nil))))))⟩
abbrev de(f_law_same:Nat):Fn :=
 ⟨2,4,[],[],(.cons (.ife (.isN false (.var 1)) (.cons (.ret (.isN false (.var 0))) .nil) .nil) (.cons (.ife (.or (.cmp .ne (.isi (.var 0) .bool) (.isi (.var 1) .bool)) (.cmp .ne (.isi (.var 0) .int) (.isi (.var 1) .int))) (.cons (.ret (.cst (.bl false))) .nil) .nil) (.cons (.ife (.or (.cmp .ne (.isi (.var 0) .list) (.isi (.var 1) .list)) (.cmp .ne (.isi (.var 0) .tuple) (.isi (.var 1) .tuple))) (.cons (.ret (.cst (.bl false))) .nil) .nil) (.cons (.ife (.and (.not (.isi (.var 1) .list)) (.not (.isi (.var 1) .tuple))) (.cons (.ret (.and (.cmp .eq (.isi (.var 0) .str) (.isi (.var 1) .str)) (.cmp .eq (.var 0) (.var 1)))) .nil) .nil) (.cons (.ret (.and (.cmp .eq (.bi .len (.var 0)) (.bi .len (.var 1))) (.bi .all (.compA (.call f_law_same (.cons (.var 2) (.cons (.var 3) .nil))) [2,3] (.zip (.var 0) (.var 1)))))) .nil)))))⟩
abbrev jB(f_moved f_plain f_pegs_of f_check_frame:Nat):Fn :=
 ⟨1,1,[],[],(.cons (.exc (.call f_check_frame (.cons (.var 0) .nil))) (.cons (.ret (.call f_moved (.cons (.var 0) (.cons (.call f_plain (.cons (.call f_pegs_of (.cons (.var 0) .nil)) .nil)) .nil)))) .nil))⟩
abbrev gN(f_law_frame:Nat):Fn :=
 ⟨4,5,[],[],(.cons (.ret (.compA (.call f_law_frame (.cons (.var 0) (.cons (.bin .add (.var 1) (.var 4)) (.cons (.var 2) .nil)))) [4] (.rng1 (.var 3)))) .nil)⟩
abbrev jX(f_is_uncrossed f_is_pairing f_is_peg_count:Nat):Fn :=
 ⟨1,1,[],[],(.cons (.ret (.and (.call f_is_peg_count (.cons (.bi .len (.var 0)) .nil)) (.and (.call f_is_pairing (.cons (.var 0) .nil)) (.call f_is_uncrossed (.cons (.var 0) .nil))))) .nil)⟩
abbrev fz:Fn :=
 ⟨1,3,[],[],(.cons (.asg 1 (.bin .fdiv (.bi .len (.var 0)) (.cst (.int 2)))) (.cons (.ret (.bi .tuple (.compA (.ix (.lst (.cons (.ix (.var 0) (.var 2)) (.cons (.var 2) .nil))) (.bi .int (.cmp .ge (.ix (.var 0) (.var 2)) (.var 1)))) [2] (.rng1 (.var 1))))) .nil))⟩
abbrev kL(f_law_upper f_law_over:Nat):Fn :=
 ⟨1,1,[],[],(.cons (.ret (.call f_law_upper (.cons (.call f_law_over (.cons (.var 0) .nil)) .nil))) .nil)⟩
end RT
namespace M
abbrev hg(l r:Nat)(g:Nat->Nat):Nat->Nat:=fun x=>if g l=r then g x else if x=r then l else if x=l then r else if x=g r then g l else if x=g l then g r else g x
section
def E8(e:g l=r):hg l r g=g:=by funext x;unfold hg;rw[if_pos e]
def Ee(hlr:l≠r)(h:∀ x,g (g x)=x)(n1:g l≠l)(n2:g r≠r)(x:Nat):hg l r g (hg l r g x)=x:=by
 by_cases e:g l=r
 ·rw[E8 e];exact h x
 ·have k:∀ y,hg l r g y=if y=r then l else if y=l then r else if y=g r then g l else if y=g l then g r else g y:=fun y=>by unfold hg;rw[if_neg e]
  rw[k x,k];grind
def yQ(hlr:l≠r)(h:∀ x,g (g x)=x)(n1:g l≠l)(n2:g r≠r)(nx:g x≠x):hg l r g x≠x:=by
 unfold hg;grind
end
end M
namespace RL
abbrev evF(cl:Cl)(fn:Fn)(ds:List D):Option D:=if ds.length=fn.ps then(ag cl fn.M fn.body (ds.map some++List.replicate (fn.nn-fn.ps) none)).bind fun p=>match p.1 with
  | .nx=>aW fn .non p.2
  | .rt d=>aW fn d p.2
  else none
def ao(h:T[f]?=some fn):ak T (n+1) f ds=evF (ak T n) fn ds:=by
 rw[ak,h];rfl
abbrev L(xs:List Nat):List D:=xs.map fun(i:Nat)=>.int (i:Int)
def sQ(I:List D->St->Prop):∀ (ds done:List D) (σ:St),(∀ pre d post σ,done++ds=pre++d::post->I pre σ->d.imm=true/\∃ σ2,(aF tg d σ).bind f=some (.nx,σ2)/\I (pre++[d]) σ2)->I done σ->∃ σ',bz f tg ds σ=some (.nx,σ')/\I (done++ds) σ'
 | [],done,σ,_,h=>⟨σ,rfl,by simpa using h⟩
 | d::ds,done,σ,hs,h=>by
  obtain⟨im,σ2,h1,h3⟩:=hs done d ds σ rfl h;obtain⟨σ',h4,h5⟩:=sQ I ds (done++[d]) σ2 (fun pre e post σ he=>hs pre e post σ (by simpa using he)) h3;refine⟨σ',?_,by simpa using h5⟩;rw[bz,if_pos im]
  cases hb:aF tg d σ with
  | none=>rw[hb]at h1;cases h1
  |some σ1=>
   rw[hb]at h1;simp only[Option.bind_some]at h1 ⊢;rw[h1];exact h4
def A1(I:List D->St->Prop)(h0:I [] σ)(hs:∀ pre d post σ,ds=pre++d::post->I pre σ->d.imm=true/\∃ σ2,(aF tg d σ).bind f=some (.nx,σ2)/\I (pre++[d]) σ2):∃ σ',bz f tg ds σ=some (.nx,σ')/\I ds σ' :=
 sQ I ds [] σ (by simpa using hs) h0
@[simp] theorem tf_lst:aR (.lst a)=true:=rfl
@[simp] theorem tf_tup:aR (.tup a)=true:=rfl
@[simp] theorem tf_comp:aR (.comp a b c d)=true:=rfl
@[simp] theorem tf_compA:aR (.compA a b c)=true:=rfl
@[simp] theorem tf_bin:aR (.bin a b c)=true:=rfl
@[simp] theorem tf_slT:aR (.slT a b)=true:=rfl
@[simp] theorem tf_call:aR (.call a b)=true:=rfl
@[simp] theorem tf_bi:aR (.bi a b)=true:=rfl
@[simp] theorem tf_rng1:aR (.rng1 a)=true:=rfl
@[simp] theorem tf_rng2:aR (.rng2 a b)=true:=rfl
@[simp] theorem tf_rng3:aR (.rng3 a b c)=true:=rfl
@[simp] theorem tf_dk0:aR .dk0=true:=rfl
@[simp] theorem tf_dt0:aR .dt0=true:=rfl
end RL
namespace RM
open RL RT
section basics
def fM:bE .lt (.int a) (.int b)=some (decide (a<b)):=rfl
def zl:bE .le (.int a) (.int b)=some (decide (a<=b)):=rfl
def nz:bE .gt (.int a) (.int b)=some (decide (b<a)):=rfl
def mX:bE .ge (.int a) (.int b)=some (decide (b<=a)):=rfl
def dW:bE .eq (.int a) (.int b)=some (a == b):=rfl
def uR:bE .ne (.int a) (.int b)=some (!(a == b)):=rfl
def c9:aA .add (.int a) (.int b)=some (.int (a+b)):=rfl
def mf:aA .sub (.int a) (.int b)=some (.int (a-b)):=rfl
def fB(h:0<b):aA .mod (.int a) (.int b)=some (.int (a%b)):=by dsimp only[aA];rw[if_pos h]
def kF(h:0<b)(h':b<2 ^ 200):aA .fdiv (.int a) (.int b)=some (.int (a / b)):=by dsimp only[aA];rw[if_pos ⟨h,h'⟩]
def bY(h1:-(2 ^ 64)<a)(h2:a<2 ^ 64):aA .mul (.int a) (.int b)=some (.int (a*b)):=by dsimp only[aA];rw[if_pos (.inl ⟨h1,h2⟩)]
def vx(h1:-(2 ^ 64)<b)(h2:b<2 ^ 64):aA .mul (.int a) (.int b)=some (.int (a*b)):=by dsimp only[aA];rw[if_pos (.inr ⟨h1,h2⟩)]
def GQ(k:Bool):truth (.bl k)=some k:=rfl
end basics
def AZ(h:L xs=pre++d::post):∃ p x q,xs=p++x::q/\pre=L p/\d=.int (x:Nat)/\post=L q:=by
 unfold L at h;obtain⟨p,r,rfl,h1,h2⟩:=List.map_eq_append_iff.mp h;obtain⟨x,q,rfl,h3,h4⟩:=List.map_eq_cons_iff.mp h2;exact⟨p,x,q,rfl,h1.symm,h3.symm,h4.symm⟩
def pj:∀ {a b:List Nat},L a=L b->a=b
 | [],[],_=>rfl
 | [],_::_,h=>by simp[L]at h
 | _::_,[],h=>by simp[L]at h
 | x::a,y::b,h=>by
  unfold L at h;rw[List.map_cons,List.map_cons,List.cons.injEq]at h
  have h1:(x:Int)=y:=by injection h.1
  rw[pj (a:=a) (b:=b) h.2,Int.ofNat_inj.mp h1]
def dA(I:List Nat->St->Prop)(h0:I [] σ)(hs:∀ p x q σ,xs=p++x::q->I p σ->∃ σ2,(aF tg (.int (x:Nat)) σ).bind f=some (.nx,σ2)/\I (p++[x]) σ2):∃ σ',bz f tg (L xs) σ=some (.nx,σ')/\I xs σ':=by
 obtain⟨σ',e,p,hp,hi⟩:=A1 (f:=f) (tg:=tg) (ds:=L xs) (σ:=σ) (fun pre σ=>∃ p,pre=L p/\I p σ) ⟨[],rfl,h0⟩ (by
  rintro pre d post σ hd ⟨p',hp',hi⟩;obtain⟨p,x,q,rfl,rfl,rfl,rfl⟩:=AZ hd;have:=pj hp';subst this;obtain⟨σ2,h1,h2⟩:=hs p x q σ rfl hi
  exact⟨rfl,σ2,h1,p++[x],by simp[L],h2⟩)
 have:=pj hp;subst this;exact⟨σ',e,hi⟩
def aG(xs:List Nat):(L xs).length=xs.length:=by simp[L]
def zD(xs:List Nat)(i:Nat):(L xs)[i]?=(xs[i]?).map fun(i:Nat)=>.int (i:Int):=by simp[L]
def zB(xs:List Nat)(i j:Nat):(L xs).set i (.int j)=L (xs.set i j):=by simp[L,List.map_set]
def aY:∀ xs:List Nat,au (L xs)=true
 | []=>rfl
 | x::xs=>by
  show((D.int x).imm&&au (L xs))=true;rw[aY xs];rfl
def dG(xs ys:List Nat):L (xs++ys)=L xs++L ys:=by simp[L]
def jj(xs:List α)(i:Nat):dz xs (i:Int)=xs[i]?:=by
 unfold dz;rw[if_pos (Int.natCast_nonneg i)];rfl
def zh(h:i<n):mU n (i:Int)=some i:=by
 unfold mU;rw[if_pos (Int.natCast_nonneg i),if_pos (by lia)];rfl
def kX(a:Nat):∀ n:Nat,cE (a:Int) n=L (List.range' a n)
 | 0=>rfl
 | n+1=>by
  rw[cE,List.range'_succ];have:=kX (a+1) n;rw[show((a+1:Nat):Int)=(a:Int)+1 by lia]at this;rw[this];rfl
def hU{a b:Nat}(h1:a<=1000)(h2:b<=1000):c8 (.int a) (.int b)=some (L (List.range' a (b-a))):=by
 dsimp only[c8]
 have:((b:Int)-a).toNat=b-a:=by lia
 rw[if_pos ⟨by unfold most;lia,by lia,by lia,by lia,by lia⟩,this,kX]
section
def oJ(i:Int):evF cl ie [.int i]=some (.bl true):=rfl
def kU(h:∀ i:Int,cl f [.int i]=some (.bl true))(i:Int):evF cl (dS f) [.int i]=some (.bl (decide (1<=i/\i<=10))):=by
 simp[evF,dS,ag,evS,ev,evs,h,bE,bc,D.imm,aW];by_cases h1:1<=i<;>simp[h1,bc,D.imm,aW]
def mO(h:cl f [.int i]=some (.bl true)):evF cl (c6 f) [.int i]=some .non:=by
 simp[evF,c6,ag,evS,ev,evs,h,truth,aW]
def Bl(xs:List Nat)(hi:i<xs.length)(hj:j<xs.length):evF cl oS [.lst (L xs),.int i,.int j]=some (.tup [.non,.lst (L ((xs.set i j).set j i))]):=by
 simp[evF,oS,ag,evS,ev,evs,df,mU,hi,hj,D.imm,aW,gI,aG,zB]
def qQ(xs:List D):evF cl j9 [.tup xs]=some (.int (xs.length / 2)):=rfl
abbrev aU(n:Nat):List Nat:=List.range' n n++List.range' 0 n
def run_plain{f:Nat}{n:Nat}(hn:n<=10)(h:cl f [.int n]=some .non):evF cl (gh f) [.int n]=some (.tup (L (aU n))):=by
 have e1:=hU (a:=n) (b:=2*n) (by lia) (by lia);rw[show 2*n-n=n by lia,show((2*n:Nat):Int)=2*(n:Int) by lia]at e1;have e2:=hU (a:=0) (b:=n) (by lia) (by lia);rw[Nat.sub_zero]at e2
 have e3:aA .mul (.int 2) (.int n)=some (.int (2*n)):=by
  dsimp only[aA];rw[if_pos (by lia)]
 have e4:aA .add (.lst (L (List.range' n n))) (.lst (L (List.range' 0 n)))=some (.lst (L (aU n))):=by
  dsimp only[aA];rw[if_pos (by simp[aG,most];lia),aU,dG]
 simp only[Int.natCast_zero]at e2;simp[evF,gh,ag,evS,ev,evs,h,e1,e2,e3,e4,biV,items,bc,D.imm,aY,aW]
abbrev at'(f:List Nat)(x:Nat):Nat:=(f[x]?).getD x
abbrev jf(f:List Nat)(l:Nat):List Nat:=if at' f l=l+1 then f else(((f.set (at' f l) (at' f (l+1))).set (at' f (l+1)) (at' f l)).set l (l+1)).set (l+1) l
structure Frm(n:Nat)(f:List Nat):Prop where
 len:f.length=2*n
 lt:∀ x,x<2*n->at' f x<2*n
 inv:∀ x,at' f (at' f x)=x
 no:∀ x,x<2*n->at' f x≠x
def gd(h:x<f.length):f[x]?=some (at' f x):=by simp[at',h]
def eP(h:f.length<=x):at' f x=x:=by simp[at',h]
def dF(h:i<f.length):at' (f.set i j) x=if x=i then j else at' f x:=by
 unfold at';rw[List.getElem?_set];by_cases e:i=x
 ·subst e;simp[h]
 ·simp[e,Ne.symm e]
def mR(F:Frm n f)(hl:l+1<2*n):at' (jf f l)=M.hg l (l+1) (at' f):=by
 funext x;unfold jf M.hg;have a1:=F.lt l (by lia);have a2:=F.lt (l+1) hl;have hlen:=F.len;by_cases e:at' f l=l+1
 ·rw[if_pos e,if_pos e]
 ·rw[if_neg e,if_neg e,dF (by simp;lia),dF (by simp;lia),dF (by simp;lia),dF (by lia)]
def xV:(jf f l).length=f.length:=by
 unfold jf;split
 ·rfl
 ·simp
def xY(F:Frm n f)(hl:l+1<2*n):Frm n (jf f l):=by
 have n1:=F.no l (by lia);have n2:=F.no (l+1) hl;refine⟨by rw[xV];exact F.len,fun x hx=>?_,fun x=>?_,fun x hx=>?_⟩
 ·rw[mR F hl];unfold M.hg;have a1:=F.lt l (by lia);have a2:=F.lt (l+1) hl;have a3:=F.lt x hx
  repeat' split
  all_goals lia
 ·rw[mR F hl];exact M.Ee (by lia) F.inv n1 n2 x
 ·rw[mR F hl];exact M.yQ (by lia) F.inv n1 n2 (F.no x hx)
def ED(F:f.length=2*n)(G:g.length=2*n)(h:at' f=at' g):f=g:=by
 apply List.ext_getElem?;intro i;by_cases hi:i<2*n
 ·rw[gd (by lia),gd (by lia),h]
 ·rw[List.getElem?_eq_none (by lia),List.getElem?_eq_none (by lia)]
end
section
def plain_at(n x:Nat):at' (aU n) x=if x<n then n+x else if x<2*n then x-n else x:=by
 unfold at' aU;by_cases h1:x<n
 ·rw[List.getElem?_append_left (by simpa using h1),if_pos h1];simp[h1]
 ·rw[List.getElem?_append_right (by simpa using h1),if_neg h1];by_cases h2:x<2*n
  ·rw[if_pos h2];simp[show x-n<n by lia]
  ·rw[if_neg h2];simp[show ¬ x-n<n by lia]
def jD(n:Nat):Frm n (aU n):=by
 refine⟨by simp[aU];lia,fun x hx=>?_,fun x=>?_,fun x hx=>?_⟩
 ·rw[plain_at];repeat' split
  all_goals lia
 ·rw[plain_at,plain_at];repeat' split
  all_goals lia
 ·rw[plain_at];repeat' split
  all_goals lia
end
end RM
namespace RL
section
def bo:ag cl M .nil σ=some (.nx,σ):=by rw[ag]
def d6(h:evS cl M s σ=some (.nx,σ'))(k:ag cl M r σ'=res):ag cl M (.cons s r) σ=res:=by
 rw[ag,h];exact k
def pz(h:evS cl M s σ=some (.rt d,σ')):ag cl M (.cons s r) σ=some (.rt d,σ'):=by
 rw[ag,h];rfl
def aD(h:ev cl σ e=some d)(ok:bb M e d=true)(k:ag cl M r (σ.set i (some d))=res):ag cl M (.cons (.asg i e) r) σ=res :=
 d6 (by rw[evS,h];show(if bb M e d=true then _ else _)=_;rw[if_pos ok]) k
def gP(h:ev cl σ e=some d)(ok:(aK d&&aR e)=true)(k:ag cl M r (σ.set i (some d))=res):ag cl M (.cons (.own i e) r) σ=res :=
 d6 (by rw[evS,h];show(if(aK d&&aR e)=true then _ else _)=_;rw[if_pos ok]) k
def i4(h:ev cl σ e=some d)(k:ag cl M r σ=res):ag cl M (.cons (.exc e) r) σ=res :=
 d6 (by rw[evS,h];rfl) k
def aS(h:ev cl σ e=some d)(ok:bc M e d=true):ag cl M (.cons (.ret e) r) σ=some (.rt d,σ) :=
 pz (by rw[evS,h];show(if bc M e d=true then _ else _)=_;rw[if_pos ok])
def iz(h:(ev cl σ t).bind truth=some true)(h1:ag cl M a σ=some (.nx,σ'))(k:ag cl M r σ'=res):ag cl M (.cons (.ife t a b) r) σ=res :=
 d6 (by rw[evS,h];exact h1) k
def fg(h:(ev cl σ t).bind truth=some true)(h1:ag cl M a σ=some (.rt d,σ')):ag cl M (.cons (.ife t a b) r) σ=some (.rt d,σ') :=
 pz (by rw[evS,h];exact h1)
def jG(h:(ev cl σ t).bind truth=some false)(h1:ag cl M b σ=some (.nx,σ'))(k:ag cl M r σ'=res):ag cl M (.cons (.ife t a b) r) σ=res :=
 d6 (by rw[evS,h];exact h1) k
def k8(h:(ev cl σ t).bind truth=some false)(h1:ag cl M b σ=some (.rt d,σ')):ag cl M (.cons (.ife t a b) r) σ=some (.rt d,σ') :=
 pz (by rw[evS,h];exact h1)
def bL(h:(ev cl σ t).bind truth=some false)(k:ag cl M r σ=res):ag cl M (.cons (.ife t a .nil) r) σ=res:=jG h bo k
def vS(h:ev cl σ e=some d)(hd:items d=some ds)(im:au ds=true)(hs:bK is ds σ=some σ')(k:ag cl M r σ'=res):ag cl M (.cons (.unp is e) r) σ=res :=
 d6 (by rw[evS,h,Option.bind_some,hd];show(if au ds=true then _ else _)=_;rw[if_pos im,hs];rfl) k
def qJ(h:ev cl σ e=some x)(h':ev cl σ e'=some y)(im:(x.imm&&y.imm)=true)(k:ag cl M r ((σ.set i (some x)).set j (some y))=res):ag cl M (.cons (.par i j e e') r) σ=res :=
 d6 (by rw[evS,h,Option.bind_some,h'];show(if(x.imm&&y.imm)=true then _ else _)=_;rw[if_pos im]) k
def vB(h:ev cl σ e=some d)(hi:(σ[i]?).bind id=some (.lst xs))(im:d.imm=true)(hl:xs.length<most)(k:ag cl M r (σ.set i (some (.lst (xs++[d]))))=res):ag cl M (.cons (.app i e) r) σ=res :=
 d6 (by rw[evS,h,Option.bind_some,hi];show(if(d.imm&&decide (xs.length<most))=true then _ else _)=_;rw[if_pos (by rw[im,decide_eq_true hl];rfl)]) k
def me(h:ev cl σ e'=some x)(h':ev cl σ e=some kk)(hi:(σ[i]?).bind id=some l)(im:x.imm=true)(hp:df l kk x=some l')(k:ag cl M r (σ.set i (some l'))=res):ag cl M (.cons (.put i e e') r) σ=res :=
 d6 (by rw[evS,h,Option.bind_some,h',Option.bind_some,hi,Option.bind_some,if_pos im,hp];rfl) k
def D5(hi:(σ[i]?).bind id=some (.lst (xs++[d])))(k:ag cl M r ((σ.set i (some (.lst xs))).set j (some d))=res):ag cl M (.cons (.pop i j) r) σ=res :=
 d6 (by rw[evS,hi];simp) k
def fK(h:bB cl σ it=some ds)(h1:bz (ag cl M b) tg ds σ=some (.nx,σ'))(k:ag cl M r σ'=res):ag cl M (.cons (.forr tg it b) r) σ=res :=
 d6 (by rw[evS,h];exact h1) k
def Ae(h:bB cl σ it=some ds)(h1:bz (ag cl M b) tg ds σ=some (.rt d,σ')):ag cl M (.cons (.forr tg it b) r) σ=some (.rt d,σ') :=
 pz (by rw[evS,h];exact h1)
def tw(h:evs cl σ es=some ds)(ok:i5 M ps 0 es ds=true)(hc:cl f ds=some (.tup (d::outs)))(hs:bK ms outs σ=some σ')(k:ag cl M r σ'=res):ag cl M (.cons (.mexc f es ps ms) r) σ=res :=
 d6 (by rw[evS,h,Option.bind_some,if_pos ok,hc,Option.bind_some];show Option.map _ (bK ms outs σ)=_;rw[hs];rfl) k
def aa(h:(σ[i]?).bind id=some d):ev cl σ (.var i)=some d:=by rw[ev];exact h
def aq:ev cl σ (.cst d)=some d:=by rw[ev]
def x_call(h:evs cl σ es=some ds)(hc:cl f ds=some d):ev cl σ (.call f es)=some d:=by rw[ev,h];exact hc
def bA:evs cl σ .nil=some []:=by rw[evs]
def ay(h:ev cl σ e=some d)(hr:evs cl σ es=some ds):evs cl σ (.cons e es)=some (d::ds):=by rw[evs,h,Option.bind_some,hr];rfl
def bx(h:ev cl σ e=some d)(hc:cl f [d]=some x):ev cl σ (.call f (.cons e .nil))=some x:=x_call (ay h bA) hc
def cX(h:ev cl σ e=some d)(h':ev cl σ e'=some d')(hc:cl f [d,d']=some x):ev cl σ (.call f (.cons e (.cons e' .nil)))=some x:=x_call (ay h (ay h' bA)) hc
def yM(h:ev cl σ e=some d)(h':ev cl σ e'=some d')(h'':ev cl σ e''=some d'')(hc:cl f [d,d',d'']=some x):ev cl σ (.call f (.cons e (.cons e' (.cons e'' .nil))))=some x:=x_call (ay h (ay h' (ay h'' bA))) hc
def az(h:ev cl σ e=some x)(h':ev cl σ e'=some y)(hb:aA o x y=some d):ev cl σ (.bin o e e')=some d:=by rw[ev,h,Option.bind_some,h'];exact hb
def aE(h:ev cl σ e=some x)(h':ev cl σ e'=some y)(hb:bE o x y=some k):ev cl σ (.cmp o e e')=some (.bl k):=by rw[ev,h,Option.bind_some,h',Option.bind_some,hb];rfl
def cM(h:ev cl σ e=some x)(h':ev cl σ e'=some y)(hb:ixV x y=some d):ev cl σ (.ix e e')=some d:=by rw[ev,h,Option.bind_some,h'];exact hb
def aO(h:ev cl σ e=some x)(hb:biV o x=some d):ev cl σ (.bi o e)=some d:=by rw[ev,h];exact hb
def zW(h:ev cl σ e=some x)(h':ev cl σ e'=some y)(hb:pG x y=some d):ev cl σ (.slT e e')=some d:=by rw[ev,h,Option.bind_some,h'];exact hb
def cP{t:Ty}(h:ev cl σ e=some x)(hb:fN t x=some k):ev cl σ (.isi e t)=some (.bl k):=by rw[ev,h,Option.bind_some,hb];rfl
def zQ(h:ev cl σ e=some (.int k)):ev cl σ (.neg e)=some (.int (-k)):=by rw[ev,h];rfl
def Fj(h:ev cl σ e=some (.int x))(h':ev cl σ e'=some (.int y)):ev cl σ (.max e e')=some (.int (if y > x then y else x)):=by rw[ev,h,Option.bind_some,h'];rfl
def sv(h:ev cl σ e=some x)(h':ev cl σ e'=some y)(h'':ev cl σ e''=some z)(b1:bE c x y=some true)(b2:bE c' y z=some k):ev cl σ (.chain c c' e e' e'')=some (.bl k):=by rw[ev,h,Option.bind_some,h',Option.bind_some,b1,Option.bind_some,if_pos rfl,h'',Option.bind_some,b2];rfl
def xW(h:ev cl σ e=some x)(h':ev cl σ e'=some y)(b1:bE c x y=some false):ev cl σ (.chain c c' e e' e'')=some (.bl false):=by rw[ev,h,Option.bind_some,h',Option.bind_some,b1];rfl
def cD(h:evs cl σ es=some ds):ev cl σ (.lst es)=some (.lst ds):=by rw[ev,h];rfl
def zN(h:evs cl σ es=some ds):ev cl σ (.tup es)=some (.tup ds):=by rw[ev,h];rfl
def cI(h:ev cl σ e=some (.bl true))(h':ev cl σ e'=some d):ev cl σ (.and e e')=some d:=by rw[ev,h];exact h'
def gK(h:ev cl σ e=some (.bl false)):ev cl σ (.and e e')=some (.bl false):=by rw[ev,h];rfl
def uG(h:ev cl σ e=some (.bl false))(h':ev cl σ e'=some d):ev cl σ (.or e e')=some d:=by rw[ev,h];exact h'
def Fl(h:ev cl σ e=some (.bl true)):ev cl σ (.or e e')=some (.bl true):=by rw[ev,h];rfl
def Fu(h:(ev cl σ e).bind truth=some k):ev cl σ (.not e)=some (.bl (!k)):=by rw[ev,h];rfl
def dI(h:ev cl σ e=some (.bl k)):ev cl σ (.not e)=some (.bl (!k)):=Fu (by rw[h];rfl)
def zG(h:(ev cl σ t).bind truth=some k)(h':ev cl σ (if k then e else e')=some d):ev cl σ (.ifx t e e')=some d:=by
 rw[ev,h];cases k<;>exact h'
def aX(h:ev cl σ e=some (.bl k)):(ev cl σ e).bind truth=some k:=by rw[h];rfl
def dO(h:bB cl σ it=some ds)(hf:ds.length<=most)(hm:cu (fun σ1=>(ev cl σ1 e).map some) tg σ ds=some ys):ev cl σ (.compA e tg it)=some (.lst ys):=by
 rw[ev,h,Option.bind_some,fits,if_pos hf,Option.bind_some,hm];rfl
def j6(h:bB cl σ it=some ds)(hf:ds.length<=most)(hm:cu (fun σ1=>((ev cl σ1 t).bind truth).bind fun k=>if k then(ev cl σ1 e).map some else some none) tg σ ds=some ys):ev cl σ (.comp e tg it t)=some (.lst ys):=by
 rw[ev,h,Option.bind_some,fits,if_pos hf,Option.bind_some,hm];rfl
def eZ(h:ev cl σ e=some x)(hr:c8 (.int 0) x=some ds):bB cl σ (.rng1 e)=some ds:=by rw[bB,h];exact hr
def D8(h:ev cl σ e=some x)(h':ev cl σ e'=some y)(hr:fU c x y=some ds):bB cl σ (.rng3 c e e')=some ds:=by rw[bB,h,Option.bind_some,h'];exact hr
def oU(h:ev cl σ e=some x)(hr:items x=some ds):bB cl σ (.seq e)=some ds:=by rw[bB,h];exact hr
def ph(h:ev cl σ e=some x)(h':ev cl σ e'=some y)(hx:items x=some xs)(hy:items y=some ys)(hl:xs.length=ys.length):bB cl σ (.zip e e')=some (dY xs ys):=by rw[bB,h,Option.bind_some,h',Option.bind_some,hx,Option.bind_some,hy,Option.bind_some,if_pos hl]
def Fi(hk:(match x with | .non=>some (D.bl (!n)) | .dK _ _=>none | .dT _ _=>none | _=>some (.bl n))=some (D.bl k))(h:ev cl σ e=some x):ev cl σ (.isN n e)=some (.bl k):=by rw[ev,h];exact hk
def mw(h:ev cl σ e=some x)(hr:fF x=some ds):bB cl σ (.enm e)=some (cQ 0 ds):=by rw[bB,h,Option.bind_some,hr];rfl
end
def aT(hl:ds.length=fn.ps)(hm:fn.mp=[])(h:ag cl fn.M fn.body (ds.map some++List.replicate (fn.nn-fn.ps) none)=some (.rt d,σ')):evF cl fn ds=some d:=by
 unfold evF;rw[if_pos hl,h];show aW fn d σ'=_;unfold aW;rw[hm];rfl
def wm(hl:ds.length=fn.ps)(hm:fn.mp=[])(h:ag cl fn.M fn.body (ds.map some++List.replicate (fn.nn-fn.ps) none)=some (.nx,σ')):evF cl fn ds=some .non:=by
 unfold evF;rw[if_pos hl,h];show aW fn .non σ'=_;unfold aW;rw[hm];rfl
end RL
namespace RM
open RL RT
abbrev LI(xs:List Int):List D:=xs.map D.int
def vn(xs:List Int):(LI xs).length=xs.length:=by simp[LI]
def vF:∀ xs:List Int,au (LI xs)=true
 | []=>rfl
 | x::xs=>by
  show((D.int x).imm&&au (LI xs))=true;rw[vF xs];rfl
section
def mod_lt{a b:Int}(h:0<b):0<=a%b/\a%b<b:=⟨Int.emod_nonneg _ (by lia),Int.emod_lt_of_pos _ h⟩
def By(s:Int):∃ m:Int,evF cl jN [.int s]=some (.int m):=by
 have a1:=mod_lt (a:=s*48271+11) (b:=2147483647) (by decide);generalize h1:(s*48271+11)%2147483647=one at a1;have a2:=mod_lt (a:=one*one+40692*one+s) (b:=2147483399) (by decide);generalize h2:(one*one+40692*one+s)%2147483399=two at a2
 exact⟨_,aT rfl rfl (aD (d:=.int one) (az (az (az (aa rfl) aq (vx (by decide) (by decide))) aq c9) aq (by rw[fB (by decide),h1])) rfl
  (aD (d:=.int two) (az (az (az (az (aa rfl) (aa rfl) (bY (by lia) (by lia))) (az aq (aa rfl) (bY (by decide) (by decide))) c9) (aa rfl) c9) aq (by rw[fB (by decide),h2])) rfl
  (aS (az (az (az (az (aa rfl) (aa rfl) (bY (by omega) (by omega))) (az aq (aa rfl) (bY (by decide) (by decide))) c9) (aa rfl) c9) aq (fB (by decide))) rfl)))⟩
def A9{f:Nat}(h:∀ s:Int,∃ m:Int,cl f [.int s]=some (.int m)){ns:List Int}(hl:ns.length<=63){k:Nat}(hk:k<=1000):∃ r:Int,evF cl (jC f) [.lst (LI ns),.int k]=some (.int r):=by
 have pw:aA .pow (.int 10) (.int 18)=some (.int 1000000000000000000):=rfl
 have rest:∀ c:Int,∃ r σ',ag cl [] (.cons (.asg 3 (.cst (.int 0))) (.cons (.forr [4] (.rng1 (.cst (.int 40))) (iP f)) (.cons (.ret (.var 3)) .nil))) [some (.lst (LI ns)),some (.int k),some (.int c),none,none]=some (.rt (.int r),σ'):=by
  intro c;have hr:c8 (.int 0) (.int 40)=some (L (List.range' 0 40)):=congrArg some (kX 0 40)
  obtain⟨σ',e,r,o,rfl⟩:=dA (f:=ag cl [] (iP f)) (tg:=[4]) (xs:=List.range' 0 40) (σ:=[some (.lst (LI ns)),some (.int k),some (.int c),some (.int 0),none])
   (fun p σ=>∃ (r:Int) (o:Option D),σ=[some (.lst (LI ns)),some (.int k),some (.int c),some (.int r),o]) ⟨0,none,rfl⟩ (by
    rintro p x q σ hx ⟨r,o,rfl⟩;obtain⟨m,hm⟩:=h (c+1009*k+7919*x)
    exact⟨_,aD (az (az (aa rfl) aq (vx (by decide) (by decide))) (bx (az (az (aa rfl) (az aq (aa rfl) (bY (by decide) (by decide))) c9) (az aq (aa rfl) (bY (by decide) (by decide))) c9) hm) c9) rfl bo,_,_,rfl⟩)
  exact⟨r,_,aD aq rfl (fK (eZ aq hr) e (aS (aa rfl) rfl))⟩
 have len:biV .len (.lst (LI ns))=some (.int ns.length):=congrArg (fun n:Nat=>some (D.int n)) (vn ns)
 have first:ev cl [some (.lst (LI ns)),some (.int k),none,none,none] (.bin .add (.bin .mul (.cst (.int 7)) (.var 1)) (.cst (.int 3)))=some (.int (7*k+3)):=az (az aq (aa rfl) (bY (by decide) (by decide))) aq c9
 by_cases h0:0<ns.length
 ·have hmod:=mod_lt (a:=(k:Int)) (b:=(ns.length:Int)) (by lia);obtain⟨j,hj⟩:=Int.eq_ofNat_of_zero_le hmod.1
  have hjl:j<ns.length:=by lia
  have ix:ixV (.lst (LI ns)) (.int ((k:Int)%ns.length))=some (.int ns[j]):=by
   show dz (LI ns) _=_;rw[hj,jj];simp[LI,hjl]
  obtain⟨r,σ',hr⟩:=rest (ns[j]+9973*((k:Int) / ns.length));generalize hc:ns[j]+9973*((k:Int) / ns.length)=cell at hr
  have cel:∀ {r':Ss} {res:Option (Out × St)},ag cl [] r' [some (.lst (LI ns)),some (.int k),some (.int cell),none,none]=res->ag cl [] (.cons (.asg 2 (.bin .add (.bin .mul (.cst (.int 7)) (.var 1)) (.cst (.int 3)))) (.cons (.ife (.cmp .gt (.bi .len (.var 0)) (.cst (.int 0))) (.cons (.asg 2 (.bin .add (.ix (.var 0) (.bin .mod (.var 1) (.bi .len (.var 0)))) (.bin .mul (.cst (.int 9973)) (.bin .fdiv (.var 1) (.bi .len (.var 0)))))) .nil) .nil) r')) [some (.lst (LI ns)),some (.int k),none,none,none]=res:=fun z =>
   aD first rfl (iz (aX (aE (aO (aa rfl) len) aq (by rw[nz,decide_eq_true (by lia)]))) (aD (d:=.int cell) (az (cM (aa rfl) (az (aa rfl) (aO (aa rfl) len) (fB (by lia))) ix) (az aq (az (aa rfl) (aO (aa rfl) len) (kF (by lia) (by lia))) (bY (by decide) (by decide))) (by rw[c9,hc])) rfl bo) z)
  by_cases h1:k<ns.length
  ·have c1:bE .lt (.int (k:Nat)) (.int (ns.length:Nat))=some true:=by rw[fM,decide_eq_true (by lia)]
   by_cases h2:(1000000000000000000:Int)<=cell
   ·exact⟨_,aT rfl rfl (cel (fg (aX (cI (aE (aa rfl) (aO (aa rfl) len) c1) (aE (aa rfl) (az aq aq pw) (by rw[mX,decide_eq_true h2])))) (aS (az (aa rfl) (az aq aq pw) mf) rfl)))⟩
   ·exact⟨r,aT rfl rfl (cel (bL (aX (cI (aE (aa rfl) (aO (aa rfl) len) c1) (aE (aa rfl) (az aq aq pw) (by rw[mX,decide_eq_false h2])))) hr))⟩
  ·exact⟨r,aT rfl rfl (cel (bL (aX (gK (aE (aa rfl) (aO (aa rfl) len) (by rw[fM,decide_eq_false (by lia)])))) hr))⟩
 ·obtain⟨r,σ',hr⟩:=rest (7*k+3);exact⟨r,aT rfl rfl (aD first rfl (bL (aX (aE (aO (aa rfl) len) aq (by rw[nz,decide_eq_false (by lia)]))) (bL (aX (gK (aE (aa rfl) (aO (aa rfl) len) (by rw[fM,decide_eq_false (by lia)])))) hr)))⟩
end
section
abbrev jI(ds sizes:List Nat):Prop:=ds.length=sizes.length/\∀ (i d s:Nat),ds[i]?=some d->sizes[i]?=some s->d<s
def jI.snoc(h:jI ds sizes)(hd:d<s):jI (ds++[d]) (sizes++[s]):=by
 refine⟨by simp[h.1],fun i x y h1 h2=>?_⟩;by_cases hi:i<ds.length
 ·rw[List.getElem?_append_left hi]at h1;rw[List.getElem?_append_left (by rw[<-h.1];exact hi)]at h2;exact h.2 i x y h1 h2
 ·rw[List.getElem?_append_right (by lia)]at h1;rw[List.getElem?_append_right (by rw[<-h.1];lia)]at h2;rw[h.1]at h1
  cases hk:i-sizes.length with
  | zero=>rw[hk]at h1 h2;simp at h1 h2;lia
  | succ k=>rw[hk]at h1;simp at h1
def tP(h:cl f [scr,.int k]=some (.int r))(hp:∀ s∈sizes,0<s/\s<2 ^ 200)(hlen:sizes.length<=1000):∃ ds:List Nat,jI ds sizes/\evF cl (eN f) [scr,.int k,.lst (L sizes)]=some (.lst (L ds)):=by
 obtain⟨σ',e,r',ds,o,hds,rfl⟩:=dA (f:=ag cl [4] (fR f)) (tg:=[5]) (xs:=sizes) (σ:=[some scr,some (.int k),some (.lst (L sizes)),some (.int r),some (.lst []),none])
  (fun p σ=>∃ (r:Int) (ds:List Nat) (o:Option D),jI ds p/\σ=[some scr,some (.int k),some (.lst (L sizes)),some (.int r),some (.lst (L ds)),o]) ⟨r,[],none,⟨rfl,by simp⟩,rfl⟩ (by
   rintro p x q σ hx ⟨r,ds,o,hds,rfl⟩;have hx0:=hp x (by rw[hx];simp)
   have hpl:p.length<1000:=by
    have:=congrArg List.length hx;simp at this;lia
   have hx1:(0:Int)<x:=by lia
   have hx2:(x:Int)<2 ^ 200:=by
    have:=hx0.2;lia
   obtain⟨d,hd⟩:=Int.eq_ofNat_of_zero_le (Int.emod_nonneg r (show(x:Int)≠0 by lia))
   have hdx:d<x:=by
    have:=Int.emod_lt_of_pos r hx1;lia
   refine⟨[some scr,some (.int k),some (.lst (L sizes)),some (.int (r / x)),some (.lst (L (ds++[d]))),some (.int x)],?_,_,_,_,hds.snoc hdx,rfl⟩
   have hl:(L ds).length<most:=by
    rw[aG,hds.1];unfold most;lia
   simp[aF,fR,ag,evS,ev,fB hx1,kF hx1 hx2,hd,D.imm,hl,bb,dG]
   rfl)
 refine⟨ds,hds,?_⟩;simp[evF,eN,ag,evS,ev,evs,bB,items,h,bb,D.imm,aK,au];simp[e,ev,bc,aK,aY,aW]
end
section
def EL(xs:List Nat)(n:Nat):(L xs).take n=L (xs.take n):=by simp[L]
end
section
end
abbrev dpf:Nat->List Bool->Option Nat
 | d,[]=>some d
 | d,true::r=>dpf (d+1) r
 | 0,false::_=>none
 | d+1,false::r=>dpf d r
def fv(b:Bool):∀ (w:List Bool) (d:Nat),dpf d (w++[b])=(dpf d w).bind fun e=>dpf e [b]
 | [],d=>rfl
 | true::r,d=>by simpa[dpf]using fv b r (d+1)
 | false::r,0=>rfl
 | false::r,d+1=>by simpa[dpf]using fv b r d
abbrev sg(b:Bool):Nat:=if b then 40 else 41
abbrev tx(w:List Bool):PySem.Str:=⟨(w.map sg).toArray⟩
def qL(w:List Bool):(tx w).length=w.length:=by simp[tx,PySem.Str.length]
def Ep(w v:List Bool):tx w++tx v=tx (w++v):=by
 show PySem.Str.mk _=_;simp[tx]
def C8:(PySem.Str.ofString "")=tx []:=by decide +kernel
def uL:(PySem.Str.ofString "(")=tx [true]:=by decide +kernel
def ET:(PySem.Str.ofString ")")=tx [false]:=by decide +kernel
def jS:∀ (k a:Nat),k<=a->bV (-1) (a:Int) k=L ((List.range k).map fun i=>a-i)
 | 0,_,_=>rfl
 | k+1,a,h=>by
  rw[bV,List.range_succ_eq_map];have:=jS k (a-1) (by lia)
  have e:(a:Int)+-1=((a-1:Nat):Int):=by lia
  rw[e,this];simp[L];intro i hi;lia
def cx(h:(List.range k).map g=p++x::q):p.length<k/\x=g p.length:=by
 have l:((List.range k).map g).length=(p++x::q).length:=by rw[h]
 have e:((List.range k).map g)[p.length]?=(p++x::q)[p.length]?:=by rw[h]
 simp at l e;obtain⟨y,hy,e⟩:=e;refine⟨by lia,?_⟩;rw[List.getElem?_range (by lia)]at hy;cases hy;exact e.symm
def xy(h:w.length+v.length<=most):aA .add (.str (tx w)) (.str (tx v))=some (.str (tx (w++v))):=by
 dsimp only[aA];rw[qL,qL,if_pos h,Ep]
def xJ(hn:n<=10):∃ w:List Bool,w.length=2*n/\dpf 0 w=some 0/\evF cl iJ [.int r,.int n]=some (.str (tx w)):=by
 have e1:aA .mul (.int 2) (.int n)=some (.int (2*n)):=bY (by decide) (by decide)
 have e2:fU (-1) (.int (2*(n:Int))) (.int 0)=some (L ((List.range (2*n)).map fun i=>2*n-i)):=by
  have hN:bD (-1) (2*(n:Int)) 0=2*n:=by
   unfold bD;rw[show(- -1:Int)=1 from rfl,Int.ediv_one,if_neg (by decide)];split<;>lia
  dsimp only[fU];rw[hN];rw[if_pos ⟨by decide,by decide,by decide,by unfold most;lia,by lia,by lia,by lia,by lia⟩];have:=jS (2*n) (2*n) (Nat.le_refl _);rw[<-this];rfl
 obtain⟨σ',e,I⟩:=dA (f:=ag cl [] fC) (tg:=[4]) (xs:=(List.range (2*n)).map fun i=>2*n-i) (σ:=[some (.int r),some (.int n),some (.str (tx [])),some (.int 0),none,none,none])
  (fun p σ=>∃ (r:Int) (w:List Bool) (d:Nat) (o4 o5 o6:Option D),σ=[some (.int r),some (.int n),some (.str (tx w)),some (.int d),o4,o5,o6]/\w.length=p.length/\dpf 0 w=some d/\d+p.length<=2*n/\(d+p.length)%2=0) ⟨r,[],0,none,none,none,rfl,rfl,rfl,by simp,rfl⟩ (by
   rintro p x q σ hx ⟨r,w,d,o4,o5,o6,rfl,hw,hd,hl,hp⟩;obtain⟨h1,h2⟩:=cx hx;have m1:aA .fdiv (.int r) (.int 2)=some (.int (r / 2)):=kF (by decide) (by decide);have m2:aA .mod (.int r) (.int 2)=some (.int (r%2)):=fB (by decide);generalize hr:r%2=st at m2
   have tx1:ixV (.lst [.str (PySem.Str.ofString ")"),.str (PySem.Str.ofString "(")]) (.int 1)=some (.str (tx [true])):=by rw[uL];rfl
   have tx0:ixV (.lst [.str (PySem.Str.ofString ")"),.str (PySem.Str.ofString "(")]) (.int 0)=some (.str (tx [false])):=by rw[ET];rfl
   by_cases up:d=0\/(d<x/\st=1)
   ·have ee:ev cl [some (.int (r / 2)),some (.int n),some (.str (tx w)),some (.int d),some (.int x),o5,some (.int st)] (.or (.cmp .eq (.var 3) (.cst (.int 0))) (.and (.cmp .lt (.var 3) (.var 4)) (.cmp .eq (.var 6) (.cst (.int 1)))))=some (.bl true):=by
     by_cases h0:d=0
     ·subst h0;exact Fl (aE (aa rfl) aq rfl)
     ·have g:d<x/\st=1:=by lia
      have hb:((d:Int) == 0)=false:=beq_eq_false_iff_ne.mpr (by lia);exact uG (aE (aa rfl) aq (by rw[dW,hb])) (cI (aE (aa rfl) (aa rfl) (by rw[fM,decide_eq_true (by lia)])) (aE (aa rfl) aq (by rw[dW,g.2];rfl)))
    exact⟨_,show ag cl [] fC [some (.int r),some (.int n),some (.str (tx w)),some (.int d),some (.int x),o5,o6]=some (.nx,_)from qJ (az (aa rfl) aq m1) (az (aa rfl) aq m2) rfl (aD ee rfl (aD (az (aa rfl) (cM (cD (ay aq (ay aq bA))) (aO (aa rfl) rfl) tx1) (xy (by simp[most];lia))) rfl (aD (d:=.int ((d+1:Nat):Int)) (az (aa rfl) (cM (cD (ay (zQ aq) (ay aq bA))) (aO (aa rfl) rfl) rfl) rfl) rfl bo))),
     r / 2,w++[true],d+1,_,_,_,rfl,by simp[hw],by rw[fv,hd];rfl,by simp;omega,by simp;lia⟩
   ·have hd0:0<d:=by lia
    have ee:ev cl [some (.int (r / 2)),some (.int n),some (.str (tx w)),some (.int d),some (.int x),o5,some (.int st)] (.or (.cmp .eq (.var 3) (.cst (.int 0))) (.and (.cmp .lt (.var 3) (.var 4)) (.cmp .eq (.var 6) (.cst (.int 1)))))=some (.bl false):=by
     have hb:((d:Int) == 0)=false:=beq_eq_false_iff_ne.mpr (by lia);refine uG (aE (aa rfl) aq (by rw[dW,hb])) ?_;by_cases hx:d<x
     ·have h1:(st == 1)=false:=beq_eq_false_iff_ne.mpr (by lia);exact cI (aE (aa rfl) (aa rfl) (by rw[fM,decide_eq_true (by lia)])) (aE (aa rfl) aq (by rw[dW,h1]))
     ·exact gK (aE (aa rfl) (aa rfl) (by rw[fM,decide_eq_false (by lia)]))
    have es:aA .add (.int (d:Nat)) (.int (-1))=some (.int ((d-1:Nat):Int)):=by rw[c9];congr 2;lia
    exact⟨_,show ag cl [] fC [some (.int r),some (.int n),some (.str (tx w)),some (.int d),some (.int x),o5,o6]=some (.nx,_)from qJ (az (aa rfl) aq m1) (az (aa rfl) aq m2) rfl (aD ee rfl (aD (az (aa rfl) (cM (cD (ay aq (ay aq bA))) (aO (aa rfl) rfl) tx0) (xy (by simp[most];lia))) rfl (aD (az (aa rfl) (cM (cD (ay (zQ aq) (ay aq bA))) (aO (aa rfl) rfl) rfl) es) rfl bo))),
     r / 2,w++[false],d-1,_,_,_,rfl,by simp[hw],by rw[fv,hd];obtain⟨e,rfl⟩:∃ e,d=e+1:=⟨d-1,by lia⟩;rfl,by simp;lia,by simp;lia⟩)
 obtain⟨r',w,d,o4,o5,o6,rfl,hw,hd,hl,hp⟩:=I;simp at hw hl
 have:d=0:=by lia
 subst this;refine⟨w,hw,hd,?_⟩;rw[<-C8]at e;exact aT rfl rfl (aD aq rfl (aD aq rfl (fK (D8 (az aq (aa rfl) e1) aq e2) e (aS (aa rfl) rfl))))
abbrev rd(n q:Nat):Nat:=if q<n then q else 3*n-1-q
def bJ(h:q<2*n):rd n q<2*n:=by unfold rd;split<;>omega
def cW(h:q<2*n):rd n (rd n q)=q:=by
 unfold rd;by_cases e:q<n
 ·rw[if_pos e,if_pos e]
 ·rw[if_neg e,if_neg (by omega)];lia
def lG(hp:p<2*n)(hq:q<2*n)(h:rd n p=rd n q):p=q:=by rw[<-cW hp,h,cW hq]
abbrev rnd(n:Nat)(f:List Nat)(q:Nat):Nat:=rd n (at' f (rd n q))
structure Val(n:Nat)(f:List Nat):Prop where
 frm:Frm n f
 nox:∀ q q',q<2*n->q'<2*n->¬ (q<q'/\q'<rnd n f q/\rnd n f q<rnd n f q')
structure Mt(n k:Nat)(f S:List Nat):Prop where
 len:f.length=2*n
 kn:k<=2*n
 up:S.Pairwise (·<·)
 lt:∀ s∈S,s<k
 ok:∀ q,q<k->q∉S->rnd n f q<k/\rnd n f q∉S/\rnd n f q≠q/\rnd n f (rnd n f q)=q
 bt:∀ q s,q<k->q∉S->s∈S->¬ (q<s/\s<rnd n f q)
 nox:∀ q q',q<k->q'<k->q∉S->q'∉S->¬ (q<q'/\q'<rnd n f q/\rnd n f q<rnd n f q')
def Mt.push{n k:Nat}{f S:List Nat}(m:Mt n k f S)(hk:k<2*n):Mt n (k+1) f (S++[k]):=by
 have nk:∀ q,q<k+1->q∉S++[k]->q<k/\q∉S:=by
  intro q h1 h2;simp at h2;exact⟨by lia,h2.1⟩
 refine⟨m.len,by lia,?_,?_,?_,?_,?_⟩
 ·rw[List.pairwise_append];exact⟨m.up,by simp,fun a ha b hb=>by simp at hb;have:=m.lt a ha;lia⟩
 ·intro s hs;simp at hs;rcases hs with h | h
  ·have:=m.lt s h;lia
  ·lia
 ·intro q h1 h2;obtain⟨a,b⟩:=nk q h1 h2;obtain⟨c1,c2,c3,c4⟩:=m.ok q a b;exact⟨by lia,by simp;exact⟨c2,by lia⟩,c3,c4⟩
 ·intro q s h1 h2 hs;obtain⟨a,b⟩:=nk q h1 h2;simp at hs;rcases hs with h | h
  ·exact m.bt q s a b h
  ·have:=(m.ok q a b).1;lia
 ·intro q q' h1 h2 h3 h4;obtain⟨a,b⟩:=nk q h1 h3;obtain⟨a',b'⟩:=nk q' h2 h4;exact m.nox q q' a a' b b'
def Bv(hl:f.length=2*n)(hk:k<2*n)(hm:m<2*n)(hq:q<2*n):rnd n ((f.set (rd n m) (rd n k)).set (rd n k) (rd n m)) q=if q=k then m else if q=m then k else rnd n f q:=by
 have l1:=bJ hk;have l2:=bJ hm;unfold rnd;rw[dF (by simp;lia),dF (by lia)];by_cases h1:q=k
 ·subst h1;rw[if_pos rfl,if_pos rfl,cW hm]
 ·rw[if_neg (fun h=>h1 (lG hq hk h)),if_neg h1];by_cases h2:q=m
  ·subst h2;rw[if_pos rfl,if_pos rfl,cW hk]
  ·rw[if_neg (fun h=>h2 (lG hq hm h)),if_neg h2]
def Mt.pop{n k m:Nat}{f S:List Nat}(h:Mt n k f (S++[m]))(hk:k<2*n):Mt n (k+1) ((f.set (rd n m) (rd n k)).set (rd n k) (rd n m)) S:=by
 have hmk:m<k:=h.lt m (by simp)
 have hm:m<2*n:=by lia
 have P:=fun q hq=>Bv (f:=f) h.len hk hm (q:=q) hq;have up:=List.pairwise_append.mp h.up;have hmS:∀ s∈S,s<m:=fun s hs=>up.2.2 s hs m (by simp)
 have kS:k∉S:=fun c=>by have:=hmS k c;lia
 have mS:m∉S:=fun c=>by have:=hmS m c;lia
 have cs:∀ q,q<k+1->q∉S->q=k\/q=m\/(q≠k/\q≠m/\q<k/\q∉S++[m]):=by
  intro q h1 h2;by_cases e1:q=k
  ·exact .inl e1
  ·by_cases e2:q=m
   ·exact .inr (.inl e2)
   ·exact .inr (.inr ⟨e1,e2,by lia,by simp;exact⟨h2,e2⟩⟩)
 have old:∀ q,q<k->q∉S++[m]->rnd n f q<k/\rnd n f q∉S/\rnd n f q≠m/\rnd n f q≠q/\rnd n f (rnd n f q)=q:=by
  intro q h1 h2;obtain⟨c1,c2,c3,c4⟩:=h.ok q h1 h2;simp at c2;exact⟨c1,c2.1,c2.2,c3,c4⟩
 refine⟨by simp[h.len],by lia,up.1,fun s hs=>by have:=hmS s hs;lia,?_,?_,?_⟩
 ·intro q h1 h2
  rcases cs q h1 h2 with rfl | rfl | ⟨e1,e2,e3,e4⟩
  ·rw[P q hk,if_pos rfl,P m hm,if_neg (by lia),if_pos rfl];exact⟨by lia,mS,by lia,rfl⟩
  ·rw[P q hm,if_neg (by lia),if_pos rfl,P k hk,if_pos rfl];exact⟨by lia,kS,by lia,rfl⟩
  ·obtain⟨c1,c2,c3,c4,c5⟩:=old q e3 e4;rw[P q (by lia),if_neg e1,if_neg e2,P _ (by lia),if_neg (by lia),if_neg c3];exact⟨by lia,c2,c4,c5⟩
 ·intro q s h1 h2 hs;have:=hmS s hs
  rcases cs q h1 h2 with rfl | rfl | ⟨e1,e2,e3,e4⟩
  ·lia
  ·lia
  ·rw[P q (by lia),if_neg e1,if_neg e2];exact h.bt q s e3 e4 (by simp[hs])
 ·intro q q' h1 h2 h3 h4
  rcases cs q h1 h3 with rfl | rfl | ⟨e1,e2,e3,e4⟩
  ·lia
  ·rw[P q hm,if_neg (by lia),if_pos rfl]
   rcases cs q' h2 h4 with rfl | rfl | ⟨d1,d2,d3,d4⟩
   ·lia
   ·lia
   ·rw[P q' (by lia),if_neg d1,if_neg d2];have:=(old q' d3 d4).1;lia
  ·rw[P q (by lia),if_neg e1,if_neg e2];have a:=(old q e3 e4).1
   rcases cs q' h2 h4 with rfl | rfl | ⟨d1,d2,d3,d4⟩
   ·lia
   ·have:=h.bt q q' e3 e4 (by simp);lia
   ·rw[P q' (by lia),if_neg d1,if_neg d2];exact h.nox q q' e3 d3 e4 d4
def Mt.val(h:Mt n (2*n) f [])(hlt:∀ x,x<2*n->at' f x<2*n):Val n f:=by
 refine⟨⟨h.len,hlt,?_,?_⟩,fun q q' h1 h2=>h.nox q q' h1 h2 (by simp) (by simp)⟩
 ·intro x;by_cases hx:x<2*n
  ·have a:=(h.ok (rd n x) (bJ hx) (by simp)).2.2.2;unfold rnd at a;rw[cW hx,cW (hlt x hx)]at a;exact lG (hlt _ (hlt x hx)) hx a
  ·have e:at' f x=x:=eP (by rw[h.len];lia);rw[e,e]
 ·intro x hx e;have a:=(h.ok (rd n x) (bJ hx) (by simp)).2.2.1;unfold rnd at a;rw[cW hx,e]at a;exact a rfl
def vW(g:β->D)(im:∀ b,(g b).imm=true)(I:List β->St->Prop):∀ (w done:List β) (σ:St),(∀ u b v σ,done++w=u++b::v->I u σ->∃ σ2,(aF tg (.tup [.int u.length,g b]) σ).bind f=some (.nx,σ2)/\I (u++[b]) σ2)->I done σ->∃ σ',bz f tg (cQ done.length (w.map g)) σ=some (.nx,σ')/\I (done++w) σ'
 | [],done,σ,_,h=>⟨σ,rfl,by simpa using h⟩
 | b::w,done,σ,hs,h=>by
  obtain⟨σ2,h1,h3⟩:=hs done b w σ rfl h;obtain⟨σ',h4,h5⟩:=vW g im I w (done++[b]) σ2 (fun pre e post σ he=>hs pre e post σ (by simpa using he)) h3;refine⟨σ',?_,by simpa using h5⟩;rw[List.map_cons,cQ,bz,if_pos (by simp[D.imm,au,im])];rw[show((done++[b]).length:Int)=(done.length:Int)+1 by simp]at h4
  cases hb:aF tg (.tup [.int done.length,g b]) σ with
  | none=>rw[hb]at h1;cases h1
  |some σ1=>
   rw[hb]at h1;simp only[Option.bind_some]at h1 ⊢;rw[h1];exact h4
abbrev cA(n:Nat):List Nat:=(List.range (2*n)).map (rd n)
def pQ(n:Nat):(cA n).length=2*n:=by simp[cA]
def Bg(h:1<=n):cA n=List.range' 0 n++(List.range n).map (fun i=>(2*n-1)-i):=by
 unfold cA;rw[show 2*n=n+n by lia,List.range_add,List.map_append,<-List.range_eq_range',List.map_map];congr 1
 ·conv=>rhs;rw[<-List.map_id (List.range n)]
  apply List.map_congr_left;intro i hi;simp at hi;simp[rd,hi]
 ·apply List.map_congr_left;intro i hi;simp at hi;show rd n (n+i)=_;unfold rd;rw[if_neg (by lia)];lia
def Al{a b:Nat}(h:b<=a)(ha:a<=1000):fU (-1) (.int (a:Int)) (.int ((a:Int)-b))=some (L ((List.range b).map fun i=>a-i)):=by
 have hN:bD (-1) (a:Int) ((a:Int)-b)=b:=by
  unfold bD;rw[show(- -1:Int)=1 from rfl,Int.ediv_one,if_neg (by decide)];split<;>lia
 dsimp only[fU];rw[hN];rw[if_pos ⟨by decide,by decide,by decide,by unfold most;lia,by lia,by lia,by lia,by lia⟩];rw[jS b a h]
def uh{n:Nat}(h1:1<=n)(hn:n<=10):evF cl eV [.int n]=some (.lst (L (cA n))):=by
 have e1:aA .mul (.int 2) (.int n)=some (.int (2*n)):=bY (by decide) (by decide);have e2:=hU (a:=0) (b:=n) (by lia) (by lia);rw[Nat.sub_zero]at e2;simp only[Int.natCast_zero]at e2;have e3:=Al (a:=2*n-1) (b:=n) (by lia) (by lia);rw[show((2*n-1:Nat):Int)=2*n-1 by lia,show 2*(n:Int)-1-n=n-1 by lia]at e3
 have e4:aA .add (.lst (L (List.range' 0 n))) (.lst (L ((List.range n).map fun i=>2*n-1-i)))=some (.lst (L (cA n))):=by
  dsimp only[aA];rw[if_pos (by simp[aG,most];lia),Bg h1,dG]
 simp[evF,eV,ag,evS,ev,evs,e1,e2,e3,e4,mf,bc,D.imm,aK,aY,aW]
def mB{n q:Nat}(h:q<2*n):ixV (.lst (L (cA n))) (.int (q:Int))=some (.int ((rd n q:Nat):Int)):=by
 show dz _ _=_;rw[jj,zD];simp[cA,h]
def eR{f:List Nat}{i j:Nat}(h:i<f.length):df (.lst (L f)) (.int (i:Int)) (.int (j:Int))=some (.lst (L (f.set i j))):=by
 dsimp only[df];rw[aG,zh h];simp[zB]
def iL(v:List Bool):∀ (w:List Bool) (d:Nat),dpf d (w++v)=(dpf d w).bind fun e=>dpf e v
 | [],d=>rfl
 | true::r,d=>by simpa[dpf]using iL v r (d+1)
 | false::r,0=>rfl
 | false::r,d+1=>by simpa[dpf]using iL v r d
def qj:∀ (w:List Bool) (d:Nat) {e:Nat},dpf d w=some e->e<=d+w.length
 | [],d,e,h=>by cases h;simp
 | true::r,d,e,h=>by have:=qj r (d+1) h;simp;lia
 | false::r,0,e,h=>nomatch h
 | false::r,d+1,e,h=>by have:=qj r d h;simp;lia
def zeros(cl:Cl)(σ:St):∀ xs:List Nat,cu (fun σ1=>(ev cl σ1 (.cst (.int 0))).map some) [7] σ (L xs)=some (L (List.replicate xs.length 0))
 | []=>rfl
 | x::r=>by
  rw[show L (x::r)=.int x::L r from rfl,cu,zeros cl σ r];rfl
def oN{fc:Nat}(h1:1<=n)(hn:n<=10)(hc:cl fc [.int n]=some (.lst (L (cA n))))(hw:w.length=2*n)(hd:dpf 0 w=some 0):∃ f:List Nat,Val n f/\evF cl (eY fc) [.str (tx w)]=some (.tup (L f)):=by
 obtain⟨σ',e,I⟩:=vW (f:=ag cl [3,4] (da fc)) (tg:=[5,6]) (fun b:Bool=>D.str (tx [b])) (fun _=>rfl)
  (fun u σ=>∃ (f S:List Nat) (o5 o6 o8:Option D),σ=[some (.str (tx w)),some (.int n),some (.lst (L (cA n))),some (.lst (L f)),some (.lst (L (S.map (rd n)))),o5,o6,none,o8]/\dpf 0 u=some S.length/\Mt n u.length f S/\∀ x,x<2*n->at' f x<2*n)
  w [] [some (.str (tx w)),some (.int n),some (.lst (L (cA n))),some (.lst (L (List.replicate (2*n) 0))),some (.lst (L [])),none,none,none,none] (by
   rintro u b v σ hu ⟨f,S,o5,o6,o8,rfl,hS,m,hlt⟩
   have hk:u.length<2*n:=by
    rw[<-hw];have:=congrArg List.length hu;simp at this;lia
   have hdb:∃ d,dpf S.length [b]=some d:=by
    have:dpf 0 (u++b::v)=some 0:=by rw[<-hu];exact hd
    rw[iL,hS]at this
    revert this
    cases b with
    | true=>exact fun _=>⟨_,rfl⟩
    |false=>
     cases S.length with
     | zero=>exact fun h=>nomatch h
     | succ d=>exact fun _=>⟨_,rfl⟩
   cases b with
   |true=>
    refine⟨[some (.str (tx w)),some (.int n),some (.lst (L (cA n))),some (.lst (L f)),some (.lst (L ((S++[u.length]).map (rd n)))),some (.int u.length),some (.str (tx [true])),none,o8],?_,f,S++[u.length],_,_,_,rfl,?_,by simpa using m.push hk,hlt⟩
    ·have hl:S.length<most:=by have:=qj u 0 hS;unfold most;lia
     have ap:L ((S++[u.length]).map (rd n))=L (S.map (rd n))++[.int ((rd n u.length:Nat):Int)]:=by simp[L]
     rw[ap];exact show ag cl [3,4] (da fc) [some (.str (tx w)),some (.int n),some (.lst (L (cA n))),some (.lst (L f)),some (.lst (L (S.map (rd n)))),some (.int u.length),some (.str (tx [true])),none,o8]=some (.nx,_)from iz (aX (aE (k:=true) (aa rfl) aq (by rw[uL];decide))) (vB (cM (aa rfl) (aa rfl) (mB hk)) rfl rfl (by rw[aG,List.length_map];exact hl) bo) bo
    ·rw[fv,hS];simp[dpf]
   |false=>
    obtain⟨d,hdb⟩:=hdb
    have hS0:S≠[]:=by
     rintro rfl;simp[dpf]at hdb
    obtain⟨S0,m0,rfl⟩:∃ S0 m0,S=S0++[m0]:=⟨S.dropLast,S.getLast hS0,(List.dropLast_concat_getLast hS0).symm⟩
    have hm0:m0<u.length:=m.lt m0 (by simp);have c:=mB hk;have p1:=eR (f:=f) (i:=rd n m0) (j:=rd n u.length) (by rw[m.len];exact bJ (by lia));have p2:=eR (f:=f.set (rd n m0) (rd n u.length)) (i:=rd n u.length) (j:=rd n m0) (by rw[List.length_set,m.len];exact bJ (by lia));refine⟨[some (.str (tx w)),some (.int n),some (.lst (L (cA n))),some (.lst (L ((f.set (rd n m0) (rd n u.length)).set (rd n u.length) (rd n m0)))),some (.lst (L (S0.map (rd n)))),some (.int u.length),some (.str (tx [false])),none,some (.int ((rd n m0:Nat):Int))],?_,_,S0,_,_,_,rfl,?_,by simpa using m.pop hk,?_⟩
    ·have ap:L ((S0++[m0]).map (rd n))=L (S0.map (rd n))++[.int ((rd n m0:Nat):Int)]:=by simp[L]
     rw[ap];exact show ag cl [3,4] (da fc) [some (.str (tx w)),some (.int n),some (.lst (L (cA n))),some (.lst (L f)),some (.lst (L (S0.map (rd n))++[.int ((rd n m0:Nat):Int)])),some (.int u.length),some (.str (tx [false])),none,o8]=some (.nx,_)from jG (aX (aE (k:=false) (aa rfl) aq (by rw[uL];decide))) (D5 rfl (me (cM (aa rfl) (aa rfl) c) (aa rfl) rfl rfl p1 (me (aa rfl) (cM (aa rfl) (aa rfl) c) rfl rfl p2 bo))) bo
    ·rw[fv,hS];simp[dpf]
    ·intro x hx;rw[dF (by simp[m.len];exact bJ (by lia)),dF (by rw[m.len];exact bJ (by lia))];have:=bJ (n:=n) (q:=m0) (by lia);have:=bJ (n:=n) (q:=u.length) (by lia);have:=hlt x hx
     repeat' split
     all_goals lia)
  ⟨List.replicate (2*n) 0,[],none,none,none,rfl,rfl,⟨by simp,by simp,by simp,by simp,by simp,by simp,by simp⟩,fun x hx=>by simp[at',hx];lia⟩
 obtain⟨f,S,o5,o6,o8,rfl,hS,m,hlt⟩:=I;simp only[List.nil_append]at hS m;rw[hd]at hS;have hS0:S=[]:=List.eq_nil_of_length_eq_zero (by simpa using hS.symm);subst hS0;rw[hw]at m;refine⟨f,m.val hlt,?_⟩
 have len:biV .len (.str (tx w))=some (.int ((2*n:Nat):Int)):=by
  dsimp only[biV];rw[qL,hw,if_pos (by unfold most;lia)]
 have dv:aA .fdiv (.int ((2*n:Nat):Int)) (.int 2)=some (.int (n:Nat)):=by
  rw[kF (by decide) (by decide)];congr 2;lia
 have it:fF (.str (tx w))=some (w.map fun b=>D.str (tx [b])):=by
  simp[fF,tx,Function.comp_def]
 have z:=zeros cl [some (.str (tx w)),some (.int n),some (.lst (L (cA n))),none,none,none,none,none,none] (cA n);rw[pQ]at z
 exact aT rfl rfl (aD (az (aO (aa rfl) len) aq dv) rfl (aD (bx (aa rfl) hc) (by unfold bb;rw[show aK (.lst (L (cA n)))=true from aY _];rfl) (gP (dO (oU (aa rfl) rfl) (by rw[aG,pQ];unfold most;lia) z) (by rw[show aK (.lst (L (List.replicate (2*n) 0)))=true from aY _];rfl) (gP (cD bA) rfl
  (fK (mw (aa rfl) it) e (aS (aO (aa rfl) rfl) (by unfold bc;rw[show(D.tup (L f)).imm=true from aY _];rfl)))))))
def fJ(im:∀ x,(g x).imm=true):∀ xs:List Nat,(∀ x∈xs,(aF tg (.int (x:Nat)) σ).bind F=some (some (g x)))->cu F tg σ (L xs)=some (xs.map g)
 | [],_=>rfl
 | x::r,h=>by
  have a:=h x (by simp);have b:=fJ im r (fun y hy=>h y (by simp[hy]));rw[show L (x::r)=.int x::L r from rfl,cu]
  cases hb:aF tg (.int (x:Nat)) σ with
  | none=>rw[hb]at a;cases a
  |some σ1=>
   rw[hb]at a;simp only[Option.bind_some]at a ⊢;rw[a,b];simp[jJ,im]
def jK(im:∀ x,(g x).imm=true):∀ xs:List Nat,(∀ x∈xs,(aF tg (.int (x:Nat)) σ).bind F=some (if c x then some (g x)else none))->cu F tg σ (L xs)=some ((xs.filter c).map g)
 | [],_=>rfl
 | x::r,h=>by
  have a:=h x (by simp);have b:=jK im r (fun y hy=>h y (by simp[hy]));rw[show L (x::r)=.int x::L r from rfl,cu]
  cases hb:aF tg (.int (x:Nat)) σ with
  | none=>rw[hb]at a;cases a
  |some σ1=>
   rw[hb]at a;simp only[Option.bind_some]at a ⊢;rw[a,b];cases hc:c x<;>simp[jJ,im,hc]
def yy(xs:List Nat)(g:Nat->Nat):(xs.map fun x=>D.int (g x:Nat))=L (xs.map g):=by simp[L]
def jO(h:xs.length<=1000):fits (L xs)=some (L xs):=by
 unfold fits;rw[if_pos (by rw[aG];unfold most;lia)]
def bR{n:Nat}(h:n<=1000):c8 (.int 0) (.int n)=some (L (List.range n)):=by
 have e2:=hU (a:=0) (b:=n) (by lia) h;rw[Nat.sub_zero,<-List.range_eq_range']at e2;exact e2
def nj{n:Nat}(hn:n<=100):evF cl eg [.int n]=some (.tup (L (aU n))):=by
 have e2:=bR (n:=n) (by lia)
 have e3:=fJ (F:=fun σ1=>(ev cl σ1 (.bin .add (.var 0) (.var 1))).map some) (tg:=[1]) (σ:=[some (.int n),none]) (g:=fun x=>.int ((n+x:Nat):Int)) (fun _=>rfl) (List.range n) (by
  intro x _
  simp[aF,ev,c9])
 rw[yy]at e3
 have e4:aA .add (.lst (L ((List.range n).map fun x=>n+x))) (.lst (L (List.range n)))=some (.lst (L (aU n))):=by
  dsimp only[aA];rw[if_pos (by simp[aG,most];lia),aU,dG];congr 3
  ·rw[List.range'_eq_map_range]
  ·rw[List.range_eq_range']
 have e5:=jO (xs:=List.range n) (by simp;lia);simp only[evF,eg,ag,evS,ev,bB];simp[ev,e2,e5];simp[ev]at e3;rw[e3];simp[e4,biV,items,bc,D.imm,aY,aW]
def oK{n:Nat}(hn:n<=10):evF cl eg [.int n]=some (.tup (L (aU n))):=nj (by lia)
def oF(h:q<2*n):rnd n (aU n) q=2*n-1-q:=by
 unfold rnd rd;by_cases c:q<n
 ·rw[if_pos c,plain_at,if_pos c,if_neg (by lia)];lia
 ·have e:at' (aU n) (3*n-1-q)=2*n-1-q:=by rw[plain_at,if_neg (by omega),if_pos (by omega)];lia
  rw[if_neg c,e,if_pos (by omega)]
def vy(n:Nat):Val n (aU n):=by
 refine⟨jD n,fun q q' h1 h2=>?_⟩;rw[oF h1,oF h2];omega
abbrev f9(n i:Nat):List Nat:=jf (aU n) (n+i)
set_option synthInstance.maxSize 10000 in
set_option synthInstance.maxHeartbeats 0 in
def zj:∀ n,n<11->∀ i,i<n->i+1<n->∀ q,q<2*n->∀ q',q'<2*n->¬ (q<q'/\q'<rnd n (f9 n i) q/\rnd n (f9 n i) q<rnd n (f9 n i) q'):=by decide +kernel
def y9(hn:n<=10)(h:i+1<n):Val n (f9 n i):=⟨xY (jD n) (by lia),fun q q' h1 h2=>zj n (by lia) i (by lia) h q h1 q' h2⟩
def pM{fp:Nat}{n i:Nat}(hn:n<=10)(hi:i+1<n)(hp:cl fp [.int n]=some (.tup (L (aU n)))):evF cl (fV fp) [.int n,.int i]=some (.tup (L (f9 n i))):=by
 have hl:=(jD n).len
 have e:f9 n i=((((aU n).set i (i+1)).set (i+1) i).set (n+i) (n+i+1)).set (n+i+1) (n+i):=by
  unfold f9 jf
  have a1:at' (aU n) (n+i)=i:=by rw[plain_at,if_neg (by lia),if_pos (by lia)];lia
  have a2:at' (aU n) (n+i+1)=i+1:=by rw[plain_at,if_neg (by lia),if_pos (by lia)];lia
  rw[a1,a2,if_neg (by lia)]
 have p1:=eR (f:=aU n) (i:=i) (j:=i+1) (by lia);have p2:=eR (f:=(aU n).set i (i+1)) (i:=i+1) (j:=i) (by simp;lia);have p3:=eR (f:=((aU n).set i (i+1)).set (i+1) i) (i:=n+i) (j:=n+i+1) (by simp;lia);have p4:=eR (f:=(((aU n).set i (i+1)).set (i+1) i).set (n+i) (n+i+1)) (i:=n+i+1) (j:=n+i) (by simp;lia);rw[<-e]at p4;simp only[Int.natCast_add,Int.natCast_one]at p1 p2 p3 p4;simp[evF,fV,ag,evS,ev,evs,hp,biV,items,aK,aY,bB,c9,bz,D.imm,aF,kM,p1,p2,p3,p4,bc,aW]
abbrev aV(n:Nat)(f:List Nat):List Nat:=(List.range (2*n)).map fun p=>(at' f ((p+n)%(2*n))+n)%(2*n)
def kr(h:p<2*n):at' (aV n f) p=(at' f ((p+n)%(2*n))+n)%(2*n):=by
 simp[at',aV,h]
def half{xs:List D}(h:xs.length=2*n):biV .len (.tup xs)=some (.int (2*n)):=by
 simp[biV,items,h]
def xH(n:Nat):aA .fdiv (.int (2*(n:Int))) (.int 2)=some (.int n):=by
 rw[kF (by decide) (by decide)];congr 2;lia
def dh(h:x<f.length):ixV (.tup (L f)) (.int (x:Nat))=some (.int (at' f x:Nat)):=by
 show dz _ _=_;rw[jj,zD,gd h];rfl
def ql(h1:1<=n)(hn:n<=10)(hf:f.length=2*n):evF cl fT [.tup (L f)]=some (.tup (L (aV n f))):=by
 have e1:aA .mul (.int 2) (.int n)=some (.int (2*n)):=bY (by decide) (by decide);have e2:=bR (n:=2*n) (by lia);rw[show((2*n:Nat):Int)=2*(n:Int) by lia]at e2
 have e3:=fJ (F:=fun σ1=>(ev cl σ1 (.bin .mod (.bin .add (.ix (.var 0) (.bin .mod (.bin .add (.var 2) (.var 1)) (.bin .mul (.cst (.int 2)) (.var 1)))) (.var 1)) (.bin .mul (.cst (.int 2)) (.var 1)))).map some) (tg:=[2]) (σ:=[some (.tup (L f)),some (.int n),none]) (g:=fun p=>.int (((at' f ((p+n)%(2*n))+n)%(2*n):Nat):Int)) (fun _=>rfl) (List.range (2*n)) (by
  intro x _
  have m1:aA .mod (.int ((x:Int)+n)) (.int (2*(n:Int)))=some (.int (((x+n)%(2*n):Nat):Int)):=by
   rw[fB (by lia)];simp
  have m2:=dh (f:=f) (x:=(x+n)%(2*n)) (by rw[hf];exact Nat.mod_lt _ (by lia))
  have m3:aA .mod (.int ((at' f ((x+n)%(2*n)):Nat)+(n:Int))) (.int (2*(n:Int)))=some (.int (((at' f ((x+n)%(2*n))+n)%(2*n):Nat):Int)):=by
   rw[fB (by lia)];simp
  simp only[aF,ev,List.set,Option.bind_some,List.getElem?_cons_zero,List.getElem?_cons_succ,id,e1,c9,m1,m2,m3,Option.map_some])
 rw[yy]at e3;have e5:=jO (xs:=List.range (2*n)) (by simp;lia);have e6:=half (xs:=L f) (n:=n) (by rw[aG,hf]);have e7:=xH n;simp only[evF,fT,ag,evS,ev,bB];simp[ev,e2,e5,e1,e6,e7,bb,D.imm];simp[ev]at e3;rw[e3];simp[biV,items,bc,D.imm,aY,aW,aV]
section dicts
variable [DecidableEq κ]
def qA:∀ {ks:List κ} {vs:List D} {x:κ} {d:D} {y:κ},ks.length=vs.length->x∉ks->aL (ks++[x]) (vs++[d]) y=if x=y then some d else aL ks vs y
 | [],[],x,d,y,_,_=>by simp[aL]
 | k::ks,v::vs,x,d,y,h,hn=>by
  simp at h hn;have:=qA (ks:=ks) (vs:=vs) (x:=x) (d:=d) (y:=y) h hn.2;simp only[List.cons_append,aL];by_cases e:k=y
  ·rw[if_pos e,if_pos e,if_neg (fun c=>hn.1 (c.trans e.symm))]
  ·rw[if_neg e,if_neg e,this]
def qG:∀ {ks:List κ} {vs:List D} {x:κ} {d:D} {y:κ},ks.length=vs.length->x∈ks->aL ks (List.zipWith (fun k v=>if k=x then d else v) ks vs) y=if x=y then some d else aL ks vs y
 | k::ks,v::vs,x,d,y,h,hm=>by
  simp at h;simp only[List.zipWith_cons_cons,aL];by_cases e:k=y
  ·rw[if_pos e,if_pos e];by_cases e':k=x
   ·rw[if_pos e',if_pos (e'.symm.trans e)]
   ·rw[if_neg e',if_neg (fun c=>e' (e.trans c.symm))]
  ·rw[if_neg e,if_neg e];by_cases hx:x∈ks
   ·exact qG h hx
   ·have kx:x=k:=by simpa[hx]using hm
    rw[if_neg (fun c=>e (kx.symm.trans c))]
    have:List.zipWith (fun k v=>if k=x then d else v) ks vs=vs:=by
     clear e hm kx
     induction ks generalizing vs with
     | nil=>cases vs with | nil=>rfl | cons _ _=>simp at h
     | cons a ks ih=>cases vs with
      | nil=>simp at h
      |cons b vs=>
       simp at h hx;simp only[List.zipWith_cons_cons];rw[if_neg (fun c=>hx.1 c.symm),ih (vs:=vs) (h:=h) (hx:=hx.2)]
    rw[this]
def gL{ks:List κ}(h:ks.length=vs.length):aL (putD ks vs x d).1 (putD ks vs x d).2 y=if x=y then some d else aL ks vs y:=by
 unfold putD;split
 ·exact qG h ‹_›
 ·exact qA h ‹_›
def gr{ks:List κ}(h:ks.length=vs.length):(putD ks vs x d).1.length=(putD ks vs x d).2.length/\(putD ks vs x d).1.length<=ks.length+1:=by
 unfold putD;split<;>simp[h]
end dicts
abbrev sd(b:Bool):PySem.Str:=if b then PySem.Str.ofString "high" else PySem.Str.ofString "low"
def oR(b:Bool):(sd b == PySem.Str.ofString "high")=b:=by cases b<;>decide +kernel
def EI(h:sd a=sd b):a=b:=by
 have:=oR a;rw[h,oR]at this;exact this.symm
abbrev nk(b:Bool)(p:Nat):List Ky:=[.inr (sd b),.inl (p:Int)]
def qa(h:nk a p=nk b q):a=b/\p=q:=by
 unfold nk at h;injection h with h1 h2;injection h1 with h1;injection h2 with h2;injection h2 with h2;exact⟨EI h1,by lia⟩
abbrev bw(b:Bool)(x:Nat):D:=.tup [.str (sd b),.int x]
abbrev pick(h l:List Nat)(b:Bool):List Nat:=if b then h else l
abbrev jE(h l:List Nat)(k:Nat)(ks:List (List Ky))(vs:List D):Prop:=ks.length=vs.length/\ks.length<=2*k/\∀ b p,p<k->aL ks vs (nk b p)=some (bw b (at' (pick h l b) p))
def jE.next{h l:List Nat}(N:jE h l k ks vs):jE h l (k+1) (putD (putD ks vs (nk true k) (bw true (at' h k))).1 (putD ks vs (nk true k) (bw true (at' h k))).2 (nk false k) (bw false (at' l k))).1 (putD (putD ks vs (nk true k) (bw true (at' h k))).1 (putD ks vs (nk true k) (bw true (at' h k))).2 (nk false k) (bw false (at' l k))).2:=by
 obtain⟨n1,n2,n3⟩:=N;obtain⟨a1,a2⟩:=gr (x:=nk true k) (d:=bw true (at' h k)) n1;obtain⟨b1,b2⟩:=gr (x:=nk false k) (d:=bw false (at' l k)) a1;refine⟨b1,by lia,fun b p hp=>?_⟩;rw[gL a1,gL n1];by_cases e:p=k
 ·subst e;cases b
  ·rw[if_pos rfl];rfl
  ·rw[if_neg (fun c=>by have:=(qa c).1;cases this),if_pos rfl];rfl
 ·rw[if_neg (fun c=>e (qa c).2.symm),if_neg (fun c=>e (qa c).2.symm)];exact n3 b p (by lia)
def x4{fr:Nat}(hn:n<=10)(hh:h.length=2*n)(hl:l.length=2*n):∃ ks vs o,jE h l (2*n) ks vs/\bz (ag cl [3,5,6] (fA fr)) [4] (L (List.range (2*n))) [some (.tup (L h)),some (.tup (L l)),some (.int n),some (.dT [] []),none,none,none,none,none]=some (.nx,[some (.tup (L h)),some (.tup (L l)),some (.int n),some (.dT ks vs),o,none,none,none,none]):=by
 obtain⟨σ',e,ks,vs,o,rfl,N⟩:=dA (f:=ag cl [3,5,6] (fA fr)) (tg:=[4]) (xs:=List.range (2*n)) (σ:=[some (.tup (L h)),some (.tup (L l)),some (.int n),some (.dT [] []),none,none,none,none,none])
  (fun p σ=>∃ ks vs o,σ=[some (.tup (L h)),some (.tup (L l)),some (.int n),some (.dT ks vs),o,none,none,none,none]/\jE h l p.length ks vs) ⟨[],[],none,rfl,rfl,by simp,by simp⟩ (by
   rintro p x q σ hx ⟨ks,vs,o,rfl,N⟩;obtain⟨h1,h2⟩:=cx (g:=id) (by simpa using hx);simp only[id]at h2;subst h2;have i1:=dh (f:=h) (x:=p.length) (by lia);have i2:=dh (f:=l) (x:=p.length) (by lia);have a:=gr (x:=nk true p.length) (d:=bw true (at' h p.length)) N.1
   have m1:ks.length<most:=by have:=N.2.1;unfold most;lia
   have m2:(putD ks vs (nk true p.length) (bw true (at' h p.length))).1.length<most:=by have:=N.2.1;unfold most;lia
   refine⟨_,?_,_,_,some (.int (p.length:Int)),rfl,by simpa using N.next⟩;have k1:keysOf [.str (PySem.Str.ofString "high"),.int (p.length:Int)]=some (nk true p.length):=rfl;have k2:keysOf [.str (PySem.Str.ofString "low"),.int (p.length:Int)]=some (nk false p.length):=rfl
   have u1:df (.dT ks vs) (.tup [.str (PySem.Str.ofString "high"),.int (p.length:Int)]) (.tup [.str (PySem.Str.ofString "high"),.int (at' h p.length:Nat)])=some (.dT (putD ks vs (nk true p.length) (bw true (at' h p.length))).1 (putD ks vs (nk true p.length) (bw true (at' h p.length))).2):=by
    dsimp only[df];rw[k1,Option.bind_some,if_pos m1];rfl
   have u2:∀ ks vs,ks.length<most->df (.dT ks vs) (.tup [.str (PySem.Str.ofString "low"),.int (p.length:Int)]) (.tup [.str (PySem.Str.ofString "low"),.int (at' l p.length:Nat)])=some (.dT (putD ks vs (nk false p.length) (bw false (at' l p.length))).1 (putD ks vs (nk false p.length) (bw false (at' l p.length))).2):=by
    intro ks vs m;dsimp only[df];rw[k2,Option.bind_some,if_pos m];rfl
   simp only[aF,fA,ag,evS,ev,evs,List.set,Option.bind_some,List.getElem?_cons_zero,List.getElem?_cons_succ,id,i1,i2,Option.map_some,D.imm,au,Bool.and_self,if_true,u1,u2 _ _ m2])
 simp only[List.length_range]at N;exact⟨ks,vs,o,N,e⟩
abbrev stp(n:Nat)(h l:List Nat)(s:Bool × Nat):Bool × Nat:=if s.1=decide (n<=s.2)then(!s.1,at' (pick h l (!s.1)) ((s.2+n)%(2*n)))else s
abbrev itr(n:Nat)(h l:List Nat):Nat->Bool × Nat->Bool × Nat
 | 0,s=>s
 | i+1,s=>stp n h l (itr n h l i s)
abbrev Tr(n:Nat)(s:Bool × Nat)(m:Nat):Prop:=s.1=decide (n<=s.2)/\s.2%n=m
abbrev GD(gk:List Ky)(gv:List D)(k:Nat)(P:Nat->Prop):Prop:=gk.length=gv.length/\gk.length<=k/\∀ m:Nat,(aL gk gv (.inl (m:Int))).isSome=true↔P m
def GD.put(G:GD gk gv k P)(m0:Nat)(d:D):GD (putD gk gv (.inl (m0:Int)) d).1 (putD gk gv (.inl (m0:Int)) d).2 (k+1) (fun m=>P m\/m0=m):=by
 obtain⟨g1,g2,g3⟩:=G;obtain⟨a1,a2⟩:=gr (x:=(.inl (m0:Int):Ky)) (d:=d) g1;refine⟨a1,by lia,fun m=>?_⟩;rw[gL g1];by_cases e:m0=m
 ·subst e;simp
 ·rw[if_neg (fun c=>e (by injection c;lia)),g3];simp[e]
def GD.mono(G:GD gk gv k P)(hk:k<=k')(h:∀ m,P m↔Q m):GD gk gv k' Q :=
 ⟨G.1,by have:=G.2.1;lia,fun m=>(G.2.2 m).trans (h m)⟩
abbrev hst(n:Nat)(h l:List Nat)(ks:List (List Ky))(vs:List D)(o4:Option D)(fnd:List Nat)(gk:List Ky)(gv:List D)(o7 o8:Option D):St :=
 [some (.tup (L h)),some (.tup (L l)),some (.int n),some (.dT ks vs),o4,some (.lst (L fnd)),some (.dK gk gv),o7,o8]
section
def rH(b:Bool)(x:Nat):ixV (bw b x) (.int 0)=some (.str (sd b)):=rfl
def kY(b:Bool)(x:Nat):ixV (bw b x) (.int 1)=some (.int (x:Nat)):=rfl
def kW(b:Bool):ixV (.lst [.str (PySem.Str.ofString "high"),.str (PySem.Str.ofString "low")]) (.int (if b=true then 1 else 0))=some (.str (sd !b)):=by cases b<;>rfl
def AJ(h1:1<=n)(hn:n<=10)(N:jE h l (2*n) ks vs)(hx:x<2*n)(G:GD gk gv k P)(hk:k<=2000)(o4 o8:Option D)(t:D) :
  ∃ gk' gv',GD gk' gv' (k+1) (fun m=>P m\/Tr n (b,x) m)/\(aF [8] t (hst n h l ks vs o4 fnd gk gv (some (bw b x)) o8)).bind (ag cl [3,5,6] (dk fr))=some (.nx,hst n h l ks vs o4 fnd gk' gv' (some (bw (stp n h l (b,x)).1 (stp n h l (b,x)).2)) (some t)):=by
 have e1:aA .mul (.int 2) (.int n)=some (.int (2*n)):=bY (by decide) (by decide)
 have cnd:ev cl (hst n h l ks vs o4 fnd gk gv (some (bw b x)) (some t)) (.cmp .eq (.cmp .eq (.ix (.var 7) (.cst (.int 0))) (.cst (.str "high"))) (.cmp .ge (.ix (.var 7) (.cst (.int 1))) (.var 2)))=some (.bl (b == decide (n<=x))):=by
  simp only[hst,ev,Option.bind_some,List.getElem?_cons_zero,List.getElem?_cons_succ,id,rH,kY,bE,eqD,oR,Option.map_some];simp
 by_cases e:b=decide (n<=x)
 ·refine⟨_,_,(G.put (x%n) (.bl true)).mono (Nat.le_refl _) (fun m=>by simp[Tr,e]),?_⟩
  have m1:aA .mod (.int (x:Nat)) (.int n)=some (.int ((x%n:Nat):Int)):=by rw[fB (by lia)];simp
  have m2:aA .mod (.int ((x:Nat)+(n:Int))) (.int (2*(n:Int)))=some (.int (((x+n)%(2*n):Nat):Int)):=by rw[fB (by lia)];simp
  have u:df (.dK gk gv) (.int ((x%n:Nat):Int)) (.bl true)=some (.dK (putD gk gv (.inl ((x%n:Nat):Int)) (.bl true)).1 (putD gk gv (.inl ((x%n:Nat):Int)) (.bl true)).2):=by
   dsimp only[df,keyOf];rw[Option.bind_some,if_pos (by have:=G.2.1;unfold most;lia)]
  have lk:qM (.dT ks vs) (.tup [.str (sd !b),.int (((x+n)%(2*n):Nat):Int)])=some (bw (!b) (at' (pick h l !b) ((x+n)%(2*n)))):=by
   have:=N.2.2 (!b) ((x+n)%(2*n)) (Nat.mod_lt _ (by lia));rw[<-this];rfl
  have s1:stp n h l (b,x)=(!b,at' (pick h l !b) ((x+n)%(2*n))):=by unfold stp;rw[if_pos e]
  rw[s1]
  have eb:(b == decide (n<=x))=true:=by simp[e]
  rw[eb]at cnd;simp only[aF,hst,List.set,Option.bind_some,dk,ag,evS]at cnd ⊢;rw[cnd];simp only[Option.bind_some,truth,if_true,ag,evS,ev,evs,List.getElem?_cons_zero,List.getElem?_cons_succ,id,rH,kY,m1,u,D.imm,Option.map_some,List.set,bE,eqD,oR,biV,kW,c9,e1,m2,lk];have ok:bb [3,5,6] (.ixD (.var 3) (.tup (.cons (.ix (.lst (.cons (.cst (.str "high")) (.cons (.cst (.str "low")) .nil))) (.bi .int (.cmp .eq (.ix (.var 7) (.cst (.int 0))) (.cst (.str "high"))))) (.cons (.bin .mod (.bin .add (.ix (.var 7) (.cst (.int 1))) (.var 2)) (.bin .mul (.cst (.int 2)) (.var 2))) .nil)))) (bw (!b) (at' (pick h l !b) ((x+n)%(2*n))))=true:=rfl;rw[if_pos ok];rfl
 ·refine⟨gk,gv,G.mono (by lia) (fun m=>by simp[Tr,e]),?_⟩
  have s1:stp n h l (b,x)=(b,x):=by unfold stp;rw[if_neg e]
  rw[s1]
  have eb:(b == decide (n<=x))=false:=by simp[e]
  rw[eb]at cnd;simp only[aF,hst,List.set,Option.bind_some,dk,ag,evS]at cnd ⊢;rw[cnd];simp[truth,ag]
def D6(hh:∀ x,x<2*n->at' h x<2*n)(hl:∀ x,x<2*n->at' l x<2*n)(hs:s.2<2*n):(stp n h l s).2<2*n:=by
 unfold stp;split
 ·have m:(s.2+n)%(2*n)<2*n:=Nat.mod_lt _ (by lia);cases s.1
  ·exact hh _ m
  ·exact hl _ m
 ·exact hs
def wN(hh:∀ x,x<2*n->at' h x<2*n)(hl:∀ x,x<2*n->at' l x<2*n)(hs:s.2<2*n):∀ i,(itr n h l i s).2<2*n
 | 0=>hs
 | i+1=>D6 hh hl (wN hh hl hs i)
abbrev Met(n:Nat)(h l:List Nat)(s:Bool × Nat)(i:Nat)(m:Nat):Prop:=∃ j,j<i/\Tr n (itr n h l j s) m
def Bd(h1:1<=n)(hn:n<=10)(N:jE h l (2*n) ks vs)(hh:∀ x,x<2*n->at' h x<2*n)(hl:∀ x,x<2*n->at' l x<2*n)(hs:s.2<2*n)(G:GD gk gv k P)(hk:k<=1000)(o4 o8:Option D) :
  ∃ gk' gv' o8',GD gk' gv' (k+4*n) (fun m=>P m\/Met n h l s (4*n) m)/\bz (ag cl [3,5,6] (dk fr)) [8] (L (List.range (4*n))) (hst n h l ks vs o4 fnd gk gv (some (bw s.1 s.2)) o8)=some (.nx,hst n h l ks vs o4 fnd gk' gv' (some (bw (itr n h l (4*n) s).1 (itr n h l (4*n) s).2)) o8'):=by
 obtain⟨σ',e,gk',gv',o8',rfl,G'⟩:=dA (f:=ag cl [3,5,6] (dk fr)) (tg:=[8]) (xs:=List.range (4*n)) (σ:=hst n h l ks vs o4 fnd gk gv (some (bw s.1 s.2)) o8)
  (fun p σ=>∃ gk' gv' o8',σ=hst n h l ks vs o4 fnd gk' gv' (some (bw (itr n h l p.length s).1 (itr n h l p.length s).2)) o8'/\GD gk' gv' (k+p.length) (fun m=>P m\/Met n h l s p.length m))
  ⟨gk,gv,o8,rfl,G.mono (by simp) (fun m=>by simp[Met])⟩ (by
   rintro p x q σ hx ⟨gk',gv',o8',rfl,G'⟩;obtain⟨a1,a2⟩:=cx (g:=id) (by simpa using hx);obtain⟨gk2,gv2,G2,e2⟩:=AJ (cl:=cl) (fr:=fr) (fnd:=fnd) h1 hn N (wN hh hl hs p.length) G' (by lia) o4 o8' (.int (x:Nat)) (b:=(itr n h l p.length s).1);refine⟨_,e2,gk2,gv2,_,by rw[List.length_append];rfl,G2.mono (by simp;lia) (fun m=>?_)⟩;simp only[Met,List.length_append,List.length_singleton];constructor
   ·rintro((hp | ⟨j,h1,h2⟩) | h2)
    ·exact .inl hp
    ·exact .inr ⟨j,by lia,h2⟩
    ·exact .inr ⟨p.length,by lia,h2⟩
   ·rintro(hp | ⟨j,h1,h2⟩)
    ·exact .inl (.inl hp)
    ·by_cases hj:j=p.length
     ·subst hj;exact .inr h2
     ·exact .inl (.inr ⟨j,by lia,h2⟩))
 simp only[List.length_range]at G' e;exact⟨gk',gv',o8',G',e⟩
abbrev beg(n:Nat)(h l:List Nat)(p:Nat):Bool × Nat:=(decide (p<n),at' (pick h l (decide (p<n))) p)
abbrev gu(n:Nat)(h l:List Nat):List Nat:=(List.range (2*n)).map fun p=>(itr n h l (4*n) (beg n h l p)).2
abbrev Gn(n:Nat)(h l:List Nat)(k m:Nat):Prop:=∃ p,p<k/\Met n h l (beg n h l p) (4*n) m
def FF(b:Bool):ixV (.lst [.str (PySem.Str.ofString "high"),.str (PySem.Str.ofString "low")]) (.int (if b=true then 1 else 0))=some (.str (sd !b)):=kW b
def Bn(h1:1<=n)(hn:n<=10)(N:jE h l (2*n) ks vs)(hh:∀ x,x<2*n->at' h x<2*n)(hl:∀ x,x<2*n->at' l x<2*n)(o4 o7 o8:Option D) :
  ∃ gk gv o4' o7' o8',GD gk gv 1000 (Gn n h l (2*n))/\bz (ag cl [3,5,6] (fy fr)) [4] (L (List.range (2*n))) (hst n h l ks vs o4 [] [] [] o7 o8)=some (.nx,hst n h l ks vs o4' (gu n h l) gk gv o7' o8'):=by
 have e4:aA .mul (.int 4) (.int n)=some (.int (4*n)):=bY (by decide) (by decide);have r4:=bR (n:=4*n) (by lia);rw[show((4*n:Nat):Int)=4*(n:Int) by lia]at r4
 obtain⟨σ',e,gk,gv,o4',o7',o8',rfl,G⟩:=dA (f:=ag cl [3,5,6] (fy fr)) (tg:=[4]) (xs:=List.range (2*n)) (σ:=hst n h l ks vs o4 [] [] [] o7 o8)
  (fun p σ=>∃ gk gv o4' o7' o8',σ=hst n h l ks vs o4' ((List.range p.length).map fun p=>(itr n h l (4*n) (beg n h l p)).2) gk gv o7' o8'/\GD gk gv (40*p.length) (Gn n h l p.length))
  ⟨[],[],o4,o7,o8,rfl,rfl,by simp,fun m=>by simp[aL,Gn]⟩ (by
   rintro p x q σ hx ⟨gk,gv,o4',o7',o8',rfl,G⟩;obtain⟨a1,a2⟩:=cx (g:=id) (by simpa using hx);simp only[id]at a2;subst a2
   have hb:(beg n h l p.length).2<2*n:=by
    unfold beg pick;cases decide (p.length<n)
    ·exact hl _ a1
    ·exact hh _ a1
   obtain⟨gk2,gv2,o82,G2,e2⟩:=Bd (cl:=cl) (fr:=fr) (fnd:=(List.range p.length).map fun p=>(itr n h l (4*n) (beg n h l p)).2) h1 hn N hh hl hb G (by lia) (some (.int (p.length:Nat))) o8'
   have c1:bE .ge (.int (p.length:Nat)) (.int n)=some (!decide (p.length<n)):=by
    rw[mX];congr 1;by_cases c:p.length<n
    ·simp[c]
    ·simp[c];lia
   have lk:qM (.dT ks vs) (.tup [.str (sd (decide (p.length<n))),.int (p.length:Nat)])=some (bw (beg n h l p.length).1 (beg n h l p.length).2):=by
    have:=N.2.2 (decide (p.length<n)) p.length a1;rw[show bw (beg n h l p.length).1 (beg n h l p.length).2=bw (decide (p.length<n)) (at' (pick h l (decide (p.length<n))) p.length)from rfl,<-this];rfl
   have sx:=kW (!decide (p.length<n));rw[Bool.not_not]at sx;refine⟨hst n h l ks vs (some (.int (p.length:Nat))) ((List.range (p++[p.length]).length).map fun p=>(itr n h l (4*n) (beg n h l p)).2) gk2 gv2 (some (bw (itr n h l (4*n) (beg n h l p.length)).1 (itr n h l (4*n) (beg n h l p.length)).2)) o82,?_,gk2,gv2,_,_,_,rfl,G2.mono (by simp;lia) (fun m=>?_)⟩
   ·have ok:bb [3,5,6] (.ixD (.var 3) (.tup (.cons (.ix (.lst (.cons (.cst (.str "high")) (.cons (.cst (.str "low")) .nil))) (.bi .int (.cmp .ge (.var 4) (.var 2)))) (.cons (.var 4) .nil)))) (bw (beg n h l p.length).1 (beg n h l p.length).2)=true:=rfl;simp only[aF,hst,List.set,Option.bind_some,fy,ag,evS,ev,evs,bB,List.getElem?_cons_zero,List.getElem?_cons_succ,id,c1,Option.map_some,biV,sx,lk,e4,r4]at e2 ⊢;rw[if_pos ok];simp only[Option.bind_some,e4,r4,List.getElem?_cons_zero,List.getElem?_cons_succ,id,e2,kY]
    have ml:((D.int (((itr n h l (4*n) (beg n h l p.length)).2:Nat):Int)).imm&&decide ((L (List.map (fun p=>(itr n h l (4*n) (beg n h l p)).snd) (List.range p.length))).length<most))=true:=by
     simp[D.imm,aG,most];lia
    rw[if_pos ml];simp[L,List.range_succ]
   ·simp only[Gn,List.length_append,List.length_singleton];constructor
    ·rintro(⟨j,h1,h2⟩ | h2)
     ·exact⟨j,by lia,h2⟩
     ·exact⟨p.length,by lia,h2⟩
    ·rintro⟨j,h1,h2⟩;by_cases hj:j=p.length
     ·subst hj;exact .inr h2
     ·exact .inl ⟨j,by lia,h2⟩)
 simp only[List.length_range]at G e;exact⟨gk,gv,o4',o7',o8',G.mono (by lia) (fun _=>Iff.rfl),e⟩
def yP(h1:1<=n)(hn:n<=10)(h2:h.length=2*n)(l2:l.length=2*n)(hh:∀ x,x<2*n->at' h x<2*n)(hl:∀ x,x<2*n->at' l x<2*n) :
  ∃ inner:List Nat,(∀ m,m∈inner↔m<n/\¬ Gn n h l (2*n) m)/\inner.length<=n/\∀ r:Int,cl fr [.tup (L h),.tup (L l),.lst (L inner)]=some (.int r)->evF cl (eU fr) [.tup (L h),.tup (L l)]=some (.tup [.tup (L (gu n h l)),.int r]):=by
 have e1:aA .mul (.int 2) (.int n)=some (.int (2*n)):=bY (by decide) (by decide);have r2:=bR (n:=2*n) (by lia);rw[show((2*n:Nat):Int)=2*(n:Int) by lia]at r2;have r1:=bR (n:=n) (by lia);obtain⟨ks,vs,o,N,en⟩:=x4 (cl:=cl) (fr:=fr) hn h2 l2;obtain⟨gk,gv,o4,o7,o8,G,eb⟩:=Bn (cl:=cl) (fr:=fr) h1 hn N hh hl o none none;refine⟨(List.range n).filter fun m:Nat=>!(aL gk gv (.inl (m:Int))).isSome,fun m=>?_,?_,?_⟩
 ·have:=G.2.2 m;simp[<-this]
 ·have:=List.length_filter_le (fun m:Nat=>!(aL gk gv (.inl (m:Int))).isSome) (List.range n);simpa using this
 ·intro r hr;have e6:=half (xs:=L h) (n:=n) (by rw[aG,h2]);have e7:=xH n;have ft:=jO (xs:=List.range n) (by simp;lia)
  have mc:=jK (F:=fun σ1=>((ev cl σ1 (.inD true (.var 4) (.var 6))).bind truth).bind fun k=>if k then(ev cl σ1 (.var 4)).map some else some none) (tg:=[4]) (σ:=hst n h l ks vs o4 (gu n h l) gk gv o7 o8) (g:=fun m=>.int (m:Nat)) (c:=fun m=>!(aL gk gv (.inl (m:Int))).isSome) (fun _=>rfl) (List.range n) (by
   intro x _;simp only[aF,hst,List.set,Option.bind_some,ev,List.getElem?_cons_zero,List.getElem?_cons_succ,id,xS,keyOf,Option.map_some,truth,if_true]
   cases(aL gk gv (.inl (x:Int))).isSome<;>rfl)
  simp only[evF,eU,ag,evS,ev,bB];simp[ev,e6,e7,bb,D.imm,aK,au,e1,r2];rw[en];simp[ag,evS,ev,evs,bB,e1,r2,aK,au,D.imm];simp[hst]at eb;rw[show L []=[]from rfl]at eb;rw[eb];simp[ag,evS,ev,evs,bB,r1,ft,biV,items];simp[ev,hst]at mc;rw[mc];rw[show(List.map (fun m:Nat=>D.int (m:Int)) (List.filter (fun m:Nat=>(aL gk gv (Sum.inl (m:Int))).isNone) (List.range n)))=L (List.filter (fun m:Nat=>(aL gk gv (Sum.inl (m:Int))).isNone) (List.range n))from rfl];simp at hr;simp[hr,bc,D.imm,au,aY,aW]
end
def qf [DecidableEq κ]:∀ {ks:List κ} {vs:List D} {x:κ} {d:D},aL ks vs x=some d->x∈ks
 | k::ks,v::vs,x,d,h=>by
  rw[aL]at h;by_cases e:k=x
  ·simp[e]
  ·rw[if_neg e]at h;simp[qf h]
def yL{κ:Type} [DecidableEq κ]{ks:List κ}{vs:List D}{x:κ}(h:aL ks vs x=some d):(putD ks vs x e).1=ks:=by
 unfold putD;rw[if_pos (qf h)]
abbrev HI(inner:List Nat)(hk:List Ky)(hv:List D):Prop:=hk.length=hv.length/\hk.length<=10/\∀ m∈inner,∃ v:Int,aL hk hv (.inl (m:Int))=some (.int v)
def HI.put{inner:List Nat}{hk:List Ky}{hv:List D}(H:HI inner hk hv){m:Nat}(hm:m∈inner)(v:Int):HI inner (putD hk hv (.inl (m:Int)) (.int v)).1 (putD hk hv (.inl (m:Int)) (.int v)).2:=by
 obtain⟨a,b,c⟩:=H;obtain⟨v0,h0⟩:=c m hm;refine⟨(gr a).1,by rw[yL h0];exact b,fun i hi=>?_⟩;rw[gL a];by_cases e:(.inl (m:Int):Ky)=.inl (i:Int)
 ·rw[if_pos e];exact⟨v,rfl⟩
 ·rw[if_neg e];exact c i hi
abbrev rst(n:Nat)(h l inner:List Nat)(hk:List Ky)(hv:List D)(o5 o6 o7 o8 o9:Option D):St :=
 [some (.tup (L h)),some (.tup (L l)),some (.lst (L inner)),some (.int n),some (.dK hk hv),o5,o6,o7,o8,o9]
section
def oY(e:aL hk hv (.inl (m:Int))=some (.int v)):qM (.dK hk hv) (.int (m:Nat))=some (.int v):=e
def Bq(H:HI inner hk hv)(o5 o6 o7:Option D)(keep go:Int):∃ hk' hv' o7',HI inner hk' hv'/\bz (ag cl [4] cF) [7] (L inner) (rst n h l inner hk hv o5 o6 o7 (some (.int keep)) (some (.int go)))=some (.nx,rst n h l inner hk' hv' o5 o6 o7' (some (.int keep)) (some (.int go))):=by
 obtain⟨σ',e,hk',hv',o7',rfl,H'⟩:=dA (f:=ag cl [4] cF) (tg:=[7]) (xs:=inner) (σ:=rst n h l inner hk hv o5 o6 o7 (some (.int keep)) (some (.int go)))
  (fun p σ=>∃ hk' hv' o7',σ=rst n h l inner hk' hv' o5 o6 o7' (some (.int keep)) (some (.int go))/\HI inner hk' hv') ⟨hk,hv,o7,rfl,H⟩ (by
   rintro p x q σ hx ⟨hk',hv',o7',rfl,H'⟩
   have hm:x∈inner:=by rw[hx];simp
   obtain⟨v,hv0⟩:=H'.2.2 x hm;have lk:=oY hv0;by_cases c:v=go
   ·refine⟨_,?_,_,_,some (.int (x:Nat)),rfl,H'.put hm keep⟩
    have cc:(v == go)=true:=by simp[c]
    have u:df (.dK hk' hv') (.int (x:Nat)) (.int keep)=some (.dK (putD hk' hv' (.inl (x:Int)) (.int keep)).1 (putD hk' hv' (.inl (x:Int)) (.int keep)).2):=by
     dsimp only[df,keyOf];rw[Option.bind_some,if_pos (by have:=H'.2.1;unfold most;lia)]
    simp only[aF,rst,List.set,Option.bind_some,cF,ag,evS,ev,List.getElem?_cons_zero,List.getElem?_cons_succ,id,lk,dW,cc,Option.map_some,truth,if_true,D.imm,u]
   ·refine⟨_,?_,hk',hv',some (.int (x:Nat)),rfl,H'⟩
    have cc:(v == go)=false:=by simp[c]
    simp only[aF,rst,List.set,Option.bind_some,cF,ag,evS,ev,List.getElem?_cons_zero,List.getElem?_cons_succ,id,lk,dW,cc,Option.map_some,truth]
    rfl)
 exact⟨hk',hv',o7',H',e⟩
def zm(H:HI inner hk hv)(hm:m∈inner)(hxs:∀ x∈xs,x∈inner)(o6 o7 o8 o9:Option D):∃ hk' hv' o6' o7' o8' o9',HI inner hk' hv'/\bz (ag cl [4] d8) [6] (L xs) (rst n h l inner hk hv (some (.int (m:Nat))) o6 o7 o8 o9)=some (.nx,rst n h l inner hk' hv' (some (.int (m:Nat))) o6' o7' o8' o9'):=by
 obtain⟨σ',e,hk',hv',o6',o7',o8',o9',rfl,H'⟩:=dA (f:=ag cl [4] d8) (tg:=[6]) (xs:=xs) (σ:=rst n h l inner hk hv (some (.int (m:Nat))) o6 o7 o8 o9)
  (fun p σ=>∃ hk' hv' o6' o7' o8' o9',σ=rst n h l inner hk' hv' (some (.int (m:Nat))) o6' o7' o8' o9'/\HI inner hk' hv') ⟨hk,hv,o6,o7,o8,o9,rfl,H⟩ (by
   rintro p x q σ hx ⟨hk',hv',o6',o7',o8',o9',rfl,H'⟩;have hx':x∈inner:=hxs x (by rw[hx];simp);obtain⟨v,hv0⟩:=H'.2.2 x hx';obtain⟨w,hw0⟩:=H'.2.2 m hm;have lk:=oY hv0;have lw:=oY hw0;obtain⟨hk2,hv2,o72,H2,e2⟩:=Bq (cl:=cl) (n:=n) (h:=h) (l:=l) H' (some (.int (m:Nat))) (some (.int (x:Nat))) o7' w v;refine⟨_,?_,hk2,hv2,some (.int (x:Nat)),o72,some (.int w),some (.int v),rfl,H2⟩
   ·simp only[aF,rst,List.set,Option.bind_some,d8,ag,evS,ev,bB,items,List.getElem?_cons_zero,List.getElem?_cons_succ,id,lk,lw,D.imm,Bool.and_self,if_true]at e2 ⊢;rw[e2]
    rfl)
 exact⟨hk',hv',o6',o7',o8',o9',H',e⟩
def ints_map(v:Nat->Int):∀ xs:List Nat,f7 (xs.map fun m=>.int (v m))=some (xs.map v)
 | []=>rfl
 | x::r=>by simp[f7,ints_map v r]
def wH(hn:n<=10)(h2:h.length=2*n)(l2:l.length=2*n)(hi:inner.length<=n)(hin:∀ m∈inner,m<n/\at' l m∈inner/\∃ j∈inner,at' h (n+m)=n+j):∃ r:Int,evF cl dJ [.tup (L h),.tup (L l),.lst (L inner)]=some (.int r):=by
 have e6:=half (xs:=L h) (n:=n) (by rw[aG,h2]);have e7:=xH n
 obtain⟨σ1,l1,hk,hv,o5,rfl,H0,H1,H2⟩:=dA (f:=ag cl [4] eW) (tg:=[5]) (xs:=inner) (σ:=rst n h l inner [] [] none none none none none)
  (fun p σ=>∃ hk hv o5,σ=rst n h l inner hk hv o5 none none none none/\hk.length=hv.length/\hk.length<=p.length/\∀ m∈p,∃ v:Int,aL hk hv (.inl (m:Int))=some (.int v)) ⟨[],[],none,rfl,rfl,by simp,by simp⟩ (by
   rintro p x q σ hx ⟨hk,hv,o5,rfl,H0,H1,H2⟩
   have hp:p.length<10:=by
    have:=congrArg List.length hx;simp at this;lia
   have pl:=gr (x:=(.inl (x:Int):Ky)) (d:=.int (x:Nat)) H0;refine⟨_,?_,(putD hk hv (.inl (x:Int)) (.int (x:Nat))).1,(putD hk hv (.inl (x:Int)) (.int (x:Nat))).2,some (.int (x:Nat)),rfl,pl.1,by have:=pl.2;simp;lia,fun m hm=>?_⟩
   ·have u:df (.dK hk hv) (.int (x:Nat)) (.int (x:Nat))=some (.dK (putD hk hv (.inl (x:Int)) (.int (x:Nat))).1 (putD hk hv (.inl (x:Int)) (.int (x:Nat))).2):=by
     dsimp only[df,keyOf];rw[Option.bind_some,if_pos (by unfold most;lia)]
    simp only[aF,rst,List.set,Option.bind_some,eW,ag,evS,ev,List.getElem?_cons_zero,List.getElem?_cons_succ,id,D.imm,if_true,u,Option.map_some]
   ·rw[gL H0];by_cases e:(.inl (x:Int):Ky)=.inl (m:Int)
    ·rw[if_pos e];exact⟨_,rfl⟩
    ·rw[if_neg e];simp at hm;rcases hm with hm | hm
     ·exact H2 m hm
     ·exact absurd (by rw[hm]) e)
 have H:HI inner hk hv:=⟨H0,by lia,H2⟩
 obtain⟨σ2,l2',hk',hv',o5',o6',o7',o8',o9',rfl,H'⟩:=dA (f:=ag cl [4] eG) (tg:=[5]) (xs:=inner) (σ:=rst n h l inner hk hv o5 none none none none)
  (fun p σ=>∃ hk hv o5 o6 o7 o8 o9,σ=rst n h l inner hk hv o5 o6 o7 o8 o9/\HI inner hk hv) ⟨hk,hv,o5,none,none,none,none,rfl,H⟩ (by
   rintro p x q σ hx ⟨hk',hv',o5',o6',o7',o8',o9',rfl,H'⟩
   have hm:x∈inner:=by rw[hx];simp
   obtain⟨xn,ha,j,hj,hjj⟩:=hin x hm;obtain⟨hk2,hv2,o62,o72,o82,o92,H2,e2⟩:=zm (cl:=cl) (n:=n) (h:=h) (l:=l) H' hm (xs:=[at' l x,j]) (by intro y hy;simp at hy;rcases hy with rfl | rfl<;>assumption) o6' o7' o8' o9';have i1:=dh (f:=l) (x:=x) (by lia);have i2:=dh (f:=h) (x:=n+x) (by lia);rw[hjj]at i2
   have s1:((n+x:Nat):Int)=(n:Int)+x:=by lia
   have s2:((n+j:Nat):Int)-n=(j:Nat):=by lia
   rw[s1]at i2;refine⟨_,?_,hk2,hv2,some (.int (x:Nat)),o62,o72,o82,o92,rfl,H2⟩;simp only[aF,rst,List.set,Option.bind_some,eG,ag,evS,ev,evs,bB,items,List.getElem?_cons_zero,List.getElem?_cons_succ,id,i1,i2,c9,mf,s2,Option.map_some]at e2 ⊢;simp only[L,List.map_cons,List.map_nil]at e2 ⊢;rw[e2]
   rfl)
 let v:Nat->Int:=fun m=>match aL hk' hv' (.inl (m:Int))with
  | some (.int v)=>v
  | _=>0
 have mc:=fJ (F:=fun σ1=>(ev cl σ1 (.ixD (.var 4) (.var 5))).map some) (tg:=[5]) (σ:=rst n h l inner hk' hv' o5' o6' o7' o8' o9') (g:=fun m=>.int (v m)) (fun _=>rfl) inner (by
  intro x hx;obtain⟨w,hw⟩:=H'.2.2 x hx
  have vw:v x=w:=by simp only[v,hw]
  have lk:=oY hw
  simp only[aF,rst,List.set,Option.bind_some,ev,List.getElem?_cons_zero,List.getElem?_cons_succ,id,lk,Option.map_some,vw])
 have ft:=jO (xs:=inner) (by lia);refine⟨((iG (inner.map v)).length:Int),?_⟩
 have ls:biV .lenSet (.lst (inner.map fun m=>.int (v m)))=some (.int ((iG (inner.map v)).length:Int)):=by
  dsimp only[biV];rw[if_pos (by simp;lia),ints_map];rfl
 simp only[rst]at l1 l2' mc;simp only[evF,dJ,ag,evS,ev,bB];simp[ev,e6,e7,bb,D.imm,aK,au,items];rw[l1];simp[ag,evS,ev,bB,items];rw[l2'];simp[ag,evS,ev,bB,items,ft];simp[ev]at mc;rw[mc];simp[ls,bc,D.imm,aW]
end
abbrev eT(n:Nat)(f:List Nat):List Nat:=(List.range (2*n)).map fun p=>if p<n then(if at' f p<n then at' f p else p+n)else(if at' f (p-n)<n then at' f (p-n)+n else p-n)
def i6(h:p<2*n):at' (eT n f) p=if p<n then(if at' f p<n then at' f p else p+n)else(if at' f (p-n)<n then at' f (p-n)+n else p-n):=by
 unfold eT;rw[at'];rw[List.getElem?_map,List.getElem?_range h];rfl
def gz(hs:stp n h l s=s):∀ i,itr n h l i s=s
 | 0=>rfl
 | i+1=>by rw[itr,gz hs i,hs]
def ik(hs:stp n h l s=t)(ht:stp n h l t=t):∀ i,itr n h l (i+1) s=t
 | 0=>hs
 | i+1=>by rw[itr,ik hs ht i,ht]
section
def tJ(F:Frm n f)(h:p<n):at' (aV n f) p=if at' f (p+n)<n then at' f (p+n)+n else at' f (p+n)-n:=by
 rw[kr (by lia),Nat.mod_eq_of_lt (a:=p+n) (by lia)];have:=F.lt (p+n) (by lia);split
 ·rw[Nat.mod_eq_of_lt (by lia)]
 ·rw[Nat.mod_eq_sub_mod (by lia),Nat.mod_eq_of_lt (by lia)];lia
def AX(F:Frm n f)(h:n<=p)(h2:p<2*n):at' (aV n f) p=if at' f (p-n)<n then at' f (p-n)+n else at' f (p-n)-n:=by
 rw[kr (by lia),show(p+n)%(2*n)=p-n by rw[Nat.mod_eq_sub_mod (by lia),Nat.mod_eq_of_lt (by omega)];lia];have:=F.lt (p-n) (by lia);split
 ·rw[Nat.mod_eq_of_lt (by lia)]
 ·rw[Nat.mod_eq_sub_mod (by lia),Nat.mod_eq_of_lt (by lia)];lia
def tH(F:Frm n f)(hp:p<2*n):(∀ i,(itr n f (aV n f) (i+1) (beg n f (aV n f) p)).2=at' (eT n f) p)/\∀ i m,m<n->Tr n (itr n f (aV n f) i (beg n f (aV n f) p)) m->at' f (n+m)<n:=by
 rw[i6 hp];by_cases h:p<n
 ·have b0:beg n f (aV n f) p=(true,at' f p):=by simp[beg,h,pick]
  rw[b0,if_pos h];have l0:=F.lt p (by lia);by_cases c:at' f p<n
  ·have st:stp n f (aV n f) (true,at' f p)=(true,at' f p):=by
    unfold stp;rw[if_neg (by simp;lia)]
   refine⟨fun i=>by rw[gz st,if_pos c],fun i m hm t=>?_⟩;rw[gz st]at t;have:=t.1;simp at this;lia
  ·have st:stp n f (aV n f) (true,at' f p)=(false,p+n):=by
    unfold stp;rw[if_pos (by simp;lia)];show(false,at' (aV n f) ((at' f p+n)%(2*n)))=_;rw[show(at' f p+n)%(2*n)=at' f p-n by rw[Nat.mod_eq_sub_mod (by lia),Nat.mod_eq_of_lt (by lia)];lia,tJ F (by lia),show at' f p-n+n=at' f p by lia,F.inv,if_pos h]
   have s2:stp n f (aV n f) (false,p+n)=(false,p+n):=by
    unfold stp;rw[if_neg (by simp)]
   refine⟨fun i=>by rw[ik st s2,if_neg c],fun i m hm t=>?_⟩
   cases i with
   |zero=>
    have t2:=t.2;simp only[itr]at t2
    have:n+m=at' f p:=by
     rw[Nat.mod_eq_sub_mod (by lia),Nat.mod_eq_of_lt (by omega)]at t2;lia
    rw[this,F.inv];exact h
   |succ i=>
    rw[ik st s2]at t;have:=t.1;simp at this
 ·have b0:beg n f (aV n f) p=(false,at' (aV n f) p):=by simp[beg,h,pick]
  rw[b0,if_neg h,AX F (by lia) hp];have l0:=F.lt (p-n) (by lia);by_cases c:at' f (p-n)<n
  ·rw[if_pos c,if_pos c]
   have st:stp n f (aV n f) (false,at' f (p-n)+n)=(false,at' f (p-n)+n):=by
    unfold stp;rw[if_neg (by simp)]
   refine⟨fun i=>by rw[gz st],fun i m hm t=>?_⟩;rw[gz st]at t;have:=t.1;simp at this
  ·rw[if_neg c,if_neg c]
   have st:stp n f (aV n f) (false,at' f (p-n)-n)=(true,p-n):=by
    unfold stp;rw[if_pos (by simp;lia)];show(true,at' f ((at' f (p-n)-n+n)%(2*n)))=_;rw[show at' f (p-n)-n+n=at' f (p-n) by lia,Nat.mod_eq_of_lt l0,F.inv]
   have s2:stp n f (aV n f) (true,p-n)=(true,p-n):=by
    unfold stp;rw[if_neg (by simp;lia)]
   refine⟨fun i=>by rw[ik st s2],fun i m hm t=>?_⟩
   cases i with
   |zero=>
    have t2:=t.2;simp only[itr]at t2;rw[Nat.mod_eq_of_lt (by omega)]at t2
    have:n+m=at' f (p-n):=by lia
    rw[this,F.inv];lia
   |succ i=>
    rw[ik st s2]at t;have:=t.1;simp at this;lia
def uZ(h1:1<=n)(F:Frm n f):gu n f (aV n f)=eT n f:=by
 apply ED (n:=n) (by simp[gu]) (by simp[eT]);funext p;by_cases hp:p<2*n
 ·have:=(tH F hp).1 (4*n-1);rw[<-this,show 4*n-1+1=4*n by lia];simp[at',gu,hp]
 ·rw[eP (by simp[gu];lia),eP (by simp[eT];lia)]
def pB(h1:1<=n)(F:Frm n f)(hm:m<n):Gn n f (aV n f) (2*n) m↔at' f (n+m)<n:=by
 constructor
 ·rintro⟨p,hp,j,hj,t⟩;exact(tH F hp).2 j m hm t
 ·intro h;refine⟨at' f (n+m),by lia,0,by lia,?_⟩
  have b0:beg n f (aV n f) (at' f (n+m))=(true,n+m):=by simp[beg,h,pick,F.inv]
  rw[itr,b0];refine⟨by simp,?_⟩;show(n+m)%n=m;rw[Nat.add_mod_left,Nat.mod_eq_of_lt hm]
def Bx(F:Frm n f):Frm n (eT n f):=by
 have lt:∀ x,x<2*n->at' (eT n f) x<2*n:=by
  intro x hx;rw[i6 hx];have a:=F.lt x hx;have b:=F.lt (x-n) (by lia)
  repeat' split
  all_goals lia
 refine⟨by simp[eT],lt,fun x=>?_,fun x hx=>?_⟩
 ·by_cases hx:x<2*n
  ·rw[i6 (lt x hx),i6 hx];by_cases c:x<n
   ·rw[if_pos c];by_cases d:at' f x<n
    ·rw[if_pos d,if_pos d,F.inv,if_pos c]
    ·rw[if_neg d,if_neg (by lia),show x+n-n=x by lia,if_neg d]
   ·rw[if_neg c];by_cases d:at' f (x-n)<n
    ·rw[if_pos d,if_neg (by lia),show at' f (x-n)+n-n=at' f (x-n) by lia,F.inv,if_pos (by lia)];lia
    ·rw[if_neg d,if_pos (by lia),if_neg d];lia
  ·have e:at' (eT n f) x=x:=eP (by simp[eT];lia);rw[e,e]
 ·rw[i6 hx];have a:=F.no x hx;have b:=F.no (x-n) (by lia)
  repeat' split
  all_goals lia
def iD(F:Frm n f)(h:q<n):rnd n f q=if at' f q<n then at' f q else 3*n-1-at' f q:=by
 unfold rnd;rw[show rd n q=q by simp[rd,h]];rfl
def tj(F:Frm n f)(h:q<2*n):rnd n (eT n f) q=if q<n then(if at' f q<n then at' f q else 2*n-1-q)else(if at' f (2*n-1-q)<n then 2*n-1-at' f (2*n-1-q)else 2*n-1-q):=by
 unfold rnd;rw[i6 (bJ h)];by_cases c:q<n
 ·have e:rd n q=q:=by simp[rd,c]
  rw[e,if_pos c,if_pos c];by_cases d:at' f q<n
  ·rw[if_pos d,if_pos d];simp[rd,d]
  ·rw[if_neg d,if_neg d];unfold rd;rw[if_neg (by lia)];lia
 ·have e:rd n q=3*n-1-q:=by simp[rd,c]
  rw[e,if_neg c,if_neg (by lia),show 3*n-1-q-n=2*n-1-q by lia];by_cases d:at' f (2*n-1-q)<n
  ·rw[if_pos d,if_pos d];unfold rd;rw[if_neg (by lia)];lia
  ·rw[if_neg d,if_neg d];unfold rd;rw[if_pos (by omega)]
def Af(V:Val n f):Val n (eT n f):=by
 have F:=V.frm;refine⟨Bx F,fun q q' h1 h2=>?_⟩
 have X:∀ a b,a<n->b<n->at' f a<n->¬ (a<b/\b<at' f a/\(at' f a<at' f b\/n<=at' f b)):=by
  intro a b ha hb hc ⟨c1,c2,c3⟩;have:=V.nox a b (by lia) (by lia);rw[iD F ha,iD F hb,if_pos hc]at this;have lb:=F.lt b (by lia);split at this<;>lia
 rw[tj F h1,tj F h2];rintro⟨a1,a2,a3⟩;by_cases c:q<n
 ·rw[if_pos c]at a2 a3;by_cases d:at' f q<n
  ·rw[if_pos d]at a2 a3;rw[if_pos (by lia:q'<n)]at a3;have:=X q q' c (by lia) d;split at a3<;>lia
  ·rw[if_neg d]at a2 a3;by_cases c':q'<n
   ·rw[if_pos c']at a3;split at a3<;>omega
   ·rw[if_neg c']at a3;by_cases d':at' f (2*n-1-q')<n
    ·rw[if_pos d']at a3;have:=X (at' f (2*n-1-q')) q d' c (by rw[F.inv];omega);rw[F.inv]at this;lia
    ·rw[if_neg d']at a3;lia
 ·rw[if_neg c]at a2 a3;rw[if_neg (by lia:¬ q'<n)]at a3;by_cases d:at' f (2*n-1-q)<n
  ·rw[if_pos d]at a2 a3;by_cases d':at' f (2*n-1-q')<n
   ·rw[if_pos d']at a3;have:=X (at' f (2*n-1-q')) (at' f (2*n-1-q)) d' d (by rw[F.inv];omega);rw[F.inv,F.inv]at this;omega
   ·rw[if_neg d']at a3;lia
  ·rw[if_neg d]at a2 a3;omega
def r9(h1:1<=n)(hn:n<=10)(F:Frm n f)(hr:∀ inner:List Nat,inner.length<=n->(∀ m∈inner,m<n/\at' (aV n f) m∈inner/\∃ j∈inner,at' f (n+m)=n+j)->∃ r:Int,cl fr [.tup (L f),.tup (L (aV n f)),.lst (L inner)]=some (.int r)) :
  ∃ r:Int,evF cl (eU fr) [.tup (L f),.tup (L (aV n f))]=some (.tup [.tup (L (eT n f)),.int r]):=by
 have ol:(aV n f).length=2*n:=by simp[aV]
 have olt:∀ x,x<2*n->at' (aV n f) x<2*n:=fun x hx=>by
  rw[kr hx];exact Nat.mod_lt _ (by lia)
 obtain⟨inner,i1,i2,i3⟩:=yP (cl:=cl) (fr:=fr) h1 hn F.len ol F.lt olt
 have i1':∀ m,m∈inner↔m<n/\n<=at' f (n+m):=by
  intro m;rw[i1];constructor
  ·rintro⟨a,b⟩;rw[pB h1 F a]at b;exact⟨a,by lia⟩
  ·rintro⟨a,b⟩;refine⟨a,?_⟩;rw[pB h1 F a];lia
 obtain⟨r,hr⟩:=hr inner i2 (fun m hm=>by
  obtain⟨a,b⟩:=(i1' m).mp hm;have lt:=F.lt (n+m) (by lia)
  have jm:at' f (n+m)-n∈inner:=by
   rw[i1'];refine⟨by lia,?_⟩;rw[show n+(at' f (n+m)-n)=at' f (n+m) by lia,F.inv];lia
  refine⟨a,?_,_,jm,by lia⟩;rw[tJ F a,Nat.add_comm m n,if_neg (by lia)]
  exact jm)
 exact⟨r,by rw[<-uZ h1 F];exact i3 r hr⟩
end
def x5(h1:1<=n)(hn:n<=10)
 (hd:∃ ds:List Nat,jI ds [8,10 ^ 12,max 1 (n-1)]/\cl fdi [scr,.int k,.lst (L [8,10 ^ 12,max 1 (n-1)])]=some (.lst (L ds)))
 (hpl:cl fpl [.int n]=some (.tup (L (aU n))))
 (hho:∀ i:Nat,i+1<n->cl fho [.int n,.int i]=some (.tup (L (f9 n i))))
 (htx:∀ r:Int,∃ w:List Bool,w.length=2*n/\dpf 0 w=some 0/\cl ftx [.int r,.int n]=some (.str (tx w)))
 (hfr:∀ w:List Bool,w.length=2*n->dpf 0 w=some 0->∃ f:List Nat,Val n f/\cl ffr [.str (tx w)]=some (.tup (L f)))
 (hov:∀ f:List Nat,f.length=2*n->cl fov [.tup (L f)]=some (.tup (L (aV n f))))
 (hhu:∀ f:List Nat,Val n f->∃ (g:List Nat) (r:Int),Val n g/\cl fhu [.tup (L f),.tup (L (aV n f))]=some (.tup [.tup (L g),.int r])) :
  ∃ f:List Nat,Val n f/\evF cl (ig fhu fov ffr ftx fho fpl fdi) [scr,.int k,.int n]=some (.tup (L f)):=by
 obtain⟨ds,⟨dl,dd⟩,hd⟩:=hd
 match ds,dl with
 |[a,b,c],_=>
  have hc:c<max 1 (n-1):=dd 2 c _ rfl rfl
  have mx:(if(n:Int)-1 > 1 then(n:Int)-1 else 1)=((max 1 (n-1):Nat):Int):=by
   split<;>lia
  have pw:aA .pow (.int 10) (.int 12)=some (.int ((10 ^ 12:Nat):Int)):=rfl;obtain⟨w,w1,w2,w3⟩:=htx b;obtain⟨f,V,f3⟩:=hfr w w1 w2;obtain⟨g,r,V',hu⟩:=hhu f V;have ho:=hov f V.frm.len
  have tl:∀ g:List Nat,bc [] (.cst .non) (.tup (L g))=true/\(D.tup (L g)).imm=true:=fun g=>by simp[bc,D.imm,aY]
  have ret:∀ (e:E) (g:List Nat),bc [] e (.tup (L g))=true:=fun e g=>by unfold bc;rw[(tl g).2];rfl
  have start:∀ {rest:Ss} {d:D},(∃ σ,ag cl [] rest [some scr,some (.int k),some (.int n),none,some (.int (a:Nat)),some (.int (b:Nat)),some (.int (c:Nat))]=some (.rt d,σ))->evF cl ⟨3,7,[],[],.cons (.unp [4,5,6] (.call fdi (.cons (.var 0) (.cons (.var 1) (.cons (.lst (.cons (.cst (.int 8)) (.cons (.bin .pow (.cst (.int 10)) (.cst (.int 12))) (.cons (.max (.cst (.int 1)) (.bin .sub (.var 2) (.cst (.int 1)))) .nil)))) .nil))))) rest⟩ [scr,.int k,.int n]=some d:=fun {rest d} ⟨σ,h⟩ =>
   aT rfl rfl (vS (yM (aa rfl) (aa rfl) (cD (ay aq (ay (az aq aq pw) (ay ((Fj aq (az (aa rfl) aq mf)).trans (by rw[mx])) bA)))) hd) rfl rfl rfl h)
  have no:∀ {j:Nat},a≠j->∀ o,(ev cl [some scr,some (.int k),some (.int n),o,some (.int (a:Nat)),some (.int (b:Nat)),some (.int (c:Nat))] (.cmp .eq (.var 4) (.cst (.int (j:Nat)))))=some (.bl false):=fun {j} h o=>aE (aa rfl) aq (by rw[dW,beq_eq_false_iff_ne.mpr (by lia)]);have yes:∀ {j:Nat},a=j->∀ o,(ev cl [some scr,some (.int k),some (.int n),o,some (.int (a:Nat)),some (.int (b:Nat)),some (.int (c:Nat))] (.cmp .eq (.var 4) (.cst (.int (j:Nat)))))=some (.bl true):=fun {j} h o=>aE (aa rfl) aq (by rw[dW,h,beq_self_eq_true]);by_cases a0:a=0
  ·exact⟨aU n,vy n,start ⟨_,fg (aX (yes a0 _)) (aS (bx (aa rfl) hpl) (ret ..))⟩⟩
  ·by_cases a1:a=1/\1<n
   ·exact⟨f9 n c,y9 hn (by lia),start ⟨_,bL (aX (no a0 _)) (fg (aX (cI (yes a1.1 _) (aE (aa rfl) aq (by rw[nz,decide_eq_true (by lia)])))) (aS (cX (aa rfl) (aa rfl) (hho c (by lia))) (ret ..)))⟩⟩
   ·have cnd:ev cl [some scr,some (.int k),some (.int n),none,some (.int (a:Nat)),some (.int (b:Nat)),some (.int (c:Nat))] (.and (.cmp .eq (.var 4) (.cst (.int 1))) (.cmp .gt (.var 2) (.cst (.int 1))))=some (.bl false):=by
     by_cases e1:a=1
     ·exact cI (yes e1 _) (aE (aa rfl) aq (by rw[nz,decide_eq_false (by lia)]))
     ·exact gK (no e1 _)
    have on:∀ {rest:Ss} {d:D},(∃ σ,ag cl [] rest [some scr,some (.int k),some (.int n),some (.tup (L f)),some (.int (a:Nat)),some (.int (b:Nat)),some (.int (c:Nat))]=some (.rt d,σ))->∃ σ,ag cl [] (.cons (.ife (.cmp .eq (.var 4) (.cst (.int 0))) (.cons (.ret (.call fpl (.cons (.var 2) .nil))) .nil) .nil) (.cons (.ife (.and (.cmp .eq (.var 4) (.cst (.int 1))) (.cmp .gt (.var 2) (.cst (.int 1)))) (.cons (.ret (.call fho (.cons (.var 2) (.cons (.var 6) .nil)))) .nil) .nil) (.cons (.asg 3 (.call ffr (.cons (.call ftx (.cons (.var 5) (.cons (.var 2) .nil))) .nil))) rest))) [some scr,some (.int k),some (.int n),none,some (.int (a:Nat)),some (.int (b:Nat)),some (.int (c:Nat))]=some (.rt d,σ):=fun⟨σ,h⟩ =>
     ⟨σ,bL (aX (no a0 _)) (bL (aX cnd) (aD (bx (cX (aa rfl) (aa rfl) w3) f3) (by unfold bb;rw[(tl f).2];rfl) h))⟩
    by_cases a2:a=2
    ·exact⟨g,V',start (on ⟨_,fg (aX (yes a2 _)) (aS (cM (cX (aa rfl) (bx (aa rfl) ho) hu) aq rfl) (ret ..))⟩)⟩
    ·exact⟨f,V,start (on ⟨_,bL (aX (no a2 _)) (aS (aa rfl) (ret ..))⟩)⟩
def rf(im:∀ x,(g x).imm=true):∀ xs:List Nat,(∀ x∈xs,(aF tg (h x) σ).bind F=some (if c x then some (g x)else none))->cu F tg σ (xs.map h)=some ((xs.filter c).map g)
 | [],_=>rfl
 | x::r,hh=>by
  have a:=hh x (by simp);have b:=rf im r (fun y hy=>hh y (by simp[hy]));rw[List.map_cons,cu]
  cases hb:aF tg (h x) σ with
  | none=>rw[hb]at a;cases a
  |some σ1=>
   rw[hb]at a;simp only[Option.bind_some]at a ⊢;rw[a,b];cases hc:c x<;>simp[jJ,im,hc]
abbrev pr(f:List Nat)(p:Nat):D:=.tup [.int (p:Nat),.int (at' f p:Nat)]
def tm:∀ (f:List Nat) (k:Nat),cQ (k:Int) (L f)=(List.range f.length).map fun p=>.tup [.int ((k+p:Nat):Int),.int (at' f p:Nat)]
 | [],k=>rfl
 | x::r,k=>by
  rw[show L (x::r)=.int x::L r from rfl,cQ,show(k:Int)+1=((k+1:Nat):Int) by lia,tm r (k+1),List.length_cons,List.range_succ_eq_map,List.map_cons,List.map_map];congr 1;apply List.map_congr_left;intro p hp;simp at hp
  have e:at' (x::r) (p+1)=at' r p:=by simp[at',hp]
  simp[e];lia
def jA(h:f.length=m):cQ 0 (L f)=(List.range m).map (pr f):=by
 have:=tm f 0;rw[h]at this;simp only[Nat.zero_add]at this;exact this
def jU(g:β->D)(im:∀ b,(g b).imm=true)(I:List β->St->Prop):∀ (w done:List β) (σ:St),(∀ u b v σ,done++w=u++b::v->I u σ->∃ σ2,(aF tg (g b) σ).bind f=some (.nx,σ2)/\I (u++[b]) σ2)->I done σ->∃ σ',bz f tg (w.map g) σ=some (.nx,σ')/\I (done++w) σ'
 | [],done,σ,_,h=>⟨σ,rfl,by simpa using h⟩
 | b::w,done,σ,hs,h=>by
  obtain⟨σ2,h1,h3⟩:=hs done b w σ rfl h;obtain⟨σ',h4,h5⟩:=jU g im I w (done++[b]) σ2 (fun pre e post σ he=>hs pre e post σ (by simpa using he)) h3;refine⟨σ',?_,by simpa using h5⟩;rw[List.map_cons,bz,if_pos (im b)]
  cases hb:aF tg (g b) σ with
  | none=>rw[hb]at h1;cases h1
  |some σ1=>
   rw[hb]at h1;simp only[Option.bind_some]at h1 ⊢;rw[h1];exact h4
section
variable{n:Nat}
def mn(hp:p<2*n):evF cl di [.int n,.int (p:Nat)]=some (.int (rd n p:Nat)):=by
 have e1:aA .mul (.int 3) (.int n)=some (.int (3*n)):=bY (by decide) (by decide);by_cases c:p<n
 ·have c1:decide ((p:Int)<n)=true:=by simp;lia
  simp[evF,di,ag,evS,ev,fM,c1,truth,bc,D.imm,aW,rd,c]
 ·have c1:decide ((p:Int)<n)=false:=by simp;lia
  simp[evF,di,ag,evS,ev,fM,c1,truth,e1,mf,bc,D.imm,aW,rd,c];lia
def vD{T:D}{to:Nat->Nat}(hn:n<=10)(F:Frm n f)(hT:∀ p:Nat,p<2*n->ixV T (.int (p:Nat))=some (.int (to p:Nat)))(hlt:∀ p,p<2*n->to p<2*n)(inj:∀ p q,p<2*n->q<2*n->to p=to q->p=q) :
  ∃ E:List Nat,E.length=2*n/\(∀ p,p<2*n->at' E (to p)=to (at' f p))/\evF cl k6 [.tup (L f),T]=some (.tup (L E)):=by
 have ln:=half (xs:=L f) (n:=n) (by rw[aG,F.len]);have en:=jA F.len
 have e0:aA .mul (.lst [.int 0]) (.int (2*(n:Int)))=some (.lst (L (List.replicate (2*n) 0))):=by
  dsimp only[aA];rw[if_pos ⟨by lia,by unfold most;lia,by simp[most];lia⟩]
  have:(2*(n:Int)).toNat=2*n:=by lia
  rw[this];simp[L]
 obtain⟨σ',e,E,o3,o4,rfl,El,EE⟩:=jU (f:=ag cl [2] l8) (tg:=[3,4]) (pr f) (fun _=>rfl)
  (fun u σ=>∃ (E:List Nat) (o3 o4:Option D),σ=[some (.tup (L f)),some T,some (.lst (L E)),o3,o4]/\E.length=2*n/\∀ p∈u,at' E (to p)=to (at' f p))
  (List.range (2*n)) [] [some (.tup (L f)),some T,some (.lst (L (List.replicate (2*n) 0))),none,none] (by
   rintro u p v σ hu ⟨E,o3,o4,rfl,El,EE⟩
   have hp:p<2*n:=by
    have:p∈List.range (2*n):=by
     simp only[List.nil_append]at hu;rw[hu];simp
    simpa using this
   have hpu:∀ x∈u,x<2*n/\x≠p:=by
    intro x hx;simp only[List.nil_append]at hu;have nd:(List.range (2*n)).Nodup:=List.nodup_range
    have m:x∈List.range (2*n):=by rw[hu];simp[hx]
    rw[hu,List.nodup_append]at nd;exact⟨by simpa using m,nd.2.2 x hx p (by simp)⟩
   have t1:=hT p hp;have t2:=hT (at' f p) (F.lt p hp);have pt:=eR (f:=E) (i:=to p) (j:=to (at' f p)) (by have:=hlt p hp;lia);refine⟨_,?_,E.set (to p) (to (at' f p)),some (.int (p:Nat)),some (.int (at' f p:Nat)),rfl,by simp[El],fun x hx=>?_⟩
   ·simp[aF,bK,pr,l8,ag,evS,ev,t1,t2,D.imm,pt]
   ·rw[dF (by have:=hlt p hp;lia)];simp at hx;rcases hx with hx | rfl
    ·rw[if_neg (fun c=>(hpu x hx).2 (inj x p (hpu x hx).1 hp c))];exact EE x hx
    ·rw[if_pos rfl])
  ⟨_,none,none,rfl,by simp,by simp⟩
 refine⟨E,El,fun p hp=>EE p (by simp[hp]),?_⟩;simp only[evF,k6,ag,evS,ev,evs,bB];simp[ev,evs,ln,e0,aK,aY,fF,en];rw[e];simp[ag,evS,ev,biV,items,bc,D.imm,aY,aW]
def rj(hn:n<=10)(F:Frm n f)(hpo:∀ xs:List D,cl fpo [.tup xs]=some (.int (xs.length / 2)))(hrp:∀ p:Nat,p<2*n->cl frp [.int n,.int (p:Nat)]=some (.int (rd n p:Nat)))
 (hm:∃ E:List Nat,E.length=2*n/\(∀ p,p<2*n->at' E (rd n p)=rd n (at' f p))/\cl fm [.tup (L f),.lst (L (cA n))]=some (.tup (L E))) :
  ∃ E:List Nat,E.length=2*n/\(∀ q,q<2*n->at' E q=rnd n f q)/\evF cl (gc fm frp fpo) [.tup (L f)]=some (.tup (L E)):=by
 obtain⟨E,El,EE,hm⟩:=hm;refine⟨E,El,fun q hq=>?_,?_⟩
 ·have:=EE (rd n q) (bJ hq);rw[cW hq]at this;exact this
 ·have e1:aA .mul (.int 2) (.int n)=some (.int (2*n)):=bY (by decide) (by decide);have r2:=bR (n:=2*n) (by lia);rw[show((2*n:Nat):Int)=2*(n:Int) by lia]at r2;have ft:=jO (xs:=List.range (2*n)) (by simp;lia);have po:=hpo (L f);rw[aG,F.len,show(((2*n:Nat):Int) / 2)=(n:Int) by lia]at po
  have mc:=fJ (F:=fun σ1=>(ev cl σ1 (.call frp (.cons (.var 1) (.cons (.var 2) .nil)))).map some) (tg:=[2]) (σ:=[some (.tup (L f)),some (.int n),none]) (g:=fun p=>.int (rd n p:Nat)) (fun _=>rfl) (List.range (2*n)) (by
   intro x hx;simp at hx;have:=hrp x hx
   simp[aF,ev,evs,this])
  rw[yy,show(List.range (2*n)).map (fun p=>rd n p)=cA n from rfl]at mc;simp only[evF,gc,ag,evS,ev,evs,bB];simp[ev,evs,po,bb,D.imm,e1,r2,ft];simp[ev,evs]at mc;rw[mc];simp[hm,bc,D.imm,aY,aW]
end
structure Op(r:Nat->Nat)(k:Nat)(W:List Nat):Prop where
 up:W.Pairwise (·<·)
 mem:∀ p,p∈W↔p<k/\k<=r p
section
def Op.push(O:Op r k W)(inv:∀ q,q<m->r (r q)=q)(hk:k<m)(h:k<r k):Op r (k+1) (W++[k]):=by
 refine⟨?_,fun p=>?_⟩
 ·rw[List.pairwise_append];exact⟨O.up,by simp,fun a ha b hb=>by simp at hb;have:=(O.mem a).mp ha;lia⟩
 ·simp only[List.mem_append,List.mem_singleton,O.mem];constructor
  ·rintro(⟨a,b⟩ | rfl)
   ·refine⟨by lia,?_⟩;by_cases c:r p=k
    ·have:=inv p (by lia);rw[c]at this;lia
    ·lia
   ·lia
  ·rintro⟨a,b⟩;by_cases c:p=k
   ·exact .inr c
   ·exact .inl ⟨by lia,by lia⟩
end
section
def rM(h1:1<=n)(hn:n<=10)(V:Val n f)(hpo:∀ xs:List D,cl fo [.tup xs]=some (.int (xs.length / 2)))(hc:cl fc [.int n]=some (.bl true))(hp:cl fp [.tup (L f)]=some (.bl true))
 (hi:∃ E:List Nat,E.length=2*n/\(∀ q,q<2*n->at' E q=rnd n f q)/\cl fi [.tup (L f)]=some (.tup (L E)))
 (hu:∀ E:List Nat,E.length=2*n->(∀ q,q<2*n->at' E (at' E q)=q)->(∀ q,q<2*n->at' E q≠q)->(∀ q q',q<2*n->q'<2*n->¬ (q<q'/\q'<at' E q/\at' E q<at' E q'))->(∀ q,q<2*n->at' E q<2*n)->cl fu [.tup (L E)]=some (.bl true)) :
  evF cl (fW fu fi fp fc fo) [.tup (L f)]=some (.bl true):=by
 have F:=V.frm;obtain⟨E,El,Ea,hi⟩:=hi;have rl:∀ q,q<2*n->rnd n f q<2*n:=fun q hq=>bJ (F.lt _ (bJ hq))
 have hu:=hu E El (fun q hq=>by
   rw[Ea q hq,Ea _ (rl q hq)];unfold rnd
   rw[cW (F.lt _ (bJ hq)),F.inv,cW hq]) (fun q hq e=>by
   rw[Ea q hq]at e;unfold rnd at e;have:=congrArg (rd n) e;rw[cW (F.lt _ (bJ hq))]at this
   exact F.no _ (bJ hq) this) (fun q q' h h'=>by
   rw[Ea q h,Ea q' h']
   exact V.nox q q' h h') (fun q hq=>by rw[Ea q hq];exact rl q hq)
 have e1:aA .mul (.int 2) (.int n)=some (.int (2*n)):=bY (by decide) (by decide);have ln:=half (xs:=L f) (n:=n) (by rw[aG,F.len]);have po:=hpo (L f);rw[aG,F.len,show(((2*n:Nat):Int) / 2)=(n:Int) by lia]at po;have en:=jA F.len
 have ft:fits ((List.range (2*n)).map (pr f))=some ((List.range (2*n)).map (pr f)):=by
  unfold fits;rw[if_pos (by simp[most];lia)]
 have mc:=rf (F:=fun σ1=>((ev cl σ1 (.cmp .eq (.var 3) (.var 4))).bind truth).bind fun k=>if k then(ev cl σ1 (.var 3)).map some else some none) (tg:=[3,4]) (σ:=[some (.tup (L f)),some (.int n),none,none,none]) (h:=pr f) (g:=fun p=>.int (p:Nat)) (c:=fun _=>false) (fun _=>rfl) (List.range (2*n)) (by
  intro x hx;simp at hx;have c2:((x:Int) == (at' f x:Nat))=false:=beq_eq_false_iff_ne.mpr (by have:=F.no x hx;lia)
  simp[aF,bK,pr,ev,dW,c2,truth])
 rw[show(List.range (2*n)).filter (fun _=>false)=[]from List.filter_eq_nil_iff.mpr (by simp),List.map_nil]at mc
 have ne0:bE .ne (.int (2*(n:Int))) (.int (2*(n:Int)))=some false:=by
  rw[uR];simp
 simp only[evF,fW,ag,evS,ev,evs,bB];simp[ev,evs,po,bb,D.imm,ln,e1,ne0,hc,hp,truth,ag,evS,bB,fF,en,ft];simp[ev]at mc;rw[mc];simp[ag,evS,ev,evs,aK,au,hi,hu,truth,bc,D.imm,aW,avE]
def mi(h:cl fi [x]=some (.bl true)):evF cl (et fi) [x]=some .non:=by
 simp[evF,et,ag,evS,ev,evs,h,truth,aW]
abbrev thr(n:Nat)(f:List Nat):Nat:=((List.range n).filter fun p=>decide (n<=at' f p)).length
def Ax(F:Frm n f):f.take n=(List.range n).map (at' f):=by
 have hl:=F.len;apply List.ext_getElem?;intro i;by_cases hi:i<n
 ·rw[List.getElem?_take_of_lt hi,gd (by lia)];simp[hi]
 ·rw[List.getElem?_eq_none (by simp;lia),List.getElem?_eq_none (by simp;lia)]
end
def iF{β:Type}{F:St->Option (Option D)}{tg:List Nat}{σ:St}{h g:β->D}(im:∀ x,(g x).imm=true):∀ xs:List β,(∀ x∈xs,(aF tg (h x) σ).bind F=some (some (g x)))->cu F tg σ (xs.map h)=some (xs.map g)
 | [],_=>rfl
 | x::r,hh=>by
  have a:=hh x (by simp);have b:=iF im r (fun y hy=>hh y (by simp[hy]));rw[List.map_cons,cu]
  cases hb:aF tg (h x) σ with
  | none=>rw[hb]at a;cases a
  |some σ1=>
   rw[hb]at a;simp only[Option.bind_some]at a ⊢;rw[a,b];simp[jJ,im]
def pb(x:Bool):bE .ne (.bl x) (.bl x)=some false:=by cases x<;>rfl
def zI(x:Bool):bE .eq (.bl x) (.bl x)=some true:=by cases x<;>rfl
section
def ng(hN:(match d with | .non=>some (D.bl (!false)) | .dK _ _=>none | .dT _ _=>none | _=>some (.bl false))=some (D.bl false))(hb:fN .bool d=some kb)(hi:fN .int d=some ki)(hl:fN .list d=some kl)(ht:fN .tuple d=some kt)
 (k:ag cl [] r [some d,some d,none,none]=res):ag cl [] (.cons (.ife (.isN false (.var 1)) (.cons (.ret (.isN false (.var 0))) .nil) .nil) (.cons (.ife (.or (.cmp .ne (.isi (.var 0) .bool) (.isi (.var 1) .bool)) (.cmp .ne (.isi (.var 0) .int) (.isi (.var 1) .int))) (.cons (.ret (.cst (.bl false))) .nil) .nil) (.cons (.ife (.or (.cmp .ne (.isi (.var 0) .list) (.isi (.var 1) .list)) (.cmp .ne (.isi (.var 0) .tuple) (.isi (.var 1) .tuple))) (.cons (.ret (.cst (.bl false))) .nil) .nil) r))) [some d,some d,none,none]=res :=
 bL (aX (Fi hN (aa rfl))) (bL (aX (uG (aE (cP (aa rfl) hb) (cP (aa rfl) hb) (pb _)) (aE (cP (aa rfl) hi) (cP (aa rfl) hi) (pb _)))) (bL (aX (uG (aE (cP (aa rfl) hl) (cP (aa rfl) hl) (pb _)) (aE (cP (aa rfl) ht) (cP (aa rfl) ht) (pb _)))) k))
def jL(hN:(match d with | .non=>some (D.bl (!false)) | .dK _ _=>none | .dT _ _=>none | _=>some (.bl false))=some (D.bl false))(hb:fN .bool d=some kb)(hi:fN .int d=some ki)(hl:fN .list d=some false)(ht:fN .tuple d=some false)(hs:fN .str d=some ks)(he:bE .eq d d=some true):evF cl (de fs) [d,d]=some (.bl true) :=
 aT rfl rfl (ng hN hb hi hl ht (fg (aX (cI (dI (cP (aa rfl) hl)) (dI (cP (aa rfl) ht)))) (aS (cI (aE (cP (aa rfl) hs) (cP (aa rfl) hs) (zI _)) (aE (aa rfl) (aa rfl) he)) rfl)))
end
def same_int(a:Int):evF cl (de fs) [.int a,.int a]=some (.bl true):=jL rfl rfl rfl rfl rfl rfl (by rw[dW,beq_self_eq_true])
def l6:∀ xs:List D,dY xs xs=xs.map fun x=>.tup [x,x]
 | []=>rfl
 | x::r=>by simp[dY,l6 r]
def wd:∀ xs:List β,dE (xs.map fun _=>D.bl true)=some (xs.map fun _=>true)
 | []=>rfl
 | x::r=>by simp[dE,wd r]
def pY{fs:Nat}{d:D}{xs:List D}(hd:d=.tup xs\/d=.lst xs)(hl:xs.length<=1000)(h:∀ x∈xs,cl fs [x,x]=some (.bl true)):evF cl (de fs) [d,d]=some (.bl true):=by
 have al:biV .all (.lst (xs.map fun _=>.bl true))=some (.bl true):=by
  simp only[biV,wd];simp
 have mc:=iF (F:=fun σ1=>(ev cl σ1 (.call fs (.cons (.var 2) (.cons (.var 3) .nil)))).map some) (tg:=[2,3]) (σ:=[some d,some d,none,none]) (h:=fun x=>.tup [x,x]) (g:=fun _=>.bl true) (fun _=>rfl) xs (by
  intro x hx;show(ev cl [some d,some d,some x,some x] (.call fs (.cons (.var 2) (.cons (.var 3) .nil)))).map some=_;rw[cX (aa rfl) (aa rfl) (h x hx)]
  rfl)
 have it:items d=some xs:=by rcases hd with rfl | rfl<;>rfl
 have ln:biV .len d=some (.int xs.length):=by rcases hd with rfl | rfl<;>rfl
 have lq:bE .eq (.int (xs.length:Int)) (.int (xs.length:Int))=some true:=by simp[dW]
 have lz:(dY xs xs).length<=most:=by rw[l6,List.length_map];unfold most;lia
 rw[<-l6]at mc;have tl:∀ {res:Option (Out × St)},some (Out.rt (.bl true),[some d,some d,none,none])=res->ag cl [] (.cons (.ret (.and (.cmp .eq (.bi .len (.var 0)) (.bi .len (.var 1))) (.bi .all (.compA (.call fs (.cons (.var 2) (.cons (.var 3) .nil))) [2,3] (.zip (.var 0) (.var 1)))))) .nil) [some d,some d,none,none]=res:=fun e=>(aS (cI (aE (aO (aa rfl) ln) (aO (aa rfl) ln) lq) (aO (dO (ph (aa rfl) (aa rfl) it it rfl) lz mc) al)) rfl).trans e;rcases hd with rfl | rfl
 ·exact aT rfl rfl (ng rfl rfl rfl rfl rfl (bL (aX (cI (dI (k:=false) (cP (aa rfl) rfl)) (dI (k:=true) (cP (aa rfl) rfl)))) (tl rfl)))
 ·exact aT rfl rfl (ng rfl rfl rfl rfl rfl (bL (aX (gK (dI (k:=true) (cP (aa rfl) rfl)))) (tl rfl)))
end RM
set_option maxHeartbeats 1000000
namespace RM
open RL RT
def wK(g:β->D)(im:∀ b,(g b).imm=true)(I:List β->St->Prop):∀ (w done:List β) (σ:St),(∀ u b v σ,done++w=u++b::v->I u σ->(∃ σ2,(aF tg (g b) σ).bind f=some (.nx,σ2)/\I (u++[b]) σ2)\/(B/\∃ σ2,(aF tg (g b) σ).bind f=some (.rt d,σ2)))->I done σ->(∃ σ',bz f tg (w.map g) σ=some (.nx,σ')/\I (done++w) σ')\/(B/\∃ σ',bz f tg (w.map g) σ=some (.rt d,σ'))
 | [],done,σ,_,h=>.inl ⟨σ,rfl,by simpa using h⟩
 | b::w,done,σ,hs,h=>by
  rcases hs done b w σ rfl h with⟨σ2,h1,h3⟩ | ⟨hB,σ2,h1⟩
  ·have go:∀ {r:Option (Out × St)},bz f tg (w.map g) σ2=r->bz f tg ((b::w).map g) σ=r:=fun {r} e=>by
    rw[List.map_cons,bz,if_pos (im b)]
    cases hb:aF tg (g b) σ with
    | none=>rw[hb]at h1;cases h1
    |some σ1=>
     rw[hb]at h1;simp only[Option.bind_some]at h1 ⊢;rw[h1];exact e
   rcases wK (d:=d) (B:=B) g im I w (done++[b]) σ2 (fun pre e post σ he=>hs pre e post σ (by simpa using he)) h3 with⟨σ',h4,h5⟩ | ⟨hB,σ',h4⟩
   ·exact .inl ⟨σ',go h4,by simpa using h5⟩
   ·exact .inr ⟨hB,σ',go h4⟩
  ·refine .inr ⟨hB,σ2,?_⟩;rw[List.map_cons,bz,if_pos (im b)]
   cases hb:aF tg (g b) σ with
   | none=>rw[hb]at h1;cases h1
   |some σ1=>
    rw[hb]at h1;simp only[Option.bind_some]at h1 ⊢;rw[h1];rfl
def vV(hi:(σ[i]?).bind id=some (.lst (xs++[.int p])))(h:ev cl (σ.set i (some (.lst xs))) e=some (.int q))(k:ag cl M (.cons (.ife (.cst (.bl (decide (p=q)))) b a) r) (σ.set i (some (.lst xs)))=res):ag cl M (.cons (.ifp i e a b) r) σ=res:=by
 have l:evS cl M (.ifp i e a b) σ=if decide (p=q)=true then ag cl M b (σ.set i (some (.lst xs)))else ag cl M a (σ.set i (some (.lst xs))):=by
  rw[evS,hi,Option.bind_some];show((xs++[D.int p])[(xs++[D.int p]).length-1]?).bind _=_;rw[show(xs++[D.int p])[(xs++[D.int p]).length-1]?=some (.int p) by simp,Option.bind_some,List.dropLast_concat,h];rfl
 have r':evS cl M (.ife (.cst (.bl (decide (p=q)))) b a) (σ.set i (some (.lst xs)))=if decide (p=q)=true then ag cl M b (σ.set i (some (.lst xs)))else ag cl M a (σ.set i (some (.lst xs))):=by
  rw[evS,aq];rfl
 rw[ag,r',<-l,<-ag]at k;exact k
abbrev Nx(r:Nat->Nat)(m:Nat):Prop:=∀ q q',q<q'->q'<r q->r q<m->¬ (r q<r q'\/r q'=q')
structure Oq(r:Nat->Nat)(k:Nat)(W:List Nat):Prop extends Op r k W where
 nx:Nx r k
 al:∀ q q',q<q'->q'<k->k<=r q->r q'≠q'
section
def Oq.push(O:Oq r k W)(inv:∀ q,q<m->r (r q)=q)(hk:k<m)(h:k<r k):Oq r (k+1) (W++[k]) where
 toOp:=O.toOp.push inv hk h
 nx:=fun q q' h1 h2 h3=>by
  by_cases c:r q=k
  ·exfalso;have:=inv q (by lia);rw[c]at this;lia
  ·exact O.nx q q' h1 h2 (by lia)
 al:=fun q q' h1 h2 h3=>by
  by_cases c:q'=k
  ·subst c;lia
  ·exact O.al q q' h1 (by lia) (by lia)
def Oq.alone(O:Oq r k [])(inv:∀ q,q<m->r (r q)=q)(hk:k<m)(h:r k=k):Oq r (k+1) []:=by
 have no:∀ q,q<k->k<=r q->False:=fun q h1 h2=>by
  have:=(O.mem q).mpr ⟨h1,h2⟩;cases this
 refine⟨⟨.nil,fun p=>⟨fun h=>(by cases h),fun⟨a,b⟩=>?_⟩⟩,fun q q' h1 h2 h3=>?_,fun q q' h1 h2 h3=>?_⟩
 ·by_cases c:p=k
  ·subst c;lia
  ·exact(no p (by lia) (by lia)).elim
 ·by_cases c:r q=k
  ·exfalso;have:=inv q (by lia);rw[c,h]at this;lia
  ·exact O.nx q q' h1 h2 (by lia)
 ·exact(no q (by lia) (by lia)).elim
def Oq.pop(O:Oq r k (W0++[r k]))(inv:∀ q,q<m->r (r q)=q)(hk:k<m)(h:r k<k):Oq r (k+1) W0:=by
 have up:=O.up;rw[List.pairwise_append]at up;refine⟨⟨up.1,fun p=>?_⟩,fun q q' h1 h2 h3=>?_,fun q q' h1 h2 h3=>?_⟩
 ·constructor
  ·intro hp;have lt:=up.2.2 p hp (r k) (by simp);have:=(O.mem p).mp (by simp[hp]);refine⟨by lia,?_⟩;by_cases c:r p=k
   ·have i:=inv p (by lia);rw[c]at i;lia
   ·lia
  ·rintro⟨a,b⟩
   have pk:p≠k:=by rintro rfl;lia
   have:=(O.mem p).mpr ⟨by lia,by lia⟩;simp at this;rcases this with h | h
   ·exact h
   ·rw[h,inv k hk]at b;lia
 ·by_cases c:r q=k
  ·have i:=inv q (by lia);rw[c]at i;subst i;rintro(z | z)
   ·have mq:=(O.mem q').mpr ⟨by lia,by lia⟩;simp at mq;rcases mq with mq | mq
    ·have:=up.2.2 q' mq (r k) (by simp);lia
    ·lia
   ·exact O.al (r k) q' h1 (by lia) (by lia) z
  ·exact O.nx q q' h1 h2 (by lia)
 ·by_cases c:q'=k
  ·subst c;lia
  ·exact O.al q q' h1 (by lia) (by lia)
end
def tD{cl:Cl}{m:Nat}{E:List Nat}(hm:m<=1000)(El:E.length=m)(inv:∀ q,q<m->at' E (at' E q)=q)(lt:∀ q,q<m->at' E q<m):∃ b:Bool,evF cl dM [.tup (L E)]=some (.bl b)/\(b=true->Nx (at' E) m)/\(Nx (at' E) m->b=true):=by
 have en:=jA El
 have st:=wK (B:=¬ Nx (at' E) m) (f:=ag cl [1] bN) (tg:=[2,3]) (d:=.bl false) (pr E) (fun _=>rfl)
  (fun u σ=>∃ (W:List Nat) (o2 o3:Option D),σ=[some (.tup (L E)),some (.lst (L W)),o2,o3]/\Oq (at' E) u.length W/\W.length<=u.length)
  (List.range m) [] [some (.tup (L E)),some (.lst (L [])),none,none] (by
   rintro u p v σ hu ⟨W,o2,o3,rfl,O,Wl⟩;obtain⟨hk,hp⟩:=cx (g:=id) (by simpa using hu);simp only[id]at hp;subst hp
   have ml:(L W).length<most:=by rw[aG];unfold most;lia
   by_cases c:u.length<at' E u.length
   ·refine .inl ⟨_,show ag cl [1] bN [some (.tup (L E)),some (.lst (L W)),some (.int (u.length:Nat)),some (.int (at' E u.length:Nat))]=some (.nx,_)from iz (aX (aE (k:=true) (aa rfl) (aa rfl) (by rw[nz,decide_eq_true (by lia)]))) (vB (aa rfl) rfl rfl ml bo) bo,W++[u.length],some (.int (u.length:Nat)),some (.int (at' E u.length:Nat)),?_,?_,?_⟩
    ·rw[dG];rfl
    ·rw[List.length_append];exact O.push inv hk c
    ·simp;lia
   ·have cg:(ev cl [some (.tup (L E)),some (.lst (L W)),some (.int (u.length:Nat)),some (.int (at' E u.length:Nat))] (.cmp .gt (.var 3) (.var 2))).bind truth=some false:=aX (aE (k:=false) (aa rfl) (aa rfl) (by rw[nz,decide_eq_false (by lia)]));by_cases c2:at' E u.length=u.length
    ·have ce:(ev cl [some (.tup (L E)),some (.lst (L W)),some (.int (u.length:Nat)),some (.int (at' E u.length:Nat))] (.cmp .eq (.var 3) (.var 2))).bind truth=some true:=aX (aE (k:=true) (aa rfl) (aa rfl) (by rw[dW,c2,beq_self_eq_true]))
     cases W with
     |nil=>
      exact .inl ⟨_,show ag cl [1] bN [some (.tup (L E)),some (.lst (L [])),some (.int (u.length:Nat)),some (.int (at' E u.length:Nat))]=some (.nx,_)from jG cg (iz ce (bL (by rw[aa rfl];rfl) bo) bo) bo,[],_,_,rfl,by rw[List.length_append];exact O.alone inv hk c2,by simp⟩
     |cons w W=>
      exact .inr ⟨fun N=>by
       obtain⟨w1,w2⟩:=(O.mem w).mp (List.mem_cons_self ..)
       have wk:at' E w≠u.length:=fun z=>by
        have:=inv w (by lia);rw[z,c2]at this;lia
       exact N w u.length w1 (by lia) (lt w (by lia)) (.inr c2),_,show ag cl [1] bN [some (.tup (L E)),some (.lst (L (w::W))),some (.int (u.length:Nat)),some (.int (at' E u.length:Nat))]=some (.rt (.bl false),_)from k8 cg (fg ce (fg (by rw[aa rfl];rfl) (aS aq rfl)))⟩
    ·have ce:(ev cl [some (.tup (L E)),some (.lst (L W)),some (.int (u.length:Nat)),some (.int (at' E u.length:Nat))] (.cmp .eq (.var 3) (.var 2))).bind truth=some false:=aX (aE (k:=false) (aa rfl) (aa rfl) (by rw[dW,beq_eq_false_iff_ne.mpr (by lia)]));have m1:at' E u.length∈W:=(O.mem _).mpr ⟨by lia,by rw[inv _ hk];exact Nat.le_refl _⟩;have ne:W≠[]:=List.ne_nil_of_mem m1;have dl:=List.dropLast_concat_getLast ne;generalize W.getLast ne=z at dl;generalize W.dropLast=W0 at dl;subst dl
     have hi:(([some (D.tup (L E)),some (.lst (L (W0++[z]))),some (.int (u.length:Nat)),some (.int (at' E u.length:Nat))]:St)[1]?).bind id=some (.lst (L W0++[.int (z:Nat)])):=by rw[dG];rfl
     by_cases c3:z=at' E u.length
     ·refine .inl ⟨_,show ag cl [1] bN [some (.tup (L E)),some (.lst (L (W0++[z]))),some (.int (u.length:Nat)),some (.int (at' E u.length:Nat))]=some (.nx,_)from jG cg (jG ce (vV hi (aa rfl) (iz (by rw[aq,decide_eq_true (by lia)];rfl) bo bo)) bo) bo,W0,_,_,rfl,?_,?_⟩
      ·rw[List.length_append];subst c3;exact O.pop inv hk (by lia)
      ·simp at Wl ⊢;lia
     ·exact .inr ⟨fun N=>by
       have up:=O.up;rw[List.pairwise_append]at up
       have m0:at' E u.length∈W0:=by
        rcases List.mem_append.mp m1 with h | h
        ·exact h
        ·exact absurd (List.mem_singleton.mp h).symm c3
       have lz:=up.2.2 _ m0 z (by simp);have zz:=(O.mem z).mp (by simp)
       have zk:at' E z≠u.length:=fun q=>by
        have:=inv z (by lia);rw[q]at this;exact c3 this.symm
       have i:=inv u.length hk
       exact N (at' E u.length) z lz (by rw[i];exact zz.1) (by rw[i];exact hk) (.inl (by rw[i];lia)),_,show ag cl [1] bN [some (.tup (L E)),some (.lst (L (W0++[z]))),some (.int (u.length:Nat)),some (.int (at' E u.length:Nat))]=some (.rt (.bl false),_)from k8 cg (k8 ce (vV hi (aa rfl) (k8 (by rw[aq,decide_eq_false (by lia)];rfl) (aS aq rfl))))⟩)
  ⟨[],none,none,rfl,⟨⟨by simp,by simp⟩,fun q q' _ _ h=>absurd h (Nat.not_lt_zero _),fun q q' _ h=>absurd h (Nat.not_lt_zero _)⟩,by simp⟩
 rw[<-en]at st
 rcases st with⟨σ',e,W,o2,o3,rfl,O,_⟩ | ⟨nN,σ',e⟩
 ·refine⟨true,aT rfl rfl (gP (cD bA) rfl (fK (mw (aa rfl) rfl) e (aS aq rfl))),fun _=>?_,fun _=>rfl⟩;have:=O.nx;rw[List.nil_append,List.length_range]at this;exact this
 ·exact⟨false,aT rfl rfl (gP (cD bA) rfl (Ae (mw (aa rfl) rfl) e)),(fun h=>by cases h),fun N=>absurd N nN⟩
end RM
set_option maxHeartbeats 1000000
namespace RM
open RL RT
abbrev xi(xs:List Int)(p:Nat):Int:=(xs[p]?).getD 0
abbrev nb(xs:List Int)(p:Nat):Bool:=decide (0<=xi xs p/\xi xs p<xs.length)&&decide (xi xs (xi xs p).toNat=p)
def zS(h:p<xs.length):ixV (.tup (LI xs)) (.int (p:Nat))=some (.int (xi xs p)):=by
 show dz _ _=_;rw[jj];simp[LI,xi,h]
def qC(xs:List Int):biV .len (.tup (LI xs))=some (.int (xs.length:Nat)):=congrArg (fun n:Nat=>some (D.int n)) (vn xs)
def bls(g:β->Bool):∀ xs:List β,dE (xs.map fun x=>D.bl (g x))=some (xs.map g)
 | []=>rfl
 | x::r=>by rw[List.map_cons,dE,bls g r];rfl
def As(g:β->Bool)(xs:List β):biV .all (.lst (xs.map fun x=>D.bl (g x)))=some (.bl (xs.all g)):=by
 show(dE (xs.map fun x=>D.bl (g x))).map _=_;rw[bls,Option.map_some,List.all_map];rfl
section
def vL(hnum:∀ i:Int,cl fn [.int i]=some (.bl true))(hp:p<xs.length):evF cl (eK fn) [.tup (LI xs),.int (p:Nat)]=some (.bl (nb xs p)):=by
 unfold nb;have a1:ev cl [some (.tup (LI xs)),some (.int (p:Nat)),some (.int (xi xs p))] (.call fn (.cons (.var 2) .nil))=some (.bl true):=bx (aa rfl) (hnum _);have as:∀ {res:Option (Out × St)} {r:Ss},ag cl [] r [some (.tup (LI xs)),some (.int (p:Nat)),some (.int (xi xs p))]=res->ag cl [] (.cons (.asg 2 (.ix (.var 0) (.var 1))) r) [some (.tup (LI xs)),some (.int (p:Nat)),none]=res:=fun h=>aD (cM (aa rfl) (aa rfl) (zS hp)) rfl h;by_cases c:0<=xi xs p/\xi xs p<xs.length
 ·rw[decide_eq_true c,Bool.true_and];obtain⟨j,hj⟩:=Int.eq_ofNat_of_zero_le c.1;rw[hj]at c as a1 ⊢;have i2:=zS (xs:=xs) (p:=j) (by lia)
  exact aT rfl rfl (as (aS (cI a1 (cI (sv (k:=true) aq (aa rfl) (aO (aa rfl) (qC xs)) (by rw[zl,decide_eq_true c.1]) (by rw[fM,decide_eq_true c.2])) (aE (cM (aa rfl) (aa rfl) i2) (aa rfl) (by
   rw[dW,Int.toNat_natCast]
   congr 1)))) rfl))
 ·rw[decide_eq_false c,Bool.false_and];by_cases c1:0<=xi xs p
  ·exact aT rfl rfl (as (aS (cI a1 (gK (sv (k:=false) aq (aa rfl) (aO (aa rfl) (qC xs)) (by rw[zl,decide_eq_true c1]) (by rw[fM,decide_eq_false (fun z=>c ⟨c1,z⟩)])))) rfl))
  ·exact aT rfl rfl (as (aS (cI a1 (gK (xW aq (aa rfl) (by rw[zl,decide_eq_false c1])))) rfl))
def kN(hm:xs.length<=1000)(hb:∀ p:Nat,p<xs.length->cl fb [.tup (LI xs),.int (p:Nat)]=some (.bl (nb xs p))):evF cl (eM fb) [.tup (LI xs)]=some (.bl ((List.range xs.length).all (nb xs))):=by
 have mc:=iF (F:=fun σ1=>(ev cl σ1 (.call fb (.cons (.var 0) (.cons (.var 1) .nil)))).map some) (tg:=[1]) (σ:=[some (.tup (LI xs)),none]) (h:=fun p=>.int (p:Nat)) (g:=fun p=>.bl (nb xs p)) (fun _=>rfl) (List.range xs.length) (by
  intro p hp;show(ev cl [some (.tup (LI xs)),some (.int (p:Nat))] (.call fb (.cons (.var 0) (.cons (.var 1) .nil)))).map some=_;rw[cX (aa rfl) (aa rfl) (hb p (List.mem_range.mp hp))]
  rfl)
 exact aT rfl rfl (aS (cI (cP (aa rfl) rfl) (aO (dO (eZ (aO (aa rfl) (qC xs)) (bR hm)) (by rw[aG,List.length_range];unfold most;lia) mc) (As _ _))) rfl)
def EJ(f:List Nat):L f=LI (f.map Int.ofNat):=by unfold L LI;rw[List.map_map];rfl
def lQ(len:h.length=m)(lt:∀ q,q<m->at' h q<m)(inv:∀ q,q<m->at' h (at' h q)=q):(List.range (h.map Int.ofNat).length).all (nb (h.map Int.ofNat))=true:=by
 have x1:∀ q,q<m->xi (h.map Int.ofNat) q=(at' h q:Nat):=fun q hq=>by simp[xi,at',show q<h.length by lia]
 rw[List.all_eq_true,List.length_map,len];intro q hq;have hq:=List.mem_range.mp hq;have l:=lt q hq;unfold nb;rw[x1 q hq,Int.toNat_natCast,x1 _ l,inv q hq,List.length_map,len];rw[decide_eq_true ⟨by lia,by lia⟩];simp
end
structure Dg(T:List Fn)(mx rw dg:Nat):Prop where
 FO:T[mx]?=some jN
 Gs:T[rw]?=some (jC mx)
 GI:T[dg]?=some (eN rw)
def Dg.digits{T:List Fn}{mx rw dg:Nat}(h:Dg T mx rw dg){ns:List Int}(hl:ns.length<=63)(n:Nat){k:Nat}{sizes:List Nat}(hk:k<=1000)(hp:∀ s∈sizes,0<s/\s<2 ^ 200)(hz:sizes.length<=1000) :
  ∃ ds:List Nat,jI ds sizes/\ak T (n+3) dg [.lst (LI ns),.int k,.lst (L sizes)]=some (.lst (L ds)):=by
 obtain⟨r,hr⟩:=A9 (cl:=ak T (n+1)) (f:=mx) (fun s=>by
  obtain⟨m,hm⟩:=By (cl:=ak T n) s
  exact⟨m,(ao h.FO).trans hm⟩) hl hk
 obtain⟨ds,h1,h2⟩:=tP (cl:=ak T (n+2)) (f:=rw) ((ao h.Gs).trans hr) hp hz;exact⟨ds,h1,(ao h.GI).trans h2⟩
structure Dr(T:List Fn)(mx rw dg pl hk ci ft tx rg hu ov fr:Nat):Prop extends Dg T mx rw dg where
 GB:T[pl]?=some eg
 GH:T[hk]?=some (fV pl)
 FL:T[ci]?=some eV
 FG:T[ft]?=some (eY ci)
 G8:T[tx]?=some iJ
 Gj:T[rg]?=some dJ
 FT:T[hu]?=some (eU rg)
 Gk:T[ov]?=some fT
 FP:T[fr]?=some (ig hu ov ft tx hk pl dg)
section
variable{T:List Fn}{mx rw dg pl hk ci ft tx rg hu ov fr:Nat}
def Dr.plain(h:Dr T mx rw dg pl hk ci ft tx rg hu ov fr)(n:Nat){k:Nat}(hk:k<=10):ak T (n+1) pl [.int k]=some (.tup (L (aU k))):=(ao h.GB).trans (oK hk)
def Dr.hook(h:Dr T mx rw dg pl hk ci ft tx rg hu ov fr)(n:Nat){k i:Nat}(hk':k<=10)(hi:i+1<k):ak T (n+2) hk [.int k,.int i]=some (.tup (L (f9 k i))):=(ao h.GH).trans (pM hk' hi (h.plain n hk'))
def Dr.CS(h:Dr T mx rw dg pl hk ci ft tx rg hu ov fr)(n:Nat){k:Nat}(h1:1<=k)(hk':k<=10):ak T (n+1) ci [.int k]=some (.lst (L (cA k))):=(ao h.FL).trans (uh h1 hk')
def Dr.over(h:Dr T mx rw dg pl hk ci ft tx rg hu ov fr)(n:Nat){k:Nat}{f:List Nat}(h1:1<=k)(hk':k<=10)(hf:f.length=2*k):ak T (n+1) ov [.tup (L f)]=some (.tup (L (aV k f))):=(ao h.Gk).trans (ql h1 hk' hf)
def Dr.Cu(h:Dr T mx rw dg pl hk ci ft tx rg hu ov fr){ns:List Int}(hl:ns.length<=63)(n:Nat){k m:Nat}(hk':k<=1000)(h1:1<=m)(hm:m<=10)
 (hh:∀ f:List Nat,Val m f->∃ (g:List Nat) (r:Int),Val m g/\ak T (n+3) hu [.tup (L f),.tup (L (aV m f))]=some (.tup [.tup (L g),.int r])):∃ f:List Nat,Val m f/\ak T (n+4) fr [.lst (LI ns),.int k,.int m]=some (.tup (L f)):=by
 obtain⟨f,V,e⟩:=x5 (cl:=ak T (n+3)) (fhu:=hu) (fov:=ov) (ffr:=ft) (ftx:=tx) (fho:=hk) (fpl:=pl) (fdi:=dg) (scr:=.lst (LI ns)) (k:=k) h1 hm
  (h.digits hl n hk' (by
   intro s hs;simp only[List.mem_cons,List.not_mem_nil,or_false]at hs;rcases hs with rfl | rfl | rfl
   ·decide
   ·decide
   ·exact⟨by omega,Nat.lt_of_le_of_lt (show max 1 (m-1)<=10 by lia) (by decide)⟩) (by simp))
  (h.plain (n+2) hm) (fun i hi=>h.hook (n+1) hm hi)
  (fun r=>by
   obtain⟨w,h1,h2,h3⟩:=xJ (cl:=ak T (n+2)) (r:=r) hm
   exact⟨w,h1,h2,(ao h.G8).trans h3⟩)
  (fun w a b=>by
   obtain⟨f,V,e⟩:=oN (cl:=ak T (n+2)) (fc:=ci) h1 hm (h.CS (n+1) h1 hm) a b
   exact⟨f,V,(ao h.FG).trans e⟩)
  (fun f hf=>h.over (n+2) h1 hm hf) hh
 exact⟨f,V,(ao h.FP).trans e⟩
def Dr.frame(h:Dr T mx rw dg pl hk ci ft tx rg hu ov fr){ns:List Int}(hl:ns.length<=63)(n:Nat){k m:Nat}(hk':k<=1000)(h1:1<=m)(hm:m<=10):∃ f:List Nat,Val m f/\ak T (n+4) fr [.lst (LI ns),.int k,.int m]=some (.tup (L f)) :=
 h.Cu hl n hk' h1 hm fun f V=>by
  have F:=V.frm
  obtain⟨r,e⟩:=r9 (cl:=ak T (n+2)) (fr:=rg) h1 hm F (fun inner i1 i2=>by
   obtain⟨r,e⟩:=wH (cl:=ak T (n+1)) hm F.len (by simp[aV]) i1 i2
   exact⟨r,(ao h.Gj).trans e⟩)
  exact⟨_,r,Af V,(ao h.FT).trans e⟩
end
structure Ck(T:List Fn)(nu pc pa nb un if' cf po rp ir mv:Nat):Prop where
 FQ:T[nu]?=some ie
 G0:T[pc]?=some (dS nu)
 FX:T[pa]?=some (eM nb)
 Gp:T[nb]?=some (eK nu)
 FZ:T[un]?=some dM
 Fd:T[if']?=some (fW un ir pa pc po)
 Gy:T[cf]?=some (et if')
 G1:T[po]?=some j9
 GF:T[rp]?=some di
 FY:T[ir]?=some (gc mv rp po)
 Gh:T[mv]?=some k6
section
variable{T:List Fn}{nu pc pa nb un if' cf po rp ir mv:Nat}
def Ck.num(h:Ck T nu pc pa nb un if' cf po rp ir mv)(n:Nat)(i:Int):ak T (n+1) nu [.int i]=some (.bl true):=(ao h.FQ).trans (oJ i)
def Ck.yJ(h:Ck T nu pc pa nb un if' cf po rp ir mv)(n:Nat)(i:Int):ak T (n+2) pc [.int i]=some (.bl (decide (1<=i/\i<=10))):=(ao h.G0).trans (kU (h.num n) i)
def Ck.of(h:Ck T nu pc pa nb un if' cf po rp ir mv)(n:Nat)(xs:List D):ak T (n+1) po [.tup xs]=some (.int (xs.length / 2)):=(ao h.G1).trans (qQ xs)
def Ck.half(h:Ck T nu pc pa nb un if' cf po rp ir mv)(n:Nat){k:Nat}{f:List Nat}(hf:f.length=2*k):ak T (n+1) po [.tup (L f)]=some (.int k):=by
 rw[h.of,aG,hf];congr 2;lia
def Ck.place(h:Ck T nu pc pa nb un if' cf po rp ir mv)(n:Nat){k p:Nat}(hp:p<2*k):ak T (n+1) rp [.int k,.int (p:Nat)]=some (.int (rd k p:Nat)):=(ao h.GF).trans (mn hp)
def Ck.move(h:Ck T nu pc pa nb un if' cf po rp ir mv)(n:Nat){k:Nat}{f:List Nat}{U:D}{to:Nat->Nat}(hk:k<=10)(F:Frm k f)(hT:∀ p:Nat,p<2*k->ixV U (.int (p:Nat))=some (.int (to p:Nat)))(hlt:∀ p,p<2*k->to p<2*k)(inj:∀ p q,p<2*k->q<2*k->to p=to q->p=q) :
  ∃ E:List Nat,E.length=2*k/\(∀ p,p<2*k->at' E (to p)=to (at' f p))/\ak T (n+1) mv [.tup (L f),U]=some (.tup (L E)):=by
 obtain⟨E,h1,h2,h3⟩:=vD (cl:=ak T n) (T:=U) (to:=to) hk F hT hlt inj;exact⟨E,h1,h2,(ao h.Gh).trans h3⟩
def Ck.round(h:Ck T nu pc pa nb un if' cf po rp ir mv)(n:Nat){k:Nat}{f:List Nat}(hk:k<=10)(F:Frm k f):∃ E:List Nat,E.length=2*k/\(∀ q,q<2*k->at' E q=rnd k f q)/\ak T (n+2) ir [.tup (L f)]=some (.tup (L E)):=by
 obtain⟨E,h1,h2,h3⟩:=rj (cl:=ak T (n+1)) (fm:=mv) (frp:=rp) (fpo:=po) hk F (h.of n) (fun p hp=>h.place n hp) (h.move n (U:=.lst (L (cA k))) (to:=rd k) hk F (fun p hp=>mB hp) (fun p hp=>bJ hp) (fun p q hp hq h=>lG hp hq h));exact⟨E,h1,h2,(ao h.FY).trans h3⟩
def Ck.frame(h:Ck T nu pc pa nb un if' cf po rp ir mv)(n:Nat){k:Nat}{f:List Nat}(h1:1<=k)(hk:k<=10)(V:Val k f):ak T (n+4) if' [.tup (L f)]=some (.bl true) :=
 (ao h.Fd).trans (rM h1 hk V (h.of (n+2)) (by rw[h.yJ (n+1),decide_eq_true (by lia)])
  (by
   have F:=V.frm;have p:=(ao (n:=n+2) h.FX).trans (kN (xs:=f.map Int.ofNat) (by rw[List.length_map,F.len];lia) fun q hq=>(ao h.Gp).trans (vL (h.num n) hq));rw[lQ F.len F.lt (fun q _=>F.inv q),<-EJ]at p
   exact p)
  (h.round (n+1) hk V.frm) (fun E a b c d l=>(ao h.FZ).trans (by
   obtain⟨w,e,_,hb⟩:=tD (cl:=ak T (n+2)) (m:=2*k) (by lia) a b l
   rw[hb fun q q' x y z w=>by
    have:=d q q' (by lia) (by lia);have:=c q' (by lia)
    lia]at e
   exact e)))
def Ck.check(h:Ck T nu pc pa nb un if' cf po rp ir mv)(n:Nat){k:Nat}{f:List Nat}(h1:1<=k)(hk:k<=10)(V:Val k f):ak T (n+5) cf [.tup (L f)]=some .non:=(ao h.Gy).trans (mi (h.frame n h1 hk V))
def Ck.Fh(h:Ck T nu pc pa nb un if' cf po rp ir mv){cp:Nat}(hcp:T[cp]?=some (c6 pc))(n:Nat){k:Nat}(h1:1<=k)(hk:k<=10):ak T (n+3) cp [.int k]=some .non:=(ao hcp).trans (mO (by rw[h.yJ,decide_eq_true (by lia)]))
def Ck.plain(h:Ck T nu pc pa nb un if' cf po rp ir mv){cp pl:Nat}(hcp:T[cp]?=some (c6 pc))(hpl:T[pl]?=some (gh cp))(n:Nat){k:Nat}(h1:1<=k)(hk:k<=10):ak T (n+4) pl [.int k]=some (.tup (L (aU k))):=(ao hpl).trans (run_plain hk (h.Fh hcp n h1 hk))
end
inductive Pl:Nat->D->Prop
 | int (n:Nat) (i:Int):Pl n (.int i)
 | bl (n:Nat) (b:Bool):Pl n (.bl b)
 | str (n:Nat) (x:PySem.Str):Pl n (.str x)
 | tup (n:Nat) (xs:List D) (hl:xs.length<=1000) (h:∀ x∈xs,Pl n x):Pl (n+1) (.tup xs)
 | lst (n:Nat) (xs:List D) (hl:xs.length<=1000) (h:∀ x∈xs,Pl n x):Pl (n+1) (.lst xs)
def sW{cl:Cl}{fs:Nat}(a:Bool):evF cl (de fs) [.bl a,.bl a]=some (.bl true):=jL rfl rfl rfl rfl rfl rfl (zI a)
def same_str{cl:Cl}{fs:Nat}(x:PySem.Str):evF cl (de fs) [.str x,.str x]=some (.bl true):=jL rfl rfl rfl rfl rfl rfl (show some (x == x)=some true by rw[beq_self_eq_true])
def sameAll{T:List Fn}{sm:Nat}(h:T[sm]?=some (de sm)):∀ (k n:Nat) (d:D),Pl k d->k<=n->ak T (n+1) sm [d,d]=some (.bl true):=by
 intro k
 induction k with
 |zero=>
  intro n d p _
  cases p with
  | int=>exact(ao h).trans (same_int _)
  | bl=>exact(ao h).trans (sW _)
  | str=>exact(ao h).trans (same_str _)
 |succ k ih=>
  intro n d p hn
  cases p with
  | int=>exact(ao h).trans (same_int _)
  | bl=>exact(ao h).trans (sW _)
  | str=>exact(ao h).trans (same_str _)
  |tup _ xs hl hx=>
   obtain⟨m,rfl⟩:∃ m,n=m+1:=⟨n-1,by lia⟩
   exact(ao h).trans (pY (.inl rfl) hl fun x hd=>ih m x (hx x hd) (by lia))
  |lst _ xs hl hx=>
   obtain⟨m,rfl⟩:∃ m,n=m+1:=⟨n-1,by lia⟩
   exact(ao h).trans (pY (.inr rfl) hl fun x hd=>ih m x (hx x hd) (by lia))
def Pl.L{n:Nat}{xs:List Nat}(h:xs.length<=1000):Pl (n+1) (.tup (L xs)):=.tup _ _ (by rw[aG];exact h) fun x hx=>by
 obtain⟨a,_,rfl⟩:=List.mem_map.mp hx;exact .int _ _
abbrev Cyc(a b c d:Nat):Prop:=(a<b/\b<c/\c<d)\/(b<c/\c<d/\d<a)\/(c<d/\d<a/\a<b)\/(d<a/\a<b/\b<c)
def si{m:Nat}{r:Nat->Nat}(inv:∀ q,q<m->r (r q)=q)(nox:∀ q q',q<m->q'<m->¬ (q<q'/\q'<r q/\r q<r q'))(ha:a<m)(hb:b<m)(hc:c<m)(hd:d<m)(e1:r a=c)(e2:r b=d):¬ Cyc a b c d:=by
 have e3:r c=a:=by rw[<-e1];exact inv a ha
 have e4:r d=b:=by rw[<-e2];exact inv b hb
 rintro(h | h | h | h)
 ·exact nox a b ha hb ⟨h.1,by lia,by lia⟩
 ·exact nox b c hb hc ⟨h.1,by lia,by lia⟩
 ·exact nox c d hc hd ⟨h.1,by lia,by lia⟩
 ·exact nox d a hd ha ⟨h.1,by lia,by lia⟩
def jZ(hf:f.length=n)(hg:g.length=n)(h:∀ x,x<n->at' f x=at' g x):f=g:=by
 refine List.ext_getElem? fun x=>?_;by_cases hx:x<n
 ·rw[gd (by lia),gd (by lia),h x hx]
 ·rw[List.getElem?_eq_none (by lia),List.getElem?_eq_none (by lia)]
structure Way(n:Nat)(to ba:Nat->Nat):Prop where
 lt:∀ p,p<2*n->to p<2*n
 blt:∀ p,p<2*n->ba p<2*n
 tb:∀ p,p<2*n->to (ba p)=p
 bt:∀ p,p<2*n->ba (to p)=p
 cyc:∀ a b c d,a<2*n->b<2*n->c<2*n->d<2*n->a<b->b<c->c<d->Cyc (rd n (ba (rd n a))) (rd n (ba (rd n b))) (rd n (ba (rd n c))) (rd n (ba (rd n d)))\/Cyc (rd n (ba (rd n d))) (rd n (ba (rd n c))) (rd n (ba (rd n b))) (rd n (ba (rd n a)))
abbrev bg(n:Nat)(to ba:Nat->Nat)(f:List Nat):List Nat:=(List.range (2*n)).map fun p=>to (at' f (ba p))
def l9(n:Nat)(to ba:Nat->Nat)(f:List Nat):(bg n to ba f).length=2*n:=by simp[bg]
def dm(h:p<2*n):at' (bg n to ba f) p=to (at' f (ba p)):=by
 simp[bg,at',h]
def Way.inj(W:Way n to ba)(hp:p<2*n)(hq:q<2*n)(h:to p=to q):p=q:=by rw[<-W.bt p hp,h,W.bt q hq]
def Way.val{n:Nat}{to ba:Nat->Nat}(W:Way n to ba)(V:Val n f):Val n (bg n to ba f):=by
 have F:=V.frm;have hl:=l9 n to ba f;refine⟨⟨hl,fun x hx=>?_,fun x=>?_,fun x hx e=>?_⟩,fun q q' hq hq' h=>?_⟩
 ·rw[dm hx];exact W.lt _ (F.lt _ (W.blt _ hx))
 ·by_cases hx:x<2*n
  ·have h1:=F.lt _ (W.blt _ hx);rw[dm hx,dm (W.lt _ h1),W.bt _ h1,F.inv,W.tb _ hx]
  ·rw[eP (f:=bg n to ba f) (x:=x) (by lia),eP (by lia)]
 ·rw[dm hx]at e;have h1:=F.lt _ (W.blt _ hx)
  have:at' f (ba x)=ba x:=by rw[<-W.bt _ h1,e]
  exact F.no _ (W.blt _ hx) this
 ·obtain⟨h1,h2,h3⟩:=h;have rl:∀ q,q<2*n->rnd n f q<2*n:=fun q hq=>bJ (F.lt _ (bJ hq))
  have rr:∀ q,q<2*n->rnd n f (rnd n f q)=q:=fun q hq=>by
   unfold rnd;rw[cW (F.lt _ (bJ hq)),F.inv,cW hq]
  have key:∀ q,q<2*n->rnd n (bg n to ba f) q<2*n/\rnd n f (rd n (ba (rd n q)))=rd n (ba (rd n (rnd n (bg n to ba f) q))):=fun q hq=>by
   have a1:=bJ hq;have a2:=W.blt _ a1;have a3:=F.lt _ a2;unfold rnd;rw[dm a1];refine⟨bJ (W.lt _ a3),?_⟩;rw[cW a2,cW (W.lt _ a3),W.bt _ a3]
  obtain⟨k1,k2⟩:=key q hq;obtain⟨k3,k4⟩:=key q' hq';have bl:∀ q,q<2*n->rd n (ba (rd n q))<2*n:=fun q hq=>bJ (W.blt _ (bJ hq));rcases W.cyc q q' _ _ hq hq' k1 k3 h1 h2 h3 with c | c
  ·exact si rr V.nox (bl _ hq) (bl _ hq') (bl _ k1) (bl _ k3) k2 k4 c
  ·refine si rr V.nox (bl _ k3) (bl _ k1) (bl _ hq') (bl _ hq) ?_ ?_ c
   ·rw[<-k4,rr _ (bl _ hq')]
   ·rw[<-k2,rr _ (bl _ hq)]
abbrev ovr(n p:Nat):Nat:=if p<n then p+n else p-n
def kG(c:q<n):rd n q=q:=by unfold rd;rw[if_pos c]
def zY(c:¬ q<n):rd n q=3*n-1-q:=by unfold rd;rw[if_neg c]
def lL(c:q<n):ovr n q=q+n:=by unfold ovr;rw[if_pos c]
def p9(c:¬ q<n):ovr n q=q-n:=by unfold ovr;rw[if_neg c]
def mh(hp:p<2*n):ovr n p<2*n/\ovr n (ovr n p)=p:=by
 by_cases c:p<n
 ·rw[lL c,p9 (by lia)];exact⟨by lia,by lia⟩
 ·rw[p9 c,lL (by omega)];exact⟨by lia,by lia⟩
def lF(hq:q<2*n):rd n (ovr n (rd n q))=2*n-1-q:=by
 by_cases c:q<n
 ·rw[kG c,lL c,zY (by lia)];lia
 ·rw[zY c,p9 (by omega),kG (by omega)];lia
def cY(n:Nat):Way n (ovr n) (ovr n) :=
 ⟨fun p hp=>(mh hp).1,fun p hp=>(mh hp).1,fun p hp=>(mh hp).2,fun p hp=>(mh hp).2,fun a b c d ha hb hc hd h1 h2 h3=>.inr (.inl (by
  rw[lF ha,lF hb,lF hc,lF hd]
  exact⟨by lia,by lia,by omega⟩))⟩
def xN(F:Frm n f):aV n f=bg n (ovr n) (ovr n) f:=by
 refine jZ (n:=2*n) (by simp[aV]) (l9 ..) fun p hp=>?_;rw[kr hp,dm hp]
 have e:∀ p,p<2*n->(p+n)%(2*n)=ovr n p:=fun p hp=>by
  unfold ovr;split
  ·rw[Nat.mod_eq_of_lt (by lia)]
  ·rw[Nat.mod_eq_sub_mod (by lia),Nat.mod_eq_of_lt (by lia)];lia
 rw[e p hp,e _ (F.lt _ ((cY n).lt p hp))]
def pF:∀ {a b:List Nat},a.Nodup->(∀ x∈a,x∈b)->a.length<=b.length
 | [],_,_,_=>Nat.zero_le _
 | x::r,b,hn,h=>by
  rw[List.nodup_cons]at hn;have hx:=h x List.mem_cons_self;have:=pF (a:=r) (b:=b.erase x) hn.2 fun y hy=>(List.mem_erase_of_ne (fun e=>hn.1 (by rw[<-e];exact hy))).mpr (h y (List.mem_cons_of_mem _ hy));rw[List.length_erase_of_mem hx]at this;have:0<b.length:=List.length_pos_of_mem hx;simp only[List.length_cons];lia
abbrev cnt(n:Nat)(P:Nat->Bool):Nat:=((List.range n).filter P).length
def wA(g:Nat->Nat)(h:∀ p,p<n->P p=true->g p<m/\Q (g p)=true)(inj:∀ p q,p<n->q<n->P p=true->P q=true->g p=g q->p=q):cnt n P<=cnt m Q:=by
 unfold cnt
 have:((List.range n).filter P).length=(((List.range n).filter P).map g).length:=by simp
 rw[this];refine pF ?_ ?_
 ·rw[List.nodup_iff_pairwise_ne,List.pairwise_map];refine List.Pairwise.imp_of_mem ?_ ((List.nodup_iff_pairwise_ne.mp (List.nodup_range (n:=n))).filter P);intro a b ha hb hne e;simp only[List.mem_filter,List.mem_range]at ha hb;exact hne (inj a b ha.1 hb.1 ha.2 hb.2 e)
 ·intro x hx;obtain⟨p,hp,rfl⟩:=List.mem_map.mp hx;simp only[List.mem_filter,List.mem_range]at hp ⊢;exact h p hp.1 hp.2
def xQ(F:Frm n f):thr n (bg n (ovr n) (ovr n) f)=thr n f:=by
 have W:=cY n;refine Nat.le_antisymm (wA (fun p=>at' f (p+n)) (fun p hp h=>?_) fun p q hp hq _ _ e=>?_) (wA (fun p=>at' f p-n) (fun p hp h=>?_) fun p q hp hq h1 h2 e=>?_)
 ·rw[decide_eq_true_eq,dm (by lia)]at h
  have e:ovr n p=p+n:=by unfold ovr;rw[if_pos hp]
  rw[e]at h;have l:=F.lt (p+n) (by lia)
  have:at' f (p+n)<n:=by
   unfold ovr at h;split at h<;>lia
  refine⟨this,?_⟩;rw[decide_eq_true_eq,F.inv];lia
 ·have:=congrArg (at' f) e;rw[F.inv,F.inv]at this;lia
 ·rw[decide_eq_true_eq]at h;have l:=F.lt p (by lia)
  have e:ovr n (at' f p-n)=at' f p:=by unfold ovr;rw[if_pos (by lia)];lia
  refine⟨by lia,?_⟩;rw[decide_eq_true_eq,dm (by lia),e,F.inv];unfold ovr;rw[if_pos hp];lia
 ·rw[decide_eq_true_eq]at h1 h2
  have:at' f p=at' f q:=by lia
  have:=congrArg (at' f) this;rw[F.inv,F.inv]at this;exact this
def Fm(hl:ns.length<=63):pG (.scr (LI ns)) (.int 63)=some (.lst (LI ns)):=by
 show some (D.lst ((LI ns).take (cutAt (LI ns).length 63)))=_;rw[List.take_of_length_le]
 have:(LI ns).length=ns.length:=by simp[LI]
 rw[this];unfold cutAt;rw[if_pos (by decide)];have:(63:Int).toNat=63:=rfl;lia
section
def yH(h:p<2*n):ixV (.tup (L (aU n))) (.int (p:Nat))=some (.int (ovr n p:Nat)):=by
 rw[dh (by simp[aU];lia),plain_at];unfold ovr;split
 ·rw[Nat.add_comm]
 ·rfl
def zq(h1:1<=n)(hn:n<=10)(F:Frm n f)(hc:cl fc [.tup (L f)]=some .non)(ho:cl fo [.tup (L f)]=some (.int n))(hp:cl fp [.int n]=some (.tup (L (aU n))))
 (hm:cl fm [.tup (L f),.tup (L (aU n))]=some (.tup (L (bg n (ovr n) (ovr n) f)))):evF cl (jB fm fp fo fc) [.tup (L f)]=some (.tup (L (bg n (ovr n) (ovr n) f))):=by
 simp[evF,jB,ag,evS,ev,evs,hc,ho,hp,hm,bc,D.imm,aY,aW]
end
section
variable{nu pc pa nb un if' cf po rp ir mv:Nat}
def EC{n:Nat}{to ba:Nat->Nat}{f E:List Nat}(W:Way n to ba)(h1:E.length=2*n)(h2:∀ p,p<2*n->at' E (to p)=to (at' f p)):E=bg n to ba f:=by
 refine jZ h1 (l9 ..) fun p hp=>?_;rw[dm hp];have:=h2 (ba p) (W.blt _ hp);rw[W.tb _ hp]at this;exact this
def Ck.F7(h:Ck T nu pc pa nb un if' cf po rp ir mv)(n:Nat){k:Nat}{f:List Nat}{U:D}(hk:k<=10)(F:Frm k f)(W:Way k to ba)(hT:∀ p:Nat,p<2*k->ixV U (.int (p:Nat))=some (.int (to p:Nat))):ak T (n+1) mv [.tup (L f),U]=some (.tup (L (bg k to ba f))):=by
 obtain⟨E,h1,h2,h3⟩:=h.move n hk F hT W.lt fun p q hp hq e=>W.inj hp hq e;rw[h3,EC W h1 h2]
def Ck.over(h:Ck T nu pc pa nb un if' cf po rp ir mv)(hcp:T[cp]?=some (c6 pc))(hpl:T[pl]?=some (gh cp))(hov:T[ov]?=some (jB mv pl po cf))(n:Nat)(h1:1<=k)(hk:k<=10)(V:Val k f):ak T (n+6) ov [.tup (L f)]=some (.tup (L (bg k (ovr k) (ovr k) f))) :=
 (ao hov).trans (zq h1 hk V.frm (h.check n h1 hk V) (h.half (n+4) V.frm.len) (h.plain hcp hpl (n+1) h1 hk) (h.F7 (n+4) hk V.frm (cY k) fun p hp=>yH hp))
end
end RM
set_option maxHeartbeats 1000000
namespace RT
open RL
end RT
namespace RM
open RL RT
section
end
section
end
section
end
section
variable{cl:Cl}
end
section
end
section
def Bf{β:Type}{σ:St}{e:E}{i:Nat}{u g:β->D}(im:∀ x,(g x).imm=true)(xs:List β)(h:∀ x∈xs,ev cl (σ.set i (some (u x))) e=some (g x)):cu (fun σ1=>(ev cl σ1 e).map some) [i] σ (xs.map u)=some (xs.map g) :=
 iF im xs fun x hx=>by
  show Option.map some (ev cl (σ.set i (some (u x))) e)=_;rw[h x hx];rfl
def AY{σ:St}{e:E}{i:Nat}{g:Nat->D}(im:∀ x,(g x).imm=true)(xs:List Nat)(h:∀ x∈xs,ev cl (σ.set i (some (.int (x:Nat)))) e=some (g x)):cu (fun σ1=>(ev cl σ1 e).map some) [i] σ (L xs)=some (xs.map g) :=
 Bf im xs h
end
section
end
section
end
section
variable{nu pc pa nb un if' cf po rp ir mv rn mk rg jb pu c2 hu:Nat}
end
section
variable{mx rw dg pl hk ci ft tx rg hu ov fr:Nat}
def Fb(hfs:T[fs]?=some (gN fr))(n:Nat)(hq:q<=100)(one:∀ i:Nat,i<=100->∃ f:List Nat,Val m f/\ak T (n+4) fr [.lst (LI ns),.int ((k+i:Nat):Int),.int m]=some (.tup (L f))) :
  ∃ fs':List (List Nat),fs'.length=q/\(∀ f∈fs',Val m f)/\ak T (n+5) fs [.lst (LI ns),.int k,.int m,.int q]=some (.lst (fs'.map fun f=>.tup (L f))):=by
 have:∀ i,∃ f:List Nat,i<=100->Val m f/\ak T (n+4) fr [.lst (LI ns),.int ((k+i:Nat):Int),.int m]=some (.tup (L f)):=fun i=>by
  by_cases c:i<=100
  ·obtain⟨f,V,e⟩:=one i c;exact⟨f,fun _=>⟨V,e⟩⟩
  ·exact⟨[],fun z=>absurd z c⟩
 obtain⟨g,hg⟩:=Classical.axiomOfChoice this;refine⟨(List.range q).map g,by simp,fun f hf=>?_,?_⟩
 ·obtain⟨i,hi,rfl⟩:=List.mem_map.mp hf;exact(hg i (by have:=List.mem_range.mp hi;lia)).1
 ·refine(ao hfs).trans (aT rfl rfl (aS (dO (eZ (aa rfl) (bR (by lia))) (by simp[L,most];lia) (AY (g:=fun i=>.tup (L (g i))) (fun x=>by simp[D.imm,aY]) _ fun i hi=>?_)) ?_)) |>.trans (by rw[List.map_map];rfl)
  ·have hi:=List.mem_range.mp hi;exact yM (aa rfl) (az (aa rfl) (aa rfl) (by rw[c9];rfl)) (aa rfl) (hg i (by lia)).2
  ·have:∀ xs:List Nat,au (xs.map fun i=>D.tup (L (g i)))=true:=fun xs=>by
    induction xs with
    | nil=>rfl
    | cons x r ih=>rw[List.map_cons,au,ih];simp[D.imm,aY]
   simp[bc,aK,this]
end
section
end
section
set_option synthInstance.maxSize 10000 in
set_option synthInstance.maxHeartbeats 0 in
end
section
set_option synthInstance.maxSize 10000 in
set_option synthInstance.maxHeartbeats 0 in
end
section
variable{mx rw dg pl hk ci ft tx rg hu ov fr:Nat}
end
section
end
section
end
section
end
section
set_option synthInstance.maxSize 10000 in
set_option synthInstance.maxHeartbeats 0 in
set_option synthInstance.maxSize 10000 in
set_option synthInstance.maxHeartbeats 0 in
end
end RM
set_option maxHeartbeats 1000000
namespace RM
open RL RT
section
end
end RM
set_option maxHeartbeats 1000000
namespace RT
open RL
end RT
namespace RM
open RL RT
section
variable{nu pc pa nb un if' cf po rp ir mv rn mk rg jb pu c2 hu:Nat}
end
section
set_option synthInstance.maxSize 10000 in
set_option synthInstance.maxHeartbeats 0 in
end
end RM
set_option maxHeartbeats 1000000
namespace RT
open RL
abbrev kC(f_pegs_of f_check_frame:Nat):Fn :=
 ⟨1,4,[],[],(.cons (.exc (.call f_check_frame (.cons (.var 0) .nil))) (.cons (.asg 1 (.call f_pegs_of (.cons (.var 0) .nil))) (.cons (.ret (.bi .tuple (.compA (.ifx (.cmp .lt (.var 3) (.var 1)) (.var 3) (.var 2)) [2,3] (.enm (.slT (.var 0) (.var 1)))))) .nil)))⟩
abbrev sU(f_upper f_over:Nat):Fn :=
 ⟨1,1,[],[],(.cons (.ret (.call f_upper (.cons (.call f_over (.cons (.var 0) .nil)) .nil))) .nil)⟩
end RT
namespace RM
open RL RT
abbrev up(n:Nat)(f:List Nat)(p:Nat):Nat:=if at' f p<n then at' f p else p
abbrev upL(n:Nat)(f:List Nat):List Nat:=(List.range n).map (up n f)
section
def kj:(upL n f).length=n:=by simp[upL]
def eI(h:p<n):at' (upL n f) p=up n f p:=by simp[upL,at',h]
def Fy(F:Frm n f)(h:p<n):at' (f.take n) p=at' f p:=by
 rw[Ax F];simp[at',h]
def xo(h1:1<=n)(hn:n<=10)(F:Frm n f)(hc:cl fc [.tup (L f)]=some .non)(ho:cl fo [.tup (L f)]=some (.int (n:Nat))):evF cl (kC fo fc) [.tup (L f)]=some (.tup (L (upL n f))):=by
 have hl:(f.take n).length=n:=by rw[List.length_take,F.len];lia
 have en:=jA hl
 have sl:pG (.tup (L f)) (.int (n:Nat))=some (.tup (L (f.take n))):=by
  have c:cutAt (L f).length (n:Nat)=n:=by
   unfold cutAt;rw[if_pos (by lia),Int.toNat_natCast,aG,F.len];lia
  show(if cutAt (L f).length (n:Nat)<(L f).length then some (D.tup ((L f).take (cutAt (L f).length (n:Nat))))else none)=_;rw[c,if_pos (by rw[aG,F.len];lia),EL]
 have mc:=iF (F:=fun σ1=>(ev cl σ1 (.ifx (.cmp .lt (.var 3) (.var 1)) (.var 3) (.var 2))).map some) (tg:=[2,3]) (σ:=[some (.tup (L f)),some (.int (n:Nat)),none,none]) (h:=pr (f.take n)) (g:=fun p=>.int (up n f p:Nat)) (fun _=>rfl) (List.range n) (by
  intro p hp;have hp:=List.mem_range.mp hp;show(ev cl [some (.tup (L f)),some (.int (n:Nat)),some (.int (p:Nat)),some (.int (at' (f.take n) p:Nat))] (.ifx (.cmp .lt (.var 3) (.var 1)) (.var 3) (.var 2))).map some=_;rw[Fy F hp];unfold up;by_cases c:at' f p<n
  ·rw[zG (k:=true) (aX (aE (aa rfl) (aa rfl) (by rw[fM];simp;exact c))) (aa rfl),if_pos c];rfl
  ·rw[zG (k:=false) (aX (aE (aa rfl) (aa rfl) (by rw[fM];simp;lia))) (aa rfl),if_neg c]
   rfl)
 rw[<-en]at mc
 have lm:(cQ 0 (L (f.take n))).length<=most:=by rw[en,List.length_map,List.length_range];unfold most;lia
 have e:((List.range n).map fun p=>D.int (up n f p:Nat))=L (upL n f):=by unfold upL L;rw[List.map_map];rfl
 rw[e]at mc;exact aT rfl rfl (i4 (bx (aa rfl) hc) (aD (bx (aa rfl) ho) rfl (aS (aO (dO (mw (zW (aa rfl) (aa rfl) sl) rfl) lm mc) rfl) (by unfold bc;rw[show ∀ x:List Nat,(D.tup (L x)).imm=au (L x)from fun _=>rfl,aY];rfl))))
end
section
variable{nu pc pa nb un if' cf po rp ir mv:Nat}
def Ck.upper(C:Ck T nu pc pa nb un if' cf po rp ir mv)(hup:T[up']?=some (kC po cf))(n:Nat)(h1:1<=k)(hk:k<=10)(V:Val k f):ak T (n+6) up' [.tup (L f)]=some (.tup (L (upL k f))) :=
 (ao hup).trans (xo h1 hk V.frm (C.check n h1 hk V) (C.half (n+4) V.frm.len))
def Ck.lower(C:Ck T nu pc pa nb un if' cf po rp ir mv)(hup:T[up']?=some (kC po cf))(hcp:T[cp]?=some (c6 pc))(hpl:T[pl]?=some (gh cp))(hov:T[ov]?=some (jB mv pl po cf))(hlw:T[lw]?=some (sU up' ov))(n:Nat)(h1:1<=k)(hk:k<=10)(V:Val k f):ak T (n+7) lw [.tup (L f)]=some (.tup (L (upL k (bg k (ovr k) (ovr k) f)))) :=
 (ao hlw).trans (aT rfl rfl (aS (bx (bx (aa rfl) (C.over hcp hpl hov n h1 hk V)) (C.upper hup n h1 hk ((cY k).val V))) (by unfold bc;rw[show ∀ x:List Nat,(D.tup (L x)).imm=au (L x)from fun _=>rfl,aY];rfl)))
end
section
def oW(F:Frm n f)(hp:p<n):at' (bg n (ovr n) (ovr n) f) p=if at' f (n+p)<n then at' f (n+p)+n else at' f (n+p)-n:=by
 rw[dm (by lia),lL hp,Nat.add_comm p n];rfl
end
section
end
end RM
set_option maxHeartbeats 1000000
namespace RM
open RL RT
structure Hf(n:Nat)(h:List Nat):Prop where
 len:h.length=n
 lt:∀ q,q<n->at' h q<n
 inv:∀ q,q<n->at' h (at' h q)=q
 nx:Nx (at' h) n
abbrev fx(n:Nat)(h:List Nat):List Nat:=(List.range n).filter fun q=>decide (at' h q=q)
section
variable{n:Nat}{f h a b:List Nat}
def vO{q:Nat}:q∈fx n h↔q<n/\at' h q=q:=by
 unfold fx;rw[List.mem_filter,List.mem_range,decide_eq_true_eq]
def FC:(fx n h).Pairwise (·<·):=by
 unfold fx;exact List.Pairwise.filter _ List.pairwise_lt_range
def bC{k:Nat}(hk:k<(fx n h).length):at' (fx n h) k<n/\at' h (at' (fx n h) k)=at' (fx n h) k:=by
 have e:at' (fx n h) k=(fx n h)[k]:=by simp[at',hk]
 rw[e];exact vO.mp (List.getElem_mem hk)
def kD{k m:Nat}(h1:k<m)(hm:m<(fx n h).length):at' (fx n h) k<at' (fx n h) m:=by
 have e:at' (fx n h) k=(fx n h)[k]'(by lia):=by simp[at',show k<(fx n h).length by lia]
 have e':at' (fx n h) m=(fx n h)[m]:=by simp[at',hm]
 rw[e,e'];exact List.pairwise_iff_getElem.mp FC k m (by lia) hm h1
def fZ{q:Nat}(hq:q<n)(e:at' h q=q):∃ k,k<(fx n h).length/\at' (fx n h) k=q:=by
 obtain⟨k,hk,ek⟩:=List.getElem_of_mem (vO.mpr ⟨hq,e⟩);exact⟨k,hk,by simp[at',hk,ek]⟩
def C7(V:Val n f){p q:Nat}(hp:p<n)(hq:q<n)(c:at' f p<n):¬ (p<q/\q<at' f p/\(at' f p<at' f q\/n<=at' f q)):=by
 rintro⟨c1,c2,c3⟩;have F:=V.frm;have:=V.nox p q (by lia) (by lia);rw[iD F hp,iD F hq,if_pos c]at this;have lb:=F.lt q (by lia);split at this<;>lia
def iA(V:Val n f):Hf n (upL n f):=by
 have F:=V.frm
 have hi:∀ q,q<n->at' f q<n->up n f q=at' f q:=fun q _ c=>by unfold up;rw[if_pos c]
 have lo:∀ q,¬ at' f q<n->up n f q=q:=fun q c=>by unfold up;rw[if_neg c]
 have lt:∀ q,q<n->up n f q<n:=fun q hq=>by
  by_cases c:at' f q<n
  ·rw[hi q hq c];exact c
  ·rw[lo q c];exact hq
 refine⟨kj,fun q hq=>by rw[eI hq];exact lt q hq,fun q hq=>?_,fun q q' h1 h2 h3=>?_⟩
 ·rw[eI hq,eI (lt q hq)];by_cases c:at' f q<n
  ·rw[hi q hq c];unfold up;rw[F.inv,if_pos hq]
  ·rw[lo q c,lo q c]
 ·by_cases hq:q<n
  ·rw[eI hq]at h2 h3 ⊢;rw[eI (show q'<n by lia)];by_cases c:at' f q<n
   ·rw[hi q hq c]at h2 h3 ⊢;have x:=C7 V hq (show q'<n by lia) c;by_cases d:at' f q'<n
    ·rw[hi q' (by lia) d];have:=F.no q' (by lia);lia
    ·lia
   ·rw[lo q c]at h2;lia
  ·rw[eP (by rw[kj];omega)]at h2;lia
def BN:(fx n (upL n f)).length=thr n f\/¬ Frm n f:=by
 by_cases F:Frm n f
 ·refine .inl ?_;unfold fx thr;congr 1;apply List.filter_congr;intro q hq;have hq:=List.mem_range.mp hq;rw[eI hq];apply decide_eq_decide.mpr;unfold up;have:=F.no q (by lia);split<;>lia
 ·exact .inr F
structure Jn(n:Nat)(a b J:List Nat):Prop where
 len:J.length=2*n
 thr:∀ k,k<(fx n a).length->at' J (at' (fx n a) k)=n+at' (fx n b) k/\at' J (n+at' (fx n b) k)=at' (fx n a) k
 hi:∀ p,p<n->at' a p≠p->at' J p=at' a p
 lo:∀ p,p<n->at' b p≠p->at' J (n+p)=n+at' b p
def Jn.frm{J:List Nat}(A:Hf n a)(B:Hf n b)(t:(fx n a).length=(fx n b).length)(j:Jn n a b J):Frm n J:=by
 have cas:∀ x,x<2*n->(∃ k,k<(fx n a).length/\x=at' (fx n a) k)\/(x<n/\at' a x≠x)\/(∃ k,k<(fx n a).length/\x=n+at' (fx n b) k)\/∃ p,p<n/\at' b p≠p/\x=n+p:=fun x hx=>by
  by_cases c:x<n
  ·by_cases d:at' a x=x
   ·obtain⟨k,h1,h2⟩:=fZ c d;exact .inl ⟨k,h1,h2.symm⟩
   ·exact .inr (.inl ⟨c,d⟩)
  ·by_cases d:at' b (x-n)=x-n
   ·obtain⟨k,h1,h2⟩:=fZ (show x-n<n by lia) d;exact .inr (.inr (.inl ⟨k,by lia,by lia⟩))
   ·exact .inr (.inr (.inr ⟨x-n,by lia,d,by lia⟩))
 refine⟨j.len,fun x hx=>?_,fun x=>?_,fun x hx=>?_⟩
 ·rcases cas x hx with⟨k,hk,rfl⟩ | ⟨h1,h2⟩ | ⟨k,hk,rfl⟩ | ⟨p,hp,h2,rfl⟩
  ·rw[(j.thr k hk).1];have:=(bC (h:=b) (n:=n) (k:=k) (by lia)).1;lia
  ·rw[j.hi x h1 h2];have:=A.lt x h1;lia
  ·rw[(j.thr k hk).2];have:=(bC (h:=a) (n:=n) hk).1;lia
  ·rw[j.lo p hp h2];have:=B.lt p hp;lia
 ·by_cases hx:x<2*n
  ·rcases cas x hx with⟨k,hk,rfl⟩ | ⟨h1,h2⟩ | ⟨k,hk,rfl⟩ | ⟨p,hp,h2,rfl⟩
   ·rw[(j.thr k hk).1,(j.thr k hk).2]
   ·rw[j.hi x h1 h2,j.hi _ (A.lt x h1) (fun z=>h2 (by rw[A.inv x h1]at z;exact z.symm)),A.inv x h1]
   ·rw[(j.thr k hk).2,(j.thr k hk).1]
   ·rw[j.lo p hp h2,j.lo _ (B.lt p hp) (fun z=>h2 (by rw[B.inv p hp]at z;exact z.symm)),B.inv p hp]
  ·rw[eP (f:=J) (x:=x) (by rw[j.len];lia),eP (by rw[j.len];lia)]
 ·rcases cas x hx with⟨k,hk,rfl⟩ | ⟨h1,h2⟩ | ⟨k,hk,rfl⟩ | ⟨p,hp,h2,rfl⟩
  ·rw[(j.thr k hk).1];have:=(bC (h:=a) (n:=n) hk).1;lia
  ·rw[j.hi x h1 h2];exact h2
  ·rw[(j.thr k hk).2];have:=(bC (h:=a) (n:=n) hk).1;lia
  ·rw[j.lo p hp h2];lia
def Jn.up{J:List Nat}(A:Hf n a)(t:(fx n a).length=(fx n b).length)(j:Jn n a b J):upL n J=a:=by
 refine jZ kj A.len fun p hp=>?_;rw[eI hp];unfold RM.up;by_cases c:at' a p=p
 ·obtain⟨k,h1,h2⟩:=fZ hp c;have:=(j.thr k h1).1;rw[h2]at this;rw[this,if_neg (by lia),c]
 ·rw[j.hi p hp c,if_pos (A.lt p hp)]
def Jn.dn{J:List Nat}(A:Hf n a)(B:Hf n b)(t:(fx n a).length=(fx n b).length)(j:Jn n a b J):upL n (bg n (ovr n) (ovr n) J)=b:=by
 refine jZ kj B.len fun p hp=>?_;rw[eI hp];unfold RM.up;rw[oW (j.frm A B t) hp];by_cases c:at' b p=p
 ·obtain⟨k,h1,h2⟩:=fZ hp c;have e:=(j.thr k (by lia)).2;rw[h2]at e;have:=(bC (h:=a) (n:=n) (k:=k) (by lia)).1;rw[e,if_pos this,if_neg (by lia),c]
 ·have:=B.lt p hp
  have e:(if at' J (n+p)<n then at' J (n+p)+n else at' J (n+p)-n)=at' b p:=by
   rw[j.lo p hp c,if_neg (by lia)];lia
  rw[e,if_pos this]
def mr{q:Nat}(h:n<=q)(h2:q<2*n):rd n q=n+(2*n-1-q):=by
 unfold rd;rw[if_neg (by lia)];lia
def Jn.val{J:List Nat}(A:Hf n a)(B:Hf n b)(t:(fx n a).length=(fx n b).length)(j:Jn n a b J):Val n J:=by
 have F:=j.frm A B t
 have top:∀ q,q<n->at' a q≠q->rnd n J q=at' a q:=fun q hq c=>by
  unfold rnd;have:=A.lt q hq;rw[kG hq,j.hi q hq c,kG this]
 have thr:∀ k,k<(fx n a).length->rnd n J (at' (fx n a) k)=2*n-1-at' (fx n b) k:=fun k hk=>by
  unfold rnd;have h1:=(bC (h:=a) (n:=n) hk).1;have h2:=(bC (h:=b) (n:=n) (k:=k) (by lia)).1;rw[kG h1,(j.thr k hk).1,mr (by lia) (by lia)]
  have:n+(2*n-1-(n+at' (fx n b) k))=2*n-1-at' (fx n b) k:=by lia
  exact this
 have bot:∀ u,u<n->at' b u≠u->rnd n J (2*n-1-u)=2*n-1-at' b u:=fun u hu c=>by
  unfold rnd;have:=B.lt u hu;rw[show rd n (2*n-1-u)=n+u by rw[mr (by lia) (by omega)];lia,j.lo u hu c,show rd n (n+at' b u)=2*n-1-at' b u by rw[mr (by lia) (by lia)];lia]
 have bth:∀ k,k<(fx n a).length->rnd n J (2*n-1-at' (fx n b) k)=at' (fx n a) k:=fun k hk=>by
  unfold rnd;have h1:=(bC (h:=a) (n:=n) hk).1;have h2:=(bC (h:=b) (n:=n) (k:=k) (by lia)).1;rw[show rd n (2*n-1-at' (fx n b) k)=n+at' (fx n b) k by rw[mr (by lia) (by lia)];lia,(j.thr k hk).2,kG h1]
 refine⟨F,fun q q' h1 h2 ⟨c1,c2,c3⟩=>?_⟩;by_cases hq:q<n
 ·by_cases d:at' a q=q
  ·obtain⟨k,hk,rfl⟩:=fZ hq d;have bk:=(bC (h:=b) (n:=n) (k:=k) (by lia)).1;rw[thr k hk]at c2 c3;by_cases hq':q'<n
   ·by_cases d':at' a q'=q'
    ·obtain⟨m,hm,rfl⟩:=fZ hq' d';rw[thr m hm]at c3
     have km:k<m:=by
      rcases Nat.lt_trichotomy k m with z | z | z
      ·exact z
      ·subst z;lia
      ·have:=kD z hk;lia
     have:=kD (h:=b) (n:=n) km (by lia);lia
    ·rw[top q' hq' d']at c3;have:=A.lt q' hq';lia
   ·obtain⟨u,hu,rfl⟩:∃ u,u<n/\q'=2*n-1-u:=⟨2*n-1-q',by lia,by lia⟩
    by_cases d':at' b u=u
    ·obtain⟨m,hm,rfl⟩:=fZ hu d';rw[bth m (by lia)]at c3;have:=(bC (h:=a) (n:=n) (k:=m) (by lia)).1;lia
    ·rw[bot u hu d']at c3;have lb:=B.lt u hu;exact B.nx (at' b u) (at' (fx n b) k) (by lia) (by rw[B.inv u hu];lia) (by rw[B.inv u hu];exact hu) (.inr (bC (h:=b) (n:=n) (k:=k) (by lia)).2)
  ·rw[top q hq d]at c2 c3;have la:=A.lt q hq;have k:=A.nx q q' c1 c2 la;have d':at' a q'≠q':=fun z=>k (.inr z);rw[top q' (by lia) d']at c3;exact k (.inl c3)
 ·obtain⟨u,hu,rfl⟩:∃ u,u<n/\q=2*n-1-u:=⟨2*n-1-q,by lia,by lia⟩
  by_cases d:at' b u=u
  ·obtain⟨m,hm,rfl⟩:=fZ hu d;rw[bth m (by lia)]at c2;have:=(bC (h:=a) (n:=n) (k:=m) (by lia)).1;lia
  ·rw[bot u hu d]at c2 c3;have lb:=B.lt u hu
   obtain⟨v,hv,rfl⟩:∃ v,v<n/\q'=2*n-1-v:=⟨2*n-1-q',by lia,by lia⟩
   by_cases d':at' b v=v
   ·obtain⟨m,hm,rfl⟩:=fZ hv d';rw[bth m (by lia)]at c3;have:=(bC (h:=a) (n:=n) (k:=m) (by lia)).1;lia
   ·rw[bot v hv d']at c3;have lv:=B.lt v hv;exact B.nx (at' b v) (at' b u) (by omega) (by rw[B.inv v hv];omega) (by rw[B.inv v hv];exact hv) (.inl (by rw[B.inv v hv,B.inv u hu];lia))
end
end RM
set_option maxHeartbeats 1000000
namespace RM
open RL RT
section
end
end RM
set_option maxHeartbeats 1000000
namespace RM
open RL RT
section
variable{n:Nat}{f g A B:List Nat}
def up_eq(F:Frm n f)(e:upL n f=upL n g){p:Nat}(hp:p<n)(c:at' f p<n):at' g p=at' f p:=by
 have:=congrArg (fun l=>at' l p) e;simp only[eI hp]at this;unfold up at this;rw[if_pos c]at this;by_cases d:at' g p<n
 ·rw[if_pos d]at this;exact this.symm
 ·rw[if_neg d]at this;exact absurd this (F.no p (by lia))
def zX(V:Val n f)(W:Val n g)(e:upL n (bg n (ovr n) (ovr n) f)=upL n (bg n (ovr n) (ovr n) g)){p:Nat}(hp:p<n)(c:n<=at' f (n+p)):at' g (n+p)=at' f (n+p):=by
 have l:=V.frm.lt (n+p) (by lia);have l':=W.frm.lt (n+p) (by lia);have:=up_eq ((cY n).val V).frm e hp (by rw[oW V.frm hp,if_neg (by lia)];lia);rw[oW V.frm hp,oW W.frm hp,if_neg (show ¬ at' f (n+p)<n by lia)]at this;split at this<;>lia
def wB(V:Val n f)(W:Val n g)(e:upL n f=upL n g)(e':upL n (bg n (ovr n) (ovr n) f)=upL n (bg n (ovr n) (ovr n) g)):f=g:=by
 have F:=V.frm;have G:=W.frm
 have key:∀ {f g:List Nat},Val n f->Val n g->upL n (bg n (ovr n) (ovr n) f)=upL n (bg n (ovr n) (ovr n) g)->∀ p,p<n->(∀ q,q<p->at' f q=at' g q)->n<=at' f p->n<=at' g p->¬ at' f p<at' g p:=by
  intro f g V W e' p hp ih c d z;have F:=V.frm;have G:=W.frm;have lf:=F.lt p (by lia);have lg:=G.lt p (by lia)
  obtain⟨b,hb⟩:∃ b,at' f p=n+b:=⟨at' f p-n,by lia⟩
  have fb:at' f (n+b)=p:=by rw[<-hb,F.inv]
  have gb:at' g (n+b)<n:=by
   by_cases q:at' g (n+b)<n
   ·exact q
   ·have:=zX W V e'.symm (p:=b) (by lia) (by lia);lia
  have gi:=G.inv (n+b)
  have ne:at' g (n+b)≠p:=fun q=>by rw[q]at gi;lia
  have le:¬ at' g (n+b)<p:=fun q=>by
   have:=ih _ q;rw[gi,<-hb]at this;have:=congrArg (at' f) this;rw[F.inv,F.inv,hb]at this;exact ne this
  refine W.nox p (at' g (n+b)) (by lia) (by lia) ?_;rw[iD G hp,iD G gb,gi,if_neg (by lia),if_neg (by lia)];lia
 have tops:∀ m p,p<m->p<n->at' f p=at' g p:=by
  intro m
  induction m with
  | zero=>intro p h;lia
  |succ m ih=>
   intro p h hp;by_cases c:at' f p<n
   ·exact(up_eq F e hp c).symm
   ·by_cases d:at' g p<n
    ·exact up_eq G e.symm hp d
    ·have k1:=key V W e' p hp (fun q hq=>ih q (by lia) (by lia)) (by lia) (by lia);have k2:=key W V e'.symm p hp (fun q hq=>(ih q (by lia) (by lia)).symm) (by lia) (by lia);lia
 refine jZ F.len G.len fun x hx=>?_;by_cases c:x<n
 ·exact tops n x c c
 ·obtain⟨q,hq⟩:∃ q,x=n+q:=⟨x-n,by lia⟩
  subst hq;by_cases d:at' f (n+q)<n
  ·have:=tops n _ d d;rw[F.inv]at this;have:=congrArg (at' g) this;rw[G.inv]at this;exact this.symm
  ·exact(zX V W e' (by lia) (by lia)).symm
end
end RM
set_option maxHeartbeats 1000000
namespace RM
open RL RT
section
variable{cl:Cl}{xs:List Int}
end
end RM
set_option maxHeartbeats 1000000
namespace RT
open RL
abbrev gR(f_is_half:Nat):Fn :=
 ⟨1,1,[],[],(.cons (.ife (.not (.call f_is_half (.cons (.var 0) .nil))) (.cons (.rais "BadHalf" .nil) .nil) .nil) .nil)⟩
abbrev bX(f_check_half:Nat):Fn :=
 ⟨2,2,[],[],(.cons (.exc (.call f_check_half (.cons (.var 0) .nil))) (.cons (.exc (.call f_check_half (.cons (.var 1) .nil))) (.cons (.ife (.cmp .ne (.bi .len (.var 0)) (.bi .len (.var 1))) (.cons (.rais "BadPegs" .nil) .nil) .nil) .nil)))⟩
abbrev fH(f_tie f_going f_check_two_halves:Nat):Ss :=
 (.cons (.mexc f_tie (.cons (.var 5) (.cons (.var 6) (.cons (.bin .add (.var 4) (.var 7)) .nil))) [0] [5]) .nil)
abbrev fk(f_tie f_going f_check_two_halves:Nat):Fn :=
 ⟨2,9,[5],[],(.cons (.exc (.call f_check_two_halves (.cons (.var 0) (.cons (.var 1) .nil)))) (.cons (.asg 2 (.call f_going (.cons (.var 0) .nil))) (.cons (.asg 3 (.call f_going (.cons (.var 1) .nil))) (.cons (.ife (.cmp .ne (.bi .len (.var 2)) (.bi .len (.var 3))) (.cons (.rais "BadHalf" .nil) .nil) .nil) (.cons (.asg 4 (.bi .len (.var 0))) (.cons (.own 5 (.bin .add (.bi .list (.var 0)) (.compA (.bin .add (.var 4) (.var 8)) [8] (.seq (.var 1))))) (.cons (.forr [6,7] (.zip (.var 2) (.var 3)) (fH f_tie f_going f_check_two_halves)) (.cons (.ret (.bi .tuple (.var 5))) .nil))))))))⟩
abbrev mP:Fn :=
 ⟨1,3,[],[],(.cons (.ret (.comp (.var 1) [1,2] (.enm (.var 0)) (.cmp .eq (.var 1) (.var 2)))) .nil)⟩
end RT
namespace RM
open RL RT
section
variable{cl:Cl}{n:Nat}{h a b:List Nat}
def vA(hn:n<=10)(hl:h.length=n):evF cl mP [.tup (L h)]=some (.lst (L (fx n h))):=by
 have en:=jA hl
 have mc:=rf (F:=fun σ1=>((ev cl σ1 (.cmp .eq (.var 1) (.var 2))).bind truth).bind fun k=>if k then(ev cl σ1 (.var 1)).map some else some none) (tg:=[1,2]) (σ:=[some (.tup (L h)),none,none]) (h:=pr h) (g:=fun p=>.int (p:Nat)) (c:=fun p=>decide (at' h p=p)) (fun _=>rfl) (List.range n) (by
  intro p hp;show((ev cl [some (.tup (L h)),some (.int (p:Nat)),some (.int (at' h p:Nat))] (.cmp .eq (.var 1) (.var 2))).bind truth).bind (fun k=>if k then(ev cl [some (.tup (L h)),some (.int (p:Nat)),some (.int (at' h p:Nat))] (.var 1)).map some else some none)=_
  have q:bE .eq (.int (p:Nat)) (.int (at' h p:Nat))=some (decide (at' h p=p)):=by
   rw[dW];congr 1;rw[Bool.eq_iff_iff,beq_iff_eq,decide_eq_true_eq];lia
  rw[aX (aE (aa rfl) (aa rfl) q),Option.bind_some,aa rfl]
  split<;>rfl)
 rw[<-en]at mc;exact aT rfl rfl (aS (d:=.lst (L (fx n h))) (j6 (mw (aa rfl) rfl) (by rw[en,List.length_map,List.length_range];unfold most;lia) mc) (by unfold bc;rw[show aK (.lst (L (fx n h)))=true from aY _];rfl))
def uB(H:Hf n h):(List.range (h.map Int.ofNat).length).all (nb (h.map Int.ofNat))=true:=lQ H.len H.lt H.inv
def rS{fu fp fc:Nat}(h1:1<=n)(hn:n<=10)(H:Hf n h)(hc:∀ i:Int,cl fc [.int i]=some (.bl (decide (1<=i/\i<=10))))(hp:cl fp [.tup (L h)]=some (.bl true))(hu:cl fu [.tup (L h)]=some (.bl true)):evF cl (jX fu fp fc) [.tup (L h)]=some (.bl true):=by
 have ln:biV .len (.tup (L h))=some (.int (n:Nat)):=by
  show some (D.int ((L h).length:Nat))=_;rw[aG,H.len]
 have c:=hc (n:Nat);rw[decide_eq_true (by lia)]at c;exact aT rfl rfl (aS (cI (bx (aO (aa rfl) ln) c) (cI (bx (aa rfl) hp) (bx (aa rfl) hu))) rfl)
def kA:∀ (xs ys:List Nat),xs.length=ys.length->dY (L xs) (L ys)=(List.range xs.length).map fun k=>.tup [.int (at' xs k:Nat),.int (at' ys k:Nat)]
 | [],[],_=>rfl
 | x::r,y::s,e=>by
  rw[show L (x::r)=.int x::L r from rfl,show L (y::s)=.int y::L s from rfl,dY,kA r s (by simpa using e),List.length_cons,List.range_succ_eq_map,List.map_cons,List.map_map];congr 1;apply List.map_congr_left;intro p hp;have h1:=List.mem_range.mp hp
  have h2:p<s.length:=by
   have:r.length=s.length:=by simpa using e
   lia
  have e1:at' (x::r) (p+1)=at' r p:=by simp[at',h1]
  have e2:at' (y::s) (p+1)=at' s p:=by simp[at',h2]
  simp[e1,e2]
def uJ{ti go c2:Nat}(hn:n<=10)(A:Hf n a)(B:Hf n b)(t:(fx n a).length=(fx n b).length)(hc:cl c2 [.tup (L a),.tup (L b)]=some .non)(ga:cl go [.tup (L a)]=some (.lst (L (fx n a))))(gb:cl go [.tup (L b)]=some (.lst (L (fx n b))))(ht:∀ (xs:List Nat) (i j:Nat),i<xs.length->j<xs.length->cl ti [.lst (L xs),.int (i:Nat),.int (j:Nat)]=some (.tup [.non,.lst (L ((xs.set i j).set j i))])) :
  ∃ J:List Nat,Jn n a b J/\evF cl (fk ti go c2) [.tup (L a),.tup (L b)]=some (.tup (L J)):=by
 have ln:biV .len (.tup (L a))=some (.int (n:Nat)):=by
  show some (D.int ((L a).length:Nat))=_;rw[aG,A.len]
 have fl:(fx n a).length<=n:=by
  unfold fx;refine Nat.le_trans (List.length_filter_le _ _) ?_;rw[List.length_range];exact Nat.le_refl _
 have la:biV .len (.lst (L (fx n a)))=some (.int ((fx n a).length:Nat)):=by
  show some (D.int ((L (fx n a)).length:Nat))=_;rw[aG]
 have lb:biV .len (.lst (L (fx n b)))=some (.int ((fx n a).length:Nat)):=by
  show some (D.int ((L (fx n b)).length:Nat))=_;rw[aG,t]
 have mc:=fJ (F:=fun σ1=>(ev cl σ1 (.bin .add (.var 4) (.var 8))).map some) (tg:=[8]) (σ:=[some (.tup (L a)),some (.tup (L b)),some (.lst (L (fx n a))),some (.lst (L (fx n b))),some (.int (n:Nat)),none,none,none,none]) (g:=fun x=>.int ((n+x:Nat):Int)) (fun _=>rfl) b (by
  intro x _;show(ev cl [some (.tup (L a)),some (.tup (L b)),some (.lst (L (fx n a))),some (.lst (L (fx n b))),some (.int (n:Nat)),none,none,none,some (.int (x:Nat))] (.bin .add (.var 4) (.var 8))).map some=_;rw[az (aa rfl) (aa rfl) c9]
  rfl)
 have em:(b.map fun x=>D.int ((n+x:Nat):Int))=L (b.map fun x=>n+x):=by unfold L;rw[List.map_map];rfl
 rw[em]at mc
 have ad:aA .add (.lst (L a)) (.lst (L (b.map fun x=>n+x)))=some (.lst (L (a++b.map fun x=>n+x))):=by
  show(if(L a).length+(L (b.map fun x=>n+x)).length<=most then some (D.lst (L a++L (b.map fun x=>n+x)))else none)=_;rw[aG,aG,List.length_map,A.len,B.len,if_pos (by unfold most;lia),dG]
 have f1:∀ p,p<n->at' (a++b.map fun x=>n+x) p=at' a p:=fun p hp=>by
  have:=A.len;simp[at',List.getElem?_append_left (show p<a.length by lia)]
 have f2:∀ p,p<n->at' (a++b.map fun x=>n+x) (n+p)=n+at' b p:=fun p hp=>by
  have h1:=A.len;have h2:=B.len;unfold at';rw[List.getElem?_append_right (by lia),show n+p-a.length=p by lia,List.getElem?_map];simp[show p<b.length by lia]
 obtain⟨σ',e,J,o6,o7,rfl,jl,jt,jo⟩:=jU (f:=ag cl [5] (fH ti go c2)) (tg:=[6,7]) (fun k=>.tup [.int (at' (fx n a) k:Nat),.int (at' (fx n b) k:Nat)]) (fun _=>rfl)
  (fun u σ=>∃ (J:List Nat) (o6 o7:Option D),σ=[some (.tup (L a)),some (.tup (L b)),some (.lst (L (fx n a))),some (.lst (L (fx n b))),some (.int (n:Nat)),some (.lst (L J)),o6,o7,none]/\J.length=2*n/\(∀ k,k<u.length->at' J (at' (fx n a) k)=n+at' (fx n b) k/\at' J (n+at' (fx n b) k)=at' (fx n a) k)/\∀ x,(∀ k,k<u.length->x≠at' (fx n a) k/\x≠n+at' (fx n b) k)->at' J x=at' (a++b.map fun x=>n+x) x)
  (List.range (fx n a).length) [] [some (.tup (L a)),some (.tup (L b)),some (.lst (L (fx n a))),some (.lst (L (fx n b))),some (.int (n:Nat)),some (.lst (L (a++b.map fun x=>n+x))),none,none,none] (by
   rintro u p v σ hu ⟨J,o6,o7,rfl,jl,jt,jo⟩;obtain⟨hk,hp⟩:=cx (g:=id) (by simpa using hu);simp only[id]at hp;subst hp;have g1:=(bC (n:=n) (h:=a) hk).1;have g2:=(bC (n:=n) (h:=b) (k:=u.length) (by lia)).1
   have at1:∀ x,at' ((J.set (at' (fx n a) u.length) (n+at' (fx n b) u.length)).set (n+at' (fx n b) u.length) (at' (fx n a) u.length)) x=if x=n+at' (fx n b) u.length then at' (fx n a) u.length else if x=at' (fx n a) u.length then n+at' (fx n b) u.length else at' J x:=fun x=>by
    rw[dF (by rw[List.length_set,jl];lia),dF (by rw[jl];lia)]
   refine⟨_,show ag cl [5] (fH ti go c2) [some (.tup (L a)),some (.tup (L b)),some (.lst (L (fx n a))),some (.lst (L (fx n b))),some (.int (n:Nat)),some (.lst (L J)),some (.int (at' (fx n a) u.length:Nat)),some (.int (at' (fx n b) u.length:Nat)),none]=some (.nx,_)from tw (ay (aa rfl) (ay (aa rfl) (ay (az (d:=.int ((n+at' (fx n b) u.length:Nat):Int)) (aa rfl) (aa rfl) rfl) bA))) rfl (ht J _ _ (by rw[jl];lia) (by rw[jl];lia)) rfl bo,_,some (.int (at' (fx n a) u.length:Nat)),some (.int (at' (fx n b) u.length:Nat)),rfl,by rw[List.length_set,List.length_set,jl],fun k hk'=>?_,fun x hx=>?_⟩
   ·rw[List.length_append,List.length_singleton]at hk';by_cases c:k=u.length
    ·subst c;rw[at1,at1,if_neg (by lia),if_pos rfl,if_pos rfl];exact⟨rfl,rfl⟩
    ·have hk2:k<u.length:=by lia
     have q1:=kD (n:=n) (h:=a) hk2 hk;have q2:=kD (n:=n) (h:=b) hk2 (by lia);have q3:=(bC (n:=n) (h:=b) (k:=k) (by lia)).1;rw[at1,at1,if_neg (by lia),if_neg (by lia),if_neg (by lia),if_neg (by lia)];exact jt k hk2
   ·have z:=hx u.length (by rw[List.length_append,List.length_singleton];lia);rw[at1,if_neg z.2,if_neg z.1]
    exact jo x fun k hk'=>hx k (by rw[List.length_append];lia))
  ⟨_,none,none,rfl,by rw[List.length_append,List.length_map,A.len,B.len];lia,fun k hk=>absurd hk (Nat.not_lt_zero _),fun _ _=>rfl⟩
 rw[<-kA _ _ t]at e;rw[List.nil_append,List.length_range]at jt jo
 refine⟨J,⟨jl,jt,fun p hp c=>?_,fun p hp c=>?_⟩,aT rfl rfl (i4 (cX (aa rfl) (aa rfl) hc) (aD (bx (aa rfl) ga) (by unfold bb;rw[show aK (.lst (L (fx n a)))=true from aY _];rfl) (aD (bx (aa rfl) gb) (by unfold bb;rw[show aK (.lst (L (fx n b)))=true from aY _];rfl)
  (bL (aX (aE (aO (aa rfl) la) (aO (aa rfl) lb) (by rw[uR,beq_self_eq_true];rfl)))
  (aD (aO (aa rfl) ln) rfl
  (gP (az (aO (aa rfl) rfl) (dO (oU (aa rfl) rfl) (by rw[aG,B.len];unfold most;lia) mc) ad) (by rw[show aK (.lst (L (a++b.map fun x=>n+x)))=true from aY _];rfl)
  (fK (ph (aa rfl) (aa rfl) rfl rfl (by rw[aG,aG,t])) e (aS (aO (aa rfl) rfl) (by unfold bc;rw[show(D.tup (L J)).imm=true from aY _];rfl)))))))))⟩
 ·rw[jo p fun k hk=>⟨fun z=>c (by rw[z];exact(bC (n:=n) (h:=a) hk).2),by lia⟩,f1 p hp]
 ·rw[jo (n+p) fun k hk=>⟨by have:=(bC (n:=n) (h:=a) hk).1;lia,fun z=>c (by have:=(bC (n:=n) (h:=b) (k:=k) (by lia)).2;rw[show p=at' (fx n b) k by lia];exact this)⟩,f2 p hp]
end
end RM
set_option maxHeartbeats 1000000
namespace RL
open PySem (Str)
abbrev Rx(cl:Cl)(σ:St)(e:E)(c:Str):Prop:=ev cl σ e=none/\evX cl σ e=some c
abbrev Rr(cl:Cl)(M:List Nat)(b:Ss)(σ:St)(c:Str)(σ':St):Prop:=ag cl M b σ=none/\cq cl M b σ=some (c,σ')
abbrev Rc(cl:Cl)(f:Nat)(ds:List D)(c:Str):Prop:=cl f ds=none/\cl (f+1000) ds=some (.str c)
section
def Ci(h:evS cl M s σ=some (.nx,σ1))(k:Rr cl M r σ1 c σ'):Rr cl M (.cons s r) σ c σ':=by
 refine⟨?_,?_⟩
 ·rw[ag,h];exact k.1
 ·rw[cq,h];exact k.2
def ma(h:evS cl M s σ=none)(k:iK cl M s σ=some (c,σ')):Rr cl M (.cons s r) σ c σ':=by
 refine⟨?_,?_⟩
 ·rw[ag,h];rfl
 ·rw[cq,h];exact k
def qr(h:evs cl σ ps=some ds)(w:ds.all written=true):Rr cl M (.cons (.rais c ps) r) σ c σ:=ma (by rw[evS]) (by show(evs cl σ ps).bind _=_;rw[h,Option.bind_some,if_pos w])
def uf(h:Rx cl σ e c):Rr cl M (.cons (.exc e) r) σ c σ:=ma (by rw[evS,h.1];rfl) (by show(evX cl σ e).map _=_;rw[h.2];rfl)
def Fw(h:Rx cl σ e c):Rr cl M (.cons (.asg i e) r) σ c σ:=ma (by rw[evS,h.1];rfl) (by show(evX cl σ e).map _=_;rw[h.2];rfl)
def uy(h:(ev cl σ t).bind truth=some true)(k:Rr cl M a σ c σ'):Rr cl M (.cons (.ife t a b) r) σ c σ':=ma (by rw[evS,h];exact k.1) (by show((ev cl σ t).bind truth).bind _=_;rw[h];exact k.2)
def u6(h:ev cl σ e=some d)(k:Rr cl M r σ c σ'):Rr cl M (.cons (.exc e) r) σ c σ':=Ci (by rw[evS,h];rfl) k
def vb(h:evs cl σ es=some ds)(k:Rc cl f ds c):Rx cl σ (.call f es) c:=by
 refine⟨?_,?_⟩
 ·rw[ev,h];exact k.1
 ·show(match evs cl σ es with | some ds=>clX cl f ds | none=>mC cl σ es)=_;rw[h];show clX cl f ds=_;unfold clX;rw[k.2];rfl
def DS(h:ev cl σ e=some d)(k:Rc cl f [d] c):Rx cl σ (.call f (.cons e .nil)) c:=vb (ay h bA) k
def Dz(h:ev cl σ e=some d)(h':ev cl σ e'=some d')(k:Rc cl f [d,d'] c):Rx cl σ (.call f (.cons e (.cons e' .nil))) c:=vb (ay h (ay h' bA)) k
def Dt(h1:ag cl M b σ=some (.nx,σ1))(k:ag cl M r σ1=res):ag cl M (.cons (.tryc b c i h) r) σ=res:=d6 (by rw[evS,h1]) k
def Bp(h1:Rr cl M b σ n σ1)(hs:cH n c=true)(h2:ag cl M h (σ1.set i (some (.exc n)))=some (.nx,σ2))(k:ag cl M r (σ2.set i none)=res):ag cl M (.cons (.tryc b c i h) r) σ=res:=d6 (by
 rw[evS,h1.1];show(cq cl M b σ).bind _=_;rw[h1.2,Option.bind_some,if_pos hs,h2]
 rfl) k
end
def kH(h:T[f]?=some fn)(hT:T.length<=1000)(hl:ds.length=fn.ps)(hm:fn.mp=[])(k:Rr (ak T n) fn.M fn.body (ds.map some++List.replicate (fn.nn-fn.ps) none) c σ'):Rc (ak T (n+1)) f ds c:=by
 refine⟨?_,?_⟩
 ·rw[ak,h];show(if ds.length=fn.ps then _ else none)=none;rw[if_pos hl,k.1];rfl
 ·rw[ak,List.getElem?_eq_none (by omega)];show(T[f+1000-1000]?).bind _=_;rw[Nat.add_sub_cancel,h,Option.bind_some,if_pos ⟨hl,hm⟩,k.2];rfl
end RL
namespace RT
open RL
abbrev j7:Fn :=
 ⟨1,5,[1],[],(.cons (.own 1 (.lst (.cons (.isx (.var 0) "BadPegs") (.cons (.isx (.var 0) "BadFrame") (.cons (.isx (.var 0) "BadHalf") (.cons (.isx (.var 0) "BadHook") .nil)))))) (.cons (.own 1 (.bin .add (.var 1) (.lst (.cons (.isx (.var 0) "BadName") (.cons (.isx (.var 0) "NoNumber") (.cons (.isx (.var 0) "NoFrame") (.cons (.isx (.var 0) "NoStack") .nil))))))) (.cons (.own 1 (.bin .add (.var 1) (.lst (.cons (.isx (.var 0) "NoPlace") (.cons (.isx (.var 0) "Taken") (.cons (.isx (.var 0) "Full") (.cons (.isx (.var 0) "NothingThere") .nil))))))) (.cons (.own 1 (.bin .add (.var 1) (.lst (.cons (.isx (.var 0) "BadTrade") (.cons (.isx (.var 0) "Hangs") (.cons (.isx (.var 0) "BadPage") .nil)))))) (.cons (.app 1 (.not (.isx (.var 0) "ValueError"))) (.cons (.asg 2 (.lst (.cons (.cst (.str "BadPegs")) (.cons (.cst (.str "BadFrame")) (.cons (.cst (.str "BadHalf")) (.cons (.cst (.str "BadHook")) (.cons (.cst (.str "BadName")) (.cons (.cst (.str "NoNumber")) (.cons (.cst (.str "NoFrame")) (.cons (.cst (.str "NoStack")) (.cons (.cst (.str "NoPlace")) .nil))))))))))) (.cons (.asg 2 (.bin .add (.var 2) (.lst (.cons (.cst (.str "Taken")) (.cons (.cst (.str "Full")) (.cons (.cst (.str "NothingThere")) (.cons (.cst (.str "BadTrade")) (.cons (.cst (.str "Hangs")) (.cons (.cst (.str "BadPage")) (.cons (.cst (.str "odd")) .nil)))))))))) (.cons (.ret (.join (.comp (.var 3) [3,4] (.zip (.var 2) (.var 1)) (.var 4)))) .nil))))))))⟩
end RT
namespace RM
open RL RT
def DC(h:c∈(["BadPegs", "BadFrame", "BadHalf", "BadHook", "BadName", "NoNumber", "NoFrame", "NoStack"]:List PySem.Str)):evF cl j7 [.exc c]=some (.str c):=by
 simp only[List.mem_cons,List.not_mem_nil,or_false]at h;rcases h with rfl | rfl | rfl | rfl | rfl | rfl | rfl | rfl<;>rfl
end RM
set_option maxHeartbeats 1000000
namespace RM
open RL RT
end RM
set_option maxHeartbeats 1000000
namespace RT
open RL
abbrev jV(f_going f_check_half:Nat):Fn :=
 ⟨1,1,[],[],(.cons (.exc (.call f_check_half (.cons (.var 0) .nil))) (.cons (.ret (.bi .len (.call f_going (.cons (.var 0) .nil)))) .nil))⟩
end RT
namespace RM
open RL RT
section
variable{cl:Cl}
def Cz{M:List Nat}{e:E}(i:Int):bb M e (.int i)=true:=rfl
def Cc{M:List Nat}{e:E}(i:Int):bc M e (.int i)=true:=rfl
end
end RM
set_option maxHeartbeats 1000000
namespace RM
open RL RT
def lT{M:List Nat}{e:E}(xs:List Nat):bb M e (.tup (L xs))=true:=by
 unfold bb;rw[show(D.tup (L xs)).imm=true from aY xs];rfl
def lV{M:List Nat}{e:E}(xs:List Nat):bc M e (.tup (L xs))=true:=by
 unfold bc;rw[show(D.tup (L xs)).imm=true from aY xs];rfl
section
variable{T:List Fn}{hf nf td wy ch:Nat}
end
end RM
set_option maxHeartbeats 1000000
namespace RM
open RL RT
section
variable{T:List Fn}{hf nf td wy ch:Nat}
end
end RM
set_option maxHeartbeats 1000000
namespace RM
open RL RT
section
variable{cl:Cl}{n:Nat}{f h:List Nat}
def j3(hn:n<=10)(F:Frm n f):evF cl fz [.tup (L f)]=some (.tup (L (upL n f))):=by
 have ln:=half (xs:=L f) (n:=n) (by rw[aG,F.len])
 have mc:=iF (F:=fun σ1=>(ev cl σ1 (.ix (.lst (.cons (.ix (.var 0) (.var 2)) (.cons (.var 2) .nil))) (.bi .int (.cmp .ge (.ix (.var 0) (.var 2)) (.var 1))))).map some) (tg:=[2]) (σ:=[some (.tup (L f)),some (.int (n:Nat)),none]) (h:=fun p=>.int (p:Nat)) (g:=fun p=>.int (up n f p:Nat)) (fun _=>rfl) (List.range n) (by
  intro p hp;have hp:=List.mem_range.mp hp;have ix:ixV (.tup (L f)) (.int (p:Nat))=some (.int (at' f p:Nat)):=dh (by rw[F.len];lia);show(ev cl [some (.tup (L f)),some (.int (n:Nat)),some (.int (p:Nat))] (.ix (.lst (.cons (.ix (.var 0) (.var 2)) (.cons (.var 2) .nil))) (.bi .int (.cmp .ge (.ix (.var 0) (.var 2)) (.var 1))))).map some=_;unfold up;by_cases c:at' f p<n
  ·rw[if_pos c,cM (cD (ay (cM (aa rfl) (aa rfl) ix) (ay (aa rfl) bA))) (aO (aE (k:=false) (cM (aa rfl) (aa rfl) ix) (aa rfl) (by rw[mX,decide_eq_false (by lia)])) rfl) (show ixV (.lst [.int (at' f p:Nat),.int (p:Nat)]) (.int 0)=some (.int (at' f p:Nat))from rfl)];rfl
  ·rw[if_neg c,cM (cD (ay (cM (aa rfl) (aa rfl) ix) (ay (aa rfl) bA))) (aO (aE (k:=true) (cM (aa rfl) (aa rfl) ix) (aa rfl) (by rw[mX,decide_eq_true (by lia)])) rfl) (show ixV (.lst [.int (at' f p:Nat),.int (p:Nat)]) (.int 1)=some (.int (p:Nat))from rfl)]
   rfl)
 refine aT rfl rfl (aD (d:=.int (n:Nat)) (az (aO (aa rfl) ln) aq (by rw[kF (by decide) (by decide),show(2*(n:Int)) / 2=(n:Nat) by lia])) (Cz _) (aS (d:=.tup (L (upL n f))) (aO (dO (eZ (aa rfl) (bR (by lia))) (by rw[aG,List.length_range];unfold most;lia) mc) ?_) (lV _)));unfold upL L;rw[List.map_map];rfl
end
section
variable{T:List Fn}{nu pc pa nb un if' cf po rp ir mv hf nf td wy ch cn ih chf go to hmh ho hnm cp n:Nat}{h:List Nat}
end
end RM
set_option maxHeartbeats 1000000
namespace RT
open RL
abbrev fP:Ss :=
 (.cons (.put 3 (.var 6) (.bin .add (.var 2) (.var 7))) (.cons (.put 3 (.bin .add (.var 2) (.var 7)) (.var 6)) .nil))
abbrev gO:Fn :=
 ⟨2,10,[3],[],(.cons (.asg 2 (.bi .len (.var 0))) (.cons (.own 3 (.bin .add (.bi .list (.var 0)) (.compA (.bin .add (.var 2) (.var 9)) [9] (.seq (.var 1))))) (.cons (.asg 4 (.comp (.var 8) [8] (.rng1 (.var 2)) (.cmp .eq (.ix (.var 0) (.var 8)) (.var 8)))) (.cons (.asg 5 (.comp (.var 8) [8] (.rng1 (.var 2)) (.cmp .eq (.ix (.var 1) (.var 8)) (.var 8)))) (.cons (.forr [6,7] (.zip (.var 4) (.var 5)) (fP)) (.cons (.ret (.bi .tuple (.var 3))) .nil))))))⟩
end RT
namespace RM
open RL RT
abbrev jst(n:Nat)(a b:List Nat)(J:List Nat)(k:Nat):List Nat:=(J.set (at' (fx n a) k) (n+at' (fx n b) k)).set (n+at' (fx n b) k) (at' (fx n a) k)
abbrev jnL(n:Nat)(a b:List Nat):List Nat:=(List.range (fx n a).length).foldl (jst n a b) (a++b.map fun x=>n+x)
section
variable{cl:Cl}{n:Nat}{a b:List Nat}
def mQ(u:List Nat):∀ J:List Nat,(u.foldl (jst n a b) J).length=J.length:=by
 induction u with
 | nil=>intro J;rfl
 | cons k r ih=>intro J;rw[List.foldl_cons,ih];unfold jst;rw[List.length_set,List.length_set]
def yV(xs:List Nat):biV .len (.tup (L xs))=some (.int (xs.length:Nat)):=by
 show some (D.int ((L xs).length:Nat))=_;rw[aG]
def jR(xs:List Nat):biV .len (.lst (L xs))=some (.int (xs.length:Nat)):=by
 show some (D.int ((L xs).length:Nat))=_;rw[aG]
def mz(x y:Nat):bE .eq (.int (x:Nat)) (.int (y:Nat))=some (decide (x=y)):=by
 rw[dW];congr 1;rw[Bool.eq_iff_iff,beq_iff_eq,decide_eq_true_eq];exact Int.ofNat_inj
def iB(x y:Nat):aA .add (.int (x:Nat)) (.int (y:Nat))=some (.int ((x+y:Nat):Int)):=rfl
def rD(hn:n<=10)(A:a.length=n)(B:b.length=n):aA .add (.lst (L a)) (.lst (L (b.map fun x=>n+x)))=some (.lst (L (a++b.map fun x=>n+x))):=by
 show(if(L a).length+(L (b.map fun x=>n+x)).length<=most then some (D.lst (L a++L (b.map fun x=>n+x)))else none)=_;rw[aG,aG,List.length_map,A,B,if_pos (by unfold most;lia),dG]
def oC(b:List Nat):(b.map fun x=>D.int ((n+x:Nat):Int))=L (b.map fun x=>n+x):=by unfold L;rw[List.map_map];rfl
def nt(hn:n<=10)(A:Hf n a)(B:Hf n b)(t:(fx n a).length=(fx n b).length):evF cl gO [.tup (L a),.tup (L b)]=some (.tup (L (jnL n a b))):=by
 have ln:=yV a;rw[A.len]at ln
 have mc:=fJ (F:=fun σ1=>(ev cl σ1 (.bin .add (.var 2) (.var 9))).map some) (tg:=[9]) (σ:=[some (.tup (L a)),some (.tup (L b)),some (.int (n:Nat)),none,none,none,none,none,none,none]) (g:=fun x=>.int ((n+x:Nat):Int)) (fun _=>rfl) b (by
  intro x _;show(ev cl [some (.tup (L a)),some (.tup (L b)),some (.int (n:Nat)),none,none,none,none,none,none,some (.int (x:Nat))] (.bin .add (.var 2) (.var 9))).map some=_;rw[az (aa rfl) (aa rfl) (iB _ _)]
  rfl)
 rw[oC]at mc
 have sel:∀ (i:Nat) (h:List Nat) (o4 o5:Option D) (J:D),(∀ o8,(([some (.tup (L a)),some (.tup (L b)),some (.int (n:Nat)),some J,o4,o5,none,none,o8,none]:St)[i]?).bind id=some (.tup (L h)))->h.length=n ->
   cu (fun σ1=>((ev cl σ1 (.cmp .eq (.ix (.var i) (.var 8)) (.var 8))).bind truth).bind fun k=>if k then(ev cl σ1 (.var 8)).map some else some none) [8] [some (.tup (L a)),some (.tup (L b)),some (.int (n:Nat)),some J,o4,o5,none,none,none,none] (L (List.range n))=some (L (fx n h)):=fun i h o4 o5 J hi hl =>
  jK (g:=fun x=>.int (x:Nat)) (c:=fun q=>decide (at' h q=q)) (fun _=>rfl) (List.range n) (by
   intro x hx;have hx:=List.mem_range.mp hx;show((ev cl [some (.tup (L a)),some (.tup (L b)),some (.int (n:Nat)),some J,o4,o5,none,none,some (.int (x:Nat)),none] (.cmp .eq (.ix (.var i) (.var 8)) (.var 8))).bind truth).bind _=_;rw[aX (aE (cM (aa (hi _)) (aa rfl) (dh (by lia))) (aa rfl) (mz _ _)),Option.bind_some];show(if decide (at' h x=x)=true then(ev cl [some (.tup (L a)),some (.tup (L b)),some (.int (n:Nat)),some J,o4,o5,none,none,some (.int (x:Nat)),none] (.var 8)).map some else some none)=_;rw[aa rfl]
   split<;>rfl)
 obtain⟨σ',e,o6,o7,rfl⟩:=jU (f:=ag cl [3] fP) (tg:=[6,7]) (fun k=>.tup [.int (at' (fx n a) k:Nat),.int (at' (fx n b) k:Nat)]) (fun _=>rfl)
  (fun u σ=>∃ (o6 o7:Option D),σ=[some (.tup (L a)),some (.tup (L b)),some (.int (n:Nat)),some (.lst (L (u.foldl (jst n a b) (a++b.map fun x=>n+x)))),some (.lst (L (fx n a))),some (.lst (L (fx n b))),o6,o7,none,none])
  (List.range (fx n a).length) [] [some (.tup (L a)),some (.tup (L b)),some (.int (n:Nat)),some (.lst (L (a++b.map fun x=>n+x))),some (.lst (L (fx n a))),some (.lst (L (fx n b))),none,none,none,none] (by
   rintro u p v σ hu ⟨o6,o7,rfl⟩;obtain⟨hk,hp⟩:=cx (g:=id) (by simpa using hu);simp only[id]at hp;subst hp;have g1:=(bC (n:=n) (h:=a) hk).1;have g2:=(bC (n:=n) (h:=b) (k:=u.length) (by lia)).1;have jl:=mQ (n:=n) (a:=a) (b:=b) u (a++b.map fun x=>n+x);rw[List.length_append,List.length_map,A.len,B.len]at jl;rw[List.foldl_append];generalize u.foldl (jst n a b) (a++b.map fun x=>n+x)=J at *;have p1:df (.lst (L J)) (.int (at' (fx n a) u.length:Nat)) (.int ((n+at' (fx n b) u.length:Nat):Int))=some (.lst (L (J.set (at' (fx n a) u.length) (n+at' (fx n b) u.length)))):=eR (by lia);have p2:df (.lst (L (J.set (at' (fx n a) u.length) (n+at' (fx n b) u.length)))) (.int ((n+at' (fx n b) u.length:Nat):Int)) (.int (at' (fx n a) u.length:Nat))=some (.lst (L (jst n a b J u.length))):=eR (by rw[List.length_set];lia)
   exact⟨_,show ag cl [3] fP [some (.tup (L a)),some (.tup (L b)),some (.int (n:Nat)),some (.lst (L J)),some (.lst (L (fx n a))),some (.lst (L (fx n b))),some (.int (at' (fx n a) u.length:Nat)),some (.int (at' (fx n b) u.length:Nat)),none,none]=some (.nx,_)from me (az (aa rfl) (aa rfl) (iB _ _)) (aa rfl) rfl rfl p1 (me (aa rfl) (az (aa rfl) (aa rfl) (iB _ _)) rfl rfl p2 bo),some (.int (at' (fx n a) u.length:Nat)),some (.int (at' (fx n b) u.length:Nat)),rfl⟩)
  ⟨none,none,rfl⟩
 rw[<-kA _ _ t]at e;have r1:c8 (.int 0) (.int (n:Nat))=some (L (List.range n)):=bR (by lia)
 have lr:(L (List.range n)).length<=most:=by rw[aG,List.length_range];unfold most;lia
 have im:∀ xs:List Nat,aK (.lst (L xs))=true:=fun xs=>aY xs
 exact aT rfl rfl (aD (aO (aa rfl) ln) rfl
  (gP (az (aO (aa rfl) rfl) (dO (oU (aa rfl) rfl) (by rw[aG,B.len];unfold most;lia) mc) (rD hn A.len B.len)) (by rw[im];rfl)
  (aD (j6 (eZ (aa rfl) r1) lr (sel 0 a none none _ (fun _=>rfl) A.len)) (by unfold bb;rw[im];rfl)
  (aD (j6 (eZ (aa rfl) r1) lr (sel 1 b _ none _ (fun _=>rfl) B.len)) (by unfold bb;rw[im];rfl)
  (fK (ph (aa rfl) (aa rfl) rfl rfl (by rw[aG,aG,t])) e (aS (aO (aa rfl) rfl) (by unfold bc;rw[show(D.tup (L (jnL n a b))).imm=true from aY _];rfl)))))))
def rY{ti go c2:Nat}(hn:n<=10)(A:Hf n a)(B:Hf n b)(t:(fx n a).length=(fx n b).length)(hc:cl c2 [.tup (L a),.tup (L b)]=some .non)(ga:cl go [.tup (L a)]=some (.lst (L (fx n a))))(gb:cl go [.tup (L b)]=some (.lst (L (fx n b))))(ht:∀ (xs:List Nat) (i j:Nat),i<xs.length->j<xs.length->cl ti [.lst (L xs),.int (i:Nat),.int (j:Nat)]=some (.tup [.non,.lst (L ((xs.set i j).set j i))])) :
  evF cl (fk ti go c2) [.tup (L a),.tup (L b)]=some (.tup (L (jnL n a b))):=by
 have ln:=yV a;rw[A.len]at ln;have la:=jR (fx n a);have lb:=jR (fx n b);rw[<-t]at lb
 have mc:=fJ (F:=fun σ1=>(ev cl σ1 (.bin .add (.var 4) (.var 8))).map some) (tg:=[8]) (σ:=[some (.tup (L a)),some (.tup (L b)),some (.lst (L (fx n a))),some (.lst (L (fx n b))),some (.int (n:Nat)),none,none,none,none]) (g:=fun x=>.int ((n+x:Nat):Int)) (fun _=>rfl) b (by
  intro x _;show(ev cl [some (.tup (L a)),some (.tup (L b)),some (.lst (L (fx n a))),some (.lst (L (fx n b))),some (.int (n:Nat)),none,none,none,some (.int (x:Nat))] (.bin .add (.var 4) (.var 8))).map some=_;rw[az (aa rfl) (aa rfl) (iB _ _)]
  rfl)
 rw[oC]at mc
 obtain⟨σ',e,o6,o7,rfl⟩:=jU (f:=ag cl [5] (fH ti go c2)) (tg:=[6,7]) (fun k=>.tup [.int (at' (fx n a) k:Nat),.int (at' (fx n b) k:Nat)]) (fun _=>rfl)
  (fun u σ=>∃ (o6 o7:Option D),σ=[some (.tup (L a)),some (.tup (L b)),some (.lst (L (fx n a))),some (.lst (L (fx n b))),some (.int (n:Nat)),some (.lst (L (u.foldl (jst n a b) (a++b.map fun x=>n+x)))),o6,o7,none])
  (List.range (fx n a).length) [] [some (.tup (L a)),some (.tup (L b)),some (.lst (L (fx n a))),some (.lst (L (fx n b))),some (.int (n:Nat)),some (.lst (L (a++b.map fun x=>n+x))),none,none,none] (by
   rintro u p v σ hu ⟨o6,o7,rfl⟩;obtain⟨hk,hp⟩:=cx (g:=id) (by simpa using hu);simp only[id]at hp;subst hp;have g1:=(bC (n:=n) (h:=a) hk).1;have g2:=(bC (n:=n) (h:=b) (k:=u.length) (by lia)).1;have jl:=mQ (n:=n) (a:=a) (b:=b) u (a++b.map fun x=>n+x);rw[List.length_append,List.length_map,A.len,B.len]at jl;rw[List.foldl_append];generalize u.foldl (jst n a b) (a++b.map fun x=>n+x)=J at *
   exact⟨_,show ag cl [5] (fH ti go c2) [some (.tup (L a)),some (.tup (L b)),some (.lst (L (fx n a))),some (.lst (L (fx n b))),some (.int (n:Nat)),some (.lst (L J)),some (.int (at' (fx n a) u.length:Nat)),some (.int (at' (fx n b) u.length:Nat)),none]=some (.nx,_)from tw (ay (aa rfl) (ay (aa rfl) (ay (az (aa rfl) (aa rfl) (iB _ _)) bA))) rfl (ht J _ _ (by lia) (by lia)) rfl bo,some (.int (at' (fx n a) u.length:Nat)),some (.int (at' (fx n b) u.length:Nat)),rfl⟩)
  ⟨none,none,rfl⟩
 rw[<-kA _ _ t]at e;have im:∀ xs:List Nat,aK (.lst (L xs))=true:=fun xs=>aY xs
 exact aT rfl rfl (i4 (cX (aa rfl) (aa rfl) hc) (aD (bx (aa rfl) ga) (by unfold bb;rw[im];rfl) (aD (bx (aa rfl) gb) (by unfold bb;rw[im];rfl)
  (bL (aX (aE (aO (aa rfl) la) (aO (aa rfl) lb) (by rw[uR,beq_self_eq_true];rfl)))
  (aD (aO (aa rfl) ln) rfl
  (gP (az (aO (aa rfl) rfl) (dO (oU (aa rfl) rfl) (by rw[aG,B.len];unfold most;lia) mc) (rD hn A.len B.len)) (by rw[im];rfl)
  (fK (ph (aa rfl) (aa rfl) rfl rfl (by rw[aG,aG,t])) e (aS (aO (aa rfl) rfl) (lV _)))))))))
def yT{f:List Nat}(V:Val n f)(J:Jn n (upL n f) (upL n (bg n (ovr n) (ovr n) f)) (jnL n (upL n f) (upL n (bg n (ovr n) (ovr n) f))))(t:(fx n (upL n f)).length=(fx n (upL n (bg n (ovr n) (ovr n) f))).length):jnL n (upL n f) (upL n (bg n (ovr n) (ovr n) f))=f :=
 have A:=iA V;have B:=iA ((cY n).val V)
 wB (J.val A B t) V (J.up A t) (J.dn A B t)
def wO{M:List Nat}{σ σ':St}{e:E}{d:D}{i:Nat}{r:Ss}{c:PySem.Str}(h:ev cl σ e=some d)(ok:bb M e d=true)(k:Rr cl M r (σ.set i (some d)) c σ'):Rr cl M (.cons (.asg i e) r) σ c σ':=Ci (by
 show(ev cl σ e).bind _=_
 rw[h,Option.bind_some,if_pos ok]) k
end
section
variable{T:List Fn}{mx rw dg pl hk ci ft tx rg hu ov fr:Nat}
def Dr.frames(D0:Dr T mx rw dg pl hk ci ft tx rg hu ov fr){fs:Nat}(hfs:T[fs]?=some (gN fr)){ns:List Int}(hl:ns.length<=63)(n:Nat){k m q:Nat}(hk':k<=500)(h1:1<=m)(hm:m<=10)(hq:q<=100) :
  ∃ fs':List (List Nat),fs'.length=q/\(∀ f∈fs',Val m f)/\ak T (n+5) fs [.lst (LI ns),.int k,.int m,.int q]=some (.lst (fs'.map fun f=>.tup (L f))) :=
 Fb hfs n hq fun i hi=>D0.frame hl n (k:=k+i) (by omega) h1 hm
end
end RM
set_option maxHeartbeats 1000000
namespace K13
open RL RT
abbrev iV(f_joined f_law_kin:Nat):Fn :=
 ⟨2,4,[],[],(.cons (.asg 2 (.cst .non)) (.cons (.tryc (.cons (.asg 2 (.call f_joined (.cons (.var 0) (.cons (.var 1) .nil)))) .nil) "RibbonError" 3 (.cons (.asg 2 (.call f_law_kin (.cons (.var 3) .nil))) .nil)) (.cons (.ret (.var 2)) .nil)))⟩
abbrev oH(f_through_of f_law_kin:Nat):Fn :=
 ⟨1,3,[],[],(.cons (.asg 1 (.cst .non)) (.cons (.tryc (.cons (.asg 1 (.call f_through_of (.cons (.var 0) .nil))) .nil) "RibbonError" 2 (.cons (.asg 1 (.call f_law_kin (.cons (.var 2) .nil))) .nil)) (.cons (.ret (.var 1)) .nil)))⟩
abbrev kI(f_law_through f_law_word:Nat):Ss :=
 (.cons (.asg 1 (.rngT (.bi .len (.var 0)))) (.cons (.asg 2 (.lst (.cons (.call f_law_through (.cons (.var 0) .nil)) (.cons (.call f_law_word (.cons (.var 0) (.cons (.var 1) .nil))) (.cons (.call f_law_word (.cons (.var 1) (.cons (.var 0) .nil))) (.cons (.call f_law_word (.cons (.var 0) (.cons (.tup (.cons (.cst (.int 1)) .nil)) .nil))) .nil)))))) (.cons (.ife (.cmp .ne (.var 2) (.bin .mul (.lst (.cons (.cst (.str "BadHalf")) .nil)) (.cst (.int 4)))) (.cons (.ret (.cst (.bl false))) .nil) .nil) .nil)))
abbrev ly(f_law_through f_law_word:Nat):Fn :=
 ⟨0,3,[],[],(.cons (.forr [0] (.seq (.lst (.cons (.tup (.cons (.cst (.int 1)) .nil)) (.cons (.tup (.cons (.cst (.int 1)) (.cons (.cst (.int 1)) .nil))) (.cons (.tup (.cons (.cst (.int 2)) (.cons (.cst (.int 0)) .nil))) (.cons (.tup (.cons (.cst (.int 1)) (.cons (.cst (.int 2)) (.cons (.cst (.int 0)) .nil)))) (.cons (.tup (.cons (.cst (.int 2)) (.cons (.cst (.int 1)) (.cons (.cst (.int 0)) .nil)))) (.cons (.tup (.cons (.cst (.int 2)) (.cons (.cst (.int 3)) (.cons (.cst (.int 0)) (.cons (.cst (.int 1)) .nil))))) (.cons (.tup (.cons (.cst (.int 0)) (.cons (.cst (.int 3)) (.cons (.cst (.int 2)) (.cons (.cst (.int 1)) .nil))))) .nil))))))))) (kI f_law_through f_law_word)) (.cons (.ret (.cst (.bl true))) .nil))⟩
abbrev wZ(f_law_bad_halves f_law_word f_law_same f_law_joined f_law_lower f_through_of f_joined f_law_upper f_upper f_lower f_law_frames f_law_digits:Nat):Ss :=
 (.cons (.ife (.not (.call f_law_same (.cons (.call f_law_word (.cons (.var 10) (.cons (.var 4) .nil))) (.cons (.var 5) .nil)))) (.cons (.ret (.cst (.bl false))) .nil) .nil) (.cons (.asg 6 (.rngT (.bin .add (.cst (.int 1)) (.bin .mod (.var 2) (.cst (.int 10)))))) (.cons (.asg 7 (.lst (.cons (.call f_law_word (.cons (.var 10) (.cons (.var 6) .nil))) (.cons (.call f_law_word (.cons (.var 6) (.cons (.tup (.cons (.cst (.int 1)) (.cons (.cst (.int 1)) .nil))) .nil))) (.cons (.call f_law_word (.cons (.tup (.cons (.cst (.int 2)) (.cons (.cst (.int 0)) .nil))) (.cons (.var 6) .nil))) .nil))))) (.cons (.ife (.cmp .ne (.var 7) (.lst (.cons (.cst (.str "BadPegs")) (.cons (.cst (.str "BadHalf")) (.cons (.cst (.str "BadHalf")) .nil))))) (.cons (.ret (.cst (.bl false))) .nil) .nil) .nil))))
abbrev uW(f_law_bad_halves f_law_word f_law_same f_law_joined f_law_lower f_through_of f_joined f_law_upper f_upper f_lower f_law_frames f_law_digits:Nat):Ss :=
 (.cons (.asg 2 (.bin .add (.cst (.int 1)) (.ix (.call f_law_digits (.cons (.var 0) (.cons (.bin .add (.cst (.int 40)) (.var 1)) (.cons (.lst (.cons (.cst (.int 10)) .nil)) .nil)))) (.cst (.int 0))))) (.cons (.unp [8,9] (.call f_law_frames (.cons (.var 0) (.cons (.bin .mul (.cst (.int 2)) (.var 1)) (.cons (.var 2) (.cons (.cst (.int 2)) .nil)))))) (.cons (.par 10 11 (.call f_upper (.cons (.var 8) .nil)) (.call f_lower (.cons (.var 8) .nil))) (.cons (.ife (.not (.call f_law_same (.cons (.lst (.cons (.var 10) (.cons (.var 11) .nil))) (.cons (.lst (.cons (.call f_law_upper (.cons (.var 8) .nil)) (.cons (.call f_law_lower (.cons (.var 8) .nil)) .nil))) .nil)))) (.cons (.ret (.cst (.bl false))) .nil) .nil) (.cons (.ife (.not (.call f_law_same (.cons (.call f_joined (.cons (.var 10) (.cons (.var 11) .nil))) (.cons (.var 8) .nil)))) (.cons (.ret (.cst (.bl false))) .nil) .nil) (.cons (.asg 3 (.comp (.var 12) [12] (.rng1 (.var 2)) (.cmp .ge (.ix (.var 8) (.var 12)) (.var 2)))) (.cons (.ife (.not (.call f_law_same (.cons (.lst (.cons (.call f_through_of (.cons (.var 10) .nil)) (.cons (.call f_through_of (.cons (.var 11) .nil)) .nil))) (.cons (.bin .mul (.lst (.cons (.bi .len (.var 3)) .nil)) (.cst (.int 2))) .nil)))) (.cons (.ret (.cst (.bl false))) .nil) .nil) (.cons (.asg 4 (.call f_law_lower (.cons (.var 9) .nil))) (.cons (.asg 5 (.cst (.str "BadHalf"))) (.cons (.ife (.cmp .eq (.bi .len (.comp (.var 12) [12] (.rng1 (.var 2)) (.cmp .eq (.ix (.var 4) (.var 12)) (.var 12)))) (.bi .len (.var 3))) (.cons (.asg 5 (.call f_law_joined (.cons (.var 10) (.cons (.var 4) .nil)))) .nil) .nil) (wZ f_law_bad_halves f_law_word f_law_same f_law_joined f_law_lower f_through_of f_joined f_law_upper f_upper f_lower f_law_frames f_law_digits)))))))))))
abbrev zC(f_law_bad_halves f_law_word f_law_same f_law_joined f_law_lower f_through_of f_joined f_law_upper f_upper f_lower f_law_frames f_law_digits:Nat):Fn :=
 ⟨1,13,[],[],(.cons (.asg 0 (.slT (.var 0) (.cst (.int 63)))) (.cons (.forr [1] (.rng1 (.cst (.int 9))) (uW f_law_bad_halves f_law_word f_law_same f_law_joined f_law_lower f_through_of f_joined f_law_upper f_upper f_lower f_law_frames f_law_digits)) (.cons (.ret (.call0 f_law_bad_halves)) .nil)))⟩
abbrev T:List Fn:=[ie,dS 0,c6 1,eM 4,eK 0,dM,oS,fW 5 13 3 1 9,et 7,j9,gh 2,jB 14 10 9 8,di,gc 14 12 9,k6,jX 5 3 1,gR 15,bX 16,kC 9 8,sU 18 11,jV 22 16,fk 6 22 17,mP,j7,jN,jC 24,eN 25,eg,fV 27,eV,eY 29,iJ,dJ,eU 32,fT,ig 33 34 30 31 28 27 26,gN 35,de 37,fz,kL 38 34,gO,iV 21 23,oH 20 23,ly 42 41,zC 43 41 37 40 39 20 21 38 18 19 36 26]
open RM
def wG{cl:Cl}{m N:Nat}{M:List Nat}{B:Ss}{e':E}{ns:List Int}(hl:ns.length<=63)(hN:N<=1000)
 (turn:∀ (k:Nat) (os:List (Option D)),k<N->os.length=m->∃ os',os'.length=m+1/\ag cl M B (some (.lst (LI ns))::some (.int (k:Nat))::os)=some (.nx,some (.lst (LI ns))::os'))
 (fin:∀ os:List (Option D),os.length=m+1->ev cl (some (.lst (LI ns))::os) e'=some (.bl true)) :
  evF cl ⟨1,m+2,M,[],.cons (.asg 0 (.slT (.var 0) (.cst (.int 63)))) (.cons (.forr [1] (.rng1 (.cst (.int (N:Nat)))) B) (.cons (.ret e') .nil))⟩ [.scr (LI ns)]=some (.bl true):=by
 have e1:=bR (n:=N) hN
 obtain⟨σ',e,os,hos,rfl⟩:=dA (f:=ag cl M B) (tg:=[1]) (xs:=List.range N) (σ:=some (.lst (LI ns))::List.replicate (m+1) none) (fun _ σ=>∃ os:List (Option D),os.length=m+1/\σ=some (.lst (LI ns))::os) ⟨_,by simp,rfl⟩ (by
  rintro p x q σ hx ⟨os,ho,rfl⟩
  have hxN:x<N:=by
   have:x∈List.range N:=by rw[hx];simp
   simpa using this
  cases os with
  | nil=>simp at ho
  |cons o os=>
   obtain⟨os',h1,h2⟩:=turn x os hxN (by simpa using ho)
   exact⟨_,by simpa[aF]using h2,os',h1,rfl⟩)
 exact aT rfl rfl (aD (zW (aa rfl) aq (Fm hl)) (by simp[bb,D.imm,aK,vF]) (fK (eZ aq e1) e (aS (fin os hos) rfl)))
def CI{α:Type}:∀ {os:List α},os.length=11->∃ a b c d e f g h i j k,os=[a,b,c,d,e,f,g,h,i,j,k]
 | [a,b,c,d,e,f,g,h,i,j,k],_=>⟨a,b,c,d,e,f,g,h,i,j,k,rfl⟩
def EU{α:Type}:∀ {os:List α},os.length=2->∃ a b,os=[a,b]
 | [a,b],_=>⟨a,b,rfl⟩
def F1{ds:List Nat}{a:Nat}(h:jI ds [a]):∃ x,ds=[x]/\x<a:=by
 obtain⟨h1,h2⟩:=h
 match ds,h1 with
 | [x],_=>exact⟨x,rfl,h2 0 x a rfl rfl⟩
def ck:Ck T 0 1 3 4 5 7 8 9 12 13 14:=⟨rfl,rfl,rfl,rfl,rfl,rfl,rfl,rfl,rfl,rfl,rfl⟩
def dr:Dr T 24 25 26 27 28 29 30 31 32 33 34 35:=⟨⟨rfl,rfl,rfl⟩,rfl,rfl,rfl,rfl,rfl,rfl,rfl,rfl,rfl⟩
def hT:T.length<=1000:=by decide
abbrev isB(b:Bool):Option D->Bool
 | some (.bl c)=>b == c
 | _=>false
def qX{b:Bool}{x:Option D}(h:isB b x=true):x=some (.bl b):=by
 unfold isB at h;split at h
 ·rw[eq_of_beq h]
 ·cases h
def G4:ak T 29 43 []=some (.bl true):=qX (by decide +kernel)
def G7:ak T 25 15 [.tup [.int 1,.int 1]]=some (.bl false):=qX (by decide +kernel)
def GO:ak T 25 15 [.tup [.int 2,.int 0]]=some (.bl false):=qX (by decide +kernel)
section
variable{n:Nat}{f g h a b:List Nat}
def DN(m:Nat)(xs:List Nat)(i j:Nat)(hi:i<xs.length)(hj:j<xs.length):ak T (m+1) 6 [.lst (L xs),.int (i:Nat),.int (j:Nat)]=some (.tup [.non,.lst (L ((xs.set i j).set j i))]):=(ao (fn:=oS) rfl).trans (Bl xs hi hj)
def gC(m:Nat)(hn:n<=10)(H:Hf n h):ak T (m+1) 22 [.tup (L h)]=some (.lst (L (fx n h))):=(ao (fn:=mP) rfl).trans (vA hn H.len)
def isH(m:Nat)(h1:1<=n)(hn:n<=10)(H:Hf n h):ak T (m+4) 15 [.tup (L h)]=some (.bl true):=by
 have p:=(ao (T:=T) (n:=m+2) (f:=3) (fn:=eM 4) rfl).trans (kN (xs:=h.map Int.ofNat) (by rw[List.length_map,H.len];lia) fun q hq=>(ao (fn:=eK 0) rfl).trans (vL (ck.num m) hq));rw[uB H,<-EJ]at p;obtain⟨b,e,_,hb⟩:=tD (cl:=ak T (m+2)) (m:=n) (by lia) H.len H.inv H.lt;rw[hb H.nx]at e;exact(ao (fn:=jX 5 3 1) rfl).trans (rS h1 hn H (ck.yJ (m+1)) p ((ao (fn:=dM) rfl).trans e))
def ckH(m:Nat)(h1:1<=n)(hn:n<=10)(H:Hf n h):ak T (m+5) 16 [.tup (L h)]=some .non :=
 (ao (fn:=gR 15) rfl).trans (wm rfl rfl (bL (aX (dI (bx (aa rfl) (isH m h1 hn H)))) bo))
def ue(H:Hf n h):biV .len (.tup (L h))=some (.int (n:Nat)):=by
 have:=yV h;rw[H.len]at this;exact this
def ck2(m:Nat)(h1:1<=n)(hn:n<=10)(A:Hf n a)(B:Hf n b):ak T (m+6) 17 [.tup (L a),.tup (L b)]=some .non:=(ao (fn:=bX 16) rfl).trans (wm rfl rfl (i4 (bx (aa rfl) (ckH m h1 hn A)) (i4 (bx (aa rfl) (ckH m h1 hn B)) (bL (aX (aE (aO (aa rfl) (ue A)) (aO (aa rfl) (ue B)) (by rw[uR,beq_self_eq_true];rfl))) bo))))
def sG(m:Nat)(h1:1<=n)(hn:n<=10)(A:Hf n a)(B:Hf n b)(t:(fx n a).length=(fx n b).length):ak T (m+7) 21 [.tup (L a),.tup (L b)]=some (.tup (L (jnL n a b)))/\Jn n a b (jnL n a b):=by
 have e:=rY (cl:=ak T (m+6)) (ti:=6) (go:=22) (c2:=17) hn A B t (ck2 m h1 hn A B) (gC (m+5) hn A) (gC (m+5) hn B) (DN (m+5));obtain⟨J,j,e'⟩:=uJ (cl:=ak T (m+6)) (ti:=6) (go:=22) (c2:=17) hn A B t (ck2 m h1 hn A B) (gC (m+5) hn A) (gC (m+5) hn B) (DN (m+5));rw[e]at e'
 have q:L (jnL n a b)=L J:=by
  injection e' with e';injection e'
 rw[<-pj q]at j;exact⟨(ao (fn:=fk 6 22 17) rfl).trans e,j⟩
def CV(V:Val n f):(fx n (upL n f)).length=thr n f:=by
 rcases BN (n:=n) (f:=f)with h | h
 ·exact h
 ·exact absurd V.frm h
def BP(m:Nat)(h1:1<=n)(hn:n<=10)(H:Hf n h):ak T (m+6) 20 [.tup (L h)]=some (.int ((fx n h).length:Nat)) :=
 (ao (fn:=jV 22 16) rfl).trans (aT rfl rfl (i4 (bx (aa rfl) (ckH m h1 hn H)) (aS (aO (bx (aa rfl) (gC (m+4) hn H)) (jR _)) (Cc _))))
def zR{x y:Nat}(h:x≠y):bE .ne (.int (x:Nat)) (.int (y:Nat))=some true:=by
 show(bE .eq (.int (x:Nat)) (.int (y:Nat))).map not=_;rw[mz,decide_eq_false h];rfl
def ckB{d:D}(h:ak T 25 15 [d]=some (.bl false)):Rc (ak T 26) 16 [d] "BadHalf" := kH (fn:=gR 15) rfl hT rfl rfl (uy (aX (dI (bx (aa rfl) h))) (qr bA rfl))
def jr{x y:D}{c:PySem.Str}(h:Rc (ak T 27) 17 [x,y] c):Rc (ak T 28) 21 [x,y] c:=kH (fn:=fk 6 22 17) rfl hT rfl rfl (uf (Dz (aa rfl) (aa rfl) h))
def ky{x y:D}{c:PySem.Str}(hc:c∈(["BadPegs", "BadFrame", "BadHalf", "BadHook", "BadName", "NoNumber", "NoFrame", "NoStack"]:List PySem.Str))(h:Rc (ak T 28) 21 [x,y] c):ak T 29 41 [x,y]=some (.str c):=by
 have k:ak T 28 23 [.exc c]=some (.str c):=(ao (fn:=j7) rfl).trans (DC hc);exact(ao (fn:=iV 21 23) rfl).trans (aT rfl rfl (aD aq rfl (Bp (Fw (Dz (aa rfl) (aa rfl) h)) (by unfold cH;simp) (aD (bx (aa rfl) k) rfl bo) (aS (aa rfl) rfl))))
def Ay(h1:1<=n)(hn:n<=10)(A:Hf n a)(B:Hf n b)(t:(fx n a).length=(fx n b).length):ak T 29 41 [.tup (L a),.tup (L b)]=some (.tup (L (jnL n a b))) :=
 (ao (fn:=iV 21 23) rfl).trans (aT rfl rfl (aD aq rfl (Dt (aD (cX (aa rfl) (aa rfl) (sG 21 h1 hn A B t).1) (lT _) bo) (aS (aa rfl) (lV _)))))
def Bm(h1:1<=n)(hn:n<=10)(A:Hf n a)(B:Hf n b)(t:(fx n a).length≠(fx n b).length):ak T 29 41 [.tup (L a),.tup (L b)]=some (.str "BadHalf"):=by
 have im:∀ xs:List Nat,aK (.lst (L xs))=true:=fun xs=>aY xs;refine ky (by decide) (kH (fn:=fk 6 22 17) rfl hT rfl rfl (u6 (cX (aa rfl) (aa rfl) (ck2 21 h1 hn A B)) (wO (bx (aa rfl) (gC 26 hn A)) (by unfold bb;rw[im];rfl) (wO (bx (aa rfl) (gC 26 hn B)) (by unfold bb;rw[im];rfl) (uy (aX (aE (aO (aa rfl) (jR _)) (aO (aa rfl) (jR _)) (zR t))) (qr bA rfl))))))
def CF{cl:Cl}{σ:St}{e:E}{x:D}{ds:List D}(h:ev cl σ e=some x)(hr:c8 (.int 0) x=some ds):ev cl σ (.rngT e)=some (.tup ds):=by
 show(ev cl σ e).bind _=_;rw[h,Option.bind_some,hr];rfl
def Aj(m:Nat):Hf m (List.range m):=by
 have e:∀ q,at' (List.range m) q=q:=fun q=>by by_cases c:q<m<;>simp[at',c]
 refine⟨List.length_range,fun q hq=>by rw[e];exact hq,fun q _=>by rw[e,e],fun q q' h1 h2=>?_⟩;rw[e]at h2;lia
end
def qO(hn:n<=10){cl:Cl}{σ:St}{i:Nat}{h:List Nat}(hl:n<=h.length)(h2:(σ[2]?).bind id=some (.int (n:Nat)))(hi:∀ x,((σ.set 12 x)[i]?).bind id=some (.tup (L h)))(hn2:∀ x,((σ.set 12 x)[2]?).bind id=some (.int (n:Nat)))(h12:∀ x:D,((σ.set 12 (some x))[12]?).bind id=some x) :
  ev cl σ (.comp (.var 12) [12] (.rng1 (.var 2)) (.cmp .ge (.ix (.var i) (.var 12)) (.var 2)))=some (.lst (L ((List.range n).filter fun p=>decide (n<=at' h p))))/\ev cl σ (.comp (.var 12) [12] (.rng1 (.var 2)) (.cmp .eq (.ix (.var i) (.var 12)) (.var 12)))=some (.lst (L (fx n h))):=by
 have r1:c8 (.int 0) (.int (n:Nat))=some (L (List.range n)):=bR (by lia)
 have lr:(L (List.range n)).length<=most:=by rw[aG,List.length_range];unfold most;lia
 refine⟨j6 (eZ (aa h2) r1) lr (jK (g:=fun x=>.int (x:Nat)) (c:=fun p=>decide (n<=at' h p)) (fun _=>rfl) (List.range n) fun x hx=>?_),j6 (eZ (aa h2) r1) lr (jK (g:=fun x=>.int (x:Nat)) (c:=fun q=>decide (at' h q=q)) (fun _=>rfl) (List.range n) fun x hx=>?_)⟩
 ·have hx:=List.mem_range.mp hx
  have q:bE .ge (.int (at' h x:Nat)) (.int (n:Nat))=some (decide (n<=at' h x)):=by
   rw[mX];congr 1;apply decide_eq_decide.mpr;lia
  show((ev cl (σ.set 12 (some (.int (x:Nat)))) (.cmp .ge (.ix (.var i) (.var 12)) (.var 2))).bind truth).bind (fun k=>if k then(ev cl (σ.set 12 (some (.int (x:Nat)))) (.var 12)).map some else some none)=_;rw[aX (aE (cM (aa (hi _)) (aa (h12 _)) (dh (by lia))) (aa (hn2 _)) q),Option.bind_some,aa (h12 _)];split<;>rfl
 ·have hx:=List.mem_range.mp hx;show((ev cl (σ.set 12 (some (.int (x:Nat)))) (.cmp .eq (.ix (.var i) (.var 12)) (.var 12))).bind truth).bind (fun k=>if k then(ev cl (σ.set 12 (some (.int (x:Nat)))) (.var 12)).map some else some none)=_;rw[aX (aE (cM (aa (hi _)) (aa (h12 _)) (dh (by lia))) (aa (h12 _)) (mz _ _)),Option.bind_some,aa (h12 _)];split<;>rfl
def GA{a b:List Nat}(ha:a.length<=1000)(hb:b.length<=1000):Pl 2 (.lst [.tup (L a),.tup (L b)]):=.lst _ _ (show 2<=1000 by decide) fun x hx=>by
 cases hx with
 | head=>exact Pl.L ha
 | tail _ hx=>cases hx with
  | head=>exact Pl.L hb
  | tail _ hx=>cases hx
def G6(a:Nat):Pl 1 (.lst [.int (a:Nat),.int (a:Nat)]):=.lst _ _ (show 2<=1000 by decide) fun x hx=>by
 cases hx with
 | head=>exact .int _ _
 | tail _ hx=>cases hx with
  | head=>exact .int _ _
  | tail _ hx=>cases hx
def main(ns:List Int)(hl:ns.length<=63):ak T 30 44 [.scr (ns.map D.int)]=some (.bl true):=by
 refine(ao (fn:=zC 43 41 37 40 39 20 21 38 18 19 36 26) rfl).trans (wG (m:=11) (N:=9) hl (by decide) (fun k os hk ho=>?_) fun os _=>G4);obtain⟨o2,o3,o4,o5,o6,o7,o8,o9,o10,o11,o12,rfl⟩:=CI ho;obtain⟨ds,hd,e1⟩:=dr.digits hl 26 (k:=40+k) (sizes:=[10]) (by lia) (by simp) (by simp);obtain⟨p,rfl,hp⟩:=F1 hd
 have n1:1<=1+p:=by lia
 have n2:1+p<=10:=by lia
 have e0:aA .add (.int 1) (.int (p:Nat))=some (.int ((1+p:Nat):Int)):=rfl;generalize 1+p=n at *;obtain⟨fs,q1,q2,e2⟩:=dr.frames (fs:=36) rfl hl 24 (k:=2*k) (m:=n) (q:=2) (by lia) n1 n2 (by lia);obtain⟨f,g,rfl⟩:=EU q1;have V:=q2 f (by simp);have W:=q2 g (by simp);have V':=(cY n).val V;have W':=(cY n).val W;have A:=iA V;have B:=iA V';have C:=iA W';have tA:=CV V;have tB:=CV V';rw[xQ V.frm]at tB
 have ek:aA .mul (.int 2) (.int (k:Nat))=some (.int ((2*k:Nat):Int)):=by
  dsimp only[aA];rw[if_pos (.inl (by decide))];rfl
 have eu:=ck.upper (up':=18) rfl 23 n1 n2 V;have el:=ck.lower (up':=18) (cp:=2) (pl:=10) (ov:=11) (lw:=19) rfl rfl rfl rfl rfl 22 n1 n2 V;have up1:ak T 29 38 [.tup (L f)]=some (.tup (L (upL n f))):=(ao (fn:=fz) rfl).trans (j3 n2 V.frm)
 have low:∀ {x:List Nat},Val n x->ak T 29 39 [.tup (L x)]=some (.tup (L (upL n (bg n (ovr n) (ovr n) x)))):=fun {x} X=>by
  refine(ao (fn:=kL 38 34) rfl).trans (aT rfl rfl (aS (bx (bx (aa rfl) (dr.over 27 n1 n2 X.frm.len)) ((ao (fn:=fz) rfl).trans ?_)) (lV _)));rw[xN X.frm];exact j3 n2 ((cY n).val X).frm
 obtain⟨j1,j2⟩:=sG 22 n1 n2 A B (by rw[tA,tB]);rw[yT V j2 (by rw[tA,tB])]at j1;have s1:=sameAll (T:=T) (sm:=37) rfl 2 28 _ (GA (a:=upL n f) (b:=upL n (bg n (ovr n) (ovr n) f)) (by rw[A.len];lia) (by rw[B.len];lia)) (by decide);have s2:=sameAll (T:=T) (sm:=37) rfl 1 28 _ (Pl.L (n:=0) (xs:=f) (by rw[V.frm.len];lia)) (by decide);have s3:=sameAll (T:=T) (sm:=37) rfl 1 28 _ (G6 (thr n f)) (by decide);have t1:=BP 23 n1 n2 A;have t2:=BP 23 n1 n2 B;rw[tA]at t1;rw[tB]at t2;have lo:biV .len (.lst (L ((List.range n).filter fun p=>decide (n<=at' f p))))=some (.int (thr n f:Nat)):=jR _
 have em:aA .mul (.lst [.int (thr n f:Nat)]) (.int 2)=some (.lst [.int (thr n f:Nat),.int (thr n f:Nat)]):=by
  dsimp only[aA];rw[if_pos ⟨by decide,by decide,show 1*2<=most by decide⟩];rfl
 have im:∀ xs:List Nat,aK (.lst (L xs))=true:=fun xs=>aY xs;have e10:aA .mod (.int (n:Nat)) (.int 10)=some (.int ((n%10:Nat):Int)):=rfl;have e11:aA .add (.int 1) (.int ((n%10:Nat):Int))=some (.int ((1+n%10:Nat):Int)):=rfl
 have hm:1+n%10<=10:=by lia
 have hne:n≠1+n%10:=by lia
 have h1m:1<=1+n%10:=by lia
 generalize 1+n%10=m at *;have P:=Aj m;have er:c8 (.int 0) (.int (m:Nat))=some (L (List.range m)):=bR (by lia);have w1:ak T 29 41 [.tup (L (upL n f)),.tup (L (List.range m))]=some (.str "BadPegs"):=ky (by decide) (jr (kH (fn:=bX 16) rfl hT rfl rfl (u6 (bx (aa rfl) (ckH 21 n1 n2 A)) (u6 (bx (aa rfl) (ckH 21 h1m hm P)) (uy (aX (aE (aO (aa rfl) (ue A)) (aO (aa rfl) (ue P)) (zR hne))) (qr bA rfl))))));have w2:ak T 29 41 [.tup (L (List.range m)),.tup [.int 1,.int 1]]=some (.str "BadHalf"):=ky (by decide) (jr (kH (fn:=bX 16) rfl hT rfl rfl (u6 (bx (aa rfl) (ckH 21 h1m hm P)) (uf (DS (aa rfl) (ckB G7))))));have w3:ak T 29 41 [.tup [.int 2,.int 0],.tup (L (List.range m))]=some (.str "BadHalf"):=ky (by decide) (jr (kH (fn:=bX 16) rfl hT rfl rfl (uf (DS (aa rfl) (ckB GO)))))
 have nw:bE .ne (.lst [.str "BadPegs",.str "BadHalf",.str "BadHalf"]) (.lst [.str "BadPegs",.str "BadHalf",.str "BadHalf"])=some false:=by decide +kernel
 have tail:∀ d:D,d.imm=true->ak T 29 41 [.tup (L (upL n f)),.tup (L (upL n (bg n (ovr n) (ovr n) g)))]=some d->ak T 29 37 [d,d]=some (.bl true)->∃ os':List (Option D),os'.length=12 /\
   ag (ak T 29) [] (.cons (.ife (.not (.call 37 (.cons (.call 41 (.cons (.var 10) (.cons (.var 4) .nil))) (.cons (.var 5) .nil)))) (.cons (.ret (.cst (.bl false))) .nil) .nil) (.cons (.asg 6 (.rngT (.bin .add (.cst (.int 1)) (.bin .mod (.var 2) (.cst (.int 10)))))) (.cons (.asg 7 (.lst (.cons (.call 41 (.cons (.var 10) (.cons (.var 6) .nil))) (.cons (.call 41 (.cons (.var 6) (.cons (.tup (.cons (.cst (.int 1)) (.cons (.cst (.int 1)) .nil))) .nil))) (.cons (.call 41 (.cons (.tup (.cons (.cst (.int 2)) (.cons (.cst (.int 0)) .nil))) (.cons (.var 6) .nil))) .nil))))) (.cons (.ife (.cmp .ne (.var 7) (.lst (.cons (.cst (.str "BadPegs")) (.cons (.cst (.str "BadHalf")) (.cons (.cst (.str "BadHalf")) .nil))))) (.cons (.ret (.cst (.bl false))) .nil) .nil) .nil))))
    [some (.lst (LI ns)),some (.int (k:Nat)),some (.int (n:Nat)),some (.lst (L ((List.range n).filter fun p=>decide (n<=at' f p)))),some (.tup (L (upL n (bg n (ovr n) (ovr n) g)))),some d,o6,o7,some (.tup (L f)),some (.tup (L g)),some (.tup (L (upL n f))),some (.tup (L (upL n (bg n (ovr n) (ovr n) f)))),o12]=some (.nx,some (.lst (LI ns))::os'):=fun d hd hw hs =>
  ⟨_,rfl,bL (aX (dI (cX (cX (aa rfl) (aa rfl) hw) (aa rfl) hs)))
   (aD (d:=.tup (L (List.range m))) (CF (az aq (az (aa rfl) aq e10) e11) er) (lT _)
   (aD (d:=.lst [.str "BadPegs",.str "BadHalf",.str "BadHalf"]) (cD (ay (cX (aa rfl) (aa rfl) w1) (ay (cX (aa rfl) (zN (ay aq (ay aq bA))) w2) (ay (cX (zN (ay aq (ay aq bA))) (aa rfl) w3) bA)))) rfl
   (bL (aX (aE (aa rfl) (cD (ay aq (ay aq (ay aq bA)))) nw)) bo)))⟩
 have st:∀ {res:Option (Out × St)},ag (ak T 29) [] (.cons (.ife (.cmp .eq (.bi .len (.comp (.var 12) [12] (.rng1 (.var 2)) (.cmp .eq (.ix (.var 4) (.var 12)) (.var 12)))) (.bi .len (.var 3))) (.cons (.asg 5 (.call 40 (.cons (.var 10) (.cons (.var 4) .nil)))) .nil) .nil) (wZ 43 41 37 40 39 20 21 38 18 19 36 26)) [some (.lst (LI ns)),some (.int (k:Nat)),some (.int (n:Nat)),some (.lst (L ((List.range n).filter fun p=>decide (n<=at' f p)))),some (.tup (L (upL n (bg n (ovr n) (ovr n) g)))),some (.str "BadHalf"),o6,o7,some (.tup (L f)),some (.tup (L g)),some (.tup (L (upL n f))),some (.tup (L (upL n (bg n (ovr n) (ovr n) f)))),o12]=res ->
   ag (ak T 29) [] (uW 43 41 37 40 39 20 21 38 18 19 36 26) [some (.lst (LI ns)),some (.int (k:Nat)),o2,o3,o4,o5,o6,o7,o8,o9,o10,o11,o12]=res:=fun h =>
  aD (az aq (cM (yM (aa rfl) (az aq (aa rfl) rfl) (cD (ay aq bA)) e1) aq rfl) e0) rfl
  (vS (x_call (ay (aa rfl) (ay (az aq (aa rfl) ek) (ay (aa rfl) (ay aq bA)))) e2) rfl (by simp[au,D.imm,aY]) rfl
  (qJ (bx (aa rfl) eu) (bx (aa rfl) el) (by simp[D.imm,aY])
  (bL (aX (dI (cX (cD (ay (aa rfl) (ay (aa rfl) bA))) (cD (ay (bx (aa rfl) up1) (ay (bx (aa rfl) (low V)) bA))) s1)))
  (bL (aX (dI (cX (cX (aa rfl) (aa rfl) j1) (aa rfl) s2)))
  (aD (qO n2 (i:=8) (by rw[V.frm.len];lia) rfl (fun _=>rfl) (fun _=>rfl) (fun _=>rfl)).1 (by unfold bb;rw[im];rfl)
  (bL (aX (dI (cX (cD (ay (bx (aa rfl) t1) (ay (bx (aa rfl) t2) bA))) (az (cD (ay (aO (aa rfl) lo) bA)) aq em) s3)))
  (aD (bx (aa rfl) (low W)) (lT _)
  (aD aq rfl h))))))))
 have ef:=(qO (cl:=ak T 29) (σ:=[some (.lst (LI ns)),some (.int (k:Nat)),some (.int (n:Nat)),some (.lst (L ((List.range n).filter fun p=>decide (n<=at' f p)))),some (.tup (L (upL n (bg n (ovr n) (ovr n) g)))),some (.str "BadHalf"),o6,o7,some (.tup (L f)),some (.tup (L g)),some (.tup (L (upL n f))),some (.tup (L (upL n (bg n (ovr n) (ovr n) f)))),o12]) n2 (i:=4) (Nat.le_of_eq C.len.symm) rfl (fun _=>rfl) (fun _=>rfl) (fun _=>rfl)).2;by_cases t:(fx n (upL n f)).length=(fx n (upL n (bg n (ovr n) (ovr n) g))).length
 ·have lj:ak T 29 40 [.tup (L (upL n f)),.tup (L (upL n (bg n (ovr n) (ovr n) g)))]=some (.tup (L (jnL n (upL n f) (upL n (bg n (ovr n) (ovr n) g))))):=(ao (fn:=gO) rfl).trans (nt n2 A C t)
  have jl:(jnL n (upL n f) (upL n (bg n (ovr n) (ovr n) g))).length<=1000:=by
   unfold jnL;rw[mQ,List.length_append,List.length_map,A.len,C.len];lia
  obtain⟨os',l',e'⟩:=tail _ (show(D.tup (L _)).imm=true from aY _) (Ay n1 n2 A C t) (sameAll (T:=T) (sm:=37) rfl 1 28 _ (Pl.L (n:=0) jl) (by decide));exact⟨os',l',st (iz (aX (aE (aO ef (jR _)) (aO (aa rfl) lo) (by rw[mz,decide_eq_true (by rw[<-t,tA])]))) (aD (cX (aa rfl) (aa rfl) lj) (lT _) bo) e')⟩
 ·obtain⟨os',l',e'⟩:=tail (.str "BadHalf") rfl (Bm n1 n2 A C t) (sameAll (T:=T) (sm:=37) rfl 0 28 _ (.str 0 _) (by decide));exact⟨os',l',st (bL (aX (aE (aO ef (jR _)) (aO (aa rfl) lo) (by rw[mz,decide_eq_false (fun z=>t (by rw[tA,z]))]))) e')⟩
end K13
namespace L2
open PySem PySem.Spec PyProof.Rows
@[reducible]noncomputable def Key:=Sum Int Str
abbrev kh:Key->Value->Bool
 | .inl k,v=>Value.isInt k v
 | .inr x,v=>Value.isStrOf x v
abbrev GG(w:World):Key->Int
 | .inl k=>hashInt k
 | .inr x=>hashStr w x
def bT:∀ {k:Key} {v:Value},kh k v=true->(∃ i t,k=Sum.inl i/\v=Value.int i t)\/(∃ x t,k=Sum.inr x/\v=Value.str x t)
 | .inl i,v,h=>by
  obtain⟨t,e⟩:=Value.isInt_shape (k:=i) (v:=v) h;exact .inl ⟨i,t,rfl,e⟩
 | .inr x,v,h=>by
  obtain⟨t,e⟩:=Value.isStrOf_shape (x:=x) (v:=v) h;exact .inr ⟨x,t,rfl,e⟩
def xr(i:Int)(t:Tok):kh (.inl i) (.int i t)=true:=by simp[kh,Value.isInt]
def vg(x:Str)(t:Tok):kh (.inr x) (.str x t)=true:=by simp[kh,Value.isStrOf]
def Ct(a b:Int):decide ((Sum.inl a:Key)=Sum.inl b)=(a == b):=by
 by_cases e:a=b
 ·subst e;simp
 ·have h:¬ (Sum.inl a:Key)=Sum.inl b:=fun q=>e (Sum.inl.inj q);rw[decide_eq_false h];exact(beq_eq_false_iff_ne.mpr e).symm
def Eb(a b:Str):decide ((Sum.inr a:Key)=Sum.inr b)=decide (a=b):=by
 by_cases e:a=b
 ·subst e;simp
 ·have h:¬ (Sum.inr a:Key)=Sum.inr b:=fun q=>e (Sum.inr.inj q);rw[decide_eq_false h,decide_eq_false e]
def Dj(a:Int)(b:Str):decide ((Sum.inl a:Key)=Sum.inr b)=false:=decide_eq_false (fun q=>nomatch q)
def Cm(a:Str)(b:Int):decide ((Sum.inr a:Key)=Sum.inl b)=false:=decide_eq_false (fun q=>nomatch q)
abbrev cb(prog:Program)(w:World):PySem.KeyKind prog w Key where
 is:=kh
 hash:=GG w
 inj:=fun v a b ha hb=>by
  rcases bT ha with⟨i,t,rfl,rfl⟩ | ⟨x,t,rfl,rfl⟩
  ·rcases bT hb with⟨j,u,rfl,e⟩ | ⟨y,u,rfl,e⟩
   ·injection e with e1 _;rw[e1]
   ·exact nomatch e
  ·rcases bT hb with⟨j,u,rfl,e⟩ | ⟨y,u,rfl,e⟩
   ·exact nomatch e
   ·injection e with e1 _;rw[e1]
 byValue:=fun k v h=>by
  rcases bT h with⟨i,t,rfl,rfl⟩ | ⟨x,t,rfl,rfl⟩<;>rfl
 pyHash:=fun hv h=>by
  rcases bT hv with⟨i,t,rfl,rfl⟩ | ⟨x,t,rfl,rfl⟩
  ·exact wpAny_pyHash_int h
  ·exact wpAny_pyHash_str h
 eqBool:=fun hu hv h=>by
  rcases bT hu with⟨i,t,rfl,rfl⟩ | ⟨x,t,rfl,rfl⟩
  ·rcases bT hv with⟨j,u,rfl,rfl⟩ | ⟨y,u,rfl,rfl⟩
   ·rw[Ct]at h;exact wpAny_eqBool_int h
   ·rw[Dj]at h;exact SeqAt.EqAt.int_str i t y u _ _ _ _ h
  ·rcases bT hv with⟨j,u,rfl,rfl⟩ | ⟨y,u,rfl,rfl⟩
   ·rw[Cm]at h;exact SeqAt.EqAt.str_int x t j u _ _ _ _ h
   ·rw[Eb]at h;exact wpAny_eqBool_str h
 «strs»:=fun k x t v h=>by
  rcases bT h with⟨i,u,rfl,e⟩ | ⟨y,u,rfl,e⟩
  ·exact nomatch e
  ·injection e with e1 _;subst e1;cases v<;>rfl
def rZ(prog:Program)(w:World)(i:Int)(t:Tok):(cb prog w).is (.inl i) (.int i t)=true:=xr i t
def se(prog:Program)(w:World)(x:Str)(t:Tok):(cb prog w).is (.inr x) (.str x t)=true:=vg x t
inductive V where
 | non | bl (b:Bool) | int (i:Int) | str (x:Str) | byt (b:Array UInt8) | flt (b:UInt64) | ref (a:Addr) | ty (n:String)
 deriving DecidableEq
abbrev RelV:V->Value->Prop
 | .non,u=>u=Value.none
 | .bl b,u=>u=Value.bool b
 | .int i,u=>∃ t,u=Value.int i t
 | .str x,u=>∃ t,u=Value.str x t
 | .byt b,u=>∃ t,u=Value.bytes b t
 | .flt b,u=>∃ t,u=Value.float b t
 | .ref a,u=>u=Value.ref a
 | .ty n,u=>u=Value.type n
@[reducible]noncomputable def Vals:List V->List Value->Prop:=Paired RelV
def Vals.length{xs:List V}{us:List Value}(r:Vals xs us):xs.length=us.length:=Paired.length r
def Vals.get:∀ {xs:List V} {us:List Value} {i:Nat} {x:V},Vals xs us->xs[i]?=some x->∃ u,us[i]?=some u/\RelV x u
 | _,_,_,_,.nil,e=>by simp at e
 | _,_,0,_,.cons r _,e=>by simp at e;subst e;exact⟨_,rfl,r⟩
 | _,_,i+1,x,.cons _ t,e=>by
  obtain⟨u,h1,h2⟩:=Vals.get (i:=i) (x:=x) t (by simpa using e);exact⟨u,by simpa using h1,h2⟩
def Vals.set{x:V}{u:Value}(r:RelV x u):∀ {xs:List V} {us:List Value} (i:Nat),Vals xs us->Vals (xs.set i x) (us.set i u)
 | _,_,_,.nil=>.nil
 | _,_,0,.cons _ t=>.cons r t
 | _,_,i+1,.cons q t=>.cons q (Vals.set r i t)
def Vals.append:∀ {xs ys:List V} {us ws:List Value},Vals xs us->Vals ys ws->Vals (xs++ys) (us++ws)
 | _,_,_,_,.nil,s=>s
 | _,_,_,_,.cons r t,s=>.cons r (Vals.append t s)
def Vals.take:∀ {xs:List V} {us:List Value} (n:Nat),Vals xs us->Vals (xs.take n) (us.take n)
 | _,_,0,_=>.nil
 | _,_,_+1,.nil=>.nil
 | _,_,n+1,.cons r t=>.cons r (Vals.take n t)
def Vals.drop:∀ {xs:List V} {us:List Value} (n:Nat),Vals xs us->Vals (xs.drop n) (us.drop n)
 | _,_,0,r=>r
 | _,_,_+1,.nil=>.nil
 | _,_,n+1,.cons _ t=>Vals.drop n t
abbrev gG:Option V->Option Value->Prop
 | some v,some u=>RelV v u
 | none,none=>True
 | _,_=>False
abbrev KV{κ:Type}:List (κ × V)->List (κ × Value)->Prop:=Paired fun(p:κ × V) (q:κ × Value)=>p.1=q.1/\RelV p.2 q.2
abbrev kV:Key->V
 | .inl i=>.int i
 | .inr x=>.str x
inductive HO where
  | lst (xs:List V)
  | tup (xs:List V)
  | dK (kvs:List (Key × V)) | dT (kvs:List (List Key × V))
  | set (S:Int->Bool) (n:Nat)
  | ins (C dx:Addr) (fs:List (Str × V))
  | own (x:Addr)
  | xd (fs:List (Str × V))
  | met (f x:Addr)
  | rng (lo hi:Int)
  | frz (o:Obj) (u:HO)
  | tbl (ps:Array Value)
  | ext (φ:Heap->Prop)
@[reducible]noncomputable def Hp:=Addr->Option HO
abbrev upd(H:Hp)(a:Addr)(o:HO):Hp:=fun b=>if b=a then some o else H b
def aP{H:Hp}{a:Addr}{o:HO}:upd H a o a=some o:=by unfold upd;rw[if_pos rfl]
def aI{H:Hp}{a b:Addr}{o:HO}(h:b≠a):upd H a o b=H b:=by unfold upd;rw[if_neg h]
def pd{H:Hp}{a b:Addr}{o u:HO}(h:H a=some o)(h':H b=some u)(d:o≠u):a≠b:=by
 intro e;subst e;rw[h]at h';exact d (Option.some.inj h')
def aM{H:Hp}{a b:Addr}{o:HO}(h:H a=some o)(h':H b=none):a≠b:=by
 intro e;subst e;rw[h]at h';cases h'
section
variable(P:Program)(w:World)
abbrev bu(H:Hp)(h:Heap)(a:Addr):HO->Prop
 | .lst xs=>xs.length<=sizeLine/\∃ (its:List Value) (n:Nat),Vals xs its/\h.get? a=some { cls:=.type "list",data:=.seq its.toArray n }
 | .tup xs=>xs.length<=sizeLine/\∃ its:List Value,Vals xs its/\IsTup h a its.toArray
 | .dK kvs=>kvs.length<=sizeLine/\(a == sysModules)=false/\∃ vs,KV kvs vs/\h.DictOf (cb P w) a vs
 | .dT kvs=>kvs.length<=sizeLine/\(a == sysModules)=false/\∃ xs:List (List Key × Addr × Value),
   Paired (fun(p:List Key × V) (q:List Key × Addr × Value)=>p.1=q.1/\H q.2.1=some (.tup (p.1.map kV))/\RelV p.2 q.2.2) kvs xs /\
   ∃ o es ep,h.get? a=some o/\o.ExactDict/\o.data=.dict es ep/\es.toList=xs.map (entryOfKey (tupleKind (cb P w)))/\(xs.map (·.1)).Nodup
 | .set S n=>h.SetOf (intKind P w) a S n
 | .ins C dx fs=>H dx=some (.own a)/\fs.length<=1000/\dx≠a/\h.get? a=some (PySem.W.instObj C dx) /\
   ∃ mA,h.Ns1 dx mA/\(∀ f,gG (fs.lookup f) (mA f))/\PySem.Within mA (fs.map (·.1))
 | .own _=>∃ o,h.get? a=some o
 | .xd fs=>∃ mA,h.Ns1 a mA/\∀ f,gG (fs.lookup f) (mA f)
 | .rng lo hi=>∃ t u v,h.get? a=some { cls:=.type "range",data:=.fields #[.int lo t,.int hi u,.int 1 v] }
 | .frz o u=>h.get? a=some o/\bu H h a u
 | .tbl ps=>h.get? a=some { cls:=.none,data:=.fields ps }
 | .met f x=>h.get? a=some (PySem.W.methodObj (.ref f) (.ref x))
 | .ext φ=>φ h/\(∃ o,h.get? a=some o)/\∀ h1 h2:Heap,φ h1->(∀ o,h1.get? a=some o->h2.get? a=some o)->φ h2
abbrev HOk(H:Hp)(h:Heap):Prop:=∀ a o,H a=some o->bu P w H h a o
end
section
variable{P:Program}{w:World}{H H':Hp}{h h':Heap}{a:Addr}{o:HO}
def bu.lt(x:bu P w H h a o):a<h.objs.size:=by
 cases o with
 | lst xs=>obtain⟨_,_,_,_,e⟩:=x;exact Heap.lt_size e
 | tup xs=>obtain⟨_,_,_,p⟩:=x;exact p.lt
 | dK kvs=>obtain⟨_,_,_,_,o,_,_,e,_⟩:=x;exact Heap.lt_size e
 | dT kvs=>obtain⟨_,_,_,_,o,_,_,e,_⟩:=x;exact Heap.lt_size e
 | set S n=>obtain⟨o,_,_,_,e,_⟩:=x;exact Heap.lt_size e
 | ins C dx fs=>obtain⟨_,_,_,e,_⟩:=x;exact Heap.lt_size e
 | own y=>obtain⟨_,e⟩:=x;exact Heap.lt_size e
 | xd fs=>obtain⟨_,⟨_,_,_,e,_⟩,_⟩:=x;exact Heap.lt_size e
 | rng lo hi=>obtain⟨_,_,_,e⟩:=x;exact Heap.lt_size e
 | frz ob u=>obtain⟨e,_⟩:=x;exact Heap.lt_size e
 | tbl ps=>exact Heap.lt_size (show h.get? a=some _ from x)
 | met f y=>exact Heap.lt_size (show h.get? a=some _ from x)
 | ext φ=>obtain⟨_,⟨_,e⟩,_⟩:=x;exact Heap.lt_size e
def Paired.yO{α β:Type}{F G:α->β->Prop}:∀ {l₁:List α} {l₂:List β},Paired F l₁ l₂->(∀ a b,F a b->G a b)->Paired G l₁ l₂
 | _,_,.nil,_=>.nil
 | _,_,.cons r t,f=>.cons (f _ _ r) (Paired.yO t f)
def bu.jy(x:bu P w H h a o)(k:∀ b u,(b=a\/H b=some (.own a))->h.get? b=some u->h'.get? b=some u)
 (ho:∀ b,H b=some (.own a)->H' b=some (.own a))(ht:∀ b xs,H b=some (.tup xs)->H' b=some (.tup xs)):bu P w H' h' a o:=by
 induction o with
 | lst xs=>obtain⟨z,its,n,r,e⟩:=x;exact⟨z,its,n,r,k _ _ (.inl rfl) e⟩
 | tup xs=>obtain⟨z,its,r,ob,e,c⟩:=x;exact⟨z,its,r,ob,k _ _ (.inl rfl) e,c⟩
 | dK kvs=>obtain⟨z,y,vs,r,ob,es,ep,e,c⟩:=x;exact⟨z,y,vs,r,ob,es,ep,k _ _ (.inl rfl) e,c⟩
 |dT kvs=>
  obtain⟨z,y,xs,r,ob,es,ep,e,c⟩:=x;exact⟨z,y,xs,Paired.yO r fun p q z=>⟨z.1,ht _ _ z.2.1,z.2.2⟩,ob,es,ep,k _ _ (.inl rfl) e,c⟩
 | set S n=>obtain⟨ob,es,ep,t,e,c⟩:=x;exact⟨ob,es,ep,t,k _ _ (.inl rfl) e,c⟩
 |ins C dx fs=>
  obtain⟨d,z,ne,e,mA,⟨od,es,ep,e2,c⟩,r⟩:=x;exact⟨ho _ d,z,ne,k _ _ (.inl rfl) e,mA,⟨od,es,ep,k _ _ (.inr d) e2,c⟩,r⟩
 | own y=>obtain⟨ob,e⟩:=x;exact⟨ob,k _ _ (.inl rfl) e⟩
 | xd fs=>obtain⟨mA,⟨od,es,ep,e,c⟩,r⟩:=x;exact⟨mA,⟨od,es,ep,k _ _ (.inl rfl) e,c⟩,r⟩
 | rng lo hi=>obtain⟨t,u,v,e⟩:=x;exact⟨t,u,v,k _ _ (.inl rfl) e⟩
 | frz ob u ih=>obtain⟨e,q⟩:=x;exact⟨k _ _ (.inl rfl) e,ih q⟩
 |tbl ps=>
  have e:h.get? a=some { cls:=.none,data:=.fields ps }:=x;show h'.get? a=some { cls:=.none,data:=.fields ps };exact k a _ (.inl rfl) e
 |met f y=>
  have e:h.get? a=some (PySem.W.methodObj (.ref f) (.ref y)):=x;show h'.get? a=some (PySem.W.methodObj (.ref f) (.ref y));exact k a _ (.inl rfl) e
 | ext φ=>obtain⟨p,⟨o,e⟩,st⟩:=x;exact⟨st _ _ p fun o q=>k _ _ (.inl rfl) q,⟨o,k _ _ (.inl rfl) e⟩,st⟩
def HOk.lt(x:HOk P w H h)(e:H a=some o):a<h.objs.size:=(x a o e).lt
def HOk.fresh(x:HOk P w H h)(e:h.objs.size<=a):H a=none:=by
 cases q:H a with
 | none=>rfl
 | some u=>exact absurd (Nat.lt_of_lt_of_le (x.lt q) e) (Nat.lt_irrefl _)
def HOk.kept(x:HOk P w H h)(k:∀ b u,h.get? b=some u->h'.get? b=some u):HOk P w H h':=fun a o e =>
 (x a o e).jy (fun b u _ q=>k b u q) (fun _ q=>q) fun _ _ q=>q
def HOk.laid(x:HOk P w H h)(k:∀ b u,h.get? b=some u->h'.get? b=some u)(hp:h.objs.size<=a)(new:bu P w (upd H a o) h' a o):HOk P w (upd H a o) h':=fun b u e=>by
 have hn:=x.fresh hp;by_cases hb:b=a
 ·subst hb;rw[aP]at e;cases e;exact new
 ·rw[aI hb]at e
  exact(x b u e).jy (fun c v _ q=>k c v q) (fun c q=>by rw[aI (aM q hn)];exact q) fun c xs q=>by rw[aI (aM q hn)];exact q
end
abbrev Rd(H:Hp)(a:Addr)(u:HO):Prop:=H a=some u\/∃ o,H a=some (.frz o u)
def Rd.ok{P:Program}{w:World}{H:Hp}{h:Heap}{a:Addr}{u:HO}(r:Rd H a u)(x:HOk P w H h):bu P w H h a u:=by
 rcases r with r | ⟨o,r⟩
 ·exact x a u r
 ·obtain⟨_,q⟩:=x a _ r;exact q
abbrev Mut:Option HO->Prop
 | some (.lst _)=>True
 | some (.dK _)=>True
 | some (.dT _)=>True
 | some (.set _ _)=>True
 | some (.ins _ _ _)=>True
 | some (.ext _)=>True
 | _=>False
section
variable{P:Program}{w:World}{H:Hp}{h h':Heap}{x e:Addr}{o':HO}
def HOk.write(ok:HOk P w H h)(mu:Mut (H x))(he:e=x\/H e=some (.own x))(k:∀ b u,b≠e->h.get? b=some u->h'.get? b=some u)(heo:∃ u,h'.get? e=some u)
 (new:bu P w (upd H x o') h' x o'):HOk P w (upd H x o') h':=fun b u q=>by
 have nown:∀ c y,H c=some (.own y)->c≠x:=fun c y r z=>by subst z;rw[r]at mu;exact mu
 have ntup:∀ c xs,H c=some (.tup xs)->c≠x:=fun c xs r z=>by subst z;rw[r]at mu;exact mu
 by_cases hb:b=x
 ·subst hb;rw[aP]at q;cases q;exact new
 ·rw[aI hb]at q;by_cases hbe:b=e
  ·have q':H b=some (.own x):=by
    rcases he with z | z
    ·exact absurd (hbe.trans z) hb
    ·rw[hbe];exact z
   rw[q]at q';cases q';obtain⟨v,hv⟩:=heo;exact⟨v,by rw[hbe];exact hv⟩
  ·refine(ok b u q).jy (fun c v hc r=>k c v ?_ r) (fun c r=>by rw[aI (nown c b r)];exact r) fun c xs r=>by rw[aI (ntup c xs r)];exact r
   rcases hc with rfl | hc
   ·exact hbe
   ·rintro rfl;rcases he with z | z
    ·exact nown c b hc z
    ·rw[hc]at z;cases z;exact hb rfl
end
structure Un(fs ex:List Addr)(H H':Hp)(h h':Heap):Prop where
 keep:∀ b o,h.get? b=some o->H b=none->b∉fs->b∉ex->h'.get? b=some o
 slot:∀ b o,h.get? b=some o->H b=none->b∈fs->b∉ex->∃ sl,h'.get? b=some { o with slots:=sl }
 free:∀ b o,h.get? b=some o->H b=none->b∉ex->H' b=none
 there:∀ b o,h.get? b=some o->b∉ex->∃ o',h'.get? b=some o'
 eD:∀ b xs,H b=some (.tup xs)->H' b=some (.tup xs)
 cR:∀ b o u,H b=some (.frz o u)->H' b=some (.frz o u)
 e8:∀ b ps,H b=some (.tbl ps)->∃ more,H' b=some (.tbl (ps++more))
section
variable{fs fs' ex ex':List Addr}{H H1 H2:Hp}{h h1 h2 h':Heap}{a x e:Addr}{o:HO}
def Un.any(u:Un fs ex H H1 h h1){b:Addr}{ob:Obj}(q:h.get? b=some ob)(n:H b=none)(hx:b∉ex):∃ sl,h1.get? b=some { ob with slots:=sl }:=by
 by_cases hb:b∈fs
 ·exact u.slot b ob q n hb hx
 ·exact⟨ob.slots,u.keep b ob q n hb hx⟩
def Un.kept(k:∀ b u,h.get? b=some u->h'.get? b=some u):Un fs ex H H h h' :=
 ⟨fun b ob q _ _ _=>k b ob q,fun b ob q _ _ _=>⟨ob.slots,k b ob q⟩,fun _ _ _ n _=>n,fun b ob q _=>⟨ob,k b ob q⟩,fun _ _ q=>q,fun _ _ _ q=>q,fun _ ps q=>⟨#[],by rw[q];simp⟩⟩
def Un.refl:Un fs ex H H h h:=Un.kept fun _ _ q=>q
def Un.laid(k:∀ b u,h.get? b=some u->h'.get? b=some u)(hp:h.objs.size<=a)(hn:H a=none):Un fs ex H (upd H a o) h h' where
 keep:=fun b u q _ _ _=>k b u q
 slot:=fun b u q _ _ _=>⟨u.slots,k b u q⟩
 free:=fun b u q n _=>by rw[aI (Nat.ne_of_lt (Nat.lt_of_lt_of_le (Heap.lt_size q) hp))];exact n
 there:=fun b u q _=>⟨u,k b u q⟩
 eD:=fun b xs q=>by rw[aI (aM q hn)];exact q
 cR:=fun b u xs q=>by rw[aI (aM q hn)];exact q
 e8:=fun b ps q=>⟨#[],by rw[aI (aM q hn),q];simp⟩
def Un.write(mu:Mut (H x))(he:e=x\/H e=some (.own x))(k:∀ b u,b≠e->h.get? b=some u->h'.get? b=some u)(heo:∃ u,h'.get? e=some u):Un fs ex H (upd H x o) h h':=by
 have hx:∀ b,H b=none->b≠x:=fun b n z=>by subst z;rw[n]at mu;exact mu
 have hb:∀ b,H b=none->b≠e:=fun b n z=>by
  subst z;rcases he with r | r
  ·exact hx b n r
  ·rw[n]at r;cases r
 have hm:∀ b u,H b=some u->¬ Mut (some u)->b≠x:=fun b u q nm z=>by subst z;rw[q]at mu;exact nm mu
 refine⟨fun b u q n _ _=>k b u (hb b n) q,fun b u q n _ _=>⟨u.slots,k b u (hb b n) q⟩,fun b u q n _=>by rw[aI (hx b n)];exact n,fun b u q _=>?_,
  fun b xs q=>by rw[aI (hm b _ q fun z=>z)];exact q,fun b u xs q=>by rw[aI (hm b _ q fun z=>z)];exact q,fun b ps q=>⟨#[],by rw[aI (hm b _ q fun z=>z),q];simp⟩⟩
 by_cases hbe:b=e
 ·subst hbe;exact heo
 ·exact⟨u,k b u hbe q⟩
end
abbrev trk(h:Heap)(H:Hp):List Addr:=(List.range h.objs.size).filter fun a=>(H a).isSome
abbrev iW(h:Heap)(H:Hp):Heap:=PySem.W.hideAll h (trk h H)
def wL(h:Heap)(H:Hp):(iW h H).objs.size=h.objs.size:=PySem.W.hideAll_size _ _
def xO{h:Heap}{H:Hp}{b:Addr}{o:Obj}(e:h.get? b=some o)(n:H b=none):(iW h H).get? b=some o :=
 PySem.W.hideAll_get _ e fun hm=>by
  have q:(H b).isSome=true:=(List.mem_filter.mp hm).2;rw[n]at q;simp at q
def AL{h:Heap}{H:Hp}{b:Addr}{o:Obj}(e:(iW h H).get? b=some o):h.get? b=some o/\H b=none:=by
 have e':h.get? b=some o:=PySem.W.of_hideAll (trk h H) e;refine⟨e',?_⟩
 cases q:H b with
 | none=>rfl
 |some x=>
  have hm:b∈trk h H:=List.mem_filter.mpr ⟨List.mem_range.mpr (Heap.lt_size e'),by simp[q]⟩;have z:(iW h H).get? b=none:=PySem.W.hideAll_none (trk h H) hm;rw[z]at e;cases e
structure Mod(K:PySem.W.Frag)(mg:Str->Option Value)(base:Heap):Prop where
 kin:K.In base
 glob:base.Ns mainGlobals mg
 blt:∃ mb,base.Ns builtinsNs mb/\∀ x:Str,x ≠ "__name__" -> mb x=bootBuiltins x
 nolimit:base.NoLimit
structure Cx where
 prog:Program
 w:World
 K:PySem.W.Frag
 mg:Str->Option Value
 base:Heap
 A:Around
 N:List Str
 s₀:Shared
 H₀:Hp
 env:Env
 outer:List Env
 stack:List Env
 ex:List Addr
 fn:Str->Bool
 calm:Bool
 pn:List (Addr × Obj)
 xe:Value->Shared->Prop
abbrev frs(l:List Env):List Addr:=l.filterMap (·.frame)
@[reducible]noncomputable def Cx.fs(X:Cx):List Addr:=frs X.outer
abbrev Vis(sc:Scope)(x:Str):Prop:=sc.names.lookup x=some .local\/sc.names.lookup x=some .cell\/sc.names.lookup x=some .free
abbrev Loc(sc:Scope)(x:Str):Prop:=sc.names.lookup x=some .local\/sc.names.lookup x=some .cell
abbrev Look(env:Env)(h:Heap)(m:Str->Option Value)(x:Str)(u:Value):Prop :=
 (env.kindOf x=some .local/\m x=some u)\/((env.kindOf x=some .cell\/env.kindOf x=some .free)/\∃ c,env.cells.lookup x=some c/\h.IsCell c (some u))
abbrev HX(X:Cx):Prop:=X.A.handled=none\/∃ h o u vs,X.A.handled=some (.ref h)/\X.H₀ h=some (.frz o u)/\o.data=.fields vs/\vs[2]?=some .none
structure Cx.Ok(X:Cx):Prop where
 mod:Mod X.K X.mg X.base
 kind:X.env.scope.kind=.function
 glob:X.env.globals=mainGlobals
 blt:X.env.builtins=builtinsNs
 above:X.s₀.heap.objs.size<=X.env.locals
 inj:∀ x y c,X.env.cells.lookup x=some c->X.env.cells.lookup y=some c->x=y
 has:∀ x,(X.env.kindOf x=some .cell\/X.env.kindOf x=some .free)->∃ c,X.env.cells.lookup x=some c
 cab:∀ x c,X.fn x=true->X.env.cells.lookup x=some c->X.s₀.heap.objs.size<=c
 hd:(X.calm=true->X.A.handled=none)/\HX X
 frames:X.A.frames=some X.stack
 stk:X.stack=X.outer\/(X.stack=X.env::X.outer/\X.env.frame=some X.env.locals)
 exf:∀ b∈X.ex,b≠X.env.locals/\∀ x c,X.env.cells.lookup x=some c->c≠b
 bs:∀ b o,X.base.get? b=some o->X.s₀.heap.get? b=some o/\X.H₀ b=none
 bsz:X.base.objs.size<=X.s₀.heap.objs.size
 jn:∀ b o,X.base.get? b=some o->b∉X.ex
 iM:∀ b∈X.ex,b∉X.fs
 dD:X.s₀.heap.FunFrames X.base X.outer
 frf:∀ b∈X.fs,X.H₀ b=none
structure Inv(X:Cx)(pins:List (Addr × Obj))(σ:List (Option V))(H:Hp)(s:Shared):Prop where
 ok:X.Ok
 os:s.os=X.s₀.os
 bare:AllBare s.gens
 base:Un X.fs X.ex X.H₀ H X.s₀.heap s.heap
 loc:∃ m,s.heap.Ns X.env.locals m/\∀ (i:Nat) (x:Str) (v:V),X.N[i]?=some x->σ[i]?=some (some v)->Vis X.env.scope x->∃ u,RelV v u/\Look X.env s.heap m x u
 cell:∀ x c,X.env.cells.lookup x=some c->∃ v,s.heap.IsCell c v
 free:H X.env.locals=none
 cJ:∀ x c,X.env.cells.lookup x=some c->H c=none
 pin:∀ p∈X.pn++pins,s.heap.get? p.1=some p.2/\H p.1=none/\p.1≠X.env.locals/\p.1∉X.fs/\∀ v,p.2.data≠.cell v
 hok:HOk X.prog X.w H s.heap
 len:σ.length=X.N.length
section
variable{X:Cx}{pins:List (Addr × Obj)}{σ:List (Option V)}{H H':Hp}{s:Shared}{h':Heap}
def Cx.Ok.Gv(ok:X.Ok){b:Addr}{o:Obj}(e:X.base.get? b=some o):b∉X.fs:=fun hb=>by
 have:=(ok.dD.mem hb).1;rw[e]at this;cases this
def Inv.bs(I:Inv X pins σ H s):∀ b o,X.base.get? b=some o->s.heap.get? b=some o/\H b=none:=fun b o e =>
 ⟨I.base.keep b o (I.ok.bs b o e).1 (I.ok.bs b o e).2 (I.ok.Gv e) (I.ok.jn b o e),I.base.free b o (I.ok.bs b o e).1 (I.ok.bs b o e).2 (I.ok.jn b o e)⟩
def Inv.bk(I:Inv X pins σ H s):∀ b o,X.base.get? b=some o->s.heap.get? b=some o:=fun b o e=>(I.bs b o e).1
def Inv.mod(I:Inv X pins σ H s):Mod X.K X.mg X.base:=I.ok.mod
def Inv.kIn(I:Inv X pins σ H s):X.K.In s.heap:=I.ok.mod.kin.keeps I.bk
def Inv.lt(I:Inv X pins σ H s):X.env.locals<s.heap.objs.size:=let ⟨_,hn,_⟩:=I.loc;hn.lt
def Inv.sz(I:Inv X pins σ H s):X.s₀.heap.objs.size<=s.heap.objs.size:=Nat.le_trans I.ok.above (Nat.le_of_lt I.lt)
def Inv.FJ(I:Inv X pins σ H s){a:Addr}(h:s.heap.objs.size<=a):a∉X.fs:=fun hb=>by
 obtain⟨_,o,ho,_⟩:=I.ok.dD.mem hb;exact absurd (Nat.lt_of_lt_of_le (Heap.lt_size ho) (Nat.le_trans I.sz h)) (Nat.lt_irrefl _)
def Inv.cne(I:Inv X pins σ H s):∀ x c,X.env.cells.lookup x=some c->c≠X.env.locals:=fun x c e z=>by
 obtain⟨v,o,ho,hd⟩:=I.cell x c e;obtain⟨m,⟨o',es,ep,ho',hd',_⟩,_⟩:=I.loc;rw[z,ho']at ho;cases ho;rw[hd']at hd;cases hd
def Inv.dD(I:Inv X pins σ H s):s.heap.FunFrames X.base X.outer:=by
 have all:∀ (l:List Env),(∀ b∈frs l,b∈X.fs)->X.s₀.heap.FunFrames X.base l->s.heap.FunFrames X.base l:=by
  intro l
  induction l with
  | nil=>intro _ _;trivial
  |cons env r ih=>
   intro hs hl;obtain⟨hk,⟨L,o,hf,hn,ho,hd⟩,hr⟩:=hl;have hL:L∈X.fs:=hs L (by unfold frs;rw[List.filterMap_cons,hf];exact List.mem_cons_self);obtain⟨sl,e⟩:=I.base.slot L o ho (I.ok.frf L hL) hL fun z=>I.ok.iM L z hL;exact⟨hk,⟨L,_,hf,hn,e,hd⟩,ih (fun b hb=>hs b (by unfold frs;rw[List.filterMap_cons,hf];exact List.mem_cons_of_mem _ hb)) hr⟩
 exact all X.outer (fun _ hb=>hb) I.ok.dD
def Inv.stack(I:Inv X pins σ H s):s.heap.FunFrames X.base X.stack:=by
 rcases I.ok.stk with e | ⟨e,hf⟩
 ·rw[e];exact I.dD
 ·rw[e];obtain⟨m,hn,_⟩:=I.loc;refine .cons (by rw[I.ok.kind];decide) hf hn ?_ I.dD;exact Heap.get?_none_of_le (Nat.le_trans I.ok.bsz I.ok.above)
def Inv.pV(I:Inv X pins σ H s):∀ b∈frs X.stack,b∈X.env.locals::X.fs:=fun b hb=>by
 rcases I.ok.stk with e | ⟨e,hf⟩
 ·rw[e]at hb;exact List.mem_cons_of_mem _ hb
 ·rw[e]at hb;unfold frs at hb;rw[List.filterMap_cons,hf]at hb;exact hb
def Inv.ke(I:Inv X pins σ H s):∀ b∈frs X.stack,H b=none:=fun b hb=>by
 rcases List.mem_cons.mp (I.pV b hb)with e | hb
 ·rw[e];exact I.free
 ·obtain⟨_,o,ho,_⟩:=I.ok.dD.mem hb;exact I.base.free b o ho (I.ok.frf b hb) fun z=>I.ok.iM b z hb
def Inv.step{g':Array GenState}{t':Nat}{d':Drawn}{ch:List Addr}(I:Inv X pins σ H s)
 (hch:∀ b∈ch,(b∈X.ex\/X.s₀.heap.objs.size<=b)/\b≠X.env.locals/\(∀ x c,X.env.cells.lookup x=some c->c≠b)/\∀ p∈X.pn++pins,p.1≠b)
 (keep:∀ b o,b≠X.env.locals->b∉X.fs->b∉ch->s.heap.get? b=some o->H b=none->h'.get? b=some o)
 (slot:∀ b o,b≠X.env.locals->b∈X.fs->b∉ch->s.heap.get? b=some o->H b=none->∃ sl,h'.get? b=some { o with slots:=sl })(free:∀ b o,b∉ch->s.heap.get? b=some o->H b=none->H' b=none)
 (there:∀ b o,b∉ch->s.heap.get? b=some o->∃ o',h'.get? b=some o')
 (eD:∀ b xs,H b=some (.tup xs)->H' b=some (.tup xs))(cR:∀ b o u,H b=some (.frz o u)->H' b=some (.frz o u))(e8:∀ b ps,H b=some (.tbl ps)->∃ more,H' b=some (.tbl (ps++more)))
 (ns:∀ m,s.heap.Ns X.env.locals m->h'.Ns X.env.locals m)(hok:HOk X.prog X.w H' h')(hg:AllBare g') :
  Inv X pins σ H' { s with heap:=h',gens:=g',drawn:=d',toks:=t' }:=by
 have neL:∀ b o,X.s₀.heap.get? b=some o->b≠X.env.locals:=fun b o e=>Nat.ne_of_lt (Nat.lt_of_lt_of_le (Heap.lt_size e) I.ok.above)
 have neC:∀ b o,X.s₀.heap.get? b=some o->b∉X.ex->b∉ch:=fun b o e hx hb=>by
  rcases(hch b hb).1 with z | z
  ·exact hx z
  ·exact absurd (Nat.lt_of_lt_of_le (Heap.lt_size e) z) (Nat.lt_irrefl _)
 have cellK:∀ x c,X.env.cells.lookup x=some c->∀ v,s.heap.IsCell c v->h'.IsCell c v:=fun x c e v ⟨o,ho,hd⟩=>by
  have nch:c∉ch:=fun z=>(hch c z).2.2.1 x c e rfl;by_cases hc:c∈X.fs
  ·obtain⟨sl,q⟩:=slot c o (I.cne x c e) hc nch ho (I.cJ x c e);exact⟨_,q,hd⟩
  ·exact⟨o,keep c o (I.cne x c e) hc nch ho (I.cJ x c e),hd⟩
 refine⟨I.ok,I.os,hg,⟨fun b o e n hb hx=>?_,fun b o e n hb hx=>?_,fun b o e n hx=>?_,fun b o e hx=>?_,fun b xs e=>eD b xs (I.base.eD b xs e),fun b o xs e=>cR b o xs (I.base.cR b o xs e),fun b ps e=>?_⟩,?_,fun x c e=>?_,?_,fun x c e=>?_,fun p hp=>?_,hok,I.len⟩
 ·exact keep b o (neL b o e) hb (neC b o e hx) (I.base.keep b o e n hb hx) (I.base.free b o e n hx)
 ·obtain⟨sl,e1⟩:=I.base.slot b o e n hb hx;obtain⟨sl',e2⟩:=slot b _ (neL b o e) hb (neC b o e hx) e1 (I.base.free b o e n hx);exact⟨sl',e2⟩
 ·obtain⟨o',e1⟩:=I.base.there b o e hx;exact free b o' (neC b o e hx) e1 (I.base.free b o e n hx)
 ·obtain⟨o',e1⟩:=I.base.there b o e hx;exact there b o' (neC b o e hx) e1
 ·obtain⟨m1,e1⟩:=I.base.e8 b ps e;obtain⟨m2,e2⟩:=e8 b _ e1;exact⟨m1++m2,by rw[e2,Array.append_assoc]⟩
 ·obtain⟨m,hn,hl⟩:=I.loc;refine⟨m,ns m hn,fun i x v e1 e2 e3=>?_⟩;obtain⟨u,r,l⟩:=hl i x v e1 e2 e3;refine⟨u,r,?_⟩
  rcases l with l | ⟨k,c,e,z⟩
  ·exact .inl l
  ·exact .inr ⟨k,c,e,cellK x c e _ z⟩
 ·obtain⟨v,z⟩:=I.cell x c e;exact⟨v,cellK x c e v z⟩
 ·obtain⟨m,⟨o,_,_,ho,_⟩,_⟩:=I.loc;exact free _ o (fun z=>(hch _ z).2.1 rfl) ho I.free
 ·obtain⟨v,o,ho,hd⟩:=I.cell x c e;exact free c o (fun z=>(hch c z).2.2.1 x c e rfl) ho (I.cJ x c e)
 ·obtain⟨e,n,ne,nf,d⟩:=I.pin p hp;have nch:p.1∉ch:=fun z=>(hch p.1 z).2.2.2 p hp rfl;exact⟨keep p.1 p.2 ne nf nch e n,free p.1 p.2 nch e n,ne,nf,d⟩
def Inv.un{t':Nat}(I:Inv X pins σ H s)(u:Un X.fs [] H H' s.heap h')(hok:HOk X.prog X.w H' h'):Inv X pins σ H' { s with heap:=h',toks:=t' }:=by
 obtain⟨m,⟨o,es,ep,ho,r⟩,_⟩:=id I.loc;obtain⟨sl,hL⟩:=u.any ho I.free (by simp)
 exact I.step (g':=s.gens) (d':=s.drawn) (ch:=[]) (fun _ z=>nomatch z) (fun b o _ hb _ e n=>u.keep b o e n hb (by simp)) (fun b o _ hb _ e n=>u.slot b o e n hb (by simp)) (fun b o _ e n=>u.free b o e n (by simp)) (fun b o _ e=>u.there b o e (by simp)) u.eD u.cR u.e8 (fun m' hm=>by
  obtain⟨o',es',ep',ho',r'⟩:=hm;rw[ho]at ho';cases ho'
  exact⟨_,es',ep',hL,r'⟩) hok I.bare
def Inv.call{g':Array GenState}{t':Nat}{d':Drawn}{ch:List Addr}(I:Inv X pins σ H s)(u:Un (frs X.stack) ch H H' s.heap h')(hok:HOk X.prog X.w H' h')(hg:AllBare g')
 (hch:∀ b∈ch,(b∈X.ex\/X.s₀.heap.objs.size<=b)/\b≠X.env.locals/\(∀ x c,X.env.cells.lookup x=some c->c≠b)/\∀ p∈X.pn++pins,p.1≠b) :
  Inv X pins σ H' { s with heap:=h',gens:=g',drawn:=d',toks:=t' }:=by
 obtain⟨m,⟨o,es,ep,ho,r⟩,_⟩:=id I.loc;obtain⟨sl,hL⟩:=u.any ho I.free fun z=>(hch _ z).2.1 rfl
 exact I.step (ch:=ch) hch (fun b o hL hb hc e n=>u.keep b o e n (fun z=>(List.mem_cons.mp (I.pV b z)).elim hL hb) hc) (fun b o _ _ hc e n=>u.any e n hc) (fun b o hc e n=>u.free b o e n hc) (fun b o hc e=>u.there b o e hc) u.eD u.cR u.e8 (fun m' hm=>by
  obtain⟨o',es',ep',ho',r'⟩:=hm;rw[ho]at ho';cases ho'
  exact⟨_,es',ep',hL,r'⟩) hok hg
def Inv.turned{t':Nat}{it:Addr}(I:Inv X pins σ H s)(k:∀ b o,b≠it->s.heap.get? b=some o->h'.get? b=some o)(hn:H it=none)(hL:it≠X.env.locals)
 (h1:it∈X.ex\/X.s₀.heap.objs.size<=it)(h2:∀ x c,X.env.cells.lookup x=some c->c≠it)(h3:∀ p∈X.pn++pins,p.1≠it):Inv X pins σ H { s with heap:=h',toks:=t' }:=by
 have nit:∀ b u,H b=some u->b≠it:=fun b u e z=>by rw[z,hn]at e;cases e
 refine I.step (g':=s.gens) (d':=s.drawn) (ch:=[it]) (fun b hb=>?_) (fun b o _ _ hc e _=>k b o (fun z=>hc (by simp[z])) e) (fun b o _ _ hc e _=>⟨o.slots,k b o (fun z=>hc (by simp[z])) e⟩) (fun _ _ _ _ n=>n)
  (fun b o hc e=>⟨o,k b o (fun z=>hc (by simp[z])) e⟩) (fun _ _ e=>e) (fun _ _ _ e=>e) (fun b ps e=>⟨#[],by rw[e];simp⟩) (fun m hm=>?_) (fun b u e=>?_) I.bare
 ·have e:b=it:=by simpa using hb
  subst e;exact⟨h1,hL,h2,h3⟩
 ·obtain⟨o,es,ep,ho,r⟩:=hm;exact⟨o,es,ep,k _ o (Ne.symm hL) ho,r⟩
 ·refine(I.hok b u e).jy (fun c v hc q=>k c v ?_ q) (fun _ q=>q) fun _ _ q=>q;rcases hc with z | z
  ·rw[z];exact nit b u e
  ·exact nit c _ z
def Inv.tok(I:Inv X pins σ H s)(t:Nat):Inv X pins σ H { s with toks:=t }:=I.un (h':=s.heap) (t':=t) Un.refl I.hok
def Inv.kept{t':Nat}(I:Inv X pins σ H s)(k:∀ b u,s.heap.get? b=some u->h'.get? b=some u):Inv X pins σ H { s with heap:=h',toks:=t' }:=I.un (Un.kept k) (I.hok.kept k)
def Inv.laid{a:Addr}{o:HO}{t':Nat}(I:Inv X pins σ H s)(k:∀ b u,s.heap.get? b=some u->h'.get? b=some u)(hp:s.heap.objs.size<=a)(new:bu X.prog X.w (upd H a o) h' a o) :
  Inv X pins σ (upd H a o) { s with heap:=h',toks:=t' }:=I.un (Un.laid k hp (I.hok.fresh hp)) (I.hok.laid k hp new)
def Inv.write{x e:Addr}{o:HO}{t':Nat}(I:Inv X pins σ H s)(mu:Mut (H x))(he:e=x\/H e=some (.own x))(k:∀ b u,b≠e->s.heap.get? b=some u->h'.get? b=some u)(heo:∃ u,h'.get? e=some u)
 (new:bu X.prog X.w (upd H x o) h' x o):Inv X pins σ (upd H x o) { s with heap:=h',toks:=t' }:=I.un (Un.write mu he k heo) (I.hok.write mu he k heo new)
def Inv.weak{σ':List (Option V)}(I:Inv X pins σ H s)(hl:σ'.length=σ.length)(w:∀ (i:Nat) v,σ'[i]?=some (some v)->σ[i]?=some (some v)):Inv X pins σ' H s :=
 ⟨I.ok,I.os,I.bare,I.base,let ⟨m,hn,hl'⟩:=I.loc;⟨m,hn,fun i x v e1 e2 e3=>hl' i x v e1 (w i v e2) e3⟩,I.cell,I.free,I.cJ,I.pin,I.hok,hl.trans I.len⟩
def Inv.sF{pins':List (Addr × Obj)}(I:Inv X pins σ H s)(h:∀ p∈pins',s.heap.get? p.1=some p.2/\H p.1=none/\p.1≠X.env.locals/\p.1∉X.fs/\∀ v,p.2.data≠.cell v):Inv X pins' σ H s :=
 ⟨I.ok,I.os,I.bare,I.base,I.loc,I.cell,I.free,I.cJ,fun p hp=>(List.mem_append.mp hp).elim (fun z=>I.pin p (List.mem_append_left _ z)) (h p),I.hok,I.len⟩
def lu{N:List Str}(hN:N.Nodup){i j:Nat}{x:Str}(a:N[i]?=some x)(b:N[j]?=some x):i=j:=by
 obtain⟨h1,e1⟩:=List.getElem?_eq_some_iff.mp a;obtain⟨h2,e2⟩:=List.getElem?_eq_some_iff.mp b;exact(List.getElem_inj hN).mp (e1.trans e2.symm)
def nY{M:Model}{A:Around}{E:Value->Shared->Prop}{i:Nat}{x:Str}{v:V}{u:Value}{Q:Unit->Shared->Prop}(I:Inv X pins σ H s)(hN:X.N.Nodup)(hi:X.N[i]?=some x)(hx:Loc X.env.scope x)(r:RelV v u)
 (h:∀ s',Inv X pins (σ.set i (some v)) H s'->(∃ a,Heap.SameBut a s.heap s'.heap/\(a=X.env.locals\/X.env.cells.lookup x=some a))->Q () s')(hf:X.fn x=true\/X.env.scope.names.lookup x=some .local:=by first | exact .inl rfl | exact .inr rfl | assumption):wpAny M A (storeName X.env x u) Q E s:=by
 obtain⟨m,hn,hl⟩:=id I.loc
 have hcls:(X.env.scope.kind == .class || (X.env.scope.kind == .module&&X.env.locals != X.env.globals))=false:=by rw[I.ok.kind];rfl
 have hiσ:i<σ.length:=by rw[I.len];exact(List.getElem?_eq_some_iff.mp hi).1
 have cne:=I.cne
 have tracked:∀ {a:Addr} {h':Heap},(∃ o,s.heap.get? a=some o/\H a=none)->Heap.SameBut a s.heap h'->HOk X.prog X.w H h':=fun {a h'} ha hs b ob e=>by
  obtain⟨_,_,hfree⟩:=ha;refine(I.hok b ob e).jy (fun c w' hc q=>(hs.2 c ?_).trans q) (fun _ q=>q) fun _ _ q=>q;rintro rfl;rcases hc with rfl | hc
  ·rw[hfree]at e;cases e
  ·rw[hfree]at hc;cases hc
 rcases hx with hk | hk
 ·refine wpAny_storeName_local hk hn (fun h' hn' hs=>?_) hcls;obtain⟨oL,_,_,hoL,_⟩:=id hn;refine h _ ⟨I.ok,I.os,I.bare,⟨fun b o e n hb hx=>?_,fun b o e n hb hx=>?_,I.base.free,fun b o e hx=>?_,I.base.eD,I.base.cR,I.base.e8⟩,⟨_,hn',fun j y v' e1 e2 e3=>?_⟩,fun y c e=>?_,I.free,I.cJ,fun p hp=>?_,tracked ⟨oL,hoL,I.free⟩ hs,by simpa using I.len⟩ ⟨_,hs,.inl rfl⟩
  ·exact(hs.2 b (Nat.ne_of_lt (Nat.lt_of_lt_of_le (Heap.lt_size e) I.ok.above))).trans (I.base.keep b o e n hb hx)
  ·obtain⟨sl,e1⟩:=I.base.slot b o e n hb hx;exact⟨sl,(hs.2 b (Nat.ne_of_lt (Nat.lt_of_lt_of_le (Heap.lt_size e) I.ok.above))).trans e1⟩
  ·obtain⟨o',e1⟩:=I.base.there b o e hx;exact⟨o',(hs.2 b (Nat.ne_of_lt (Nat.lt_of_lt_of_le (Heap.lt_size e) I.ok.above))).trans e1⟩
  ·by_cases hj:j=i
   ·subst hj;rw[hi]at e1;cases e1;rw[List.getElem?_set_self hiσ]at e2;cases e2;exact⟨u,r,.inl ⟨hk,by simp⟩⟩
   ·rw[List.getElem?_set_ne (Ne.symm hj)]at e2;obtain⟨u',r',q⟩:=hl j y v' e1 e2 e3;refine⟨u',r',?_⟩
    rcases q with⟨k,e⟩ | ⟨k,c,e,z⟩
    ·refine .inl ⟨k,?_⟩;have:y≠x:=fun e=>hj (lu hN e1 (e▸hi));simp[this,e]
    ·exact .inr ⟨k,c,e,z.sameBut hs (cne y c e)⟩
  ·obtain⟨w',z⟩:=I.cell y c e;exact⟨w',z.sameBut hs (cne y c e)⟩
  ·obtain⟨e,n,ne,nf,d⟩:=I.pin p hp;exact⟨(hs.2 p.1 ne).trans e,n,ne,nf,d⟩
 ·have hfn:X.fn x=true:=by
   rcases hf with z | z
   ·exact z
   ·rw[z]at hk;cases hk
  obtain⟨c,hc⟩:=I.ok.has x (.inl hk);obtain⟨w',z⟩:=I.cell x c hc;refine wpAny_storeName_cell I.ok.kind hk hc z (fun h' hc' hs=>?_);obtain⟨oc,hoc,hocd⟩:=id z;refine h { s with heap:=h' } ⟨I.ok,I.os,I.bare,⟨fun b o e n hb hx=>?_,fun b o e n hb hx=>?_,I.base.free,fun b o e hx=>?_,I.base.eD,I.base.cR,I.base.e8⟩,⟨m,hn.sameBut hs (Ne.symm (cne x c hc)),fun j y v' e1 e2 e3=>?_⟩,fun y c' e=>?_,I.free,I.cJ,fun p hp=>?_,tracked ⟨oc,hoc,I.cJ x c hc⟩ hs,by simpa using I.len⟩ ⟨c,hs,.inr hc⟩
  ·exact(hs.2 b (Nat.ne_of_lt (Nat.lt_of_lt_of_le (Heap.lt_size e) (I.ok.cab x c hfn hc)))).trans (I.base.keep b o e n hb hx)
  ·obtain⟨sl,e1⟩:=I.base.slot b o e n hb hx;exact⟨sl,(hs.2 b (Nat.ne_of_lt (Nat.lt_of_lt_of_le (Heap.lt_size e) (I.ok.cab x c hfn hc)))).trans e1⟩
  ·obtain⟨o',e1⟩:=I.base.there b o e hx;exact⟨o',(hs.2 b (Nat.ne_of_lt (Nat.lt_of_lt_of_le (Heap.lt_size e) (I.ok.cab x c hfn hc)))).trans e1⟩
  ·by_cases hj:j=i
   ·subst hj;rw[hi]at e1;cases e1;rw[List.getElem?_set_self hiσ]at e2;cases e2;exact⟨u,r,.inr ⟨.inl hk,c,hc,hc'⟩⟩
   ·rw[List.getElem?_set_ne (Ne.symm hj)]at e2;obtain⟨u',r',q⟩:=hl j y v' e1 e2 e3;refine⟨u',r',?_⟩
    rcases q with q | ⟨k,c',e,z'⟩
    ·exact .inl q
    ·refine .inr ⟨k,c',e,z'.sameBut hs ?_⟩;rintro rfl;exact hj (lu hN e1 (I.ok.inj _ _ _ e hc▸hi))
  ·by_cases hcc:c'=c
   ·subst hcc;exact⟨_,hc'⟩
   ·obtain⟨w2,z2⟩:=I.cell y c' e;exact⟨w2,z2.sameBut hs hcc⟩
  ·obtain⟨e,n,ne,nf,d⟩:=I.pin p hp;refine⟨(hs.2 p.1 ?_).trans e,n,ne,nf,d⟩;intro q;rw[q,hoc]at e;have q':oc=p.2:=Option.some.inj e;exact d w' (by rw[<-q'];exact hocd)
def gQ{M:Model}{A:Around}{E:Value->Shared->Prop}{i:Nat}{x:Str}{v:V}{u:Value}{Q:Unit->Shared->Prop}(I:Inv X pins σ H s)(hN:X.N.Nodup)(hi:X.N[i]?=some x)(hx:Loc X.env.scope x)(r:RelV v u)
 (h:∀ s',Inv X pins (σ.set i (some v)) H s'->Q () s')(hf:X.fn x=true\/X.env.scope.names.lookup x=some .local:=by first | exact .inl rfl | exact .inr rfl | assumption):wpAny M A (storeName X.env x u) Q E s :=
 nY I hN hi hx r (fun s' I' _=>h s' I') hf
def Inv.ud{s':Shared}{ch:List Addr}(I:Inv X pins σ H s)(ho:s'.os=s.os)(u:Un (frs X.stack) ch H H' s.heap s'.heap)(hok:HOk X.prog X.w H' s'.heap)(hg:AllBare s'.gens)
 (hch:∀ b∈ch,(b∈X.ex\/X.s₀.heap.objs.size<=b)/\b≠X.env.locals/\(∀ x c,X.env.cells.lookup x=some c->c≠b)/\∀ p∈X.pn++pins,p.1≠b):Inv X pins σ H' s':=by
 obtain⟨h',g',d',t',o'⟩:=s';have e:o'=s.os:=ho;subst e;exact I.call (g':=g') (t':=t') (d':=d') u hok hg hch
end
@[reducible]noncomputable def XK:=Value->Option Addr->Hp->Prop
@[reducible]noncomputable def St:=List (Option V)
@[reducible]noncomputable def VK:=V->Hp->Prop
@[reducible]noncomputable def TE:=St->Hp->VK->Prop
@[reducible]noncomputable def TT:=St->Hp->(Bool->Hp->Prop)->Prop
@[reducible]noncomputable def TA:=St->Hp->(List V->Hp->Prop)->Prop
structure Ends where
 nx:St->Hp->Prop
 rt:VK
 bk:St->Hp->Prop:=fun _ _=>False
 ct:St->Hp->Prop:=fun _ _=>False
@[reducible]noncomputable def TS:=Ends->St->Hp->Prop
abbrev EP(X:Cx)(pins:List (Addr × Obj))(σ:St)(Q:VK)(u:Value)(s':Shared):Prop:=∃ v H',Inv X pins σ H' s'/\RelV v u/\Q v H'
abbrev TP(X:Cx)(pins:List (Addr × Obj))(σ:St)(Q:Bool->Hp->Prop)(b:Bool)(s':Shared):Prop:=∃ H',Inv X pins σ H' s'/\Q b H'
abbrev AP(X:Cx)(pins:List (Addr × Obj))(σ:St)(Q:List V->Hp->Prop)(us:List Value)(s':Shared):Prop:=∃ vs H',Inv X pins σ H' s'/\Vals vs us/\Q vs H'
abbrev SP(X:Cx)(pins:List (Addr × Obj))(D:Ends)(f:Flow)(s':Shared):Prop :=
 match f with
 | .next=>∃ σ' H',Inv X pins σ' H' s'/\D.nx σ' H'
 | .brk=>∃ σ' H',Inv X pins σ' H' s'/\D.bk σ' H'
 | .cont=>∃ σ' H',Inv X pins σ' H' s'/\D.ct σ' H'
 | .ret u=>∃ v σ' H',Inv X pins σ' H' s'/\RelV v u/\D.rt v H'
abbrev PE(X:Cx)(e:Expr)(t:TE):Prop :=
 ∀ (pins:List (Addr × Obj)) (s:Shared) (σ:St) (H:Hp) (Q:VK),Inv X pins σ H s->t σ H Q->wpAny (model X.prog X.w) X.A (eval e X.env) (EP X pins σ Q) X.xe s
abbrev PT(X:Cx)(e:Expr)(t:TT):Prop :=
 ∀ (pins:List (Addr × Obj)) (s:Shared) (σ:St) (H:Hp) (Q:Bool->Hp->Prop),Inv X pins σ H s->t σ H Q->wpAny (model X.prog X.w) X.A (isTrue e X.env (eval e X.env)) (TP X pins σ Q) X.xe s
abbrev PW(X:Cx)(e:Expr)(t:TT):Prop :=
 ∀ (whole:Sem Value) (pins:List (Addr × Obj)) (s:Shared) (σ:St) (H:Hp) (Q:Bool->Hp->Prop),Inv X pins σ H s->t σ H Q->wpAny (model X.prog X.w) X.A (isTrue e X.env whole) (TP X pins σ Q) X.xe s
def PW.pt{X:Cx}{e:Expr}{t:TT}(h:PW X e t):PT X e t:=h _
abbrev PA(X:Cx)(es:List Expr)(t:TA):Prop :=
 ∀ (pos:Pos) (pins:List (Addr × Obj)) (s:Shared) (σ:St) (H:Hp) (Q:List V->Hp->Prop),Inv X pins σ H s->t σ H Q->wpAny (model X.prog X.w) X.A (spliced (backTo pos (starEach es X.env))) (AP X pins σ Q) X.xe s
abbrev PS(X:Cx)(st:Stmt)(t:TS):Prop :=
 ∀ (pins:List (Addr × Obj)) (s:Shared) (σ:St) (H:Hp) (D:Ends),Inv X pins σ H s->t D σ H->wpAny (model X.prog X.w) X.A (exec st X.env) (SP X pins D) X.xe s
abbrev PSs(X:Cx)(st:List Stmt)(t:TS):Prop :=
 ∀ (pins:List (Addr × Obj)) (s:Shared) (σ:St) (H:Hp) (D:Ends),Inv X pins σ H s->t D σ H->wpAny (model X.prog X.w) X.A (execs st X.env) (SP X pins D) X.xe s
def thn{α:Type}{t:Sem α}{Q Q':α->Shared->Prop}{M:Model}{A:Around}{E:Value->Shared->Prop}{s:Shared}(h:wpAny M A t Q E s)(hQ:∀ a s,Q a s->Q' a s):wpAny M A t Q' E s:=wpAny_mono h hQ fun _ _ x=>x
section
variable{X:Cx}
abbrev ji(i:Nat):TE:=fun σ H Q=>∃ v,σ[i]?=some (some v)/\Q v H
abbrev tC(v:V):TE:=fun _ H Q=>Q v H
def gB{i:Nat}{x:Str}{pos:Pos}(hN:X.N[i]?=some x)(hv:Vis X.env.scope x)(hd:(x == ("__debug__" : Str))=false:=by decide)(hcd:(x == ("__classdict__" : Str))=false:=by decide):PE X (.Name x pos) (ji i):=by
 intro pins s σ H Q I h;obtain⟨v,e,h⟩:=h;obtain⟨m,hn,hl⟩:=I.loc;obtain⟨u,r,l⟩:=hl i x v hN e hv
 have fin:EP X pins σ Q u s:=⟨v,H,I,r,h⟩
 rcases l with⟨hk,hm⟩ | ⟨hk,c,hc,hcell⟩
 ·exact wpAny_Name (wpAny_loadName_local I.ok.kind hk hn hm fin) hd
 ·rcases hk with hk | hk
  ·exact wpAny_Name (wpAny_loadName_cell I.ok.kind hk hc hcell fin) hd
  ·exact wpAny_Name (wpAny_loadName_free I.ok.kind hk hc hcell fin hcd) hd
def pH{i j pos}:PE X (.Constant (.int i) j pos) (tC (.int i)):=fun _ _ _ H _ I h=>wpAny_Constant_int ⟨.int i,H,I.tok _,⟨_,rfl⟩,h⟩
def EO{b j pos}:PE X (.Constant (.bool b) j pos) (tC (.bl b)):=fun _ _ _ H _ I h=>Constant_bool ⟨.bl b,H,I,rfl,h⟩
def pE{j pos}:PE X (.Constant .none j pos) (tC .non):=fun _ _ _ H _ I h=>Constant_none ⟨.non,H,I,rfl,h⟩
def qE{x j pos}:PE X (.Constant (.str x) j pos) (tC (.str x)):=fun _ _ _ H _ I h=>Calls.Constant_str ⟨.str x,H,I.tok _,⟨_,rfl⟩,h⟩
abbrev Gl(X:Cx)(x:Str):Prop:=X.env.kindOf x=some .globalImplicit
def fj{E:Value->Shared->Prop}{pins:List (Addr × Obj)}{s:Shared}{σ:St}{H:Hp}{x:Str}{u:Value}{pos:Pos}{Q:Value->Shared->Prop}(I:Inv X pins σ H s)(hg:Gl X x)(hm:X.mg x=some u)(h:Q u s)
 (hd:(x == ("__debug__" : Str))=false:=by decide):wpAny (model X.prog X.w) X.A (eval (.Name x pos) X.env) Q E s :=
 Calls.Name_function_global I.ok.kind hg (Calls.loadGlobal_global (by rw[I.ok.glob];exact I.mod.glob.keeps I.bk) hm h) hd
def gx{E:Value->Shared->Prop}{pins:List (Addr × Obj)}{s:Shared}{σ:St}{H:Hp}{x:Str}{u:Value}{pos:Pos}{Q:Value->Shared->Prop}(I:Inv X pins σ H s)(hg:Gl X x)(hm:X.mg x=none)(hv:bootBuiltins x=some u)(h:Q u s)
 (hn:x ≠ "__name__" := by decide)(hd:(x == ("__debug__" : Str))=false:=by decide):wpAny (model X.prog X.w) X.A (eval (.Name x pos) X.env) Q E s:=by
 obtain⟨mb,h1,h2⟩:=I.mod.blt;exact Calls.Name_function_global I.ok.kind hg (Calls.loadGlobal_builtin (by rw[I.ok.glob];exact I.mod.glob.keeps I.bk) hm (by rw[I.ok.blt];exact h1.keeps I.bk) ((h2 x hn).trans hv) h) hd
def sE{x:Str}{v:V}{u:Value}{pos:Pos}(hg:Gl X x)(hm:X.mg x=some u)(r:RelV v u)(hd:(x == ("__debug__" : Str))=false:=by decide):PE X (.Name x pos) (tC v) :=
 fun _ _ _ H _ I h=>fj I hg hm ⟨v,H,I,r,h⟩ hd
def tq{x:Str}{v:V}{u:Value}{pos:Pos}(hg:Gl X x)(hm:X.mg x=none)(hv:bootBuiltins x=some u)(r:RelV v u)(hn:x ≠ "__name__" := by decide)(hd:(x == ("__debug__" : Str))=false:=by decide):PE X (.Name x pos) (tC v) :=
 fun _ _ _ H _ I h=>gx I hg hm hv ⟨v,H,I,r,h⟩ hn hd
variable{a b:Expr}{ta tb:TE}{pos:Pos}
abbrev PC(X:Cx)(op:CmpOp)(a b:Expr)(t:TE):Prop :=
 ∀ (pins:List (Addr × Obj)) (s:Shared) (σ:St) (H:Hp) (Q:VK),Inv X pins σ H s->t σ H Q ->
  wpAny (model X.prog X.w) X.A (eval a X.env) (fun v s₁=>wpAny (model X.prog X.w) X.A (eval b X.env) (fun u s₂=>wpAny (model X.prog X.w) X.A (compareOp op v u) (EP X pins σ Q) X.xe s₂) X.xe s₁) X.xe s
abbrev tB(t:TE):TT:=fun σ H Q=>t σ H fun x H1=>∃ c,x=.bl c/\Q c H1
def CN{op:CmpOp}{t:TE}(h:PC X op a b t)(h1:behindInMarks op b=false:=by first | exact nobehind _ (by decide) (by decide) | rfl):PE X (.Compare a [op] [b] pos) t:=fun pins s σ H Q I hw=>wpAny_Compare1 (h pins s σ H Q I hw) h1
def DB{op:CmpOp}{t:TE}(h:PC X op a b t)(h1:behindInMarks op b=false:=by first | exact nobehind _ (by decide) (by decide) | rfl):PT X (.Compare a [op] [b] pos) (tB t):=by
 intro pins s σ H Q I hw;refine wpAny_isTrue_Compare1 (thn (h pins s σ H _ I hw) fun v s1 h1=>thn h1 fun u s2 h2=>thn h2 fun c s3 ⟨x,H1,I1,r1,q1⟩=>?_) h1;obtain⟨d,rfl,q⟩:=q1;cases r1;exact wpAny_truthy_bool ⟨H1,I1,q⟩
variable{tA tB':TT}{rest:List Expr}
abbrev GL(t u:TT):TT:=fun σ H Q=>t σ H fun c H1=>if c=true then u σ H1 Q else Q false H1
abbrev tOr(t u:TT):TT:=fun σ H Q=>t σ H fun c H1=>if c=true then Q true H1 else u σ H1 Q
abbrev GJ(t:TT):TT:=fun σ H Q=>t σ H fun c H1=>Q (!c) H1
def A3(ha:PT X a tA):PW X (.BoolOp .And [a] pos) tA:=by
 intro wh pins s σ H Q I h;refine isTrue_and (thn (ha pins s σ H Q I h) fun c s1 e=>?_)
 cases c with
 | true=>exact isTrue_and_nil e
 | false=>exact e
def En(ha:PT X a tA):PW X (.BoolOp .Or [a] pos) tA:=by
 intro wh pins s σ H Q I h;refine isTrue_or (thn (ha pins s σ H Q I h) fun c s1 e=>?_)
 cases c with
 | false=>exact isTrue_or_nil e
 | true=>exact e
def BL(ha:PT X a tA)(hb:PW X (.BoolOp .And (b::rest) pos) tB'):PW X (.BoolOp .And (a::b::rest) pos) (GL tA tB'):=by
 intro wh pins s σ H Q I h;refine isTrue_and (thn (ha pins s σ H _ I h) fun c s1 ⟨H1,I1,q1⟩=>?_)
 cases c with
 | true=>exact hb wh pins s1 σ H1 Q I1 q1
 | false=>exact⟨H1,I1,q1⟩
def FD(ha:PT X a tA)(hb:PW X (.BoolOp .Or (b::rest) pos) tB'):PW X (.BoolOp .Or (a::b::rest) pos) (tOr tA tB'):=by
 intro wh pins s σ H Q I h;refine isTrue_or (thn (ha pins s σ H _ I h) fun c s1 ⟨H1,I1,q1⟩=>?_)
 cases c with
 | true=>exact⟨H1,I1,q1⟩
 | false=>exact hb wh pins s1 σ H1 Q I1 q1
def CW(ha:PT X a tA):PT X (.UnaryOp .Not a pos) (GJ tA):=by
 intro pins s σ H Q I h;exact isTrue_not (ha pins s σ H (fun c H1=>Q (!c) H1) I h)
abbrev F0(ta tb:TE):TE:=fun σ H Q=>ta σ H fun x H1=>∃ c,x=.bl c/\if c=true then tb σ H1 Q else Q (.bl false) H1
abbrev Ga(ta tb:TE):TE:=fun σ H Q=>ta σ H fun x H1=>∃ c,x=.bl c/\if c=true then Q (.bl true) H1 else tb σ H1 Q
def Dv{op}{t:TE}(h:PE X a t):PE X (.BoolOp op [a] pos) t:=fun pins s σ H Q I hw=>BoolOp_one (h pins s σ H Q I hw)
def De(ha:PE X a ta)(hb:PE X (.BoolOp .And (b::rest) pos) tb):PE X (.BoolOp .And (a::b::rest) pos) (F0 ta tb):=by
 intro pins s σ H Q I h;refine BoolOp_and (thn (ha pins s σ H _ I h) fun v s1 ⟨x,H1,I1,r1,q1⟩=>?_);obtain⟨c,rfl,q1⟩:=q1;cases r1;refine wpAny_truthy_bool ?_
 cases c with
 | true=>exact hb pins s1 σ H1 Q I1 q1
 | false=>exact⟨.bl false,H1,I1,rfl,q1⟩
def ES(ha:PE X a ta)(hb:PE X (.BoolOp .Or (b::rest) pos) tb):PE X (.BoolOp .Or (a::b::rest) pos) (Ga ta tb):=by
 intro pins s σ H Q I h;refine BoolOp_or (thn (ha pins s σ H _ I h) fun v s1 ⟨x,H1,I1,r1,q1⟩=>?_);obtain⟨c,rfl,q1⟩:=q1;cases r1;refine wpAny_truthy_bool ?_
 cases c with
 | false=>exact hb pins s1 σ H1 Q I1 q1
 | true=>exact⟨.bl true,H1,I1,rfl,q1⟩
abbrev tIf(t:TT)(ta tb:TE):TE:=fun σ H Q=>t σ H fun c H1=>if c=true then ta σ H1 Q else tb σ H1 Q
def zg{c:Expr}(hc:PT X c tA)(ha:PE X a ta)(hb:PE X b tb):PE X (.IfExp c a b pos) (tIf tA ta tb):=by
 intro pins s σ H Q I h;refine wpAny_IfExp (thn (hc pins s σ H _ I h) fun d s1 ⟨H1,I1,q1⟩=>?_)
 cases d with
 | true=>exact ha pins s1 σ H1 Q I1 q1
 | false=>exact hb pins s1 σ H1 Q I1 q1
end
abbrev SqL(K:PySem.W.Frag)(H:Hp)(a:Addr)(xs:List V):Prop :=
 Rd H a (.lst xs) \/
  ∃ (o:Obj) (its:Array Value) (n:Nat),K.lookup a=some o/\o.cls=.type "list" /\ o.dict=none/\o.data=.seq its n/\its.size<=sizeLine/\Vals xs its.toList
abbrev SqT(K:PySem.W.Frag)(H:Hp)(a:Addr)(xs:List V):Prop :=
 Rd H a (.tup xs) \/
  ∃ (o:Obj) (its:Array Value) (n:Nat),K.lookup a=some o/\o.cls=.type "tuple" /\ o.data=.seq its n/\its.size<=sizeLine/\Vals xs its.toList
abbrev Gg:Value->Option V
 | .none=>some .non
 | .bool b=>some (.bl b)
 | .int i _=>some (.int i)
 | .str x _=>some (.str x)
 | .bytes b _=>some (.byt b)
 | .float b _=>some (.flt b)
 | .ref a=>some (.ref a)
 | .type n=>some (.ty n)
 | _=>none
def RelV.abs{x:V}{u:Value}(r:RelV x u):Gg u=some x:=by
 cases x with
 | non=>cases r;rfl
 | bl _=>cases r;rfl
 | int _=>obtain⟨t,rfl⟩:=r;rfl
 | str _=>obtain⟨t,rfl⟩:=r;rfl
 | byt _=>obtain⟨t,rfl⟩:=r;rfl
 | flt _=>obtain⟨t,rfl⟩:=r;rfl
 | ref _=>cases r;rfl
 | ty _=>cases r;rfl
def RelV.inj{x y:V}{u:Value}(r:RelV x u)(q:RelV y u):x=y:=Option.some.inj (r.abs.symm.trans q.abs)
def Vals.inj:∀ {xs ys:List V} {us:List Value},Vals xs us->Vals ys us->xs=ys
 | _,_,_,.nil,.nil=>rfl
 | _,_,_,.cons r t,.cons r' t'=>by rw[r.inj r',Vals.inj t t']
section
variable{X:Cx}{pins:List (Addr × Obj)}{σ:St}{H:Hp}{s:Shared}{a:Addr}{xs ys:List V}
def SqL.of{K:PySem.W.Frag}(h:H a=some (.lst xs)):SqL K H a xs:=.inl (.inl h)
def SqT.of{K:PySem.W.Frag}(h:H a=some (.tup xs)):SqT K H a xs:=.inl (.inl h)
def Inv.list(I:Inv X pins σ H s)(h:SqL X.K H a xs):∃ its:List Value,Vals xs its/\PlainL s.heap a its.toArray/\xs.length<=sizeLine:=by
 rcases h with h | ⟨o,its,n,hk,hc,hd,hs,hz,r⟩
 ·obtain⟨z,its,n,r,e⟩:=h.ok I.hok;exact⟨its,r,⟨_,n,e,rfl,rfl,rfl⟩,z⟩
 ·refine⟨its.toList,r,⟨o,n,I.kIn a o hk,hc,hd,by simpa using hs⟩,?_⟩;have e:=r.length;simp only[Array.length_toList]at e;omega
def Inv.tuple(I:Inv X pins σ H s)(h:SqT X.K H a xs):∃ its:List Value,Vals xs its/\IsTup s.heap a its.toArray/\xs.length<=sizeLine:=by
 rcases h with h | ⟨o,its,n,hk,hc,hs,hz,r⟩
 ·obtain⟨z,its,r,p⟩:=h.ok I.hok;exact⟨its,r,p,z⟩
 ·refine⟨its.toList,r,⟨o,I.kIn a o hk,hc,n,by simpa using hs⟩,?_⟩;have e:=r.length;simp only[Array.length_toList]at e;omega
def Inv.xD(I:Inv X pins σ H s)(h:SqL X.K H a xs)(h':SqL X.K H a ys):xs=ys:=by
 obtain⟨its,r,⟨o,n,e,_,_,d⟩,_⟩:=I.list h;obtain⟨its',r',⟨o',n',e',_,_,d'⟩,_⟩:=I.list h';rw[e]at e';cases e';rw[d]at d';injection d' with d1 _
 have:its=its':=by simpa using congrArg Array.toList d1
 subst this;exact r.inj r'
def Inv.vN(I:Inv X pins σ H s)(h:SqT X.K H a xs)(h':SqT X.K H a ys):xs=ys:=by
 obtain⟨its,r,⟨o,e,_,n,d⟩,_⟩:=I.tuple h;obtain⟨its',r',⟨o',e',_,n',d'⟩,_⟩:=I.tuple h';rw[e]at e';cases e';rw[d]at d';injection d' with d1 _
 have:its=its':=by simpa using congrArg Array.toList d1
 subst this;exact r.inj r'
end
@[reducible]noncomputable def Cx.dZ(X:Cx)(E:Value->Shared->Prop):Cx:={ X with xe:=E }
@[reducible]noncomputable def Cx.nox(X:Cx):Cx:=X.dZ fun _ _=>False
def Cx.Ok.dZ{X:Cx}(ok:X.Ok)(E:Value->Shared->Prop):(X.dZ E).Ok :=
 ⟨ok.mod,ok.kind,ok.glob,ok.blt,ok.above,ok.inj,ok.has,ok.cab,ok.hd,ok.frames,ok.stk,ok.exf,ok.bs,ok.bsz,ok.jn,ok.iM,ok.dD,ok.frf⟩
def Cx.Ok.cG{X:Cx}{E:Value->Shared->Prop}(ok:(X.dZ E).Ok):X.Ok :=
 ⟨ok.mod,ok.kind,ok.glob,ok.blt,ok.above,ok.inj,ok.has,ok.cab,ok.hd,ok.frames,ok.stk,ok.exf,ok.bs,ok.bsz,ok.jn,ok.iM,ok.dD,ok.frf⟩
section
variable{X:Cx}{pins:List (Addr × Obj)}{σ:St}{H:Hp}{s:Shared}{E:Value->Shared->Prop}
def Inv.dZ(I:Inv X pins σ H s)(E:Value->Shared->Prop):Inv (X.dZ E) pins σ H s:=⟨I.ok.dZ E,I.os,I.bare,I.base,I.loc,I.cell,I.free,I.cJ,I.pin,I.hok,I.len⟩
def Inv.cG(I:Inv (X.dZ E) pins σ H s):Inv X pins σ H s:=⟨I.ok.cG,I.os,I.bare,I.base,I.loc,I.cell,I.free,I.cJ,I.pin,I.hok,I.len⟩
def SP.cG{D:Ends}{f:Flow}{s':Shared}(h:SP (X.dZ E) pins D f s'):SP X pins D f s':=by
 cases f with
 | next=>obtain⟨σ',H',I,q⟩:=h;exact⟨σ',H',I.cG,q⟩
 | brk=>obtain⟨σ',H',I,q⟩:=h;exact⟨σ',H',I.cG,q⟩
 | cont=>obtain⟨σ',H',I,q⟩:=h;exact⟨σ',H',I.cG,q⟩
 | ret u=>obtain⟨v,σ',H',I,r,q⟩:=h;exact⟨v,σ',H',I.cG,r,q⟩
def PE.nox{e:Expr}{t:TE}(h:PE X.nox e t):PE X e t:=fun pins s σ H Q I hw =>
 wpAny_mono (h pins s σ H Q (I.dZ _) hw) (fun _ _ ⟨v,H',I',r,q⟩=>⟨v,H',I'.cG,r,q⟩) fun _ _ z=>False.elim z
def PT.nox{e:Expr}{t:TT}(h:PT X.nox e t):PT X e t:=fun pins s σ H Q I hw =>
 wpAny_mono (h pins s σ H Q (I.dZ _) hw) (fun _ _ ⟨H',I',q⟩=>⟨H',I'.cG,q⟩) fun _ _ z=>False.elim z
def PSs.nox{st:List Stmt}{t:TS}(h:PSs X.nox st t):PSs X st t:=fun pins s σ H D I hw =>
 wpAny_mono (h pins s σ H D (I.dZ _) hw) (fun _ _ q=>q.cG) fun _ _ z=>False.elim z
end
section
variable{X:Cx}{st:Stmt}{rest:List Stmt}{t u:TS}{e:Expr}{te:TE}{pos:Pos}
abbrev EY:TS:=fun D σ H=>D.nx σ H
abbrev Gz(t u:TS):TS:=fun D σ H=>t { D with nx:=u D } σ H
def Bk:PSs X [] EY:=fun _ _ σ H _ I h=>wpAny_execs_nil ⟨σ,H,I,h⟩
def kR(h1:PS X st t)(h2:PSs X rest u):PSs X (st::rest) (Gz t u):=by
 intro pins s σ H D I h;refine wpAny_execs_cons (thn (h1 pins s σ H { D with nx:=u D } I h) fun f s1 q=>?_)
 cases f with
 |next=>
  obtain⟨σ',H',I',q⟩:=q;exact h2 pins s1 σ' H' D I' q
 | ret v=>exact q
 | brk=>exact q
 | cont=>exact q
def Inv.quiet{pins:List (Addr × Obj)}{σ:St}{H:Hp}{s:Shared}(I:Inv X pins σ H s):interactive X.env=false:=by simp[interactive,I.ok.kind]
abbrev oV(te:TE):TS:=fun D σ H=>te σ H fun _ H1=>D.nx σ H1
def k7(he:PE X e te)(hs:swapsWith e none pos.line X.env=pure false:=by rfl):PS X (.Expr e pos) (oV te):=by
 intro pins s σ H D I h;exact wpAny_Expr_any (thn (he pins s σ H _ I h) fun v s1 ⟨x,H1,I1,r1,q1⟩=>⟨σ,H1,I1,q1⟩) I.quiet hs
abbrev Gw(te:TE):TS:=fun D σ H=>te σ H D.rt
def pW(he:PE X e te):PS X (.Return (some e) pos) (Gw te):=by
 intro pins s σ H D I h;exact wpAny_Return_some (thn (he pins s σ H _ I h) fun v s1 ⟨x,H1,I1,r1,q1⟩=>⟨x,σ,H1,I1,r1,q1⟩)
abbrev GC(c:TT)(t u:TS):TS:=fun D σ H=>c σ H fun b H1=>if b=true then t D σ H1 else u D σ H1
def tX{c:Expr}{a b:List Stmt}{tc:TT}(hc:PT X c tc)(ha:PSs X a t)(hb:PSs X b u):PS X (.If c a b pos) (GC tc t u):=by
 intro pins s σ H D I h;refine wpAny_If (thn (hc pins s σ H _ I h) fun d s1 ⟨H1,I1,q1⟩=>?_)
 cases d with
 | true=>exact ha pins s1 σ H1 D I1 q1
 | false=>exact hb pins s1 σ H1 D I1 q1
end
@[reducible]noncomputable def TG:=V->St->Hp->(St->Hp->Prop)->Prop
@[reducible]noncomputable def TGs:=List V->St->Hp->(St->Hp->Prop)->Prop
abbrev PG(X:Cx)(target:Expr)(t:TG):Prop :=
 ∀ (pins:List (Addr × Obj)) (s:Shared) (σ:St) (H:Hp) (v:V) (u:Value) (Q:St->Hp->Prop),Inv X pins σ H s->RelV v u->t v σ H Q ->
  wpAny (model X.prog X.w) X.A (assign target X.env u) (fun _ s'=>∃ σ' H',Inv X pins σ' H' s'/\Q σ' H') X.xe s
abbrev PGs(X:Cx)(ts:List Expr)(t:TGs):Prop :=
 ∀ (pins:List (Addr × Obj)) (s:Shared) (σ:St) (H:Hp) (vs:List V) (us:List Value) (Q:St->Hp->Prop),Inv X pins σ H s->Vals vs us->t vs σ H Q ->
  wpAny (model X.prog X.w) X.A (assignInOrder ((assignEach ts X.env).map (·.2)) us) (fun _ s'=>∃ σ' H',Inv X pins σ' H' s'/\Q σ' H') X.xe s
@[reducible]noncomputable def x9:=V->V->V->Hp->(Hp->Prop)->Prop
abbrev DT(X:Cx)(t:x9):Prop :=
 ∀ (pins:List (Addr × Obj)) (s:Shared) (σ:St) (H:Hp) (o i v:V) (ov iv u:Value) (Q:Hp->Prop),Inv X pins σ H s->RelV o ov->RelV i iv->RelV v u->t o i v H Q ->
  wpAny (model X.prog X.w) X.A (setItem ov iv u) (fun _ s'=>∃ H',Inv X pins σ H' s'/\Q H') X.xe s
section
variable{X:Cx}{pos:Pos}
abbrev lR(i:Nat):TG:=fun v σ H Q=>Q (σ.set i (some v)) H
def t5{i:Nat}{x:Str}(hN:X.N.Nodup)(hi:X.N[i]?=some x)(hx:Loc X.env.scope x)(hf:X.fn x=true\/X.env.scope.names.lookup x=some .local:=by first | exact .inl rfl | exact .inr rfl | assumption):PG X (.Name x pos) (lR i):=by
 intro pins s σ H v u Q I r h;exact wpAny_assign_Name (gQ I hN hi hx r (fun s' I'=>⟨_,H,I',h⟩) hf)
abbrev BX:TGs:=fun vs σ H Q=>vs=[]/\Q σ H
abbrev zJ(t:TG)(u:TGs):TGs:=fun vs σ H Q=>∃ v r,vs=v::r/\t v σ H fun σ' H'=>u r σ' H' Q
def Ar:PGs X [] BX:=by
 intro pins s σ H vs us Q I r h;obtain⟨e,h⟩:=h;subst e;cases r;exact assignInOrder_nil ⟨σ,H,I,h⟩
def zr{e:Expr}{es:List Expr}{t:TG}{u:TGs}(h1:PG X e t)(h2:PGs X es u)
 (hs:(assignEach (e::es) X.env).map (·.2)=assign e X.env::(assignEach es X.env).map (·.2):=by rfl):PGs X (e::es) (zJ t u):=by
 intro pins s σ H vs us Q I r h;obtain⟨v,vr,e1,h⟩:=h;subst e1
 cases r with
 |cons r rr=>
  rw[hs];refine assignInOrder_cons (thn (h1 pins s σ H _ _ _ I r h) fun _ s1 ⟨σ1,H1,I1,q1⟩=>?_);exact h2 pins s1 σ1 H1 _ _ Q I1 rr q1
abbrev nv(K:PySem.W.Frag)(n:Nat)(t:TGs):TG:=fun v σ H Q=>∃ a xs,v=.ref a/\SqT K H a xs/\xs.length=n/\t xs σ H Q
abbrev ya(to ti:TE)(t:x9):TG:=fun v σ H Q=>to σ H fun o H1=>ti σ H1 fun i H2=>t o i v H2 fun H3=>Q σ H3
def BR{o i:Expr}{to ti:TE}{t:x9}(ho:PE X o to)(hi:PE X i ti)(hs:DT X t)
 (ha:∀ v,assign (.Subscript o i pos) X.env v=(do
   let ov <- holding [v] (eval o X.env)
   let iv <- holding [v,ov] (eval i X.env)
   standAt pos
   holding [v,ov,iv] (setItem ov iv v)
   release [v,ov,iv] []):=by intro _;rfl):PG X (.Subscript o i pos) (ya to ti t):=by
 intro pins s σ H v u Q I r h;rw[ha];refine wpAny_bind (wpAny_holding (thn (ho pins s σ H _ I h) fun ov s1 ⟨x,H1,I1,r1,q1⟩=>?_));refine wpAny_bind (wpAny_holding (thn (hi pins s1 σ H1 _ I1 q1) fun iv s2 ⟨y,H2,I2,r2,q2⟩=>?_));refine wpAny_bind (wpAny_standAt (wpAny_bind (wpAny_holding (thn (hs pins s2 σ H2 x y v ov iv u _ I2 r1 r2 r q2) fun _ s3 ⟨H3,I3,q3⟩=>?_))));exact wpAny_release ⟨σ,H3,I3,q3⟩
abbrev nB(te:TE)(g:TG):TS:=fun D σ H=>te σ H fun x H1=>g x σ H1 D.nx
def qS{tg e:Expr}{te:TE}{g:TG}(he:PE X e te)(hg:PG X tg g)(hs:swapsWithSole [tg] e pos.line X.env=pure false:=by rfl)(hw:swappedStores [tg] e X.env=pure none:=by rfl)
 (h1:(assignEach [tg] X.env).map (·.2)=[assign tg X.env]:=by rfl):PS X (.Assign [tg] e pos) (nB te g):=by
 intro pins s σ H D I h;refine wpAny_Assign_stores (thn (he pins s σ H _ I h) fun v s1 ⟨x,H1,I1,r1,q1⟩=>?_) hs hw;rw[h1];exact thn (hg pins s1 σ H1 x v _ I1 r1 q1) fun _ s2 q=>q
def qK{i:Nat}{x:Str}{e:Expr}{te:TE}{pos':Pos}(hN:X.N.Nodup)(hi:X.N[i]?=some x)(hx:Loc X.env.scope x)(he:PE X e te)(hs:swapsWith e (some (.Name x pos')) pos.line X.env=pure false:=by rfl)(hf:X.fn x=true\/X.env.scope.names.lookup x=some .local:=by first | exact .inl rfl | exact .inr rfl | assumption) :
  PS X (.Assign [.Name x pos'] e pos) (nB te (lR i)):=by
 intro pins s σ H D I h;refine wpAny_Assign_Name (thn (he pins s σ H _ I h) fun v s1 ⟨y,H1,I1,r1,q1⟩=>?_) hs;exact gQ I1 hN hi hx r1 (fun s2 I2=>⟨_,H1,I2,q1⟩) hf
abbrev DK(i j:Nat)(ta:TA):TS:=fun D σ H=>ta σ H fun vs H1=>∃ v w,vs=[v,w]/\D.nx ((σ.set i (some v)).set j (some w)) H1
def C5{i j:Nat}{x y:Str}{a b:Expr}{ta:TA}{px py pt:Pos}{kt k2 pt2}(hc:X.calm=true)(hN:X.N.Nodup)(hi:X.N[i]?=some x)(hj:X.N[j]?=some y)(hij:i≠j)
 (hx:X.env.scope.names.lookup x=some .local)(hy:X.env.scope.names.lookup y=some .local)(ha:PA X [a,b] ta)
 (hw:swappedStores [.Tuple [.Name x px,.Name y py] kt pt] (.Tuple [a,b] k2 pt2) X.env=pure (some [x,y]))
 (hs:swapsWithSole [.Tuple [.Name x px,.Name y py] kt pt] (.Tuple [a,b] k2 pt2) pos.line X.env=pure false:=by rfl) :
  PS X (.Assign [.Tuple [.Name x px,.Name y py] kt pt] (.Tuple [a,b] k2 pt2) pos) (DK i j ta):=by
 intro pins s σ H D I h;rw[exec_Assign_arm];refine wpAny_bind (wpAny_standAt ?_);rw[hs];refine wpAny_bind (wpAny_pure ?_);rw[if_neg (by decide)];refine wpAny_bind (Tuple_ (thn (ha _ pins s σ H _ I h) fun us s1 ⟨vs,H1,I1,r1,q1⟩=>?_));obtain⟨v,w,e1,q1⟩:=q1;subst e1
 obtain⟨u1,u2,rfl,rv,rw'⟩:∃ u1 u2,us=[u1,u2]/\RelV v u1/\RelV w u2:=by
  cases r1 with
  |cons p q=>
   cases q with
   |cons p' q'=>
    cases q';exact⟨_,_,rfl,p,p'⟩
 refine wpAny_newObj_type ?_ (by show 2<=sizeLine;decide);have I2:Inv X pins σ H1 { s1 with heap:=s1.heap.push { cls:=.type "tuple",data:=.seq [u1,u2].toArray } }:=I1.kept (t':=s1.toks) fun b o e=>Heap.get?_push_of_some _ e;rw[hw];refine wpAny_bind (wpAny_pure ?_);show wpAny (model X.prog X.w) X.A (do rule "assign.swapped-stores";let items <- unpackItems (.ref s1.heap.objs.size) 2 none;assignInOrder [fun v=>bindName X.env y v,fun v=>bindName X.env x v] items.reverse;pure Flow.next) _ _ _;refine wpAny_bind (wpAny_rule (wpAny_bind (unpackItems_tuple (items:=#[u1,u2]) (I.ok.hd.1 hc) (IsTup.new s1.heap _) fun h' hx'=>?_)));have I3:=I2.kept (h':=h') (t':=s1.toks) fun b o e=>hx' b o (Nat.ne_of_lt (Heap.lt_size e)) e;show wpAny _ _ (assignInOrder [fun v=>bindName X.env y v,fun v=>bindName X.env x v] [u2,u1] >>= fun _=>pure Flow.next) _ _ _;refine wpAny_bind (assignInOrder_cons (wpAny_bindName (gQ I3 hN hj (.inl hy) rw' (fun s2 I4=>?_) (.inr hy))));refine assignInOrder_cons (wpAny_bindName (gQ I4 hN hi (.inl hx) rv (fun s3 I5=>assignInOrder_nil (wpAny_pure ?_)) (.inr hx)));rw[List.set_comm _ _ (Ne.symm hij)]at I5;exact⟨_,H1,I5,q1⟩
end
section
variable{X:Cx}{pos:Pos}
end
structure It where
 go:Nat->Hp->Prop
 yld:Nat->Hp->V->Hp->Prop
 stop:Nat->Hp->Prop
abbrev iQ(X:Cx)(pins:List (Addr × Obj))(H:Hp)(b:Addr):Prop :=
 H b=none/\b≠X.env.locals/\b∉X.fs/\(b∈X.ex\/X.s₀.heap.objs.size<=b)/\(∀ x c,X.env.cells.lookup x=some c->c≠b)/\∀ p∈X.pn++pins,p.1≠b
def Inv.nD{X:Cx}{pins:List (Addr × Obj)}{σ:St}{H H':Hp}{s:Shared}{b:Addr}(I:Inv X pins σ H s)(hb:s.heap.objs.size<=b)(hn:H' b=none):iQ X pins H' b:=by
 refine⟨hn,Nat.ne_of_gt (Nat.lt_of_lt_of_le I.lt hb),I.FJ hb,.inr (Nat.le_trans I.sz hb),fun x c e z=>?_,fun p hp z=>?_⟩
 ·obtain⟨v,q⟩:=I.cell x c e;exact absurd (Nat.lt_of_lt_of_le q.lt (by rw[z];exact hb)) (Nat.lt_irrefl _)
 ·exact absurd (Nat.lt_of_lt_of_le (Heap.lt_size (I.pin p hp).1) (by rw[z];exact hb)) (Nat.lt_irrefl _)
structure m7(CM:Cx->Prop)(P:Program)(w:World)(K:PySem.W.Frag)(tg:Expr)(J:It)(fp:List Addr)(it:Addr)(tn:Nat->Heap->Prop):Prop where
 mem:it∈fp
 obj:∀ i h,tn i h->∀ b∈fp,∃ o,h.get? b=some o/\∀ v,o.data≠.cell v
 keep:∀ i h h',tn i h->(∀ b∈fp,∀ o,h.get? b=some o->h'.get? b=some o)->tn i h'
 item:∀ (X:Cx),X.prog=P->X.w=w->X.K=K->CM X->∀ (i:Nat) (pins:List (Addr × Obj)) (s:Shared) (σ:St) (H:Hp) (E:Value->Shared->Prop),Inv X pins σ H s->(∀ b∈fp,iQ X pins H b)->tn i s.heap->J.go i H ->
  wpAny (model P w) X.A (pyNext (.ref it)) (fun r s1=>∃ u,r=some u /\
   wpAny (model P w) X.A (letOwnedTupleGo tg (.ref it) u) (fun _ s2=>∃ x H',Inv X pins σ H' s2/\RelV x u/\J.yld i H x H'/\tn (i+1) s2.heap/\∀ b∈fp,H' b=none) E s1) E s
 done:∀ (X:Cx),X.prog=P->X.w=w->X.K=K->CM X->∀ (i:Nat) (pins:List (Addr × Obj)) (s:Shared) (σ:St) (H:Hp) (E:Value->Shared->Prop),Inv X pins σ H s->(∀ b∈fp,iQ X pins H b)->tn i s.heap->J.stop i H ->
  wpAny (model P w) X.A (pyNext (.ref it)) (fun r s1=>r=none/\Inv X pins σ H s1) E s
 self:∀ (A:Around) (i:Nat) (s:Shared) (Q:Value->Shared->Prop) (E:Value->Shared->Prop),tn i s.heap->Q (.ref it) s->wpAny (model P w) A (pyIter (.ref it)) Q E s
@[reducible]noncomputable def Calm:Cx->Prop:=fun X=>X.calm=true
@[reducible]noncomputable def Turn:=m7 Calm
@[reducible]noncomputable def TI:=St->Hp->(It->Hp->Prop)->Prop
abbrev Cn(CM:Cx->Prop)(X:Cx)(pins:List (Addr × Obj))(σ:St)(tg:Expr)(R:It->Hp->Prop)(itv:Value)(s2:Shared):Prop :=
 ∃ (it:Addr) (fp:List Addr) (tn:Nat->Heap->Prop) (J:It) (H':Hp),itv=.ref it/\Inv X pins σ H' s2/\m7 CM X.prog X.w X.K tg J fp it tn/\tn 0 s2.heap/\(∀ b∈fp,iQ X pins H' b)/\R J H'
@[reducible]noncomputable def PIE:=Cn Calm
abbrev PI'(CM:Cx->Prop)(X:Cx)(tg iter:Expr)(wi:TI):Prop :=
 ∀ (pins:List (Addr × Obj)) (s:Shared) (σ:St) (H:Hp) (R:It->Hp->Prop),Inv X pins σ H s->wi σ H R ->
  wpAny (model X.prog X.w) X.A (eval iter X.env) (fun v s1=>wpAny (model X.prog X.w) X.A (pyIter v) (Cn CM X pins σ tg R) X.xe s1) X.xe s
@[reducible]noncomputable def PI:=PI' Calm
def pq{M:Model}{A:Around}{E:Value->Shared->Prop}{s:Shared}{tg:Expr}{it:Addr}{u:Value}{o:Obj}{n:String}{vs:Array Value}{Q:Unit->Shared->Prop}(ho:s.heap.get? it=some o)(hc:o.cls=.type n)(hd:o.data=.fields vs)
 (hn:["enumerate", "zip", "dict_itemiterator", "dict_reverseitemiterator", "odict_iterator", "itertools.zip_longest", "itertools.pairwise"].contains n=false)(hQ:Q () s):wpAny M A (letOwnedTupleGo tg (.ref it) u) Q E s:=by
 unfold letOwnedTupleGo
 cases tg<;>first
  | exact wpAny_pure hQ
  | (cases u<;>first
    | exact wpAny_pure hQ
    | (refine wpAny_bind (wpAny_load ho ?_)
       rw[hc,hd];show wpAny M A (if(["enumerate", "zip", "dict_itemiterator", "dict_reverseitemiterator", "odict_iterator", "itertools.zip_longest", "itertools.pairwise"].contains n&&vs[0]? == some (rawInt _))=true then _ else _) Q E s;rw[if_neg (by intro h;rw[hn,Bool.false_and]at h;cases h)]
       exact wpAny_pure hQ))
abbrev Itl(K:PySem.W.Frag)(a:Addr):It :=
 ⟨fun i H=>∃ xs x,SqL K H a xs/\xs[i]?=some x,fun i H x H'=>H'=H/\∀ xs,SqL K H a xs->xs[i]?=some x,fun i H=>∃ xs,SqL K H a xs/\xs.length<=i⟩
abbrev Itt(K:PySem.W.Frag)(a:Addr):It :=
 ⟨fun i H=>∃ xs x,SqT K H a xs/\xs[i]?=some x,fun i H x H'=>H'=H/\∀ xs,SqT K H a xs->xs[i]?=some x,fun i H=>∃ xs,SqT K H a xs/\xs.length<=i⟩
abbrev Itr(lo:Int)(n:Nat):It:=⟨fun i _=>i<n,fun i H x H'=>H'=H/\x=.int (lo+i),fun i _=>n<=i⟩
def wU{P:Program}{w:World}{K:PySem.W.Frag}{tg:Expr}(a it:Addr):Turn P w K tg (Itl K a) [it] it (fun i h=>h.IsListIter it a i) where
 mem:=by simp
 obj:=fun i h st b hb=>by
  have e:b=it:=by simpa using hb
  subst e;obtain⟨o,e,c,d⟩:=st;exact⟨o,e,fun v z=>by rw[d]at z;cases z⟩
 keep:=fun i h h' st k=>st.at fun o e=>k it (by simp) o e
 item:=by
  intro X hP hw hK hc i pins s σ H E I hf st hg;subst hP hw hK;obtain⟨xs,x,hq,hx⟩:=hg;obtain⟨its,rv,p,hz⟩:=I.list hq;obtain⟨u,hu,ru⟩:=rv.get hx;obtain⟨f0,f1,f2,f3,f4,f5⟩:=hf it (by simp);refine wpAny_pyNext_list_item st p.isList (x:=u) (by simpa using hu) fun h' st' sb=>?_;have I1:Inv X pins σ H { s with heap:=h' }:=I.turned (t':=s.toks) (fun b o hb e=>(sb.2 b hb).trans e) f0 f1 f3 f4 f5;obtain⟨o,e,c,d⟩:=id st';exact⟨u,rfl,pq (s:={ s with heap:=h' }) e c d (by decide) ⟨x,H,I1,ru,⟨rfl,fun ys hy=>by rw[I.xD hy hq];exact hx⟩,st',fun b hb=>(hf b hb).1⟩⟩
 done:=by
  intro X hP hw hK hc i pins s σ H E I hf st hg;subst hP hw hK;obtain⟨xs,hq,hx⟩:=hg;obtain⟨its,rv,p,hz⟩:=I.list hq;obtain⟨f0,f1,f2,f3,f4,f5⟩:=hf it (by simp);have hl:=rv.length
  exact wpAny_pyNext_list_end (I.ok.hd.1 hc) st p.isList (by simp;omega) fun h' eb=>⟨rfl,I.turned (t':=s.toks) (fun b o hb e=>eb b o hb e) f0 f1 f3 f4 f5⟩
 self:=fun _ _ _ _ _ st h=>wpAny_pyIter_listiter st h
def uD{P:Program}{w:World}{K:PySem.W.Frag}{tg:Expr}(a it:Addr):Turn P w K tg (Itt K a) [it] it (fun i h=>h.IsTupleIter it a i) where
 mem:=by simp
 obj:=fun i h st b hb=>by
  have e:b=it:=by simpa using hb
  subst e;obtain⟨o,e,c,d⟩:=st;exact⟨o,e,fun v z=>by rw[d]at z;cases z⟩
 keep:=fun i h h' st k=>st.at fun o e=>k it (by simp) o e
 item:=by
  intro X hP hw hK hc i pins s σ H E I hf st hg;subst hP hw hK;obtain⟨xs,x,hq,hx⟩:=hg;obtain⟨its,rv,p,hz⟩:=I.tuple hq;obtain⟨u,hu,ru⟩:=rv.get hx;obtain⟨f0,f1,f2,f3,f4,f5⟩:=hf it (by simp);refine wpAny_pyNext_tuple_item st (show s.heap.IsTuple a its.toArray from p) (x:=u) (by simpa using hu) fun h' st' sb=>?_;have I1:Inv X pins σ H { s with heap:=h' }:=I.turned (t':=s.toks) (fun b o hb e=>(sb.2 b hb).trans e) f0 f1 f3 f4 f5;obtain⟨o,e,c,d⟩:=id st';exact⟨u,rfl,pq (s:={ s with heap:=h' }) e c d (by decide) ⟨x,H,I1,ru,⟨rfl,fun ys hy=>by rw[I.vN hy hq];exact hx⟩,st',fun b hb=>(hf b hb).1⟩⟩
 done:=by
  intro X hP hw hK hc i pins s σ H E I hf st hg;subst hP hw hK;obtain⟨xs,hq,hx⟩:=hg;obtain⟨its,rv,p,hz⟩:=I.tuple hq;obtain⟨f0,f1,f2,f3,f4,f5⟩:=hf it (by simp);have hl:=rv.length
  exact wpAny_pyNext_tuple_end (I.ok.hd.1 hc) st (show s.heap.IsTuple a its.toArray from p) (by simp;omega) fun h' eb=>⟨rfl,I.turned (t':=s.toks) (fun b o hb e=>eb b o hb e) f0 f1 f3 f4 f5⟩
 self:=fun _ _ _ _ _ st h=>wpAny_pyIter_tupleiter st h
def uz{P:Program}{w:World}{K:PySem.W.Frag}{tg:Expr}(it:Addr)(lo:Int)(n:Nat):Turn P w K tg (Itr lo n) [it] it (fun i h=>IsRangeIter h it (lo+(i:Nat)*1) ((n:Int)-(i:Nat)) 1) where
 mem:=by simp
 obj:=fun i h st b hb=>by
  have e:b=it:=by simpa using hb
  subst e
  exact⟨_,st,fun v z=>by
   have z':Data.fields _=Data.cell v:=z
   cases z'⟩
 keep:=fun i h h' st k=>k it (by simp) _ st
 item:=by
  intro X hP hw hK hc i pins s σ H E I hf st hg;subst hP hw hK;obtain⟨f0,f1,f2,f3,f4,f5⟩:=hf it (by simp);have W:=Walks.range (prog:=X.prog) (w:=X.w) (I.ok.hd.1 hc) it lo 1 n;refine W.item i s _ _ hg st fun v h' tk hv st' kk=>?_;obtain⟨t,rfl⟩:=hv;have I1:Inv X pins σ H { s with heap:=h',toks:=tk }:=I.turned (fun b o hb e=>kk b o (by simpa using hb) e) f0 f1 f3 f4 f5;refine⟨_,rfl,pq (s:={ s with heap:=h',toks:=tk }) (n := "range_iterator") st' rfl rfl (by decide) ⟨.int (lo+i),H,I1,⟨t,?_⟩,⟨rfl,rfl⟩,st',fun b hb=>(hf b hb).1⟩⟩;rw[Int.mul_one]
 done:=by
  intro X hP hw hK hc i pins s σ H E I hf st hg;subst hP hw hK;obtain⟨f0,f1,f2,f3,f4,f5⟩:=hf it (by simp)
  exact wpAny_pyNext_range_end (I.ok.hd.1 hc) st (by have:n<=i:=hg;omega) fun h' eb=>⟨rfl,I.turned (t':=s.toks) (fun b o hb e=>eb b o hb e) f0 f1 f3 f4 f5⟩
 self:=fun _ _ _ _ _ st h=>wpAny_pyIter_rangeiter st h
section
variable{X:Cx}{tg:Expr}
def pL{pins:List (Addr × Obj)}{σ:St}{H:Hp}{s:Shared}{R:It->Hp->Prop}{E:Value->Shared->Prop}{lo hi:Int}{t u v:Tok}{tk:Nat}(I:Inv X pins σ H s)(h1:-(2 ^ 62)<=lo)(h2:lo<2 ^ 62)(h3:-(2 ^ 62)<=hi)(h4:hi<2 ^ 62)
 (q:R (Itr lo (hi-lo).toNat) H):wpAny (model X.prog X.w) X.A (pyIter (.ref s.heap.objs.size)) (PIE X pins σ tg R) E { s with heap:=s.heap.push { cls:=.type "range",data:=.fields #[.int lo t,.int hi u,.int 1 v] },toks:=tk }:=by
 refine wpAny_pyIter_range (IsRange.new ..) (small_one h1 h2 h3 h4) ?_;have I1:Inv X pins σ H { s with heap:=s.heap.push { cls:=.type "range",data:=.fields #[.int lo t,.int hi u,.int 1 v] },toks:=tk }:=I.kept fun b o e=>Heap.get?_push_of_some _ e
 refine⟨(s.heap.push { cls:=.type "range",data:=.fields #[.int lo t,.int hi u,.int 1 v] }).objs.size,[(s.heap.push { cls:=.type "range",data:=.fields #[.int lo t,.int hi u,.int 1 v] }).objs.size],_,_,H,rfl,
  I1.kept (t':=tk) fun b o e=>Heap.get?_push_of_some _ e,uz _ lo (hi-lo).toNat,?_,fun b hb=>?_,q⟩
 ·have e1:lo+((0:Nat):Int)*1=lo:=by simp
  have e2:(((hi-lo).toNat:Nat):Int)-((0:Nat):Int)=Builtin.Range.rangeSize lo hi 1:=by rw[rangeSize_one];split<;>omega
  show IsRangeIter _ _ (lo+((0:Nat):Int)*1) ((((hi-lo).toNat:Nat):Int)-((0:Nat):Int)) 1;rw[e1,e2];exact Heap.get?_push_size _ rfl
 ·have e:b=(s.heap.push { cls:=.type "range",data:=.fields #[.int lo t,.int hi u,.int 1 v] }).objs.size:=by simpa using hb
  subst e;exact I1.nD (Nat.le_refl _) (I1.hok.fresh (Nat.le_refl _))
abbrev Fs(ta:TA):TI:=fun σ H R=>ta σ H fun vs H1=>∃ j:Int,vs=[.int j]/\-(2 ^ 62)<=j/\j<2 ^ 62/\R (Itr 0 j.toNat) H1
abbrev Fv(ta:TA):TI:=fun σ H R=>ta σ H fun vs H1=>∃ i j:Int,vs=[.int i,.int j]/\(-(2 ^ 62)<=i/\i<2 ^ 62/\-(2 ^ 62)<=j/\j<2 ^ 62)/\R (Itr i (j-i).toNat) H1
def wI{a:Expr}{ta:TA}{p pos:Pos}(hg:Gl X "range")(hm:X.mg "range" = none)(ha:PA X [a] ta)(hs:starEach [a] X.env=[(false,eval a X.env)]:=by rfl):PI X tg (.Call (.Name "range" p) [a] [] pos) (Fs ta):=by
 intro pins s σ H R I h;refine Call_ (gx I hg hm boot_range (PyProof.Rows.callWith_type1 (thn (ha pos pins s σ H _ I h) fun us s1 ⟨vs,H1,I1,r1,q1⟩=>?_) hs rfl));obtain⟨j,e,q1,q2,q⟩:=q1;subst e
 cases r1 with
 |cons r rr=>
  cases rr;obtain⟨t,rfl⟩:=r;exact call_range_1 (pL I1 (by omega) (by omega) q1 q2 (by simpa using q))
def vE{a b:Expr}{ta:TA}{p pos:Pos}(hg:Gl X "range")(hm:X.mg "range" = none)(ha:PA X [a,b] ta)(hs:starEach [a,b] X.env=[(false,eval a X.env),(false,eval b X.env)]:=by rfl)(hs2:starEach [b] X.env=[(false,eval b X.env)]:=by rfl) :
  PI X tg (.Call (.Name "range" p) [a,b] [] pos) (Fv ta):=by
 intro pins s σ H R I h;refine Call_ (gx I hg hm boot_range (PyProof.Rows.callWith_type1 (thn (ha pos pins s σ H _ I h) fun us s1 ⟨vs,H1,I1,r1,q1⟩=>?_) (by rw[hs,hs2]) (by rw[hs2];rfl)));obtain⟨i,j,e,⟨q1,q2,q3,q4⟩,q⟩:=q1;subst e
 cases r1 with
 |cons r rr=>
  cases rr with
  |cons r' rr=>
   cases rr;obtain⟨t,rfl⟩:=r;obtain⟨t',rfl⟩:=r';exact call_range_2 (pL I1 q1 q2 q3 q4 q)
abbrev FW(wi:TI)(g:TG)(tb:TS):TS:=fun D σ H=>wi σ H fun J H1=>∃ W:Nat->Nat->St->Hp->Prop,(∃ m,W 0 m σ H1)/\∀ i m σ H,W i m σ H ->
 (J.stop i H/\D.nx σ H)\/(J.go i H/\∃ N:St->Hp->Prop,(∀ σ' H',N σ' H'->∃ m',m'<m/\W (i+1) m' σ' H')/\∀ x H',J.yld i H x H'->g x σ H' fun σ2 H2=>tb { D with nx:=N,ct:=N,bk:=D.nx } σ2 H2)
abbrev jF(fp:List Addr)(h:Heap):List (Addr × Obj):=fp.filterMap fun b=>(h.get? b).map fun o=>(b,o)
def fX{fp:List Addr}{h:Heap}{b:Addr}{o:Obj}(hb:b∈fp)(e:h.get? b=some o):(b,o)∈jF fp h:=List.mem_filterMap.mpr ⟨b,hb,by rw[e];rfl⟩
def xv{fp:List Addr}{h:Heap}{p:Addr × Obj}(hp:p∈jF fp h):p.1∈fp/\h.get? p.1=some p.2:=by
 obtain⟨b,hb,e⟩:=List.mem_filterMap.mp hp
 cases q:h.get? b with
 | none=>rw[q]at e;cases e
 |some o=>
  rw[q]at e;have e':(b,o)=p:=Option.some.inj e;subst e';exact⟨hb,q⟩
def Inv.pinned{pins:List (Addr × Obj)}{σ:St}{H:Hp}{s:Shared}{fp:List Addr}(I:Inv X pins σ H s)(hf:∀ b∈fp,iQ X pins H b)(ho:∀ b∈fp,∃ o,s.heap.get? b=some o/\∀ v,o.data≠.cell v):Inv X (pins++jF fp s.heap) σ H s :=
 I.sF fun p hp=>(List.mem_append.mp hp).elim (fun z=>I.pin p (List.mem_append_right _ z)) fun z=>by
  obtain⟨hb,e⟩:=xv z;obtain⟨f0,f1,f2,_⟩:=hf p.1 hb;obtain⟨o,e',d⟩:=ho p.1 hb;rw[e]at e';cases e';exact⟨e,f0,f1,f2,d⟩
def Inv.ja{pins pl:List (Addr × Obj)}{σ:St}{H:Hp}{s:Shared}(I:Inv X (pins++pl) σ H s):Inv X pins σ H s:=I.sF fun p hp=>I.pin p (List.mem_append_right _ (List.mem_append_left _ hp))
def xa{iter:Expr}{body:List Stmt}{wi:TI}{g:TG}{tb:TS}{pos:Pos}(hp:PassesOwn (model X.prog X.w) X.A X.env X.xe)(hc:X.calm=true)(hi:PI X tg iter wi)(hg:PG X tg g)(hb:PSs X body tb)
 (hs:∀ x,foldedSetIterable iter X.env x=pure x:=by intro _;rfl):PS X (.For tg iter body [] pos) (FW wi g tb):=by
 intro pins s σ H D I h;refine wpAny_For (thn (hi pins s σ H _ I h) fun v s1 h1=>thn h1 fun itv s2 h2=>?_) hs;obtain⟨it,fp,tn,J,H2,e,I2,T,st2,f2,W,⟨m0,w0⟩,turn⟩:=h2;subst e
 have stat:∀ {H':Hp},(∀ b∈fp,H' b=none)->∀ b∈fp,iQ X pins H' b:=fun hn b hb=>⟨hn b hb,(f2 b hb).2⟩
 refine codeAny_forLoop_any (fun n s'=>∃ i σ' H',Inv X pins σ' H' s'/\tn i s'.heap/\(∀ b∈fp,H' b=none)/\W i n σ' H') ?_ m0 ⟨0,σ,H2,I2,st2,fun b hb=>(f2 b hb).1,w0⟩;rintro n s3 ⟨i,σ3,H3,I3,st3,fr3,w3⟩
 rcases turn i n σ3 H3 w3 with⟨stop,qn⟩ | ⟨go,N,hN,step⟩
 ·refine wpAny_passesOwn hp (thn (T.done X rfl rfl rfl hc i pins s3 σ3 H3 X.xe I3 (stat fr3) st3 stop) fun r s4 ⟨hr,I4⟩=>?_);subst hr;exact wpAny_execs_nil ⟨σ3,H3,I4,qn⟩
 ·refine wpAny_passesOwn hp (thn (T.item X rfl rfl rfl hc i pins s3 σ3 H3 X.xe I3 (stat fr3) st3 go) fun r s4 ⟨u,hr,h4⟩=>?_);subst hr;refine wpAny_passesOwn hp (thn h4 fun _ s5 ⟨x,H5,I5,r5,y5,st5,fr5⟩=>?_);have I5':=I5.pinned (stat fr5) (T.obj _ _ st5);refine wpAny_passesOwn hp (thn (hg _ s5 σ3 H5 x u _ I5' r5 (step x H5 y5)) fun _ s6 ⟨σ6,H6,I6,q6⟩=>?_);refine wpAny_passesOwn hp (thn (hb _ s6 σ6 H6 _ I6 q6) fun f s7 q7=>?_)
  have again:∀ {σ7:St} {H7:Hp},Inv X (pins++jF fp s5.heap) σ7 H7 s7->N σ7 H7->∃ m,m<n/\∃ i σ' H',Inv X pins σ' H' s7/\tn i s7.heap/\(∀ b∈fp,H' b=none)/\W i m σ' H':=fun {σ7 H7} I7 n7=>by
   obtain⟨m',hm,w7⟩:=hN σ7 H7 n7;refine⟨m',hm,i+1,σ7,H7,I7.ja,T.keep _ _ _ st5 fun b hb o e=>(I7.pin (b,o) (List.mem_append_right _ (List.mem_append_right _ (fX hb e)))).1,fun b hb=>?_,w7⟩;obtain⟨o,e,d⟩:=T.obj _ _ st5 b hb;exact(I7.pin (b,o) (List.mem_append_right _ (List.mem_append_right _ (fX hb e)))).2.1
  cases f with
  | next=>obtain⟨σ7,H7,I7,n7⟩:=q7;exact again I7 n7
  | cont=>obtain⟨σ7,H7,I7,n7⟩:=q7;exact again I7 n7
  | brk=>obtain⟨σ7,H7,I7,q7⟩:=q7;exact⟨σ7,H7,I7.ja,q7⟩
  | ret v=>obtain⟨x7,σ7,H7,I7,r7,q7⟩:=q7;exact⟨x7,σ7,H7,I7.ja,r7,q7⟩
end
@[reducible]noncomputable def R2:=V->V->Hp->VK->Prop
abbrev OpR(X:Cx)(f:Value->Value->Sem Value)(r:R2):Prop :=
 ∀ (pins:List (Addr × Obj)) (s:Shared) (σ:St) (H:Hp) (x y:V) (v u:Value) (Q:VK),Inv X pins σ H s->RelV x v->RelV y u->r x y H Q ->
  wpAny (model X.prog X.w) X.A (f v u) (EP X pins σ Q) X.xe s
abbrev UnR(X:Cx)(f:Value->Sem Value)(r:V->Hp->VK->Prop):Prop :=
 ∀ (pins:List (Addr × Obj)) (s:Shared) (σ:St) (H:Hp) (x:V) (v:Value) (Q:VK),Inv X pins σ H s->RelV x v->r x H Q ->
  wpAny (model X.prog X.w) X.A (f v) (EP X pins σ Q) X.xe s
abbrev bI(X:Cx)(f:Value)(r:List V->Hp->VK->Prop):Prop :=
 ∀ (pins:List (Addr × Obj)) (s:Shared) (σ:St) (H:Hp) (xs:List V) (us:List Value) (Q:VK),Inv X pins σ H s->Vals xs us->r xs H Q ->
  wpAny (model X.prog X.w) X.A (call f us) (EP X pins σ Q) X.xe s
abbrev Gr(X:Cx)(r:V->Hp->(Bool->Hp->Prop)->Prop):Prop :=
 ∀ (pins:List (Addr × Obj)) (s:Shared) (σ:St) (H:Hp) (x:V) (v:Value) (Q:Bool->Hp->Prop),Inv X pins σ H s->RelV x v->r x H Q ->
  wpAny (model X.prog X.w) X.A (truthy v) (TP X pins σ Q) X.xe s
abbrev tOp(r:R2)(ta tb:TE):TE:=fun σ H Q=>ta σ H fun x H1=>tb σ H1 fun y H2=>r x y H2 Q
abbrev tUn(r:V->Hp->VK->Prop)(ta:TE):TE:=fun σ H Q=>ta σ H fun x H1=>r x H1 Q
abbrev rI(C:Int->Int->Prop)(g:Int->Int->V):R2:=fun x y H Q=>∃ i j,x=.int i/\y=.int j/\C i j/\Q (g i j) H
abbrev rI0(g:Int->Int->V):R2:=fun x y H Q=>∃ i j,x=.int i/\y=.int j/\Q (g i j) H
abbrev rU(g:Int->V):V->Hp->VK->Prop:=fun x H Q=>∃ i,x=.int i/\Q (g i) H
section
variable{X:Cx}{a b c:Expr}{ta tb tc:TE}{pos:Pos}
def yX(ha:PE X a ta)(hb:PE X b tb){pins:List (Addr × Obj)}{s:Shared}{σ:St}{H:Hp}{R:V->V->Hp->Prop}(I:Inv X pins σ H s)
 (h:ta σ H fun x H1=>tb σ H1 fun y H2=>R x y H2){Q:Value->Shared->Prop}{f:Value->Value->Sem Value}
 (hf:∀ v u s2 x y H2,Inv X pins σ H2 s2->RelV x v->RelV y u->R x y H2->wpAny (model X.prog X.w) X.A (f v u) Q X.xe s2) :
  wpAny (model X.prog X.w) X.A (eval a X.env) (fun v s₁=>wpAny (model X.prog X.w) X.A (eval b X.env) (fun u s₂=>wpAny (model X.prog X.w) X.A (f v u) Q X.xe s₂) X.xe s₁) X.xe s:=by
 refine thn (ha pins s σ H _ I h) fun v s1 ⟨x,H1,I1,r1,q1⟩=>?_;refine thn (hb pins s1 σ H1 _ I1 q1) fun u s2 ⟨y,H2,I2,r2,q2⟩=>?_;exact hf v u s2 x y H2 I2 r1 r2 q2
def EM{op:Operator}{r:R2}(ho:OpR X (binaryOp op) r)(ha:PE X a ta)(hb:PE X b tb):PE X (.BinOp a op b pos) (tOp r ta tb):=by
 intro pins s σ H Q I h;exact wpAny_BinOp (yX ha hb I h fun v u s2 x y H2 I2 rx ry q=>ho pins s2 σ H2 x y v u Q I2 rx ry q)
def zZ{op:UnaryOp}{r:V->Hp->VK->Prop}(ho:UnR X (unaryOp op) r)(ha:PE X a ta):PE X (.UnaryOp op a pos) (tUn r ta):=by
 intro pins s σ H Q I h;exact UnaryOp_ (thn (ha pins s σ H _ I h) fun v s1 ⟨x,H1,I1,r1,q1⟩=>ho pins s1 σ H1 x v Q I1 r1 q1)
def opI{f:Value->Value->Sem Value}{C:Int->Int->Prop}{g:Int->Int->Int}
 (rule:∀ (i j:Int) (t u:Tok) (s:Shared) (Q:Value->Shared->Prop) (E:Value->Shared->Prop),C i j->Q (.int (g i j) s.toks) { s with toks:=s.toks+1 }->wpAny (model X.prog X.w) X.A (f (.int i t) (.int j u)) Q E s) :
  OpR X f (rI C fun i j=>.int (g i j)):=by
 intro pins s σ H x y v u Q I rx ry h;obtain⟨i,j,rfl,rfl,hc,q⟩:=h;obtain⟨t,rfl⟩:=rx;obtain⟨t',rfl⟩:=ry;exact rule i j t t' s _ _ hc ⟨.int (g i j),H,I.tok _,⟨_,rfl⟩,q⟩
def CU{f:Value->Value->Sem Value}{g:Int->Int->Int}
 (rule:∀ (i j:Int) (t u:Tok) (s:Shared) (Q:Value->Shared->Prop) (E:Value->Shared->Prop),Q (.int (g i j) s.toks) { s with toks:=s.toks+1 }->wpAny (model X.prog X.w) X.A (f (.int i t) (.int j u)) Q E s) :
  OpR X f (rI0 fun i j=>.int (g i j)):=by
 intro pins s σ H x y v u Q I rx ry h;obtain⟨i,j,rfl,rfl,q⟩:=h;obtain⟨t,rfl⟩:=rx;obtain⟨t',rfl⟩:=ry;exact rule i j t t' s _ _ ⟨.int (g i j),H,I.tok _,⟨_,rfl⟩,q⟩
abbrev BD(i j:Int):Prop:=0<=j/\j<=1000000/\i.natAbs<2 ^ 64
abbrev u7(i j:Int):Prop:=(-(2 ^ 64)<i/\i<2 ^ 64)\/(-(2 ^ 64)<j/\j<2 ^ 64)
def u7.ok{i j:Int}(h:u7 i j):IntMulOk i j:=by
 rcases h with⟨h1,h2⟩ | ⟨h1,h2⟩
 ·exact .of_left (intBits_le_64 h1 h2)
 ·exact .of_right (intBits_le_64 h1 h2)
def Ek:OpR X (binaryOp .Add) (rI0 fun i j=>.int (i+j)):=CU fun _ _ _ _ _ _ _ q=>add_int q
def DU:OpR X (binaryOp .Sub) (rI0 fun i j=>.int (i-j)):=CU fun _ _ _ _ _ _ _ q=>sub_int q
def BH:OpR X (binaryOp .Mult) (rI u7 fun i j=>.int (i*j)):=opI fun _ _ _ _ _ _ _ hc q=>mul_int q hc.ok
def Ez:OpR X (binaryOp .Mod) (rI (fun _ j=>0<j) fun i j=>.int (i%j)):=opI fun i j _ _ _ _ _ hc q=>by
 have h1:(0:Int)<j:=hc;exact mod_int' (by omega) (by rw[Int.fmod_eq_emod_of_nonneg i (by omega)];exact q)
def Er:OpR X (binaryOp .Pow) (rI BD fun i j=>.int (i ^ j.toNat)):=opI fun _ _ _ _ _ _ _ hc q=>pow_int_small hc.1 hc.2.1 hc.2.2 q
def unI{f:Value->Sem Value}{g:Int->Int}
 (rule:∀ (i:Int) (t:Tok) (s:Shared) (Q:Value->Shared->Prop) (E:Value->Shared->Prop),Q (.int (g i) s.toks) { s with toks:=s.toks+1 }->wpAny (model X.prog X.w) X.A (f (.int i t)) Q E s) :
  UnR X f (rU fun i=>.int (g i)):=by
 intro pins s σ H x v Q I rx h;obtain⟨i,rfl,q⟩:=h;obtain⟨t,rfl⟩:=rx;exact rule i t s _ _ ⟨.int (g i),H,I.tok _,⟨_,rfl⟩,q⟩
def v9:UnR X (unaryOp .USub) (rU fun i=>.int (-i)):=unI fun _ _ _ _ _ q=>neg_int q
end
abbrev FV:V->V->Bool
 | .non,.non=>true | .non,.int _=>true | .int _,.non=>true | .non,.bl _=>true | .bl _,.non=>true | .non,.str _=>true | .str _,.non=>true
 | .int _,.int _=>true | .bl _,.bl _=>true | .str _,.str _=>true | .byt _,.byt _=>true
 | .int _,.str _=>true | .str _,.int _=>true | .bl _,.str _=>true | .str _,.bl _=>true
 | _,_=>false
abbrev rNe:R2:=fun x y H Q=>FV x y=true/\Q (.bl (!decide (x=y))) H
def Bh{i j:Int}:decide (V.int i=V.int j)=(i == j):=by
 rw[Bool.eq_iff_iff];simp
def Dk{i j:Bool}:decide (V.bl i=V.bl j)=(i == j):=by
 rw[Bool.eq_iff_iff];simp
def Bt{i j:Str}:decide (V.str i=V.str j)=(i == j):=by
 rw[Bool.eq_iff_iff];simp
def A2{i j:Array UInt8}:decide (V.byt i=V.byt j)=(i.toList == j.toList):=by
 rw[Bool.eq_iff_iff];cases i;cases j;simp
section
variable{X:Cx}{a b c:Expr}{ta tb tc:TE}{pos:Pos}
def bU{pins:List (Addr × Obj)}{σ:St}{H:Hp}{s:Shared}{Q:VK}{k k':Bool}(I:Inv X pins σ H s)(q:Q (.bl k) H)(e:k=k'):EP X pins σ Q (.bool k') s:=by
 subst e;exact⟨.bl k,H,I,rfl,q⟩
def F2:OpR X (compareOp .NotEq) rNe:=by
 intro pins s σ H x y v u Q I rx ry h;obtain⟨hs,q⟩:=h
 cases x with
 |non=>
  cases rx
  cases y with
  | non=>cases ry;exact PySem.EqNone.ne_none_none (bU I q (by simp))
  | bl j=>cases ry;exact PySem.EqNone.ne_none_bool (bU I q (by simp))
  | int j=>obtain⟨t',rfl⟩:=ry;exact PySem.EqNone.ne_none_int (bU I q (by simp))
  | str j=>obtain⟨t',rfl⟩:=ry;exact PySem.EqNone.ne_none_str (bU I q (by simp))
  | _=>exact absurd (show false=true from hs) Bool.false_ne_true
 |bl i=>
  cases rx
  cases y with
  | non=>cases ry;exact PySem.EqNone.ne_bool_none (bU I q (by simp))
  | bl j=>cases ry;exact ne_bool (bU I q (congrArg not Dk))
  | str j=>obtain⟨t',rfl⟩:=ry;exact PySem.EqMixed.ne_bool_str (bU I q (by simp))
  | _=>exact absurd (show false=true from hs) Bool.false_ne_true
 |int i=>
  obtain⟨t,rfl⟩:=rx
  cases y with
  | non=>cases ry;exact PySem.EqNone.ne_int_none (bU I q (by simp))
  | int j=>obtain⟨t',rfl⟩:=ry;exact ne_int (bU I q (congrArg not Bh))
  | str j=>obtain⟨t',rfl⟩:=ry;exact PySem.EqMixed.ne_int_str (bU I q (by simp))
  | _=>exact absurd (show false=true from hs) Bool.false_ne_true
 |str i=>
  obtain⟨t,rfl⟩:=rx
  cases y with
  | non=>cases ry;exact PySem.EqNone.ne_str_none (bU I q (by simp))
  | bl j=>cases ry;exact PySem.EqMixed.ne_str_bool (bU I q (by simp))
  | int j=>obtain⟨t',rfl⟩:=ry;exact PySem.EqMixed.ne_str_int (bU I q (by simp))
  | str j=>obtain⟨t',rfl⟩:=ry;exact ne_str (bU I q (congrArg not Bt))
  | _=>exact absurd (show false=true from hs) Bool.false_ne_true
 |byt i=>
  obtain⟨t,rfl⟩:=rx
  cases y with
  | byt j=>obtain⟨t',rfl⟩:=ry;exact PySem.W.ne_bytes (bU I q (congrArg not A2))
  | _=>exact absurd (show false=true from hs) Bool.false_ne_true
 | _=>cases y<;>exact absurd (show false=true from hs) Bool.false_ne_true
def DL:OpR X (compareOp .Is) (fun x y H Q=>y=.non/\Q (.bl (decide (x=.non))) H):=by
 intro pins s σ H x y v u Q I rx ry h;obtain⟨rfl,q⟩:=h;cases ry;refine is_none_gen (bU I q ?_)
 cases x<;>first
  | (cases rx;rfl)
  | (obtain⟨t,rfl⟩:=rx;rfl)
def AD:OpR X (compareOp .IsNot) (fun x y H Q=>y=.non/\Q (.bl (!decide (x=.non))) H):=by
 intro pins s σ H x y v u Q I rx ry h;obtain⟨rfl,q⟩:=h;cases ry;refine isnot_none_gen (bU I q ?_)
 cases x<;>first
  | (cases rx;rfl)
  | (obtain⟨t,rfl⟩:=rx;rfl)
def OpR.or{f:Value->Value->Sem Value}{r r':R2}(h:OpR X f r)(h':OpR X f r'):OpR X f (fun x y H Q=>r x y H Q\/r' x y H Q):=by
 intro pins s σ H x y v u Q I rx ry q;rcases q with q | q
 ·exact h pins s σ H x y v u Q I rx ry q
 ·exact h' pins s σ H x y v u Q I rx ry q
def r0(b:Expr){op:CmpOp}(h:op≠.In:=by decide)(h2:op≠.NotIn:=by decide):behindInMarks op b=false:=by
 have e1:(op == CmpOp.In)=false:=by cases op<;>first | rfl | exact absurd rfl h
 have e2:(op == CmpOp.NotIn)=false:=by cases op<;>first | rfl | exact absurd rfl h2
 cases b<;>simp[behindInMarks,e1,e2]
def sL{op:CmpOp}{r:R2}(ho:OpR X (compareOp op) r)(ha:PE X a ta)(hb:PE X b tb)(hm:behindInMarks op b=false):PE X (.Compare a [op] [b] pos) (tOp r ta tb):=by
 intro pins s σ H Q I h;exact wpAny_Compare1 (yX ha hb I h fun v u s2 x y H2 I2 rx ry q=>ho pins s2 σ H2 x y v u Q I2 rx ry q) hm
abbrev zE(t:TE):TT:=fun σ H Q=>t σ H fun x H'=>∃ k,x=.bl k/\Q k H'
def mF{op:CmpOp}{r:R2}(ho:OpR X (compareOp op) r)(ha:PE X a ta)(hb:PE X b tb)(hm:behindInMarks op b=false):PT X (.Compare a [op] [b] pos) (zE (tOp r ta tb)):=by
 intro pins s σ H Q I h
 refine wpAny_isTrue_Compare1 (thn (ha pins s σ H _ I h) fun v s1 ⟨x,H1,I1,r1,q1⟩=>thn (hb pins s1 σ H1 _ I1 q1) fun u s2 ⟨y,H2,I2,r2,q2⟩ =>
  thn (ho pins s2 σ H2 x y v u _ I2 r1 r2 q2) fun c s3 ⟨z,H3,I3,r3,k,e,q3⟩=>?_) hm
 subst e;cases r3;exact wpAny_truthy_bool ⟨H3,I3,q3⟩
abbrev pP(r r':R2)(ta tb tc:TE):TE:=fun σ H Q=>ta σ H fun x H1=>tb σ H1 fun y H2=>r x y H2 fun z H3=>∃ k,z=.bl k /\
 (if k=true then tc σ H3 fun w' H4=>r' y w' H4 Q else Q (.bl false) H3)
def zu{op op':CmpOp}{r r':R2}(ho:OpR X (compareOp op) r)(ho':OpR X (compareOp op') r')(ha:PE X a ta)(hb:PE X b tb)(hc:PE X c tc)
 (hm:lastMarks [op,op'] [b,c]=false:=by with_unfolding_all rfl):PE X (.Compare a [op,op'] [b,c] pos) (pP r r' ta tb tc):=by
 intro pins s σ H Q I h
 refine Compare_chain (thn (ha pins s σ H _ I h) fun v s1 ⟨x,H1,I1,r1,q1⟩=>chain_link (thn (hb pins s1 σ H1 _ I1 q1) fun u s2 ⟨y,H2,I2,r2,q2⟩ =>
  thn (ho pins s2 σ H2 x y v u _ I2 r1 r2 q2) fun d s3 ⟨z,H3,I3,r3,k,e,q3⟩=>?_)) hm
 subst e;cases r3;refine wpAny_truthy_bool ?_
 cases k with
 | false=>exact ite_ff ⟨.bl false,H3,I3,rfl,q3⟩
 | true=>exact ite_tt (chain_last (thn (hc pins s3 σ H3 _ I3 q3) fun w' s4 ⟨z',H4,I4,r4,q4⟩=>ho' pins s4 σ H4 y z' u w' Q I4 r2 r4 q4))
def yr{op op':CmpOp}{r r':R2}(ho:OpR X (compareOp op) r)(ho':OpR X (compareOp op') r')(ha:PE X a ta)(hb:PE X b tb)(hc:PE X c tc)
 (hm:lastMarks [op,op'] [b,c]=false:=by with_unfolding_all rfl):PT X (.Compare a [op,op'] [b,c] pos) (zE (pP r r' ta tb tc)):=by
 intro pins s σ H Q I h
 refine isTrue_chain (thn (ha pins s σ H _ I h) fun v s1 ⟨x,H1,I1,r1,q1⟩=>test_link (thn (hb pins s1 σ H1 _ I1 q1) fun u s2 ⟨y,H2,I2,r2,q2⟩ =>
  thn (ho pins s2 σ H2 x y v u _ I2 r1 r2 q2) fun d s3 ⟨z,H3,I3,r3,k,e,q3⟩=>?_)) hm
 subst e;cases r3;refine wpAny_truthy_bool ?_
 cases k with
 |false=>
  obtain⟨k',e',q'⟩:=q3;cases e';exact ite_ff ⟨H3,I3,q'⟩
 |true=>
  refine ite_tt (test_last (thn (hc pins s3 σ H3 _ I3 q3) fun w' s4 ⟨z',H4,I4,r4,q4⟩=>thn (ho' pins s4 σ H4 y z' u w' _ I4 r2 r4 q4) fun d' s5 ⟨z2,H5,I5,r5,k2,e2,q5⟩=>?_));subst e2;cases r5;exact wpAny_truthy_bool ⟨H5,I5,q5⟩
abbrev tV(K:PySem.W.Frag)(x:V)(H:Hp)(k:Bool):Prop :=
 match x with
 | .non=>k=false
 | .bl b=>k=b
 | .int i=>k=(i != 0)
 | .str y=>y.length<=sizeLine/\k=((y.length:Int) != 0)
 | .byt y=>y.size<=sizeLine/\k=((y.size:Int) != 0)
 | .ref p=>(∃ xs,SqL K H p xs/\k=!xs.isEmpty)\/(∃ xs,SqT K H p xs/\k=!xs.isEmpty)\/∃ kvs,H p=some (.dK kvs)/\k=!kvs.isEmpty
 | _=>False
def uk{κ:Type}{kvs:List (κ × V)}{vs:List (κ × Value)}(r:KV kvs vs):(!vs.isEmpty)=!kvs.isEmpty:=by
 cases r<;>rfl
def lI{xs:List V}{its:List Value}(r:Vals xs its):(!its.toArray.isEmpty)=!xs.isEmpty:=by
 cases r<;>simp
def i7:(sizeLine:Nat)<2 ^ 63:=by rw[sizeLine_eq];decide
def wF:Gr X (fun x H Q=>∃ k,tV X.K x H k/\Q k H):=by
 intro pins s σ H x v Q I rx h;obtain⟨k,e,q⟩:=h;have hl:=i7;have hs:sizeLine=16777216:=sizeLine_eq
 cases x with
 |non=>
  cases rx;have e':k=false:=e;subst e';exact truthy_none ⟨H,I,q⟩
 |bl b=>
  cases rx;have e':k=b:=e;subst e';exact wpAny_truthy_bool ⟨H,I,q⟩
 |int i=>
  obtain⟨t,rfl⟩:=rx;have e':k=(i != 0):=e;subst e';exact PySem.P.truthy_int ⟨H,I,q⟩
 |str y=>
  obtain⟨t,rfl⟩:=rx;obtain⟨hy,e'⟩:y.length<=sizeLine/\k=((y.length:Int) != 0):=e;subst e';exact PySem.P.truthy_str (by omega) ⟨H,I.tok _,q⟩
 |byt y=>
  obtain⟨t,rfl⟩:=rx;obtain⟨hy,e'⟩:y.size<=sizeLine/\k=((y.size:Int) != 0):=e;subst e';exact PySem.W.truthy_bytes (by omega) ⟨H,I.tok _,q⟩
 |ref p=>
  cases rx;have e':(∃ xs,SqL X.K H p xs/\k=!xs.isEmpty)\/(∃ xs,SqT X.K H p xs/\k=!xs.isEmpty)\/∃ kvs,H p=some (.dK kvs)/\k=!kvs.isEmpty:=e
  rcases e' with⟨xs,hx,e'⟩ | ⟨xs,hx,e'⟩ | ⟨kvs,hx,e'⟩
  ·subst e';obtain⟨its,r,pl,hz⟩:=I.list hx;have hlen:=r.length;exact wpAny_truthy_list pl.isList (by simp only[List.size_toArray];omega) ⟨H,I.tok _,by rw[lI r];exact q⟩
  ·subst e';obtain⟨its,r,pl,hz⟩:=I.tuple hx;have hlen:=r.length;exact truthy_tuple pl (by simp only[List.size_toArray];omega) ⟨H,I.tok _,by rw[lI r];exact q⟩
  ·subst e';obtain⟨hz,hS,vs,r,m⟩:kvs.length<=sizeLine/\(p == sysModules)=false/\∃ vs,KV kvs vs/\s.heap.DictOf (cb X.prog X.w) p vs:=I.hok p _ hx;have hlen:kvs.length=vs.length:=Paired.length r;exact wpAny_truthy_dict hS m (by omega) ⟨H,I.tok _,by rw[uk r];exact q⟩
 | _=>exact(show False from e).elim
def xM(ha:PE X a ta)(he:∀ whole,isTrue a X.env whole=(do let v <- whole;standAt a.pos;holding [v] (truthy v))) :
  PT X a (fun σ H Q=>ta σ H fun x H'=>∃ k,tV X.K x H' k/\Q k H'):=by
 intro pins s σ H Q I h;exact isTrue_plain (thn (ha pins s σ H _ I h) fun v s1 ⟨x,H1,I1,r1,q1⟩=>wF pins s1 σ H1 x v Q I1 r1 q1) (he _)
def uT:OpR X (binaryOp .Add) (fun x y H Q=>∃ i j,x=.str i/\y=.str j/\i.length+j.length<=sizeLine/\Q (.str (i++j)) H):=by
 intro pins s σ H x y v u Q I rx ry h;obtain⟨i,j,rfl,rfl,hz,q⟩:=h;obtain⟨t,rfl⟩:=rx;obtain⟨t',rfl⟩:=ry;exact add_str (fun t' tk=>⟨.str (i++j),H,I.tok _,⟨_,rfl⟩,q⟩) hz
def vals1{x:V}{us:List Value}(r:Vals [x] us):∃ u,us=[u]/\RelV x u:=by
 cases r with
 | cons r1 r2=>cases r2;exact⟨_,rfl,r1⟩
def vals2{x y:V}{us:List Value}(r:Vals [x,y] us):∃ u w',us=[u,w']/\RelV x u/\RelV y w':=by
 cases r with
 |cons r1 r2=>
  cases r2 with
  | cons r3 r4=>cases r4;exact⟨_,_,rfl,r1,r3⟩
def vU(hc:X.calm=true):bI X (.builtin "max") (fun xs H Q=>∃ i j,xs=[.int i,.int j]/\Q (.int (if j > i then j else i)) H):=by
 intro pins s σ H xs us Q I r h;obtain⟨i,j,rfl,q⟩:=h;obtain⟨u,w',rfl,⟨t,rfl⟩,⟨t',rfl⟩⟩:=vals2 r
 refine max_two_ints (I.ok.hd.1 hc) fun h' tk k=>⟨_,H,I.kept k,?_,q⟩
 by_cases hj:j > i
 ·rw[if_pos hj,if_pos hj];exact⟨_,rfl⟩
 ·rw[if_neg hj,if_neg hj];exact⟨_,rfl⟩
def xw:bI X (.type "int") (fun xs H Q=>(∃ i,xs=[.int i]/\Q (.int i) H)\/∃ k,xs=[.bl k]/\Q (.int (if k then 1 else 0)) H):=by
 intro pins s σ H xs us Q I r h
 rcases h with⟨i,rfl,q⟩ | ⟨k,rfl,q⟩
 ·obtain⟨u,rfl,t,rfl⟩:=vals1 r;exact call_int_int ⟨.int i,H,I,⟨_,rfl⟩,q⟩
 ·obtain⟨u,rfl,r1⟩:=vals1 r;cases r1;exact call_int_bool ⟨.int (if k then 1 else 0),H,I.tok _,⟨_,rfl⟩,q⟩
abbrev CZ(K:PySem.W.Frag)(x:V)(H:Hp)(n:Nat):Prop :=
 match x with
 | .str y=>y.length<=sizeLine/\n=y.length
 | .byt y=>y.size<=sizeLine/\n=y.size
 | .ref p=>(∃ xs,SqL K H p xs/\n=xs.length)\/∃ xs,SqT K H p xs/\n=xs.length
 | _=>False
def xX:bI X (.builtin "len") (fun xs H Q=>∃ x n,xs=[x]/\CZ X.K x H n/\Q (.int n) H):=by
 intro pins s σ H xs us Q I r h;obtain⟨x,n,rfl,e,q⟩:=h;obtain⟨u,rfl,rx⟩:=vals1 r;have hl:=i7;have hs:sizeLine=16777216:=sizeLine_eq
 cases x with
 |str y=>
  obtain⟨t,rfl⟩:=rx;obtain⟨hy,e'⟩:y.length<=sizeLine/\n=y.length:=e;subst e';exact len_str (by omega) ⟨.int _,H,I.tok _,⟨_,rfl⟩,q⟩
 |byt y=>
  obtain⟨t,rfl⟩:=rx;obtain⟨hy,e'⟩:y.size<=sizeLine/\n=y.size:=e;subst e';exact PySem.W.len_bytes (by omega) ⟨.int _,H,I.tok _,⟨_,rfl⟩,q⟩
 |ref p=>
  cases rx;have e':(∃ xs,SqL X.K H p xs/\n=xs.length)\/∃ xs,SqT X.K H p xs/\n=xs.length:=e
  rcases e' with⟨xs,hx,e'⟩ | ⟨xs,hx,e'⟩
  ·subst e';obtain⟨its,r',pl,hz⟩:=I.list hx;have hlen:=r'.length;exact Calls.call_len_list pl.isList (by simp only[List.size_toArray];omega) ⟨.int xs.length,H,I.tok _,⟨_,by simp only[List.size_toArray];rw[hlen]⟩,q⟩
  ·subst e';obtain⟨its,r',pl,hz⟩:=I.tuple hx;have hlen:=r'.length;exact len_tuple pl (by simp only[List.size_toArray];omega) ⟨.int xs.length,H,I.tok _,⟨_,by simp only[List.size_toArray];rw[hlen]⟩,q⟩
 | _=>exact(show False from e).elim
end
structure yd(h:Heap)(x dx C:Addr)(mA:Str->Option Value):Prop where
 obj:h.get? x=some (PySem.W.instObj C dx)
 ns:h.Ns1 dx mA
 ne:dx≠x
def vh{h:Heap}{dx:Addr}{mA:Str->Option Value}(n:h.Ns1 dx mA):∃ od,h.get? dx=some od/\∀ name,PySem.W.lookIn name od=some (mA name):=by
 obtain⟨o,es,ep,ho,hd,hk,_,hm⟩:=n;refine⟨o,ho,fun name=>?_⟩;have e:=hm name;unfold nsFind findBy at e;rw[<-Array.find?_toList]at e;unfold PySem.W.lookIn;rw[hd];dsimp only;split
 ·rename_i y q;rw[q]at e;exact congrArg some e
 ·rename_i q;rw[q]at e
  have a:es.toList.any (·.refKey)=false:=by
   rw[List.any_eq_false];intro y hy;obtain⟨z,t,hkey⟩:=hk y (Array.mem_toList_iff.mp hy);simp[DictEntry.refKey,hkey]
  have a':¬ es.toList.any (·.refKey)=true:=by rw[a];exact Bool.false_ne_true
  rw[if_neg a'];exact congrArg some e
def yd.look{h:Heap}{x dx C:Addr}{mA:Str->Option Value}(I:yd h x dx C mA):∃ od,PySem.W.InstAt h x (PySem.W.instObj C dx) C (some od)/\∀ name,PySem.W.lookIn name od=some (mA name) :=
 let ⟨od,ho,hl⟩:=vh I.ns
 ⟨od,⟨I.obj,rfl,rfl,ho⟩,hl⟩
section
variable{prog:Program}{w:World}{A:Around}{E:Value->Shared->Prop}{s:Shared}{K:PySem.W.Frag}{x dx C f:Addr}{mA:Str->Option Value}{name:Str}{v:Value}
end
def gG.some_of{v:V}{o:Option Value}(r:gG (some v) o):∃ u,o=some u/\RelV v u:=by
 cases o with
 | none=>exact(show False from r).elim
 | some u=>exact⟨u,rfl,r⟩
section
variable{P:Program}{w:World}{H H':Hp}{h h':Heap}{a C dx:Addr}{fs fs':List (Str × V)}
def Aq(hok:HOk P w H h)(e:H a=some (.ins C dx fs)):∃ mA,yd h a dx C mA/\(∀ f,gG (fs.lookup f) (mA f))/\PySem.Within mA (fs.map (·.1))/\fs.length<=1000/\H dx=some (.own a):=by
 obtain⟨d,z,ne,ob,mA,n,r,q⟩:=(show bu P w H h a (.ins C dx fs)from hok a _ e)
 exact⟨mA,⟨ob,n,ne⟩,r,q,z,d⟩
end
structure Cls(K:PySem.W.Frag)(C:Addr):Prop where
 pg:PySem.W.plainGet K C Str.empty=true
 hd:PySem.W.hasDictIn K C=true
 po:PySem.W.plainOver K C=true
 sa:PySem.W.findIn K (.ref C) "__setattr__" = some (some (.builtin "object.__setattr__"))
def Cls.get{K:PySem.W.Frag}{C:Addr}(c:Cls K C)(f:Str):PySem.W.plainGet K C f=true:=c.pg
section
variable{X:Cx}{pins:List (Addr × Obj)}{σ:St}{H:Hp}{s:Shared}{a C dx:Addr}{fs:List (Str × V)}{f:Str}{v:V}{A:Around}{E:Value->Shared->Prop}
end
section
variable{X:Cx}{o e value:Expr}{f:Str}{pos pos' tpos:Pos}{ta tv:TE}
end
section
variable{X:Cx}{pins:List (Addr × Obj)}{σ:St}{H:Hp}{s:Shared}{A:Around}{E:Value->Shared->Prop}{Q:Value->Shared->Prop}{c:Value}{b:Bool}
inductive eQ (K:PySem.W.Frag) (H:Hp):V->Value->Prop where
 | non:eQ K H .non (.type "NoneType")
 | bl (x:Bool):eQ K H (.bl x) (.type "bool")
 | int (i:Int):eQ K H (.int i) (.type "int")
 | str (x:Str):eQ K H (.str x) (.type "str")
 | flt (x:UInt64):eQ K H (.flt x) (.type "float")
 | lst {a:Addr} {xs:List V} (e:H a=some (.lst xs)):eQ K H (.ref a) (.type "list")
 | frz {a:Addr} {o:Obj} {xs:List V} (e:H a=some (.frz o (.lst xs))):eQ K H (.ref a) (.type "list")
 | tup {a:Addr} {xs:List V} (e:H a=some (.tup xs)):eQ K H (.ref a) (.type "tuple")
 | dK {a:Addr} {kvs:List (Key × V)} (e:H a=some (.dK kvs)):eQ K H (.ref a) (.type "dict")
 | dT {a:Addr} {kvs:List (List Key × V)} (e:H a=some (.dT kvs)):eQ K H (.ref a) (.type "dict")
 | ins {a C dx:Addr} {fs:List (Str × V)} (e:H a=some (.ins C dx fs)) (cl:Cls K C) (ha:PySem.W.findIn K (.ref C) "__class__" = some (some (.builtin "object.__class__")))
   (hn:PySem.W.specialIn K (.builtin "object.__class__") "__get__" = some (some (.builtin "getset_descriptor.__get__"))) (htk:PySem.W.takesIn K (.builtin "object.__class__")=some true)
   (hm:PySem.W.mroIn K C (.type "object")=some true):eQ K H (.ref a) (.ref C)
def uV{x:V}{u t:Value}(I:Inv X pins σ H s)(rx:RelV x u)(ty:eQ X.K H x t)(e:PySem.W.kitOne X.K t c=some b)(h:∀ tk,Q (.bool b) { s with toks:=tk }) :
  wpAny (model X.prog X.w) A (call (.builtin "isinstance") [u,c]) Q E s:=by
 cases ty with
 | non=>cases(show u=Value.none from rx);exact PySem.W.kia_one PySem.W.kitx_none I.kIn True.intro e (fun z=>nomatch z) h
 | bl y=>cases(show u=Value.bool y from rx);exact PySem.W.kia_one PySem.W.kitx_bool I.kIn True.intro e (fun z=>nomatch z) h
 | int i=>obtain⟨t,q⟩:=(show ∃ t,u=Value.int i t from rx);cases q;exact PySem.W.kia_one PySem.W.kitx_int I.kIn True.intro e (fun z=>nomatch z) h
 | str y=>obtain⟨t,q⟩:=(show ∃ t,u=Value.str y t from rx);cases q;exact PySem.W.kia_one PySem.W.kitx_str I.kIn True.intro e (fun z=>nomatch z) h
 | flt y=>obtain⟨t,q⟩:=(show ∃ t,u=Value.float y t from rx);cases q;exact PySem.W.kia_one PySem.W.kitx_float I.kIn True.intro e (fun z=>nomatch z) h
 |@lst a xs ea=>
  cases(show u=Value.ref a from rx)
  obtain⟨_,_,n,_,h1⟩:=(show bu X.prog X.w H s.heap a (.lst xs)from I.hok a _ ea)
  exact PySem.W.kia_one PySem.W.kitx_list I.kIn ⟨_,h1,rfl⟩ e (fun z=>nomatch z) h
 |@frz a ob xs ea=>
  cases(show u=Value.ref a from rx)
  obtain⟨_,_,_,n,_,h1⟩:=(show bu X.prog X.w H s.heap a (.frz ob (.lst xs))from I.hok a _ ea)
  exact PySem.W.kia_one PySem.W.kitx_list I.kIn ⟨_,h1,rfl⟩ e (fun z=>nomatch z) h
 |@tup a xs ea=>
  cases(show u=Value.ref a from rx)
  obtain⟨_,_,_,p⟩:=(show bu X.prog X.w H s.heap a (.tup xs)from I.hok a _ ea)
  obtain⟨o,h1,h2,_⟩:=p;exact PySem.W.kia_one PySem.W.kitx_tuple I.kIn ⟨o,h1,h2⟩ e (fun z=>nomatch z) h
 |@dK a kvs ea=>
  cases(show u=Value.ref a from rx)
  obtain⟨_,_,vs,_,p⟩:=(show bu X.prog X.w H s.heap a (.dK kvs)from I.hok a _ ea)
  obtain⟨o,es,ep,h1,h2,_⟩:=p;exact PySem.W.kia_one PySem.W.kitx_dict I.kIn ⟨o,h1,h2.1⟩ e (fun z=>nomatch z) h
 |@dT a kvs ea=>
  cases(show u=Value.ref a from rx)
  obtain⟨_,_,xs,_,o,es,ep,h1,h2,_⟩:=(show bu X.prog X.w H s.heap a (.dT kvs)from I.hok a _ ea)
  exact PySem.W.kia_one PySem.W.kitx_dict I.kIn ⟨o,h1,h2.1⟩ e (fun z=>nomatch z) h
 |@ins a C dx fs ea cl ha hn htk hm=>
  cases(show u=Value.ref a from rx);obtain⟨mA,O,_⟩:=Aq I.hok ea;obtain⟨od,J,_⟩:=O.look;exact PySem.W.kia_one (PySem.W.kitx_own (cl.get _) cl.hd ha hn htk hm) I.kIn J e (fun z=>nomatch z) h
end
structure cw(k:Nat)(A:Around):Prop where
 hd:A.handled=none
 dp:A.depth+3*k+5<recursionLimit
 un:A.units+16*k+200<cLine
def cw.deeper{k:Nat}{A:Around}(r:cw (k+1) A)(env:Env):cw k (A.deeper env) :=
 ⟨r.hd,by have:=r.dp;show A.depth+1+3*k+5<_;omega,by have:=r.un;show A.units+3+16*k+200<_;omega⟩
def cw.depth{k:Nat}{A:Around}(r:cw k A):A.depth<recursionLimit:=by have:=r.dp;omega
abbrev iO:TA:=fun _ H Q=>Q [] H
abbrev hX(ta:TE)(tr:TA):TA:=fun σ H Q=>ta σ H fun x H1=>tr σ H1 fun xs H2=>Q (x::xs) H2
section
variable{X:Cx}{e:Expr}{es:List Expr}{te:TE}{t:TA}{pos:Pos}
def cz:PA X [] iO:=fun _ _ _ _ H Q I h=>Calls.spliced_nil ⟨[],H,I,.nil,h⟩
def bh(ha:PE X e te)(hr:PA X es t)(hs:starEach (e::es) X.env=(false,eval e X.env)::starEach es X.env:=by rfl):PA X (e::es) (hX te t):=by
 intro pos pins s σ H Q I h;rw[hs];show wpAny _ _ (spliced ((false,eval e X.env)::backTo pos (starEach es X.env))) _ _ s;refine Calls.spliced_cons (thn (ha pins s σ H _ I h) fun u s1 ⟨x,H1,I1,r1,q1⟩=>?_)
 exact thn (hr pos pins s1 σ H1 _ I1 q1) fun us s2 ⟨xs,H2,I2,r2,q2⟩=>⟨x::xs,H2,I2,.cons r1 r2,q2⟩
abbrev Gi(t:TA):TE:=fun σ H Q=>t σ H fun xs H1=>xs.length<=sizeLine/\∀ p,H1 p=none->Q (.ref p) (upd H1 p (.tup xs))
abbrev FU(t:TA):TE:=fun σ H Q=>t σ H fun xs H1=>xs.length<=sizeLine/\∀ p,H1 p=none->Q (.ref p) (upd H1 p (.lst xs))
def EA{x1}(h:PA X es t):PE X (.Tuple es x1 pos) (Gi t):=by
 intro pins s σ H Q I hq;refine wpAny_Tuple_spliced (thn (h pos pins s σ H _ I hq) fun us s1 ⟨xs,H1,I1,r,z,q⟩=>⟨by rw[<-r.length];exact z,?_⟩);have hf:H1 s1.heap.objs.size=none:=I1.hok.fresh (Nat.le_refl _);refine⟨.ref s1.heap.objs.size,upd H1 s1.heap.objs.size (.tup xs),I1.laid (t':=s1.toks) (fun b u e=>Heap.get?_push_of_some _ e) (Nat.le_refl _) ?_,rfl,q _ hf⟩;exact⟨z,us,r,⟨_,Heap.get?_push_size _ rfl,rfl,_,rfl⟩⟩
def Cw(h:PA X es t):PE X (.List es pos) (FU t):=by
 intro pins s σ H Q I hq;refine wpAny_List_spliced (thn (h pos pins s σ H _ I hq) fun us s1 ⟨xs,H1,I1,r,z,q⟩=>⟨by rw[<-r.length];exact z,?_⟩);have hf:H1 s1.heap.objs.size=none:=I1.hok.fresh (Nat.le_refl _);refine⟨.ref s1.heap.objs.size,upd H1 s1.heap.objs.size (.lst xs),I1.laid (t':=s1.toks) (fun b u e=>Heap.get?_push_of_some _ e) (Nat.le_refl _) ?_,rfl,q _ hf⟩;exact⟨z,us,0,r,Heap.get?_push_size _ rfl⟩
end
@[reducible]noncomputable def Sp:=List V->Hp->VK->XK->Prop
@[reducible]noncomputable def CXT:=List Env->Hp->Shared->XK->Value->Shared->Prop
structure qB(P:Program)(w:World)(K:PySem.W.Frag)(mg:Str->Option Value)(base:Heap)(A:Around)(outer:List Env)(s:Shared)(H:Hp):Prop where
 frames:A.frames=some outer
 mod:Mod K mg base
 bs:∀ b o,base.get? b=some o->s.heap.get? b=some o/\H b=none
 bsz:base.objs.size<=s.heap.objs.size
 dD:s.heap.FunFrames base outer
 frf:∀ b∈frs outer,H b=none
 hok:HOk P w H s.heap
 bare:AllBare s.gens
abbrev CE(outer:List Env)(P:Program)(w:World)(H:Hp)(s:Shared)(Q:VK)(u:Value)(s':Shared):Prop :=
 ∃ v H',s'.os=s.os/\AllBare s'.gens/\Un (frs outer) [] H H' s.heap s'.heap/\HOk P w H' s'.heap/\RelV v u/\Q v H'
abbrev CR(CX:CXT)(outer:List Env)(P:Program)(w:World)(H:Hp)(s:Shared)(Q:VK)(E:XK)(r:Result)(s':Shared):Prop :=
 match r with
 | .ok (.ret u)=>CE outer P w H s Q u s'
 | .ok _=>False
 | .error e=>CX outer H s E e s'
structure d5(P:Program)(w:World)(K:PySem.W.Frag)(mg:Str->Option Value)(base:Heap)(CX:CXT)(k:Nat)(f:Addr)(fd:FuncData)(ps:List Str)(sp:Sp):Prop where
 len:∀ vs H Q E,sp vs H Q E->vs.length=ps.length
 run:∀ (A:Around) (outer:List Env) (s:Shared) (H:Hp) (args:Args) (us:List Value) (vs:List V) (Q:VK) (E:XK),cw k A->qB P w K mg base A outer s H->BindsTo s fd args (ps.zip us)->Vals vs us->sp vs H Q E ->
  codeAny (model P w) A (.call (.ref f) args) (CR CX outer P w H s Q E) s
section
variable{X:Cx}{pins:List (Addr × Obj)}{σ:St}{H:Hp}{s s':Shared}
def Inv.yn(I:Inv X pins σ H s):qB X.prog X.w X.K X.mg X.base X.A X.stack s H :=
 ⟨I.ok.frames,I.ok.mod,I.bs,Nat.le_trans I.ok.bsz I.sz,I.stack,I.ke,I.hok,I.bare⟩
def Inv.after{Q:VK}{u:Value}(I:Inv X pins σ H s)(h:CE X.stack X.prog X.w H s Q u s'):EP X pins σ Q u s':=by
 obtain⟨v,H',os,bare,un,hok,r,q⟩:=h;obtain⟨hh,g,d,t,os'⟩:=s';obtain rfl:os'=s.os:=os;exact⟨v,H',I.call (h':=hh) (g':=g) (d':=d) (t':=t) (ch:=[]) un hok bare (fun b z=>absurd z (by simp)),r,q⟩
end
abbrev lU(sp:Sp)(dvs:List V)(E:XK)(t:TA):TE:=fun σ H Q=>t σ H fun vs H1=>sp (vs++dvs) H1 Q E
abbrev Binds(K:PySem.W.Frag)(fd:FuncData)(ps:List Str)(ds:List Value):Prop :=
 ∀ (s:Shared) (us:List Value),K.In s.heap->(us++ds).length=ps.length->BindsTo s fd ⟨us,[]⟩ (ps.zip (us++ds))
def Binds.all{K:PySem.W.Frag}{fd:FuncData}{ps:List Str}(h:∀ us:List Value,us.length=ps.length->bindArgs fd ⟨us,[]⟩=pure (ps.zip us)):Binds K fd ps []:=fun s us _ hl=>by
 rw[List.append_nil]at hl ⊢;exact .of_eq (h us hl)
abbrev Passes(CX:CXT)(X:Cx)(E:XK):Prop:=∀ (pins:List (Addr × Obj)) (σ:St) (H:Hp) (s:Shared) (e:Value) (s':Shared),Inv X pins σ H s->CX X.stack H s E e s'->X.xe e s'
section
variable{X:Cx}{CX:CXT}{k:Nat}{f C:Addr}{fd:FuncData}{ps:List Str}{sp:Sp}{dvs:List V}{ds:List Value}{E:XK}{x m:Str}{p pos apos:Pos}{e o:Expr}{es:List Expr}{ta:TE}{t:TA}
def vz{pins:List (Addr × Obj)}{σ:St}{H:Hp}{s:Shared}{Q:VK}{us:List Value}{vs:List V}(F:d5 X.prog X.w X.K X.mg X.base CX k f fd ps sp)(hr:cw k X.A)(hb:Binds X.K fd ps ds)(hd:Vals dvs ds)(hx:Passes CX X E)
 (I:Inv X pins σ H s)(r:Vals vs us)(h:sp (vs++dvs) H Q E):wpAny (model X.prog X.w) X.A (call (.ref f) us) (EP X pins σ Q) X.xe s:=by
 have r2:Vals (vs++dvs) (us++ds):=r.append hd
 have hl:(us++ds).length=ps.length:=by rw[<-r2.length];exact F.len _ _ _ _ h
 refine wpAny_call (codeAny_mono (F.run X.A X.stack s H ⟨us,[]⟩ (us++ds) (vs++dvs) Q E hr I.yn (hb s us I.kIn hl) r2 h) fun r s' hq=>?_)
 cases r with
 | error e=>exact hx pins σ H s e s' I hq
 |ok fl=>
  cases fl with
  | ret u=>exact I.after hq
  | next=>exact False.elim hq
  | brk=>exact False.elim hq
  | cont=>exact False.elim hq
def tf(F:d5 X.prog X.w X.K X.mg X.base CX k f fd ps sp)(hr:cw k X.A)(hg:Gl X x)(hm:X.mg x=some (.ref f))(hk:PySem.W.keepIn X.K (.ref f)=true)(hb:Binds X.K fd ps ds)(hd:Vals dvs ds)(hx:Passes CX X E)
 (ha:PA X (e::es) t)(hdb:(x == ("__debug__" : Str))=false:=by decide)(he:starEach (e::es) X.env=(false,eval e X.env)::starEach es X.env:=by rfl)(hpl:(backTo pos (starEach es X.env)).any (·.1)=false:=by rfl) :
  PE X (.Call (.Name x p) (e::es) [] pos) (lU sp dvs E t):=by
 intro pins s σ H Q I h;refine wpAny_Call_Name_kw (fj I hg hm ?_ hdb);refine PySem.W.callWith_K (h₀:=X.base) I.ok.mod.kin hk (thn (ha pos pins s σ H _ I h) fun us s1 ⟨vs,H1,I1,r,q⟩=>⟨I1.kIn,?_⟩) he hpl;exact vz F hr hb hd hx I1 r q
def yj(F:d5 X.prog X.w X.K X.mg X.base CX k f fd ps sp)(hr:cw k X.A)(hg:Gl X x)(hm:X.mg x=some (.ref f))(hk:PySem.W.keepIn X.K (.ref f)=true)(hb:Binds X.K fd ps ds)(hd:Vals dvs ds)(hx:Passes CX X E)
 (hdb:(x == ("__debug__" : Str))=false:=by decide):PE X (.Call (.Name x p) [] [] pos) (lU sp dvs E iO):=by
 intro pins s σ H Q I h;refine wpAny_Call_Name_kw (fj I hg hm ?_ hdb);exact PySem.W.callWith_K0 I.kIn hk (vz (us:=[]) F hr hb hd hx I .nil h)
end
section
variable{X:Cx}{CX:CXT}{k:Nat}{f C:Addr}{fd:FuncData}{ps ks:List Str}{sp:Sp}{E:XK}{x m:Str}{p pos apos kpos:Pos}{e o:Expr}{es:List Expr}{kws:List Keyword}{te ta:TE}{t tk:TA}{nm:Option Str}
variable{g:List Value->List Value->List Value}{gV:List V->List V->List V}
end
structure fh(N P:List Str)(sc:Scope):Prop where
 kind:sc.kind=.function
 co:sc.isCoroutine=false
 gen:sc.isGenerator=false
 nd:N.Nodup
 pre:N.take P.length=P
 par:∀ x∈P,sc.names.lookup x=some .local\/sc.names.lookup x=some .cell
 BM:∀ y∈sc.names,y.2≠.free
def oy{kindOf:Str->Option NameKind}{x:Str}:∀ {binds:List (Str × Value)} {m:Str->Option Value},(∀ v,(x,v)∉binds)->bindL kindOf binds m x=m x
 | [],_,_=>rfl
 | (n,v)::r,m,h=>by
  unfold bindL;rw[oy fun w hw=>h w (List.mem_cons_of_mem _ hw)];split
  ·have:x≠n:=by rintro rfl;exact h v List.mem_cons_self
   simp[this]
  ·rfl
def oE{kindOf:Str->Option NameKind}{x:Str}:∀ {binds:List (Str × Value)} {m:Str->Option Value},(∀ v,(x,v)∉binds)->bindC kindOf binds m x=m x
 | [],_,_=>rfl
 | (n,v)::r,m,h=>by
  unfold bindC;rw[oE fun w hw=>h w (List.mem_cons_of_mem _ hw)];split
  ·rfl
  ·have:x≠n:=by rintro rfl;exact h v List.mem_cons_self
   simp[this]
def nU{kindOf:Str->Option NameKind}{x:Str}{v:Value}:∀ {P:List Str} {vs:List Value} {i:Nat} {m:Str->Option Value},P.Nodup->P[i]?=some x->vs[i]?=some v->kindOf x=some .local ->
  bindL kindOf (P.zip vs) m x=some v
 | [],_,_,_,_,h,_,_=>by simp at h
 | _::_,[],_,_,_,_,h,_=>by simp at h
 | p::P,w::vs,0,m,nd,h1,h2,hk=>by
  simp at h1 h2;subst h1;subst h2;show bindL kindOf ((p,w)::P.zip vs) m p=_;unfold bindL;rw[oy fun v hv=>(List.nodup_cons.mp nd).1 (List.of_mem_zip hv).1,if_pos hk];simp
 | p::P,w::vs,i+1,m,nd,h1,h2,hk=>by
  show bindL kindOf ((p,w)::P.zip vs) m x=_;unfold bindL;exact nU (i:=i) (List.nodup_cons.mp nd).2 (by simpa using h1) (by simpa using h2) hk
def nQ{kindOf:Str->Option NameKind}{x:Str}{v:Value}:∀ {P:List Str} {vs:List Value} {i:Nat} {m:Str->Option Value},P.Nodup->P[i]?=some x->vs[i]?=some v->kindOf x≠some .local ->
  bindC kindOf (P.zip vs) m x=some v
 | [],_,_,_,_,h,_,_=>by simp at h
 | _::_,[],_,_,_,_,h,_=>by simp at h
 | p::P,w::vs,0,m,nd,h1,h2,hk=>by
  simp at h1 h2;subst h1;subst h2;show bindC kindOf ((p,w)::P.zip vs) m p=_;unfold bindC;rw[oE fun v hv=>(List.nodup_cons.mp nd).1 (List.of_mem_zip hv).1,if_neg hk];simp
 | p::P,w::vs,i+1,m,nd,h1,h2,hk=>by
  show bindC kindOf ((p,w)::P.zip vs) m x=_;unfold bindC;exact nQ (i:=i) (List.nodup_cons.mp nd).2 (by simpa using h1) (by simpa using h2) hk
abbrev start(N:List Str)(vs:List V):St:=vs.map some++List.replicate (N.length-vs.length) none
abbrev gD(CX:CXT)(P:Program)(w:World)(K:PySem.W.Frag)(mg:Str->Option Value)(base:Heap)(N:List Str)(qual:Str)(scope:Scope)(f:Addr)(cd:Value)(A:Around)(outer:List Env)(s:Shared)(H:Hp)(E:XK):Cx where
 prog:=P
 w:=w
 K:=K
 mg:=mg
 base:=base
 A:=A.deeper (envOfC qual scope s.heap.objs.size f cd)
 N:=N
 s₀:=s
 H₀:=H
 env:=envOfC qual scope s.heap.objs.size f cd
 outer:=outer
 stack:=envOfC qual scope s.heap.objs.size f cd::outer
 ex:=[]
 calm:=true
 fn:=fun _=>true
 pn:=[]
 xe:=fun e s'=>wpAny (model P w) (A.deeper (envOfC qual scope s.heap.objs.size f cd)) (leaving (envOfC qual scope s.heap.objs.size f cd) e) (fun _ s''=>CX outer H s E e s'') (fun e' s''=>CX outer H s E e' s'') s'
def r8{sc:Scope}{n:Nat}{x:Str}(h:sc.names.lookup x=some .cell):∃ c,(cellsFrom n sc.names []).lookup x=some c:=by
 have q:=PySem.W.cellsFrom_some sc.names n [] (.inl h);exact Option.isSome_iff_exists.mp q
def nR{CX:CXT}{P:Program}{w:World}{K:PySem.W.Frag}{mg:Str->Option Value}{base:Heap}{N ps:List Str}{qual:Str}{scope:Scope}{f:Addr}{cd:Value}{A:Around}{outer:List Env}{s s1:Shared}{H:Hp}{E:XK}{us:List Value}{vs:List V}
 (S:fh N ps scope)(hd:A.handled=none)(e0:qB P w K mg base A outer s H)(hl:vs.length=ps.length)(r:Vals vs us)
 (x:InCallC s s.heap.objs.size (bindL (envOfC qual scope s.heap.objs.size f cd).kindOf (ps.zip us) fun _=>none) (cellsFrom (s.heap.objs.size+1) scope.names []) (bindC (envOfC qual scope s.heap.objs.size f cd).kindOf (ps.zip us) fun _=>none) s1) :
  Inv (gD CX P w K mg base N qual scope f cd A outer s H E) [] (start N vs) H s1:=by
 have hpl:ps.length<=N.length:=by have:=congrArg List.length S.pre;rw[List.length_take]at this;omega
 obtain⟨h1,tk,rfl,hk⟩:=x.done;have noA:∀ b:Addr,b∉(gD CX P w K mg base N qual scope f cd A outer s H E).ex:=fun b z=>absurd (show b∈([]:List Addr)from z) (by simp)
 refine⟨⟨e0.mod,S.kind,rfl,rfl,Nat.le_refl _,fun y z c h1 h2=>?_,fun y hy=>?_,fun y c _ h=>?_,⟨fun _=>hd,.inl hd⟩,Around.frames_deeper e0.frames,.inr ⟨rfl,rfl⟩,fun b z=>absurd z (noA b),e0.bs,e0.bsz,fun b _ _=>noA b,fun b z=>absurd z (noA b),e0.dD,e0.frf⟩,
  rfl,e0.bare,Un.kept hk,⟨_,x.toInCall.ns,fun i y v h1 h2 h3=>?_⟩,fun y c h=>⟨_,x.cell y c h⟩,e0.hok.fresh (Nat.le_refl _),fun y c h=>?_,fun p hp=>absurd (show p∈([]:List (Addr × Obj))from hp) (by simp),e0.hok.kept hk,?_⟩
 ·exact name_of_addr x.apart (PySem.mem_of_lookup h1) (PySem.mem_of_lookup h2)
 ·have hy:scope.names.lookup y=some .cell\/scope.names.lookup y=some .free:=hy;rcases hy with hy | hy
  ·exact r8 hy
  ·exact absurd rfl (S.BM _ (PySem.mem_of_lookup hy))
 ·exact Nat.le_of_lt (x.above y c (PySem.mem_of_lookup h))
 ·have hi:i<vs.length:=by
   unfold start at h2;by_cases hi:i<vs.length
   ·exact hi
   ·rw[List.getElem?_append_right (by simpa using hi)]at h2;rw[List.getElem?_replicate]at h2;split at h2<;>cases h2
  have ha:vs[i]?=some v:=by
   unfold start at h2;rw[List.getElem?_append_left (by simpa using hi),List.getElem?_map]at h2
   cases e:vs[i]? with
   | none=>rw[e]at h2;cases h2
   | some a=>rw[e]at h2;cases h2;rfl
  obtain⟨u,hu,rv⟩:=r.get ha
  have hp:ps[i]?=some y:=by
   rw[<-S.pre,List.getElem?_take_of_lt (by omega)];exact h1
  have ndP:ps.Nodup:=by rw[<-S.pre];exact S.nd.sublist (List.take_sublist _ _)
  refine⟨u,rv,?_⟩;rcases S.par y (List.mem_of_getElem? hp)with k | k
  ·exact .inl ⟨k,nU ndP hp hu k⟩
  ·obtain⟨c,e⟩:=r8 (n:=s.heap.objs.size+1) k;refine .inr ⟨.inl k,c,e,?_⟩;have q:=x.cell y c e;rw[nQ ndP hp hu (by show scope.names.lookup y≠_;rw[k];decide)]at q;exact q
 ·exact e0.hok.fresh (Nat.le_of_lt (x.above y c (PySem.mem_of_lookup h)))
 ·unfold start;show _=N.length;rw[List.length_append,List.length_map,List.length_replicate];omega
def zH{CX:CXT}{P:Program}{w:World}{K:PySem.W.Frag}{mg:Str->Option Value}{base:Heap}{k:Nat}{f:Addr}{name qual:Str}{params:Arguments}{body:List Stmt}{scope:Scope}{dV kV doc pm cdv ct oc:Value}{an od:Option Addr}
 {osl:Array (Option Value)}{N ps:List Str}{sp:Sp}(lk:K.lookup f=some ⟨oc,od,.func (PySem.W.fnOf name qual params body scope dV kV doc pm an cdv ct),osl⟩)(hcd:PySem.W.codeIn K cdv qual=true)(S:fh N ps scope)
 (len:∀ vs H Q E,sp vs H Q E->vs.length=ps.length)
 (hbody:∀ (A:Around) (outer:List Env) (s:Shared) (H:Hp) (vs:List V) (Q:VK) (E:XK),cw k (A.deeper (envOfC qual scope s.heap.objs.size f cdv))->sp vs H Q E ->
   ∃ t,PSs (gD CX P w K mg base N qual scope f cdv A outer s H E) body t/\t { nx:=fun _ H'=>Q .non H',rt:=Q } (start N vs) H) :
  d5 P w K mg base CX (k+1) f (PySem.W.fnOf name qual params body scope dV kV doc pm an cdv ct) ps sp:=by
 refine⟨len,fun A outer s H args us vs Q E hr e0 hb r hsp=>?_⟩;have hl:=len _ _ _ _ hsp;have KX:K.In s.heap:=e0.mod.kin.keeps fun b o e=>(e0.bs b o e).1;have lim:s.heap.NoLimit:=e0.mod.nolimit.keeps fun b o e=>(e0.bs b o e).1
 have hkind:∀ y∈ps.zip us,scope.names.lookup y.1=some .local\/(scope.names.lookup y.1=some .cell/\((cellsFrom (s.heap.objs.size+1) scope.names []).lookup y.1).isSome=true):=fun⟨n,v⟩ hy=>by
  rcases S.par n (List.of_mem_zip hy).1 with q | q
  ·exact .inl q
  ·exact .inr ⟨q,PySem.W.cellsFrom_some _ _ _ (.inl q)⟩
 refine codeAny_call_function hr.depth (KX _ _ lk) rfl S.co S.gen rfl (PySem.W.codeRec_of KX hcd) (hb _ _ _ _ ?_);refine wpAny_newFunctionEnv_cells S.kind hkind fun env he s1 x=>?_;subst he;refine⟨lim.keeps x.toInCall.keep,codeAny_func ?_⟩;obtain⟨t,ht,hq⟩:=hbody A outer s H vs Q E (hr.deeper _) hsp;have I:Inv (gD CX P w K mg base N qual scope f cdv A outer s H E) [] (start N vs) H s1:=nR S hr.hd e0 hl r x;refine wpAny_mono (ht [] s1 (start N vs) H _ I hq) (fun fl s' hs=>?_) fun e s' hs=>hs
 have fin:∀ {σ':St} {H':Hp} {v:V} {u:Value},Inv (gD CX P w K mg base N qual scope f cdv A outer s H E) [] σ' H' s'->RelV v u->Q v H'->CE outer P w H s Q u s' :=
  fun {σ' H' v u} J rv q=>⟨v,H',J.os,J.bare,J.base,J.hok,rv,q⟩
 cases fl with
 |ret u=>
  obtain⟨v,σ',H',J,rv,q⟩:=hs;exact fin J rv q
 |next=>
  obtain⟨σ',H',J,q⟩:=hs;exact fin (v:=V.non) (u:=Value.none) J rfl q
 |brk=>
  obtain⟨_,_,_,q⟩:=hs;exact False.elim q
 |cont=>
  obtain⟨_,_,_,q⟩:=hs;exact False.elim q
section
variable{X:Cx}{x:Str}{p pos:Pos}{e:Expr}{es:List Expr}{t:TA}{id T:String}{r:List V->Hp->VK->Prop}
abbrev tCB(r:List V->Hp->VK->Prop)(t:TA):TE:=fun σ H Q=>t σ H fun vs H1=>r vs H1 Q
def ff(hc:bI X (.builtin id) r)(hg:Gl X x)(hm:X.mg x=none)(hv:bootBuiltins x=some (.builtin id))(ha:PA X (e::es) t)(hn:x ≠ "__name__" := by decide)(hdb:(x == ("__debug__" : Str))=false:=by decide)
 (he:starEach (e::es) X.env=(false,eval e X.env)::starEach es X.env:=by rfl)(hpl:(backTo pos (starEach es X.env)).any (·.1)=false:=by rfl):PE X (.Call (.Name x p) (e::es) [] pos) (tCB r t):=by
 intro pins s σ H Q I h;refine wpAny_Call_Name_kw (gx I hg hm hv ?_ hn hdb);exact PyProof.Rows.callWith_builtin1 (thn (ha pos pins s σ H _ I h) fun us s1 ⟨vs,H1,I1,r1,q1⟩=>hc pins s1 σ H1 vs us Q I1 r1 q1) he hpl
def bW(hc:bI X (.type T) r)(hg:Gl X x)(hm:X.mg x=none)(hv:bootBuiltins x=some (.type T))(ha:PA X (e::es) t)(hn:x ≠ "__name__" := by decide)(hdb:(x == ("__debug__" : Str))=false:=by decide)
 (he:starEach (e::es) X.env=(false,eval e X.env)::starEach es X.env:=by rfl)(hpl:(backTo pos (starEach es X.env)).any (·.1)=false:=by rfl):PE X (.Call (.Name x p) (e::es) [] pos) (tCB r t):=by
 intro pins s σ H Q I h;refine wpAny_Call_Name_kw (gx I hg hm hv ?_ hn hdb);exact PyProof.Rows.callWith_type1 (thn (ha pos pins s σ H _ I h) fun us s1 ⟨vs,H1,I1,r1,q1⟩=>hc pins s1 σ H1 vs us Q I1 r1 q1) he hpl
end
end L2
namespace HT
open PySem PyProof.Rows
section
open PySem.SeqAt
open PySem.AutoSeq1 (wpAny_loadPart')
open PySem.MeetsSeq PySem.MeetsSeq2 PySem.MeetsSeq3
end
section
variable{prog:Program}{w:World}{A:Around}{E:Value->Shared->Prop}{s:Shared}
def AF{t b:Addr}{vs ws:List Value}{Q:Value->Shared->Prop}(ht:IsTup s.heap t vs.toArray)(hb:IsTup s.heap b ws.toArray)(hv:vs≠[])
 (h1:ws=[]->Q (.ref t) s)(h2:ws≠[]->Q (.ref s.heap.objs.size) { s with heap:=s.heap.push { cls:=.type "tuple",data:=.seq (vs++ws).toArray } })
 (hsz:vs.length+ws.length<=sizeLine):wpAny (model prog w) A (binaryOp .Add (.ref t) (.ref b)) Q E s:=by
 obtain⟨⟨cls,dd,data,sl⟩,ho,hc,n,hd⟩:=id ht;obtain⟨⟨cls2,dd2,data2,sl2⟩,ho2,hc2,n2,hd2⟩:=id hb;simp only at hc hd hc2 hd2;subst hc hd hc2 hd2
 have e:vs.toArray++ws.toArray=(vs++ws).toArray:=by simp
 by_cases hw:ws=[]
 ·exact concat_meets ⟨_,ho,rfl⟩ ⟨_,ho2,rfl⟩ noFill_tuple_add seq_tuple_add PySem.F.slot_tuple_add PySem.F.entry_tuple_add (PySem.F.args_tuple_add_2 _ _)
   (tuple_addW1 t b vs.toArray ws.toArray n n2 dd dd2 sl sl2 (by simpa using hv) (by simp[hw])) ⟨ho,ho2,h1 hw⟩
 ·refine concat_meets ⟨_,ho,rfl⟩ ⟨_,ho2,rfl⟩ noFill_tuple_add seq_tuple_add PySem.F.slot_tuple_add PySem.F.entry_tuple_add (PySem.F.args_tuple_add_2 _ _)
   (tuple_addW2 t b vs.toArray ws.toArray n n2 dd dd2 sl sl2 (by simpa using hv) (by simpa using hw) (by rw[List.size_toArray,List.size_toArray];exact hsz)) ⟨ho,ho2,?_⟩
  rw[e];exact h2 hw
abbrev sIx(n d:Nat):Option Int->Nat
 | none=>d
 | some v=>if v<0 then(v+(n:Int)).toNat else min v.toNat n
def x8(n d:Nat):sIx n d none=d:=rfl
def EG(n d:Nat)(hd:d<=n)(o:Option Int):sIx n d o<=n:=by
 cases o with
 | none=>exact hd
 |some v=>
  show(if v<0 then(v+(n:Int)).toNat else min v.toNat n)<=n;by_cases hv:v<0
  ·rw[if_pos hv];omega
  ·rw[if_neg hv];exact Nat.min_le_right _ _
def kB(v:Int)(n d:Nat):(if v<0 then max (v+(n:Int)) 0 else min v (n:Int))=((sIx n d (some v):Nat):Int):=by
 show(if v<0 then max (v+(n:Int)) 0 else min v (n:Int))=(((if v<0 then(v+(n:Int)).toNat else min v.toNat n):Nat):Int);by_cases hv:v<0
 ·simp only[if_pos hv];omega
 ·simp only[if_neg hv];omega
def uF(lo hi:Option Int)(n:Nat):Builtin.Slice.sliceAdjust lo hi 1 (n:Int)=(((sIx n 0 lo:Nat):Int),((sIx n n hi:Nat):Int)):=by
 have h1:¬ ((1:Int)<0):=by omega
 unfold Builtin.Slice.sliceAdjust;simp only[h1,if_false];refine Prod.ext ?_ ?_
 ·cases lo with
  | none=>rfl
  | some v=>exact kB v n 0
 ·cases hi with
  | none=>rfl
  | some v=>exact kB v n n
def uN(i j:Nat):Builtin.Slice.slicePlaces (i:Int) (j:Int) 1=j-i:=by
 unfold Builtin.Slice.slicePlaces
 have h1:(1:Int) > 0:=by omega
 simp only[h1,if_true,Int.ediv_one];split<;>omega
def mj{v:Value}{o:Option Int}{Q:Option Int->Shared->Prop}(p:IsPart v o)(h:Q o s):wpAny (model prog w) A (Builtin.Slice.slicePartIndex v) Q E s:=by
 cases p with
 | none=>exact slicePart_none h
 | int i t=>exact slicePart_int h
def lp{sl:Addr}{vl vu:Value}{lo hi:Option Int}{n:Nat}{Q:Int × Int × Nat->Shared->Prop}(hs:s.heap.IsSliceOf sl vl vu .none)(pl:IsPart vl lo)(pu:IsPart vu hi)
 (h:Q (((sIx n 0 lo:Nat):Int),1,sIx n n hi-sIx n 0 lo) s):wpAny (model prog w) A (Builtin.Slice.sliceApplied (.ref sl) (pure (n:Int))) Q E s:=by
 obtain⟨os,hos,hcs,hds⟩:=id hs;unfold Builtin.Slice.sliceApplied Builtin.Slice.sliceFields;refine wpAny_bind (wpAny_bind (wpAny_field hos hds (x:=vl) rfl (wpAny_bind (wpAny_field hos hds (x:=vu) rfl (wpAny_bind (wpAny_field hos hds (x:=.none) rfl (wpAny_pure ?_)))))));refine wpAny_bind (slicePart_none ?_);show wpAny _ _ (if((1:Int) == 0)=true then _ else _) _ _ s;rw[if_neg (by decide)];refine wpAny_bind (mj pl (wpAny_bind (mj pu (wpAny_bind (wpAny_pure ?_)))));show wpAny _ _ (match Builtin.Slice.sliceAdjust lo hi 1 (n:Int)with | (lo,hi)=>pure (lo,(1:Int),Builtin.Slice.slicePlaces lo hi 1)) _ _ s;rw[uF lo hi n];show wpAny _ _ (pure (((sIx n 0 lo:Nat):Int),(1:Int),Builtin.Slice.slicePlaces ((sIx n 0 lo:Nat):Int) ((sIx n n hi:Nat):Int) 1)) _ _ s;rw[uN];exact wpAny_pure h
def zb(xs:Array Value)(i k:Nat):((List.range k).filterMap fun(m:Nat)=>xs[((i:Int)+(m:Int)*1).toNat]?).toArray=((xs.toList.drop i).take k).toArray:=by
 have e:(fun(m:Nat)=>xs[((i:Int)+(m:Int)*1).toNat]?)=fun m=>xs[i+m]?:=by
  funext m
  have:((i:Int)+(m:Int)*1).toNat=i+m:=by omega
  rw[this]
 rw[e];have:=pick_run xs i k;rw[List.filterMap_map]at this;have e2:((fun x=>xs[x]?) ∘ fun x=>i+x)=fun m=>xs[i+m]?:=rfl;rw[e2]at this;rw[this]
def kJ{t sl:Addr}{items:Array Value}{vl vu:Value}{lo hi:Option Int}{Q:Value->Shared->Prop}(ht:IsTup s.heap t items)(hs:s.heap.IsSliceOf sl vl vu .none)(pl:IsPart vl lo)(pu:IsPart vu hi)
 (hw:¬ (sIx items.size 0 lo=0/\sIx items.size items.size hi=items.size))
 (h:Q (.ref s.heap.objs.size) { s with heap:=s.heap.push { cls:=.type "tuple",data:=.seq ((items.toList.drop (sIx items.size 0 lo)).take (sIx items.size items.size hi-sIx items.size 0 lo)).toArray } })
 (hsz:items.size<=sizeLine):wpAny (model prog w) A (getItem (.ref t) (.ref sl)) Q E s:=by
 have htake:sizeOk (.seq ((items.toList.drop (sIx items.size 0 lo)).take (sIx items.size items.size hi-sIx items.size 0 lo)).toArray):=by
  show((items.toList.drop (sIx items.size 0 lo)).take (sIx items.size items.size hi-sIx items.size 0 lo)).toArray.size<=sizeLine;rw[List.size_toArray,List.length_take,List.length_drop,Array.length_toList];omega
 have hj:sIx items.size items.size hi<=items.size:=EG _ _ (Nat.le_refl _) hi;obtain⟨os,hos,hcs,hds⟩:=id hs
 have hTs:s.TypeIs (.ref sl) "slice" := ⟨os,hos,hcs⟩
 unfold getItem
 try with_reducible refine wpAny_holding ?_
 first | refine wpAny_bind (wpAny_pure ?_) | skip
 refine wpAny_bind (wpAny_sequenceKey ht.typeIs (by decide) ?_)
 refine wpAny_bind (wpAny_callSpecial?_slot (name:=Str.ofString "__getitem__") ht.typeIs PyProof.Rows.slot_tuple_getitem
  (wpAny_call_entry PyProof.Rows.slot_tuple_getitem ht.typeIs entry_tuple_getitem ?_ (args_tuple_getitem _ _)))
 show wpAny _ _ (Builtin.Tuple.tupleItemsOf (.ref t) >>= _) _ _ s;refine wpAny_bind (tupleItemsOf_ ht ?_);refine wpAny_bind (wpAny_typeOf hTs ?_);rw[if_pos (by decide)];refine wpAny_bind (lp hs pl pu ?_)
 have hno:¬ ((((sIx items.size 0 lo:Nat):Int) == 0&&(1:Int) == 1&&(sIx items.size items.size hi-sIx items.size 0 lo) == items.size)=true):=by
  intro q;rw[Bool.and_eq_true,Bool.and_eq_true]at q;have q1:((sIx items.size 0 lo:Nat):Int)=0:=eq_of_beq q.1.1;have q2:sIx items.size items.size hi-sIx items.size 0 lo=items.size:=eq_of_beq q.2;exact hw ⟨by omega,by omega⟩
 show wpAny _ _ (if(((sIx items.size 0 lo:Nat):Int) == 0&&(1:Int) == 1&&(sIx items.size items.size hi-sIx items.size 0 lo) == items.size)=true then _ else _) _ _ s;rw[if_neg hno,zb]
 first
  | exact wpAny_bind (m:=Builtin.Tuple.tupleExact _) (wpAny_newObj_type (wpAny_pure ⟨_,rfl,wpAny_pure h⟩) htake)
  | exact wpAny_bind (m:=Builtin.Tuple.tupleExact _) (wpAny_newObj_type (wpAny_bind (wpAny_pure (wpAny_pure ⟨_,rfl,wpAny_pure h⟩))) htake)
  | exact wpAny_bind (wpAny_bind (m:=Builtin.Tuple.tupleExact _) (wpAny_newObj_type (wpAny_pure (wpAny_pure ⟨_,rfl,wpAny_pure h⟩)) htake))
  | exact wpAny_bind (wpAny_bind (m:=Builtin.Tuple.tupleExact _) (wpAny_newObj_type (wpAny_pure ⟨_,rfl,wpAny_pure h⟩) htake))
end
end HT
namespace L2
open PySem PySem.Spec PyProof.Rows
@[reducible]noncomputable def TO:=St->Hp->(Option Int->Hp->Prop)->Prop
abbrev PO(X:Cx)(e:Option Expr)(t:TO):Prop :=
 ∀ (pins:List (Addr × Obj)) (s:Shared) (σ:St) (H:Hp) (Q:Option Int->Hp->Prop),Inv X pins σ H s->t σ H Q ->
  wpAny (model X.prog X.w) X.A (evalPart e X.env) (fun u s'=>∃ o H',Inv X pins σ H' s'/\IsPart u o/\Q o H') X.xe s
abbrev B2:TO:=fun _ H Q=>Q none H
abbrev EZ(t:TE):TO:=fun σ H Q=>t σ H fun x H1=>∃ i,x=.int i/\Q (some i) H1
def intsAre_of{ns:List Int}:∀ {us:List Value},Vals (ns.map V.int) us->IntsAre us ns:=by
 induction ns with
 | nil=>intro us r;rw[List.map_nil]at r;cases r;exact .nil
 |cons n ns ih=>
  intro us r;rw[List.map_cons]at r
  cases r with
  |cons r1 r2=>
   obtain⟨t,e⟩:=r1;subst e;exact .cons n t (ih r2)
section
variable{X:Cx}{e:Expr}{te:TE}{lo hi:Option Expr}{tl th:TO}{pos p2:Pos}
def Br:PO X none B2:=by
 intro pins s σ H Q I h;rw[evalPart_none];exact wpAny_pure ⟨none,H,I,.none,h⟩
def Ai(h:PE X e te):PO X (some e) (EZ te):=by
 intro pins s σ H Q I hw;rw[evalPart_some];refine thn (h pins s σ H _ I hw) fun u s1 ⟨x,H1,I1,r1,q1⟩=>?_;obtain⟨i,rfl,q⟩:=q1;obtain⟨t,rfl⟩:=r1;exact⟨some i,H1,I1,.int i t,q⟩
abbrev SlR(X:Cx)(r:V->Option Int->Option Int->Hp->VK->Prop):Prop :=
 ∀ (pins:List (Addr × Obj)) (s:Shared) (σ:St) (H:Hp) (x:V) (v vl vu:Value) (lo hi:Option Int) (sl:Addr) (Q:VK),Inv X pins σ H s->RelV x v->s.heap.IsSliceOf sl vl vu .none->IsPart vl lo->IsPart vu hi->r x lo hi H Q ->
  ∃ T id,typeLookup (.type T) "__getitem__" = pure (some (.builtin id))/\s.TypeIs v T/\wpAny (model X.prog X.w) X.A (getItem v (.ref sl)) (EP X pins σ Q) X.xe s
def SlR.or{r r':V->Option Int->Option Int->Hp->VK->Prop}(h:SlR X r)(h':SlR X r'):SlR X (fun x lo hi H Q=>r x lo hi H Q\/r' x lo hi H Q):=by
 intro pins s σ H x v vl vu lo hi sl Q I rx hs pl pu q;rcases q with q | q
 ·exact h pins s σ H x v vl vu lo hi sl Q I rx hs pl pu q
 ·exact h' pins s σ H x v vl vu lo hi sl Q I rx hs pl pu q
abbrev tSl(r:V->Option Int->Option Int->Hp->VK->Prop)(te:TE)(tl th:TO):TE:=fun σ H Q=>te σ H fun x H1=>tl σ H1 fun l H2=>th σ H2 fun u H3=>r x l u H3 Q
def xB{r:V->Option Int->Option Int->Hp->VK->Prop}(hr:SlR X r)(he:PE X e te)(hl:PO X lo tl)(hu:PO X hi th):PE X (.Subscript e (.Slice lo hi none p2) pos) (tSl r te tl th):=by
 intro pins s σ H Q I h;refine Subscript_ (thn (he pins s σ H _ I h) fun v s1 ⟨x,H1,I1,r1,q1⟩=>?_);refine wpAny_Slice (thn (hl pins s1 σ H1 _ I1 q1) fun vl s2 ⟨l,H2,I2,pl,q2⟩=>thn (hu pins s2 σ H2 _ I2 q2) fun vu s3 ⟨u,H3,I3,pu,q3⟩=>?_);rw[evalPart_none];refine wpAny_pure ?_;have I4:Inv X pins σ H3 { s3 with heap:=s3.heap.push { cls:=.type "slice",data:=.fields #[vl,vu,.none] } }:=I3.kept (t':=s3.toks) fun b ob q=>Heap.get?_push_of_some _ q;obtain⟨T,id,hT,ht,hg⟩:=hr pins { s3 with heap:=s3.heap.push { cls:=.type "slice",data:=.fields #[vl,vu,.none] } } σ H3 x v vl vu l u s3.heap.objs.size Q I4 r1 (Heap.IsSliceOf.new ..) pl pu q3;show wpAny (model X.prog X.w) X.A (subscriptTail e (.Slice lo hi none p2) v (.ref s3.heap.objs.size)) (EP X pins σ Q) X.xe { s3 with heap:=s3.heap.push { cls:=.type "slice",data:=.fields #[vl,vu,.none] } };exact tail_any (ops:=[.ref s3.heap.objs.size,v]) ht hT hg (by with_unfolding_all rfl)
abbrev jz(xs:List V)(lo hi:Option Int):List V:=(xs.drop (HT.sIx xs.length 0 lo)).take (HT.sIx xs.length xs.length hi-HT.sIx xs.length 0 lo)
def kK(xs:List V)(lo hi:Option Int):(jz xs lo hi).length<=xs.length:=by
 unfold jz;rw[List.length_take,List.length_drop];omega
abbrev FR(K:PySem.W.Frag):V->Option Int->Option Int->Hp->VK->Prop:=fun x lo hi H Q=>∃ a xs,x=.ref a/\SqT K H a xs /\
 ¬ (HT.sIx xs.length 0 lo=0/\HT.sIx xs.length xs.length hi=xs.length)/\∀ p,H p=none->Q (.ref p) (upd H p (.tup (jz xs lo hi)))
def EH:SlR X (FR X.K):=by
 intro pins s σ H x v vl vu lo hi sl Q I rx hs pl pu h;obtain⟨a,xs,rfl,hx,hw,q⟩:=h;cases rx;obtain⟨its,r,ht,hz⟩:=I.tuple hx
 have hlen:its.toArray.size=xs.length:=by rw[List.size_toArray];exact r.length.symm
 refine⟨"tuple",_,PyProof.Rows.slot_tuple_getitem.lookup,ht.typeIs,?_⟩;refine HT.kJ ht hs pl pu (by rw[hlen];exact hw) ?_ (by rw[hlen];exact hz);rw[hlen];refine⟨.ref s.heap.objs.size,_,I.laid (t':=s.toks) (o:=.tup (jz xs lo hi)) (fun b ob q=>Heap.get?_push_of_some _ q) (Nat.le_refl _) ?_,rfl,q _ (I.hok.fresh (Nat.le_refl _))⟩;exact⟨Nat.le_trans (kK xs lo hi) hz,_,(r.drop (HT.sIx xs.length 0 lo)).take (HT.sIx xs.length xs.length hi-HT.sIx xs.length 0 lo),IsTup.new _ _⟩
abbrev Ft(K:PySem.W.Frag):R2:=fun x y H Q=>∃ a b xs ys,x=.ref a/\y=.ref b/\SqT K H a xs/\SqT K H b ys/\xs≠[]/\xs.length+ys.length<=sizeLine /\
 (ys=[]->Q (.ref a) H)/\(ys≠[]->∀ p,H p=none->Q (.ref p) (upd H p (.tup (xs++ys))))
def Vals.ny{xs:List V}{us:List Value}(r:Vals xs us):us=[]↔xs=[]:=by
 cases r with
 | nil=>simp
 | cons _ _=>simp
def AW:OpR X (binaryOp .Add) (Ft X.K):=by
 intro pins s σ H x y v u Q I rx ry h;obtain⟨a,b,xs,ys,rfl,rfl,ha,hb,hx,hz,q1,q2⟩:=h;cases rx;cases ry;obtain⟨its,r1,p1,_⟩:=I.tuple ha;obtain⟨its2,r2,p2,_⟩:=I.tuple hb;refine HT.AF p1 p2 (fun z=>hx (r1.ny.mp z)) (fun z=>⟨.ref a,H,I,rfl,q1 (r2.ny.mp z)⟩) (fun z=>?_) (by rw[<-r1.length,<-r2.length];exact hz);refine⟨.ref s.heap.objs.size,_,I.laid (t':=s.toks) (o:=.tup (xs++ys)) (fun b ob q=>Heap.get?_push_of_some _ q) (Nat.le_refl _) ?_,rfl,q2 (fun w=>z (r2.ny.mpr w)) _ (I.hok.fresh (Nat.le_refl _))⟩;exact⟨by rw[List.length_append];exact hz,_,r1.append r2,IsTup.new _ _⟩
end
abbrev ixN(n:Nat)(i:Int):Option Nat:=if 0<=i then(if i<n then some i.toNat else none)else if -(n:Int)<=i then some (i+n).toNat else none
abbrev atI{α:Type}(xs:List α)(i:Int):Option α:=(ixN xs.length i).bind fun j=>xs[j]?
def sV{n:Nat}{i:Int}{j:Nat}(h:ixN n i=some j):seqIndex? i n=some j/\j<n/\-(n:Int)<=i/\i<n:=by
 unfold ixN at h;by_cases h0:0<=i
 ·rw[if_pos h0]at h;by_cases h1:i<n
  ·rw[if_pos h1]at h;have e:i.toNat=j:=Option.some.inj h;exact⟨by rw[seqIndex_of h0 h1,e],by omega,by omega,h1⟩
  ·rw[if_neg h1]at h;cases h
 ·rw[if_neg h0]at h;by_cases h1:-(n:Int)<=i
  ·rw[if_pos h1]at h;have e:(i+n).toNat=j:=Option.some.inj h;exact⟨by rw[seqIndex_neg (by omega) h1,e],by omega,h1,by omega⟩
  ·rw[if_neg h1]at h;cases h
def nJ{α:Type}{xs:List α}{i:Int}{v:α}(h:atI xs i=some v):∃ j,seqIndex? i xs.length=some j/\xs[j]?=some v/\j<xs.length/\-(xs.length:Int)<=i/\i<xs.length:=by
 unfold atI at h
 cases e:ixN xs.length i with
 | none=>rw[e]at h;cases h
 |some j=>
  rw[e]at h;obtain⟨h1,h2,h3,h4⟩:=sV e;exact⟨j,h1,h,h2,h3,h4⟩
abbrev sC(b:Expr):Prop:=∀ o i,subscripted b false o i=operate [o,i] (getItem o i)
abbrev IxR(X:Cx)(r:R2):Prop :=
 ∀ (value slice:Expr) (pins:List (Addr × Obj)) (s:Shared) (σ:St) (H:Hp) (x y:V) (v u:Value) (Q:VK),Inv X pins σ H s->RelV x v->RelV y u->r x y H Q ->
  subscripted slice false v u=operate [v,u] (getItem v u)->wpAny (model X.prog X.w) X.A (subscriptTail value slice v u) (EP X pins σ Q) X.xe s
abbrev MtR(X:Cx)(id:String)(r:V->List V->Hp->VK->Prop):Prop :=
 ∀ (pins:List (Addr × Obj)) (s:Shared) (σ:St) (H:Hp) (x:V) (xs:List V) (v:Value) (us:List Value) (Q:VK),Inv X pins σ H s->RelV x v->Vals xs us->r x xs H Q ->
  wpAny (model X.prog X.w) X.A (call (.builtin id) (v::us)) (EP X pins σ Q) X.xe s
section
variable{X:Cx}{a b:Expr}{ta tb:TE}{pos:Pos}
def IxR.or{r r':R2}(h:IxR X r)(h':IxR X r'):IxR X (fun x y H Q=>r x y H Q\/r' x y H Q):=by
 intro value slice pins s σ H x y v u Q I rx ry q hs;rcases q with q | q
 ·exact h value slice pins s σ H x y v u Q I rx ry q hs
 ·exact h' value slice pins s σ H x y v u Q I rx ry q hs
def zU{r:R2}(hr:IxR X r)(ha:PE X a ta)(hb:PE X b tb)(hs:sC b):PE X (.Subscript a b pos) (tOp r ta tb):=by
 intro pins s σ H Q I h;exact Subscript_ (yX ha hb I h fun v u s2 x y H2 I2 rx ry q=>hr a b pins s2 σ H2 x y v u Q I2 rx ry q (hs _ _))
abbrev CB(K:PySem.W.Frag):R2:=fun x y H Q=>∃ p xs i v,x=.ref p/\y=.int i/\SqL K H p xs/\atI xs i=some v/\Q v H
abbrev DV(K:PySem.W.Frag):R2:=fun x y H Q=>∃ p xs i v,x=.ref p/\y=.int i/\SqT K H p xs/\atI xs i=some v/\Q v H
abbrev Ei:R2:=fun x y H Q=>∃ z i c,x=.str z/\y=.int i/\z.length<=sizeLine/\atI z.cps.toList i=some c/\Q (.str ⟨#[c]⟩) H
def Bs:IxR X (CB X.K):=by
 intro value slice pins s σ H x y v u Q I rx ry h hs;obtain⟨p,xs,i,z,rfl,rfl,hq,he,q⟩:=h;cases rx;obtain⟨t,rfl⟩:=ry;obtain⟨its,r,pl,hz⟩:=I.list hq;obtain⟨j,h1,h2,h3,h4,h5⟩:=nJ he;obtain⟨w,ew,rw'⟩:=r.get h2;have hl:=r.length;have hn:=i7
 have fin:EP X pins σ Q w s:=⟨z,H,I,rw',q⟩
 by_cases h0:0<=i
 ·have hj:i.toNat=j:=by
   rw[seqIndex_of h0 h5]at h1;exact Option.some.inj h1
  exact item_listR pl.isList h0 (by omega) (by rw[hj];simpa using ew) fin hs
 ·have hj:(i+(its.toArray.size:Int)).toNat=j:=by
   rw[seqIndex_neg (by omega) h4]at h1;rw[List.size_toArray,<-hl];exact Option.some.inj h1
  exact subscriptTail_builtinR (x:=w) pl.isList.typeIs slot_list_getitem.lookup
   (wpAny_getItem_list_neg (Q:=fun r s'=>r=w/\EP X pins σ Q r s') pl.isList (by omega) (by rw[List.size_toArray]<;>omega) (by omega) (by rw[hj];simpa using ew) ⟨rfl,fin⟩) hs
def dh:IxR X (DV X.K):=by
 intro value slice pins s σ H x y v u Q I rx ry h hs;obtain⟨p,xs,i,z,rfl,rfl,hq,he,q⟩:=h;cases rx;obtain⟨t,rfl⟩:=ry;obtain⟨its,r,pl,hz⟩:=I.tuple hq;obtain⟨j,h1,h2,h3,h4,h5⟩:=nJ he;obtain⟨w,ew,rw'⟩:=r.get h2;have hl:=r.length;have hn:=i7
 have fin:EP X pins σ Q w s:=⟨z,H,I,rw',q⟩
 exact subscriptTail_builtinR (x:=w) pl.typeIs slot_tuple_getitem.lookup
  (getItem_tuple (j:=j) (Q:=fun r s'=>r=w/\EP X pins σ Q r s') pl (by omega) (by omega) (by rw[List.size_toArray,<-hl];exact h1) (by simpa using ew) ⟨rfl,fin⟩) hs
def BG:IxR X Ei:=by
 intro value slice pins s σ H x y v u Q I rx ry h hs;obtain⟨z,i,c,rfl,rfl,hz,he,q⟩:=h;obtain⟨t,rfl⟩:=rx;obtain⟨t',rfl⟩:=ry;obtain⟨j,h1,h2,h3,h4,h5⟩:=nJ he
 have hl:z.cps.toList.length=z.length:=by simp[Str.length]
 rw[hl]at h1 h4 h5;have hn:=i7
 exact tail_any (typeIs_str s z t) slot_str_getitem.lookup (getItem_str (c:=c) (by
  have e1:decide (i < -(2 ^ 63:Int))=false:=decide_eq_false (by omega);have e2:decide (i≥2 ^ 63)=false:=decide_eq_false (by omega)
  rw[e1,e2,Bool.or_false]) (by rw[h1];simpa using h2) ⟨.str ⟨#[c]⟩,H,I.tok _,⟨_,rfl⟩,q⟩) hs
abbrev rIx(K:PySem.W.Frag):R2:=fun x y H Q=>CB K x y H Q\/DV K x y H Q\/Ei x y H Q
def uX:IxR X (rIx X.K):=Bs.or (dh.or BG)
def uw(its:List Value)(n j:Nat)(u:Value):Obj.mapSeq (·.setIfInBounds j u) { cls:=.type "list",data:=.seq its.toArray n }={ cls:=.type "list",data:=.seq (its.set j u).toArray n }:=by
 simp[Obj.mapSeq]
def Inv.lst{pins:List (Addr × Obj)}{σ:St}{H:Hp}{s:Shared}{p:Addr}{xs:List V}(I:Inv X pins σ H s)(h:H p=some (.lst xs)) :
  ∃ (its:List Value) (n:Nat),Vals xs its/\s.heap.get? p=some { cls:=.type "list",data:=.seq its.toArray n }/\xs.length<=sizeLine:=by
 obtain⟨z,its,n,r,e⟩:=I.hok p _ h;exact⟨its,n,r,e,z⟩
def Inv.BF{pins:List (Addr × Obj)}{σ:St}{H:Hp}{s:Shared}{p:Addr}{xs ys:List V}{its its':List Value}{n n':Nat}{f:Obj->Obj}(I:Inv X pins σ H s)(h:H p=some (.lst xs))
 (ho:s.heap.get? p=some { cls:=.type "list",data:=.seq its.toArray n })(hf:f { cls:=.type "list",data:=.seq its.toArray n }={ cls:=.type "list",data:=.seq its'.toArray n' })(r:Vals ys its')(hz:ys.length<=sizeLine)(t:Nat) :
  Inv X pins σ (upd H p (.lst ys)) { s with heap:=s.heap.update p f,toks:=t }:=by
 have e:(s.heap.update p f).get? p=some { cls:=.type "list",data:=.seq its'.toArray n' }:=by
  rw[Heap.get?_update_self f ho (by rw[hf]<;>rfl),hf]
 refine I.write (x:=p) (e:=p) (by rw[h];trivial) (.inl rfl) (fun b u hb q=>(Heap.get?_update_other _ _ (Ne.symm hb)).trans q) ⟨_,e⟩ ?_;exact⟨hz,its',n',r,e⟩
abbrev tN:V->V->V->Hp->(Hp->Prop)->Prop:=fun o i v H Q=>∃ p xs k j,o=.ref p/\i=.int k/\H p=some (.lst xs)/\ixN xs.length k=some j/\Q (upd H p (.lst (xs.set j v)))
def set_list:DT X tN:=by
 intro pins s σ H o i v ov iv u Q I ro ri rv h;obtain⟨p,xs,k,j,rfl,rfl,hp,hj,q⟩:=h;cases ro;obtain⟨t,rfl⟩:=ri;obtain⟨its,n,r,ho,hz⟩:=I.lst hp;obtain⟨h1,h2,h3,h4⟩:=sV hj;have hl:=r.length;have hn:=i7
 have I':Inv X pins σ (upd H p (.lst (xs.set j v))) { s with heap:=s.heap.update p (Obj.mapSeq (·.setIfInBounds j u)) } :=
  I.BF hp ho (uw its n j u) (r.set rv j) (by rw[List.length_set];exact hz) s.toks
 by_cases h0:0<=k
 ·have hk:k.toNat=j:=by
   rw[seqIndex_of h0 h4]at h1;exact Option.some.inj h1
  exact PySem.W.ki_setAt ho h0 (by omega) (by rw[List.size_toArray,<-hl];exact h4) (by rw[hk];exact⟨_,I',q⟩)
 ·have hk:(k+(its.toArray.size:Int)).toNat=j:=by
   rw[seqIndex_neg (by omega) h3]at h1;rw[List.size_toArray,<-hl];exact Option.some.inj h1
  exact PySem.W.ki_setBack ho (by omega) (by rw[List.size_toArray,<-hl];exact h3) (by omega) (by rw[hk];exact⟨_,I',q⟩)
def pT(lo hi:Option Int)(n:Nat):(sliceBounds lo hi none n).1=((HT.sIx n 0 lo:Nat):Int)/\(sliceBounds lo hi none n).2.1=((HT.sIx n n hi:Nat):Int)/\(sliceBounds lo hi none n).2.2=1:=by
 refine⟨?_,?_,rfl⟩
 ·cases lo with
  | none=>simp[sliceBounds,HT.sIx]
  |some i=>
   simp only[sliceBounds,HT.sIx,Option.getD_none,show(1:Int) > 0 by decide,if_true];by_cases h:i<0
   ·simp only[h,if_true]<;>omega
   ·simp only[h,if_false]<;>omega
 ·cases hi with
  | none=>simp[sliceBounds,HT.sIx]
  |some i=>
   simp only[sliceBounds,HT.sIx,Option.getD_none,show(1:Int) > 0 by decide,if_true];by_cases h:i<0
   ·simp only[h,if_true]<;>omega
   ·simp only[h,if_false]<;>omega
def oP(its:List Value)(lo hi:Option Int):slicePick its.toArray lo hi none=((its.drop (HT.sIx its.length 0 lo)).take (HT.sIx its.length its.length hi-HT.sIx its.length 0 lo)).toArray:=by
 obtain⟨h1,h2,h3⟩:=pT lo hi its.toArray.size;unfold slicePick;rw[h1,h2,h3];simp only[sliceRange_one,pick_run,List.size_toArray]<;>rfl
abbrev Gm(K:PySem.W.Frag):V->Option Int->Option Int->Hp->VK->Prop:=fun x lo hi H Q=>∃ a xs,x=.ref a/\SqL K H a xs/\∀ p,H p=none->Q (.ref p) (upd H p (.lst (jz xs lo hi)))
def A7:SlR X (Gm X.K):=by
 intro pins s σ H x v vl vu lo hi sl Q I rx hs pl pu h;obtain⟨a,xs,rfl,hx,q⟩:=h;cases rx;obtain⟨its,r,ht,hz⟩:=I.list hx;have hlen:=r.length;refine⟨"list",_,slot_list_getitem.lookup,ht.isList.typeIs,?_⟩;refine wpAny_getItem_list_slice ht.isList hs pl pu .none (by simp) ?_ (by rw[List.size_toArray]<;>omega);rw[oP,<-hlen];refine⟨.ref s.heap.objs.size,_,I.laid (t':=s.toks) (o:=.lst (jz xs lo hi)) (fun b ob q=>Heap.get?_push_of_some _ q) (Nat.le_refl _) ?_,rfl,q _ (I.hok.fresh (Nat.le_refl _))⟩;exact⟨Nat.le_trans (kK xs lo hi) hz,_,0,(r.drop (HT.sIx xs.length 0 lo)).take (HT.sIx xs.length xs.length hi-HT.sIx xs.length 0 lo),Heap.get?_push_size _ rfl⟩
def bI.or{f:Value}{r r':List V->Hp->VK->Prop}(h:bI X f r)(h':bI X f r'):bI X f (fun xs H Q=>r xs H Q\/r' xs H Q):=by
 intro pins s σ H xs us Q I rs q;rcases q with q | q
 ·exact h pins s σ H xs us Q I rs q
 ·exact h' pins s σ H xs us Q I rs q
def qd:bI X (.type "list") (fun xs H Q=>∃ p ys,xs=[.ref p]/\(SqL X.K H p ys\/SqT X.K H p ys)/\∀ l,H l=none->Q (.ref l) (upd H l (.lst ys))):=by
 intro pins s σ H xs us Q I r h;obtain⟨p,ys,rfl,hq,q⟩:=h;obtain⟨u,rfl,rx⟩:=vals1 r;cases rx
 have fin:∀ (its:List Value),Vals ys its->ys.length<=sizeLine->∀ (h':Heap) (c':Nat),(∀ b o',s.heap.get? b=some o'->h'.get? b=some o') ->
   h'.get? s.heap.objs.size=some { cls:=.type "list",dict:=none,data:=.seq its.toArray c',slots:=#[] }->EP X pins σ Q (.ref s.heap.objs.size) { s with heap:=h' }:=fun its r' hz h' c' kp e =>
  ⟨.ref s.heap.objs.size,_,I.laid (t':=s.toks) kp (Nat.le_refl _) (show bu X.prog X.w _ h' _ (.lst ys)from⟨hz,its,c',r',e⟩),rfl,q _ (I.hok.fresh (Nat.le_refl _))⟩
 rcases hq with hq | hq
 ·obtain⟨its,r',pl,hz⟩:=I.list hq;have hlen:=r'.length;obtain⟨o,ho,hc,n,hd⟩:=pl.isList;exact call_list_seq p (.inl rfl) ho hc hd (fun h' c' kp e=>fin its r' hz h' c' kp e) (by simp only[List.size_toArray]<;>omega)
 ·obtain⟨its,r',pl,hz⟩:=I.tuple hq;have hlen:=r'.length;obtain⟨o,ho,hc,n,hd⟩:=pl;exact call_list_seq p (.inr rfl) ho hc hd (fun h' c' kp e=>fin its r' hz h' c' kp e) (by simp only[List.size_toArray]<;>omega)
def oI:bI X (.type "tuple") (fun xs H Q=>∃ p ys,xs=[.ref p]/\((SqL X.K H p ys/\∀ l,H l=none->Q (.ref l) (upd H l (.tup ys)))\/(SqT X.K H p ys/\Q (.ref p) H))):=by
 intro pins s σ H xs us Q I r h;obtain⟨p,ys,rfl,h⟩:=h;obtain⟨u,rfl,rx⟩:=vals1 r;cases rx
 rcases h with⟨hq,q⟩ | ⟨hq,q⟩
 ·obtain⟨its,r',pl,hz⟩:=I.list hq;have hlen:=r'.length;refine call_tuple_list pl.isList (fun h' kp=>?_) (by simp only[List.size_toArray]<;>omega);have I1:Inv X pins σ H { s with heap:=h' }:=I.kept (t':=s.toks) kp
  have I2:Inv X pins σ (upd H h'.objs.size (.tup ys)) { s with heap:=h'.push { cls:=.type "tuple",data:=.seq its.toArray } } :=
   I1.laid (t':=s.toks) (fun b o e=>Heap.get?_push_of_some _ e) (Nat.le_refl _) (show bu X.prog X.w _ _ _ (.tup ys)from⟨hz,its,r',IsTup.new _ _⟩)
  exact⟨.ref h'.objs.size,_,I2,rfl,q _ (I1.hok.fresh (Nat.le_refl _))⟩
 ·obtain⟨its,r',pl,hz⟩:=I.tuple hq;exact call_tuple_same pl ⟨.ref p,H,I,rfl,q⟩
abbrev tyV(K:PySem.W.Frag)(T:String)(x:V)(H:Hp):Prop:=match x with
 | .str _=>T = "str"
 | .int _=>T = "int"
 | .ref p=>(T = "list" /\ ∃ xs,SqL K H p xs)\/(T = "tuple" /\ ∃ o,K.lookup p=some o/\o.cls=.type "tuple" /\ o.dict=none) \/
   (T = "dict" /\ ((∃ kvs,H p=some (.dK kvs))\/∃ kvs,H p=some (.dT kvs)))\/(T = "set" /\ ∃ S n,H p=some (.set S n))
 | _=>False
def wu{pins:List (Addr × Obj)}{σ:St}{H:Hp}{s:Shared}{T:String}{x:V}{v:Value}(I:Inv X pins σ H s)(r:RelV x v)(ty:tyV X.K T x H) :
  s.TypeIs v T/\∀ a,v=.ref a->∃ ob,s.heap.get? a=some ob/\ob.dict=none:=by
 cases x with
 |str z=>
  obtain⟨t,rfl⟩:=r;cases(show T = "str" from ty);exact⟨typeIs_str s z t,fun _ e=>nomatch e⟩
 |int i=>
  obtain⟨t,rfl⟩:=r;cases(show T = "int" from ty);exact⟨typeIs_int s i t,fun _ e=>nomatch e⟩
 |ref p=>
  cases r
  rcases ty with⟨rfl,xs,hq⟩ | ⟨rfl,o,hk,hc,hd⟩ | ⟨rfl,hk⟩ | ⟨rfl,S,n,hk⟩
  ·obtain⟨its,_,pl,_⟩:=I.list hq;refine⟨pl.isList.typeIs,fun a e=>?_⟩;cases e;obtain⟨o,n,e,c,hd,_⟩:=pl;exact⟨o,e,hd⟩
  ·refine⟨⟨o,I.kIn p o hk,hc⟩,fun a e=>?_⟩;cases e;exact⟨o,I.kIn _ o hk,hd⟩
  ·have z:∃ o,s.heap.get? p=some o/\o.ExactDict:=by
    rcases hk with⟨kvs,hk⟩ | ⟨kvs,hk⟩
    ·obtain⟨_,_,_,_,o,_,_,e,ex,_⟩:=I.hok p _ hk;exact⟨o,e,ex⟩
    ·obtain⟨_,_,_,_,o,_,_,e,ex,_⟩:=I.hok p _ hk;exact⟨o,e,ex⟩
   obtain⟨o,e,ex⟩:=z;refine⟨⟨o,e,ex.1⟩,fun a e2=>?_⟩;cases e2;exact⟨o,e,ex.2.1⟩
  ·obtain⟨o,_,_,_,e,ex,_⟩:=I.hok p _ hk;refine⟨⟨o,e,ex.1⟩,fun a e2=>?_⟩;cases e2;exact⟨o,e,ex.2.1⟩
 | _=>exact False.elim ty
abbrev y8(K:PySem.W.Frag)(T:String)(r:V->List V->Hp->VK->Prop)(to:TE):TE:=fun σ H Q=>to σ H fun x H1=>tyV K T x H1/\r x [] H1 Q
abbrev tBM(K:PySem.W.Frag)(T:String)(r:V->List V->Hp->VK->Prop)(to:TE)(t:TA):TE:=fun σ H Q=>to σ H fun x H1=>tyV K T x H1/\t σ H1 fun xs H2=>r x xs H2 Q
variable{o e:Expr}{es:List Expr}{to:TE}{t:TA}{name:Str}{apos cpos:Pos}{T id:String}{r:V->List V->Hp->VK->Prop}
def wt(pa:PlainAttrs T)(slot:Slot T name id)(hty:typeOf (.builtin id)=pure (.type "method_descriptor"))(hm:MtR X id r)(ho:PE X o to)
 (hbase:attributeBase o name X.env (eval o X.env)=eval o X.env:=by rfl)(hline:(apos.endLine == cpos.line)=true:=by rfl):PE X (.Call (.Attribute o name apos) [] [] cpos) (y8 X.K T r to):=by
 intro pins s σ H Q I h;refine wpAny_Call_method0_late hbase hline (thn (ho pins s σ H _ I h) fun v s1 ⟨x,H1,I1,r1,ty,q1⟩=>?_);obtain⟨h1,h2⟩:=wu I1 r1 ty;exact⟨T,id,pa,slot,hty,h1,h2,Calls.callWith_builtin rfl (PySem.evalArgs_none (hm pins s1 σ H1 x [] v [] Q I1 r1 .nil q1))⟩
def zP(pa:PlainAttrs T)(slot:Slot T name id)(hty:typeOf (.builtin id)=pure (.type "method_descriptor"))(hm:MtR X id r)(ho:PE X o to)(ha:PA X (e::es) t)
 (hbase:attributeBase o name X.env (eval o X.env)=eval o X.env:=by rfl)
 (hfew:((backTo cpos (starEach (e::es) X.env)).all (fun x=>!x.1)&&(backToKw cpos (keywordEach [] X.env)).all (fun x=>x.1.isSome)
   && decide ((e::es).length+([]:List Keyword).length+(if([]:List Keyword).isEmpty then 0 else 1)<30))=true:=by rfl)
 (hline:(apos.endLine == cpos.line)=true:=by rfl)(hs:starEach (e::es) X.env=(false,eval e X.env)::starEach es X.env:=by rfl)(hplain:(backTo cpos (starEach es X.env)).any (·.1)=false:=by rfl) :
  PE X (.Call (.Attribute o name apos) (e::es) [] cpos) (tBM X.K T r to t):=by
 intro pins s σ H Q I h;refine wpAny_Call_method_late hbase hfew hline rfl (thn (ho pins s σ H _ I h) fun v s1 ⟨x,H1,I1,r1,ty,q1⟩=>?_);obtain⟨h1,h2⟩:=wu I1 r1 ty;refine⟨T,id,pa,slot,hty,h1,h2,?_⟩;have hA:=ha cpos pins s1 σ H1 _ I1 q1;rw[hs]at hA ⊢;refine Calls.callWith_builtin (by show(false || (backTo cpos (starEach es X.env)).any (·.1))=false;rw[hplain]<;>rfl) (Calls.evalArgs_plain ?_);exact thn hA fun us s2 ⟨vs,H2,I2,r2,q2⟩=>hm pins s2 σ H2 x vs v us Q I2 r1 r2 q2
end
abbrev MtM(X:Cx)(id:String)(r:V->List V->Hp->VK->Prop):Prop :=
 ∀ (pins:List (Addr × Obj)) (s:Shared) (σ:St) (H:Hp) (x:V) (xs:List V) (v:Value) (us:List Value) (Q:VK),Inv X pins σ H s->RelV x v->Vals xs us->r x xs H Q ->
  wpAny (model X.prog X.w) X.A (call (.builtin id) (v::us)) (EP X pins σ Q) X.xe s
def Vals.one:∀ {x:V} {us:List Value},Vals [x] us->∃ u,us=[u]/\RelV x u
 | _,_,.cons r .nil=>⟨_,rfl,r⟩
def Vals.zero:∀ {us:List Value},Vals [] us->us=[]
 | _,.nil=>rfl
def Vals.dropLast{xs:List V}{us:List Value}(h:Vals xs us):Vals xs.dropLast us.dropLast:=by
 induction h with
 | nil=>exact .nil
 |cons r t ih=>
  cases t with
  | nil=>exact .nil
  | cons q t'=>exact .cons r ih
def Vals.rep{xs:List V}{us:List Value}(h:Vals xs us):∀ k:Nat,Vals (List.replicate k xs).flatten (List.replicate k us).flatten
 | 0=>.nil
 | k+1=>by
  rw[List.replicate_succ,List.replicate_succ,List.flatten_cons,List.flatten_cons];exact Vals.append h (Vals.rep h k)
def tR{α:Type}(l:List α):l.eraseIdx (l.length-1)=l.dropLast:=by
 induction l with
 | nil=>rfl
 |cons a r ih=>
  cases r with
  | nil=>rfl
  |cons b r=>
   have e:(a::b::r).length-1=((b::r).length-1)+1:=by
    have h1:(a::b::r).length=r.length+2:=rfl;have h2:(b::r).length=r.length+1:=rfl;omega
   rw[e,List.eraseIdx_cons_succ,ih]
   all_goals rfl
def foldl_rep(its:List Value):∀ (k:Nat) (acc:List Value),
  List.foldl (fun x1 x2=>x1++x2) acc.toArray (List.replicate k its.toArray)=(acc++(List.replicate k its).flatten).toArray
 | 0,acc=>by simp
 | k+1,acc=>by
  have e:acc.toArray++its.toArray=(acc++its).toArray:=by simp
  have e2:(acc++its)++(List.replicate k its).flatten=acc++(List.replicate (k+1) its).flatten:=by
   rw[List.replicate_succ,List.flatten_cons,List.append_assoc]
  rw[<-e2,<-foldl_rep its k (acc++its),<-e,List.replicate_succ,List.foldl_cons]
section
variable{X:Cx}{pins:List (Addr × Obj)}{σ:St}{H:Hp}{s:Shared}{l b:Addr}{xs ys zs:List V}
def Inv.Eg{its its':List Value}{n:Nat}{f:Array Value->Array Value}{t':Nat}(I:Inv X pins σ H s)(hH:H l=some (.lst xs))
 (e:s.heap.get? l=some { cls:=.type "list",data:=.seq its.toArray n })(hf:f its.toArray=its'.toArray)(hv:Vals ys its')(hz:ys.length<=sizeLine) :
  Inv X pins σ (upd H l (.lst ys)) { s with heap:=s.heap.update l (Obj.mapSeq f),toks:=t' }:=by
 have q:=PySem.IsL.update e f;rw[hf]at q;refine I.write (x:=l) (e:=l) (by rw[hH];exact trivial) (.inl rfl) (fun b' u hb hu=>(Heap.get?_update_other s.heap (Obj.mapSeq f) (Ne.symm hb)).trans hu) ⟨_,q⟩ ?_;exact⟨hz,its',_,hv,q⟩
def Inv.E3{its:List Value}{t':Nat}(I:Inv X pins σ H s)(hv:Vals ys its)(hz:ys.length<=sizeLine) :
  Inv X pins σ (upd H s.heap.objs.size (.lst ys)) { s with heap:=s.heap.push { cls:=.type "list",data:=.seq its.toArray },toks:=t' } :=
 I.laid (fun _ _ q=>Heap.get?_push_of_some _ q) (Nat.le_refl _) ⟨hz,its,0,hv,Heap.get?_push_size _ rfl⟩
def Inv.fresh(I:Inv X pins σ H s):H s.heap.objs.size=none:=I.hok.fresh (Nat.le_refl _)
def Inv.rA(I:Inv X pins σ H s)(hH:H l=some (.lst xs)):xs.length<=sizeLine/\∃ (its:List Value) (n:Nat),Vals xs its/\xs.length=its.length/\s.heap.get? l=some { cls:=.type "list",data:=.seq its.toArray n }:=by
 obtain⟨z,its,n,r,e⟩:=I.hok l _ hH;exact⟨z,its,n,r,r.length,e⟩
def zf{n:Nat}(h:n<=sizeLine):Builtin.List.listTooLong n=false:=by
 unfold Builtin.List.listTooLong;exact decide_eq_false (by omega)
end
section
variable{X:Cx}
abbrev sk:V->List V->Hp->VK->Prop:=fun x vs H Q=>∃ l xs y,x=.ref l/\vs=[y]/\H l=some (.lst xs)/\xs.length<sizeLine/\Q .non (upd H l (.lst (xs++[y])))
def ou:MtM X "list.append" sk:=by
 intro pins s σ H x vs v us Q I rx rv h;obtain⟨l,xs,y,rfl,rfl,hH,hz,q⟩:=h;cases rx;obtain⟨u,rfl,ru⟩:=rv.one;obtain⟨z,its,n,r,hl,e⟩:=I.rA hH;refine call_meets F.slot_list_append ⟨_,e,rfl⟩ F.entry_list_append (F.args_list_append_2 _ _) (PySem.list_append l its.toArray n u (by rw[List.size_toArray];omega)) ⟨e,?_⟩;refine⟨.non,_,I.Eg (its':=its++[u]) hH e (by simp) (r.append (.cons ru .nil)) ?_,rfl,q⟩;rw[List.length_append,List.length_singleton];omega
abbrev yN:V->List V->Hp->VK->Prop:=fun x vs H Q=>∃ l xs y,x=.ref l/\vs=[]/\H l=some (.lst xs)/\xs[xs.length-1]?=some y/\Q y (upd H l (.lst xs.dropLast))
def vp:MtM X "list.pop" yN:=by
 intro pins s σ H x vs v us Q I rx rv h;obtain⟨l,xs,y,rfl,rfl,hH,hy,q⟩:=h;cases rx;have hus:=rv.zero;subst hus;obtain⟨z,its,n,r,hl,e⟩:=I.rA hH;obtain⟨u,hu,ru⟩:=r.get hy
 have hy':its.toArray[its.toArray.size-1]?=some u:=by
  show its.toArray[its.length-1]?=some u;rw[<-Array.getElem?_toList,<-hl];exact hu
 refine call_meets F.slot_list_pop ⟨_,e,rfl⟩ F.entry_list_pop (F.args_list_pop_1 _) (MeetsSeq.list_pop_last l its.toArray n u hy' (by rw[List.size_toArray];omega)) ⟨e,?_⟩;refine⟨y,_,I.Eg (its':=its.dropLast) hH e ?_ r.dropLast ?_,ru,q⟩
 ·show its.toArray.eraseIdxIfInBounds (its.toArray.size-1)=its.dropLast.toArray;rw[List.size_toArray,List.eraseIdxIfInBounds_toArray,tR]
 ·rw[List.length_dropLast];omega
abbrev G5:R2:=fun x y H Q=>∃ l b xs zs,x=.ref l/\y=.ref b/\H l=some (.lst xs)/\H b=some (.lst zs)/\xs.length+zs.length<=sizeLine/\∀ p,H p=none->Q (.ref p) (upd H p (.lst (xs++zs)))
def Ej:OpR X (binaryOp .Add) G5:=by
 intro pins s σ H x y v u Q I rx ry h;obtain⟨l,b,xs,zs,rfl,rfl,hH,hB,hz,q⟩:=h;cases rx;cases ry;obtain⟨z,its,n,r,hl,e⟩:=I.rA hH;obtain⟨z2,its2,n2,r2,hl2,e2⟩:=I.rA hB;refine PySem.P.add_list e e2 ?_ (by rw[List.size_toArray,List.size_toArray];omega)
 have ea:its.toArray++its2.toArray=(its++its2).toArray:=by simp
 rw[ea];exact⟨.ref _,_,I.E3 (t':=s.toks) (r.append r2) (by rw[List.length_append];omega),rfl,q _ I.fresh⟩
abbrev G9:R2:=fun x y H Q=>∃ l k xs,x=.ref l/\y=.int k/\H l=some (.lst xs)/\-(2 ^ 63)<=k/\k<2 ^ 63/\xs.length*k.toNat<=sizeLine /\
 ∀ p,H p=none->Q (.ref p) (upd H p (.lst (List.replicate k.toNat xs).flatten))
def len_rep{α:Type}(xs:List α)(k:Nat):(List.replicate k xs).flatten.length=k*xs.length:=by
 induction k with
 | zero=>simp
 | succ k ih=>rw[List.replicate_succ,List.flatten_cons,List.length_append,ih,Nat.succ_mul,Nat.add_comm]
def Df:OpR X (binaryOp .Mult) G9:=by
 intro pins s σ H x y v u Q I rx ry h;obtain⟨l,k,xs,rfl,rfl,hH,h1,h2,hz,q⟩:=h;cases rx;obtain⟨t,rfl⟩:=ry;obtain⟨z,its,n,r,hl,e⟩:=I.rA hH
 have hlen:its.toArray.size*k.toNat<=sizeLine:=by rw[List.size_toArray,<-hl];exact hz
 have hcap:¬ its.toArray.size*k.toNat > (2 ^ 63-1) / 8:=by
  have:(sizeLine:Nat)<=(2 ^ 63-1) / 8:=by decide
  omega
 have hfit:¬ (!Builtin.List.listFitsIndex k)=true:=by
  rw[fitsIndex_both h1 h2];exact Bool.false_ne_true
 have hlong:¬ Builtin.List.listTooLong (its.toArray.size*k.toNat)=true:=by
  rw[zf hlen];exact Bool.false_ne_true
 have hnew:List.foldl (fun x1 x2=>x1++x2) #[] (List.replicate (if its.toArray.isEmpty=true then 0 else k.toNat) its.toArray)=(List.replicate k.toNat its).flatten.toArray:=by
  have f0:∀ m:Nat,List.foldl (fun x1 x2=>x1++x2) #[] (List.replicate m its.toArray)=(List.replicate m its).flatten.toArray:=fun m=>by
   have:=foldl_rep its m [];rw[List.nil_append]at this;exact this
  rw[f0]
  cases its with
  | nil=>simp
  | cons a r'=>rw[if_neg (by simp)]
 refine wpAny_binaryOp_repeat_ref (T := "list") (U := "int") (by decide) ⟨_,e,rfl⟩ (fun s'=>typeIs_int s' k t) noFill_list_mul F.fills_int_mul F.slot_int_rmul repeat_list F.slot_int_index.lookup
  (call_meets F.slot_int_rmul (typeIs_int s k t) F.entry_int_rmul (F.args_int_rmul_2 _ _) (int___rmul___int_list k t l its.toArray n)
   ⟨e,rfl,⟨_,e,rfl⟩,call_meets F.slot_list_mul ⟨_,e,rfl⟩ F.entry_list_mul (F.args_list_mul_2 _ _) (AutoListH.list___mul___list_int_3 l its.toArray n k t hfit hcap hlong) ⟨e,?_⟩⟩)
 rw[hnew];exact⟨.ref _,_,I.E3 (t':=s.toks) (r.rep k.toNat) (by rw[len_rep,Nat.mul_comm];exact hz),rfl,q _ I.fresh⟩
end
section
variable{prog:Program}{w:World}{A:Around}{E:Value->Shared->Prop}{s:Shared}
set_option maxRecDepth 100000 in
end
section
variable{X:Cx}
end
section
variable{κ:Type} [DecidableEq κ]
abbrev eL(kvs:List (κ × V))(k:κ):Option V:=(kvs.find? fun kv=>decide (kv.1=k)).map (·.2)
abbrev putK(kvs:List (κ × V))(k:κ)(v:V):List (κ × V) :=
 if(kvs.any fun kv=>decide (kv.1=k))=true then kvs.map (fun kv=>if kv.1=k then(kv.1,v)else kv)else kvs++[(k,v)]
def iN{p:κ × V}{r:List (κ × V)}{k:κ}(e:p.1=k):eL (p::r) k=some p.2:=by simp[eL,List.find?_cons,e]
def jq{p:κ × V}{r:List (κ × V)}{k:κ}(e:¬ p.1=k):eL (p::r) k=eL r k:=by simp[eL,List.find?_cons,e]
def qv(k:κ):∀ kvs:List (κ × V),(kvs.any fun kv=>decide (kv.1=k))=(eL kvs k).isSome
 | []=>rfl
 | p::r=>by
  rw[List.any_cons];by_cases e:p.1=k
  ·simp only[iN e,decide_eq_true e,Bool.true_or,Option.isSome_some]
  ·rw[jq e,decide_eq_false e,Bool.false_or];exact qv k r
def kP(kvs:List (κ × V))(k:κ)(v:V):(putK kvs k v).length<=kvs.length+1:=by
 unfold putK;split
 ·rw[List.length_map];omega
 ·rw[List.length_append,List.length_cons,List.length_nil];omega
def gG.fI{o:Option V}{u:Option Value}(r:gG o u):o.isSome=u.isSome:=by
 cases o with
 | none=>cases u with
  | none=>rfl
  | some _=>exact(show False from r).elim
 | some _=>cases u with
  | none=>exact(show False from r).elim
  | some _=>rfl
def KV.val{kvs:List (κ × V)}{vs:List (κ × Value)}(r:KV kvs vs)(k:κ):gG (eL kvs k) (valueAt vs k):=by
 unfold KV at r
 induction r with
 | nil=>exact True.intro
 |@cons p q ps qs h t ih=>
  obtain⟨h1,h2⟩:=h;by_cases e:p.1=k
  ·have e':q.1=k:=h1.symm.trans e
   have b:valueAt (q::qs) k=some q.2:=by simp[valueAt,List.find?_cons,e']
   rw[iN e,b];exact h2
  ·have e':¬ q.1=k:=fun z=>e (h1.trans z)
   have b:valueAt (q::qs) k=valueAt qs k:=by simp[valueAt,List.find?_cons,e']
   rw[jq e,b];exact ih
def KV.any{kvs:List (κ × V)}{vs:List (κ × Value)}(r:KV kvs vs)(k:κ):(kvs.any fun kv=>decide (kv.1=k))=vs.any fun kv=>decide (kv.1=k):=by
 unfold KV at r
 induction r with
 | nil=>rfl
 | cons h t ih=>rw[List.any_cons,List.any_cons,ih,h.1]
def KV.yY{kvs:List (κ × V)}{vs:List (κ × Value)}(r:KV kvs vs)(k:κ){y:V}{u:Value}(ry:RelV y u) :
  KV (kvs.map fun kv=>if kv.1=k then(kv.1,y)else kv) (vs.map fun kv=>if kv.1=k then(kv.1,u)else kv):=by
 unfold KV at r ⊢
 induction r with
 | nil=>exact .nil
 |@cons p q ps qs h t ih=>
  rw[List.map_cons,List.map_cons];refine .cons ?_ ih;obtain⟨h1,h2⟩:=h;by_cases e:p.1=k
  ·rw[if_pos e,if_pos (h1.symm.trans e)];exact⟨h1,ry⟩
  ·rw[if_neg e,if_neg (fun z=>e (h1.trans z))];exact⟨h1,h2⟩
def KV.put{kvs:List (κ × V)}{vs:List (κ × Value)}(r:KV kvs vs)(k:κ){y:V}{u:Value}(ry:RelV y u):KV (putK kvs k y) (stored vs k u):=by
 unfold putK stored;rw[r.any k];by_cases e:(vs.any fun kv=>decide (kv.1=k))=true
 ·rw[if_pos e,if_pos e];exact r.yY k ry
 ·rw[if_neg e,if_neg e];exact Paired.snoc r ⟨rfl,ry⟩
def KV.length{kvs:List (κ × V)}{vs:List (κ × Value)}(r:KV kvs vs):kvs.length=vs.length:=Paired.length r
end
def m9{P:Program}{w:World}{k:Key}{u:Value}(r:RelV (kV k) u):(cb P w).is k u=true:=by
 cases k with
 | inl i=>obtain⟨t,e⟩:=(show ∃ t,u=Value.int i t from r);subst e;exact rZ P w i t
 | inr x=>obtain⟨t,e⟩:=(show ∃ t,u=Value.str x t from r);subst e;exact se P w x t
def nZ{P:Program}{w:World}:∀ {ks:List Key} {us:List Value},Vals (ks.map kV) us->ItemsAre (cb P w) ks us
 | [],_,r=>by rw[List.map_nil]at r;cases r;exact .nil
 | k::ks,_,r=>by
  rw[List.map_cons]at r
  cases r with
  | cons h t=>exact .cons (m9 h) (nZ t)
@[reducible]noncomputable def KT(H:Hp):List (List Key × V)->List (List Key × Addr × Value)->Prop:=Paired fun p q=>p.1=q.1/\H q.2.1=some (.tup (p.1.map kV))/\RelV p.2 q.2.2
def KT.val{H:Hp}{kvs:List (List Key × V)}{xs:List (List Key × Addr × Value)}(r:KT H kvs xs)(k:List Key):gG (eL kvs k) ((atKey xs k).map (·.2)):=by
 induction r with
 | nil=>exact True.intro
 |@cons p q ps qs h t ih=>
  obtain⟨h1,_,h2⟩:=h;by_cases e:p.1=k
  ·have e':q.1=k:=h1.symm.trans e
   have b:atKey (q::qs) k=some q.2:=by simp[atKey,List.find?_cons,e']
   rw[iN e,b];exact h2
  ·have e':¬ q.1=k:=fun z=>e (h1.trans z)
   have b:atKey (q::qs) k=atKey qs k:=by simp[atKey,List.find?_cons,e']
   rw[jq e,b];exact ih
def KT.yY{H:Hp}{kvs:List (List Key × V)}{xs:List (List Key × Addr × Value)}(r:KT H kvs xs)(k:List Key){y:V}{u:Value}(ry:RelV y u) :
  KT H (kvs.map fun kv=>if kv.1=k then(kv.1,y)else kv) (xs.map (putAt k u)):=by
 induction r with
 | nil=>exact .nil
 |@cons p q ps qs h t ih=>
  rw[List.map_cons,List.map_cons];refine .cons ?_ ih;obtain⟨h1,h2,h3⟩:=h;unfold putAt;by_cases e:p.1=k
  ·rw[if_pos e,if_pos (h1.symm.trans e)];exact⟨h1,h2,ry⟩
  ·rw[if_neg e,if_neg (fun z=>e (h1.trans z))];exact⟨h1,h2,h3⟩
def KT.put{H:Hp}{kvs:List (List Key × V)}{xs:List (List Key × Addr × Value)}(r:KT H kvs xs)(k:List Key){b:Addr}{y:V}{u:Value}(hb:H b=some (.tup (k.map kV)))(ry:RelV y u) :
  KT H (putK kvs k y) (storedH xs k b u):=by
 have e:(kvs.any fun kv=>decide (kv.1=k))=(atKey xs k).isSome:=by
  rw[qv,(r.val k).fI,Option.isSome_map]
 unfold putK storedH;rw[e];by_cases q:(atKey xs k).isSome=true
 ·rw[if_pos q,if_pos q];exact r.yY k ry
 ·rw[if_neg q,if_neg q];exact Paired.snoc r ⟨rfl,hb,ry⟩
def KT.keeps{H H':Hp}{kvs:List (List Key × V)}{xs:List (List Key × Addr × Value)}(r:KT H kvs xs)(ht:∀ b ys,H b=some (.tup ys)->H' b=some (.tup ys)):KT H' kvs xs :=
 Paired.yO r fun _ _ z=>⟨z.1,ht _ _ z.2.1,z.2.2⟩
section
variable{P:Program}{w:World}{H:Hp}{h:Heap}{a:Addr}
def zO{u:HO}(ok:HOk P w H h)(e:Rd H a u):bu P w H h a u:=e.ok ok
def kf{kvs:List (Key × V)}(ok:HOk P w H h)(e:Rd H a (.dK kvs)):kvs.length<=sizeLine/\(a == sysModules)=false/\∃ vs,KV kvs vs/\h.DictOf (cb P w) a vs :=
 show bu P w H h a (.dK kvs)from zO ok e
def F3{kvs:List (Key × V)}(ok:HOk P w H h)(e:H a=some (.dK kvs)):kvs.length<=sizeLine/\(a == sysModules)=false/\∃ vs,KV kvs vs/\h.DictOf (cb P w) a vs:=kf ok (.inl e)
def jY{ks:List Key}(ok:HOk P w H h)(e:H a=some (.tup (ks.map kV))):(tupleKind (cb P w)).is h ks a:=by
 obtain⟨_,its,r,o,h1,h2,n,h3⟩:=(show bu P w H h a (.tup (ks.map kV))from ok a _ e)
 exact⟨o,its.toArray,n,h1,h2,h3,by simpa using nZ r⟩
def m5{kvs:List (List Key × V)}(ok:HOk P w H h)(e:Rd H a (.dT kvs)):kvs.length<=sizeLine/\(a == sysModules)=false /\
  ∃ xs,KT H kvs xs/\h.DictOfH (tupleKind (cb P w)) a xs:=by
 obtain⟨z,y,xs,r,o,es,ep,h1,h2,h3,h4,h5⟩:=(show bu P w H h a (.dT kvs)from zO ok e)
 refine⟨z,y,xs,r,o,es,ep,h1,h2,h3,h4,fun x hx=>?_,h5⟩
 have all:∀ {l:List (List Key × V)} {m:List (List Key × Addr × Value)},KT H l m->∀ x∈m,(tupleKind (cb P w)).is h x.1 x.2.1:=by
  intro l m q
  induction q with
  | nil=>intro x hx;exact nomatch hx
  |@cons p q ps qs hq t ih=>
   intro x hx;rcases List.mem_cons.mp hx with e | hx
   ·subst e;exact jY ok (by rw[<-hq.1];exact hq.2.1)
   ·exact ih x hx
 exact all r x hx
def zL{kvs:List (List Key × V)}(ok:HOk P w H h)(e:H a=some (.dT kvs)):kvs.length<=sizeLine/\(a == sysModules)=false /\
  ∃ xs,KT H kvs xs/\h.DictOfH (tupleKind (cb P w)) a xs:=m5 ok (.inl e)
end
abbrev eX(H:Hp)(a:Addr)(y:V)(r:Option V):Prop :=
 (∃ kvs k,Rd H a (.dK kvs)/\y=kV k/\r=eL kvs k)\/∃ kvs k b,Rd H a (.dT kvs)/\y=.ref b/\H b=some (.tup (k.map kV))/\r=eL kvs k
abbrev jW(H:Hp)(a:Addr)(y v:V)(H':Hp):Prop :=
 (∃ kvs k,H a=some (.dK kvs)/\y=kV k/\kvs.length<sizeLine/\H'=upd H a (.dK (putK kvs k v))) \/
 ∃ kvs k b,H a=some (.dT kvs)/\y=.ref b/\H b=some (.tup (k.map kV))/\kvs.length<sizeLine/\H'=upd H a (.dT (putK kvs k v))
def eX.k{H:Hp}{a:Addr}{kvs:List (Key × V)}{k:Key}(e:H a=some (.dK kvs)):eX H a (kV k) (eL kvs k):=.inl ⟨kvs,k,.inl e,rfl,rfl⟩
def eX.t{H:Hp}{a b:Addr}{kvs:List (List Key × V)}{k:List Key}(e:H a=some (.dT kvs))(eb:H b=some (.tup (k.map kV))):eX H a (.ref b) (eL kvs k):=.inr ⟨kvs,k,b,.inl e,rfl,eb,rfl⟩
def jW.k{H:Hp}{a:Addr}{kvs:List (Key × V)}{k:Key}{v:V}(e:H a=some (.dK kvs))(hl:kvs.length<sizeLine):jW H a (kV k) v (upd H a (.dK (putK kvs k v))):=.inl ⟨kvs,k,e,rfl,hl,rfl⟩
def jW.t{H:Hp}{a b:Addr}{kvs:List (List Key × V)}{k:List Key}{v:V}(e:H a=some (.dT kvs))(eb:H b=some (.tup (k.map kV)))(hl:kvs.length<sizeLine) :
  jW H a (.ref b) v (upd H a (.dT (putK kvs k v))):=.inr ⟨kvs,k,b,e,rfl,eb,hl,rfl⟩
section
variable{X:Cx}{pins:List (Addr × Obj)}{σ:St}{H:Hp}{s:Shared}{a:Addr}{y v:V}{u r:Value}{o:Option V}{A:Around}{E:Value->Shared->Prop}
def Inv.big(I:Inv X pins σ H s):sysModules<s.heap.objs.size:=by
 have h:mainGlobals<s.heap.objs.size:=(I.mod.glob.keeps I.bk).lt;exact Nat.lt_trans (by decide) h
def wx{Q:Value->Shared->Prop}(hu:A.units+1<cLine)(I:Inv X pins σ H s)(g:eX H a y (some v))(ry:RelV y u)(h:∀ w' s',Inv X pins σ H s'->RelV v w'->Q w' s') :
  wpAny (model X.prog X.w) A (getItem (.ref a) u) Q E s:=by
 rcases g with⟨kvs,k,e,ey,l⟩ | ⟨kvs,k,b,e,ey,eb,l⟩
 ·subst ey;obtain⟨z,hd,vs,rel,dd⟩:=kf I.hok e;obtain⟨w',hw,rw'⟩:=gG.some_of (v:=v) (o:=valueAt vs k) (by rw[l];exact rel.val k);exact wpAny_getItem_of (m9 ry) dd.mapOf hw (h w' _ (I.tok _) rw')
 ·subst ey;cases(show u=Value.ref b from ry);obtain⟨z,hd,xs,rel,dd⟩:=m5 I.hok e;obtain⟨w',hw,rw'⟩:=gG.some_of (v:=v) (o:=(atKey xs k).map (·.2)) (by rw[l];exact rel.val k);obtain⟨p,hp,hp2⟩:=Option.map_eq_some_iff.mp hw;refine wpAny_getItem_heap (tupleKind_room_in1 hu) (jY I.hok eb) dd hp ?_;rw[hp2];exact h w' _ (I.tok _) rw'
def Gf{Q:Value->Shared->Prop}(hu:A.units+1<cLine)(I:Inv X pins σ H s)(g:eX H a y o)(ry:RelV y u)(h:∀ s',Inv X pins σ H s'->Q (.bool o.isSome) s') :
  wpAny (model X.prog X.w) A (compareOp .In u (.ref a)) Q E s:=by
 rcases g with⟨kvs,k,e,ey,l⟩ | ⟨kvs,k,b,e,ey,eb,l⟩
 ·subst ey;obtain⟨z,hd,vs,rel,dd⟩:=kf I.hok e;refine wpAny_in_of (m9 ry) hd dd.mapOf ?_;rw[<-(rel.val k).fI,<-l];exact h _ (I.tok _)
 ·subst ey;cases(show u=Value.ref b from ry);obtain⟨z,hd,xs,rel,dd⟩:=m5 I.hok e;refine wpAny_in_heap (tupleKind_room_in1 hu) (jY I.hok eb) hd dd ?_;have q:=(rel.val k).fI;rw[Option.isSome_map]at q;rw[<-q,<-l];exact h _ (I.tok _)
def Az{Q:Value->Shared->Prop}(hu:A.units+1<cLine)(I:Inv X pins σ H s)(g:eX H a y o)(ry:RelV y u)(h:∀ s',Inv X pins σ H s'->Q (.bool (!o.isSome)) s') :
  wpAny (model X.prog X.w) A (compareOp .NotIn u (.ref a)) Q E s:=by
 rcases g with⟨kvs,k,e,ey,l⟩ | ⟨kvs,k,b,e,ey,eb,l⟩
 ·subst ey;obtain⟨z,hd,vs,rel,dd⟩:=kf I.hok e;refine wpAny_notIn_of (m9 ry) hd dd.mapOf ?_;rw[<-(rel.val k).fI,<-l];exact h _ (I.tok _)
 ·subst ey;cases(show u=Value.ref b from ry);obtain⟨z,hd,xs,rel,dd⟩:=m5 I.hok e;refine wpAny_notIn_heap (tupleKind_room_in1 hu) (jY I.hok eb) hd dd ?_;have q:=(rel.val k).fI;rw[Option.isSome_map]at q;rw[<-q,<-l];exact h _ (I.tok _)
def sJ{h':Heap}{t':Nat}{ob:HO}(I:Inv X pins σ H s)(mu:Mut (H a))(hs:Heap.SameBut a s.heap h')(he:∃ q,h'.get? a=some q)(new:bu X.prog X.w (upd H a ob) h' a ob) :
  Inv X pins σ (upd H a ob) { s with heap:=h',toks:=t' } :=
 I.write (x:=a) (e:=a) mu (.inl rfl) (fun b q hb z=>(hs.2 b hb).trans z) he new
def Dx{P:Program}{w:World}{H':Hp}{h':Heap}{kvs:List (Key × V)}{vs:List (Key × Value)}(z:kvs.length<=sizeLine)(hd:(a == sysModules)=false)(rel:KV kvs vs)(dd:h'.DictOf (cb P w) a vs) :
  bu P w H' h' a (.dK kvs):=⟨z,hd,vs,rel,dd⟩
def xu{H':Hp}{Q:Unit->Shared->Prop}(hu:A.units+1<cLine)(I:Inv X pins σ H s)(g:jW H a y v H')(ry:RelV y u)(rv:RelV v r)(h:∀ s',Inv X pins σ H' s'->Q () s') :
  wpAny (model X.prog X.w) A (setItem (.ref a) u r) Q E s:=by
 rcases g with⟨kvs,k,e,ey,l,eH⟩ | ⟨kvs,k,b,e,ey,eb,l,eH⟩
 ·subst ey eH;obtain⟨z,hd,vs,rel,dd⟩:=F3 I.hok e
  have hz:vs.length<=sizeLine:=by rw[<-rel.length];exact z
  have hl:(putK kvs k v).length<=sizeLine:=by have:=kP kvs k v;omega
  refine wpAny_setItem_pairs (hsz:=hz) (m9 ry) dd fun h' dd' hs=>h _ ?_;have he:∃ q,h'.get? a=some q:=let ⟨q,_,_,hq,_⟩:=dd';⟨q,hq⟩;exact sJ I (by rw[e];exact True.intro) hs he (Dx hl hd (rel.put k rv) dd')
 ·subst ey eH;cases(show u=Value.ref b from ry);obtain⟨z,hd,xs,rel,dd⟩:=zL I.hok e
  have hz:xs.length<=sizeLine:=by rw[<-Paired.length rel];exact z
  have hl:(putK kvs k v).length<=sizeLine:=by have:=kP kvs k v;omega
  refine wpAny_setItem_heap (hsz:=hz) (tupleKind_room_in1 hu) (jY I.hok eb) dd fun h' dd' hs=>h _ ?_;obtain⟨q,es,ep,hq,h2,h3,h4,_,h5⟩:=dd';refine sJ I (by rw[e];exact True.intro) hs ⟨q,hq⟩ ⟨hl,hd,_,(rel.put k eb rv).keeps fun c ys ec=>?_,q,es,ep,hq,h2,h3,h4,h5⟩;rw[aI (pd ec e (fun z=>nomatch z))];exact ec
end
section
variable{X:Cx}{pins:List (Addr × Obj)}{σ:St}{H:Hp}{s:Shared}{a:Addr}{kvs:List (Key × V)}{k:Key}{u:Value}{A:Around}{E:Value->Shared->Prop}
def EV{Q:Value->Shared->Prop}(I:Inv X pins σ H s)(e:Rd H a (.dK kvs))(h:∀ t s',Inv X pins σ H s'->Q (.int kvs.length t) s'):wpAny (model X.prog X.w) A (call (.builtin "len") [.ref a]) Q E s:=by
 obtain⟨z,hd,vs,rel,dd⟩:=kf I.hok e;refine call_len_dict hd dd (by rw[<-rel.length];rw[sizeLine_eq]at z;omega) ?_;rw[<-rel.length];exact h _ _ (I.tok _)
end
abbrev uP(i:Expr):Prop:=∀ ov iv,subscripted i false ov iv=operate [ov,iv] (getItem ov iv)
def AE{prog:Program}{w:World}{A:Around}{E:Value->Shared->Prop}{s:Shared}{env:Env}{value slice:Expr}{pos:Pos}{T id:String}{Q:Value->Shared->Prop}
 (hl:typeLookup (.type T) "__getitem__" = pure (some (.builtin id)))(hs:uP slice)
 (h:wpAny (model prog w) A (eval value env) (fun o s₁=>wpAny (model prog w) A (eval slice env) (fun i s₂=>s₂.TypeIs o T/\wpAny (model prog w) A (getItem o i) Q E s₂) E s₁) E s) :
  wpAny (model prog w) A (eval (.Subscript value slice pos) env) Q E s:=by
 refine Subscript_ (wpAny_mono h (fun o s₁ h₁=>wpAny_mono h₁ (fun i s₂ h₂=>?_) fun _ _ x=>x) fun _ _ x=>x);obtain⟨hT,h₂⟩:=h₂;unfold subscriptTail;refine wpAny_bind ?_;rw[getitemInPython_of_ne hT.not_modules];refine wpAny_bind (wpAny_specialOf hT hl ?_)
 have fin:wpAny (model prog w) A (subscripted slice false o i) (fun r s₃=>wpAny (model prog w) A (letTemporaryGo value o r >>= fun _=>pure r) Q E s₃) E s₂:=by
  rw[hs o i];exact wpAny_operating (wpAny_mono h₂ (fun r s₃ h₃=>wpAny_bind (wpAny_letTemporaryGo (wpAny_pure h₃))) fun _ _ x=>x)
 first
  | exact wpAny_pure (wpAny_bind fin)
  | exact wpAny_bind (wpAny_pure (wpAny_bind fin))
  | exact wpAny_bind fin
def rW{X:Cx}{pins:List (Addr × Obj)}{σ:St}{H:Hp}{s:Shared}{a:Addr}{y:V}{o:Option V}(I:Inv X pins σ H s)(g:eX H a y o):s.TypeIs (.ref a) "dict" := by
 rcases g with⟨kvs,k,e,_,_⟩ | ⟨kvs,k,b,e,_,_,_⟩
 ·obtain⟨_,_,vs,_,dd⟩:=kf I.hok e;exact dd.typeIs
 ·obtain⟨_,_,xs,_,dd⟩:=m5 I.hok e;exact dd.typeIs
abbrev Ff(td ty:TE):TE:=fun σ H Q=>td σ H fun x H1=>ty σ H1 fun y H2=>∃ a v,x=.ref a/\eX H2 a y (some v)/\Q v H2
abbrev DH(ty td:TE):TE:=fun σ H Q=>ty σ H fun y H1=>td σ H1 fun x H2=>∃ a o,x=.ref a/\eX H2 a y o/\Q (.bl o.isSome) H2
abbrev tF(ty td:TE):TE:=fun σ H Q=>ty σ H fun y H1=>td σ H1 fun x H2=>∃ a o,x=.ref a/\eX H2 a y o/\Q (.bl (!o.isSome)) H2
abbrev uC(td ty tv:TE):TS:=fun D σ H=>tv σ H fun v H1=>td σ H1 fun x H2=>ty σ H2 fun y H3=>∃ a H4,x=.ref a/\jW H3 a y v H4/\D.nx σ H4
section
variable{X:Cx}{o i e value:Expr}{pos pos' tpos:Pos}{td ty tv:TE}
def Av(hu:X.A.units+1<cLine)(ho:PE X o td)(hi:PE X i ty)(hs:uP i):PE X (.Subscript o i pos) (Ff td ty):=by
 intro pins s σ H Q I h;refine AE PySem.F.slot_dict_getitem.lookup hs (thn (ho pins s σ H _ I h) fun u s1 ⟨x,H1,I1,rx,q1⟩=>thn (hi pins s1 σ H1 _ I1 q1) fun iv s2 ⟨y,H2,I2,ry,a,v,ex,g,q2⟩=>?_);subst ex;obtain rfl:u=Value.ref a:=rx;exact⟨rW I2 g,wx hu I2 g ry fun w' s3 I3 rw'=>⟨v,H2,I3,rw',q2⟩⟩
def BW(hu:X.A.units+1<cLine)(hi:PE X i ty)(ho:PE X o td):PC X .In i o (DH ty td):=by
 intro pins s σ H Q I h;refine thn (hi pins s σ H _ I h) fun iv s1 ⟨y,H1,I1,ry,q1⟩=>thn (ho pins s1 σ H1 _ I1 q1) fun u s2 ⟨x,H2,I2,rx,a,ov,ex,g,q2⟩=>?_;subst ex;obtain rfl:u=Value.ref a:=rx
 exact Gf hu I2 g ry fun s3 I3=>⟨.bl ov.isSome,H2,I3,rfl,q2⟩
def we(hu:X.A.units+1<cLine)(hi:PE X i ty)(ho:PE X o td):PC X .NotIn i o (tF ty td):=by
 intro pins s σ H Q I h;refine thn (hi pins s σ H _ I h) fun iv s1 ⟨y,H1,I1,ry,q1⟩=>thn (ho pins s1 σ H1 _ I1 q1) fun u s2 ⟨x,H2,I2,rx,a,ov,ex,g,q2⟩=>?_;subst ex;obtain rfl:u=Value.ref a:=rx
 exact Az hu I2 g ry fun s3 I3=>⟨.bl (!ov.isSome),H2,I3,rfl,q2⟩
def B7(hu:X.A.units+1<cLine)(ho:PE X o td)(hi:PE X i ty)(hv:PE X value tv)(hs:swapsWith value (some (.Subscript o i pos')) pos.line X.env=pure false) :
  PS X (.Assign [.Subscript o i pos'] value pos) (uC td ty tv):=by
 intro pins s σ H D I h;refine wpAny_Assign_Subscript (thn (hv pins s σ H _ I h) fun r s1 ⟨v,H1,I1,rv,q1⟩=>thn (ho pins s1 σ H1 _ I1 q1) fun u s2 ⟨x,H2,I2,rx,q2⟩=>thn (hi pins s2 σ H2 _ I2 q2) fun iv s3 ⟨y,H3,I3,ry,a,H4,ex,g,q3⟩=>?_) hs;subst ex;obtain rfl:u=Value.ref a:=rx
 exact xu hu I3 g ry rv fun s4 I4=>⟨σ,H4,I4,q3⟩
end
def yE{P:Program}{w:World}{H:Hp}(h:Heap)(hb:sysModules<h.objs.size):bu P w H (h.push { cls:=.type "dict",data:=.dict #[] }) h.objs.size (.dK []) :=
 ⟨Nat.zero_le _,beq_eq_false_iff_ne.mpr (Ne.symm (Nat.ne_of_lt hb)),[],.nil,Heap.DictOf.new h⟩
def yA{P:Program}{w:World}{H:Hp}(h:Heap)(hb:sysModules<h.objs.size):bu P w H (h.push { cls:=.type "dict",data:=.dict #[] }) h.objs.size (.dT []) :=
 ⟨Nat.zero_le _,beq_eq_false_iff_ne.mpr (Ne.symm (Nat.ne_of_lt hb)),[],.nil,_,#[],0,Heap.get?_push_size _ rfl,⟨rfl,rfl,rfl⟩,rfl,rfl,List.nodup_nil⟩
abbrev DA:TE:=fun _ H Q=>∀ p,H p=none->Q (.ref p) (upd H p (.dK []))
abbrev Ed:TE:=fun _ H Q=>∀ p,H p=none->Q (.ref p) (upd H p (.dT []))
section
variable{X:Cx}{pos:Pos}
def xE:PE X (.Dict [] [] pos) DA:=fun pins s σ H Q I h =>
 wpAny_Dict_empty ⟨.ref s.heap.objs.size,_,I.laid (a:=s.heap.objs.size) (o:=.dK []) (t':=s.toks) (fun _ _ q=>Heap.get?_push_of_some _ q) (Nat.le_refl _) (yE s.heap I.big),rfl,h _ (I.hok.fresh (Nat.le_refl _))⟩
def zy:PE X (.Dict [] [] pos) Ed:=fun pins s σ H Q I h =>
 wpAny_Dict_empty ⟨.ref s.heap.objs.size,_,I.laid (a:=s.heap.objs.size) (o:=.dT []) (t':=s.toks) (fun _ _ q=>Heap.get?_push_of_some _ q) (Nat.le_refl _) (yA s.heap I.big),rfl,h _ (I.hok.fresh (Nat.le_refl _))⟩
end
section
variable{X:Cx}{pins:List (Addr × Obj)}{σ:St}{H:Hp}{s:Shared}{a:Addr}{y d:V}{u r:Value}{o:Option V}{A:Around}{E:Value->Shared->Prop}
end
section
variable{X:Cx}{o e f:Expr}{apos cpos:Pos}{td ty tx:TE}
end
section
variable{X:Cx}{pins:List (Addr × Obj)}{σ:St}{H:Hp}{s:Shared}{a:Addr}{kvs:List (Key × V)}{A:Around}{E:Value->Shared->Prop}
end
section
variable{X:Cx}{pins:List (Addr × Obj)}{σ:St}{H:Hp}{s:Shared}{a:Addr}{y:V}{u:Value}{A:Around}{E:Value->Shared->Prop}
end
end L2
namespace Att
open PySem PySem.W PySem.Calls PyProof.Rows
def lW{P:Params}{h:Heap}:∀ (ns:List Int) (vs:List Value),WellAll P h vs (ns.map WData.int)->IntsAre vs ns:=by
 intro ns
 induction ns with
 |nil=>
  intro vs w;rw[List.map_nil]at w;cases w;exact .nil
 |cons n ns ih=>
  intro vs w;rw[List.map_cons]at w
  cases w with
  |cons a b=>
   cases a;exact .cons _ _ (ih _ b)
def xh{l:OpenLaw}{n:Nat}(hn:l.most=some n){P:Params}{h:Heap}{args:List WData}{vals:List Value}
 (hpre:l.row.toRowW.claim.pre args=true)(hwl:WellAll P h vals args) :
  ∃ a vs ns,vals=[Value.ref a]/\args=[WData.list (ns.map WData.int)]/\h.get? a=some { cls:=.type "list",data:=.seq vs.toArray }/\IntsAre vs ns/\ns.length<=n:=by
 have hsh:WShape.hasAll [] args [.list .int]=true:=(pre_splitW hpre).1;have hc:l.pre.holds [] { args:=args }=true:=(pre_splitW hpre).2;obtain⟨d,r,rfl,h1,h2⟩:=hasAllW_cons hsh;obtain rfl:=hasAllW_nil h2;obtain⟨xs,rfl,h3⟩:=hasW_list h1;obtain⟨ns,rfl⟩:=items_int h3
 have hlen:ns.length<=n:=by
  unfold OpenLaw.pre at hc
  have h4:(WTm.not (.lt (.lit (.int (n:Int))) (.len (.arg 0)))).holds [] { args:=[.list (ns.map .int)] }=true:=by
   have h4:=(holds_andW hc).1;rw[hn]at h4;exact h4
  have h5:=condW_of h4 (w_not (w_lt w_lit (w_len_list (w_arg rfl))));rw[List.length_map]at h5;refine Nat.le_of_not_lt fun q=>?_
  have q':(n:Int)<((ns.length:Nat):Int):=by omega
  first
   | (rw[decide_eq_true q']at h5;exact absurd h5 (by decide))
   | (simp at h5;omega)
 cases hwl with
 |cons w1 w2=>
  cases w2
  cases w1 with
  | list ho hall=>exact⟨_,_,ns,rfl,rfl,ho,lW ns _ hall,hlen⟩
def xc(l:OpenLaw)(args:List WData):l.row.toRowW.claim.post args (.bool true) args=true :=
 postW_of (r:=l.row.toRowW) (X:=(true == true))
  (show WShape.has [] (.bool true) .bool=true by first | rfl | decide | simp[WShape.has,WShape.arms,WShape.armsAll])
  (show(WTm.eq .res (.lit (.bool true))).value [] { args:=args,res:=some (.bool true),after:=args }=some (.bool (true == true))from w_eq_bool (w_res rfl) w_lit) rfl
def rX{l:OpenLaw}{n:Nat}{q:Program}{loose:List Str}{XP:(Str->Option Value)->Heap->Prop}{YP:World->Heap->Prop}{d:DefRec}
 (hn:l.most=some n)(hdf:d.params.defaults=[])
 (call:∀ (w:World) (s₀ s₁:Shared) (mg mb:Str->Option Value) (fa:Addr) (o:Obj) (pm cd doc:Value) (a:Addr) (vs:List Value) (ns:List Int),
   Ground q loose [] XP w s₀ mg mb s₁.heap->YP w s₁.heap ->
   s₁.heap.get? fa=some o->o.data=.func (docDef d.name d.params d.body d.scope pm cd doc)->s₁.heap.CodeRec cd d.name->mg d.name=some (.ref fa) ->
   s₁.heap.get? a=some { cls:=.type "list",data:=.seq vs.toArray }->IntsAre vs ns->ns.length<=n->s₁.gens=#[] ->
   codeAny (model l.prog w) callerA (.call (.ref fa) ⟨[.ref a],[]⟩) (fun r s'=>r=.ok (.ret (.bool true))/\OldK s₁.heap s'.heap/\s'.os=s₁.os/\AllBare s'.gens) s₁) :
  WalkO q loose XP YP l.row.toRowW d [] (fun f vs=>PySem.call f vs):=by
 intro w s₀ s₁ mg mb G Y fa o pm cd doc dV kV ho hd hcd hD hmg hg args vals as hpre hlay hrd hwl hlo;obtain rfl:dV=.none:=Dflts.none hD hdf;obtain rfl:kV=.none:=Dflts.noKw hD;obtain⟨a,vs,ns,rfl,rfl,hobj,hints,hlen⟩:=xh hn hpre hwl;refine enter_call (codeAny_mono (call w s₀ s₁ mg mb fa o pm cd doc a vs ns G Y ho (fd_plain hd) hcd hmg hobj hints hlen hg) fun r s' hq=>?_);obtain⟨rfl,h2,h3,h4⟩:=hq;exact⟨.inl ⟨.bool true,.bool true,[],rfl,fun _=>rfl,.bool true,xc l _,fun _=>⟨List.Pairwise.nil,fun _ hm=>(nomatch hm)⟩⟩,h2,h3,h4⟩
section
variable{prog:Program}{w:World}{A:Around}{E:Value->Shared->Prop}{s:Shared}{K:Frag}
end
end Att
namespace L2
open PySem PySem.Spec PyProof.Rows
def nO:∀ {vs:List Value} {ns:List Int},IntsAre vs ns->Vals (ns.map V.int) vs
 | _,_,.nil=>.nil
 | _,_,.cons n t h=>.cons ⟨t,rfl⟩ (nO h)
abbrev rm(H:Hp):Prop:=∀ b,H b=none\/∃ o xs,H b=some (.frz o (.lst xs))
def zi{P:Program}{w:World}{K:PySem.W.Frag}{mg mb:Str->Option Value}{CX:CXT}{k:Nat}{fa a:Addr}{fd:FuncData}{x:Str}{sp:Sp}{s₁:Shared}{vs:List Value}{ns:List Int}
 (KX:K.In s₁.heap)(hns:s₁.heap.Ns mainGlobals mg)(hb:s₁.heap.Ns builtinsNs mb)(hbb:∀ x:Str,x ≠ "__name__" -> mb x=bootBuiltins x)(hlim:s₁.heap.NoLimit)(hg:s₁.gens=#[])
 (ha:s₁.heap.get? a=some { cls:=.type "list",data:=.seq vs.toArray })(hi:IntsAre vs ns)(hl:ns.length<=sizeLine)(hr:cw k callerA)
 (F:∀ base:Heap,K.In base->base.Ns mainGlobals mg->d5 P w K mg base CX k fa fd [x] sp)(hbind:∀ (s:Shared) (u:Value),BindsTo s fd ⟨[u],[]⟩ [(x,u)])
 (hsp:∀ H:Hp,rm H->SqL K H a (ns.map V.int)->sp [.ref a] H (fun v _=>v=.bl true) fun _ _ _=>False)
 (hCX:∀ H e s',CX [] H s₁ (fun _ _ _=>False) e s'->False) :
  codeAny (model P w) callerA (.call (.ref fa) ⟨[.ref a],[]⟩) (fun r s'=>r=.ok (.ret (.bool true))/\OldK s₁.heap s'.heap/\s'.os=s₁.os/\AllBare s'.gens) s₁:=by
 have rv:=nO hi;have lenV:=hi.length
 have core:∀ H:Hp,rm H->SqL K H a (ns.map V.int)->HOk P w H s₁.heap->(∀ b,H b≠none->b=a)->(H a≠none->K.lookup a=none) ->
   codeAny (model P w) callerA (.call (.ref fa) ⟨[.ref a],[]⟩) (fun r s'=>r=.ok (.ret (.bool true))/\OldK s₁.heap s'.heap/\s'.os=s₁.os/\AllBare s'.gens) s₁:=by
  intro H hO hS hok hA hK;have base_of:∀ {b:Addr} {o:Obj},s₁.heap.get? b=some o->H b=none->(iW s₁.heap H).get? b=some o:=fun e n=>xO e n
  have noA:∀ {b:Addr} {o:Obj} {es:Array DictEntry} {ep:Nat},s₁.heap.get? b=some o->o.data=.dict es ep->H b=none:=fun {b o es ep} e d=>by
   cases q:H b with
   | none=>rfl
   |some u=>
    have e':b=a:=hA b (by rw[q];simp);subst e';rw[ha]at e;cases e;have d':Data.seq vs.toArray _=Data.dict es ep:=d;cases d'
  have nsK:∀ {b:Addr} {m:Str->Option Value},s₁.heap.Ns b m->(iW s₁.heap H).Ns b m:=fun {b m} ⟨o,es,ep,e,d,r⟩=>⟨o,es,ep,base_of e (noA e d),d,r⟩
  have hKb:K.In (iW s₁.heap H):=fun b o e=>base_of (KX b o e) (by
   cases q:H b with
   | none=>rfl
   |some u=>
    have e':b=a:=hA b (by rw[q];simp);subst e'
    rw[hK (by rw[q];simp)]at e;cases e)
  have hM:Mod K mg (iW s₁.heap H):=⟨hKb,nsK hns,⟨mb,nsK hb,hbb⟩,let ⟨mc,h1,h2⟩:=hlim;⟨mc,nsK h1,h2⟩⟩
  have e0:qB P w K mg (iW s₁.heap H) callerA [] s₁ H:=⟨rfl,hM,fun b o e=>AL e,Nat.le_of_eq (wL _ _),trivial,fun b hb=>absurd (show b∈([]:List Addr)from hb) (by simp),hok,.of_eq hg⟩
  refine codeAny_mono ((F _ hKb (nsK hns)).run callerA [] s₁ H ⟨[.ref a],[]⟩ [.ref a] [.ref a] _ _ hr e0 (hbind s₁ (.ref a)) (.cons rfl .nil) (hsp H hO hS)) fun r s' h=>?_
  cases r with
  | error e=>exact(hCX H e s' h).elim
  |ok fl=>
   cases fl with
   | next=>exact False.elim h
   | brk=>exact False.elim h
   | cont=>exact False.elim h
   |ret u=>
    obtain⟨v,H',os,bare,un,hok',r',q⟩:=h;have q':v=.bl true:=q;subst q';obtain rfl:u=Value.bool true:=r';refine⟨rfl,OldK.of_keep fun b o e=>?_,os,bare⟩
    cases q:H b with
    | none=>exact un.keep b o e q (by intro z;exact absurd (show b∈([]:List Addr)from z) (by simp)) (by simp)
    |some u=>
     rcases hO b with z | ⟨ob,xs,z⟩
     ·rw[q]at z;cases z
     ·have z2:=un.cR b ob _ z;obtain⟨e1,_⟩:=hok b _ z;obtain⟨e2,_⟩:=hok' b _ z2;rw[e]at e1;cases e1;exact e2
 cases hk:K.lookup a with
 |some o=>
  have e:=KX a o hk;rw[ha]at e;cases e;refine core (fun _=>none) (fun _=>.inl rfl) (.inr ⟨_,vs.toArray,_,hk,rfl,rfl,rfl,by rw[List.size_toArray,lenV];exact hl,by simpa using rv⟩) (fun b u z=>by have z':(none:Option HO)=some u:=z;cases z') (fun b z=>absurd rfl z) fun z=>absurd rfl z
 |none=>
  refine core (fun b=>if b=a then some (.frz { cls:=.type "list",data:=.seq vs.toArray } (.lst (ns.map V.int)))else none) (fun b=>?_) (.inl (.inr ⟨{ cls:=.type "list",data:=.seq vs.toArray },if_pos rfl⟩)) (fun b u z=>?_) (fun b z=>?_) fun _=>hk
  ·by_cases hb:b=a
   ·exact .inr ⟨_,_,if_pos hb⟩
   ·exact .inl (if_neg hb)
  ·by_cases hb:b=a
   ·have z':=(if_pos hb).symm.trans z;cases z';subst hb;exact⟨ha,by rw[List.length_map];exact hl,vs,_,rv,ha⟩
   ·have z':=(if_neg hb).symm.trans z;cases z'
  ·by_cases hb:b=a
   ·exact hb
   ·exact absurd (if_neg hb) z
@[reducible]noncomputable def KOf{K:PySem.W.Frag}{h:Heap}(_:K.In h):PySem.W.Frag:=K
def sD{l:PySem.W.OpenLaw}{n k:Nat}{q:Program}{loose:List Str}{XP:(Str->Option Value)->Heap->Prop}{YP:World->Heap->Prop}{d:DefRec}{K:Params->PySem.W.Frag}{CX:World->CXT}{sp:World->Sp}{x:Str}
 (hn:l.most=some n)(hn2:n<=sizeLine)(hdf:d.params.defaults=[])(hr:cw k callerA)
 (hY:∀ (w:World) (h:Heap),YP w h->(K w.params).In h)
 (F:∀ (w:World) (mg:Str->Option Value) (fa:Addr) (h:Heap),(K w.params).In h->h.Ns mainGlobals mg->mg d.name=some (.ref fa) ->
   ∃ fd:FuncData,(∀ (s:Shared) (u:Value),BindsTo s fd ⟨[u],[]⟩ [(x,u)]) /\
    ∀ base:Heap,(K w.params).In base->base.Ns mainGlobals mg->d5 l.prog w (K w.params) mg base (CX w) k fa fd [x] (sp w))
 (hsp:∀ (w:World) (H:Hp) (a:Addr) (ns:List Int),ns.length<=n->rm H->SqL (K w.params) H a (ns.map V.int)->sp w [.ref a] H (fun v _=>v=.bl true) fun _ _ _=>False)
 (hCX:∀ (w:World) (H:Hp) (s:Shared) (e:Value) (s':Shared),CX w [] H s (fun _ _ _=>False) e s'->False) :
  PySem.W.WalkO q loose XP YP l.row.toRowW d [] (fun f vs=>PySem.call f vs):=by
 refine Att.rX hn hdf fun w s₀ s₁ mg mb fa o pm cd doc a vs ns G Y ho hd hcd hmg hobj hints hlen hg=>?_;have KX:=hY w _ Y;obtain⟨fd,hb,hF⟩:=F w mg fa _ KX G.T.g hmg;exact zi KX G.T.g G.T.b G.T.builtins G.T.nolimit hg hobj hints (Nat.le_trans hlen hn2) hr hF hb (fun H hO hS=>hsp w H a ns hlen hO hS) fun H e s'=>hCX w H s₁ e s'
def zx{l:PySem.W.OpenLaw}{n k:Nat}{q:Program}{loose:List Str}{XP:(Str->Option Value)->Heap->Prop}{YP:World->Heap->Prop}{d:DefRec}{K:Params->PySem.W.Frag}{CX:CXT}{sp:PySem.W.Frag->Sp}{x:Str}
 (hn:l.most=some n)(hn2:n<=sizeLine)(hdf:d.params.defaults=[])(hr:cw k callerA)
 (hY:∀ (w:World) (h:Heap),YP w h->(K w.params).In h)
 (F:∀ (w:World) (mg:Str->Option Value) (fa:Addr) (h:Heap),(K w.params).In h->h.Ns mainGlobals mg->mg d.name=some (.ref fa) ->
   ∃ fd:FuncData,(∀ (s:Shared) (u:Value),BindsTo s fd ⟨[u],[]⟩ [(x,u)]) /\
    ∀ base:Heap,(K w.params).In base->base.Ns mainGlobals mg->d5 l.prog w (K w.params) mg base CX k fa fd [x] (sp (K w.params)))
 (hsp:∀ (K:PySem.W.Frag) (H:Hp) (a:Addr) (ns:List Int),ns.length<=n->rm H->SqL K H a (ns.map V.int)->sp K [.ref a] H (fun v _=>v=.bl true) fun _ _ _=>False)
 (hCX:∀ (H:Hp) (s:Shared) (e:Value) (s':Shared),CX [] H s (fun _ _ _=>False) e s'->False) :
  PySem.W.WalkO q loose XP YP l.row.toRowW d [] (fun f vs=>PySem.call f vs) :=
 sD (K:=K) (CX:=fun _=>CX) (sp:=fun w=>sp (K w.params)) hn hn2 hdf hr hY F (fun w H a ns h1 h2 h3=>hsp (K w.params) H a ns h1 h2 h3) fun _ H s e s'=>hCX H s e s'
abbrev iq(s:Stmt):Arguments:=match s with
 | .FunctionDef _ a _ _ _ _ _ _ _ _=>a
 | _=>{ posonlyargs:=[],args:=[],vararg:=none,kwonlyargs:=[],kw_defaults:=[],kwarg:=none,defaults:=[] }
abbrev cC(s:Stmt):List Stmt:=match s with
 | .FunctionDef _ _ b _ _ _ _ _ _ _=>b
 | _=>[]
abbrev aN(s:Stmt):Scope:=match s with
 | .FunctionDef _ _ _ _ _ _ sc _ _ _=>sc
 | _=>{ kind:=.function,names:=[],isGenerator:=false,isCoroutine:=false }
@[reducible]noncomputable def CX0:CXT:=fun _ _ _ _ _ _=>False
@[reducible]noncomputable def E0:XK:=fun _ _ _=>False
def uS{X:Cx}:Passes CX0 X E0:=fun _ _ _ _ _ _ _ h=>h.elim
structure Fun(K:PySem.W.Frag)(x qual:Str)(st:Stmt)(f:Addr)(fd:FuncData):Prop where
 ex:∃ (oc:Value) (od:Option Addr) (kV doc pm:Value) (an:Option Addr) (cdv ct:Value) (osl:Array (Option Value)),
  fd=PySem.W.fnOf x qual (iq st) (cC st) (aN st) .none kV doc pm an cdv ct/\K.lookup f=some ⟨oc,od,.func fd,osl⟩/\PySem.W.codeIn K cdv qual=true
 kp:PySem.W.keepIn K (.ref f)=true
section
variable{P:Program}{w:World}{K:PySem.W.Frag}{mg:Str->Option Value}{base:Heap}
def Fun.ok{x qual:Str}{st:Stmt}{f:Addr}{fd:FuncData}{N ps:List Str}{k:Nat}{sp:Sp}(F:Fun K x qual st f fd)(S:fh N ps (aN st))(len:∀ vs H Q E,sp vs H Q E->vs.length=ps.length)
 (hbody:∀ (cdv:Value) (A:Around) (outer:List Env) (s:Shared) (H:Hp) (vs:List V) (Q:VK) (E:XK),cw k (A.deeper (envOfC qual (aN st) s.heap.objs.size f cdv))->sp vs H Q E ->
   ∃ t,PSs (gD CX0 P w K mg base N qual (aN st) f cdv A outer s H E).nox (cC st) t/\t { nx:=fun _ H'=>Q .non H',rt:=Q } (start N vs) H):d5 P w K mg base CX0 (k+1) f fd ps sp:=by
 obtain⟨oc,od,kV,doc,pm,an,cdv,ct,osl,rfl,lk,hcd⟩:=F.ex;refine zH lk hcd S len fun A outer s H vs Q E hr hsp=>?_;obtain⟨t,h,q⟩:=hbody cdv A outer s H vs Q E hr hsp;exact⟨t,h.nox,q⟩
def Fun.binds{x qual:Str}{st:Stmt}{f:Addr}{fd:FuncData}{ps:List Str}(F:Fun K x qual st f fd)
 (h:∀ (kV doc pm:Value) (an:Option Addr) (cdv ct:Value) (us:List Value),us.length=ps.length->bindArgs (PySem.W.fnOf x qual (iq st) (cC st) (aN st) .none kV doc pm an cdv ct) ⟨us,[]⟩=pure (ps.zip us)):Binds K fd ps []:=by
 obtain⟨oc,od,kV,doc,pm,an,cdv,ct,osl,rfl,lk,hcd⟩:=F.ex;exact .all (h kV doc pm an cdv ct)
def C2{x qual:Str}{st:Stmt}{f:Addr}{oc:Value}{od an:Option Addr}{osl:Array (Option Value)}{kV doc pm cdv ct:Value}(l:K.lookup f=some ⟨oc,od,.func (PySem.W.fnOf x qual (iq st) (cC st) (aN st) .none kV doc pm an cdv ct),osl⟩)
 (c:PySem.W.codeIn K cdv qual=true)(k:PySem.W.keepIn K (.ref f)=true):Fun K x qual st f (PySem.W.fnOf x qual (iq st) (cC st) (aN st) .none kV doc pm an cdv ct):=⟨⟨oc,od,kV,doc,pm,an,cdv,ct,osl,rfl,l,c⟩,k⟩
end
def nW{n:Nat}(h:n<=1000):n<sizeLine:=Nat.lt_of_le_of_lt h (by decide)
section
variable{X:Cx}
end
def fq{A B:Prop}(h:B):if false=true then A else B:=by
 rw[if_neg Bool.false_ne_true];exact h
def eJ{A B:Prop}(h:A):if true=true then A else B:=by
 rw[if_pos rfl];exact h
abbrev ax(H H':Hp):Prop:=∀ b o,H b=some o->H' b=some o
def ax.refl(H:Hp):ax H H:=fun _ _ h=>h
def ax.trans{H H1 H2:Hp}(a:ax H H1)(b:ax H1 H2):ax H H2:=fun c o h=>b c o (a c o h)
def ax.free{H H':Hp}(e:ax H H'){l:Addr}(h:H' l=Option.none):H l=Option.none:=by
 cases q:H l with
 | none=>rfl
 |some o=>
  rw[e l o q]at h;cases h
section
variable{X:Cx}
def xg:bI X (.builtin "len") (fun xs H Q=>∃ a kvs,xs=[V.ref a]/\H a=some (.dK kvs)/\Q (.int kvs.length) H):=by
 intro pins s σ H xs us Q I r h;obtain⟨a,kvs,rfl,ha,q⟩:=h;obtain⟨u,rfl,ru⟩:=vals1 r;cases ru
 exact EV I (.inl ha) fun t s' I'=>⟨.int kvs.length,H,I',⟨t,rfl⟩,q⟩
end
section
variable{κ:Type} [DecidableEq κ]
end
end L2
namespace RS
open PySem PySem.Spec PyProof.Rows L2
@[reducible]def VE:List Value:=[.type "ValueError",.type "Exception",.type "BaseException",.type "object"]
abbrev cZ:List Str:=["RibbonError", "BadPegs", "BadFrame", "BadHalf", "BadHook", "BadName", "NoNumber", "NoFrame", "NoStack", "NoPlace", "Taken", "Full", "NothingThere", "BadTrade", "Hangs", "BadPage"]
abbrev qz(f:Option PySem.Builtin.ObjectAttr.Found):Bool:=match f with
 | some (.bind (.builtin a) (.builtin b))=>a == "getset_descriptor.__get__" && b == "object.__class__"
 | _=>false
abbrev eS(K:PySem.W.Frag)(x:Str)(C:Addr):Bool :=
 PySem.W.excIn K C VE "ValueError.__new__" && PySem.W.findIn K (.ref C) "__getattribute__" == some (some (.builtin "BaseException.__getattribute__"))&&PySem.W.findIn K (.ref C) "__getattr__" == some none&&qz (PySem.W.findObj K C none "__class__") &&
 PySem.W.mroIn K C (.type "object") == some true&&PySem.W.subIn K (.ref C) (.type "BaseException") == some true&&(PySem.W.clsIn K C).isSome&&PySem.W.kitOne K (.ref C) (.type "ValueError") == some true &&
 cZ.all fun c=>match PySem.W.nsIn K mainGlobals c with
  | some (some (.ref D))=>PySem.W.kitOne K (.ref C) (.ref D) == some (RL.cH x c)&&PySem.W.subIn K (.ref C) (.ref D) == some (RL.cH x c)
  | _=>true
structure Cls(K:PySem.W.Frag)(x:Str)(C:Addr):Prop where
 ns:PySem.W.nsIn K mainGlobals x=some (some (.ref C))
 ok:eS K x C=true
section
variable{K:PySem.W.Frag}
def Cls.exc(h:Cls K x C):PySem.W.excIn K C VE "ValueError.__new__" = true:=by
 have:=h.ok;simp only[eS,Bool.and_eq_true]at this;exact this.1.1.1.1.1.1.1.1
def Cls.ref(h:Cls K x C)(hc:c∈cZ)(hD:PySem.W.nsIn K mainGlobals c=some (some (.ref D))):PySem.W.kitOne K (.ref C) (.ref D)=some (RL.cH x c)/\PySem.W.subIn K (.ref C) (.ref D)=some (RL.cH x c):=by
 have:=h.ok;simp only[eS,Bool.and_eq_true]at this;have q:=List.all_eq_true.mp this.2 c hc;rw[hD]at q;simp only[Bool.and_eq_true,beq_iff_eq]at q;exact q
def Cls.val(h:Cls K x C):PySem.W.kitOne K (.ref C) (.type "ValueError")=some true:=by
 have:=h.ok;simp only[eS,Bool.and_eq_true,beq_iff_eq]at this;exact this.1.2
end
structure bP(K:PySem.W.Frag)(x:Str)(C:Addr)(c:Str):Prop where
 ex:∃ D b,PySem.W.nsIn K mainGlobals c=some (some (.ref D))/\PySem.W.kitOne K (.ref C) (.ref D)=some b/\PySem.W.subIn K (.ref C) (.ref D)=some b/\RL.cH x c=b
def m4{K:PySem.W.Frag}(n:PySem.W.nsIn K mainGlobals c=some (some (.ref D)))(k:PySem.W.kitOne K (.ref C) (.ref D)=some b)(s:PySem.W.subIn K (.ref C) (.ref D)=some b)(e:RL.cH x c=b):bP K x C c:=⟨D,b,n,k,s,e⟩
structure DO(K:PySem.W.Frag)(x:Str)(C:Addr):Prop where
 a1:PySem.W.excIn K C VE "ValueError.__new__" = true
 a2:PySem.W.findIn K (.ref C) "__getattribute__" = some (some (.builtin "BaseException.__getattribute__"))
 a3:PySem.W.findIn K (.ref C) "__getattr__" = some none
 a4:PySem.W.findIn K (.ref C) "__class__" = some (some (.builtin "object.__class__"))
 a5:PySem.W.specialIn K (.builtin "object.__class__") "__get__" = some (some (.builtin "getset_descriptor.__get__"))
 a6:PySem.W.takesIn K (.builtin "object.__class__")=some true
 a7:PySem.W.mroIn K C (.type "object")=some true
 a8:PySem.W.subIn K (.ref C) (.type "BaseException")=some true
 a9:PySem.W.kitOne K (.ref C) (.type "ValueError")=some true
 b1:bP K x C "RibbonError"
 b2:bP K x C "BadPegs"
 b3:bP K x C "BadFrame"
 b4:bP K x C "BadHalf"
 b5:bP K x C "BadHook"
 b6:bP K x C "BadName"
 b7:bP K x C "NoNumber"
 b8:bP K x C "NoFrame"
 b9:bP K x C "NoStack"
 b10:bP K x C "NoPlace"
 b11:bP K x C "Taken"
 b12:bP K x C "Full"
 b13:bP K x C "NothingThere"
 b14:bP K x C "BadTrade"
 b15:bP K x C "Hangs"
 b16:bP K x C "BadPage"
def lJ{K:PySem.W.Frag}(h:DO K x C):eS K x C=true:=by
 obtain⟨cd,ec,_⟩:=Option.bind_eq_some_iff.mp h.a7
 have fo:qz (PySem.W.findObj K C none "__class__")=true:=by
  unfold PySem.W.findObj;rw[ec,Option.bind_some,h.a4,Option.bind_some];dsimp only;rw[h.a5,Option.bind_some];dsimp only;rw[h.a6,Option.bind_some];rfl
 have one:∀ {c:Str},bP K x C c->(match PySem.W.nsIn K mainGlobals c with
  | some (some (.ref D))=>PySem.W.kitOne K (.ref C) (.ref D) == some (RL.cH x c)&&PySem.W.subIn K (.ref C) (.ref D) == some (RL.cH x c)
  | _=>true)=true:=fun⟨D,b,e1,e2,e3,e4⟩=>by
  rw[e1];dsimp only;rw[e2,e3,e4,beq_self_eq_true];rfl
 unfold eS;rw[h.a1,h.a2,h.a3,fo,h.a7,h.a8,ec,h.a9];simp only[beq_self_eq_true,Option.isSome_some,Bool.and_self,Bool.true_and];rw[List.all_eq_true];intro c hc;simp only[cZ,List.mem_cons,List.mem_nil_iff,or_false]at hc;rcases hc with rfl | rfl | rfl | rfl | rfl | rfl | rfl | rfl | rfl | rfl | rfl | rfl | rfl | rfl | rfl | rfl
 ·exact one h.b1
 ·exact one h.b2
 ·exact one h.b3
 ·exact one h.b4
 ·exact one h.b5
 ·exact one h.b6
 ·exact one h.b7
 ·exact one h.b8
 ·exact one h.b9
 ·exact one h.b10
 ·exact one h.b11
 ·exact one h.b12
 ·exact one h.b13
 ·exact one h.b14
 ·exact one h.b15
 ·exact one h.b16
abbrev nP:Addr->Prop:=fun _=>False
abbrev jH(K:PySem.W.Frag)(H:Hp)(a:Addr)(xs:List V):Prop:=(∃ o,H a=some (.frz o (.lst xs)))\/SqL K (fun _=>none) a xs
def jH.seq{K:PySem.W.Frag}(h:jH K H a xs):SqL K H a xs:=by
 rcases h with⟨o,h⟩ | (h | ⟨o,h⟩) | h
 ·exact .inl (.inr ⟨o,h⟩)
 ·cases h
 ·cases h
 ·exact .inr h
def jH.same{K:PySem.W.Frag}(e:ax H H')(h:jH K H a xs):jH K H' a xs:=by
 rcases h with⟨o,h⟩ | h
 ·exact .inl ⟨o,e _ _ h⟩
 ·exact .inr h
abbrev ExV(K:PySem.W.Frag)(H:Hp)(c:Str)(v:V):Prop:=∃ a o u D vs,v=.ref a/\H a=some (.frz o u)/\(o.cls=.ref D/\o.dict=none)/\o.data=.fields vs/\vs[2]?=some .none/\Cls K c D
def ExV.keep{K:PySem.W.Frag}(h:ExV K H c v)(k:∀ b o u,H b=some (.frz o u)->H' b=some (.frz o u)):ExV K H' c v :=
 let ⟨a,o,u,D,vs,h1,h2,r⟩:=h;⟨a,o,u,D,vs,h1,k _ _ _ h2,r⟩
mutual
noncomputable def Rep(P:Addr->Prop)(K:PySem.W.Frag)(H:Hp):RL.D->V->Prop
 | .non,v=>v=.non
 | .bl b,v=>v=.bl b
 | .int i,v=>v=.int i
 | .str x,v=>v=.str x
 | .tup ds,v=>∃ a xs,v=.ref a/\H a=some (.tup xs)/\af P K H ds xs
 | .lst ds,v=>∃ a xs,v=.ref a/\¬ P a/\H a=some (.lst xs)/\af P K H ds xs
 | .dK ks ds,v=>∃ a xs,v=.ref a/\¬ P a/\H a=some (.dK (ks.zip xs))/\ks.length=ds.length/\af P K H ds xs
 | .dT ks ds,v=>∃ a xs,v=.ref a/\¬ P a/\H a=some (.dT (ks.zip xs))/\ks.length=ds.length/\af P K H ds xs
 | .scr ds,v=>∃ a xs,v=.ref a/\jH K H a xs/\af P K H ds xs
 | .exc c,v=>ExV K H c v
noncomputable def af(P:Addr->Prop)(K:PySem.W.Frag)(H:Hp):List RL.D->List V->Prop
 | [],xs=>xs=[]
 | d::r,xs=>∃ x t,xs=x::t/\Rep P K H d x/\af P K H r t
end
mutual
theorem Rep.same{P:Addr->Prop}{K:PySem.W.Frag}{H H':Hp}(e:ax H H'):∀ {d:RL.D} {v:V},Rep P K H d v->Rep P K H' d v
 | .non,v,h=>by simpa[Rep]using h
 | .bl _,v,h=>by simpa[Rep]using h
 | .int _,v,h=>by simpa[Rep]using h
 | .str _,v,h=>by simpa[Rep]using h
 | .tup ds,v,h=>by
  rw[Rep]at h ⊢;obtain⟨a,xs,e1,e2,e3⟩:=h;exact⟨a,xs,e1,e _ _ e2,af.same e e3⟩
 | .lst ds,v,h=>by
  rw[Rep]at h ⊢;obtain⟨a,xs,e1,e0,e2,e3⟩:=h;exact⟨a,xs,e1,e0,e _ _ e2,af.same e e3⟩
 | .dK ks ds,v,h=>by
  rw[Rep]at h ⊢;obtain⟨a,xs,e1,e0,e2,el,e3⟩:=h;exact⟨a,xs,e1,e0,e _ _ e2,el,af.same e e3⟩
 | .dT ks ds,v,h=>by
  rw[Rep]at h ⊢;obtain⟨a,xs,e1,e0,e2,el,e3⟩:=h;exact⟨a,xs,e1,e0,e _ _ e2,el,af.same e e3⟩
 | .scr ds,v,h=>by
  rw[Rep]at h ⊢;obtain⟨a,xs,e1,e2,e3⟩:=h;exact⟨a,xs,e1,jH.same e e2,af.same e e3⟩
 | .exc c,v,h=>by rw[Rep]at h ⊢;exact h.keep fun _ _ _ q=>e _ _ q
theorem af.same{P:Addr->Prop}{K:PySem.W.Frag}{H H':Hp}(e:ax H H'):∀ {ds:List RL.D} {xs:List V},af P K H ds xs->af P K H' ds xs
 | [],xs,h=>by rw[af]at h ⊢;exact h
 | d::r,xs,h=>by
  rw[af]at h ⊢;obtain⟨x,t,e1,e2,e3⟩:=h;exact⟨x,t,e1,Rep.same e e2,af.same e e3⟩
end
mutual
theorem Rep.weak{P P':Addr->Prop}{K:PySem.W.Frag}{H:Hp}(e:∀ a,P' a->P a):∀ {d:RL.D} {v:V},Rep P K H d v->Rep P' K H d v
 | .non,v,h=>by simpa[Rep]using h
 | .bl _,v,h=>by simpa[Rep]using h
 | .int _,v,h=>by simpa[Rep]using h
 | .str _,v,h=>by simpa[Rep]using h
 | .tup ds,v,h=>by
  rw[Rep]at h ⊢;obtain⟨a,xs,e1,e2,e3⟩:=h;exact⟨a,xs,e1,e2,af.weak e e3⟩
 | .lst ds,v,h=>by
  rw[Rep]at h ⊢;obtain⟨a,xs,e1,e0,e2,e3⟩:=h;exact⟨a,xs,e1,fun z=>e0 (e a z),e2,af.weak e e3⟩
 | .dK ks ds,v,h=>by
  rw[Rep]at h ⊢;obtain⟨a,xs,e1,e0,e2,el,e3⟩:=h;exact⟨a,xs,e1,fun z=>e0 (e a z),e2,el,af.weak e e3⟩
 | .dT ks ds,v,h=>by
  rw[Rep]at h ⊢;obtain⟨a,xs,e1,e0,e2,el,e3⟩:=h;exact⟨a,xs,e1,fun z=>e0 (e a z),e2,el,af.weak e e3⟩
 | .scr ds,v,h=>by
  rw[Rep]at h ⊢;obtain⟨a,xs,e1,e2,e3⟩:=h;exact⟨a,xs,e1,e2,af.weak e e3⟩
 | .exc c,v,h=>by rw[Rep]at h ⊢;exact h
theorem af.weak{P P':Addr->Prop}{K:PySem.W.Frag}{H:Hp}(e:∀ a,P' a->P a):∀ {ds:List RL.D} {xs:List V},af P K H ds xs->af P' K H ds xs
 | [],xs,h=>by rw[af]at h ⊢;exact h
 | d::r,xs,h=>by
  rw[af]at h ⊢;obtain⟨x,t,e1,e2,e3⟩:=h;exact⟨x,t,e1,Rep.weak e e2,af.weak e e3⟩
end
def Rep.none{P:Addr->Prop}{K:PySem.W.Frag}(h:Rep P K H d v):Rep nP K H d v:=h.weak fun _ z=>z.elim
mutual
theorem Rep.imm{P P':Addr->Prop}{K:PySem.W.Frag}{H:Hp}:∀ {d:RL.D} {v:V},d.imm=true->Rep P K H d v->Rep P' K H d v
 | .non,v,_,h=>by simpa[Rep]using h
 | .bl _,v,_,h=>by simpa[Rep]using h
 | .int _,v,_,h=>by simpa[Rep]using h
 | .str _,v,_,h=>by simpa[Rep]using h
 | .tup ds,v,i,h=>by
  rw[Rep]at h ⊢;rw[RL.D.imm]at i;obtain⟨a,xs,e1,e2,e3⟩:=h;exact⟨a,xs,e1,e2,af.imm i e3⟩
 | .lst ds,v,i,h=>by rw[RL.D.imm]at i;cases i
 | .dK ks ds,v,i,h=>by rw[RL.D.imm]at i;cases i
 | .dT ks ds,v,i,h=>by rw[RL.D.imm]at i;cases i
 | .scr ds,v,i,h=>by
  rw[Rep]at h ⊢;rw[RL.D.imm]at i;obtain⟨a,xs,e1,e2,e3⟩:=h;exact⟨a,xs,e1,e2,af.imm i e3⟩
 | .exc c,v,i,h=>by rw[Rep]at h ⊢;exact h
theorem af.imm{P P':Addr->Prop}{K:PySem.W.Frag}{H:Hp}:∀ {ds:List RL.D} {xs:List V},RL.au ds=true->af P K H ds xs->af P' K H ds xs
 | [],xs,_,h=>by rw[af]at h ⊢;exact h
 | d::r,xs,i,h=>by
  rw[af]at h ⊢;rw[RL.au,Bool.and_eq_true]at i;obtain⟨x,t,e1,e2,e3⟩:=h;exact⟨x,t,e1,Rep.imm i.1 e2,af.imm i.2 e3⟩
end
abbrev cU(o:HO):Prop:=(∃ xs,o=.lst xs)\/(∃ kvs,o=.dK kvs)\/(∃ kvs,o=.dT kvs)
mutual
theorem Rep.upd{P:Addr->Prop}{K:PySem.W.Frag}{H:Hp}{a:Addr}{o o':HO}(ha:H a=some o)(m:cU o)(p:P a):∀ {d:RL.D} {v:V},Rep P K H d v->Rep P K (upd H a o') d v
 | .non,v,h=>by simpa[Rep]using h
 | .bl _,v,h=>by simpa[Rep]using h
 | .int _,v,h=>by simpa[Rep]using h
 | .str _,v,h=>by simpa[Rep]using h
 | .tup ds,v,h=>by
  rw[Rep]at h ⊢;obtain⟨b,xs,e1,e2,e3⟩:=h;have n:b≠a:=pd e2 ha (by rcases m with⟨z,rfl⟩ | ⟨z,rfl⟩ | ⟨z,rfl⟩<;>(intro q;cases q));exact⟨b,xs,e1,by rw[L2.aI n];exact e2,af.upd ha m p e3⟩
 | .lst ds,v,h=>by
  rw[Rep]at h ⊢;obtain⟨b,xs,e1,e0,e2,e3⟩:=h;have n:b≠a:=fun z=>e0 (z▸p);exact⟨b,xs,e1,e0,by rw[L2.aI n];exact e2,af.upd ha m p e3⟩
 | .dK ks ds,v,h=>by
  rw[Rep]at h ⊢;obtain⟨b,xs,e1,e0,e2,el,e3⟩:=h;have n:b≠a:=fun z=>e0 (z▸p);exact⟨b,xs,e1,e0,by rw[L2.aI n];exact e2,el,af.upd ha m p e3⟩
 | .dT ks ds,v,h=>by
  rw[Rep]at h ⊢;obtain⟨b,xs,e1,e0,e2,el,e3⟩:=h;have n:b≠a:=fun z=>e0 (z▸p);exact⟨b,xs,e1,e0,by rw[L2.aI n];exact e2,el,af.upd ha m p e3⟩
 | .scr ds,v,h=>by
  rw[Rep]at h ⊢;obtain⟨b,xs,e1,e2,e3⟩:=h;refine⟨b,xs,e1,?_,af.upd ha m p e3⟩;rcases e2 with⟨q,e2⟩ | e2
  ·have n:b≠a:=pd e2 ha (by rcases m with⟨z,rfl⟩ | ⟨z,rfl⟩ | ⟨z,rfl⟩<;>(intro q;cases q));exact .inl ⟨q,by rw[L2.aI n];exact e2⟩
  ·exact .inr e2
 | .exc c,v,h=>by
  rw[Rep]at h ⊢;refine h.keep fun b ob u q=>?_;have n:b≠a:=pd q ha (by rcases m with⟨z,rfl⟩ | ⟨z,rfl⟩ | ⟨z,rfl⟩<;>(intro q;cases q));rw[L2.aI n];exact q
theorem af.upd{P:Addr->Prop}{K:PySem.W.Frag}{H:Hp}{a:Addr}{o o':HO}(ha:H a=some o)(m:cU o)(p:P a):∀ {ds:List RL.D} {xs:List V},af P K H ds xs->af P K (upd H a o') ds xs
 | [],xs,h=>by rw[af]at h ⊢;exact h
 | d::r,xs,h=>by
  rw[af]at h ⊢;obtain⟨x,t,e1,e2,e3⟩:=h;exact⟨x,t,e1,Rep.upd ha m p e2,af.upd ha m p e3⟩
end
section lists
variable{K:PySem.W.Frag}
def af.nil:af P K H [] []:=by rw[af]
def af.cons{d:RL.D}{ds:List RL.D}{x:V}{xs:List V}(h:Rep P K H d x)(t:af P K H ds xs):af P K H (d::ds) (x::xs):=by rw[af];exact⟨x,xs,rfl,h,t⟩
def af.length:∀ {ds:List RL.D} {xs:List V},af P K H ds xs->ds.length=xs.length
 | [],xs,h=>by rw[af]at h;rw[h];rfl
 | d::r,xs,h=>by
  rw[af]at h;obtain⟨x,t,rfl,_,e3⟩:=h;rw[List.length_cons,List.length_cons,af.length e3]
def af.append:∀ {ds es:List RL.D} {xs ys:List V},af P K H ds xs->af P K H es ys->af P K H (ds++es) (xs++ys)
 | [],_,xs,_,h,k=>by rw[af]at h;rw[h];exact k
 | d::r,_,xs,_,h,k=>by
  rw[af]at h;obtain⟨x,t,rfl,e2,e3⟩:=h;exact af.cons e2 (af.append e3 k)
def af.get:∀ {ds:List RL.D} {xs:List V} {i:Nat} {d:RL.D},af P K H ds xs->ds[i]?=some d->∃ x,xs[i]?=some x/\Rep P K H d x
 | [],_,i,d,_,e=>by simp at e
 | d::r,xs,0,d',h,e=>by
  rw[af]at h;obtain⟨x,t,rfl,e2,_⟩:=h;simp at e;subst e;exact⟨x,rfl,e2⟩
 | d::r,xs,i+1,d',h,e=>by
  rw[af]at h;obtain⟨x,t,rfl,_,e3⟩:=h;obtain⟨y,h1,h2⟩:=af.get (i:=i) e3 (by simpa using e);exact⟨y,by simpa using h1,h2⟩
def af.set:∀ {ds:List RL.D} {xs:List V} (i:Nat) {d:RL.D} {x:V},af P K H ds xs->Rep P K H d x->af P K H (ds.set i d) (xs.set i x)
 | [],xs,_,_,_,h,_=>by rw[af]at h;rw[h];exact af.nil
 | d::r,xs,0,_,_,h,k=>by
  rw[af]at h;obtain⟨x,t,rfl,_,e3⟩:=h;exact af.cons k e3
 | d::r,xs,i+1,_,_,h,k=>by
  rw[af]at h;obtain⟨x,t,rfl,e2,e3⟩:=h;exact af.cons e2 (af.set i e3 k)
def af.take:∀ {ds:List RL.D} {xs:List V} (n:Nat),af P K H ds xs->af P K H (ds.take n) (xs.take n)
 | _,_,0,_=>by simpa using af.nil
 | [],xs,n+1,h=>by rw[af]at h;rw[h];simpa using af.nil
 | d::r,xs,n+1,h=>by
  rw[af]at h;obtain⟨x,t,rfl,e2,e3⟩:=h;exact af.cons e2 (af.take n e3)
def af.rep(h:af P K H ds xs):∀ n:Nat,af P K H (List.replicate n ds).flatten (List.replicate n xs).flatten
 | 0=>af.nil
 | n+1=>by
  rw[List.replicate_succ,List.replicate_succ,List.flatten_cons,List.flatten_cons];exact af.append h (af.rep h n)
end lists
abbrev RV0(K:PySem.W.Frag)(σD:RL.St)(σ:L2.St)(H:Hp):Prop:=σD.length<=σ.length/\∀ (i:Nat) (d:RL.D),σD[i]?=some (some d)->∃ v,σ[i]?=some (some v)/\Rep nP K H d v
def RV0.same{K:PySem.W.Frag}(h:RV0 K σD σ H)(e:ax H H'):RV0 K σD σ H':=⟨h.1,fun i d q=>by
 obtain⟨v,h1,h2⟩:=h.2 i d q
 exact⟨v,h1,h2.same e⟩⟩
abbrev l7:RL.D->Bool
 | .lst _=>true
 | .dK _ _=>true
 | .dT _ _=>true
 | _=>false
structure Res(K:PySem.W.Frag)(σD:RL.St)(σ:L2.St)(H:Hp)(e:RL.E)(d:RL.D)(v:V)(H':Hp):Prop where
 same:ax H H'
 rep:Rep nP K H' d v
 fresh:RL.aR e=true->l7 d=true->∀ a,v=.ref a->H a=none
 av:∀ M,RL.avE M e=true->∀ P:Addr->Prop,(∀ a,P a->H a≠none)->(∀ (j:Nat) (dj:RL.D) (vj:V),M.contains j=false->σD[j]?=some (some dj)->σ[j]?=some (some vj)->Rep P K H dj vj)->Rep P K H' d v
abbrev tE(K:PySem.W.Frag)(cl:RL.Cl)(e:RL.E):TE:=fun σ H Q=>∃ σD d,RV0 K σD σ H/\RL.ev cl σD e=some d/\∀ v H',Res K σD σ H e d v H'->Q v H'
abbrev SE(X:Cx)(cl:RL.Cl)(e:Expr)(e':RL.E):Prop:=PE X e (tE X.K cl e')
def PE.weak(h:PE X e t)(w:∀ σ H Q,t' σ H Q->t σ H Q):PE X e t':=fun pins s σ H Q I q=>h pins s σ H Q I (w σ H Q q)
abbrev tEs(K:PySem.W.Frag)(cl:RL.Cl)(es:RL.Es):TA:=fun σ H Q=>∃ σD ds,RV0 K σD σ H/\RL.evs cl σD es=some ds/\∀ vs H',ax H H'->af nP K H' ds vs->Q vs H'
abbrev SEs(X:Cx)(cl:RL.Cl)(es:List Expr)(es':RL.Es):Prop:=PA X es (tEs X.K cl es')
section rules
variable{X:Cx}
def two{σD:RL.St}{σ:L2.St}{H:Hp}{x y:RL.D}{R:V->V->Hp->Prop}(rv:RV0 X.K σD σ H)(ea:RL.ev cl σD a'=some x)(eb:RL.ev cl σD b'=some y)
 (k:∀ v u H1 H2,ax H H1->ax H1 H2->Rep nP X.K H2 x v->Rep nP X.K H2 y u->Res X.K σD σ H a' x v H1->Res X.K σD σ H1 b' y u H2->R v u H2) :
  tE X.K cl a' σ H fun v H1=>tE X.K cl b' σ H1 fun u H2=>R v u H2 :=
 ⟨σD,x,rv,ea,fun v H1 r1=>⟨σD,y,rv.same r1.same,eb,fun u H2 r2=>k v u H1 H2 r1.same r2.same (r1.rep.same r2.same) r2.rep r1 r2⟩⟩
def bind_some(h:o.bind f=some y):∃ x,o=some x/\f x=some y:=by
 cases o with
 | none=>cases h
 | some x=>exact⟨x,rfl,h⟩
def map_some(h:o.map f=some y):∃ x,o=some x/\f x=y:=by
 cases o with
 | none=>cases h
 | some x=>exact⟨x,rfl,Option.some.inj h⟩
def bZ:RL.most<=sizeLine:=by decide
def ax.bO(hn:H p=none):ax H (upd H p o):=fun b u e=>by rw[aI (aM e hn)];exact e
def BQ(hN:X.N[i]?=some x)(hv:Vis X.env.scope x)(hd:(x == ("__debug__" : Str))=false)(hcd:(x == ("__classdict__" : Str))=false):SE X cl (.Name x pos) (.var i):=by
 refine PE.weak (gB hN hv hd hcd) fun σ H Q h=>?_;obtain⟨σD,d,rv,e,k⟩:=h
 have e':σD[i]?=some (some d):=by
  obtain⟨o,h1,h2⟩:=bind_some e
  cases o with
  | none=>cases h2
  | some z=>cases h2;exact h1
 obtain⟨v,h1,h2⟩:=rv.2 i d e';refine⟨v,h1,k v H ⟨ax.refl H,h2,fun z=>(by cases z),fun M z P hP av=>?_⟩⟩;rw[RL.avE]at z;exact av i d v (by simpa using z) e' h1
def mm(h:PE X (.Constant k j pos) (tC v))(r:∀ P H,Rep P X.K H d v)(hm:l7 d=false):SE X cl (.Constant k j pos) (.cst d):=by
 refine PE.weak h fun σ H Q q=>?_;obtain⟨σD,d',rv,e,k⟩:=q;cases e;exact k v H ⟨ax.refl H,r _ _,fun z=>(by cases z),fun M z=>nomatch (show false=true from z)⟩
def CO{x:Str}{i:Int}{u:Value}(h:PE X (.Name x pos) (tC (.int i))):SE X cl (.Name x pos) (.glb x i):=by
 refine PE.weak h fun σ H Q q=>?_;obtain⟨σD,d',rv,e,k⟩:=q;cases e;exact k _ H ⟨ax.refl H,(by rw[Rep]),fun z=>(by cases z),fun M z=>nomatch (show false=true from z)⟩
end rules
section rules
variable{X:Cx}
def cS(sm:ax H H')(r:Rep nP X.K H' d v)(im:d.imm=true):Res X.K σD σ H e d v H' where
 same:=sm
 rep:=r
 fresh:=fun _ m=>by
  cases d with
  | lst _=>cases im
  | dK _ _=>cases im
  | dT _ _=>cases im
  | _=>cases m
 av:=fun M _ P _ _=>r.imm im
def xZ:OpR X (binaryOp .FloorDiv) (rI (fun _ j=>0<j/\j<2 ^ 200) fun i j=>.int (i / j)):=opI fun i j _ _ _ _ _ hc q=>by
 refine floordiv_int (by lia) ?_ (.inl (PyProof.noPylong_of_log2 ?_))
 ·rw[Int.fdiv_eq_ediv_of_nonneg _ (by lia)];exact q
 ·have h0:j.natAbs≠0:=by lia
  have h1:j.natAbs<2 ^ 200:=by
   have:=hc.2;omega
  have h2:j.natAbs.log2<200:=(Nat.log2_lt h0).mpr h1;lia
def fw(sm:ax H H1)(hn:H1 p=none)(r:af nP X.K H1 ds xs)(hav:∀ M,RL.avE M e=false):Res X.K σD σ H e (.lst ds) (.ref p) (upd H1 p (.lst xs)) where
 same:=sm.trans (ax.bO hn)
 rep:=by
  rw[Rep];exact⟨p,xs,rfl,fun z=>z,aP,r.same (ax.bO hn)⟩
 fresh:=fun _ _ a z=>by
  cases z;exact sm.free hn
 av:=fun M z=>by rw[hav M]at z;cases z
def gJ(sm:ax H H1)(hn:H1 p=none)(r:af nP X.K H1 ds xs)(hav:∀ M,RL.avE M e=false):Res X.K σD σ H e (.tup ds) (.ref p) (upd H1 p (.tup xs)) where
 same:=sm.trans (ax.bO hn)
 rep:=by
  rw[Rep];exact⟨p,xs,rfl,aP,r.same (ax.bO hn)⟩
 fresh:=fun _ m=>by cases m
 av:=fun M z=>by rw[hav M]at z;cases z
abbrev qm:RL.Bop->Operator
 | .add=>.Add
 | .sub=>.Sub
 | .mul=>.Mult
 | .fdiv=>.FloorDiv
 | .mod=>.Mod
 | .pow=>.Pow
def bq{P:Addr->Prop}{K:PySem.W.Frag}:Rep P K H (.int i) (.int i):=by rw[Rep]
def qU{P:Addr->Prop}{K:PySem.W.Frag}:Rep P K H (.bl i) (.bl i):=by rw[Rep]
def gq{P:Addr->Prop}{K:PySem.W.Frag}:Rep P K H (.str i) (.str i):=by rw[Rep]
def ah{P:Addr->Prop}{K:PySem.W.Frag}(h:Rep P K H (.int i) v):v=.int i:=by rw[Rep]at h;exact h
def bf{P:Addr->Prop}{K:PySem.W.Frag}(h:Rep P K H (.bl i) v):v=.bl i:=by rw[Rep]at h;exact h
def aQ{P:Addr->Prop}{K:PySem.W.Frag}(h:Rep P K H (.str i) v):v=.str i:=by rw[Rep]at h;exact h
abbrev lE(X:Cx)(o:RL.Bop)(r:R2):Prop :=
 ∀ (σD:RL.St) (σ:L2.St) (H H2:Hp) (e:RL.E) (x y d:RL.D) (v u:V) (Q:VK),ax H H2->Rep nP X.K H2 x v->Rep nP X.K H2 y u->RL.aA o x y=some d->(∀ M,RL.avE M e=false) ->
  (∀ w H',Res X.K σD σ H e d w H'->Q w H')->r v u H2 Q
def gg(ho:OpR X (binaryOp (qm o)) r)(ok:lE X o r)(ha:SE X cl a a')(hb:SE X cl b b'):SE X cl (.BinOp a (qm o) b pos) (.bin o a' b'):=by
 refine PE.weak (EM ho ha hb) fun σ H Q h=>?_;obtain⟨σD,d,rv,e,k⟩:=h;obtain⟨x,ea,e⟩:=bind_some e;obtain⟨y,eb,e⟩:=bind_some e;refine two rv ea eb fun v u H1 H2 s1 s2 rx ry _ _=>?_;exact ok σD σ H H2 _ x y d v u Q (s1.trans s2) rx ry e (fun _=>rfl) k
end rules
section rules
variable{X:Cx}{cl:RL.Cl}{a b c:Expr}{a' b' c':RL.E}{pos:Pos}
def cL{α:Type}{c:Prop} [Decidable c]{a d:α}(h:(if c then some a else none)=some d):c/\d=a:=by
 by_cases hc:c
 ·rw[if_pos hc]at h;exact⟨hc,(Option.some.inj h).symm⟩
 ·rw[if_neg hc]at h;cases h
def noN{α:Type}{o:Option α}{d:α}{p:Prop}(e:o=none)(h:o=some d):p:=by rw[e]at h;cases h
def yF{x y d:RL.D}(h:RL.aA .add x y=some d):(∃ i j,x=.int i/\y=.int j/\d=.int (i+j))\/(∃ i j:Str,x=.str i/\y=.str j/\i.length+j.length<=RL.most/\d=.str (i++j)) \/
  (∃ i j,x=.lst i/\y=.lst j/\i.length+j.length<=RL.most/\d=.lst (i++j)) \/
  (∃ i j,x=.tup i/\y=.tup j/\(i.length+j.length<=RL.most/\0<i.length)/\d=.tup (i++j)):=by
 cases x with
 | int i=>cases y with
  | int j=>cases h;exact .inl ⟨i,j,rfl,rfl,rfl⟩
  | _=>exact noN rfl h
 | str i=>cases y with
  |str j=>
   obtain⟨hc,e⟩:=cL h;exact .inr (.inl ⟨i,j,rfl,rfl,hc,e⟩)
  | _=>exact noN rfl h
 | lst i=>cases y with
  |lst j=>
   obtain⟨hc,e⟩:=cL h;exact .inr (.inr (.inl ⟨i,j,rfl,rfl,hc,e⟩))
  | _=>exact noN rfl h
 | tup i=>cases y with
  |tup j=>
   obtain⟨hc,e⟩:=cL h;exact .inr (.inr (.inr ⟨i,j,rfl,rfl,hc,e⟩))
  | _=>exact noN rfl h
 | _=>exact noN rfl h
def zt{x y d:RL.D}(h:RL.aA .mul x y=some d):(∃ i j,x=.int i/\y=.int j/\u7 i j/\d=.int (i*j)) \/
  (∃ i j,x=.lst i/\y=.int j/\(0<=j/\j<=RL.most/\i.length*j.toNat<=RL.most)/\d=.lst (List.replicate j.toNat i).flatten):=by
 cases x with
 | int i=>cases y with
  |int j=>
   obtain⟨hc,e⟩:=cL h;exact .inl ⟨i,j,rfl,rfl,hc,e⟩
  | _=>exact noN rfl h
 | lst i=>cases y with
  |int j=>
   obtain⟨hc,e⟩:=cL h;exact .inr ⟨i,j,rfl,rfl,hc,e⟩
  | _=>exact noN rfl h
 | _=>exact noN rfl h
def hJ{o:RL.Bop}{x y d:RL.D}(h:RL.aA o x y=some d)(ho:o≠.add)(hm:o≠.mul):∃ i j,x=.int i/\y=.int j/\RL.aA o (.int i) (.int j)=some d:=by
 have no:∀ {a b:RL.D},RL.aA .sub a b=none->RL.aA .fdiv a b=none->RL.aA .mod a b=none->RL.aA .pow a b=none->RL.aA o a b=some d->False:=fun e1 e2 e3 e4 h=>by
  cases o with
  | add=>exact ho rfl
  | mul=>exact hm rfl
  | sub=>rw[e1]at h;cases h
  | fdiv=>rw[e2]at h;cases h
  | mod=>rw[e3]at h;cases h
  | pow=>rw[e4]at h;cases h
 cases x with
 | int i=>cases y with
  | int j=>exact⟨i,j,rfl,rfl,h⟩
  | _=>exact(no rfl rfl rfl rfl h).elim
 | _=>exact(no rfl rfl rfl rfl h).elim
def xI{x y d:RL.D}(h:RL.aA .sub x y=some d):∃ i j,x=.int i/\y=.int j/\d=.int (i-j):=by
 obtain⟨i,j,e1,e2,h⟩:=hJ h (by decide) (by decide);cases h;exact⟨i,j,e1,e2,rfl⟩
def x3{x y d:RL.D}(h:RL.aA .fdiv x y=some d):∃ i j,x=.int i/\y=.int j/\(0<j/\j<2 ^ 200)/\d=.int (i / j):=by
 obtain⟨i,j,e1,e2,h⟩:=hJ h (by decide) (by decide);obtain⟨hc,e⟩:=cL h;exact⟨i,j,e1,e2,hc,e⟩
def yK{x y d:RL.D}(h:RL.aA .mod x y=some d):∃ i j,x=.int i/\y=.int j/\0<j/\d=.int (i%j):=by
 obtain⟨i,j,e1,e2,h⟩:=hJ h (by decide) (by decide);obtain⟨hc,e⟩:=cL h;exact⟨i,j,e1,e2,hc,e⟩
def yc{x y d:RL.D}(h:RL.aA .pow x y=some d):∃ i j,x=.int i/\y=.int j/\(0<=j/\j<=1000/\i.natAbs<2 ^ 64)/\d=.int (i ^ j.toNat):=by
 obtain⟨i,j,e1,e2,h⟩:=hJ h (by decide) (by decide);obtain⟨hc,e⟩:=cL h;exact⟨i,j,e1,e2,hc,e⟩
def aC{P:Addr->Prop}{K:PySem.W.Frag}{H:Hp}{ds:List RL.D}{v:V}(h:Rep P K H (.lst ds) v):∃ a xs,v=.ref a/\¬ P a/\H a=some (.lst xs)/\af P K H ds xs:=by rw[Rep]at h;exact h
def bF{P:Addr->Prop}{K:PySem.W.Frag}{H:Hp}{ds:List RL.D}{v:V}(h:Rep P K H (.tup ds) v):∃ a xs,v=.ref a/\H a=some (.tup xs)/\af P K H ds xs:=by rw[Rep]at h;exact h
def Ef:lE X .sub (rI0 fun i j=>.int (i-j)):=by
 intro σD σ H H2 e x y d v u Q sm rx ry h hav k;obtain⟨i,j,rfl,rfl,rfl⟩:=xI h;exact⟨i,j,ah rx,ah ry,k _ _ (cS sm bq rfl)⟩
def AK:lE X .fdiv (rI (fun _ j=>0<j/\j<2 ^ 200) fun i j=>.int (i / j)):=by
 intro σD σ H H2 e x y d v u Q sm rx ry h hav k;obtain⟨i,j,rfl,rfl,hc,rfl⟩:=x3 h;exact⟨i,j,ah rx,ah ry,hc,k _ _ (cS sm bq rfl)⟩
def Dm:lE X .mod (rI (fun _ j=>0<j) fun i j=>.int (i%j)):=by
 intro σD σ H H2 e x y d v u Q sm rx ry h hav k;obtain⟨i,j,rfl,rfl,hc,rfl⟩:=yK h;exact⟨i,j,ah rx,ah ry,hc,k _ _ (cS sm bq rfl)⟩
def C0:lE X .pow (rI BD fun i j=>.int (i ^ j.toNat)):=by
 intro σD σ H H2 e x y d v u Q sm rx ry h hav k;obtain⟨i,j,rfl,rfl,hc,rfl⟩:=yc h;exact⟨i,j,ah rx,ah ry,⟨hc.1,Int.le_trans hc.2.1 (by decide),hc.2.2⟩,k _ _ (cS sm bq rfl)⟩
def DY(ha:SE X cl a a')(hb:SE X cl b b'):SE X cl (.BinOp a .Add b pos) (.bin .add a' b'):=by
 refine gg (o:=.add) (Ek.or (uT.or (Ej.or AW))) ?_ ha hb;intro σD σ H H2 e x y d v u Q sm rx ry h hav k
 rcases yF h with⟨i,j,rfl,rfl,rfl⟩ | ⟨i,j,rfl,rfl,hc,rfl⟩ | ⟨i,j,rfl,rfl,hc,rfl⟩ | ⟨i,j,rfl,rfl,⟨hc,ha⟩,rfl⟩
 ·exact .inl ⟨i,j,ah rx,ah ry,k _ _ (cS sm bq rfl)⟩
 ·exact .inr (.inl ⟨i,j,aQ rx,aQ ry,Nat.le_trans hc bZ,k _ _ (cS sm gq rfl)⟩)
 ·obtain⟨p,xs,e1,_,e2,e3⟩:=aC rx;obtain⟨q,ys,f1,_,f2,f3⟩:=aC ry;refine .inr (.inr (.inl ⟨p,q,xs,ys,e1,f1,e2,f2,?_,fun l hl=>k _ _ (fw sm hl (e3.append f3) hav)⟩));rw[<-e3.length,<-f3.length];exact Nat.le_trans hc bZ
 ·obtain⟨p,xs,e1,e2,e3⟩:=bF rx;obtain⟨q,ys,f1,f2,f3⟩:=bF ry;refine .inr (.inr (.inr ⟨p,q,xs,ys,e1,f1,SqT.of e2,SqT.of f2,fun z=>?_,?_,fun z=>?_,fun _ l hl=>k _ _ (gJ sm hl (e3.append f3) hav)⟩))
  ·rw[e3.length,z]at ha;exact absurd ha (by decide)
  ·rw[<-e3.length,<-f3.length];exact Nat.le_trans hc bZ
  ·have hj:j=[]:=by
    have:=f3.length;rw[z]at this;exact List.length_eq_zero_iff.mp this
   subst hj;rw[List.append_nil]at k;exact k _ _ ⟨sm,e1▸rx,fun _ m=>(by cases m),fun M z=>by rw[hav M]at z;cases z⟩
def DP(ha:SE X cl a a')(hb:SE X cl b b'):SE X cl (.BinOp a .Mult b pos) (.bin .mul a' b'):=by
 refine gg (o:=.mul) (BH.or Df) ?_ ha hb;intro σD σ H H2 e x y d v u Q sm rx ry h hav k
 rcases zt h with⟨i,j,rfl,rfl,hc,rfl⟩ | ⟨i,j,rfl,rfl,hc,rfl⟩
 ·exact .inl ⟨i,j,ah rx,ah ry,hc,k _ _ (cS sm bq rfl)⟩
 ·obtain⟨p,xs,e1,_,e2,e3⟩:=aC rx;refine .inr ⟨p,j,xs,e1,ah ry,e2,?_,?_,?_,fun l hl=>k _ _ (fw sm hl (e3.rep _) hav)⟩
  ·exact Int.le_trans (by decide) hc.1
  ·exact Int.lt_of_le_of_lt hc.2.1 (by decide)
  ·rw[<-e3.length];exact Nat.le_trans hc.2.2 bZ
def BY{o:RL.Bop}(ha:SE X cl a a')(hb:SE X cl b b'):SE X cl (.BinOp a (qm o) b pos) (.bin o a' b'):=by
 cases o with
 | add=>exact DY ha hb
 | mul=>exact DP ha hb
 | sub=>exact gg (o:=.sub) DU Ef ha hb
 | fdiv=>exact gg (o:=.fdiv) xZ AK ha hb
 | mod=>exact gg (o:=.mod) Ez Dm ha hb
 | pow=>exact gg (o:=.pow) Er C0 ha hb
def dU{σD:RL.St}{σ:L2.St}{H H':Hp}{e:RL.E}{k:Bool}(sm:ax H H'):Res X.K σD σ H e (.bl k) (.bl k) H':=cS sm qU rfl
def Dw{rest:List Expr}(ha:SE X cl a a')(hb:SE X cl (.BoolOp .And (b::rest) pos) b'):SE X cl (.BoolOp .And (a::b::rest) pos) (.and a' b'):=by
 refine PE.weak (De ha hb) fun σ H Q h=>?_;obtain⟨σD,d,rv,e,k⟩:=h;obtain⟨x,ea,e⟩:=bind_some e;refine⟨σD,x,rv,ea,fun v H1 r1=>?_⟩
 cases x with
 |bl t=>
  refine⟨t,bf r1.rep,?_⟩
  cases t with
  |true=>
   refine eJ ?_;refine⟨σD,d,rv.same r1.same,e,fun w H2 r2=>k w H2 ?_⟩;exact⟨r1.same.trans r2.same,r2.rep,fun z=>(by cases z),fun M z=>nomatch (show false=true from z)⟩
  |false=>
   refine fq ?_;cases e;exact k _ _ (dU r1.same)
 | _=>cases e
def F8{rest:List Expr}(ha:SE X cl a a')(hb:SE X cl (.BoolOp .Or (b::rest) pos) b'):SE X cl (.BoolOp .Or (a::b::rest) pos) (.or a' b'):=by
 refine PE.weak (ES ha hb) fun σ H Q h=>?_;obtain⟨σD,d,rv,e,k⟩:=h;obtain⟨x,ea,e⟩:=bind_some e;refine⟨σD,x,rv,ea,fun v H1 r1=>?_⟩
 cases x with
 |bl t=>
  refine⟨t,bf r1.rep,?_⟩
  cases t with
  |false=>
   refine fq ?_;refine⟨σD,d,rv.same r1.same,e,fun w H2 r2=>k w H2 ?_⟩;exact⟨r1.same.trans r2.same,r2.rep,fun z=>(by cases z),fun M z=>nomatch (show false=true from z)⟩
  |true=>
   refine eJ ?_;cases e;exact k _ _ (dU r1.same)
 | _=>cases e
def vo{op}(ha:SE X cl a a'):SE X cl (.BoolOp op [a] pos) a':=Dv ha
abbrev tT(K:PySem.W.Frag)(cl:RL.Cl)(e:RL.E):TT:=fun σ H Q=>∃ σD k,RV0 K σD σ H/\(RL.ev cl σD e).bind RL.truth=some k/\∀ H',ax H H'->Q k H'
abbrev ST(X:Cx)(cl:RL.Cl)(e:Expr)(e':RL.E):Prop:=PT X e (tT X.K cl e')
abbrev SW(X:Cx)(cl:RL.Cl)(e:Expr)(e':RL.E):Prop:=PW X e (tT X.K cl e')
def PT.weak{e:Expr}{t t':TT}(h:PT X e t)(w:∀ σ H Q,t' σ H Q->t σ H Q):PT X e t':=fun pins s σ H Q I q=>h pins s σ H Q I (w σ H Q q)
def PW.weak{e:Expr}{t t':TT}(h:PW X e t)(w:∀ σ H Q,t' σ H Q->t σ H Q):PW X e t':=fun wh pins s σ H Q I q=>h wh pins s σ H Q I (w σ H Q q)
def af.isEmpty{P:Addr->Prop}{K:PySem.W.Frag}{H:Hp}{ds:List RL.D}{xs:List V}(h:af P K H ds xs):ds.isEmpty=xs.isEmpty:=by
 cases ds with
 | nil=>rw[af]at h;rw[h];rfl
 |cons d r=>
  rw[af]at h;obtain⟨x,t,rfl,_⟩:=h;rfl
def Cd{K:PySem.W.Frag}{H:Hp}{d:RL.D}{v:V}{k:Bool}(r:Rep nP K H d v)(h:RL.truth d=some k):tV K v H k:=by
 cases d<;>simp only[RL.truth]at h<;>first | (cases h;done) | skip
 case bl t=>cases h;rw[bf r];exact rfl
 case int t =>
  cases h;rw[ah r];simp[tV]
 case tup ds =>
  obtain⟨a,xs,rfl,e,rs⟩:=bF r;cases h;exact .inr (.inl ⟨xs,SqT.of e,by rw[rs.isEmpty]⟩)
 case lst ds =>
  obtain⟨a,xs,rfl,_,e,rs⟩:=aC r;cases h;exact .inl ⟨xs,SqL.of e,by rw[rs.isEmpty]⟩
def yq(ha:SE X cl a a')(he:∀ whole,isTrue a X.env whole=(do let v <- whole;standAt a.pos;holding [v] (truthy v))):ST X cl a a':=by
 refine PT.weak (xM ha he) fun σ H Q h=>?_;obtain⟨σD,k,rv,e,q⟩:=h;obtain⟨d,e1,e2⟩:=bind_some e;exact⟨σD,d,rv,e1,fun v H1 r1=>⟨k,Cd r1.rep e2,q H1 r1.same⟩⟩
def wC{op:BoolOp}(ha:ST X cl a a'):SW X cl (.BoolOp op [a] pos) a':=by
 cases op with
 | And=>exact A3 ha
 | Or=>exact En ha
def wa{σD:RL.St}{k:Bool}(h:(RL.ev cl σD (.and a' b')).bind RL.truth=some k):∃ t,(RL.ev cl σD a').bind RL.truth=some t/\(if t=true then(RL.ev cl σD b').bind RL.truth=some k else k=false):=by
 rw[RL.ev]at h
 cases ea:RL.ev cl σD a' with
 | none=>rw[ea]at h;cases h
 |some x=>
  rw[ea]at h
  cases x with
  |bl t=>
   cases t with
   | true=>exact⟨true,rfl,eJ h⟩
   | false=>exact⟨false,rfl,fq (by cases h;rfl)⟩
  | _=>exact noN rfl h
def yI{σD:RL.St}{k:Bool}(h:(RL.ev cl σD (.or a' b')).bind RL.truth=some k):∃ t,(RL.ev cl σD a').bind RL.truth=some t/\(if t=true then k=true else(RL.ev cl σD b').bind RL.truth=some k):=by
 rw[RL.ev]at h
 cases ea:RL.ev cl σD a' with
 | none=>rw[ea]at h;cases h
 |some x=>
  rw[ea]at h
  cases x with
  |bl t=>
   cases t with
   | true=>exact⟨true,rfl,eJ (by cases h;rfl)⟩
   | false=>exact⟨false,rfl,fq h⟩
  | _=>exact noN rfl h
def Du{rest:List Expr}(ha:ST X cl a a')(hb:SW X cl (.BoolOp .And (b::rest) pos) b'):SW X cl (.BoolOp .And (a::b::rest) pos) (.and a' b'):=by
 refine PW.weak (BL ha hb) fun σ H Q h=>?_;obtain⟨σD,k,rv,e,q⟩:=h;obtain⟨t,e1,e2⟩:=wa e;refine⟨σD,t,rv,e1,fun H1 s1=>?_⟩
 cases t with
 | true=>exact eJ ⟨σD,k,rv.same s1,e2,fun H2 s2=>q H2 (s1.trans s2)⟩
 |false=>
  have e2:k=false:=e2;subst e2;exact fq (q H1 s1)
def EW{rest:List Expr}(ha:ST X cl a a')(hb:SW X cl (.BoolOp .Or (b::rest) pos) b'):SW X cl (.BoolOp .Or (a::b::rest) pos) (.or a' b'):=by
 refine PW.weak (FD ha hb) fun σ H Q h=>?_;obtain⟨σD,k,rv,e,q⟩:=h;obtain⟨t,e1,e2⟩:=yI e;refine⟨σD,t,rv,e1,fun H1 s1=>?_⟩
 cases t with
 |true=>
  have e2:k=true:=e2;subst e2;exact eJ (q H1 s1)
 | false=>exact fq ⟨σD,k,rv.same s1,e2,fun H2 s2=>q H2 (s1.trans s2)⟩
def CH(ha:ST X cl a a'):ST X cl (.UnaryOp .Not a pos) (.not a'):=by
 refine PT.weak (CW ha) fun σ H Q h=>?_;obtain⟨σD,k,rv,e,q⟩:=h;obtain⟨d,e1,e2⟩:=bind_some e;obtain⟨t,e3,e4⟩:=map_some e1;subst e4;cases e2;exact⟨σD,t,rv,e3,fun H1 s1=>q H1 s1⟩
def Cy(hc:ST X cl c c')(ha:SE X cl a a')(hb:SE X cl b b'):SE X cl (.IfExp c a b pos) (.ifx c' a' b'):=by
 refine PE.weak (zg hc ha hb) fun σ H Q h=>?_;obtain⟨σD,d,rv,e,q⟩:=h;obtain⟨t,e1,e2⟩:=bind_some e;refine⟨σD,t,rv,e1,fun H1 s1=>?_⟩;have fin:∀ (a':RL.E) (v:V) (H2:Hp),(∀ M,RL.avE M (.ifx c' a' b')=true->RL.avE M a'=true)->True:=fun _ _ _ _=>trivial
 cases t with
 |true=>
  refine eJ ⟨σD,d,rv.same s1,e2,fun v H2 r2=>q v H2 ⟨s1.trans r2.same,r2.rep,fun z=>(by cases z),fun M z P hP av=>?_⟩⟩;have z:(RL.avE M a'&&RL.avE M b')=true:=z;rw[Bool.and_eq_true]at z;exact r2.av M z.1 P (fun a p=>(Option.ne_none_iff_exists'.mpr (by obtain⟨o,ho⟩:=Option.ne_none_iff_exists'.mp (hP a p);exact⟨o,s1 _ _ ho⟩))) fun j dj vj h1 h2 h3=>(av j dj vj h1 h2 h3).same s1
 |false=>
  refine fq ⟨σD,d,rv.same s1,e2,fun v H2 r2=>q v H2 ⟨s1.trans r2.same,r2.rep,fun z=>(by cases z),fun M z P hP av=>?_⟩⟩;have z:(RL.avE M a'&&RL.avE M b')=true:=z;rw[Bool.and_eq_true]at z;exact r2.av M z.2 P (fun a p=>(Option.ne_none_iff_exists'.mpr (by obtain⟨o,ho⟩:=Option.ne_none_iff_exists'.mp (hP a p);exact⟨o,s1 _ _ ho⟩))) fun j dj vj h1 h2 h3=>(av j dj vj h1 h2 h3).same s1
end rules
section rules
variable{X:Cx}
def BJ(ha:SE X cl a a'):SE X cl (.UnaryOp .Not a pos) (.not a'):=by
 intro pins s σ H Q I h;obtain⟨σD,d,rv,e,k⟩:=h;obtain⟨t,e1,e2⟩:=map_some e;obtain⟨x,e3,e4⟩:=bind_some e1;subst e2;refine UnaryOp_ (thn (ha pins s σ H (fun v H1=>ax H H1/\Rep nP X.K H1 x v) I ⟨σD,x,rv,e3,fun v H1 r1=>⟨r1.same,r1.rep⟩⟩) fun v s1 ⟨y,H1,I1,r1,sm,rp⟩=>?_);refine not_of (thn (wF pins s1 σ H1 y v (fun k H2=>k=t/\H2=H1) I1 r1 ⟨t,Cd rp e4,rfl,rfl⟩) fun k2 s2 ⟨H2,I2,q1,q2⟩=>?_);subst q1;subst q2;exact⟨.bl (!k2),H2,I2,rfl,k _ _ (dU sm)⟩
abbrev noStar:Expr->Bool
 | .Starred _ _=>false
 | _=>true
def aw(es:List Expr)(h:noStar e=true):starEach (e::es) X.env=(false,eval e X.env)::starEach es X.env:=by
 cases e<;>first | rfl | (cases h)
def cN:∀ {es:List Expr} {pos:Pos},es.all noStar=true->(backTo pos (starEach es X.env)).any (·.1)=false
 | [],_,_=>rfl
 | e::es,pos,h=>by
  rw[List.all_cons,Bool.and_eq_true]at h;rw[aw es h.1];show(false || (backTo pos (starEach es X.env)).any (·.1))=false;rw[cN h.2];rfl
def cB:SEs X cl [] .nil:=by
 intro pos pins s σ H Q I h;obtain⟨σD,ds,rv,e,k⟩:=h;cases e;exact cz pos pins s σ H Q I (k [] H (ax.refl H) af.nil)
def bH(he:SE X cl e e')(hr:SEs X cl es es')(hn:noStar e=true):SEs X cl (e::es) (.cons e' es'):=by
 intro pos pins s σ H Q I h;refine bh he hr (aw es hn) pos pins s σ H Q I ?_;obtain⟨σD,ds,rv,e,k⟩:=h;obtain⟨d,e1,e2⟩:=bind_some e;obtain⟨r,e3,e4⟩:=map_some e2;subst e4;refine⟨σD,d,rv,e1,fun v H1 r1=>⟨σD,r,rv.same r1.same,e3,fun vs H2 s2 r2=>k (v::vs) H2 (r1.same.trans s2) (af.cons (r1.rep.same s2) r2)⟩⟩
abbrev eh:RL.Es->Nat
 | .nil=>0
 | .cons _ r=>eh r+1
def l4:∀ {es:RL.Es} {ds:List RL.D},RL.evs cl σD es=some ds->ds.length=eh es
 | .nil,ds,h=>by rw[RL.evs]at h;cases h;rfl
 | .cons e r,ds,h=>by
  obtain⟨d,e1,e2⟩:=bind_some h;obtain⟨t,e3,e4⟩:=map_some e2;subst e4;rw[List.length_cons,l4 e3,eh]
def EK(h:SEs X cl es es')(hl:eh es'<=1000):SE X cl (.Tuple es x1 pos) (.tup es'):=by
 refine PE.weak (EA h) fun σ H Q q=>?_;obtain⟨σD,d,rv,e,k⟩:=q;obtain⟨ds,e1,e2⟩:=map_some e;subst e2;refine⟨σD,ds,rv,e1,fun vs H1 s1 r1=>⟨?_,fun p hp=>k _ _ (gJ s1 hp r1 fun _=>rfl)⟩⟩;rw[<-r1.length,l4 e1];exact Nat.le_of_lt (nW hl)
def Dl(h:SEs X cl es es')(hl:eh es'<=1000):SE X cl (.List es pos) (.lst es'):=by
 refine PE.weak (Cw h) fun σ H Q q=>?_;obtain⟨σD,d,rv,e,k⟩:=q;obtain⟨ds,e1,e2⟩:=map_some e;subst e2;refine⟨σD,ds,rv,e1,fun vs H1 s1 r1=>⟨?_,fun p hp=>k _ _ (fw s1 hp r1 fun _=>rfl)⟩⟩;rw[<-r1.length,l4 e1];exact Nat.le_of_lt (nW hl)
def nK(h:RL.dz xs i=some x):atI xs i=some x:=by
 unfold RL.dz at h;unfold atI ixN;by_cases h0:0<=i
 ·rw[if_pos h0]at h;rw[if_pos h0];obtain⟨h1,_⟩:=List.getElem?_eq_some_iff.mp h;rw[if_pos (by lia)];exact h
 ·rw[if_neg h0]at h;rw[if_neg h0];by_cases h1:-(xs.length:Int)<=i
  ·rw[if_pos h1]at h;rw[if_pos h1];exact h
  ·rw[if_neg h1]at h;cases h
def gY{P:Addr->Prop}{K:PySem.W.Frag}(r:af P K H ds xs)(h:RL.dz ds i=some d):∃ x,RL.dz xs i=some x/\Rep P K H d x:=by
 unfold RL.dz at h ⊢;rw[<-r.length];by_cases h0:0<=i
 ·rw[if_pos h0]at h ⊢;exact r.get h
 ·rw[if_neg h0]at h ⊢;by_cases h1:-(ds.length:Int)<=i
  ·rw[if_pos h1]at h ⊢;exact r.get h
  ·rw[if_neg h1]at h;cases h
abbrev kT:Expr->Bool
 | .Slice _ _ _ _=>false
 | _=>true
def tK(h:kT b=true):sC b:=by
 intro o i
 cases b<;>first | rfl | (cases h)
def xb(h:RL.ixV x y=some d):(∃ xs i,x=.lst xs/\y=.int i/\RL.dz xs i=some d)\/(∃ xs i,x=.tup xs/\y=.int i/\RL.dz xs i=some d) \/
  (∃ (z:Str) (i:Int) (c:Nat),x=.str z/\y=.int i/\z.length<=RL.most/\RL.dz z.cps.toList i=some c/\d=.str ⟨#[c]⟩):=by
 have no:∀ {o:Option RL.D},o=none->o=some d->False:=fun e h=>by rw[e]at h;cases h
 cases x with
 | lst xs=>cases y with
  | int i=>exact .inl ⟨xs,i,rfl,rfl,h⟩
  | _=>exact(no rfl h).elim
 | tup xs=>cases y with
  | int i=>exact .inr (.inl ⟨xs,i,rfl,rfl,h⟩)
  | _=>exact(no rfl h).elim
 | str z=>cases y with
  |int i=>
   by_cases hc:z.length<=RL.most
   ·obtain⟨c,e1,e2⟩:=map_some (show(RL.dz z.cps.toList i).map (fun c=>RL.D.str ⟨#[c]⟩)=some d from(if_pos hc).symm.trans h);exact .inr (.inr ⟨z,i,c,rfl,rfl,hc,e1,e2.symm⟩)
   ·exact(no (if_neg hc) h).elim
  | _=>exact(no rfl h).elim
 | _=>exact(no rfl h).elim
def FA(ha:SE X cl a a')(hb:SE X cl b b')(hs:kT b=true):SE X cl (.Subscript a b pos) (.ix a' b'):=by
 refine PE.weak (zU uX ha hb (tK hs)) fun σ H Q h=>?_;obtain⟨σD,d,rv,e,k⟩:=h;obtain⟨x,ea,e⟩:=bind_some e;obtain⟨y,eb,e⟩:=bind_some e;refine two rv ea eb fun v u H1 H2 s1 s2 rx ry ra rb=>?_
 have fin:∀ (w:V),Rep nP X.K H2 d w->(∀ P:Addr->Prop,Rep P X.K H2 x v->Rep P X.K H2 d w)->Res X.K σD σ H (.ix a' b') d w H2:=fun w h1 h2=>{
  same:=s1.trans s2
  rep:=h1
  fresh:=fun z=>by cases z
  av:=fun M z P hP av=>h2 P ((ra.av M z P hP av).same s2) }
 rcases xb e with⟨xs,i,rfl,rfl,hd⟩ | ⟨xs,i,rfl,rfl,hd⟩ | ⟨z,i,c,rfl,rfl,hz,hd,rfl⟩
 ·obtain⟨p,ys,rfl,_,e2,e3⟩:=aC rx;obtain⟨w,h1,h2⟩:=gY e3 hd;refine .inl ⟨p,ys,i,w,rfl,ah ry,SqL.of e2,nK h1,k _ _ (fin w h2 fun P rp=>?_)⟩;obtain⟨p',ys',q1,_,q2,q3⟩:=aC rp;cases q1;rw[e2]at q2;cases q2;obtain⟨w',h3,h4⟩:=gY q3 hd;rw[h1]at h3;cases h3;exact h4
 ·obtain⟨p,ys,rfl,e2,e3⟩:=bF rx;obtain⟨w,h1,h2⟩:=gY e3 hd;refine .inr (.inl ⟨p,ys,i,w,rfl,ah ry,SqT.of e2,nK h1,k _ _ (fin w h2 fun P rp=>?_)⟩);obtain⟨p',ys',q1,q2,q3⟩:=bF rp;cases q1;rw[e2]at q2;cases q2;obtain⟨w',h3,h4⟩:=gY q3 hd;rw[h1]at h3;cases h3;exact h4
 ·exact .inr (.inr ⟨z,i,c,aQ rx,ah ry,Nat.le_trans hz bZ,nK hd,k _ _ (fin _ gq fun P _=>gq)⟩)
end rules
section rules
def gj:∀ {as bs:List RL.D} {k:Bool},RL.eqs f as bs=some k ->
  ∃ e:Nat->Bool,k=(List.range (min as.length bs.length)).all e/\∀ j x y,as[j]?=some x->bs[j]?=some y->f x y=some (e j)
 | [],bs,k,h=>by
  have h:some true=some k:=by simpa[RL.eqs]using h
  cases h;exact⟨fun _=>true,by simp,fun j x y h1=>by simp at h1⟩
 | a::r,[],k,h=>by
  have h:some true=some k:=by simpa[RL.eqs]using h
  cases h;exact⟨fun _=>true,by simp,fun j x y h1 h2=>by simp at h2⟩
 | a::r,b::s,k,h=>by
  rw[RL.eqs]at h;obtain⟨e0,h1,h2⟩:=bind_some h;obtain⟨k',h3,h4⟩:=map_some h2;obtain⟨e,h5,h6⟩:=gj h3;refine⟨fun j=>match j with | 0=>e0 | j+1=>e j,?_,fun j x y hx hy=>?_⟩
  ·rw[<-h4,h5,List.length_cons,List.length_cons,Nat.succ_min_succ,List.range_succ_eq_map,List.all_cons,List.all_map];rfl
  ·cases j with
   |zero=>
    simp at hx hy;subst hx hy;exact h1
   | succ j=>exact h6 j x y (by simpa using hx) (by simpa using hy)
def fE(h:RL.eqD n x y=some k):(∃ i j,x=.bl i/\y=.bl j/\(i == j)=k)\/(∃ i j,x=.int i/\y=.int j/\(i == j)=k)\/(∃ i j,x=.str i/\y=.str j/\(i == j)=k) \/
  (∃ m i j,n=m+1/\x=.tup i/\y=.tup j/\Option.map (fun k=>k&&i.length == j.length) (RL.eqs (RL.eqD m) i j)=some k)\/(∃ m i j,n=m+1/\x=.lst i/\y=.lst j/\Option.map (fun k=>k&&i.length == j.length) (RL.eqs (RL.eqD m) i j)=some k):=by
 cases n with
 | zero=>cases x with
  | bl i=>cases y with
   | bl j=>exact .inl ⟨i,j,rfl,rfl,Option.some.inj h⟩
   | _=>exact noN rfl h
  | int i=>cases y with
   | int j=>exact .inr (.inl ⟨i,j,rfl,rfl,Option.some.inj h⟩)
   | _=>exact noN rfl h
  | str i=>cases y with
   | str j=>exact .inr (.inr (.inl ⟨i,j,rfl,rfl,Option.some.inj h⟩))
   | _=>exact noN rfl h
  | _=>exact noN rfl h
 | succ m=>cases x with
  | bl i=>cases y with
   | bl j=>exact .inl ⟨i,j,rfl,rfl,Option.some.inj h⟩
   | _=>exact noN rfl h
  | int i=>cases y with
   | int j=>exact .inr (.inl ⟨i,j,rfl,rfl,Option.some.inj h⟩)
   | _=>exact noN rfl h
  | str i=>cases y with
   | str j=>exact .inr (.inr (.inl ⟨i,j,rfl,rfl,Option.some.inj h⟩))
   | _=>exact noN rfl h
  | tup i=>cases y with
   | tup j=>exact .inr (.inr (.inr (.inl ⟨m,i,j,rfl,rfl,rfl,h⟩)))
   | _=>exact noN rfl h
  | lst i=>cases y with
   | lst j=>exact .inr (.inr (.inr (.inr ⟨m,i,j,rfl,rfl,rfl,h⟩)))
   | _=>exact noN rfl h
  | _=>exact noN rfl h
def oh{K:PySem.W.Frag}:∀ (n:Nat) (x y:RL.D) (v:V) (k:Bool),Rep nP K H x v->Rep nP K H y v->RL.eqD n x y=some k->k=true:=by
 intro n
 induction n with
 |zero=>
  intro x y v k rx ry h
  rcases fE h with⟨i,j,rfl,rfl,rfl⟩ | ⟨i,j,rfl,rfl,rfl⟩ | ⟨i,j,rfl,rfl,rfl⟩ | ⟨m,i,j,hn,hx,hy,h⟩ | ⟨m,i,j,hn,hx,hy,h⟩
  ·have:=bf rx;rw[bf ry]at this;cases this;simp
  ·have:=ah rx;rw[ah ry]at this;cases this;simp
  ·have:=aQ rx;rw[aQ ry]at this;cases this;simp
  ·cases hn
  ·cases hn
 |succ n ih=>
  intro x y v k rx ry h
  have seq:∀ (i j:List RL.D) (xs:List V) (k:Bool),af nP K H i xs->af nP K H j xs->Option.map (fun k=>k&&i.length == j.length) (RL.eqs (RL.eqD n) i j)=some k->k=true:=by
   intro i j xs k e3 f3 h;obtain⟨k',h1,h2⟩:=map_some h;obtain⟨e,h3,h4⟩:=gj h1;have hl:i.length=j.length:=e3.length.trans f3.length.symm
   have hk:k'=true:=by
    rw[h3,List.all_eq_true];intro m hm;rw[List.mem_range]at hm;obtain⟨w,w1,w2⟩:=e3.get (i:=m) (d:=i[m]'(by lia)) (by simp);obtain⟨w',w1',w2'⟩:=f3.get (i:=m) (d:=j[m]'(by lia)) (by simp);rw[w1]at w1';cases w1';exact ih _ _ w (e m) w2 w2' (h4 m _ _ (by simp) (by simp))
   rw[<-h2,hk,hl];simp
  rcases fE h with⟨i,j,rfl,rfl,rfl⟩ | ⟨i,j,rfl,rfl,rfl⟩ | ⟨i,j,rfl,rfl,rfl⟩ | ⟨m,i,j,hn,hx,hy,h⟩ | ⟨m,i,j,hn,hx,hy,h⟩
  ·have:=bf rx;rw[bf ry]at this;cases this;simp
  ·have:=ah rx;rw[ah ry]at this;cases this;simp
  ·have:=aQ rx;rw[aQ ry]at this;cases this;simp
  ·cases hn;subst hx;subst hy;obtain⟨p,xs,rfl,e2,e3⟩:=bF rx;obtain⟨q,ys,q1,f2,f3⟩:=bF ry;cases q1;rw[e2]at f2;cases f2;exact seq i j xs k e3 f3 h
  ·cases hn;subst hx;subst hy;obtain⟨p,xs,rfl,_,e2,e3⟩:=aC rx;obtain⟨q,ys,q1,_,f2,f3⟩:=aC ry;cases q1;rw[e2]at f2;cases f2;exact seq i j xs k e3 f3 h
open SeqAt in
def deep(I:Inv X pins σ H s):∀ (n:Nat) (A:Around) (x y:RL.D) (v u:V) (va ua:Value) (k:Bool),A.units+n<cLine->Rep nP X.K H x v->Rep nP X.K H y u->RelV v va->RelV u ua ->
  RL.eqD n x y=some k->RcAt A s va ua k/\EqAt A s va ua k:=by
 intro n
 induction n with
 |zero=>
  intro A x y v u va ua k hu rx ry qx qy h
  rcases fE h with⟨i,j,rfl,rfl,rfl⟩ | ⟨i,j,rfl,rfl,rfl⟩ | ⟨i,j,rfl,rfl,rfl⟩ | ⟨m,i,j,hn,hx,hy,h⟩ | ⟨m,i,j,hn,hx,hy,h⟩
  ·rw[bf rx]at qx;rw[bf ry]at qy;cases qx;cases qy;exact⟨RcAt.bool_bool i j,EqAt.bool_bool i j⟩
  ·rw[ah rx]at qx;rw[ah ry]at qy;obtain⟨t,rfl⟩:=qx;obtain⟨t',rfl⟩:=qy;exact⟨RcAt.int_int i t j t',EqAt.int_int i t j t'⟩
  ·rw[aQ rx]at qx;rw[aQ ry]at qy;obtain⟨t,rfl⟩:=qx;obtain⟨t',rfl⟩:=qy;exact⟨RcAt.str_str i t j t',EqAt.str_str i t j t'⟩
  ·cases hn
  ·cases hn
 |succ n ih=>
  intro A x y v u va ua k hu rx ry qx qy h
  rcases fE h with⟨i,j,rfl,rfl,rfl⟩ | ⟨i,j,rfl,rfl,rfl⟩ | ⟨i,j,rfl,rfl,rfl⟩ | ⟨m,i,j,hn,hx,hy,h⟩ | ⟨m,i,j,hn,hx,hy,h⟩
  ·rw[bf rx]at qx;rw[bf ry]at qy;cases qx;cases qy;exact⟨RcAt.bool_bool i j,EqAt.bool_bool i j⟩
  ·rw[ah rx]at qx;rw[ah ry]at qy;obtain⟨t,rfl⟩:=qx;obtain⟨t',rfl⟩:=qy;exact⟨RcAt.int_int i t j t',EqAt.int_int i t j t'⟩
  ·rw[aQ rx]at qx;rw[aQ ry]at qy;obtain⟨t,rfl⟩:=qx;obtain⟨t',rfl⟩:=qy;exact⟨RcAt.str_str i t j t',EqAt.str_str i t j t'⟩
  ·cases hn;subst hx;subst hy;obtain⟨p,xs,rfl,e2,e3⟩:=bF rx;obtain⟨q,ys,rfl,f2,f3⟩:=bF ry;cases qx;cases qy;obtain⟨its,r1,t1,z1⟩:=I.tuple (SqT.of e2);obtain⟨jts,r2,t2,z2⟩:=I.tuple (SqT.of f2);obtain⟨k',h1,h2⟩:=map_some h;obtain⟨e,h3,h4⟩:=gj h1;have l1:i.length=its.length:=e3.length.trans r1.length;have l2:j.length=jts.length:=f3.length.trans r2.length
   have he:∀ m (g1:m<its.toArray.size) (g2:m<jts.toArray.size),EqAt A.in1 s its.toArray[m] jts.toArray[m] (e m):=fun m g1 g2=>by
    rw[List.size_toArray]at g1 g2;obtain⟨w,w1,w2⟩:=e3.get (i:=m) (d:=i[m]'(by lia)) (by simp);obtain⟨w',w1',w2'⟩:=f3.get (i:=m) (d:=j[m]'(by lia)) (by simp);obtain⟨uu,b1,b2⟩:=r1.get w1;obtain⟨uu',b1',b2'⟩:=r2.get w1'
    have c1:its.toArray[m]=uu:=by simpa using(List.getElem?_eq_some_iff.mp b1).2
    have c2:jts.toArray[m]=uu':=by simpa using(List.getElem?_eq_some_iff.mp b1').2
    rw[c1,c2];exact(ih A.in1 _ _ w w' uu uu' (e m) (by show A.units+1+n<cLine;lia) w2 w2' b2 b2' (h4 m _ _ (by simp) (by simp))).2
   have main:RcAt A s (.ref p) (.ref q) k:=by
    have z:=RcAt.tuples (e:=e) t1 t2 (by lia) he;rw[List.size_toArray,List.size_toArray,<-l1,<-l2,<-h3,h2]at z;exact z
   refine⟨main,?_⟩;by_cases z:p=q
   ·subst z;rw[oh (n+1) _ _ _ k rx ry h];exact EqAt.same _
   ·exact EqAt.of_refs z main
  ·cases hn;subst hx;subst hy;obtain⟨p,xs,rfl,_,e2,e3⟩:=aC rx;obtain⟨q,ys,rfl,_,f2,f3⟩:=aC ry;cases qx;cases qy;obtain⟨its,r1,t1,z1⟩:=I.list (SqL.of e2);obtain⟨jts,r2,t2,z2⟩:=I.list (SqL.of f2);obtain⟨k',h1,h2⟩:=map_some h;obtain⟨e,h3,h4⟩:=gj h1;have l1:i.length=its.length:=e3.length.trans r1.length;have l2:j.length=jts.length:=f3.length.trans r2.length
   have he:∀ m (g1:m<its.toArray.size) (g2:m<jts.toArray.size),EqAt A.in1 s its.toArray[m] jts.toArray[m] (e m):=fun m g1 g2=>by
    rw[List.size_toArray]at g1 g2;obtain⟨w,w1,w2⟩:=e3.get (i:=m) (d:=i[m]'(by lia)) (by simp);obtain⟨w',w1',w2'⟩:=f3.get (i:=m) (d:=j[m]'(by lia)) (by simp);obtain⟨uu,b1,b2⟩:=r1.get w1;obtain⟨uu',b1',b2'⟩:=r2.get w1'
    have c1:its.toArray[m]=uu:=by simpa using(List.getElem?_eq_some_iff.mp b1).2
    have c2:jts.toArray[m]=uu':=by simpa using(List.getElem?_eq_some_iff.mp b1').2
    rw[c1,c2];exact(ih A.in1 _ _ w w' uu uu' (e m) (by show A.units+1+n<cLine;lia) w2 w2' b2 b2' (h4 m _ _ (by simp) (by simp))).2
   have main:RcAt A s (.ref p) (.ref q) k:=by
    by_cases hl:its.length=jts.length
    ·have z:=RcAt.lists (e:=e) t1.isList t2.isList (by rw[List.size_toArray,List.size_toArray];exact hl) (by lia) he;rw[List.size_toArray]at z
     have hk:k=(List.range its.length).all e:=by
      rw[<-h2,h3,l1,l2,hl];simp
     rw[hk];exact z
    ·have hk:k=false:=by
      rw[<-h2,l1,l2];simp[hl]
     rw[hk];exact RcAt.lists_lengths t1.isList t2.isList (by rw[List.size_toArray,List.size_toArray];simpa using hl) (by lia)
   refine⟨main,?_⟩;by_cases z:p=q
   ·subst z;rw[oh (n+1) _ _ _ k rx ry h];exact EqAt.same _
   ·exact EqAt.of_refs z main
end rules
section rules
variable{X:Cx}
open SeqAt in
def Cj(I:Inv X pins σ H s)(n:Nat)(A:Around)(x y:RL.D)(v u:V)(va ua:Value)(k:Bool)(hu:A.units+n<cLine)(rx:Rep nP X.K H x v)(ry:Rep nP X.K H y u)(qx:RelV v va)(qy:RelV u ua)
 (h:RL.eqD n x y=some k):RcNeAt A s va ua (!k):=by
 rcases fE h with⟨i,j,rfl,rfl,rfl⟩ | ⟨i,j,rfl,rfl,rfl⟩ | ⟨i,j,rfl,rfl,rfl⟩ | ⟨nn,i,j,hn,hx,hy,h⟩ | ⟨nn,i,j,hn,hx,hy,h⟩
 ·rw[bf rx]at qx;rw[bf ry]at qy;cases qx;cases qy;exact RcNeAt.bool_bool i j
 ·rw[ah rx]at qx;rw[ah ry]at qy;obtain⟨t,rfl⟩:=qx;obtain⟨t',rfl⟩:=qy;exact RcNeAt.int_int i t j t'
 ·rw[aQ rx]at qx;rw[aQ ry]at qy;obtain⟨t,rfl⟩:=qx;obtain⟨t',rfl⟩:=qy;exact RcNeAt.str_str i t j t'
 ·subst hn;subst hx;subst hy;obtain⟨p,xs,rfl,e2,e3⟩:=bF rx;obtain⟨q,ys,rfl,f2,f3⟩:=bF ry;cases qx;cases qy;obtain⟨its,r1,t1,z1⟩:=I.tuple (SqT.of e2);obtain⟨jts,r2,t2,z2⟩:=I.tuple (SqT.of f2);obtain⟨k',h1,h2⟩:=map_some h;obtain⟨e,h3,h4⟩:=gj h1;have l1:i.length=its.length:=e3.length.trans r1.length;have l2:j.length=jts.length:=f3.length.trans r2.length
  have he:∀ m (g1:m<its.toArray.size) (g2:m<jts.toArray.size),EqAt A.in1 s its.toArray[m] jts.toArray[m] (e m):=fun m g1 g2=>by
   rw[List.size_toArray]at g1 g2;obtain⟨w,w1,w2⟩:=e3.get (i:=m) (d:=i[m]'(by lia)) (by simp);obtain⟨w',w1',w2'⟩:=f3.get (i:=m) (d:=j[m]'(by lia)) (by simp);obtain⟨uu,b1,b2⟩:=r1.get w1;obtain⟨uu',b1',b2'⟩:=r2.get w1'
   have c1:its.toArray[m]=uu:=by simpa using(List.getElem?_eq_some_iff.mp b1).2
   have c2:jts.toArray[m]=uu':=by simpa using(List.getElem?_eq_some_iff.mp b1').2
   rw[c1,c2];exact(deep I nn A.in1 _ _ w w' uu uu' (e m) (by show A.units+1+nn<cLine;lia) w2 w2' b2 b2' (h4 m _ _ (by simp) (by simp))).2
  have z:=RcNeAt.tuples (e:=e) t1 t2 (by lia) he;rw[List.size_toArray,List.size_toArray,<-l1,<-l2,<-h3,h2]at z;exact z
 ·subst hn;subst hx;subst hy;obtain⟨p,xs,rfl,_,e2,e3⟩:=aC rx;obtain⟨q,ys,rfl,_,f2,f3⟩:=aC ry;cases qx;cases qy;obtain⟨its,r1,t1,z1⟩:=I.list (SqL.of e2);obtain⟨jts,r2,t2,z2⟩:=I.list (SqL.of f2);obtain⟨k',h1,h2⟩:=map_some h;obtain⟨e,h3,h4⟩:=gj h1;have l1:i.length=its.length:=e3.length.trans r1.length;have l2:j.length=jts.length:=f3.length.trans r2.length
  have he:∀ m (g1:m<its.toArray.size) (g2:m<jts.toArray.size),EqAt A.in1 s its.toArray[m] jts.toArray[m] (e m):=fun m g1 g2=>by
   rw[List.size_toArray]at g1 g2;obtain⟨w,w1,w2⟩:=e3.get (i:=m) (d:=i[m]'(by lia)) (by simp);obtain⟨w',w1',w2'⟩:=f3.get (i:=m) (d:=j[m]'(by lia)) (by simp);obtain⟨uu,b1,b2⟩:=r1.get w1;obtain⟨uu',b1',b2'⟩:=r2.get w1'
   have c1:its.toArray[m]=uu:=by simpa using(List.getElem?_eq_some_iff.mp b1).2
   have c2:jts.toArray[m]=uu':=by simpa using(List.getElem?_eq_some_iff.mp b1').2
   rw[c1,c2];exact(deep I nn A.in1 _ _ w w' uu uu' (e m) (by show A.units+1+nn<cLine;lia) w2 w2' b2 b2' (h4 m _ _ (by simp) (by simp))).2
  by_cases hl:its.length=jts.length
  ·have z:=RcNeAt.lists (e:=e) t1.isList t2.isList (by rw[List.size_toArray,List.size_toArray];exact hl) (by lia) he;rw[List.size_toArray]at z
   have hk:k=(List.range its.length).all e:=by
    rw[<-h2,h3,l1,l2,hl];simp
   rw[hk];exact z
  ·have hk:k=false:=by
    rw[<-h2,l1,l2];simp[hl]
   rw[hk];exact RcNeAt.lists_lengths t1.isList t2.isList (by rw[List.size_toArray,List.size_toArray];simpa using hl) (by lia)
abbrev d7:RL.Cop->CmpOp
 | .lt=>.Lt
 | .le=>.LtE
 | .gt=>.Gt
 | .ge=>.GtE
 | .eq=>.Eq
 | .ne=>.NotEq
abbrev uv(K:PySem.W.Frag)(c:RL.Cop):R2:=fun v u H Q=>∃ x y k,Rep nP K H x v/\Rep nP K H y u/\RL.bE c x y=some k/\Q (.bl k) H
def ju{c:RL.Cop}(hc:c≠.eq)(hc2:c≠.ne)(h:RL.bE c x y=some k):∃ i j,x=.int i/\y=.int j:=by
 have no:∀ {a b:RL.D},RL.bE .lt a b=none->RL.bE .le a b=none->RL.bE .gt a b=none->RL.bE .ge a b=none->RL.bE c a b=some k->False:=fun e1 e2 e3 e4 h=>by
  cases c with
  | eq=>exact hc rfl
  | ne=>exact hc2 rfl
  | lt=>rw[e1]at h;cases h
  | le=>rw[e2]at h;cases h
  | gt=>rw[e3]at h;cases h
  | ge=>rw[e4]at h;cases h
 cases x with
 | int i=>cases y with
  | int j=>exact⟨_,_,rfl,rfl⟩
  | _=>exact(no rfl rfl rfl rfl h).elim
 | _=>exact(no rfl rfl rfl rfl h).elim
def iw{c:RL.Cop}(hu:X.A.units+100<cLine):OpR X (compareOp (d7 c)) (uv X.K c):=by
 intro pins s σ H x y v u Q I rx ry h;obtain⟨dx,dy,k,ex,ey,e,q⟩:=h
 have fin:EP X pins σ Q (.bool k) s:=⟨.bl k,H,I,rfl,q⟩
 cases c with
 |eq=>
  have e:RL.eqD 8 dx dy=some k:=e;exact(deep I 8 X.A dx dy x y v u k (by lia) ex ey rx ry e).1 X.prog X.w X.xe _ fin
 |ne=>
  obtain⟨k',e1,e2⟩:=map_some (show(RL.eqD 8 dx dy).map not=some k from e);subst e2;exact Cj I 8 X.A dx dy x y v u k' (by lia) ex ey rx ry e1 X.prog X.w X.xe _ fin
 |lt=>
  obtain⟨i,j,rfl,rfl⟩:=ju (by decide) (by decide) e;cases e;rw[ah ex]at rx;rw[ah ey]at ry;obtain⟨t,rfl⟩:=rx;obtain⟨t',rfl⟩:=ry;exact lt_int fin
 |le=>
  obtain⟨i,j,rfl,rfl⟩:=ju (by decide) (by decide) e;cases e;rw[ah ex]at rx;rw[ah ey]at ry;obtain⟨t,rfl⟩:=rx;obtain⟨t',rfl⟩:=ry;exact le_int fin
 |gt=>
  obtain⟨i,j,rfl,rfl⟩:=ju (by decide) (by decide) e;cases e;rw[ah ex]at rx;rw[ah ey]at ry;obtain⟨t,rfl⟩:=rx;obtain⟨t',rfl⟩:=ry;exact gt_int fin
 |ge=>
  obtain⟨i,j,rfl,rfl⟩:=ju (by decide) (by decide) e;cases e;rw[ah ex]at rx;rw[ah ey]at ry;obtain⟨t,rfl⟩:=rx;obtain⟨t',rfl⟩:=ry;exact ge_int fin
def iR{c:RL.Cop}(b:Expr):behindInMarks (d7 c) b=false:=by cases c<;>exact r0 b
def vJ{c:RL.Cop}(h:∃ σD d,RV0 X.K σD σ H/\RL.ev cl σD (.cmp c a' b')=some d/\∀ H',ax H H'->∃ k,d=.bl k/\Q (.bl k) H'):tOp (uv X.K c) (tE X.K cl a') (tE X.K cl b') σ H Q:=by
 obtain⟨σD,d,rv,e,k⟩:=h;obtain⟨x,ea,e⟩:=bind_some e;obtain⟨y,eb,e⟩:=bind_some e;obtain⟨t,e1,e2⟩:=map_some e;refine two rv ea eb fun v u H1 H2 s1 s2 rx ry _ _=>?_;obtain⟨k',h1,h2⟩:=k H2 (s1.trans s2);rw[h1]at e2;cases e2;exact⟨x,y,t,rx,ry,e1,h2⟩
def oA{c:RL.Cop}(e:RL.ev cl σD (.cmp c a' b')=some d):∃ k,d=.bl k:=by
 obtain⟨x,ea,e⟩:=bind_some e;obtain⟨y,eb,e⟩:=bind_some e;obtain⟨t,e1,e2⟩:=map_some e;exact⟨t,e2.symm⟩
def Dc{c:RL.Cop}(hu:X.A.units+100<cLine)(ha:SE X cl a a')(hb:SE X cl b b'):SE X cl (.Compare a [d7 c] [b] pos) (.cmp c a' b'):=by
 refine PE.weak (sL (iw hu) ha hb (iR b)) fun σ H Q h=>?_;obtain⟨σD,d,rv,e,k⟩:=h;obtain⟨t,rfl⟩:=oA e;exact vJ ⟨σD,_,rv,e,fun H' sm=>⟨t,rfl,k _ _ (dU sm)⟩⟩
def DG{c:RL.Cop}(hu:X.A.units+100<cLine)(ha:SE X cl a a')(hb:SE X cl b b'):ST X cl (.Compare a [d7 c] [b] pos) (.cmp c a' b'):=by
 refine PT.weak (mF (iw hu) ha hb (iR b)) fun σ H Q h=>?_;obtain⟨σD,k,rv,e,q⟩:=h;obtain⟨d,e1,e2⟩:=bind_some e;obtain⟨t,rfl⟩:=oA e1;cases e2;exact vJ ⟨σD,_,rv,e1,fun H' sm=>⟨k,rfl,k,rfl,q H' sm⟩⟩
def zF{c c':RL.Cop}(b e:Expr):lastMarks [d7 c,d7 c'] [b,e]=false:=by
 show behindInMarks (d7 c') e=false;exact iR e
def kQ{c c':RL.Cop}(h:RL.ev cl σD (.chain c c' a' b' e')=some d):∃ k,d=.bl k:=by
 obtain⟨x,ea,h⟩:=bind_some h;obtain⟨y,eb,h⟩:=bind_some h;obtain⟨t,e1,h⟩:=bind_some h
 cases t with
 |true=>
  obtain⟨z,ec,h⟩:=bind_some (show(RL.ev cl σD e').bind _=some d from h);obtain⟨t,e1,e2⟩:=map_some h;exact⟨t,e2.symm⟩
 | false=>exact⟨false,(Option.some.inj (show some (RL.D.bl false)=some d from h)).symm⟩
def rJ{c c':RL.Cop}(h:∃ σD k,RV0 X.K σD σ H/\RL.ev cl σD (.chain c c' a' b' e')=some (.bl k)/\∀ H',ax H H'->Q (.bl k) H') :
  pP (uv X.K c) (uv X.K c') (tE X.K cl a') (tE X.K cl b') (tE X.K cl e') σ H Q:=by
 obtain⟨σD,k,rv,h,q⟩:=h;obtain⟨x,ea,h⟩:=bind_some h;obtain⟨y,eb,h⟩:=bind_some h;obtain⟨t,e1,h⟩:=bind_some h;refine two rv ea eb fun v u H1 H2 s1 s2 rx ry _ _=>?_;refine⟨x,y,t,rx,ry,e1,t,rfl,?_⟩;have sm:=s1.trans s2
 cases t with
 |true=>
  rw[if_pos rfl]at h;obtain⟨z,ec,h⟩:=bind_some h;obtain⟨t,e3,e2⟩:=map_some h;cases e2;exact eJ ⟨σD,z,rv.same sm,ec,fun w H3 r3=>⟨y,z,k,ry.same r3.same,r3.rep,e3,q H3 (sm.trans r3.same)⟩⟩
 |false=>
  rw[if_neg (by decide)]at h;cases h;exact fq (q H2 sm)
def yb{c c':RL.Cop}(hu:X.A.units+100<cLine)(ha:SE X cl a a')(hb:SE X cl b b')(he:SE X cl e e'):SE X cl (.Compare a [d7 c,d7 c'] [b,e] pos) (.chain c c' a' b' e'):=by
 refine PE.weak (zu (iw hu) (iw hu) ha hb he (zF b e)) fun σ H Q h=>?_;obtain⟨σD,d,rv,h,k⟩:=h;obtain⟨t,rfl⟩:=kQ h;exact rJ ⟨σD,t,rv,h,fun H' sm=>k _ _ (dU sm)⟩
def yz{c c':RL.Cop}(hu:X.A.units+100<cLine)(ha:SE X cl a a')(hb:SE X cl b b')(he:SE X cl e e'):ST X cl (.Compare a [d7 c,d7 c'] [b,e] pos) (.chain c c' a' b' e'):=by
 refine PT.weak (yr (iw hu) (iw hu) ha hb he (zF b e)) fun σ H Q h=>?_;obtain⟨σD,k,rv,h,q⟩:=h;obtain⟨d,e1,e2⟩:=bind_some h;obtain⟨t,rfl⟩:=kQ e1;cases e2;exact rJ ⟨σD,k,rv,e1,fun H' sm=>⟨k,rfl,q H' sm⟩⟩
end rules
section rules
variable{X:Cx}
def nV{neg:Bool}(b:Expr):behindInMarks (if neg then .IsNot else .Is) b=false:=by cases neg<;>exact r0 b
def sM{neg:Bool}:OpR X (compareOp (if neg then .IsNot else .Is)) (fun x y H Q=>y=.non/\Q (.bl (if neg then !decide (x=.non)else decide (x=.non))) H):=by
 cases neg with
 | true=>exact AD
 | false=>exact DL
def xm(h:RL.ev cl σD (.isN neg a')=some d):∃ x,RL.ev cl σD a'=some x/\∀ v (H:Hp),Rep nP X.K H x v->d=.bl (if neg then !decide (v=.non)else decide (v=.non)):=by
 obtain⟨x,ea,h⟩:=bind_some h;refine⟨x,ea,fun v H r=>?_⟩
 cases x with
 | non=>cases h;rw[Rep]at r;subst r;cases neg<;>rfl
 | bl k=>cases h;rw[bf r];cases neg<;>rfl
 | int k=>cases h;rw[ah r];cases neg<;>rfl
 | str k=>cases h;rw[aQ r];cases neg<;>rfl
 | tup k=>cases h;obtain⟨p,xs,rfl,_⟩:=bF r;cases neg<;>rfl
 | lst k=>cases h;obtain⟨p,xs,rfl,_⟩:=aC r;cases neg<;>rfl
 | scr k=>cases h;rw[Rep]at r;obtain⟨p,xs,rfl,_⟩:=r;cases neg<;>rfl
 | exc k=>cases h;rw[Rep]at r;obtain⟨p,_,_,_,_,rfl,_⟩:=r;cases neg<;>rfl
 | dK _ _=>cases h
 | dT _ _=>cases h
def Ew(ha:SE X cl a a'):SE X cl (.Compare a [if neg then .IsNot else .Is] [.Constant .none j p] pos) (.isN neg a'):=by
 refine PE.weak (sL sM ha pE (nV _)) fun σ H Q h=>?_;obtain⟨σD,d,rv,e,q⟩:=h;obtain⟨x,ea,hx⟩:=xm (X:=X) e;refine⟨σD,_,rv,ea,fun v H1 r1=>⟨rfl,?_⟩⟩;have hd:=hx v H1 r1.rep;subst hd;exact q _ _ (dU r1.same)
def CK(ha:SE X cl a a'):ST X cl (.Compare a [if neg then .IsNot else .Is] [.Constant .none j p] pos) (.isN neg a'):=by
 refine PT.weak (mF sM ha pE (nV _)) fun σ H Q h=>?_;obtain⟨σD,k,rv,e,q⟩:=h;obtain⟨d,e1,e2⟩:=bind_some e;obtain⟨x,ea,hx⟩:=xm (X:=X) e1;refine⟨σD,_,rv,ea,fun v H1 r1=>⟨rfl,?_⟩⟩;have hd:=hx v H1 r1.rep;subst hd;cases e2;exact⟨_,rfl,q _ r1.same⟩
def gF{P:Addr->Prop}{K:PySem.W.Frag}(h:RL.items d=some ds)(r:Rep P K H d v):∃ p xs,v=.ref p/\((H p=some (.lst xs)/\d=.lst ds)\/(H p=some (.tup xs)/\d=.tup ds))/\af P K H ds xs:=by
 cases d<;>simp only[RL.items]at h<;>first | (cases h;done) | skip
 case lst ys=>cases h;obtain⟨p,xs,e1,_,e2,e3⟩:=aC r;exact⟨p,xs,e1,.inl ⟨e2,rfl⟩,e3⟩
 case tup ys=>cases h;obtain⟨p,xs,e1,e2,e3⟩:=bF r;exact⟨p,xs,e1,.inr ⟨e2,rfl⟩,e3⟩
abbrev uo:Expr->Bool
 | .Set _ _ _=>false
 | _=>true
def og(h:uo b=true):behindInMarks op b=false:=by
 cases b<;>first | rfl | (cases h)
abbrev spF(K:PySem.W.Frag)(cl:RL.Cl)(f:Nat):Sp:=fun vs H Q _=>∃ ds d,af nP K H ds vs/\cl f ds=some d/\∀ v H',ax H H'->Rep (fun p=>H p≠none) K H' d v->Q v H'
def B1(F:d5 X.prog X.w X.K X.mg X.base CX0 k fa fd ps (spF X.K cl f))(hr:cw k X.A)(hg:Gl X x)
 (hm:X.mg x=some (.ref fa))(hk:PySem.W.keepIn X.K (.ref fa)=true)(hb:Binds X.K fd ps [])(he:SEs X cl (e::es) (.cons e' es'))(hdb:(x == ("__debug__" : Str))=false)(hn:noStar e=true)(hns:es.all noStar=true) :
  SE X cl (.Call (.Name x p) (e::es) [] pos) (.call f (.cons e' es')):=by
 refine PE.weak (tf F hr hg hm hk hb .nil uS he hdb (aw es hn) (cN hns)) fun σ H Q h=>?_;obtain⟨σD,d,rv,ev,q⟩:=h;obtain⟨ds,e1,e2⟩:=bind_some ev;refine⟨σD,ds,rv,e1,fun vs H1 s1 r1=>?_⟩;show spF X.K cl f (vs++[]) H1 Q E0;rw[List.append_nil];refine⟨ds,d,r1,e2,fun v H2 s2 r2=>q v H2 ⟨s1.trans s2,r2.none,fun _ m a z=>?_,fun M _ P hP _=>?_⟩⟩
 ·subst z
  have hh:H1 a=none:=by
   cases d with
   | lst ds=>obtain⟨p,xs,e1,e2,_⟩:=aC r2;cases e1;exact Classical.byContradiction e2
   | dK ks ds=>rw[Rep]at r2;obtain⟨p,xs,e1,e2,_⟩:=r2;cases e1;exact Classical.byContradiction e2
   | dT ks ds=>rw[Rep]at r2;obtain⟨p,xs,e1,e2,_⟩:=r2;cases e1;exact Classical.byContradiction e2
   | _=>cases m
  exact s1.free hh
 ·refine r2.weak fun a z=>?_;obtain⟨o,ho⟩:=Option.ne_none_iff_exists'.mp (hP a z);rw[s1 _ _ ho]
  exact fun q=>nomatch q
end rules
abbrev Off(P:Addr->Prop)(H H':Hp):Prop:=∀ b o,¬ P b->H b=some o->H' b=some o
def Off.same{H H':Hp}(h:ax H H'){P:Addr->Prop}:Off P H H':=fun b o _ e=>h b o e
mutual
theorem Rep.off{P:Addr->Prop}{K:PySem.W.Frag}{H H':Hp}(hm:∀ b o,P b->H b=some o->cU o)(k:Off P H H'):∀ {d:RL.D} {v:V},Rep P K H d v->Rep P K H' d v
 | .non,v,h=>by simpa[Rep]using h
 | .bl _,v,h=>by simpa[Rep]using h
 | .int _,v,h=>by simpa[Rep]using h
 | .str _,v,h=>by simpa[Rep]using h
 | .tup ds,v,h=>by
  rw[Rep]at h ⊢;obtain⟨b,xs,e1,e2,e3⟩:=h
  have n:¬ P b:=fun p=>by rcases hm b _ p e2 with⟨z,q⟩ | ⟨z,q⟩ | ⟨z,q⟩<;>cases q
  exact⟨b,xs,e1,k _ _ n e2,af.off hm k e3⟩
 | .lst ds,v,h=>by
  rw[Rep]at h ⊢;obtain⟨b,xs,e1,e0,e2,e3⟩:=h;exact⟨b,xs,e1,e0,k _ _ e0 e2,af.off hm k e3⟩
 | .dK ks ds,v,h=>by
  rw[Rep]at h ⊢;obtain⟨b,xs,e1,e0,e2,el,e3⟩:=h;exact⟨b,xs,e1,e0,k _ _ e0 e2,el,af.off hm k e3⟩
 | .dT ks ds,v,h=>by
  rw[Rep]at h ⊢;obtain⟨b,xs,e1,e0,e2,el,e3⟩:=h;exact⟨b,xs,e1,e0,k _ _ e0 e2,el,af.off hm k e3⟩
 | .scr ds,v,h=>by
  rw[Rep]at h ⊢;obtain⟨b,xs,e1,e2,e3⟩:=h;refine⟨b,xs,e1,?_,af.off hm k e3⟩;rcases e2 with⟨q,e2⟩ | e2
  ·have n:¬ P b:=fun p=>by rcases hm b _ p e2 with⟨z,q⟩ | ⟨z,q⟩ | ⟨z,q⟩<;>cases q
   exact .inl ⟨q,k _ _ n e2⟩
  ·exact .inr e2
 | .exc c,v,h=>by
  rw[Rep]at h ⊢;exact h.keep fun b ob u q=>k _ _ (fun p=>by rcases hm b _ p q with⟨z,y⟩ | ⟨z,y⟩ | ⟨z,y⟩<;>cases y) q
theorem af.off{P:Addr->Prop}{K:PySem.W.Frag}{H H':Hp}(hm:∀ b o,P b->H b=some o->cU o)(k:Off P H H'):∀ {ds:List RL.D} {xs:List V},af P K H ds xs->af P K H' ds xs
 | [],xs,h=>by rw[af]at h ⊢;exact h
 | d::r,xs,h=>by
  rw[af]at h ⊢;obtain⟨x,t,e1,e2,e3⟩:=h;exact⟨x,t,e1,Rep.off hm k e2,af.off hm k e3⟩
end
structure ib(K:PySem.W.Frag)(J:L2.It)(ds:List RL.D)(P:Addr->Prop)(H:Hp):Prop where
 go:∀ H' i,Off P H H'->i<ds.length->J.go i H'
 stop:∀ H',Off P H H'->J.stop ds.length H'
 yld:∀ H' i d x H2,Off P H H'->ds[i]?=some d->J.yld i H' x H2->ax H' H2/\(d.imm=true\/ax H H'->Rep nP K H2 d x)
abbrev zM(K:PySem.W.Frag)(σD:RL.St)(σ:L2.St)(H:Hp)(it:RL.It)(J:L2.It)(ds:List RL.D)(H1:Hp):Prop :=
 ib K J ds nP H1/\∀ (M:List Nat) (P:Addr->Prop),RL.rF M it=true->(∀ b,P b->∃ o,H b=some o/\cU o)->(∀ (j:Nat) (dj:RL.D) (vj:V),M.contains j=false->σD[j]?=some (some dj)->σ[j]?=some (some vj)->Rep P K H dj vj)->ib K J ds P H1
abbrev tI(K:PySem.W.Frag)(cl:RL.Cl)(it:RL.It):TI:=fun σ H R=>∃ σD ds,RV0 K σD σ H/\RL.bB cl σD it=some ds/\∀ J H1,ax H H1->zM K σD σ H it J ds H1->R J H1
abbrev SI(X:Cx)(cl:RL.Cl)(tg iter:Expr)(it:RL.It):Prop:=PI X tg iter (tI X.K cl it)
def PI.weak{X:Cx}{tg iter:Expr}{t t':TI}(h:PI X tg iter t)(w:∀ σ H R,t' σ H R->t σ H R):PI X tg iter t':=fun pins s σ H R I q=>h pins s σ H R I (w σ H R q)
def gE{K:PySem.W.Frag}{P:Addr->Prop}{H H':Hp}{d:RL.D}{v:V}(hm:∀ b o,P b->H b=some o->cU o)(k:Off P H H')(r:Rep nP K H d v)(i:d.imm=true):Rep nP K H' d v :=
 ((r.imm i).off hm k).imm i
def t9{K:PySem.W.Frag}{H:Hp}{a:Addr}{ds:List RL.D}{xs:List V}{P:Addr->Prop}(h:H a=some (.lst xs))(r:af nP K H ds xs)(hp:¬ P a)(hm:∀ b o,P b->H b=some o->cU o):ib K (Itl K a) ds P H where
 go:=fun H' i k hi=>by
  obtain⟨x,e,_⟩:=r.get (i:=i) (d:=ds[i]) (by simp[hi]);exact⟨xs,x,SqL.of (k _ _ hp h),e⟩
 stop:=fun H' k=>⟨xs,SqL.of (k _ _ hp h),by rw[r.length];exact Nat.le_refl _⟩
 yld:=fun H' i d x H2 k e y=>by
  obtain⟨z,y⟩:=y;subst z;have hx:=y xs (SqL.of (k _ _ hp h));obtain⟨x',e1,e2⟩:=r.get e;rw[hx]at e1;cases e1;refine⟨ax.refl _,fun q=>?_⟩;rcases q with q | q
  ·exact gE hm k e2 q
  ·exact e2.same q
def wc{K:PySem.W.Frag}{H:Hp}{a:Addr}{ds:List RL.D}{xs:List V}{P:Addr->Prop}(h:H a=some (.tup xs))(r:af nP K H ds xs)(hm:∀ b o,P b->H b=some o->cU o):ib K (Itt K a) ds P H:=by
 have hp:¬ P a:=fun p=>by rcases hm a _ p h with⟨z,q⟩ | ⟨z,q⟩ | ⟨z,q⟩<;>cases q
 exact {
  go:=fun H' i k hi=>by
   obtain⟨x,e,_⟩:=r.get (i:=i) (d:=ds[i]) (by simp[hi]);exact⟨xs,x,SqT.of (k _ _ hp h),e⟩
  stop:=fun H' k=>⟨xs,SqT.of (k _ _ hp h),by rw[r.length];exact Nat.le_refl _⟩
  yld:=fun H' i d x H2 k e y=>by
   obtain⟨z,y⟩:=y;subst z;have hx:=y xs (SqT.of (k _ _ hp h));obtain⟨x',e1,e2⟩:=r.get e;rw[hx]at e1;cases e1;refine⟨ax.refl _,fun q=>?_⟩;rcases q with q | q
   ·exact gE hm k e2 q
   ·exact e2.same q }
def lD:∀ (n:Nat) (lo:Int) (i:Nat) (d:RL.D),(RL.cE lo n)[i]?=some d->d=.int (lo+i)
 | 0,lo,i,d,h=>by simp[RL.cE]at h
 | n+1,lo,0,d,h=>by simp[RL.cE]at h;simp[h]
 | n+1,lo,i+1,d,h=>by
  rw[RL.cE,List.getElem?_cons_succ]at h;rw[lD n (lo+1) i d h];congr 1;lia
def jv:∀ (n:Nat) (lo:Int),(RL.cE lo n).length=n
 | 0,_=>rfl
 | n+1,lo=>by rw[RL.cE,List.length_cons,jv n]
def my{K:PySem.W.Frag}{H:Hp}{lo:Int}{n:Nat}{P:Addr->Prop}:ib K (Itr lo n) (RL.cE lo n) P H where
 go:=fun H' i k hi=>by rw[jv]at hi;exact hi
 stop:=fun H' k=>by rw[jv];exact Nat.le_refl _
 yld:=fun H' i d x H2 k e y=>by
  obtain⟨z,y⟩:=y;subst z;refine⟨ax.refl _,fun _=>?_⟩;rw[lD n lo i d e,y];exact bq
section rules
variable{X:Cx}{cl:RL.Cl}{tg a b l:Expr}{a' b' e':RL.E}{pos p:Pos}
def F6{t t':TE}{l:Expr}(hl:PE X l t):PI X tg l (fun σ H R=>t σ H fun x H1=>(∃ a,x=.ref a/\(∃ xs,SqL X.K H1 a xs)/\R (Itl X.K a) H1)\/(∃ a,x=.ref a/\(∃ xs,SqT X.K H1 a xs)/\R (Itt X.K a) H1)):=by
 intro pins s σ H R I h;refine thn (hl pins s σ H _ I h) fun v s1 ⟨x,H1,I1,r1,q1⟩=>?_
 rcases q1 with⟨a,e,⟨xs,hq⟩,q⟩ | ⟨a,e,⟨xs,hq⟩,q⟩
 ·subst e;cases r1;obtain⟨its,rv,p,hz⟩:=I1.list hq;refine wpAny_pyIter_list p.isList ⟨s1.heap.objs.size,[s1.heap.objs.size],_,_,H1,rfl,I1.kept (t':=s1.toks) fun b o e=>Heap.get?_push_of_some _ e,wU a _,⟨_,Heap.get?_push_size _ rfl,rfl,rfl⟩,fun b hb=>?_,q⟩;rw[show b=s1.heap.objs.size by simpa using hb];exact I1.nD (Nat.le_refl _) (I1.hok.fresh (Nat.le_refl _))
 ·subst e;cases r1;obtain⟨its,rv,p,hz⟩:=I1.tuple hq;refine wpAny_pyIter_tuple (show s1.heap.IsTuple a its.toArray from p) ⟨s1.heap.objs.size,[s1.heap.objs.size],_,_,H1,rfl,I1.kept (t':=s1.toks) fun b o e=>Heap.get?_push_of_some _ e,uD a _,⟨_,Heap.get?_push_size _ rfl,rfl,rfl⟩,fun b hb=>?_,q⟩;rw[show b=s1.heap.objs.size by simpa using hb];exact I1.nD (Nat.le_refl _) (I1.hok.fresh (Nat.le_refl _))
def lP{σD:RL.St}{σ:L2.St}{H H1:Hp}{d:RL.D}{v:V}{M:List Nat}{P:Addr->Prop}(r1:Res X.K σD σ H e' d v H1)(z:(RL.avE M e' || RL.aR e')=true)(hP:∀ b,P b->∃ o,H b=some o/\cU o)
 (av:∀ (j:Nat) (dj:RL.D) (vj:V),M.contains j=false->σD[j]?=some (some dj)->σ[j]?=some (some vj)->Rep P X.K H dj vj):∀ ds a,d=.lst ds->v=.ref a->¬ P a:=by
 intro ds a hd hv;subst hd hv;rw[Bool.or_eq_true]at z;rcases z with z | z
 ·obtain⟨p,xs,e1,e2,_⟩:=aC (r1.av M z P (fun b q=>by obtain⟨o,ho,_⟩:=hP b q;rw[ho];exact fun z=>nomatch z) av);cases e1;exact e2
 ·intro q;obtain⟨o,ho,_⟩:=hP a q;rw[r1.fresh z rfl a rfl]at ho;cases ho
def eE{P:Addr->Prop}{H H1:Hp}(s:ax H H1)(hP:∀ b,P b->∃ o,H b=some o/\cU o):∀ b o,P b->H1 b=some o->cU o:=fun b o q e=>by
 obtain⟨o',ho,m⟩:=hP b q;rw[s _ _ ho]at e;cases e;exact m
def gA{H1:Hp}:∀ b o,nP b->H1 b=some o->cU o:=fun b o q=>q.elim
def DX(hl:SE X cl l e')(hs:True):PI X tg l (fun σ H R=>∃ σD d ds,RV0 X.K σD σ H/\RL.ev cl σD e'=some d/\RL.items d=some ds/\∀ J H1,ax H H1->zM X.K σD σ H (.seq e') J ds H1->R J H1):=by
 refine PI.weak (F6 (t':=tE X.K cl e') hl) fun σ H R h=>?_;obtain⟨σD,d,ds,rv,e,ei,k⟩:=h;refine⟨σD,d,rv,e,fun v H1 r1=>?_⟩;obtain⟨p,xs,rfl,hp,rs⟩:=gF ei r1.rep
 rcases hp with⟨hp,rfl⟩ | ⟨hp,rfl⟩
 ·refine .inl ⟨p,rfl,⟨xs,SqL.of hp⟩,k _ _ r1.same ⟨t9 hp rs (fun z=>z) gA,fun M P z hP av=>t9 hp rs (lP r1 z hP av _ _ rfl rfl) (eE r1.same hP)⟩⟩
 ·exact .inr ⟨p,rfl,⟨xs,SqT.of hp⟩,k _ _ r1.same ⟨wc hp rs gA,fun M P z hP av=>wc hp rs (eE r1.same hP)⟩⟩
def j5{x y:RL.D}{ds:List RL.D}(h:RL.c8 x y=some ds):∃ i j:Int,x=.int i/\y=.int j/\(-(2 ^ 62)<=i/\i<2 ^ 62/\-(2 ^ 62)<=j/\j<2 ^ 62)/\(j-i).toNat<=RL.most/\ds=RL.cE i (j-i).toNat:=by
 have no:∀ {o:Option (List RL.D)},o=none->o=some ds->False:=fun e h=>by rw[e]at h;cases h
 cases x with
 | int i=>cases y with
  |int j=>
   obtain⟨hc,e⟩:=cL h
   have lo:-(2 ^ 62:Int)<=-(2 ^ 60):=by decide
   have hi:(2 ^ 60:Int)<2 ^ 62:=by decide
   exact⟨i,j,rfl,rfl,⟨Int.le_trans lo hc.2.1,Int.lt_trans hc.2.2.1 hi,Int.le_trans lo hc.2.2.2.1,Int.lt_trans hc.2.2.2.2 hi⟩,hc.1,e⟩
  | _=>exact(no rfl h).elim
 | _=>exact(no rfl h).elim
def A4(hg:Gl X "range")(hm:X.mg "range" = none)(ha:SE X cl a a')(hn:noStar a=true):SI X cl tg (.Call (.Name "range" p) [a] [] pos) (.rng1 a'):=by
 refine PI.weak (wI hg hm (bH (cl:=cl) ha cB hn) (aw [] hn)) fun σ H R h=>?_;obtain⟨σD,ds,rv,e,k⟩:=h;obtain⟨x,ea,e⟩:=bind_some e;obtain⟨i,j,e1,rfl,hb,_,rfl⟩:=j5 e;cases e1;refine⟨σD,[.int j],rv,by rw[RL.evs,ea];rfl,fun vs H1 s1 r1=>?_⟩;rw[af]at r1;obtain⟨v,t,rfl,r2,r3⟩:=r1;rw[af]at r3;subst r3;refine⟨j,by rw[ah r2],hb.2.2.1,hb.2.2.2,?_⟩
 have hz:(j-0).toNat=j.toNat:=by simp
 rw[hz]at k;exact k _ _ s1 ⟨my,fun _ _ _ _ _=>my⟩
def B4(hg:Gl X "range")(hm:X.mg "range" = none)(ha:SE X cl a a')(hb:SE X cl b b')(hn:noStar a=true)(hn2:noStar b=true):SI X cl tg (.Call (.Name "range" p) [a,b] [] pos) (.rng2 a' b'):=by
 refine PI.weak (vE hg hm (bH (cl:=cl) ha (bH hb cB hn2) hn) (by rw[aw _ hn,aw _ hn2];rfl) (aw [] hn2)) fun σ H R h=>?_;obtain⟨σD,ds,rv,e,k⟩:=h;obtain⟨x,ea,e⟩:=bind_some e;obtain⟨y,eb,e⟩:=bind_some e;obtain⟨i,j,rfl,rfl,hb,_,rfl⟩:=j5 e;refine⟨σD,[.int i,.int j],rv,by rw[RL.evs,ea,RL.evs,eb];rfl,fun vs H1 s1 r1=>?_⟩;rw[af]at r1;obtain⟨v,t,rfl,r2,r3⟩:=r1;rw[af]at r3;obtain⟨u,t,rfl,r4,r5⟩:=r3;rw[af]at r5;subst r5;exact⟨i,j,by rw[ah r2,ah r4],hb,k _ _ s1 ⟨my,fun _ _ _ _ _=>my⟩⟩
end rules
end RS
namespace L2
open PySem PySem.Spec PyProof.Rows
abbrev gw(ifs:List Expr)(env:Env):Sem Bool:=forIn ifs true fun c r=>if r=true then do let ok <- isTrue c env (eval c env);pure (ForInStep.yield ok)else pure (ForInStep.yield r)
section
def DM(h:wpAny M A m P (fun _ _=>False) s):wpAny M A m P E s :=
 wpAny_mono h (fun _ _ q=>q) fun _ _ z=>z.elim
def du(h:wpAny M A m (fun a s1=>wpAny M A (k a) P E s1) (fun _ _=>False) s):wpAny M A (m >>= k) P E s:=wpAny_bind (DM h)
end
section
abbrev oj(prog:Program)(w:World)(A:Around)(elt tg:Expr)(ifs:List Expr)(it acc:Value)(env:Env)(stop next:Shared->Prop)(s:Shared):Prop :=
 wpAny (model prog w) A (pyNext it) (fun r s1=>match r with
  | none=>stop s1
  | some v=>wpAny (model prog w) A (letOwnedTupleGo tg it v) (fun _ s2=>wpAny (model prog w) A (assign tg env v) (fun _ s3=>wpAny (model prog w) A (gw ifs env) (fun ok s4 =>
     if ok=true then wpAny (model prog w) A (eval elt env) (fun x s5=>wpAny (model prog w) A (call (.builtin "list.append") [acc,x]) (fun _ s6=>next s6) (fun _ _=>False) s5) (fun _ _=>False) s4
     else next s4) (fun _ _=>False) s3) (fun _ _=>False) s2) (fun _ _=>False) s1) (fun _ _=>False) s
def xG(h:oj prog w A elt tg ifs it acc env stop next s) :
  wpAny (model prog w) A (compTurn (.ListComp elt [⟨tg,iter,ifs,0⟩] scope pos) 0 it acc env) (fun fin s'=>match fin with
   | .done f=>f=.next/\stop s'
   | .again c=>c=.compLoop (.ListComp elt [⟨tg,iter,ifs,0⟩] scope pos) 0 it acc env/\next s') E s:=by
 rw[compTurn_list];apply wpAny_bind;apply wpAny_standAt;apply du;refine thn h fun r s1 h1=>?_
 cases r with
 |none=>
  apply wpAny_pure;exact⟨rfl,h1⟩
 |some v=>
  apply du;refine thn h1 fun _ s2 h2=>?_;apply du;refine thn h2 fun _ s3 h3=>?_;apply du;refine thn h3 fun ok s4 h4=>?_;cases ok
  ·apply wpAny_pure;exact⟨rfl,h4⟩
  ·apply wpAny_bind;apply du;refine thn h4 fun x s5 h5=>?_;apply du;refine thn h5 fun _ s6 h6=>?_;apply wpAny_pure;apply wpAny_pure;exact⟨rfl,h6⟩
def vG(I:Nat->Shared->Prop)(turn:∀ n s,I n s->oj prog w A elt tg ifs it acc env (R (.ok .next)) (fun s'=>∃ m,m<n/\I m s') s)
 (n:Nat)(h:I n s):codeAny (model prog w) A (.compLoop (.ListComp elt [⟨tg,iter,ifs,0⟩] scope pos) 0 it acc env) R s :=
 codeAny_loop (M:=model prog w) rfl I (fun n s hI=>wpAny_noted (thn (xG (turn n s hI)) fun fin s' q=>by
  cases fin with
  |done f=>
   obtain⟨rfl,q⟩:=q;exact q
  | again c=>exact q)) n h
end
def kz:∀ (names:List (Str × NameKind)) (n:Nat) (acc:List (Str × Addr)) (x:Str) (c:Addr),(cellsFrom n names acc).lookup x=some c->(acc.lookup x=some c/\(x,NameKind.cell)∉names)\/(n<=c/\(x,NameKind.cell)∈names)
 | [],n,acc,x,c,h=>.inl ⟨h,by simp⟩
 | (nm,k)::r,n,acc,x,c,h=>by
  unfold cellsFrom at h;by_cases hk:(k == NameKind.cell)=true
  ·rw[if_pos hk]at h
   have ek:k=.cell:=by simpa using hk
   subst ek
   rcases kz r (n+1) ((nm,n)::acc) x c h with⟨a,b⟩ | ⟨a,b⟩
   ·rw[List.lookup_cons]at a
    cases hx:x == nm with
    |true=>
     rw[hx]at a;cases a
     have:x=nm:=by simpa using hx
     subst this;exact .inr ⟨Nat.le_refl _,List.mem_cons_self ..⟩
    |false=>
     rw[hx]at a;refine .inl ⟨a,fun z=>?_⟩;rcases List.mem_cons.mp z with z | z
     ·cases z;simp at hx
     ·exact b z
   ·exact .inr ⟨Nat.le_of_succ_le a,List.mem_cons_of_mem _ b⟩
  ·rw[if_neg hk]at h
   rcases kz r n acc x c h with⟨a,b⟩ | ⟨a,b⟩
   ·refine .inl ⟨a,fun z=>?_⟩;rcases List.mem_cons.mp z with z | z
    ·cases z;exact hk (by simp)
    ·exact b z
   ·exact .inr ⟨a,List.mem_cons_of_mem _ b⟩
def mM:∀ (names:List (Str × NameKind)) (n:Nat) (acc:List (Str × Addr)) (x:Str),(x,NameKind.cell)∉names->(cellsFrom n names acc).lookup x=acc.lookup x
 | [],n,acc,x,_=>rfl
 | (nm,k)::r,n,acc,x,h=>by
  have hr:(x,NameKind.cell)∉r:=fun z=>h (List.mem_cons_of_mem _ z);unfold cellsFrom;by_cases hk:(k == NameKind.cell)=true
  ·rw[if_pos hk,mM r (n+1) _ x hr,List.lookup_cons]
   have ek:k=.cell:=by simpa using hk
   subst ek
   have:(x == nm)=false:=by
    rw[beq_eq_false_iff_ne];intro z;subst z;exact h (List.mem_cons_self ..)
   rw[this]
  ·rw[if_neg hk];exact mM r n acc x hr
def qN:∀ (names:List (Str × NameKind)) (n:Nat) (acc:List (Str × Addr)),(∀ x c,acc.lookup x=some c->c<n)->(∀ x y c,acc.lookup x=some c->acc.lookup y=some c->x=y)->∀ x y c,(cellsFrom n names acc).lookup x=some c->(cellsFrom n names acc).lookup y=some c->x=y
 | [],n,acc,_,hi,x,y,c,h1,h2=>hi x y c h1 h2
 | (nm,k)::r,n,acc,hl,hi,x,y,c,h1,h2=>by
  unfold cellsFrom at h1 h2;by_cases hk:(k == NameKind.cell)=true
  ·rw[if_pos hk]at h1 h2;refine qN r (n+1) ((nm,n)::acc) (fun x c e=>?_) (fun x y c e1 e2=>?_) x y c h1 h2
   ·rw[List.lookup_cons]at e
    cases hx:x == nm with
    | true=>rw[hx]at e;cases e;exact Nat.lt_succ_self _
    | false=>rw[hx]at e;exact Nat.lt_succ_of_lt (hl x c e)
   ·rw[List.lookup_cons]at e1 e2
    cases hx:x == nm with
    |true=>
     rw[hx]at e1;cases e1
     cases hy:y == nm with
     |true=>
      have a:x=nm:=by simpa using hx
      have b:y=nm:=by simpa using hy
      rw[a,b]
     |false=>
      rw[hy]at e2;exact absurd (hl y n e2) (Nat.lt_irrefl _)
    |false=>
     rw[hx]at e1
     cases hy:y == nm with
     |true=>
      rw[hy]at e2;cases e2;exact absurd (hl x n e1) (Nat.lt_irrefl _)
     |false=>
      rw[hy]at e2;exact hi x y c e1 e2
  ·rw[if_neg hk]at h1 h2;exact qN r n acc hl hi x y c h1 h2
def mD:∀ (names:List (Str × NameKind)) (h:Heap) (acc:List (Str × Addr)) (x:Str) (c:Addr),(cellsFrom h.objs.size names acc).lookup x=some c->acc.lookup x=some c\/(pushCells h names).IsCell c none
 | [],h,acc,x,c,e=>.inl e
 | (nm,k)::r,h,acc,x,c,e=>by
  unfold cellsFrom at e;unfold pushCells;by_cases hk:(k == NameKind.cell)=true
  ·rw[if_pos hk]at e ⊢
   have e':(cellsFrom (h.push { cls:=.type "cell",data:=.cell none }).objs.size r ((nm,h.objs.size)::acc)).lookup x=some c:=by rw[Heap.size_push];exact e
   rcases mD r (h.push { cls:=.type "cell",data:=.cell none }) ((nm,h.objs.size)::acc) x c e' with a | a
   ·rw[List.lookup_cons]at a
    cases hx:x == nm with
    |true=>
     rw[hx]at a;cases a;exact .inr ⟨_,pushCells_keeps r _ _ _ (Heap.get?_push_size _ rfl),rfl⟩
    |false=>
     rw[hx]at a;exact .inl a
   ·exact .inr a
  ·rw[if_neg hk]at e ⊢;exact mD r h acc x c e
def Bj{M:Model}{A:Around}{E:Value->Shared->Prop}{s:Shared}{scope:Scope}{globals:Addr}{closure:List (Str × Addr)}{qual:Str}{func:Option Addr}{code:Value}{outer:Env}{builtins:Addr}{Q:Env->Shared->Prop}
 (hQ:Q (newEnv scope s.heap.objs.size globals (cellsFrom (s.heap.objs.size+1) scope.names closure) qual func code (some outer) builtins) { s with heap:=pushCells (s.heap.push { cls:=.type "dict",data:=.dict #[] }) scope.names }) :
  wpAny M A (newFunctionEnv scope globals closure [] qual func code (some outer) builtins) Q E s:=by
 simp only[newFunctionEnv,Option.isSome_some,if_true];refine wpAny_bind (wpAny_alloc ?_);refine wpAny_bind (wpAny_layCells _ (fun name kind cells=>by cases hkc:kind == NameKind.cell<;>simp[hkc]) _ _ _ _ ?_);rw[show({ s with heap:=s.heap.push { cls:=.type "dict",data:=.dict #[] } }:Shared).heap.objs.size=s.heap.objs.size+1 from Heap.size_push ..];refine wpAny_bind ?_;rw[List.forIn_nil];exact wpAny_pure (wpAny_pure hQ)
abbrev blk(X:Cx)(scope:Scope)(cls:List (Str × Addr))(C:Addr)(fp:List Addr)(s:Shared)(H:Hp):Cx where
 prog:=X.prog
 w:=X.w
 K:=X.K
 mg:=X.mg
 base:=X.base
 A:=X.A
 N:=X.N
 s₀:=s
 H₀:=H
 env:=compEnvC scope cls C X.env
 outer:=X.stack
 stack:=X.stack
 ex:=fp
 fn:=fun x=>scope.names.lookup x == some .cell
 calm:=X.calm
 pn:=[]
 xe:=fun _ _=>False
structure fG(scope:Scope)(sc:Scope)(cls:List (Str × Addr))(cells:List (Str × Addr)):Prop where
 kind:scope.kind=.function
 own:∀ x∈scope.names,x.2=.cell->scope.names.lookup x.1=some .cell
 loc:∀ x∈scope.names,x.2=.local->scope.names.lookup x.1=some .local
 sub:∀ x c,cls.lookup x=some c->cells.lookup x=some c
 has:∀ x,scope.names.lookup x=some .free->∃ c,cls.lookup x=some c
 vis:∀ x,scope.names.lookup x=some .free->sc.names.lookup x=some .cell\/sc.names.lookup x=some .free
def bQ{env:Env}:∀ {names:List (Str × NameKind)} {x:Str} {k:NameKind},
  (names.map fun(n,k)=>if(k == NameKind.free&&env.scope.kind == .function&&env.kindOf n == some .cell)then(n,NameKind.cell)else(n,k)).lookup x=some k ->
  names.lookup x=some k\/(k=.cell/\names.lookup x=some .free/\env.kindOf x=some .cell)
 | [],x,k,h=>by simp at h
 | (n,k')::r,x,k,h=>by
  have ih:=@bQ env r x k;rw[List.map_cons]at h
  cases hx:x == n with
  |true=>
   have en:x=n:=by simpa using hx
   subst en;by_cases hc:(k' == NameKind.free&&env.scope.kind == .function&&env.kindOf x == some .cell)=true
   ·simp only[hc,if_true]at h;rw[List.lookup_cons,hx]at h;cases h;simp only[Bool.and_eq_true,beq_iff_eq]at hc;refine .inr ⟨rfl,?_,hc.2⟩;rw[List.lookup_cons,hx,hc.1.1]
   ·simp only[Bool.not_eq_true]at hc;simp only[hc,Bool.false_eq_true,if_false]at h;rw[List.lookup_cons,hx]at h;cases h;exact .inl (by rw[List.lookup_cons,hx])
  |false=>
   have h':(r.map fun(n,k)=>if(k == NameKind.free&&env.scope.kind == .function&&env.kindOf n == some .cell)then(n,NameKind.cell)else(n,k)).lookup x=some k:=by
    by_cases hc:(k' == NameKind.free&&env.scope.kind == .function&&env.kindOf n == some .cell)=true
    ·simp only[hc,if_true]at h;rw[List.lookup_cons,hx]at h;exact h
    ·simp only[Bool.not_eq_true]at hc;simp only[hc,Bool.false_eq_true,if_false]at h;rw[List.lookup_cons,hx]at h;exact h
   rcases ih h' with q | ⟨q1,q2,q3⟩
   ·exact .inl (by rw[List.lookup_cons,hx];exact q)
   ·exact .inr ⟨q1,by rw[List.lookup_cons,hx];exact q2,q3⟩
abbrev Ac(X:Cx)(scope:Scope)(σ σB:St):Prop:=σB.length=σ.length/\∀ (i:Nat) (x:Str) (v:V),X.N[i]?=some x->σB[i]?=some (some v)->σ[i]?=some (some v)/\scope.names.lookup x≠some .local/\scope.names.lookup x≠some .cell
section
def Inv.hxb(I:Inv X pins σ H s):HX (blk X scope cls C fp s H):=by
 rcases I.ok.hd.2 with z | ⟨h,o,u,vs,h1,h2,h3⟩
 ·exact .inl z
 ·exact .inr ⟨h,o,u,vs,h1,I.base.cR _ _ _ h2,h3⟩
def AN(I:Inv X pins σ H s)(S:fG scope X.env.scope cls X.env.cells)(hf:∀ b∈fp,iQ X pins H b/\b<s.heap.objs.size)(ho:Ac X scope σ σB)
 (hns:h'.Ns s.heap.objs.size (fun _=>none))(hk:∀ b o,s.heap.get? b=some o->h'.get? b=some o)(hcl:∀ x c,(cellsFrom (s.heap.objs.size+1) scope.names cls).lookup x=some c->cls.lookup x=some c\/h'.IsCell c none) :
  Inv (blk X scope (cellsFrom (s.heap.objs.size+1) scope.names cls) s.heap.objs.size fp s H) [] σB H { s with heap:=h',toks:=t }:=by
 have hC:H s.heap.objs.size=none:=I.hok.fresh (Nat.le_refl _)
 have clt:∀ x c,cls.lookup x=some c->c<s.heap.objs.size:=fun x c e=>by
  obtain⟨v,q⟩:=I.cell x c (S.sub x c e);exact q.lt
 have cas:∀ x c,(cellsFrom (s.heap.objs.size+1) scope.names cls).lookup x=some c->(X.env.cells.lookup x=some c/\c<s.heap.objs.size)\/(s.heap.objs.size+1<=c/\scope.names.lookup x=some .cell):=fun x c e=>by
  rcases kz _ _ _ _ _ e with⟨a,_⟩ | ⟨a,b⟩
  ·exact .inl ⟨S.sub x c a,clt x c a⟩
  ·exact .inr ⟨a,S.own _ b rfl⟩
 have fre:∀ x c,cls.lookup x=some c->scope.names.lookup x=some .free->(cellsFrom (s.heap.objs.size+1) scope.names cls).lookup x=some c:=fun x c e f=>by
  rw[mM _ _ _ _ fun z=>by rw[S.own _ z rfl]at f;cases f];exact e
 refine⟨⟨I.ok.mod,?_,I.ok.glob,I.ok.blt,Nat.le_refl _,fun x y c h1 h2=>qN _ _ _ (fun x c e=>Nat.lt_succ_of_lt (clt x c e)) (fun x y c e1 e2=>I.ok.inj x y c (S.sub x c e1) (S.sub y c e2)) x y c h1 h2,fun x hx=>?_,fun x c z e=>?_,⟨I.ok.hd.1,I.hxb⟩,I.ok.frames,.inl rfl,fun b hb=>?_,fun b o e=>I.bs b o e,Nat.le_trans I.ok.bsz I.sz,fun b o e hb=>?_,fun b hb=>?_,I.stack,I.ke⟩,
  rfl,I.bare,Un.kept hk,⟨_,hns,fun i x v h1 h2 h3=>?_⟩,fun x c e=>?_,hC,fun x c e=>?_,fun p hp=>absurd hp (by simp[blk]),I.hok.kept hk,ho.1.trans I.len⟩
 ·exact S.kind
 ·have hx:(relabel scope X.env).names.lookup x=some .cell\/(relabel scope X.env).names.lookup x=some .free:=hx
  have key:scope.names.lookup x=some .cell\/scope.names.lookup x=some .free:=by
   rcases hx with hx | hx
   ·rcases bQ hx with q | ⟨_,q,_⟩
    ·exact .inl q
    ·exact .inr q
   ·rcases bQ hx with q | ⟨q,_⟩
    ·exact .inr q
    ·cases q
  rcases key with q | q
  ·have:=PySem.W.cellsFrom_some scope.names (s.heap.objs.size+1) cls (.inl q);exact Option.isSome_iff_exists.mp this
  ·obtain⟨c,hc⟩:=S.has x q;exact⟨c,fre x c hc q⟩
 ·have z:(scope.names.lookup x == some .cell)=true:=z
  rcases kz _ _ _ _ _ (show(cellsFrom (s.heap.objs.size+1) scope.names cls).lookup x=some c from e)with⟨_,b⟩ | ⟨b,_⟩
  ·exact absurd (PySem.mem_of_lookup (by simpa using z)) b
  ·exact Nat.le_of_succ_le b
 ·obtain⟨⟨f0,f1,f2,f3,f4,f5⟩,f6⟩:=hf b hb;refine⟨Nat.ne_of_lt f6,fun x c e=>?_⟩
  rcases cas x c e with⟨a,_⟩ | ⟨a,_⟩
  ·exact f4 x c a
  ·exact Nat.ne_of_gt (Nat.lt_trans f6 a)
 ·obtain⟨⟨f0,f1,f2,f3,f4,f5⟩,f6⟩:=hf b hb;rcases f3 with z | z
  ·exact I.ok.jn b o e z
  ·exact absurd (Nat.lt_of_lt_of_le (Heap.lt_size e) I.ok.bsz) (Nat.not_lt.mpr z)
 ·obtain⟨⟨f0,f1,f2,f3,f4,f5⟩,f6⟩:=hf b hb;intro z;rcases List.mem_cons.mp (I.pV b z)with e | e
  ·exact f1 e
  ·exact f2 e
 ·obtain⟨h4,h5,h6⟩:=ho.2 i x v h1 h2;have h3:(relabel scope X.env).names.lookup x=some .local\/(relabel scope X.env).names.lookup x=some .cell\/(relabel scope X.env).names.lookup x=some .free:=h3
  have key:scope.names.lookup x=some .free:=by
   rcases h3 with z | z | z
   ·rcases bQ z with q | ⟨q,_⟩
    ·exact absurd q h5
    ·cases q
   ·rcases bQ z with q | ⟨_,q,_⟩
    ·exact absurd q h6
    ·exact q
   ·rcases bQ z with q | ⟨q,_⟩
    ·exact q
    ·cases q
  obtain⟨c,hc⟩:=S.has x key;have hcx:=S.sub x c hc;obtain⟨m,hn,hl⟩:=I.loc;have hv:Vis X.env.scope x:=.inr (S.vis x key);obtain⟨u,ru,lk⟩:=hl i x v h1 h4 hv;refine⟨u,ru,.inr ⟨?_,c,fre x c hc key,?_⟩⟩
  ·rcases h3 with z | z
   ·rcases bQ z with q | ⟨q,_⟩
    ·exact absurd q h5
    ·cases q
   ·exact z
  ·rcases lk with⟨z,_⟩ | ⟨_,c',e',q⟩
   ·have z:X.env.scope.names.lookup x=some .local:=z;rcases S.vis x key with z' | z'<;>(rw[z]at z';cases z')
   ·rw[hcx]at e';cases e';obtain⟨o,g1,g2⟩:=q;exact⟨o,hk _ _ g1,g2⟩
 ·rcases hcl x c e with a | a
  ·obtain⟨v,q⟩:=I.cell x c (S.sub x c a);obtain⟨o,h1,h2⟩:=q;exact⟨v,o,hk _ _ h1,h2⟩
  ·exact⟨none,a⟩
 ·rcases cas x c e with⟨a,_⟩ | ⟨a,_⟩
  ·exact I.cJ x c a
  ·exact I.hok.fresh (Nat.le_of_succ_le a)
abbrev i0(wi:TI)(clr:St->St)(g:TG)(tc:TT)(te:TE):TE:=fun σ H Q=>wi σ H fun J H1=>∀ l,H1 l=none->∃ W:Nat->Nat->List V->Hp->Prop,(∃ m,W 0 m [] (upd H1 l (.lst []))) /\
 ∀ i m ys H2,W i m ys H2->H2 l=some (.lst ys)/\((J.stop i H2/\Q (.ref l) H2)\/(J.go i H2/\∀ x H3,J.yld i H2 x H3->g x (clr σ) H3 fun σ4 H4=>tc σ4 H4 fun k H5 =>
  if k=true then te σ4 H5 fun y H6=>H6 l=some (.lst ys)/\ys.length<sizeLine/\∃ m',m'<m/\W (i+1) m' (ys++[y]) (upd H6 l (.lst (ys++[y])))else ∃ m',m'<m/\W (i+1) m' ys H5))
structure oX(X:Cx)(scope:Scope)(tg:Expr)(ifs:List Expr)(elt:Expr)(clr:St->St)(g:TG)(tc:TT)(te:TE):Prop where
 htg:∀ cls C fp s H,PG (blk X scope cls C fp s H) tg g
 htc:∀ cls C fp s H pins s' σ H' Q,Inv (blk X scope cls C fp s H) pins σ H' s'->tc σ H' Q->wpAny (model X.prog X.w) X.A (gw ifs (compEnvC scope cls C X.env)) (TP (blk X scope cls C fp s H) pins σ Q) (fun _ _=>False) s'
 hte:∀ cls C fp s H,PE (blk X scope cls C fp s H) elt te
 DZ:∀ σ:St,σ.length=X.N.length->Ac X scope σ (clr σ)
 zT:∀ (x:V) (σ:St) (H:Hp) (Q:St->Hp->Prop),g x (clr σ) H Q->g x (clr σ) H fun σ2 H2=>Q σ2 H2/\(clr σ).length=σ2.length/\∀ (i:Nat) v,(clr σ)[i]?=some (some v)->σ2[i]?=some (some v)
def oB{elt tg iter:Expr}{ifs:List Expr}{pos:Pos}{wi:TI}{clr:St->St}{g:TG}{tc:TT}{te:TE}{Q:VK}{RR:Value->Addr->Result->Shared->Prop}{CM:Cx->Prop}(hc:∀ {pins:List (Addr × Obj)} {σ:St} {H:Hp} {s:Shared} (cls:List (Str × Addr)) (C:Addr) (fp:List Addr),Inv X pins σ H s->CM (blk X scope cls C fp s H))(S:fG scope X.env.scope cls X.env.cells)
 (hi:PI' CM X tg iter wi)(B:oX X scope tg ifs elt clr g tc te)(I:Inv X pins σ H s)(h:i0 wi clr g tc te σ H Q)
 (hRR:∀ l C H' s',Inv X pins σ H' s'->(∃ m,s'.heap.Ns C m)->H' C=none->C≠X.env.locals->X.s₀.heap.objs.size<=C->(∀ x c,X.env.cells.lookup x=some c->c≠C)->(∀ p∈X.pn++pins,p.1≠C)->Q (.ref l) H'->RR (.ref l) C (.ok .next) s') :
  wpAny (model X.prog X.w) X.A (eval iter X.env) (fun x s1=>wpAny (model X.prog X.w) X.A (pyIter x) (fun it s2=>wpAny (model X.prog X.w) X.A (newList []) (fun acc s3 =>
   wpAny (model X.prog X.w) X.A (newFunctionEnv scope X.env.globals cls [] X.env.qual none .none (some X.env)) (fun cenv s4 =>
    codeAny (model X.prog X.w) X.A (.compStart (.ListComp elt [⟨tg,iter,ifs,0⟩] scope pos) 0 it acc { cenv with scope:=relabel scope X.env }) (RR acc cenv.locals) s4) X.xe s3) X.xe s2) X.xe s1) X.xe s:=by
 refine thn (hi pins s σ H _ I h) fun x s1 h1=>thn h1 fun itv s2 h2=>?_;obtain⟨it,fp,tn,J,H2,e,I2,T,st2,f2,h3⟩:=h2;subst e
 have flt:∀ b∈fp,b<s2.heap.objs.size:=fun b hb=>by
  obtain⟨o,e,_⟩:=T.obj _ _ st2 b hb;exact Heap.lt_size e
 refine wpAny_newObj_type ?_
 have I3:Inv X pins σ (upd H2 s2.heap.objs.size (.lst [])) { s2 with heap:=s2.heap.push { cls:=.type "list",dict:=none,data:=.seq ([]:List Value).toArray } } :=
  I2.laid (t':=s2.toks) (fun b u e=>Heap.get?_push_of_some _ e) (Nat.le_refl _) ⟨Nat.zero_le _,[],0,.nil,Heap.get?_push_size _ rfl⟩
 have hl2:H2 s2.heap.objs.size=none:=I2.hok.fresh (Nat.le_refl _);obtain⟨W,⟨m0,w0⟩,turn⟩:=h3 s2.heap.objs.size hl2
 have f3:∀ b∈fp,iQ X pins (upd H2 s2.heap.objs.size (.lst [])) b/\b<(s2.heap.push { cls:=.type "list",dict:=none,data:=.seq ([]:List Value).toArray }).objs.size:=fun b hb=>by
  obtain⟨z0,z⟩:=f2 b hb;refine⟨⟨?_,z⟩,?_⟩
  ·rw[aI (Nat.ne_of_lt (flt b hb))];exact z0
  ·rw[Heap.size_push];exact Nat.lt_succ_of_lt (flt b hb)
 generalize hs3:({ s2 with heap:=s2.heap.push { cls:=.type "list",dict:=none,data:=.seq ([]:List Value).toArray } }:Shared)=s3 at I3
 have hs3h:s3.heap=s2.heap.push { cls:=.type "list",dict:=none,data:=.seq ([]:List Value).toArray }:=by rw[<-hs3]
 rw[<-hs3h]at f3
 have st3:tn 0 s3.heap:=T.keep _ _ _ st2 fun b hb o e=>by rw[hs3h];exact Heap.get?_push_of_some _ e
 refine Bj ?_;have k4:∀ b o,s3.heap.get? b=some o->(pushCells (s3.heap.push { cls:=.type "dict",data:=.dict #[] }) scope.names).get? b=some o:=fun b o e=>pushCells_keeps _ _ b o (Heap.get?_push_of_some _ e);have hns4:(pushCells (s3.heap.push { cls:=.type "dict",data:=.dict #[] }) scope.names).Ns s3.heap.objs.size (fun _=>none):=(Heap.Ns.new s3.heap (.type "dict")).keeps (pushCells_keeps _ _);have hcl4:∀ x c,(cellsFrom (s3.heap.objs.size+1) scope.names cls).lookup x=some c->cls.lookup x=some c\/(pushCells (s3.heap.push { cls:=.type "dict",data:=.dict #[] }) scope.names).IsCell c none:=fun x c e=>mD scope.names (s3.heap.push { cls:=.type "dict",data:=.dict #[] }) cls x c (by rw[Heap.size_push];exact e);generalize pushCells (s3.heap.push { cls:=.type "dict",data:=.dict #[] }) scope.names=h4 at k4 hns4 hcl4
 have I4:Inv (blk X scope (cellsFrom (s3.heap.objs.size+1) scope.names cls) s3.heap.objs.size fp s3 (upd H2 s2.heap.objs.size (.lst []))) [] (clr σ) (upd H2 s2.heap.objs.size (.lst [])) { s3 with heap:=h4 } :=
  AN (t:=s3.toks) I3 S f3 (B.DZ σ I.len) hns4 k4 hcl4
 generalize hs4:({ s3 with heap:=h4 }:Shared)=s4 at I4
 have hs4h:s4.heap=h4:=by rw[<-hs4]
 generalize hH3:upd H2 s2.heap.objs.size (.lst [])=H3 at I3 I4 w0
 have st4:tn 0 s4.heap:=T.keep _ _ _ st3 fun b hb o e=>by rw[hs4h];exact k4 b o e
 have fn4:∀ b∈fp,H3 b=none:=fun b hb=>by rw[<-hH3];exact(f3 b hb).1.1
 have stat:∀ {H':Hp} {σ':St} {s':Shared},Inv (blk X scope (cellsFrom (s3.heap.objs.size+1) scope.names cls) s3.heap.objs.size fp s3 H3) [] σ' H' s'->(∀ b∈fp,H' b=none)->∀ b∈fp,iQ (blk X scope (cellsFrom (s3.heap.objs.size+1) scope.names cls) s3.heap.objs.size fp s3 H3) [] H' b :=
  fun {H' σ' s'} J hn b hb=>⟨hn b hb,(J.ok.exf b hb).1,J.ok.iM b hb,.inl hb,(J.ok.exf b hb).2,fun p hp=>absurd hp (by simp[blk])⟩
 have fin:∀ {H':Hp} {s':Shared},Inv (blk X scope (cellsFrom (s3.heap.objs.size+1) scope.names cls) s3.heap.objs.size fp s3 H3) [] (clr σ) H' s'->Q (.ref s2.heap.objs.size) H'->RR (.ref s2.heap.objs.size) s3.heap.objs.size (.ok .next) s':=fun {H' s'} J q=>by
  obtain⟨m,hn,_⟩:=J.loc
  have J1:Inv X pins σ H' s':=I3.ud (s':=s') (ch:=fp) (J.os.trans rfl) J.base J.hok J.bare fun b hb=>by
   obtain⟨⟨g0,g1,g2,g3,g4,g5⟩,_⟩:=f3 b hb;exact⟨g3,g1,g4,g5⟩
  refine hRR _ _ H' s' J1 ⟨m,hn⟩ J.free (Nat.ne_of_gt I3.lt) I3.sz (fun x c e=>?_) (fun p hp=>?_) q
  ·obtain⟨v,z⟩:=I3.cell x c e;exact Nat.ne_of_lt z.lt
  ·exact Nat.ne_of_lt (Heap.lt_size (I3.pin p hp).1)
 have loop:codeAny (model X.prog X.w) X.A (.compLoop (.ListComp elt [⟨tg,iter,ifs,0⟩] scope pos) 0 (.ref it) (.ref s2.heap.objs.size) (compEnvC scope (cellsFrom (s3.heap.objs.size+1) scope.names cls) s3.heap.objs.size X.env))
   (RR (.ref s2.heap.objs.size) s3.heap.objs.size) s4:=by
  refine vG (fun n s'=>∃ i ys H',Inv (blk X scope (cellsFrom (s3.heap.objs.size+1) scope.names cls) s3.heap.objs.size fp s3 H3) [] (clr σ) H' s'/\tn i s'.heap/\(∀ b∈fp,H' b=none)/\W i n ys H') ?_ m0 ⟨0,[],H3,I4,st4,fn4,w0⟩;rintro n s5 ⟨i,ys,H5,I5,st5,fr5,w5⟩;obtain⟨hl5,tr⟩:=turn i n ys H5 w5
  rcases tr with⟨stop,qn⟩ | ⟨go,step⟩
  ·refine thn (T.done (blk X scope (cellsFrom (s3.heap.objs.size+1) scope.names cls) s3.heap.objs.size fp s3 H3) rfl rfl rfl (hc _ _ _ I3) i [] s5 (clr σ) H5 (fun _ _=>False) I5 (stat I5 fr5) st5 stop) fun r s6 ⟨hr,I6⟩=>?_;subst hr;exact fin I6 qn
  ·refine thn (T.item (blk X scope (cellsFrom (s3.heap.objs.size+1) scope.names cls) s3.heap.objs.size fp s3 H3) rfl rfl rfl (hc _ _ _ I3) i [] s5 (clr σ) H5 (fun _ _=>False) I5 (stat I5 fr5) st5 go) fun r s6 ⟨u,hr,h6⟩=>?_;subst hr;refine thn h6 fun _ s7 ⟨x,H7,I7,r7,y7,st7,fr7⟩=>?_;have I7':=I7.pinned (stat I7 fr7) (T.obj _ _ st7)
   have back:∀ {σ':St} {H':Hp} {s':Shared},Inv (blk X scope (cellsFrom (s3.heap.objs.size+1) scope.names cls) s3.heap.objs.size fp s3 H3) ([]++jF fp s7.heap) σ' H' s'->(clr σ).length=σ'.length->(∀ (i:Nat) v,(clr σ)[i]?=some (some v)->σ'[i]?=some (some v))->(∃ m ys',m<n/\W (i+1) m ys' H') ->
     ∃ m,m<n/\∃ i ys H',Inv (blk X scope (cellsFrom (s3.heap.objs.size+1) scope.names cls) s3.heap.objs.size fp s3 H3) [] (clr σ) H' s'/\tn i s'.heap/\(∀ b∈fp,H' b=none)/\W i m ys H':=fun {σ' H' s'} J el ew hw=>by
    obtain⟨m,ys',hm,w8⟩:=hw;refine⟨m,hm,i+1,ys',H',J.ja.weak el ew,T.keep _ _ _ st7 fun b hb o e=>(J.pin (b,o) (List.mem_append_right _ (List.mem_append_right _ (fX hb e)))).1,fun b hb=>?_,w8⟩;obtain⟨o,e,d⟩:=T.obj _ _ st7 b hb;exact(J.pin (b,o) (List.mem_append_right _ (List.mem_append_right _ (fX hb e)))).2.1
   refine thn (B.htg _ s3.heap.objs.size fp s3 H3 _ s7 (clr σ) H7 x u _ I7' r7 (B.zT x σ H7 _ (step x H7 y7))) fun _ s8 ⟨σ8,H8,I8,q8,el8,ew8⟩=>?_;refine thn (B.htc _ s3.heap.objs.size fp s3 H3 _ s8 σ8 H8 _ I8 q8) fun ok s9 ⟨H9,I9,q9⟩=>?_
   cases ok with
   |false=>
    have q9:∃ m',m'<n/\W (i+1) m' ys H9:=q9;obtain⟨m',hm,w9⟩:=q9;exact back I9 el8 ew8 ⟨m',ys,hm,w9⟩
   |true=>
    refine thn (B.hte _ s3.heap.objs.size fp s3 H3 _ s9 σ8 H9 _ I9 q9) fun v s10 ⟨y,H10,I10,r10,hl10,hz,m',hm,w10⟩=>?_;refine thn (ou (X:=blk X scope (cellsFrom (s3.heap.objs.size+1) scope.names cls) s3.heap.objs.size fp s3 H3) _ s10 σ8 H10 (.ref s2.heap.objs.size) [y] (.ref s2.heap.objs.size) [v] (fun _ H'=>H'=upd H10 s2.heap.objs.size (.lst (ys++[y]))) I10 rfl (.cons r10 .nil) ⟨_,ys,y,rfl,rfl,hl10,hz,rfl⟩) fun _ s11 ⟨_,H11,I11,_,e11⟩=>?_;subst e11;exact back I11 el8 ew8 ⟨m',_,hm,w10⟩
 exact codeAny_compStart_list loop (T.self _ 0 _ _ _ st4 loop)
def tu{elt tg iter:Expr}{ifs:List Expr}{pos:Pos}{wi:TI}{clr:St->St}{g:TG}{tc:TT}{te:TE}{CM:Cx->Prop}(hc:∀ {pins:List (Addr × Obj)} {σ:St} {H:Hp} {s:Shared} (cls:List (Str × Addr)) (C:Addr) (fp:List Addr),Inv X pins σ H s->CM (blk X scope cls C fp s H))(S:fG scope X.env.scope cls X.env.cells)(hclos:closureFor scope X.env=pure cls)
 (hi:PI' CM X tg iter wi)(B:oX X scope tg ifs elt clr g tc te)(hs:∀ x,foldedSetIterable iter X.env x=pure x):PE X (.ListComp elt [⟨tg,iter,ifs,0⟩] scope pos) (i0 wi clr g tc te):=by
 intro pins s σ H Q I h;rw[eval_ListComp];refine wpAny_comprehension_free (use:=none) rfl hs hclos S.kind S.loc (oB (RR:=fun acc C=>compPost (model X.prog X.w) X.A X.xe none (EP X pins σ Q) acc C) hc S hi B I h ?_);intro l C H' s' J hn c0 c1 c2 c3 c4 q;obtain⟨m,hn⟩:=hn;exact⟨m,hn,fun h' sb=>⟨.ref l,H',J.turned (it:=C) (h':=h') (t':=s'.toks) (fun b o hb e=>(sb.2 b hb).trans e) c0 (Ne.symm (Ne.symm c1)) (.inr c2) c3 c4,rfl,q⟩⟩
abbrev Fx(i:Nat)(t:TE):TS:=fun D σ H=>t σ H fun v H1=>D.nx (σ.set i (some v)) H1
def t7(hc:X.calm=true)(hN:X.N.Nodup)(hiy:X.N[i]?=some y)(hy:X.env.scope.names.lookup y=some .local)
 (S:fG scope X.env.scope cls X.env.cells)(hclos:closureFor scope X.env=pure cls)
 (hi:PI X tg iter wi)(B:oX X scope tg ifs elt clr g tc te)(hs:∀ x,foldedSetIterable iter X.env x=pure x)
 (hsw:swapsWith (.ListComp elt [⟨tg,iter,ifs,0⟩] scope pos) (some (.Name y py)) spos.line X.env=pure true) :
  PS X (.Assign [.Name y py] (.ListComp elt [⟨tg,iter,ifs,0⟩] scope pos) spos) (Fx i (i0 wi clr g tc te)):=by
 intro pins s σ H D I h
 have back:∀ (l C:Addr) (H':Hp) (s':Shared),Inv X pins σ H' s'->(∃ m,s'.heap.Ns C m)->H' C=none->C≠X.env.locals->X.s₀.heap.objs.size<=C->(∀ x c,X.env.cells.lookup x=some c->c≠C)->(∀ p∈X.pn++pins,p.1≠C)->D.nx (σ.set i (some (.ref l))) H' ->
   compPost (model X.prog X.w) X.A X.xe (some (assign (.Name y py) X.env)) (fun _ s'=>SP X pins D .next s') (.ref l) C (.ok .next) s':=by
  intro l C H' s' J hn c0 c1 c2 c3 c4 q;obtain⟨m,hn⟩:=hn;show wpAny _ X.A (assign (.Name y py) X.env (.ref l)) _ _ s';refine wpAny_assign_Name (nY (v:=.ref l) J hN hiy (.inl hy) rfl (fun s2 J2 ⟨a,sb,ha⟩=>?_) (.inr hy))
  have hne:C≠a:=by
   rcases ha with z | z
   ·rw[z];exact c1
   ·exact(c3 _ _ z).symm
  exact⟨m,hn.sameBut sb hne,fun h' sb'=>⟨σ.set i (some (.ref l)),H',J2.turned (it:=C) (h':=h') (t':=s2.toks) (fun b o hb e=>(sb'.2 b hb).trans e) c0 c1 (.inr c2) c3 c4,q⟩⟩
 have core:=oB (RR:=fun acc C=>compPost (model X.prog X.w) X.A X.xe (some (assign (.Name y py) X.env)) (fun _ s'=>SP X pins D .next s') acc C) (pos:=pos) (fun _ _ _ _=>hc) S hi B I h back;have whole:=wpAny_comprehension_free (e:=.ListComp elt [⟨tg,iter,ifs,0⟩] scope pos) (newAcc:=newList []) (use:=some (assign (.Name y py) X.env)) (Q:=fun _ s'=>SP X pins D .next s') (pos:=iter.pos) rfl hs hclos S.kind S.loc core;rw[exec_Assign_Name_used (hs:=hsw)];apply wpAny_bind;apply wpAny_standAt;apply wpAny_bind;apply wpAny_bind;refine thn whole fun _ s' hq=>?_;apply wpAny_pure;apply wpAny_pure;exact hq
end
end L2
namespace RS
open PySem PySem.Spec PyProof.Rows L2
def iX:∀ (names:List (Str × NameKind)) (acc:List (Str × Addr)),(∀ x,(x,NameKind.free)∈names->∃ c,env.cells.lookup x=some c)->(∀ x c,acc.lookup x=some c->env.cells.lookup x=some c) ->
  ∃ cls,(forIn names acc fun(p:Str × NameKind) cs=>match p with | (name,kind)=>if(kind == NameKind.free)=true then do let c <- cellOf env name;pure (ForInStep.yield ((name,c)::cs))else pure (ForInStep.yield cs):Sem (List (Str × Addr)))=pure cls /\
   (∀ x c,cls.lookup x=some c->env.cells.lookup x=some c)/\(∀ x,(acc.lookup x).isSome=true\/(x,NameKind.free)∈names->∃ c,cls.lookup x=some c)
 | [],acc,_,ha=>⟨acc,rfl,ha,fun x hx=>by
   rcases hx with h | h
   ·exact Option.isSome_iff_exists.mp h
   ·simp at h⟩
 | (n,k)::r,acc,hn,ha=>by
  by_cases hk:k=.free
  ·subst hk;obtain⟨c,hc⟩:=hn n List.mem_cons_self
   have ha':∀ x c',((n,c)::acc).lookup x=some c'->env.cells.lookup x=some c':=fun x c' e=>by
    rw[List.lookup_cons]at e
    cases hx:x == n with
    |true=>
     rw[hx]at e;cases e;rw[show x=n by simpa using hx];exact hc
    |false=>
     rw[hx]at e;exact ha x c' e
   obtain⟨cls,h1,h2,h3⟩:=iX r ((n,c)::acc) (fun x hx=>hn x (List.mem_cons_of_mem _ hx)) ha';refine⟨cls,?_,h2,fun x hx=>h3 x ?_⟩
   ·rw[List.forIn_cons]
    have hcell:cellOf env n=pure c:=by unfold cellOf;rw[hc]
    simp only[beq_self_eq_true,if_true,hcell];exact h1
   ·rcases hx with h | h
    ·left;rw[List.lookup_cons];split<;>simp_all
    ·rcases List.mem_cons.mp h with e | e
     ·cases e;left;simp[List.lookup_cons]
     ·exact .inr e
  ·obtain⟨cls,h1,h2,h3⟩:=iX r acc (fun x hx=>hn x (List.mem_cons_of_mem _ hx)) ha;refine⟨cls,?_,h2,fun x hx=>h3 x ?_⟩
   ·rw[List.forIn_cons]
    have:(k == NameKind.free)=false:=by simpa using hk
    simp only[this,Bool.false_eq_true,if_false];exact h1
   ·rcases hx with h | h
    ·exact .inl h
    ·rcases List.mem_cons.mp h with e | e
     ·cases e;exact absurd rfl hk
     ·exact .inr e
def uI(h:∀ x,(x,NameKind.free)∈scope.names->∃ c,env.cells.lookup x=some c) :
  ∃ cls,closureFor scope env=pure cls/\(∀ x c,cls.lookup x=some c->env.cells.lookup x=some c)/\(∀ x,scope.names.lookup x=some .free->∃ c,cls.lookup x=some c):=by
 obtain⟨cls,h1,h2,h3⟩:=iX (env:=env) scope.names [] h (fun x c e=>by simp at e);refine⟨cls,?_,h2,fun x hx=>h3 x (.inr (PySem.mem_of_lookup hx))⟩;unfold closureFor;simp only[bind_pure_comp]at h1 ⊢;rw[h1];rfl
section
abbrev nL(K:PySem.W.Frag)(n:Nat)(t:TGs):TG:=fun v σ H Q=>∃ a xs,v=.ref a/\SqL K H a xs/\xs.length=n/\t xs σ H Q
end
section
def rN(h:PG X tgE t)(h':PG X tgE t'):PG X tgE (fun v σ H Q=>t v σ H Q\/t' v σ H Q):=by
 intro pins s σ H v u Q I r hw;rcases hw with q | q
 ·exact h pins s σ H v u Q I r q
 ·exact h' pins s σ H v u Q I r q
end
abbrev gs:List Nat->TGs
 | []=>BX
 | i::r=>zJ (lR i) (gs r)
abbrev gT(K:PySem.W.Frag):List Nat->TG
 | [i]=>lR i
 | is=>fun v σ H Q=>nv K is.length (gs is) v σ H Q\/nL K is.length (gs is) v σ H Q
abbrev cT:List Nat->List V->L2.St->L2.St
 | i::is,v::vs,σ=>cT is vs (σ.set i (some v))
 | _,_,σ=>σ
abbrev eB:List Nat->List RL.D->RL.St->RL.St
 | i::is,d::ds,σ=>eB is ds (σ.set i (some d))
 | _,_,σ=>σ
def fD:∀ {is:List Nat} {ds:List RL.D} {σ σ1:RL.St},RL.bK is ds σ=some σ1->is.length=ds.length/\σ1=eB is ds σ
 | [],[],σ,σ1,h=>by cases h;exact⟨rfl,rfl⟩
 | [],d::ds,σ,σ1,h=>by cases h
 | i::is,[],σ,σ1,h=>by cases h
 | i::is,d::ds,σ,σ1,h=>by
  obtain⟨h1,h2⟩:=fD (is:=is) (ds:=ds) (σ:=σ.set i (some d)) h;exact⟨by simp[h1],h2⟩
def iU:∀ {is:List Nat} {vs:List V} {σ:L2.St} {H:Hp} {Q:L2.St->Hp->Prop},is.length=vs.length->Q (cT is vs σ) H->gs is vs σ H Q
 | [],[],σ,H,Q,_,q=>⟨rfl,q⟩
 | [],_::_,_,_,_,h,_=>by simp at h
 | _::_,[],_,_,_,h,_=>by simp at h
 | i::is,v::vs,σ,H,Q,h,q=>⟨v,vs,rfl,iU (is:=is) (by simpa using h) q⟩
def uQ{K:PySem.W.Frag}(h:RL.aF tg d σD=some σD1)(r:Rep nP K H d v) :
  ∃ ds vs,σD1=eB tg ds σD/\tg.length=ds.length/\af nP K H ds vs/\(d.imm=true->RL.au ds=true)/\∀ (σ:L2.St) (Q:L2.St->Hp->Prop),Q (cT tg vs σ) H->gT K tg v σ H Q:=by
 unfold RL.aF at h;split at h
 ·rename_i i;cases h;exact⟨[d],[v],rfl,rfl,af.cons r af.nil,fun z=>by simp[RL.au,z],fun σ Q q=>q⟩
 ·rename_i hne
  have key:gT K tg=fun v σ H Q=>nv K tg.length (gs tg) v σ H Q\/nL K tg.length (gs tg) v σ H Q:=by
   unfold gT;split
   ·rename_i i;exact absurd rfl (hne i)
   ·rfl
  rw[key];split at h
  ·rename_i ds;obtain⟨h1,h2⟩:=fD h;obtain⟨p,xs,rfl,e2,e3⟩:=bF r;exact⟨ds,xs,h2,h1,e3,fun z=>by rw[RL.D.imm]at z;exact z,fun σ Q q=>.inl ⟨p,xs,rfl,SqT.of e2,by rw[<-e3.length,h1],iU (h1.trans e3.length) q⟩⟩
  ·rename_i ds;obtain⟨h1,h2⟩:=fD h;obtain⟨p,xs,rfl,_,e2,e3⟩:=aC r;exact⟨ds,xs,h2,h1,e3,fun z=>(by cases z),fun σ Q q=>.inr ⟨p,xs,rfl,SqL.of e2,by rw[<-e3.length,h1],iU (h1.trans e3.length) q⟩⟩
  ·cases h
def qc:∀ (is:List Nat) (vs:List V) (σ:L2.St),(cT is vs σ).length=σ.length
 | [],_,_=>rfl
 | _::_,[],_=>rfl
 | i::is,v::vs,σ=>by rw[cT,qc is vs,List.length_set]
def nC:∀ (is:List Nat) (vs:List V) (σ:L2.St) (j:Nat),is.contains j=false->(cT is vs σ)[j]?=σ[j]?
 | [],_,_,_,_=>rfl
 | _::_,[],_,_,_=>rfl
 | i::is,v::vs,σ,j,h=>by
  rw[List.contains_cons,Bool.or_eq_false_iff]at h;rw[cT,nC is vs _ j h.2,List.getElem?_set_ne (by intro e;subst e;simp at h)]
def l3:∀ (is:List Nat) (vs:List RL.D) (σ:RL.St),(eB is vs σ).length=σ.length
 | [],_,_=>rfl
 | _::_,[],_=>rfl
 | i::is,v::vs,σ=>by rw[eB,l3 is vs,List.length_set]
def kc:∀ (is:List Nat) (vs:List RL.D) (σ:RL.St) (j:Nat),is.contains j=false->(eB is vs σ)[j]?=σ[j]?
 | [],_,_,_,_=>rfl
 | _::_,[],_,_,_=>rfl
 | i::is,v::vs,σ,j,h=>by
  rw[List.contains_cons,Bool.or_eq_false_iff]at h;rw[eB,kc is vs _ j h.2,List.getElem?_set_ne (by intro e;subst e;simp at h)]
abbrev RVx(T:List Nat)(K:PySem.W.Frag)(σD:RL.St)(σ:L2.St)(H:Hp):Prop:=σD.length<=σ.length/\∀ (i:Nat) (d:RL.D),T.contains i=false->σD[i]?=some (some d)->∃ v,σ[i]?=some (some v)/\Rep nP K H d v
def RVx.set{K:PySem.W.Frag}(h:RVx (i::T) K σD σ H)(r:Rep nP K H d v):RVx T K (σD.set i (some d)) (σ.set i (some v)) H:=⟨by simpa using h.1,fun j dj hT e=>by
 by_cases hj:j=i
 ·subst hj
  have hlt:j<σD.length:=by
   have:=(List.getElem?_eq_some_iff.mp e).1;simpa using this
  rw[List.getElem?_set_self hlt]at e;cases e;exact⟨v,by rw[List.getElem?_set_self (Nat.lt_of_lt_of_le hlt h.1)],r⟩
 ·rw[List.getElem?_set_ne (Ne.symm hj)]at e ⊢
  exact h.2 j dj (by rw[List.contains_cons,hT,Bool.or_false];simpa using hj) e⟩
def RVx.bK{K:PySem.W.Frag}:∀ {is:List Nat} {ds:List RL.D} {vs:List V} {σD:RL.St} {σ:L2.St},RVx is K σD σ H->is.length=ds.length->af nP K H ds vs->RV0 K (eB is ds σD) (cT is vs σ) H
 | [],_,_,_,_,h,_,_=>⟨h.1,fun i d e=>h.2 i d rfl e⟩
 | i::is,[],_,_,_,_,hl,_=>by simp at hl
 | i::is,d::ds,vs,σD,σ,h,hl,r=>by
  rw[af]at r;obtain⟨v,t,rfl,r1,r2⟩:=r;rw[eB,cT];exact RVx.bK (h.set r1) (by simpa using hl) r2
def BE{K:PySem.W.Frag}(h:gT K tg v σ H Q):∃ vs,tg.length=vs.length/\Q (cT tg vs σ) H/\∀ Q':L2.St->Hp->Prop,Q' (cT tg vs σ) H->gT K tg v σ H Q':=by
 have inv:∀ (is:List Nat) (xs:List V) (σ:L2.St) (Q:L2.St->Hp->Prop),gs is xs σ H Q->is.length=xs.length/\Q (cT is xs σ) H:=by
  intro is
  induction is with
  | nil=>intro xs σ Q h;obtain⟨rfl,q⟩:=h;exact⟨rfl,q⟩
  |cons i r ih=>
   intro xs σ Q h;obtain⟨v,t,rfl,q⟩:=h;obtain⟨h1,h2⟩:=ih t _ Q q;exact⟨by simp[h1],h2⟩
 unfold gT at h;split at h
 ·rename_i i;exact⟨[v],rfl,h,fun Q' q=>q⟩
 ·rename_i hne
  have key:gT K tg=fun v σ H Q=>nv K tg.length (gs tg) v σ H Q\/nL K tg.length (gs tg) v σ H Q:=by
   unfold gT;split
   ·rename_i i;exact absurd rfl (hne i)
   ·rfl
  rw[key]
  rcases h with⟨a,xs,rfl,hq,hl,hg⟩ | ⟨a,xs,rfl,hq,hl,hg⟩
  ·obtain⟨h1,h2⟩:=inv _ _ _ _ hg;exact⟨xs,h1,h2,fun Q' q=>.inl ⟨a,xs,rfl,hq,hl,iU h1 q⟩⟩
  ·obtain⟨h1,h2⟩:=inv _ _ _ _ hg;exact⟨xs,h1,h2,fun Q' q=>.inr ⟨a,xs,rfl,hq,hl,iU h1 q⟩⟩
abbrev fL(tg:List Nat)(σ:L2.St):L2.St:=σ.mapIdx fun i o=>if tg.contains i then none else o
def rO(tg:List Nat)(σ:L2.St):(fL tg σ).length=σ.length:=by simp[fL]
def sR(h:tg.contains i=false):(fL tg σ)[i]?=σ[i]?:=by
 unfold fL;rw[List.getElem?_mapIdx]
 cases σ[i]? with
 | none=>rfl
 | some o=>simp only[Option.map_some,h,Bool.false_eq_true,if_false]
def sP(h:tg.contains i=true):(fL tg σ)[i]?≠some (some v):=by
 unfold fL;rw[List.getElem?_mapIdx]
 cases σ[i]? with
 | none=>simp
 | some o=>simp only[Option.map_some,h,if_true];intro z;cases z
section comp
variable{X:Cx}
structure jk(X:Cx)(cl:RL.Cl)(scope:Scope)(tgE:Expr)(tg:List Nat)(elt:Expr)(e':RL.E)(tcs:TT)(ifs:List Expr):Prop where
 htg:∀ cls C fp s H,PG (blk X scope cls C fp s H) tgE (gT X.K tg)
 htc:∀ cls C fp s H pins s' σ H' Q,Inv (blk X scope cls C fp s H) pins σ H' s'->tcs σ H' Q->wpAny (model X.prog X.w) X.A (gw ifs (compEnvC scope cls C X.env)) (TP (blk X scope cls C fp s H) pins σ Q) (fun _ _=>False) s'
 hte:∀ cls C fp s H,SE (blk X scope cls C fp s H) cl elt e'
 cover:∀ (i:Nat) (x:Str),X.N[i]?=some x->scope.names.lookup x=some .local\/scope.names.lookup x=some .cell->tg.contains i=true
def jk.blk{tcs:TT}(B:jk X cl scope tgE tg elt e' tcs ifs):oX X scope tgE ifs elt (fL tg) (gT X.K tg) tcs (tE X.K cl e') where
 htg:=B.htg
 htc:=B.htc
 hte:=B.hte
 DZ:=fun σ hl=>⟨rO tg σ,fun i x v h1 h2=>by
  by_cases hc:tg.contains i=true
  ·exact absurd h2 (sP hc)
  ·simp only[Bool.not_eq_true]at hc;rw[sR hc]at h2;refine⟨h2,fun z=>?_,fun z=>?_⟩
   ·rw[B.cover i x h1 (.inl z)]at hc;cases hc
   ·rw[B.cover i x h1 (.inr z)]at hc
    cases hc⟩
 zT:=fun x σ H Q h=>by
  obtain⟨vs,h1,h2,h3⟩:=BE h;refine h3 _ ⟨h2,(qc _ _ _).symm,fun i v e=>?_⟩;by_cases hc:tg.contains i=true
  ·exact absurd e (sP hc)
  ·simp only[Bool.not_eq_true]at hc;rw[nC _ _ _ _ hc];exact e
def vT(h:RL.cu f tg σ (d::r)=some ys):∃ σ1 y ys',RL.aF tg d σ=some σ1/\f σ1=some y/\RL.cu f tg σ r=some ys'/\RL.jJ y ys'=some ys:=by
 rw[RL.cu]at h;obtain⟨σ1,h1,h⟩:=bind_some h;obtain⟨y,h2,h⟩:=bind_some h;obtain⟨ys',h3,h⟩:=bind_some h;exact⟨σ1,y,ys',h1,h2,h3,h⟩
def sA(rv:RV0 X.K σD σ H)(ei:RL.bB cl σD it=some ds)(hz:ds.length<=RL.most)(hm:RL.cu f tg σD ds=some total)
 (ht:∀ σ1 σV H y (Q:Bool->Hp->Prop),RV0 X.K σ1 σV H->f σ1=some y->(∀ k H',ax H H'->(if k=true then ∃ d,y=some d/\RL.ev cl σ1 e'=some d else y=none)->Q k H')->tcs σV H Q)
 (k:∀ l H',ax H H'->H l=none->(∃ xs,H' l=some (.lst xs)/\af nP X.K H' total xs)->Q (.ref l) H'):i0 (tI X.K cl it) (fL tg) (gT X.K tg) tcs (tE X.K cl e') σ H Q:=by
 refine⟨σD,ds,rv,ei,fun J H1 s1 src l hl=>?_⟩;obtain⟨ok,_⟩:=src
 refine⟨fun i m xs H2=>∃ don rest,m=ds.length-i/\i<=ds.length/\ax H1 H2/\H2 l=some (.lst xs)/\af (fun p=>p=l) X.K H2 don xs/\RL.cu f tg σD (ds.drop i)=some rest/\don++rest=total/\don.length<=i,
  ⟨_,[],total,rfl,Nat.zero_le _,ax.bO hl,aP,af.nil,hm,rfl,Nat.le_refl _⟩,?_⟩
 rintro i m xs H2 ⟨don,rest,rfl,hi,s2,hl2,rs,hr,htot,hdn⟩;refine⟨hl2,?_⟩;have off:Off nP H1 H2:=Off.same s2;by_cases hlt:i<ds.length
 ·refine .inr ⟨ok.go H2 i off hlt,fun x H3 y=>?_⟩
  have hd:ds[i]?=some ds[i]:=by simp[hlt]
  obtain⟨s3,rp⟩:=ok.yld H2 i ds[i] x H3 off hd y;have rp:=rp (.inr s2);rw[List.drop_eq_getElem_cons hlt]at hr;obtain⟨σ1,y1,ys',h1,h2,h3,h4⟩:=vT hr;obtain⟨dv,vs,e1,e2,e3,_,e5⟩:=uQ h1 rp;refine e5 _ _ ?_;have rv3:RV0 X.K σD σ H3:=rv.same ((s1.trans s2).trans s3)
  have rvx:RVx tg X.K σD (fL tg σ) H3:=⟨by rw[rO];exact rv3.1,fun j d hT e=>by rw[sR hT];exact rv3.2 j d e⟩
  have rv1:RV0 X.K σ1 (cT tg vs (fL tg σ)) H3:=by rw[e1];exact rvx.bK e2 e3
  refine ht σ1 _ H3 y1 _ rv1 h2 fun t H5 s5 hy=>?_;have hl5:H5 l=some (.lst xs):=s5 _ _ (s3 _ _ hl2);have rs5:af (fun p=>p=l) X.K H5 don xs:=(rs.same s3).same s5
  cases t with
  |true=>
   obtain⟨d,rfl,hv⟩:=(show ∃ d,y1=some d/\RL.ev cl σ1 e'=some d from hy)
   have him:d.imm=true/\rest=d::ys':=by
    unfold RL.jJ at h4;dsimp only at h4;split at h4
    ·rename_i hh;cases h4;exact⟨hh,rfl⟩
    ·cases h4
   refine eJ ⟨σ1,d,rv1.same s5,hv,fun v H6 r6=>⟨r6.same _ _ hl5,?_,ds.length-(i+1),by lia,don++[d],ys',rfl,hlt,?_,aP,?_,h3,?_,?_⟩⟩
   ·rw[<-rs.length];exact Nat.lt_of_lt_of_le (Nat.lt_of_le_of_lt hdn (Nat.lt_of_lt_of_le hlt hz)) (Nat.le_of_lt (by decide))
   ·intro b o e;have hb:b≠l:=aM e hl;rw[aI hb];exact r6.same _ _ (s5 _ _ (s3 _ _ (s2 _ _ e)))
   ·exact af.upd (P:=fun p=>p=l) (r6.same _ _ hl5) (.inl ⟨_,rfl⟩) rfl (af.append (rs5.same r6.same) (af.cons (r6.rep.imm him.1) af.nil))
   ·rw[<-htot,him.2,List.append_assoc];rfl
   ·rw[List.length_append,List.length_singleton];lia
  |false=>
   have hy:y1=none:=hy;subst hy
   have hr2:rest=ys':=by
    unfold RL.jJ at h4;dsimp only at h4;cases h4;rfl
   refine fq ⟨ds.length-(i+1),by lia,don,ys',rfl,hlt,(s2.trans s3).trans s5,hl5,rs5,h3,by rw[<-htot,hr2],by lia⟩
 ·have e:i=ds.length:=by lia
  subst e;refine .inl ⟨ok.stop H2 off,k l H2 (s1.trans s2) (s1.free hl) ⟨xs,hl2,?_⟩⟩;rw[List.drop_length,RL.cu]at hr;cases hr;rw[List.append_nil]at htot;rw[<-htot];exact af.weak (fun _ z=>z.elim) rs
end comp
section comp
variable{X:Cx}
structure nH(scope sc:Scope):Prop where
 kind:scope.kind=.function
 own:∀ x∈scope.names,x.2=.cell->scope.names.lookup x.1=some .cell
 loc:∀ x∈scope.names,x.2=.local->scope.names.lookup x.1=some .local
 vis:∀ x∈scope.names,x.2=.free->sc.names.lookup x.1=some .cell\/sc.names.lookup x.1=some .free
def fY(S:nH scope X.env.scope)(I:Inv X pins σ H s):∃ cls,closureFor scope X.env=pure cls/\fG scope X.env.scope cls X.env.cells:=by
 obtain⟨cls,h1,h2,h3⟩:=uI (env:=X.env) (scope:=scope) fun x hx=>I.ok.has x (S.vis _ hx rfl);exact⟨cls,h1,S.kind,S.own,S.loc,h2,h3,fun x hx=>S.vis _ (PySem.mem_of_lookup hx) rfl⟩
def pZ(sm:ax H H')(hl:H l=none)(h:∃ xs,H' l=some (.lst xs)/\af nP X.K H' total xs)(hav:∀ M,RL.avE M e=false):Res X.K σD σ H e (.lst total) (.ref l) H' where
 same:=sm
 rep:=by
  obtain⟨xs,h1,h2⟩:=h;rw[Rep];exact⟨l,xs,rfl,fun z=>z,h1,h2⟩
 fresh:=fun _ _ a z=>by cases z;exact hl
 av:=fun M z=>by rw[hav M]at z;cases z
abbrev lH:TT:=fun _ H Q=>Q true H
def qT(h:tE X.K cl (.compA e' tg it) σ H Q):i0 (tI X.K cl it) (fL tg) (gT X.K tg) lH (tE X.K cl e') σ H Q:=by
 obtain⟨σD,d,rv,e,k⟩:=h;obtain⟨ds,e1,e⟩:=bind_some e;obtain⟨ds',e2,e⟩:=bind_some e;obtain⟨total,e3,e4⟩:=map_some e;unfold RL.fits at e2;split at e2
 ·rename_i hz;cases e2;subst e4;refine sA (f:=fun σ1=>(RL.ev cl σ1 e').map some) rv e1 hz e3 (fun σ1 σV H y Q rv1 hy q=>?_) fun l H' sm hl hx=>k _ _ (pZ sm hl hx fun _=>rfl);obtain⟨d,h1,h2⟩:=map_some hy;exact q true H (ax.refl H) (eJ ⟨d,h2.symm,h1⟩)
 ·cases e2
def pK(h:tE X.K cl (.comp e' tg it c') σ H Q):i0 (tI X.K cl it) (fL tg) (gT X.K tg) (tT X.K cl c') (tE X.K cl e') σ H Q:=by
 obtain⟨σD,d,rv,e,k⟩:=h;obtain⟨ds,e1,e⟩:=bind_some e;obtain⟨ds',e2,e⟩:=bind_some e;obtain⟨total,e3,e4⟩:=map_some e;unfold RL.fits at e2;split at e2
 ·rename_i hz;cases e2;subst e4;refine sA rv e1 hz e3 (fun σ1 σV H y Q rv1 hy q=>?_) fun l H' sm hl hx=>k _ _ (pZ sm hl hx fun _=>rfl);obtain⟨t,h1,h2⟩:=bind_some hy;refine⟨σ1,t,rv1,h1,fun H' sm=>q t H' sm ?_⟩
  cases t with
  |true=>
   obtain⟨d,h3,h4⟩:=map_some (show(RL.ev cl σ1 e').map some=some y from h2);exact eJ ⟨d,h4.symm,h3⟩
  |false=>
   cases(show(some none:Option (Option RL.D))=some y from h2);exact fq rfl
 ·cases e2
def yS(hc:X.calm=true)(S:nH scope X.env.scope)(hi:SI X cl tgE iter it)(B:jk X cl scope tgE tg elt e' lH [])(hs:∀ x,foldedSetIterable iter X.env x=pure x):SE X cl (.ListComp elt [⟨tgE,iter,[],0⟩] scope pos) (.compA e' tg it):=by
 intro pins s σ H Q I h;obtain⟨cls,h1,h2⟩:=fY S I;exact tu (fun _ _ _ _=>hc) h2 h1 hi B.blk hs pins s σ H Q I (qT h)
def qY(hc:∀ {pins:List (Addr × Obj)} {σ:L2.St} {H:Hp} {s:Shared} (cls:List (Str × Addr)) (C:Addr) (fp:List Addr),Inv X pins σ H s->CM (blk X scope cls C fp s H))(S:nH scope X.env.scope)(hi:PI' CM X tgE iter (tI X.K cl it))(B:jk X cl scope tgE tg elt e' (tT X.K cl c') [c])(hs:∀ x,foldedSetIterable iter X.env x=pure x):SE X cl (.ListComp elt [⟨tgE,iter,[c],0⟩] scope pos) (.comp e' tg it c'):=by
 intro pins s σ H Q I h;obtain⟨cls,h1,h2⟩:=fY S I;exact tu hc h2 h1 hi B.blk hs pins s σ H Q I (pK h)
abbrev SA(X:Cx)(cl:RL.Cl)(st:Stmt)(i:Nat)(e':RL.E):Prop:=PS X st (fun D σ H=>tE X.K cl e' σ H fun v H1=>D.nx (σ.set i (some v)) H1)
def PS.weak{st:Stmt}(h:PS X st t)(w:∀ D σ H,t' D σ H->t D σ H):PS X st t':=fun pins s σ H D I q=>h pins s σ H D I (w D σ H q)
def PSs.weak{st:List Stmt}(h:PSs X st t)(w:∀ D σ H,t' D σ H->t D σ H):PSs X st t':=fun pins s σ H D I q=>h pins s σ H D I (w D σ H q)
def yD(hc:X.calm=true)(hN:X.N.Nodup)(hiy:X.N[i]?=some y)(hy:X.env.scope.names.lookup y=some .local)(S:nH scope X.env.scope)(hi:SI X cl tgE iter it)(B:jk X cl scope tgE tg elt e' lH [])(hs:∀ x,foldedSetIterable iter X.env x=pure x)
 (hsw:swapsWith (.ListComp elt [⟨tgE,iter,[],0⟩] scope pos) (some (.Name y py)) spos.line X.env=pure true):SA X cl (.Assign [.Name y py] (.ListComp elt [⟨tgE,iter,[],0⟩] scope pos) spos) i (.compA e' tg it):=by
 intro pins s σ H D I h;obtain⟨cls,h1,h2⟩:=fY S I;exact t7 hc hN hiy hy h2 h1 hi B.blk hs hsw pins s σ H D I (qT h)
def zv(hc:X.calm=true)(hN:X.N.Nodup)(hiy:X.N[i]?=some y)(hy:X.env.scope.names.lookup y=some .local)(S:nH scope X.env.scope)(hi:SI X cl tgE iter it)(B:jk X cl scope tgE tg elt e' (tT X.K cl c') [c])(hs:∀ x,foldedSetIterable iter X.env x=pure x)
 (hsw:swapsWith (.ListComp elt [⟨tgE,iter,[c],0⟩] scope pos) (some (.Name y py)) spos.line X.env=pure true):SA X cl (.Assign [.Name y py] (.ListComp elt [⟨tgE,iter,[c],0⟩] scope pos) spos) i (.comp e' tg it c'):=by
 intro pins s σ H D I h;obtain⟨cls,h1,h2⟩:=fY S I;exact t7 hc hN hiy hy h2 h1 hi B.blk hs hsw pins s σ H D I (pK h)
def yh(hN:X.N.Nodup)(hiy:X.N[i]?=some y)(hx:Loc X.env.scope y)(he:SE X cl e e')(hf:X.fn y=true\/X.env.scope.names.lookup y=some .local)(hs:swapsWith e (some (.Name y py)) spos.line X.env=pure false)(hf2:True):SA X cl (.Assign [.Name y py] e spos) i e':=by
 exact qK hN hiy hx he hs hf
end comp
abbrev aZ(M:List Nat)(σ:L2.St):Addr->Prop:=fun a=>∃ i,M.contains i=true/\σ[i]?=some (some (.ref a))
abbrev Own(K:PySem.W.Frag)(H:Hp)(d:RL.D)(v:V):Prop:=l7 d=true/\RL.aK d=true/\Rep nP K H d v
structure RVm(K:PySem.W.Frag)(M:List Nat)(σD:RL.St)(σ:L2.St)(H:Hp):Prop where
 len:σD.length=σ.length
 val:∀ (i:Nat) (d:RL.D),σD[i]?=some (some d)->∃ v,σ[i]?=some (some v)/\(if M.contains i=true then Own K H d v else Rep (aZ M σ) K H d v)
 non:∀ (i:Nat) (v:V),σ[i]?=some (some v)->∃ d,σD[i]?=some (some d)
 sep:∀ (i j:Nat) (a:Addr),M.contains i=true->M.contains j=true->σ[i]?=some (some (.ref a))->σ[j]?=some (some (.ref a))->i=j
abbrev Fr'(M:List Nat)(σ:L2.St)(H:Hp)(σ':L2.St)(H':Hp):Prop:=(∀ b o,H b=some o->¬ aZ M σ b->H' b=some o/\¬ aZ M σ' b)/\∀ j,2<=M.count j->σ'[j]?=σ[j]?
def Fr'.trans(a:Fr' M σ H σ1 H1)(b:Fr' M σ1 H1 σ2 H2):Fr' M σ H σ2 H2:=⟨fun c o e n=>b.1 c o (a.1 c o e n).1 (a.1 c o e n).2,fun j hj=>(b.2 j hj).trans (a.2 j hj)⟩
def Fr'.same(s:ax H H1):Fr' M σ H σ H1:=⟨fun c o e n=>⟨s _ _ e,n⟩,fun _ _=>rfl⟩
def iu{M:List Nat}(h:2<=M.count j):M.contains j=true:=by
 have:0<M.count j:=by lia
 simpa using List.count_pos_iff.mp this
section st
variable{K:PySem.W.Frag}
def Own.ref(h:Own K H d v):∃ a o,v=.ref a/\H a=some o/\cU o:=by
 obtain⟨m,_,r⟩:=h
 cases d with
 | lst ds=>obtain⟨a,xs,e1,_,e2,_⟩:=aC r;exact⟨a,_,e1,e2,.inl ⟨_,rfl⟩⟩
 | dK ks ds=>rw[Rep]at r;obtain⟨a,xs,e1,_,e2,_⟩:=r;exact⟨a,_,e1,e2,.inr (.inl ⟨_,rfl⟩)⟩
 | dT ks ds=>rw[Rep]at r;obtain⟨a,xs,e1,_,e2,_⟩:=r;exact⟨a,_,e1,e2,.inr (.inr ⟨_,rfl⟩)⟩
 | _=>cases m
def RVm.rv0(h:RVm K M σD σ H):RV0 K σD σ H:=⟨Nat.le_of_eq h.len,fun i d e=>by
 obtain⟨v,h1,h2⟩:=h.val i d e;refine⟨v,h1,?_⟩;by_cases hm:M.contains i=true
 ·rw[if_pos hm]at h2;exact h2.2.2
 ·rw[if_neg hm]at h2
  exact h2.none⟩
def RVm.uj(h:RVm K M σD σ H):∀ a,aZ M σ a->∃ o,H a=some o/\cU o:=fun a ⟨i,hi,e⟩=>by
 obtain⟨d,hd⟩:=h.non i _ e;obtain⟨v,h1,h2⟩:=h.val i d hd;rw[if_pos hi]at h2;obtain⟨b,o,e1,e2,e3⟩:=h2.ref;rw[e]at h1;cases h1;cases e1;exact⟨o,e2,e3⟩
def RVm.rP(h:RVm K M σD σ H):∀ a,aZ M σ a->H a≠none:=fun a p=>by
 obtain⟨o,e,_⟩:=h.uj a p;rw[e]
 exact fun z=>nomatch z
def Own.same(h:Own K H d v)(s:ax H H1):Own K H1 d v:=⟨h.1,h.2.1,h.2.2.same s⟩
def RVm.same(h:RVm K M σD σ H)(s:ax H H1):RVm K M σD σ H1:=⟨h.len,fun i d e=>by
 obtain⟨v,h1,h2⟩:=h.val i d e;refine⟨v,h1,?_⟩;by_cases hm:M.contains i=true
 ·rw[if_pos hm]at h2 ⊢;exact h2.same s
 ·rw[if_neg hm]at h2 ⊢
  exact h2.same s,h.non,h.sep⟩
def aZ.set(hi:M.contains i=false):aZ M (σ.set i (some v))=aZ M σ:=by
 funext a;apply propext;constructor
 ·rintro⟨j,hj,e⟩
  have hne:i≠j:=fun z=>by subst z;rw[hi]at hj;cases hj
  rw[List.getElem?_set_ne hne]at e;exact⟨j,hj,e⟩
 ·rintro⟨j,hj,e⟩
  have hne:i≠j:=fun z=>by subst z;rw[hi]at hj;cases hj
  exact⟨j,hj,by rw[List.getElem?_set_ne hne];exact e⟩
def RVm.bind(h:RVm K M σD σ H)(hi:M.contains i=false)(r:Rep (aZ M σ) K H d v):RVm K M (σD.set i (some d)) (σ.set i (some v)) H where
 len:=by simpa using h.len
 val:=fun j dj e=>by
  rw[aZ.set hi];by_cases hj:j=i
  ·subst hj
   have hlt:j<σD.length:=by
    have:=(List.getElem?_eq_some_iff.mp e).1;simpa using this
   rw[List.getElem?_set_self hlt]at e;cases e;refine⟨v,by rw[List.getElem?_set_self (by rw[<-h.len];exact hlt)],?_⟩;rw[if_neg (by rw[hi];decide)];exact r
  ·rw[List.getElem?_set_ne (Ne.symm hj)]at e ⊢;exact h.val j dj e
 non:=fun j w e=>by
  by_cases hj:j=i
  ·subst hj
   have hlt:j<σ.length:=by
    have:=(List.getElem?_eq_some_iff.mp e).1;simpa using this
   exact⟨d,by rw[List.getElem?_set_self (by rw[h.len];exact hlt)]⟩
  ·rw[List.getElem?_set_ne (Ne.symm hj)]at e ⊢;exact h.non j w e
 sep:=fun j k a hj hk e1 e2=>by
  have n1:i≠j:=fun z=>by subst z;rw[hi]at hj;cases hj
  have n2:i≠k:=fun z=>by subst z;rw[hi]at hk;cases hk
  rw[List.getElem?_set_ne n1]at e1;rw[List.getElem?_set_ne n2]at e2;exact h.sep j k a hj hk e1 e2
def Fr'.bind{i:Nat}(hi:M.contains i=false)(s:ax H H1):Fr' M σ H (σ.set i (some v)) H1:=⟨fun b o e n=>⟨s _ _ e,by rw[aZ.set hi];exact n⟩,fun j hj=>List.getElem?_set_ne (fun z=>by subst z;rw[iu hj]at hi;cases hi)⟩
end st
mutual
theorem Rep.eO{P:Addr->Prop}{K:PySem.W.Frag}{H:Hp}{a:Addr}(ha:H a=none):∀ {d:RL.D} {v:V},Rep P K H d v->Rep (fun p=>P p\/p=a) K H d v
 | .non,v,h=>by simpa[Rep]using h
 | .bl _,v,h=>by simpa[Rep]using h
 | .int _,v,h=>by simpa[Rep]using h
 | .str _,v,h=>by simpa[Rep]using h
 | .tup ds,v,h=>by
  rw[Rep]at h ⊢;obtain⟨b,xs,e1,e2,e3⟩:=h;exact⟨b,xs,e1,e2,af.eO ha e3⟩
 | .lst ds,v,h=>by
  rw[Rep]at h ⊢;obtain⟨b,xs,e1,e0,e2,e3⟩:=h;exact⟨b,xs,e1,fun z=>z.elim e0 (fun q=>aM e2 ha q),e2,af.eO ha e3⟩
 | .dK ks ds,v,h=>by
  rw[Rep]at h ⊢;obtain⟨b,xs,e1,e0,e2,el,e3⟩:=h;exact⟨b,xs,e1,fun z=>z.elim e0 (fun q=>aM e2 ha q),e2,el,af.eO ha e3⟩
 | .dT ks ds,v,h=>by
  rw[Rep]at h ⊢;obtain⟨b,xs,e1,e0,e2,el,e3⟩:=h;exact⟨b,xs,e1,fun z=>z.elim e0 (fun q=>aM e2 ha q),e2,el,af.eO ha e3⟩
 | .scr ds,v,h=>by
  rw[Rep]at h ⊢;obtain⟨b,xs,e1,e2,e3⟩:=h;exact⟨b,xs,e1,e2,af.eO ha e3⟩
 | .exc c,v,h=>by rw[Rep]at h ⊢;exact h
theorem af.eO{P:Addr->Prop}{K:PySem.W.Frag}{H:Hp}{a:Addr}(ha:H a=none):∀ {ds:List RL.D} {xs:List V},af P K H ds xs->af (fun p=>P p\/p=a) K H ds xs
 | [],xs,h=>by rw[af]at h ⊢;exact h
 | d::r,xs,h=>by
  rw[af]at h ⊢;obtain⟨x,t,e1,e2,e3⟩:=h;exact⟨x,t,e1,Rep.eO ha e2,af.eO ha e3⟩
end
section st
variable{K:PySem.W.Frag}
def RVm.own(h:RVm K M σD σ H)(s:ax H H1)(hi:M.contains i=true)(hi2:M.count i<2)(ha:H a=none)(r:Own K H1 d (.ref a)):RVm K M (σD.set i (some d)) (σ.set i (some (.ref a))) H1/\Fr' M σ H (σ.set i (some (.ref a))) H1:=by
 have sub:∀ b,aZ M (σ.set i (some (.ref a))) b->aZ M σ b\/b=a:=fun b ⟨j,hj,e⟩=>by
  by_cases hji:j=i
  ·subst hji
   have hlt:j<σ.length:=by
    have:=(List.getElem?_eq_some_iff.mp e).1;simpa using this
   rw[List.getElem?_set_self hlt]at e;cases e;exact .inr rfl
  ·rw[List.getElem?_set_ne (Ne.symm hji)]at e;exact .inl ⟨j,hj,e⟩
 have old:∀ b,aZ M σ b->b≠a:=fun b p z=>h.rP b p (z▸ha);refine⟨⟨by simpa using h.len,fun j dj e=>?_,fun j w e=>?_,fun j k b hj hk e1 e2=>?_⟩,⟨fun b o e n=>⟨s _ _ e,fun z=>(sub b z).elim n fun q=>aM e ha q⟩,fun j hj=>List.getElem?_set_ne (fun z=>by subst z;lia)⟩⟩
 ·by_cases hj:j=i
  ·subst hj
   have hlt:j<σD.length:=by
    have:=(List.getElem?_eq_some_iff.mp e).1;simpa using this
   rw[List.getElem?_set_self hlt]at e;cases e;refine⟨.ref a,by rw[List.getElem?_set_self (by rw[<-h.len];exact hlt)],?_⟩;rw[if_pos hi];exact r
  ·rw[List.getElem?_set_ne (Ne.symm hj)]at e ⊢;obtain⟨v,h1,h2⟩:=h.val j dj e;refine⟨v,h1,?_⟩;by_cases hm:M.contains j=true
   ·rw[if_pos hm]at h2 ⊢;exact h2.same s
   ·rw[if_neg hm]at h2 ⊢;exact((h2.eO ha).weak sub).same s
 ·by_cases hj:j=i
  ·subst hj
   have hlt:j<σ.length:=by
    have:=(List.getElem?_eq_some_iff.mp e).1;simpa using this
   exact⟨d,by rw[List.getElem?_set_self (by rw[h.len];exact hlt)]⟩
  ·rw[List.getElem?_set_ne (Ne.symm hj)]at e ⊢;exact h.non j w e
 ·by_cases h1:j=i
  ·by_cases h2:k=i
   ·rw[h1,h2]
   ·subst h1
    have hlt:j<σ.length:=by
     have:=(List.getElem?_eq_some_iff.mp e1).1;simpa using this
    rw[List.getElem?_set_self hlt]at e1;rw[List.getElem?_set_ne (Ne.symm h2)]at e2;cases e1;exact absurd rfl (old _ ⟨k,hk,e2⟩)
  ·rw[List.getElem?_set_ne (Ne.symm h1)]at e1;by_cases h2:k=i
   ·subst h2
    have hlt:k<σ.length:=by
     have:=(List.getElem?_eq_some_iff.mp e2).1;simpa using this
    rw[List.getElem?_set_self hlt]at e2;cases e2;exact absurd rfl (old _ ⟨j,hj,e1⟩)
   ·rw[List.getElem?_set_ne (Ne.symm h2)]at e2;exact h.sep j k b hj hk e1 e2
def RVm.iE(h:RVm K M σD σ H)(hi:M.contains i=true)(e:σ[i]?=some (some (.ref a)))(ha:H a=some o)(m:cU o)(r:Own K (upd H a o') d' (.ref a)):RVm K M (σD.set i (some d')) σ (upd H a o')/\Fr' M σ H σ (upd H a o'):=by
 have pa:aZ M σ a:=⟨i,hi,e⟩
 refine⟨⟨by simpa using h.len,fun j dj e'=>?_,fun j w e'=>?_,h.sep⟩,⟨fun b u eb n=>⟨?_,n⟩,fun _ _=>rfl⟩⟩
 ·by_cases hj:j=i
  ·subst hj
   have hlt:j<σD.length:=by
    have:=(List.getElem?_eq_some_iff.mp e').1;simpa using this
   rw[List.getElem?_set_self hlt]at e';cases e';refine⟨.ref a,e,?_⟩;rw[if_pos hi];exact r
  ·rw[List.getElem?_set_ne (Ne.symm hj)]at e';obtain⟨v,h1,h2⟩:=h.val j dj e';refine⟨v,h1,?_⟩;by_cases hm:M.contains j=true
   ·rw[if_pos hm]at h2 ⊢;obtain⟨b,ob,rfl,hb,_⟩:=h2.ref
    have hne:b≠a:=fun z=>by subst z;exact hj (h.sep j i b hm hi h1 e)
    obtain⟨q1,q2,q3⟩:=h2;refine⟨q1,q2,?_⟩;have im:∀ {ds:List RL.D} {xs:List V},RL.au ds=true->af nP K H ds xs->af nP K (L2.upd H a o') ds xs:=fun hi r=>(af.upd (P:=fun p=>p=a) ha m rfl (r.imm hi)).imm hi
    cases dj with
    | lst ds=>obtain⟨b',xs,e1,e0,e2,e3⟩:=aC q3;cases e1;rw[Rep];exact⟨b,xs,rfl,fun z=>z,by rw[L2.aI hne];exact e2,im q2 e3⟩
    | dK ks ds=>rw[Rep]at q3 ⊢;obtain⟨b',xs,e1,e0,e2,el,e3⟩:=q3;cases e1;exact⟨b,xs,rfl,fun z=>z,by rw[L2.aI hne];exact e2,el,im q2 e3⟩
    | dT ks ds=>rw[Rep]at q3 ⊢;obtain⟨b',xs,e1,e0,e2,el,e3⟩:=q3;cases e1;exact⟨b,xs,rfl,fun z=>z,by rw[L2.aI hne];exact e2,el,im q2 e3⟩
    | _=>cases q1
   ·rw[if_neg hm]at h2 ⊢;exact Rep.upd ha m pa h2
 ·obtain⟨dj,hd⟩:=h.non j w e';by_cases hj:j=i
  ·subst hj;have hlt:=(List.getElem?_eq_some_iff.mp hd).1;exact⟨d',by rw[List.getElem?_set_self hlt]⟩
  ·exact⟨dj,by rw[List.getElem?_set_ne (Ne.symm hj)];exact hd⟩
 ·have hb:b≠a:=fun z=>n (z▸pa);rw[L2.aI hb];exact eb
end st
abbrev qI(K:PySem.W.Frag)(M:List Nat)(D:Ends)(σ:L2.St)(H:Hp):RL.Out->RL.St->Prop
 | .nx,σD'=>∀ σ' H',RVm K M σD' σ' H'->Fr' M σ H σ' H'->D.nx σ' H'
 | .rt d,σD'=>∀ σ1 H1 v H',RVm K M σD' σ1 H1->Fr' M σ H σ1 H1->ax H1 H'->(∀ P:Addr->Prop,(∀ p,P p->H1 p≠none/\¬ aZ M σ1 p)->Rep P K H' d v)->D.rt v H'
def qI.from{K:PySem.W.Frag}(h:qI K M D σ H r σD')(f:Fr' M σ H σ1 H1):qI K M D σ1 H1 r σD':=by
 cases r with
 | nx=>exact fun σ2 H2 rv2 fr2=>h σ2 H2 rv2 (f.trans fr2)
 | rt d=>exact fun σ1 H1 v H2 rv2 fr2 sm rp=>h σ1 H1 v H2 rv2 (f.trans fr2) sm rp
abbrev tS(K:PySem.W.Frag)(M:List Nat)(f:RL.St->Option (RL.Out × RL.St)):TS:=fun D σ H=>∃ σD r σD',RVm K M σD σ H/\f σD=some (r,σD')/\qI K M D σ H r σD'
abbrev SS(X:Cx)(cl:RL.Cl)(M:List Nat)(st:Stmt)(s:RL.S):Prop:=PS X st (tS X.K M (RL.evS cl M s))
abbrev SSs(X:Cx)(cl:RL.Cl)(M:List Nat)(st:List Stmt)(s:RL.Ss):Prop:=PSs X st (tS X.K M (RL.ag cl M s))
section rules
variable{st:Stmt}{i j:Nat}
def Bu:SSs X cl M [] .nil:=by
 refine PSs.weak Bk fun D σ H h=>?_;obtain⟨σD,r,σD',rv,e,k⟩:=h;rw[RL.ag]at e;cases e;exact k σ H rv (Fr'.same (ax.refl H))
def xR(h1:SS X cl M st s)(h2:SSs X cl M sts r):SSs X cl M (st::sts) (.cons s r):=by
 refine PSs.weak (kR h1 h2) fun D σ H h=>?_;obtain⟨σD,o,σD',rv,e,k⟩:=h;rw[RL.ag]at e;obtain⟨p,e1,e2⟩:=bind_some e;obtain⟨o1,σ1⟩:=p;refine⟨σD,o1,σ1,rv,e1,?_⟩
 cases o1 with
 |rt d=>
  cases e2;exact k
 |nx=>
  exact fun σ' H' rv' fr'=>⟨σ1,o,σD',rv',e2,k.from fr'⟩
def Di(h:SA X cl st i e')(hi:M.contains i=false):SS X cl M st (.asg i e'):=by
 refine PS.weak h fun D σ H h=>?_;obtain⟨σD,o,σD',rv,e,k⟩:=h;obtain⟨d,e1,e2⟩:=bind_some e;split at e2
 ·rename_i ok;cases e2;refine⟨σD,d,rv.rv0,e1,fun v H1 r1=>k _ _ ?_ (Fr'.bind hi r1.same)⟩;refine(rv.same r1.same).bind hi ?_;unfold RL.bb at ok;rw[Bool.or_eq_true,Bool.or_eq_true,Bool.and_eq_true]at ok;rcases ok with(q | ⟨q1,q2⟩) | q
  ·exact r1.rep.imm q
  ·have rp:=r1.rep;have fr:l7 d=true->∀ a,v=.ref a->¬ aZ M σ a:=fun m a z p=>rv.rP a p (r1.fresh q2 m a z)
   cases d with
   | lst ds=>obtain⟨a,xs,e1,e0,e2,e3⟩:=aC rp;rw[Rep];exact⟨a,xs,e1,fr rfl a e1,e2,e3.imm q1⟩
   | dK ks ds=>rw[Rep]at rp ⊢;obtain⟨a,xs,e1,e0,e2,el,e3⟩:=rp;exact⟨a,xs,e1,fr rfl a e1,e2,el,e3.imm q1⟩
   | dT ks ds=>rw[Rep]at rp ⊢;obtain⟨a,xs,e1,e0,e2,el,e3⟩:=rp;exact⟨a,xs,e1,fr rfl a e1,e2,el,e3.imm q1⟩
   | _=>cases q1
  ·refine r1.av M q _ rv.rP fun j dj vj hj h1 h2=>?_;obtain⟨v',h3,h4⟩:=rv.val j dj h1;rw[h2]at h3;cases h3;rw[if_neg (by rw[hj];decide)]at h4;exact h4
 ·cases e2
def DQ(h:SA X cl st i e')(hi:M.contains i=true)(hi2:M.count i<2):SS X cl M st (.own i e'):=by
 refine PS.weak h fun D σ H h=>?_;obtain⟨σD,o,σD',rv,e,k⟩:=h;obtain⟨d,e1,e2⟩:=bind_some e;split at e2
 ·rename_i ok;cases e2;rw[Bool.and_eq_true]at ok;refine⟨σD,d,rv.rv0,e1,fun v H1 r1=>?_⟩
  have m:l7 d=true:=by
   cases d with
   | lst _=>rfl
   | dK _ _=>rfl
   | dT _ _=>rfl
   | _=>cases ok.1
  have ow:Own X.K H1 d v:=⟨m,ok.1,r1.rep⟩
  obtain⟨a,ob,rfl,_,_⟩:=ow.ref;obtain⟨h1,h2⟩:=rv.own r1.same hi hi2 (r1.fresh ok.2 m a rfl) ow;exact k _ _ h1 h2
 ·cases e2
def F4{c:Expr}(hc:ST X cl c c')(ha:SSs X cl M a a')(hb:SSs X cl M b b'):SS X cl M (.If c a b pos) (.ife c' a' b'):=by
 refine PS.weak (tX hc ha hb) fun D σ H h=>?_;obtain⟨σD,o,σD',rv,e,k⟩:=h;obtain⟨t,e1,e2⟩:=bind_some e;refine⟨σD,t,rv.rv0,e1,fun H1 s1=>?_⟩;have k1:=k.from (Fr'.same (σ:=σ) s1)
 cases t with
 | true=>exact eJ ⟨σD,o,σD',rv.same s1,e2,k1⟩
 | false=>exact fq ⟨σD,o,σD',rv.same s1,e2,k1⟩
def Co(he:SE X cl e e')(hv:∀ i,e'=.var i->M.contains i=false):SS X cl M (.Return (some e) pos) (.ret e'):=by
 refine PS.weak (pW he) fun D σ H h=>?_;obtain⟨σD,o,σD',rv,ev,k⟩:=h;obtain⟨d,e1,e2⟩:=bind_some ev;split at e2
 ·rename_i ok;cases e2;refine⟨σD,d,rv.rv0,e1,fun v H1 r1=>k σ H v H1 rv (Fr'.same (ax.refl H)) r1.same fun P hP=>?_⟩;unfold RL.bc at ok;rw[Bool.or_eq_true,Bool.and_eq_true,Bool.or_eq_true]at ok
  rcases ok with q | ⟨q1,q2⟩
  ·exact r1.rep.imm q
  ·have rp:=r1.rep
   have fr:l7 d=true->∀ a,v=.ref a->¬ P a:=fun m a z p=>by
    rcases q2 with q | q
    ·exact(hP a p).1 (r1.fresh q m a z)
    ·cases e' with
     |var i=>
      have hi:M.contains i=true:=q;rw[hv i rfl]at hi;cases hi
     | _=>cases q
   cases d with
   | lst ds=>obtain⟨a,xs,e1,e0,e2,e3⟩:=aC rp;rw[Rep];exact⟨a,xs,e1,fr rfl a e1,e2,e3.imm q1⟩
   | dK ks ds=>rw[Rep]at rp ⊢;obtain⟨a,xs,e1,e0,e2,el,e3⟩:=rp;exact⟨a,xs,e1,fr rfl a e1,e2,el,e3.imm q1⟩
   | dT ks ds=>rw[Rep]at rp ⊢;obtain⟨a,xs,e1,e0,e2,el,e3⟩:=rp;exact⟨a,xs,e1,fr rfl a e1,e2,el,e3.imm q1⟩
   | _=>cases q1
 ·cases e2
def An(hN:X.N[i]?=some x)(hv:Vis X.env.scope x)(hd:(x == ("__debug__" : Str))=false)(hcd:(x == ("__classdict__" : Str))=false)(hi:M.contains i=true):SS X cl M (.Return (some (.Name x p)) pos) (.ret (.var i)):=by
 refine PS.weak (pW (gB hN hv hd hcd)) fun D σ H h=>?_;obtain⟨σD,o,σD',rv,e,k⟩:=h;obtain⟨d,e1,e2⟩:=bind_some e;split at e2
 ·cases e2
  have e3:σD[i]?=some (some d):=by
   obtain⟨o,h1,h2⟩:=bind_some e1
   cases o with
   | none=>cases h2
   | some z=>cases h2;exact h1
  obtain⟨v,h1,h2⟩:=rv.val i d e3;rw[if_pos hi]at h2;refine⟨v,h1,k σ H v H rv (Fr'.same (ax.refl H)) (ax.refl H) fun P hP=>?_⟩;obtain⟨a,o,rfl,_,_⟩:=h2.ref;have np:¬ P a:=fun p=>(hP a p).2 ⟨i,hi,h1⟩;obtain⟨q1,q2,q3⟩:=h2
  cases d with
  | lst ds=>obtain⟨b,xs,e1,e0,e2,e3⟩:=aC q3;cases e1;rw[Rep];exact⟨a,xs,rfl,np,e2,e3.imm q2⟩
  | dK ks ds=>rw[Rep]at q3 ⊢;obtain⟨b,xs,e1,e0,e2,el,e3⟩:=q3;cases e1;exact⟨a,xs,rfl,np,e2,el,e3.imm q2⟩
  | dT ks ds=>rw[Rep]at q3 ⊢;obtain⟨b,xs,e1,e0,e2,el,e3⟩:=q3;cases e1;exact⟨a,xs,rfl,np,e2,el,e3.imm q2⟩
  | _=>cases q1
 ·cases e2
def slot_get{σD:RL.St}(h:(σD[i]?).bind id=some d):σD[i]?=some (some d):=by
 obtain⟨o,h1,h2⟩:=bind_some h
 cases o with
 | none=>cases h2
 | some z=>cases h2;exact h1
def CA(h:PS X st (oV (tBM X.K "list" sk (ji i) (tEs X.K cl (.cons e' .nil)))))(hi:M.contains i=true):SS X cl M st (.app i e'):=by
 refine PS.weak h fun D σ H h=>?_;obtain⟨σD,o,σD',rv,e,k⟩:=h;obtain⟨d,e1,e2⟩:=bind_some e;obtain⟨l,e3,e4⟩:=bind_some e2
 cases l with
 |lst ds=>
  dsimp only at e4;split at e4
  ·rename_i ok;cases e4;rw[Bool.and_eq_true,decide_eq_true_eq]at ok;obtain⟨v,h1,h2⟩:=rv.val i _ (slot_get e3);rw[if_pos hi]at h2;obtain⟨q1,q2,q3⟩:=h2;obtain⟨a,xs,rfl,_,f2,f3⟩:=aC q3;refine⟨.ref a,h1,.inl ⟨rfl,xs,SqL.of f2⟩,σD,[d],rv.rv0,by rw[RL.evs,e1];rfl,fun vs H1 s1 r1=>?_⟩;rw[af]at r1;obtain⟨y,t,rfl,r2,r3⟩:=r1;rw[af]at r3;subst r3
   have hl:xs.length<sizeLine:=by rw[<-f3.length];exact Nat.lt_of_lt_of_le ok.2 bZ
   refine⟨a,xs,y,rfl,rfl,s1 _ _ f2,hl,?_⟩
   have im:RL.au (ds++[d])=true:=by
    have:∀ l:List RL.D,RL.au l=true->RL.au (l++[d])=true:=fun l=>by
     induction l with
     | nil=>intro _;simp[RL.au,ok.1]
     | cons z r ih=>intro h;rw[RL.au,Bool.and_eq_true]at h;rw[List.cons_append,RL.au,h.1,ih h.2];rfl
    exact this ds q2
   have rs:af nP X.K (upd H1 a (.lst (xs++[y]))) (ds++[d]) (xs++[y]):=(af.upd (P:=fun p=>p=a) (s1 _ _ f2) (.inl ⟨_,rfl⟩) rfl ((af.append (f3.same s1) (af.cons r2 af.nil)).imm im)).imm im;obtain⟨g1,g2⟩:=(rv.same s1).iE (d':=.lst (ds++[d])) (o':=.lst (xs++[y])) hi h1 (s1 _ _ f2) (.inl ⟨_,rfl⟩) ⟨rfl,im,by rw[Rep];exact⟨a,_,rfl,fun z=>z,aP,rs⟩⟩;exact k _ _ g1 ((Fr'.same s1).trans g2)
  ·cases e4
 | _=>cases e4
end rules
def RVm.bK{K:PySem.W.Frag}{M:List Nat}{H:Hp}:∀ {tg:List Nat} {ds:List RL.D} {vs:List V} {σD:RL.St} {σ:L2.St},RVm K M σD σ H->(∀ i∈tg,M.contains i=false)->tg.length=ds.length->RL.au ds=true->af nP K H ds vs ->
  RVm K M (eB tg ds σD) (cT tg vs σ) H/\aZ M (cT tg vs σ)=aZ M σ
 | [],_,_,_,_,h,_,_,_,_=>⟨h,rfl⟩
 | i::is,[],_,_,_,_,_,hl,_,_=>by simp at hl
 | i::is,d::ds,vs,σD,σ,h,hM,hl,him,r=>by
  rw[af]at r;obtain⟨v,t,rfl,r1,r2⟩:=r;rw[RL.au,Bool.and_eq_true]at him;rw[eB,cT];have hi:=hM i List.mem_cons_self;obtain⟨g1,g2⟩:=RVm.bK (h.bind hi (r1.imm him.1)) (fun j hj=>hM j (List.mem_cons_of_mem _ hj)) (by simpa using hl) him.2 r2;exact⟨g1,g2.trans (aZ.set hi)⟩
def lx{M tg:List Nat}{vs:List V}{σ:L2.St}{j:Nat}(hM:∀ i∈tg,M.contains i=false)(hj:2<=M.count j):(cT tg vs σ)[j]?=σ[j]?:=by
 refine nC tg vs σ j ?_
 cases hc:tg.contains j with
 | false=>rfl
 |true=>
  have:=hM j (by simpa using hc);rw[iu hj]at this;cases this
section rules
variable{X:Cx}{cl:RL.Cl}{M:List Nat}{st:Stmt}{tgE iter:Expr}{body:List Stmt}{b:RL.Ss}{it:RL.It}{tg:List Nat}{e' k' a' b':RL.E}{i j:Nat}{pos:Pos}
def ui{f:RL.St->Option (RL.Out × RL.St)}{d:RL.D}{ds:List RL.D}{σ:RL.St}{p:RL.Out × RL.St}(h:RL.bz f tg (d::ds) σ=some p):d.imm=true/\∃ σ1 o σ2,RL.aF tg d σ=some σ1/\f σ1=some (o,σ2) /\
  (match o with | .nx=>RL.bz f tg ds σ2=some p | .rt d=>p=(.rt d,σ2)):=by
 rw[RL.bz]at h;split at h
 ·rename_i him;obtain⟨σ1,h1,h⟩:=bind_some h;obtain⟨⟨o,σ2⟩,h2,h⟩:=bind_some h;refine⟨him,σ1,o,σ2,h1,h2,?_⟩
  cases o with
  | nx=>exact h
  | rt d=>exact(Option.some.inj h).symm
 ·cases h
def Dp(hx:X.xe=fun _ _=>False)(hc:X.calm=true)(hi:SI X cl tgE iter it)(hg:PG X tgE (gT X.K tg))(hb:SSs X cl M body b)(hs:∀ x,foldedSetIterable iter X.env x=pure x)(hav:RL.rF M it=true)(hM:∀ i∈tg,M.contains i=false) :
  SS X cl M (.For tgE iter body [] pos) (.forr tg it b):=by
 refine PS.weak (xa (by rw[hx];exact PassesOwn.never) hc hi hg hb hs) fun D σ H h=>?_;obtain⟨σD,r,σD',rv,e,k⟩:=h;obtain⟨ds,e1,e2⟩:=bind_some e;refine⟨σD,ds,rv.rv0,e1,fun J H1 s1 src=>?_⟩
 have ok:ib X.K J ds (aZ M σ) H1:=src.2 M (aZ M σ) hav rv.uj fun j dj vj hj h1 h2=>by
  obtain⟨v',h3,h4⟩:=rv.val j dj h1;rw[h2]at h3;cases h3;rw[if_neg (by rw[hj];decide)]at h4;exact h4
 have k1:=k.from (Fr'.same (σ:=σ) s1);refine⟨fun i m σ2 H2=>∃ σD2,m=ds.length-i/\i<=ds.length/\RVm X.K M σD2 σ2 H2/\Fr' M σ H1 σ2 H2/\RL.bz (RL.ag cl M b) tg (ds.drop i) σD2=some (r,σD'),⟨_,σD,rfl,Nat.zero_le _,rv.same s1,Fr'.same (ax.refl _),e2⟩,?_⟩;rintro i m σ2 H2 ⟨σD2,rfl,hi2,rv2,fr2,hl⟩;have off:Off (aZ M σ) H1 H2:=fun b o n e=>(fr2.1 b o e n).1;by_cases hlt:i<ds.length
 ·refine .inr ⟨ok.go H2 i off hlt,fun σ' H'=>∃ m',m'<ds.length-i/\∃ σD2,m'=ds.length-(i+1)/\i+1<=ds.length/\RVm X.K M σD2 σ' H'/\Fr' M σ H1 σ' H'/\RL.bz (RL.ag cl M b) tg (ds.drop (i+1)) σD2=some (r,σD'),fun σ' H' z=>z,fun x H3 y=>?_⟩;rw[List.drop_eq_getElem_cons hlt]at hl;obtain⟨him,σ3,o,σ4,h1,h2,h3⟩:=ui hl;obtain⟨s3,rp⟩:=ok.yld H2 i ds[i] x H3 off (by simp[hlt]) y;obtain⟨dv,vs,q1,q2,q3,q4,q5⟩:=uQ h1 (rp (.inl him));refine q5 _ _ ?_;obtain⟨rv3,as3⟩:=(rv2.same s3).bK hM q2 (q4 him) q3
  have fr3:Fr' M σ H1 (cT tg vs σ2) H3:=⟨fun b o e n=>⟨s3 _ _ (fr2.1 b o e n).1,by rw[as3];exact(fr2.1 b o e n).2⟩,fun j hj=>(lx hM hj).trans (fr2.2 j hj)⟩
  refine⟨σ3,o,σ4,by rw[q1];exact rv3,h2,?_⟩
  cases o with
  | nx=>exact fun σ' H' rv' fr'=>⟨_,by lia,σ4,rfl,hlt,rv',fr3.trans fr',h3⟩
  |rt d=>
   cases h3;exact fun σ' H' v H4 rv' fr' sm rp=>k1 σ' H' v H4 rv' (fr3.trans fr') sm rp
 ·have e:i=ds.length:=by lia
  subst e;rw[List.drop_length,RL.bz]at hl;cases hl;exact .inl ⟨ok.stop H2 off,k1 σ2 H2 rv2 fr2⟩
def zA{n:Nat}{k:Int}{j:Nat}(h:RL.mU n k=some j):ixN n k=some j:=h
def vd:∀ {ds:List RL.D} {d:RL.D} (j:Nat),RL.au ds=true->d.imm=true->RL.au (ds.set j d)=true
 | [],d,j,_,_=>by simp[RL.au]
 | x::r,d,0,h,hd=>by rw[RL.au,Bool.and_eq_true]at h;rw[List.set_cons_zero,RL.au,hd,h.2];rfl
 | x::r,d,j+1,h,hd=>by rw[RL.au,Bool.and_eq_true]at h;rw[List.set_cons_succ,RL.au,h.1,vd j h.2 hd];rfl
def mI{H:Hp}{a:Addr}{ds:List RL.D}{xs ys:List V}{ds':List RL.D}(f2:H a=some (.lst xs))(im:RL.au ds'=true)(rs:af nP X.K H ds' ys):Own X.K (upd H a (.lst ys)) (.lst ds') (.ref a) :=
 ⟨rfl,im,by rw[Rep];exact⟨a,_,rfl,fun z=>z,aP,(af.upd (P:=fun p=>p=a) f2 (.inl ⟨_,rfl⟩) rfl (rs.imm im)).imm im⟩⟩
def E4(h:PS X st (nB (tE X.K cl e') (ya (ji i) (tE X.K cl k') tN)))(hi:M.contains i=true)(hl:True):PS X st (tS X.K M fun σD=>(RL.ev cl σD e').bind fun d=>(RL.ev cl σD k').bind fun kk=>((σD[i]?).bind id).bind fun l=>match l with
  | .lst _=>if d.imm then(RL.df l kk d).map fun l'=>(.nx,σD.set i (some l'))else none
  | _=>none):=by
 refine PS.weak h fun D σ H h=>?_;obtain⟨σD,o,σD',rv,e,k⟩:=h;obtain⟨d,e1,e⟩:=bind_some e;obtain⟨kk,e2,e⟩:=bind_some e;obtain⟨l,e3,e⟩:=bind_some e
 cases l with
 |lst ds=>
  dsimp only at e;split at e
  ·rename_i him;obtain⟨l',e4,e5⟩:=map_some e;cases e5;obtain⟨v,h1,h2⟩:=rv.val i _ (slot_get e3);rw[if_pos hi]at h2;obtain⟨q1,q2,q3⟩:=h2;obtain⟨a,xs,rfl,_,f2,f3⟩:=aC q3
   cases kk with
   |int kk=>
    obtain⟨jx,e6,e7⟩:=map_some (show(RL.mU ds.length kk).map (fun j=>RL.D.lst (ds.set j d))=some l' from e4);subst e7;refine⟨σD,d,rv.rv0,e1,fun y H1 r1=>⟨.ref a,h1,σD,.int kk,rv.rv0.same r1.same,e2,fun z H2 r2=>?_⟩⟩;have sm:=r1.same.trans r2.same;refine⟨a,xs,kk,jx,rfl,ah r2.rep,sm _ _ f2,?_,?_⟩
    ·rw[<-f3.length];exact zA e6
    ·have im:=vd jx q2 him;obtain⟨g1,g2⟩:=(rv.same sm).iE (d':=.lst (ds.set jx d)) (o':=.lst (xs.set jx y)) hi h1 (sm _ _ f2) (.inl ⟨_,rfl⟩) (mI (ds:=ds) (sm _ _ f2) im (af.set jx (f3.same sm) (r1.rep.same r2.same)));exact k _ _ g1 ((Fr'.same sm).trans g2)
   | _=>cases e4
  ·cases e
 | _=>cases e
def mH:∀ {ds:List RL.D},RL.au ds=true->RL.au ds.dropLast=true
 | [],_=>rfl
 | [x],_=>rfl
 | x::y::r,h=>by rw[RL.au,Bool.and_eq_true]at h;rw[List.dropLast_cons_cons,RL.au,h.1,mH h.2];rfl
def vk:∀ {ds:List RL.D} {i:Nat} {d:RL.D},RL.au ds=true->ds[i]?=some d->d.imm=true
 | [],i,d,_,e=>by simp at e
 | x::r,0,d,h,e=>by rw[RL.au,Bool.and_eq_true]at h;simp at e;subst e;exact h.1
 | x::r,i+1,d,h,e=>by rw[RL.au,Bool.and_eq_true]at h;exact vk (i:=i) h.2 (by simpa using e)
def af.dropLast{P:Addr->Prop}{K:PySem.W.Frag}{H:Hp}{ds:List RL.D}{xs:List V}(h:af P K H ds xs):af P K H ds.dropLast xs.dropLast:=by
 rw[List.dropLast_eq_take,List.dropLast_eq_take,<-h.length];exact h.take _
def Dh(h:PS X st (nB (y8 X.K "list" yN (ji i)) (lR j)))(hi:M.contains i=true)(hj:M.contains j=false):SS X cl M st (.pop i j):=by
 refine PS.weak h fun D σ H h=>?_;obtain⟨σD,o,σD',rv,e,k⟩:=h;obtain⟨l,e3,e⟩:=bind_some e
 cases l with
 |lst ds=>
  obtain⟨d,e4,e5⟩:=map_some e;cases e5;obtain⟨v,h1,h2⟩:=rv.val i _ (slot_get e3);rw[if_pos hi]at h2;obtain⟨q1,q2,q3⟩:=h2;obtain⟨a,xs,rfl,_,f2,f3⟩:=aC q3;obtain⟨y,f4,f5⟩:=f3.get e4;refine⟨.ref a,h1,.inl ⟨rfl,xs,SqL.of f2⟩,a,xs,y,rfl,rfl,f2,by rw[<-f3.length];exact f4,?_⟩;have im:=mH q2;obtain⟨g1,g2⟩:=rv.iE (d':=.lst ds.dropLast) (o':=.lst xs.dropLast) hi h1 f2 (.inl ⟨_,rfl⟩) (mI (ds:=ds) f2 im f3.dropLast);have hdi:d.imm=true:=vk q2 e4;have rd:Rep (aZ M σ) X.K (upd H a (.lst xs.dropLast)) d y:=Rep.imm hdi (Rep.upd (P:=fun p=>p=a) f2 (.inl ⟨_,rfl⟩) rfl (f5.imm hdi));exact k _ _ (g1.bind hj rd) (g2.trans (Fr'.bind hj (ax.refl _)))
 | _=>cases e
def Ex(h:PS X st (DK i j (tEs X.K cl (.cons a' (.cons b' .nil)))))(hi:M.contains i=false)(hj:M.contains j=false):SS X cl M st (.par i j a' b'):=by
 refine PS.weak h fun D σ H h=>?_;obtain⟨σD,o,σD',rv,e,k⟩:=h;obtain⟨x,e1,e⟩:=bind_some e;obtain⟨y,e2,e⟩:=bind_some e;split at e
 ·rename_i him;cases e;rw[Bool.and_eq_true]at him;refine⟨σD,[x,y],rv.rv0,by rw[RL.evs,e1,RL.evs,e2];rfl,fun vs H1 s1 r1=>?_⟩;rw[af]at r1;obtain⟨v,t,rfl,r2,r3⟩:=r1;rw[af]at r3;obtain⟨u,t,rfl,r4,r5⟩:=r3;rw[af]at r5;subst r5;refine⟨v,u,rfl,k _ _ ?_ ?_⟩
  ·refine((rv.same s1).bind hi (r2.imm him.1)).bind hj (r4.imm him.2)
  ·exact(Fr'.bind hi s1).trans (Fr'.bind hj (ax.refl _))
 ·cases e
def E2(h:PS X st (oV (tE X.K cl e'))):SS X cl M st (.exc e'):=by
 refine PS.weak h fun D σ H h=>?_;obtain⟨σD,o,σD',rv,e,k⟩:=h;obtain⟨d,e1,e2⟩:=map_some e;cases e2;exact⟨σD,d,rv.rv0,e1,fun v H1 r1=>k _ _ (rv.same r1.same) (Fr'.same r1.same)⟩
end rules
section rules
variable{st:Stmt}
def AA(h:PS X st (nB (tE X.K cl e') (fun v σ H Q=>nv X.K is.length (gs is) v σ H Q\/nL X.K is.length (gs is) v σ H Q)))(hM:∀ i∈is,M.contains i=false):SS X cl M st (.unp is e'):=by
 refine PS.weak h fun D σ H h=>?_;obtain⟨σD,o,σD',rv,e,k⟩:=h;obtain⟨d,e1,e⟩:=bind_some e;obtain⟨ds,e2,e⟩:=bind_some e;split at e
 ·rename_i him;obtain⟨σ1,e3,e4⟩:=map_some e;cases e4;obtain⟨q1,q2⟩:=fD e3;refine⟨σD,d,rv.rv0,e1,fun v H1 r1=>?_⟩;obtain⟨p,xs,rfl,hp,rs⟩:=gF e2 r1.rep;obtain⟨g1,g2⟩:=(rv.same r1.same).bK (vs:=xs) hM q1 him rs;have fin:D.nx (cT is xs σ) H1:=k _ _ (by rw[q2];exact g1) ⟨fun b o e n=>⟨r1.same _ _ e,by rw[g2];exact n⟩,fun j hj=>lx hM hj⟩
  have hl:xs.length=is.length:=by rw[<-rs.length,q1]
  rcases hp with⟨hp,_⟩ | ⟨hp,_⟩
  ·exact .inr ⟨p,xs,rfl,SqL.of hp,hl,iU hl.symm fin⟩
  ·exact .inl ⟨p,xs,rfl,SqT.of hp,hl,iU hl.symm fin⟩
 ·cases e
def lA(xs:List α)(k:Int):(xs.drop (HT.sIx xs.length 0 none)).take (HT.sIx xs.length xs.length (some k)-HT.sIx xs.length 0 none)=xs.take (RL.cutAt xs.length k):=by
 rw[HT.x8,List.drop_zero,Nat.sub_zero];congr 1;have h:=HT.kB k xs.length xs.length;unfold RL.cutAt;split at h
 ·rename_i h0;rw[if_neg (by lia)];lia
 ·rename_i h0;rw[if_pos (by lia)];lia
end rules
section rules
variable{X:Cx}
def one(rv:RV0 X.K σD σ H)(ea:RL.ev cl σD a'=some d)(k:∀ v H1,ax H H1->Rep nP X.K H1 d v->R [v] H1):tEs X.K cl (.cons a' .nil) σ H R :=
 ⟨σD,[d],rv,by rw[RL.evs,ea];rfl,fun vs H1 s1 r1=>by
  rw[af]at r1;obtain⟨v,t,rfl,r2,r3⟩:=r1;rw[af]at r3;subst r3
  exact k v H1 s1 r2⟩
def pair(rv:RV0 X.K σD σ H)(ea:RL.ev cl σD a'=some d)(eb:RL.ev cl σD b'=some d')(k:∀ v u H1,ax H H1->Rep nP X.K H1 d v->Rep nP X.K H1 d' u->R [v,u] H1):tEs X.K cl (.cons a' (.cons b' .nil)) σ H R :=
 ⟨σD,[d,d'],rv,by rw[RL.evs,ea,RL.evs,eb];rfl,fun vs H1 s1 r1=>by
  rw[af]at r1;obtain⟨v,t,rfl,r2,r3⟩:=r1;rw[af]at r3;obtain⟨u,t,rfl,r4,r5⟩:=r3;rw[af]at r5;subst r5
  exact k v u H1 s1 r2 r4⟩
def nX{id:String}{r:List V->Hp->VK->Prop}{b:RL.Bi}(hc:bI X (.builtin id) r)(hg:Gl X x)(hm:X.mg x=none)(hv:bootBuiltins x=some (.builtin id))(ha:SE X cl a a')(hn:noStar a=true)(h1:x ≠ "__name__")(h2:(x == ("__debug__" : Str))=false)
 (ok:∀ (σD:RL.St) (σ:L2.St) (H H1:Hp) (y d:RL.D) (v:V) (Q:VK),RL.biV b y=some d->ax H H1->Rep nP X.K H1 y v->(∀ w H',Res X.K σD σ H (.bi b a') d w H'->Q w H')->r [v] H1 Q):SE X cl (.Call (.Name x p) [a] [] pos) (.bi b a'):=by
 refine PE.weak (ff hc hg hm hv (bH (cl:=cl) ha cB hn) h1 h2 (aw [] hn) rfl) fun σ H Q h=>?_;obtain⟨σD,d,rv,e,k⟩:=h;obtain⟨y,ea,e⟩:=bind_some e;exact one rv ea fun v H1 s1 r1=>ok σD σ H H1 y d v Q e s1 r1 k
def jT{T:String}{r:List V->Hp->VK->Prop}{b:RL.Bi}(hc:bI X (.type T) r)(hg:Gl X x)(hm:X.mg x=none)(hv:bootBuiltins x=some (.type T))(ha:SE X cl a a')(hn:noStar a=true)(h1:x ≠ "__name__")(h2:(x == ("__debug__" : Str))=false)
 (ok:∀ (σD:RL.St) (σ:L2.St) (H H1:Hp) (y d:RL.D) (v:V) (Q:VK),RL.biV b y=some d->ax H H1->Rep nP X.K H1 y v->(∀ w H',Res X.K σD σ H (.bi b a') d w H'->Q w H')->r [v] H1 Q):SE X cl (.Call (.Name x p) [a] [] pos) (.bi b a'):=by
 refine PE.weak (bW hc hg hm hv (bH (cl:=cl) ha cB hn) h1 h2 (aw [] hn) rfl) fun σ H Q h=>?_;obtain⟨σD,d,rv,e,k⟩:=h;obtain⟨y,ea,e⟩:=bind_some e;exact one rv ea fun v H1 s1 r1=>ok σD σ H H1 y d v Q e s1 r1 k
def B9(hg:Gl X "list")(hm:X.mg "list" = none)(ha:SE X cl a a')(hn:noStar a=true):SE X cl (.Call (.Name "list" p) [a] [] pos) (.bi .list a'):=by
 refine jT qd hg hm (by decide +kernel) ha hn (by decide) (by decide) fun σD σ H H1 y d v Q e s1 r1 k=>?_;obtain⟨ds,e1,e2⟩:=map_some (show(RL.items y).map RL.D.lst=some d from e);subst e2;obtain⟨q,xs,rfl,hp,rs⟩:=gF e1 r1;refine⟨q,xs,rfl,?_,fun l hl=>k _ _ (fw s1 hl rs fun _=>rfl)⟩
 rcases hp with⟨z,_⟩ | ⟨z,_⟩
 ·exact .inl (SqL.of z)
 ·exact .inr (SqT.of z)
def yk(hg:Gl X "tuple")(hm:X.mg "tuple" = none)(ha:SE X cl a a')(hn:noStar a=true):SE X cl (.Call (.Name "tuple" p) [a] [] pos) (.bi .tuple a'):=by
 refine jT oI hg hm (by decide +kernel) ha hn (by decide) (by decide) fun σD σ H H1 y d v Q e s1 r1 k=>?_;obtain⟨ds,e1,e2⟩:=map_some (show(RL.items y).map RL.D.tup=some d from e);subst e2;obtain⟨q,xs,rfl,hp,rs⟩:=gF e1 r1
 rcases hp with⟨z,_⟩ | ⟨z,_⟩
 ·exact⟨q,xs,rfl,.inl ⟨SqL.of z,fun l hl=>k _ _ (gJ s1 hl rs fun _=>rfl)⟩⟩
 ·refine⟨q,xs,rfl,.inr ⟨SqT.of z,k _ _ ⟨s1,?_,fun _ m=>(by cases m),fun M z=>nomatch (show false=true from z)⟩⟩⟩;rw[Rep];exact⟨q,xs,rfl,z,rs⟩
def Dd(hg:Gl X "int")(hm:X.mg "int" = none)(ha:SE X cl a a')(hn:noStar a=true):SE X cl (.Call (.Name "int" p) [a] [] pos) (.bi .int a'):=by
 refine jT xw hg hm (by decide +kernel) ha hn (by decide) (by decide) fun σD σ H H1 y d v Q e s1 r1 k=>?_
 cases y<;>simp only[RL.biV]at e<;>first | (cases e;done) | skip
 case bl t=>cases e;exact .inr ⟨t,by rw[bf r1],k _ _ (cS s1 bq rfl)⟩
 case int t=>cases e;exact .inl ⟨t,by rw[ah r1],k _ _ (cS s1 bq rfl)⟩
def uM{prog:Program}{w:World}{K:Type} [DecidableEq K]{knd:HeapKind prog w K}(hd:(d == sysModules)=false) :
  MeetsIn prog w (Builtin.«dict.__len__» ⟨[.ref d],[]⟩) (fun _ R s=>∃ xs,s.heap.DictOfH knd d xs/\R (.ok (.ret (.int xs.length s.toks))) { s with toks:=s.toks+1 }) :=
 .of_wp fun A R s ⟨xs,hm,h⟩=>by
  obtain⟨o,es,ep,ho,hc,hdat,hk,_,_⟩:=hm;show wpAny _ _ (dictSize d >>= _) _ _ s;unfold dictSize;refine wpAny_bind (wpAny_bind (wpAny_dictEntries ho hdat (wpAny_pure ?_)));show wpAny _ _ (Builtin.Dict.pendingCount d >>= _) _ _ s;refine wpAny_bind (wpAny_pendingCount_other hd ?_);refine wpAny_ret_mkInt ?_;rw[Nat.add_zero,size_of_entries hk];exact h
def mJ{prog:Program}{w:World}{K:Type} [DecidableEq K]{knd:HeapKind prog w K}{A:Around}{E:Value->Shared->Prop}{s:Shared}{d:Addr}{xs:List (K × Addr × Value)}{Q:Value->Shared->Prop}(hd:(d == sysModules)=false)(hm:s.heap.DictOfH knd d xs)(hfit:(xs.length:Int)<2 ^ 63)
 (h:Q (.int xs.length (s.toks+1)) { s with toks:=s.toks+1+1 }):wpAny (model prog w) A (call (.builtin "len") [.ref d]) Q E s:=by
 refine Calls.call_function_entry kind_len plain_len entry_len (args_len1 _) ?_;unfold Builtin.«len»;refine wpAny_bind (m:=oneArg "len" _) (wpAny_pure ?_)
 refine wpAny_bind (m:=callSpecial? (.ref d) (Str.ofString "__len__")) (wpAny_callSpecial?_slot (name:=Str.ofString "__len__") hm.typeIs F.slot_dict_len
  (call_meetsIn F.slot_dict_len hm.typeIs F.entry_dict_len (F.args_dict_len_1 _) (uM hd) ⟨xs,hm,?_⟩))
 show wpAny _ _ _ _ _ { s with toks:=s.toks+1 };refine wpAny_bind (wpAny_holding (wpAny_pure ?_));refine wpAny_bind (wpAny_letGo ?_);show wpAny _ _ (if((xs.length:Nat):Int)<0 then _ else _) _ _ _;rw[if_neg (by omega)];show wpAny _ _ (if((xs.length:Nat):Int)≥2 ^ 63 then _ else _) _ _ _;rw[if_neg (by omega)];exact wpAny_bind (wpAny_mkInt (wpAny_pure ⟨_,rfl,h⟩))
def vm:bI X (.builtin "len") (fun xs H Q=>∃ a kvs,xs=[V.ref a]/\H a=some (.dT kvs)/\Q (.int kvs.length) H):=by
 intro pins s σ H xs us Q I r h;obtain⟨a,kvs,rfl,ha,q⟩:=h;obtain⟨u,rfl,ru⟩:=vals1 r;cases ru;obtain⟨z,hd,xs,rel,dd⟩:=zL I.hok ha;have hl:kvs.length=xs.length:=Paired.length rel;refine mJ hd dd (by rw[<-hl];rw[sizeLine_eq]at z;omega) ?_;rw[<-hl];exact⟨.int kvs.length,H,I.tok _,⟨_,rfl⟩,q⟩
def vK:bI X (.builtin "len") (fun xs H Q=>(∃ y n,xs=[y]/\CZ X.K y H n/\Q (.int n) H)\/(∃ q kvs,xs=[V.ref q]/\H q=some (.dK kvs)/\Q (.int kvs.length) H)\/∃ q kvs,xs=[V.ref q]/\H q=some (.dT kvs)/\Q (.int kvs.length) H):=bI.or xX (bI.or xg vm)
def EF(hg:Gl X "len")(hm:X.mg "len" = none)(ha:SE X cl a a')(hn:noStar a=true):SE X cl (.Call (.Name "len" p) [a] [] pos) (.bi .len a'):=by
 refine nX vK hg hm PySem.boot_len ha hn (by decide) (by decide) fun σD σ H H1 y d v Q e s1 r1 k=>?_
 cases y<;>simp only[RL.biV,RL.items,Option.map_some,Option.map_none]at e<;>first | (cases e;done) | skip
 case str t =>
  split at e
  ·rename_i hz;cases e;rw[aQ r1];exact .inl ⟨_,_,rfl,⟨Nat.le_trans hz bZ,rfl⟩,k _ _ (cS s1 bq rfl)⟩
  ·cases e
 case tup t =>
  cases e;obtain⟨q,xs,rfl,f2,f3⟩:=bF r1;rw[f3.length]at k;exact .inl ⟨_,_,rfl,.inr ⟨xs,SqT.of f2,rfl⟩,k _ _ (cS s1 bq rfl)⟩
 case lst t =>
  cases e;obtain⟨q,xs,rfl,_,f2,f3⟩:=aC r1;rw[f3.length]at k;exact .inl ⟨_,_,rfl,.inl ⟨xs,SqL.of f2,rfl⟩,k _ _ (cS s1 bq rfl)⟩
 case dK ks t =>
  cases e;rw[Rep]at r1;obtain⟨q,xs,rfl,_,f2,fl,f3⟩:=r1;refine .inr (.inl ⟨q,_,rfl,f2,?_⟩)
  have:(ks.zip xs).length=ks.length:=by rw[List.length_zip,<-f3.length,fl,Nat.min_self]
  rw[this];exact k _ _ (cS s1 bq rfl)
 case dT ks t =>
  cases e;rw[Rep]at r1;obtain⟨q,xs,rfl,_,f2,fl,f3⟩:=r1;refine .inr (.inr ⟨q,_,rfl,f2,?_⟩)
  have:(ks.zip xs).length=ks.length:=by rw[List.length_zip,<-f3.length,fl,Nat.min_self]
  rw[this];exact k _ _ (cS s1 bq rfl)
def Cs(hc:X.calm=true)(hg:Gl X "max")(hm:X.mg "max" = none)(ha:SE X cl a a')(hb:SE X cl b b')(hn:noStar a=true)(hn2:noStar b=true):SE X cl (.Call (.Name "max" p) [a,b] [] pos) (.max a' b'):=by
 refine PE.weak (ff (vU hc) hg hm (by decide +kernel) (bH (cl:=cl) ha (bH hb cB hn2) hn) (by decide) (by decide) (aw _ hn) (cN (by simp[hn2]))) fun σ H Q h=>?_;obtain⟨σD,d,rv,e,k⟩:=h;obtain⟨u,ea,e⟩:=bind_some e;obtain⟨v,eb,e⟩:=bind_some e
 cases u with
 |int i=>
  cases v with
  |int j=>
   cases e
   exact pair rv ea eb fun v u H1 s1 r1 r2=>⟨i,j,by rw[ah r1,ah r2],k _ _ (cS s1 bq rfl)⟩
  | _=>cases e
 | _=>cases e
abbrev tyN:RL.Ty->String
 | .int => "int"
 | .bool => "bool"
 | .list => "list"
 | .tuple => "tuple"
 | .str => "str"
def ym:bI X (.builtin "isinstance") (fun xs H Q=>∃ y t T k,xs=[y,.ty T]/\eQ X.K H y t/\PySem.W.kitOne X.K t (.type T)=some k/\Q (.bl k) H):=by
 intro pins s σ H xs us Q I r h;obtain⟨y,t,T,k,rfl,ty,e,q⟩:=h;obtain⟨u,w,rfl,r1,r2⟩:=vals2 r;cases r2
 exact uV I r1 ty e fun tk=>⟨.bl k,H,I.tok tk,rfl,q⟩
def Cf(h:RL.fN t d=some k)(r:Rep nP X.K H d v):∃ ty,eQ X.K H v ty/\PySem.W.kitOne X.K ty (.type (tyN t))=some k:=by
 cases d with
 | non=>rw[Rep]at r;subst r;refine⟨_,.non,?_⟩;cases t<;>(cases h;rfl)
 | bl i=>rw[bf r];refine⟨_,.bl i,?_⟩;cases t<;>(cases h;rfl)
 | int i=>rw[ah r];refine⟨_,.int i,?_⟩;cases t<;>(cases h;rfl)
 | str i=>rw[aQ r];refine⟨_,.str i,?_⟩;cases t<;>(cases h;rfl)
 | tup i=>obtain⟨q,xs,rfl,f2,f3⟩:=bF r;refine⟨_,.tup f2,?_⟩;cases t<;>(cases h;rfl)
 | lst i=>obtain⟨q,xs,rfl,_,f2,f3⟩:=aC r;refine⟨_,.lst f2,?_⟩;cases t<;>(cases h;rfl)
 | _=>cases t<;>cases h
def CL(hg:Gl X "isinstance")(hm:X.mg "isinstance" = none)(hgy:Gl X y)(hmy:X.mg y=none)(hy:bootBuiltins y=some (.type (tyN t)))(hy1:y ≠ "__name__")(hy2:(y == ("__debug__" : Str))=false)(ha:SE X cl a a')(hn:noStar a=true) :
  SE X cl (.Call (.Name "isinstance" p) [a,.Name y p2] [] pos) (.isi a' t):=by
 have hty:PE X (.Name y p2) (tC (.ty (tyN t))):=tq hgy hmy hy rfl hy1 hy2;refine PE.weak (ff ym hg hm (by decide +kernel) (bh ha (bh hty cz) (aw _ hn)) (by decide) (by decide) (aw _ hn) rfl) fun σ H Q h=>?_;obtain⟨σD,d,rv,e,k⟩:=h;obtain⟨u,ea,e⟩:=bind_some e;obtain⟨t',e1,e2⟩:=map_some e;subst e2;refine⟨σD,u,rv,ea,fun v H1 r1=>?_⟩;obtain⟨ty,h1,h2⟩:=Cf e1 r1.rep;exact⟨v,ty,_,t',rfl,h1,h2,k _ _ (dU r1.same)⟩
end rules
end RS
namespace L2
open PySem PySem.Spec PyProof.Rows
structure k9(prog:Program)(w:World):Prop where
 draws:∀ {A:Around},A.handled=none->∀ (ti tp:Addr),tp≠ti->∀ its:Array Value,Draws prog w A ti [ti,tp] its.size (fun i v=>its[i]?=some v) (fun i h=>h.IsTupleIter ti tp i/\h.IsTuple tp its)
 call:∀ {A:Around} {E:Value->Shared->Prop} {z:Shared} {tp:Addr} {its:Array Value} {Q:Value->Shared->Prop},z.heap.IsTuple tp its ->
  (∀ g,IsEnum g (z.heap.objs.size+1) z.heap.objs.size 0 .none->g.IsTupleIter z.heap.objs.size tp 0->(∀ b o,z.heap.get? b=some o->g.get? b=some o)->Q (.ref (z.heap.objs.size+1)) { z with heap:=g })->wpAny (model prog w) A (call (.type "enumerate") [.ref tp]) Q E z
section
def Inv.mL{h':Heap}{t':Nat}{fp:List Addr}(I:Inv X pins σ H s)(k:∀ b o,b∉fp->s.heap.get? b=some o->h'.get? b=some o)(hf:∀ b∈fp,H b=none/\(b∈X.ex\/X.s₀.heap.objs.size<=b)/\b≠X.env.locals/\(∀ x c,X.env.cells.lookup x=some c->c≠b)/\∀ p∈X.pn++pins,p.1≠b) :
  Inv X pins σ H { s with heap:=h',toks:=t' }:=by
 have nf:∀ b u,H b=some u->b∉fp:=fun b u e z=>by rw[(hf b z).1]at e;cases e
 refine I.ud (s':={ s with heap:=h',toks:=t' }) (ch:=fp) rfl ⟨fun b o e _ _ hx=>k b o hx e,fun b o e _ _ hx=>⟨o.slots,k b o hx e⟩,fun _ _ _ n _=>n,fun b o e hx=>⟨o,k b o hx e⟩,fun _ _ e=>e,fun _ _ _ e=>e,fun b ps e=>⟨#[],by rw[e];simp⟩⟩ (fun b u e=>?_) I.bare fun b hb=>(hf b hb).2;refine(I.hok b u e).jy (fun c v hc q=>k c v ?_ q) (fun _ q=>q) fun _ _ q=>q;rcases hc with z | z
 ·rw[z];exact nf b u e
 ·exact nf c _ z
end
abbrev Ite(cont:Hp->List V->Prop):It :=
 ⟨fun i H=>∃ xs x,cont H xs/\xs[i]?=some x,fun i H v H'=>∃ p x,H p=none/\v=.ref p/\H'=upd H p (.tup [.int i,x])/\∀ xs,cont H xs->xs[i]?=some x,fun i H=>∃ xs,cont H xs/\xs.length=i⟩
structure Src(P:Program)(w:World)(K:PySem.W.Frag)(e it:Addr)(cont:Hp->List V->Prop)(ia:Nat->Heap->Prop):Prop where
 obj:∀ i h,ia i h->∃ o,h.get? it=some o/\∀ v,o.data≠.cell v
 keep:∀ i h h',ia i h->(∀ o,h.get? it=some o->h'.get? it=some o)->ia i h'
 inj:∀ (H:Hp) xs ys,cont H xs->cont H ys->xs=ys
 dr:∀ (X:Cx),X.prog=P->X.w=w->X.K=K->X.calm=true->∀ (pins:List (Addr × Obj)) (s:Shared) (σ:St) (H:Hp) (xs:List V),Inv X pins σ H s->H e=none->H it=none->cont H xs ->
  ∃ (fp:List Addr) (Pv:Nat->Value->Prop) (St:Nat->Heap->Prop),Draws P w X.A.in1 it fp xs.length Pv St/\e∉fp/\(∀ i,ia i s.heap->St i s.heap)/\(∀ i h,St i h->ia i h)/\∀ i v,Pv i v->∃ x,xs[i]?=some x/\RelV x v
def v7{P:Program}{w:World}{K:PySem.W.Frag}(hei:e≠it)(S:Src P w K e it cont ia) :
  Turn P w K (.Tuple elts kx tp) (Ite cont) [e,it] e (fun i h=>(∃ old,IsEnum h e it i old)/\ia i h) where
 mem:=by simp
 obj:=fun i h st b hb=>by
  rcases List.mem_cons.mp hb with rfl | hb
  ·obtain⟨⟨old,he⟩,_⟩:=st;exact⟨_,he,fun v z=>by cases z⟩
  ·rw[List.mem_singleton.mp hb];exact S.obj i h st.2
 keep:=fun i h h' st k=>by
  obtain⟨⟨old,he⟩,hi⟩:=st;exact⟨⟨old,k e (by simp) _ he⟩,S.keep i h h' hi fun o q=>k it (by simp) o q⟩
 item:=by
  intro X hP hw hK hc i pins s σ H E I hf st hg;subst hP hw hK;obtain⟨⟨old,he⟩,hi⟩:=st;obtain⟨xs,x,hq,hx⟩:=hg;have fe:=hf e (by simp);have fi:=hf it (by simp);obtain⟨fp,Pv,St,D,hef,h1,h2,h3⟩:=S.dr X rfl rfl rfl hc pins s σ H xs I fe.1 fi.1 hq;have hlt:i<xs.length:=(List.getElem?_eq_some_iff.mp hx).1;refine wpAny_pyNext_enum_itemD D he (h1 i hi) hlt hei hef fun v h' tk hP ho hs' hT hsz hk=>?_;obtain⟨x',hx',rx⟩:=h3 i v hP;rw[hx]at hx';cases hx';refine⟨.ref s.heap.objs.size,rfl,wpAny_letOwnedTupleGo_enum ho fun h'' he' hs''=>?_⟩;have hn:H s.heap.objs.size=none:=I.hok.fresh (Nat.le_refl _)
  have I1:Inv X pins σ (upd H s.heap.objs.size (.tup [.int i,x])) { s with heap:=s.heap.push { cls:=.type "tuple",data:=.seq #[.int i tk,v] },toks:=tk+1 } :=
   I.laid (t':=tk+1) (fun b u q=>Heap.get?_push_of_some _ q) (Nat.le_refl _) ⟨by show 2<=sizeLine;decide,[.int i tk,v],.cons ⟨tk,rfl⟩ (.cons rx .nil),⟨_,Heap.get?_push_size _ rfl,rfl,_,rfl⟩⟩
  have hes:e<s.heap.objs.size:=Heap.lt_size he
  have hit:it<s.heap.objs.size:=by obtain⟨o,q,_⟩:=S.obj i _ hi;exact Heap.lt_size q
  have stat:∀ b∈[e,it],upd H s.heap.objs.size (.tup [.int i,x]) b=none/\(b∈X.ex\/X.s₀.heap.objs.size<=b)/\b≠X.env.locals/\(∀ x c,X.env.cells.lookup x=some c->c≠b)/\∀ p∈X.pn++pins,p.1≠b:=fun b hb=>by
   obtain⟨f0,f1,f2,f3,f4,f5⟩:=hf b hb
   have hb':b≠s.heap.objs.size:=by
    rcases List.mem_cons.mp hb with rfl | hb
    ·exact Nat.ne_of_lt hes
    ·rw[List.mem_singleton.mp hb];exact Nat.ne_of_lt hit
   exact⟨by rw[aI hb'];exact f0,f3,f1,f4,f5⟩
  have I2:Inv X pins σ (upd H s.heap.objs.size (.tup [.int i,x])) { s with heap:=h'',toks:=tk+1 }:=by
   refine Inv.mL (s:={ s with heap:=s.heap.push { cls:=.type "tuple",data:=.seq #[.int i tk,v] },toks:=tk+1 }) (h':=h'') (t':=tk+1) (fp:=[e,it]) I1 (fun b o hb q=>?_) stat;have b1:b≠e:=fun z=>hb (by simp[z]);have b2:b≠it:=fun z=>hb (by simp[z]);refine hs''.extBut b o b1 ?_;by_cases hbT:b=s.heap.objs.size
   ·subst hbT;have q':(s.heap.push { cls:=.type "tuple",data:=.seq #[.int i tk,v] }).get? s.heap.objs.size=some o:=q;rw[Heap.get?_push_size _ rfl]at q';cases q';exact hT
   ·have q':s.heap.get? b=some o:=(Heap.get?_push_ne _ _ _ hbT).symm.trans q;exact hk b o b1 b2 q'
  refine⟨.ref s.heap.objs.size,_,I2,rfl,⟨s.heap.objs.size,x,hn,rfl,rfl,fun ys hy=>by rw[S.inj H ys xs hy hq];exact hx⟩,⟨⟨v,by simpa using he'⟩,S.keep _ h' h'' (h2 _ _ hs') fun o q=>hs''.extBut _ _ (Ne.symm hei) q⟩,fun b hb=>(stat b hb).1⟩
 done:=by
  intro X hP hw hK hc i pins s σ H E I hf st hg;subst hP hw hK;obtain⟨⟨old,he⟩,hi⟩:=st;obtain⟨xs,hq,hx⟩:=hg;have fe:=hf e (by simp);have fi:=hf it (by simp);obtain⟨fp,Pv,St,D,hef,h1,h2,h3⟩:=S.dr X rfl rfl rfl hc pins s σ H xs I fe.1 fi.1 hq;subst hx
  refine wpAny_pyNext_enum_endD D he (h1 _ hi) fun h' eb=>⟨rfl,?_⟩
  obtain⟨f0,f1,f2,f3,f4,f5⟩:=fi;exact I.turned (it:=it) (h':=h') (t':=s.toks) (fun b o hb q=>eb b o hb q) f0 f1 f3 f4 f5
 self:=fun A i s Q E st h=>by
  obtain⟨⟨old,he⟩,hi⟩:=st;exact wpAny_pyIter_enum he h
def src_list{P:Program}{w:World}{K:PySem.W.Frag}(hei:e≠it):Src P w K e it (fun H xs=>H l=some (.lst xs)) (fun i h=>h.IsListIter it l i) where
 obj:=fun i h st=>let ⟨o,ho,_,hd⟩:=st;⟨o,ho,fun v q=>by rw[hd]at q;cases q⟩
 keep:=fun i h h' st k=>st.at fun o q=>k o q
 inj:=fun H xs ys h1 h2=>by rw[h1]at h2;cases h2;rfl
 dr:=by
  intro X hP hw hK hc pins s σ H xs I he hi hx;subst hP hw hK;obtain⟨its,rv,p,hz⟩:=I.list (SqL.of hx)
  have hl:its.toArray.size=xs.length:=by rw[List.size_toArray,rv.length]
  have hh:X.A.in1.handled=none:=I.ok.hd.1 hc;have D:=Draws.list (prog:=X.prog) (w:=X.w) (A:=X.A.in1) hh it l (aM hx hi) its.toArray;rw[hl]at D;refine⟨_,_,_,D,?_,fun i st=>⟨st,p.isList⟩,fun i h st=>st.1,fun i v hv=>?_⟩
  ·intro m;rcases List.mem_cons.mp m with q | m
   ·exact hei q
   ·exact(aM hx he).symm (List.mem_singleton.mp m)
  ·have hv:its[i]?=some v:=by simpa using hv
   have hlt:i<xs.length:=by rw[rv.length];exact(List.getElem?_eq_some_iff.mp hv).1
   obtain⟨u,h1,h2⟩:=rv.get (i:=i) (x:=xs[i]) (by simp[hlt]);rw[hv]at h1;cases h1;exact⟨xs[i],by simp[hlt],h2⟩
def AS{P:Program}{w:World}{K:PySem.W.Frag}(TE:k9 P w)(hei:e≠it):Src P w K e it (fun H xs=>H l=some (.tup xs)) (fun i h=>h.IsTupleIter it l i) where
 obj:=fun i h st=>let ⟨o,ho,_,hd⟩:=st;⟨o,ho,fun v q=>by rw[hd]at q;cases q⟩
 keep:=fun i h h' st k=>let ⟨o,ho,r⟩:=st;⟨o,k o ho,r⟩
 inj:=fun H xs ys h1 h2=>by rw[h1]at h2;cases h2;rfl
 dr:=by
  intro X hP hw hK hc pins s σ H xs I he hi hx;subst hP hw hK;obtain⟨its,rv,p,hz⟩:=I.tuple (SqT.of hx)
  have hl:its.toArray.size=xs.length:=by rw[List.size_toArray,rv.length]
  have hh:X.A.in1.handled=none:=I.ok.hd.1 hc;have D:=TE.draws (A:=X.A.in1) hh it l (aM hx hi) its.toArray;rw[hl]at D;refine⟨_,_,_,D,?_,fun i st=>⟨st,p⟩,fun i h st=>st.1,fun i v hv=>?_⟩
  ·intro m;rcases List.mem_cons.mp m with q | m
   ·exact hei q
   ·exact(aM hx he).symm (List.mem_singleton.mp m)
  ·have hv:its[i]?=some v:=by simpa using hv
   have hlt:i<xs.length:=by rw[rv.length];exact(List.getElem?_eq_some_iff.mp hv).1
   obtain⟨u,h1,h2⟩:=rv.get (i:=i) (x:=xs[i]) (by simp[hlt]);rw[hv]at h1;cases h1;exact⟨xs[i],by simp[hlt],h2⟩
abbrev i9(x:Str):List V:=x.cps.toList.map fun c=>.str ⟨#[c]⟩
def Ad{P:Program}{w:World}{K:PySem.W.Frag}(hei:e≠it):Src P w K e it (fun _ xs=>xs=i9 x) (fun i h=>h.IsStrIter it (strIterType x) x t i) where
 obj:=fun i h st=>let ⟨o,ho,_,hd⟩:=st;⟨o,ho,fun v q=>by rw[hd]at q;cases q⟩
 keep:=fun i h h' st k=>let ⟨o,ho,r⟩:=st;⟨o,k o ho,r⟩
 inj:=fun H xs ys h1 h2=>by rw[h1,h2]
 dr:=by
  intro X hP hw hK hc pins s σ H xs I he hi hx;subst hP hw hK hx;have hh:X.A.in1.handled=none:=I.ok.hd.1 hc
  have hl:x.cps.size=(i9 x).length:=by simp[i9]
  have pv:∀ (i:Nat) (v:Value),(∃ c u,x.cps[i]?=some c/\v=Value.str ⟨#[c]⟩ u)->∃ y,(i9 x)[i]?=some y/\RelV y v:=fun i v hv=>by
   obtain⟨c,u,h1,h2⟩:=hv;exact⟨.str ⟨#[c]⟩,by simp[i9,h1],u,h2⟩
  have ni:e∉[it]:=fun m=>hei (List.mem_singleton.mp m)
  cases ha:x.cps.all (·<128)with
  |true=>
   have ht:strIterType x = "str_ascii_iterator" := by simp[strIterType,ha]
   have D:=Draws.strAscii (prog:=X.prog) (w:=X.w) (A:=X.A.in1) hh it x t;rw[hl]at D;exact⟨_,_,_,D,ni,fun i st=>by rw[ht]at st;exact st,fun i h st=>by rw[ht];exact st,pv⟩
  |false=>
   have ht:strIterType x = "str_iterator" := by simp[strIterType,ha]
   have D:=Draws.strWide (prog:=X.prog) (w:=X.w) (A:=X.A.in1) hh it x t;rw[hl]at D;exact⟨_,_,_,D,ni,fun i st=>by rw[ht]at st;exact st,fun i h st=>by rw[ht];exact st,pv⟩
section
abbrev Fc(ta:TA):TI:=fun σ H R=>ta σ H fun vs H1=>(∃ l xs,vs=[.ref l]/\H1 l=some (.lst xs)/\R (Ite fun H xs=>H l=some (.lst xs)) H1)\/(∃ l xs,vs=[.ref l]/\H1 l=some (.tup xs)/\R (Ite fun H xs=>H l=some (.tup xs)) H1) \/
 (∃ x,vs=[.str x]/\R (Ite fun _ xs=>xs=i9 x) H1)
def l5(I:Inv X pins σ H s)(S:Src X.prog X.w X.K (s.heap.objs.size+1) s.heap.objs.size cont ia)
 (he:IsEnum g (s.heap.objs.size+1) s.heap.objs.size 0 .none)(hi:ia 0 g)(hk:∀ b o,s.heap.get? b=some o->g.get? b=some o)(q:R (Ite cont) H) :
  wpAny (model X.prog X.w) X.A (pyIter (.ref (s.heap.objs.size+1))) (PIE X pins σ (.Tuple elts kx tp) R) E { s with heap:=g }:=by
 refine wpAny_pyIter_enum he ⟨s.heap.objs.size+1,[s.heap.objs.size+1,s.heap.objs.size],_,_,H,rfl,I.kept (t':=s.toks) hk,v7 (Nat.succ_ne_self _) S,⟨⟨.none,he⟩,hi⟩,fun b hb=>?_,q⟩
 have hb':s.heap.objs.size<=b:=by
  rcases List.mem_cons.mp hb with z | z
  ·rw[z];exact Nat.le_succ _
  ·rw[List.mem_singleton.mp z];exact Nat.le_refl _
 exact I.nD hb' (I.hok.fresh hb')
def Au(TE:k9 X.prog X.w)(hg:Gl X "enumerate")(hm:X.mg "enumerate" = none)(ha:PA X [a] ta)(hs:starEach [a] X.env=[(false,eval a X.env)]):PI X (.Tuple elts kx tp) (.Call (.Name "enumerate" p) [a] [] pos) (Fc ta):=by
 intro pins s σ H R I h;refine Call_ (gx I hg hm boot_enumerate (PyProof.Rows.callWith_type1 (thn (ha pos pins s σ H _ I h) fun us s1 ⟨vs,H1,I1,r1,q1⟩=>?_) hs rfl))
 rcases q1 with⟨l,xs,rfl,hx,q⟩ | ⟨l,xs,rfl,hx,q⟩ | ⟨x,rfl,q⟩
 ·obtain⟨u,rfl,ru⟩:=vals1 r1;cases ru;obtain⟨its,rv,pl,hz⟩:=I1.list (SqL.of hx);exact call_enumerate_list pl.isList fun g he hi hsz hk=>l5 I1 (src_list (Nat.succ_ne_self _)) he hi hk q
 ·obtain⟨u,rfl,ru⟩:=vals1 r1;cases ru;obtain⟨its,rv,pl,hz⟩:=I1.tuple (SqT.of hx);exact TE.call pl fun g he hi hk=>l5 I1 (AS TE (Nat.succ_ne_self _)) he hi hk q
 ·obtain⟨u,rfl,ru⟩:=vals1 r1;obtain⟨t,rfl⟩:=ru;exact call_enumerate_str fun g he hi hsz hk=>l5 I1 (Ad (Nat.succ_ne_self _)) he hi hk q
end
end L2
namespace RS
open PySem PySem.Spec PyProof.Rows L2
def jM:∀ (ds:List RL.D) (k:Int),(RL.cQ k ds).length=ds.length
 | [],_=>rfl
 | d::r,k=>by rw[RL.cQ,List.length_cons,List.length_cons,jM r]
def oq:∀ (ds:List RL.D) (k:Int) (i:Nat) (d:RL.D),(RL.cQ k ds)[i]?=some d->∃ e,ds[i]?=some e/\d=.tup [.int (k+i),e]
 | [],k,i,d,h=>by simp[RL.cQ]at h
 | e::r,k,0,d,h=>by simp[RL.cQ]at h;exact⟨e,rfl,by simp[h]⟩
 | e::r,k,i+1,d,h=>by
  rw[RL.cQ,List.getElem?_cons_succ]at h;obtain⟨e',h1,h2⟩:=oq r (k+1) i d h;refine⟨e',by simpa using h1,?_⟩;rw[h2];congr 3;lia
def gp{K:PySem.W.Frag}(hc:∀ H',Off P H H'->cont H' xs)(hj:∀ H' ys,cont H' xs->cont H' ys->ys=xs)(r:af nP K H ds xs)(hm:∀ b o,P b->H b=some o->cU o):ib K (Ite cont) (RL.cQ 0 ds) P H where
 go:=fun H' i k hi=>by
  rw[jM]at hi;obtain⟨x,e,_⟩:=r.get (i:=i) (d:=ds[i]) (by simp[hi]);exact⟨xs,x,hc H' k,e⟩
 stop:=fun H' k=>⟨xs,hc H' k,by rw[jM,r.length]⟩
 yld:=fun H' i d v H2 k e y=>by
  obtain⟨p,x,hp,rfl,rfl,hx⟩:=y;obtain⟨e',h1,rfl⟩:=oq ds 0 i d e;obtain⟨x',h2,h3⟩:=r.get h1;rw[hx xs (hc H' k)]at h2;cases h2;refine⟨ax.bO hp,fun q=>?_⟩
  have re:Rep nP K H' e' x:=by
   rcases q with q | q
   ·have q:(true&&(e'.imm&&true))=true:=q;simp only[Bool.true_and,Bool.and_true]at q;exact gE hm k h3 q
   ·exact h3.same q
  rw[Rep];refine⟨p,[.int i,x],rfl,aP,af.cons ?_ (af.cons (re.same (ax.bO hp)) af.nil)⟩;simpa using(bq (P:=nP) (K:=K) (H:=upd H' p (.tup [.int i,x])) (i:=(i:Int)))
def wM{P:Addr->Prop}{K:PySem.W.Frag}(h:RL.fF d=some ds)(r:Rep P K H d v):(∃ p xs,v=.ref p/\H p=some (.lst xs)/\d=.lst ds/\af P K H ds xs)\/(∃ p xs,v=.ref p/\H p=some (.tup xs)/\d=.tup ds/\af P K H ds xs) \/
  (∃ x,v=.str x/\d=.str x/\ds=x.cps.toList.map fun c=>.str ⟨#[c]⟩):=by
 cases d<;>simp only[RL.fF]at h<;>first | (cases h;done) | skip
 case lst ys=>cases h;obtain⟨p,xs,e1,_,e2,e3⟩:=aC r;exact .inl ⟨p,xs,e1,e2,rfl,e3⟩
 case tup ys=>cases h;obtain⟨p,xs,e1,e2,e3⟩:=bF r;exact .inr (.inl ⟨p,xs,e1,e2,rfl,e3⟩)
 case str x=>cases h;exact .inr (.inr ⟨x,aQ r,rfl,rfl⟩)
def iS{P:Addr->Prop}{K:PySem.W.Frag}:∀ (cs:List Nat),af P K H (cs.map fun c=>RL.D.str ⟨#[c]⟩) (cs.map fun c=>V.str ⟨#[c]⟩)
 | []=>af.nil
 | c::r=>af.cons gq (iS r)
section rules
def Cb(TE:k9 X.prog X.w)(hg:Gl X "enumerate")(hm:X.mg "enumerate" = none)(ha:SE X cl a a')(hn:noStar a=true):SI X cl (.Tuple elts kx tp) (.Call (.Name "enumerate" p) [a] [] pos) (.enm a'):=by
 intro pins s σ H R I h;obtain⟨σD,ds,rv,e,k⟩:=h;obtain⟨d,e1,e2⟩:=bind_some e;obtain⟨es,e3,e4⟩:=map_some e2;subst e4;have hpa:PA X [a] (hX (tE X.K cl a') iO):=bh ha cz (aw [] hn);refine Au TE hg hm hpa (aw [] hn) pins s σ H R I ⟨σD,d,rv,e1,fun v H1 r1=>?_⟩
 rcases wM e3 r1.rep with⟨l,xs,rfl,hx,rfl,rs⟩ | ⟨l,xs,rfl,hx,rfl,rs⟩ | ⟨x,rfl,rfl,rfl⟩
 ·refine .inl ⟨l,xs,rfl,hx,k _ _ r1.same ⟨gp (fun H' o=>o _ _ (fun z=>z) hx) (fun H' ys h1 h2=>by rw[h1]at h2;cases h2;rfl) rs gA,fun M P z hP av=>?_⟩⟩;exact gp (fun H' o=>o _ _ (lP r1 z hP av _ _ rfl rfl) hx) (fun H' ys h1 h2=>by rw[h1]at h2;cases h2;rfl) rs (eE r1.same hP)
 ·have np:∀ P:Addr->Prop,(∀ b o,P b->H1 b=some o->cU o)->¬ P l:=fun P hP q=>by rcases hP l _ q hx with⟨z,q⟩ | ⟨z,q⟩ | ⟨z,q⟩<;>cases q
  exact .inr (.inl ⟨l,xs,rfl,hx,k _ _ r1.same ⟨gp (fun H' o=>o _ _ (np _ gA) hx) (fun H' ys h1 h2=>by rw[h1]at h2;cases h2;rfl) rs gA,fun M P z hP av=>gp (fun H' o=>o _ _ (np P (eE r1.same hP)) hx) (fun H' ys h1 h2=>by rw[h1]at h2;cases h2;rfl) rs (eE r1.same hP)⟩⟩)
 ·exact .inr (.inr ⟨x,rfl,k _ _ r1.same ⟨gp (fun H' o=>rfl) (fun H' ys h1 h2=>h2) (iS _) gA,fun M P z hP av=>gp (fun H' o=>rfl) (fun H' ys h1 h2=>h2) (iS _) (eE r1.same hP)⟩⟩)
end rules
section rules
variable{X:Cx}
def Bw{P:Addr->Prop}{K:PySem.W.Frag}(h:Rep P K H (.scr ds) v):∃ a xs,v=.ref a/\jH K H a xs/\af P K H ds xs:=by rw[Rep]at h;exact h
def v5(n:Nat)(k:Int):HT.sIx n n (some k)=RL.cutAt n k:=by
 have h:=HT.kB k n n;unfold RL.cutAt;split at h
 ·rw[if_neg (by lia)];lia
 ·rw[if_pos (by lia)];lia
def CP(ha:SE X cl a a')(hb:SE X cl b b'):SE X cl (.Subscript a (.Slice none (some b) none p2) pos) (.slT a' b'):=by
 refine PE.weak (xB (SlR.or A7 EH) ha Br (Ai hb)) fun σ H Q h=>?_;obtain⟨σD,d,rv,e,k⟩:=h;obtain⟨x,ea,e⟩:=bind_some e;obtain⟨y,eb,e⟩:=bind_some e;refine⟨σD,x,rv,ea,fun v H1 r1=>⟨σD,y,rv.same r1.same,eb,fun u H2 r2=>?_⟩⟩;have rx:=r1.rep.same r2.same;have sm:=r1.same.trans r2.same
 cases y with
 |int n=>
  refine⟨n,ah r2.rep,?_⟩
  cases x with
  |lst xs=>
   cases e;obtain⟨q,ys,rfl,_,f2,f3⟩:=aC rx;refine .inl ⟨q,ys,rfl,SqL.of f2,fun l hl=>?_⟩;unfold jz;rw[lA,<-f3.length];exact k _ _ (fw sm hl (f3.take _) fun _=>rfl)
  |scr xs=>
   cases e;obtain⟨q,ys,rfl,f2,f3⟩:=Bw rx;refine .inl ⟨q,ys,rfl,f2.seq,fun l hl=>?_⟩;unfold jz;rw[lA,<-f3.length];exact k _ _ (fw sm hl (f3.take _) fun _=>rfl)
  |tup xs=>
   simp only[RL.pG]at e;split at e
   ·rename_i hz;cases e;obtain⟨q,ys,rfl,f2,f3⟩:=bF rx;refine .inr ⟨q,ys,rfl,SqT.of f2,fun z=>?_,fun l hl=>?_⟩
    ·rw[v5,<-f3.length]at z;lia
    ·unfold jz;rw[lA,<-f3.length];exact k _ _ (gJ sm hl (f3.take _) fun _=>rfl)
   ·cases e
  | _=>cases e
 | _=>cases x<;>cases e
abbrev yt:RL.D->RL.D->Option (Option RL.D)
 | .dK ks vs,k=>(RL.keyOf k).map (RL.aL ks vs)
 | .dT ks vs,.tup k=>(RL.keysOf k).map (RL.aL ks vs)
 | _,_=>none
abbrev Ans(P:Addr->Prop)(K:PySem.W.Frag)(H:Hp):Option RL.D->Option V->Prop
 | some d,r=>∃ w,r=some w/\Rep P K H d w
 | none,r=>r=none
def mE{κ:Type} [DecidableEq κ]{P:Addr->Prop}{K:PySem.W.Frag}{H:Hp}{x:κ}:∀ {ks:List κ} {ds:List RL.D} {xs:List V},ks.length=ds.length->af P K H ds xs ->
  Ans P K H (RL.aL ks ds x) (eL (ks.zip xs) x)
 | [],ds,xs,hl,r=>by simp[RL.aL,eL,Ans]
 | k::ks,[],xs,hl,r=>by simp at hl
 | k::ks,d::ds,xs,hl,r=>by
  rw[af]at r;obtain⟨v,t,rfl,r1,r2⟩:=r;by_cases hk:k=x
  ·have h1:RL.aL (k::ks) (d::ds) x=some d:=by rw[RL.aL,if_pos hk]
   rw[h1];exact⟨v,by rw[List.zip_cons_cons];exact iN hk,r1⟩
  ·have ih:=mE (x:=x) (ks:=ks) (ds:=ds) (xs:=t) (by simpa using hl) r2
   have h1:RL.aL (k::ks) (d::ds) x=RL.aL ks ds x:=by rw[RL.aL,if_neg hk]
   rw[h1,List.zip_cons_cons,jq hk];exact ih
def lC{P:Addr->Prop}{K:PySem.W.Frag}(h:RL.keyOf d=some k)(r:Rep P K H d v):v=kV k:=by
 cases d<;>simp only[RL.keyOf]at h<;>first | (cases h;done) | skip
 case int i=>cases h;exact ah r
 case str i=>cases h;exact aQ r
def j4{P:Addr->Prop}{K:PySem.W.Frag}:∀ {ds:List RL.D} {k:List RL.Ky} {xs:List V},RL.keysOf ds=some k->af P K H ds xs->xs=k.map kV
 | [],k,xs,h,r=>by cases h;rw[af]at r;exact r
 | d::ds,k,xs,h,r=>by
  rw[RL.keysOf]at h;obtain⟨k1,h1,h⟩:=bind_some h;obtain⟨k2,h2,h3⟩:=map_some h;subst h3;rw[af]at r;obtain⟨v,t,rfl,r1,r2⟩:=r;rw[lC h1 r1,j4 h2 r2];rfl
def mZ{H:Hp}{y kx:RL.D}{v u:V}{o:Option RL.D}(ry:Rep nP X.K H y v)(rk:Rep nP X.K H kx u)(h:yt y kx=some o) :
  ∃ q r,v=.ref q/\eX H q u r/\Ans nP X.K H o r:=by
 cases y with
 |dK ks vs=>
  obtain⟨k,h1,h2⟩:=map_some h;rw[Rep]at ry;obtain⟨q,xs,rfl,_,f2,fl,f3⟩:=ry;have lk:=mE (x:=k) fl f3;rw[h2]at lk;refine⟨q,_,rfl,by rw[lC h1 rk];exact eX.k f2,lk⟩
 |dT ks vs=>
  cases kx with
  |tup kk=>
   obtain⟨k,h1,h2⟩:=map_some h;rw[Rep]at ry;obtain⟨q,xs,rfl,_,f2,fl,f3⟩:=ry;obtain⟨q',ys,rfl,g2,g3⟩:=bF rk;rw[j4 h1 g3]at g2;have lk:=mE (x:=k) fl f3;rw[h2]at lk;exact⟨q,_,rfl,eX.t f2 g2,lk⟩
  | _=>cases h
 | _=>cases kx<;>cases h
def Ey(h:RL.qM y kx=some d):yt y kx=some (some d):=by
 cases y with
 | dK ks vs=>obtain⟨k,h1,h2⟩:=bind_some (show(RL.keyOf kx).bind (RL.aL ks vs)=some d from h);show(RL.keyOf kx).map (RL.aL ks vs)=_;rw[h1,Option.map_some,h2]
 |dT ks vs=>
  cases kx with
  | tup kk=>obtain⟨k,h1,h2⟩:=bind_some (show(RL.keysOf kk).bind (RL.aL ks vs)=some d from h);show(RL.keysOf kk).map (RL.aL ks vs)=_;rw[h1,Option.map_some,h2]
  | _=>cases h
 | _=>cases kx<;>cases h
def E9(hu:X.A.units+100<cLine)(ha:SE X cl a a')(hb:SE X cl b b')(hs:uP b):SE X cl (.Subscript a b pos) (.ixD a' b'):=by
 refine PE.weak (Av (by lia) ha hb hs) fun σ H Q h=>?_;obtain⟨σD,d,rv,e,k⟩:=h;obtain⟨x,ea,e⟩:=bind_some e;obtain⟨y,eb,e⟩:=bind_some e;refine⟨σD,x,rv,ea,fun v H1 r1=>⟨σD,y,rv.same r1.same,eb,fun u H2 r2=>?_⟩⟩;obtain⟨q,r,rfl,g,w,rfl,rw'⟩:=mZ (r1.rep.same r2.same) r2.rep (Ey e);exact⟨q,w,rfl,g,k _ _ ⟨r1.same.trans r2.same,rw',fun z=>(by cases z),fun M z=>nomatch (show false=true from z)⟩⟩
def BS:SE X cl (.Dict [] [] pos) .dk0:=by
 refine PE.weak xE fun σ H Q h=>?_;obtain⟨σD,d,rv,e,k⟩:=h;cases e;intro q hq;refine k _ _ ⟨ax.bO hq,?_,fun _ _ a z=>(by cases z;exact hq),fun M z=>nomatch (show false=true from z)⟩;rw[Rep];exact⟨q,[],rfl,fun z=>z,aP,rfl,af.nil⟩
def E5:SE X cl (.Dict [] [] pos) .dt0:=by
 refine PE.weak zy fun σ H Q h=>?_;obtain⟨σD,d,rv,e,k⟩:=h;cases e;intro q hq;refine k _ _ ⟨ax.bO hq,?_,fun _ _ a z=>(by cases z;exact hq),fun M z=>nomatch (show false=true from z)⟩;rw[Rep];exact⟨q,[],rfl,fun z=>z,aP,rfl,af.nil⟩
end rules
section rules
variable{X:Cx}{st:Stmt}
def Ce(h:RL.xS y kx=some k):∃ o,yt y kx=some o/\k=o.isSome:=by
 cases y with
 | dK ks vs=>obtain⟨q,h1,h2⟩:=map_some (show(RL.keyOf kx).map _=some k from h);exact⟨RL.aL ks vs q,by show(RL.keyOf kx).map _=_;rw[h1];rfl,h2.symm⟩
 |dT ks vs=>
  cases kx with
  | tup kk=>obtain⟨q,h1,h2⟩:=map_some (show(RL.keysOf kk).map _=some k from h);exact⟨RL.aL ks vs q,by show(RL.keysOf kk).map _=_;rw[h1];rfl,h2.symm⟩
  | _=>cases h
 | _=>cases kx<;>cases h
def Ans.isSome{P:Addr->Prop}{K:PySem.W.Frag}(h:Ans P K H o r):r.isSome=o.isSome:=by
 cases o with
 | none=>rw[show r=none from h];rfl
 | some d=>obtain⟨w,hw,_⟩:=h;rw[hw];rfl
abbrev zK(neg:Bool)(ty td:TE):TE:=if neg then tF ty td else DH ty td
def sf(hu:X.A.units+100<cLine)(ha:SE X cl a a')(hb:SE X cl b b'):PC X (if neg then .NotIn else .In) a b (zK neg (tE X.K cl a') (tE X.K cl b')):=by
 cases neg with
 | true=>exact we (by lia) ha hb
 | false=>exact BW (by lia) ha hb
def ve(rv:RV0 X.K σD σ H)(e:RL.ev cl σD (.inD neg a' b')=some d)(k:∀ t H',d=.bl t->ax H H'->Q (.bl t) H'):zK neg (tE X.K cl a') (tE X.K cl b') σ H Q:=by
 obtain⟨x,ea,e⟩:=bind_some e;obtain⟨y,eb,e⟩:=bind_some e;obtain⟨t,e1,e2⟩:=map_some e;obtain⟨o,h1,h2⟩:=Ce e1
 cases neg with
 |true=>
  refine two rv ea eb fun v u H1 H2 s1 s2 rx ry _ _=>?_;obtain⟨q,r,rfl,g,an⟩:=mZ ry rx h1;refine⟨q,r,rfl,g,k _ _ ?_ (s1.trans s2)⟩;rw[an.isSome,<-e2,h2];rfl
 |false=>
  refine two rv ea eb fun v u H1 H2 s1 s2 rx ry _ _=>?_;obtain⟨q,r,rfl,g,an⟩:=mZ ry rx h1;refine⟨q,r,rfl,g,k _ _ ?_ (s1.trans s2)⟩;rw[an.isSome,<-e2,h2];rfl
def Cr(hu:X.A.units+100<cLine)(ha:SE X cl a a')(hb:SE X cl b b')(hm:uo b=true):SE X cl (.Compare a [if neg then .NotIn else .In] [b] pos) (.inD neg a' b'):=by
 refine PE.weak (CN (sf hu ha hb) (og hm)) fun σ H Q h=>?_;obtain⟨σD,d,rv,e,q⟩:=h
 exact ve rv e fun t H' hd sm=>by subst hd;exact q _ _ (dU sm)
def Dq(hu:X.A.units+100<cLine)(ha:SE X cl a a')(hb:SE X cl b b')(hm:uo b=true):ST X cl (.Compare a [if neg then .NotIn else .In] [b] pos) (.inD neg a' b'):=by
 refine PT.weak (DB (sf hu ha hb) (og hm)) fun σ H Q h=>?_;obtain⟨σD,k,rv,e,q⟩:=h;obtain⟨d,e1,e2⟩:=bind_some e;refine ve rv e1 fun t H' hd sm=>?_;subst hd;cases e2;exact⟨_,rfl,q _ sm⟩
def t6{κ:Type} [DecidableEq κ]{x:κ}{d:RL.D}{v:V}{P:Addr->Prop}{K:PySem.W.Frag}{H:Hp}{ks:List κ}{ds:List RL.D}{xs:List V}(hl:ks.length=ds.length)(r:af P K H ds xs)(rv:Rep P K H d v) :
  ∃ ys,putK (ks.zip xs) x v=(RL.putD ks ds x d).1.zip ys/\(RL.putD ks ds x d).1.length=(RL.putD ks ds x d).2.length/\af P K H (RL.putD ks ds x d).2 ys:=by
 have hx:ks.length=xs.length:=hl.trans r.length
 have any:∀ (ks:List κ) (xs:List V),ks.length=xs.length->((ks.zip xs).any fun kv=>decide (kv.1=x))=decide (x∈ks):=by
  intro ks
  induction ks with
  | nil=>intro xs _;simp
  |cons k r ih=>
   intro xs h
   cases xs with
   | nil=>simp at h
   |cons y t=>
    rw[List.zip_cons_cons,List.any_cons,ih t (by simpa using h)];by_cases hk:k=x
    ·simp[hk]
    ·simp[hk,Ne.symm hk]
 unfold putK RL.putD;rw[any ks xs hx];by_cases hm:x∈ks
 ·rw[if_pos (by simpa using hm),if_pos hm];refine⟨List.zipWith (fun k w=>if k=x then v else w) ks xs,?_,?_,?_⟩
  ·clear any hm hl r
   induction ks generalizing xs with
   | nil=>simp
   |cons k t ih=>
    cases xs with
    | nil=>simp at hx
    |cons y t'=>
     rw[List.zip_cons_cons,List.map_cons,List.zipWith_cons_cons,List.zip_cons_cons,ih (by simpa using hx)];by_cases hk:k=x<;>simp[hk]
  ·rw[List.length_zipWith,hl,Nat.min_self]
  ·clear any hm hx
   induction ks generalizing ds xs with
   | nil=>simpa using af.nil
   |cons k t ih=>
    cases ds with
    | nil=>simp at hl
    |cons d0 ds=>
     rw[af]at r;obtain⟨y,t',rfl,r1,r2⟩:=r;rw[List.zipWith_cons_cons,List.zipWith_cons_cons];refine af.cons ?_ (ih (by simpa using hl) r2);by_cases hk:k=x
     ·rw[if_pos hk,if_pos hk];exact rv
     ·rw[if_neg hk,if_neg hk];exact r1
 ·rw[if_neg (by simpa using hm),if_neg hm];refine⟨xs++[v],?_,by simp[hl],af.append r (af.cons rv af.nil)⟩;rw[List.zip_append hx];rfl
def wg [DecidableEq κ](hd:d.imm=true):∀ {ks:List κ} {ds:List RL.D},RL.au ds=true->RL.au (RL.putD ks ds x d).2=true:=by
 have app:∀ l:List RL.D,RL.au l=true->RL.au (l++[d])=true:=fun l=>by
  induction l with
  | nil=>intro _;simp[RL.au,hd]
  | cons z r ih=>intro h;rw[RL.au,Bool.and_eq_true]at h;rw[List.cons_append,RL.au,h.1,ih h.2];rfl
 have zw:∀ (ks:List κ) (ds:List RL.D),RL.au ds=true->RL.au (List.zipWith (fun k w=>if k=x then d else w) ks ds)=true:=fun ks=>by
  induction ks with
  | nil=>intro ds _;simp[RL.au]
  |cons k r ih=>
   intro ds h
   cases ds with
   | nil=>simp[RL.au]
   |cons y t=>
    rw[RL.au,Bool.and_eq_true]at h;rw[List.zipWith_cons_cons,RL.au,ih t h.2,Bool.and_true];by_cases hk:k=x
    ·rw[if_pos hk];exact hd
    ·rw[if_neg hk];exact h.1
 intro ks ds h;unfold RL.putD;split
 ·exact zw ks ds h
 ·exact app ds h
def Bc(h:PS X st (uC (ji i) (tE X.K cl k') (tE X.K cl e')))(hi:M.contains i=true):PS X st (tS X.K M fun σD=>(RL.ev cl σD e').bind fun d=>(RL.ev cl σD k').bind fun kk=>((σD[i]?).bind id).bind fun l=>match l with
  | .lst _=>none
  | _=>if d.imm then(RL.df l kk d).map fun l'=>(.nx,σD.set i (some l'))else none):=by
 refine PS.weak h fun D σ H h=>?_;obtain⟨σD,o,σD',rv,e,k⟩:=h;obtain⟨d,e1,e⟩:=bind_some e;obtain⟨kk,e2,e⟩:=bind_some e;obtain⟨l,e3,e⟩:=bind_some e;obtain⟨v,h1,h2⟩:=rv.val i _ (slot_get e3);rw[if_pos hi]at h2;obtain⟨q1,q2,q3⟩:=h2
 cases l with
 |dK ks ds=>
  dsimp only at e;split at e
  ·rename_i him;obtain⟨l',e4,e5⟩:=map_some e;cases e5;obtain⟨kx,e6,e7⟩:=bind_some (show(RL.keyOf kk).bind _=some l' from e4);split at e7
   ·rename_i hz;cases e7;rw[Rep]at q3;obtain⟨q,xs,rfl,_,f2,fl,f3⟩:=q3;refine⟨σD,d,rv.rv0,e1,fun y H1 r1=>⟨.ref q,h1,σD,kk,rv.rv0.same r1.same,e2,fun u H2 r2=>?_⟩⟩;have sm:=r1.same.trans r2.same;obtain⟨ys,p1,p2,p3⟩:=t6 (x:=kx) fl (f3.same sm) (r1.rep.same r2.same)
    have hlen:(ks.zip xs).length<sizeLine:=by
     rw[List.length_zip,<-f3.length,fl,Nat.min_self,<-fl];exact Nat.lt_of_lt_of_le hz bZ
    refine⟨q,_,rfl,by rw[lC e6 r2.rep];exact jW.k (sm _ _ f2) hlen,?_⟩;have im:=wg (x:=kx) him (ks:=ks) q2
    obtain⟨g1,g2⟩:=(rv.same sm).iE (d':=.dK (RL.putD ks ds kx d).1 (RL.putD ks ds kx d).2) (o':=.dK (putK (ks.zip xs) kx y)) hi h1 (sm _ _ f2) (.inr (.inl ⟨_,rfl⟩)) ⟨rfl,im,by
     rw[Rep]
     exact⟨q,ys,rfl,fun z=>z,by rw[aP,p1],p2,(af.upd (P:=fun p=>p=q) (sm _ _ f2) (.inr (.inl ⟨_,rfl⟩)) rfl (p3.imm im)).imm im⟩⟩
    exact k _ _ g1 ((Fr'.same sm).trans g2)
   ·cases e7
  ·cases e
 |dT ks ds=>
  dsimp only at e;split at e
  ·rename_i him;obtain⟨l',e4,e5⟩:=map_some e;cases e5
   cases kk with
   |tup kt=>
    obtain⟨kx,e6,e7⟩:=bind_some (show(RL.keysOf kt).bind _=some l' from e4);split at e7
    ·rename_i hz;cases e7;rw[Rep]at q3;obtain⟨q,xs,rfl,_,f2,fl,f3⟩:=q3;refine⟨σD,d,rv.rv0,e1,fun y H1 r1=>⟨.ref q,h1,σD,.tup kt,rv.rv0.same r1.same,e2,fun u H2 r2=>?_⟩⟩;have sm:=r1.same.trans r2.same;obtain⟨ys,p1,p2,p3⟩:=t6 (x:=kx) fl (f3.same sm) (r1.rep.same r2.same)
     have hlen:(ks.zip xs).length<sizeLine:=by
      rw[List.length_zip,<-f3.length,fl,Nat.min_self,<-fl];exact Nat.lt_of_lt_of_le hz bZ
     obtain⟨b,ws,rfl,g2,g3⟩:=bF r2.rep;rw[j4 e6 g3]at g2;refine⟨q,_,rfl,jW.t (sm _ _ f2) g2 hlen,?_⟩;have im:=wg (x:=kx) him (ks:=ks) q2
     obtain⟨g1,g2⟩:=(rv.same sm).iE (d':=.dT (RL.putD ks ds kx d).1 (RL.putD ks ds kx d).2) (o':=.dT (putK (ks.zip xs) kx y)) hi h1 (sm _ _ f2) (.inr (.inr ⟨_,rfl⟩)) ⟨rfl,im,by
      rw[Rep]
      exact⟨q,ys,rfl,fun z=>z,by rw[aP,p1],p2,(af.upd (P:=fun p=>p=q) (sm _ _ f2) (.inr (.inr ⟨_,rfl⟩)) rfl (p3.imm im)).imm im⟩⟩
     exact k _ _ g1 ((Fr'.same sm).trans g2)
    ·cases e7
   | _=>cases e4
  ·cases e
 | lst _=>cases e
 | _=>cases q1
end rules
end RS
namespace L2
open PySem PySem.Spec PyProof.Rows
abbrev Its(c lo:Int)(n:Nat):It:=⟨fun i _=>i<n,fun i H x H'=>H'=H/\x=.int (lo+i*c),fun i _=>n<=i⟩
def xk{P:Program}{w:World}{K:PySem.W.Frag}(it:Addr)(c lo:Int)(n:Nat):Turn P w K tg (Its c lo n) [it] it (fun i h=>IsRangeIter h it (lo+(i:Nat)*c) ((n:Int)-(i:Nat)) c) where
 mem:=by simp
 obj:=fun i h st b hb=>by
  rw[show b=it by simpa using hb];exact⟨_,st,fun v z=>by cases(show Data.fields _=Data.cell v from z)⟩
 keep:=fun i h h' st k=>k it (by simp) _ st
 item:=by
  intro X hP hw hK hc i pins s σ H E I hf st hg;subst hP hw hK;obtain⟨f0,f1,f2,f3,f4,f5⟩:=hf it (by simp);have W:=Walks.range (prog:=X.prog) (w:=X.w) (I.ok.hd.1 hc) it lo c n;refine W.item i s _ _ hg st fun v h' tk hv st' kk=>?_;obtain⟨t,rfl⟩:=hv;have I1:Inv X pins σ H { s with heap:=h',toks:=tk }:=I.turned (fun b o hb e=>kk b o (by simpa using hb) e) f0 f1 f3 f4 f5;exact⟨_,rfl,pq (s:={ s with heap:=h',toks:=tk }) (n := "range_iterator") st' rfl rfl (by decide) ⟨.int (lo+i*c),H,I1,⟨t,rfl⟩,⟨rfl,rfl⟩,st',fun b hb=>(hf b hb).1⟩⟩
 done:=by
  intro X hP hw hK hc i pins s σ H E I hf st hg;subst hP hw hK;obtain⟨f0,f1,f2,f3,f4,f5⟩:=hf it (by simp)
  exact wpAny_pyNext_range_end (I.ok.hd.1 hc) st (by have:n<=i:=hg;lia) fun h' eb=>⟨rfl,I.turned (t':=s.toks) (fun b o hb e=>eb b o hb e) f0 f1 f3 f4 f5⟩
 self:=fun _ _ _ _ _ st h=>wpAny_pyIter_rangeiter st h
end L2
namespace RS
open PySem PySem.Spec PyProof.Rows L2
def lY(c:Int):∀ (n:Nat) (lo:Int) (i:Nat) (d:RL.D),(RL.bV c lo n)[i]?=some d->d=.int (lo+i*c)
 | 0,lo,i,d,h=>by simp[RL.bV]at h
 | n+1,lo,0,d,h=>by simp[RL.bV]at h;simp[h]
 | n+1,lo,i+1,d,h=>by
  rw[RL.bV,List.getElem?_cons_succ]at h;rw[lY c n (lo+c) i d h];congr 1;rw[show((i+1:Nat):Int)=(i:Int)+1 by lia,Int.add_mul];lia
def jw(c:Int):∀ (n:Nat) (lo:Int),(RL.bV c lo n).length=n
 | 0,_=>rfl
 | n+1,lo=>by rw[RL.bV,List.length_cons,jw c n]
def t8{K:PySem.W.Frag}{H:Hp}{c lo:Int}:ib K (Its c lo n) (RL.bV c lo n) P H where
 go:=fun H' i k hi=>by rw[jw]at hi;exact hi
 stop:=fun H' k=>by rw[jw];exact Nat.le_refl _
 yld:=fun H' i d x H2 k e y=>by
  obtain⟨z,y⟩:=y;subst z;refine⟨ax.refl _,fun _=>?_⟩;rw[lY c n lo i d e,y];exact bq
section rules
variable{st:Stmt}
end rules
abbrev lh(p:Addr)(a b c:Int):HO:=.ext fun h=>∃ t u v,IsRange h p a b c t u v
def qD(a b c:Int):0<=Builtin.Range.rangeSize a b c:=by
 unfold Builtin.Range.rangeSize;split
 ·split
  ·have:=Int.ediv_nonneg (a:=b-a-1) (b:=c) (by lia) (by lia);omega
  ·lia
 ·split
  ·by_cases h0:c=0
   ·subst h0;simp
   ·have:=Int.ediv_nonneg (a:=a-b-1) (b:=-c) (by lia) (by lia);omega
  ·lia
def xF(a b c:Int):Builtin.Range.rangeSize a b c<=(if a<b then b-a else a-b)+1:=by
 unfold Builtin.Range.rangeSize;split
 ·split
  ·have:=Int.ediv_le_self (a:=b-a-1) c (by lia);lia
  ·lia
 ·split
  ·have:=Int.ediv_le_self (a:=a-b-1) (-c) (by lia);split<;>omega
  ·split<;>lia
def hV(a b c:Int):(RL.bD c a b:Int)=Builtin.Range.rangeSize a b c:=Int.toNat_of_nonneg (qD a b c)
def gU(ha:-(2 ^ 60)<=a)(ha':a<2 ^ 60)(hb:-(2 ^ 60)<=b)(hb':b<2 ^ 60)(hc:-(2 ^ 60)<=c)(hc':c<2 ^ 60):Builtin.Range.small a b c=true:=by
 have h1:=qD a b c;have h2:=xF a b c;unfold Builtin.Range.small;simp only[Builtin.Range.rangeFitsLong,Bool.and_eq_true,Bool.or_eq_true,decide_eq_true_eq,beq_iff_eq];refine⟨⟨⟨⟨?_,?_⟩,?_⟩,?_⟩,.inr ?_⟩
 ·lia
 ·lia
 ·lia
 ·split at h2<;>lia
 ·split<;>(rw[Bool.and_eq_true,decide_eq_true_eq,decide_eq_true_eq];lia)
section
variable{X:Cx}
abbrev qw(xs:List V)(a b c:Int):Prop:=(xs=[.int b]/\a=0/\c=1)\/(xs=[.int a,.int b]/\c=1)\/(xs=[.int a,.int b,.int c]/\c≠0/\c.natAbs<2 ^ 60)
def lB{pins:List (Addr × Obj)}{σ:L2.St}{H:Hp}{s:Shared}{a b c:Int}{t u v:Tok}{tk:Nat}(I:Inv X pins σ H s):Inv X pins σ (upd H s.heap.objs.size (lh s.heap.objs.size a b c)) { s with heap:=s.heap.push { cls:=.type "range",data:=.fields #[.int a t,.int b u,.int c v] },toks:=tk } :=
 I.laid (fun b u e=>Heap.get?_push_of_some _ e) (Nat.le_refl _) ⟨⟨t,u,v,IsRange.new _ a b c t u v⟩,⟨_,Heap.get?_push_size _ rfl⟩,fun h1 h2 ⟨t,u,v,e⟩ k=>⟨t,u,v,k _ e⟩⟩
def gM:bI X (.type "range") (fun xs H Q=>∃ a b c,qw xs a b c/\∀ p,H p=none->Q (.ref p) (upd H p (lh p a b c))):=by
 intro pins s σ H xs us Q I r h;obtain⟨a,b,c,ha,q⟩:=h;have hf:H s.heap.objs.size=none:=I.hok.fresh (Nat.le_refl _)
 rcases ha with⟨rfl,rfl,rfl⟩ | ⟨rfl,rfl⟩ | ⟨rfl,hc,hc2⟩
 ·cases r with
  |cons r rr=>
   cases rr;obtain⟨t,rfl⟩:=r;exact call_range_1 ⟨.ref _,_,lB I,rfl,q _ hf⟩
 ·cases r with
  |cons r rr=>
   cases rr with
   |cons r2 rr=>
    cases rr;obtain⟨t,rfl⟩:=r;obtain⟨t2,rfl⟩:=r2;exact call_range_2 ⟨.ref _,_,lB I,rfl,q _ hf⟩
 ·cases r with
  |cons r rr=>
   cases rr with
   |cons r2 rr=>
    cases rr with
    |cons r3 rr=>
     cases rr;obtain⟨t,rfl⟩:=r;obtain⟨t2,rfl⟩:=r2;obtain⟨t3,rfl⟩:=r3;refine call_range_3 hc ⟨.ref _,_,lB I,rfl,q _ hf⟩ (.inl (PyProof.noPylong_of_log2 ?_));have:c.natAbs.log2<60:=(Nat.log2_lt (by lia)).mpr hc2;lia
abbrev cm(a c:Int)(n:Nat):List V:=(List.range n).map fun(i:Nat)=>V.int (a+(i:Int)*c)
def sj{a c:Int}{n:Nat}{acc:Array Value}(hI:ItemsOf (fun i v=>∃ t,v=.int (a+i*c) t) acc n):Vals (cm a c n) acc.toList:=by
 have len:(cm a c (n)).length=acc.toList.length:=by
  simp only[cm,List.length_map,List.length_range,Array.length_toList,hI.1]
 have gen:∀ (xs:List V) (us:List Value),xs.length=us.length->(∀ (i:Nat) u,us[i]?=some u->∃ x,xs[i]?=some x/\RelV x u)->Vals xs us:=by
  intro xs
  induction xs with
  | nil=>intro us h _;cases us with
   | nil=>exact .nil
   | cons _ _=>cases h
  | cons x r ih=>intro us h g;cases us with
   | nil=>cases h
   |cons u us=>
    obtain⟨x',e1,e2⟩:=g 0 u rfl;cases e1
    exact .cons e2 (ih us (by simpa using h) fun i u hu=>by
     obtain⟨y,e3,e4⟩:=g (i+1) u (by simpa using hu)
     exact⟨y,by simpa using e3,e4⟩)
 refine gen _ _ len fun i u hu=>?_
 have hu':acc[i]?=some u:=by simpa using hu
 obtain⟨tk,rfl⟩:=hI.2 i u hu'
 have hi:i<n:=by
  have:=(Array.getElem?_eq_some_iff.mp hu').1;rw[hI.1]at this;exact this
 exact⟨.int (a+(i:Int)*c),by simp[cm,hi],tk,rfl⟩
def fO(hc:X.calm=true):bI X (.type "list") (fun xs H Q=>∃ p a b c,xs=[.ref p]/\H p=some (lh p a b c)/\Builtin.Range.small a b c=true/\RL.bD c a b<=RL.most /\
  ∀ l,H l=none->Q (.ref l) (upd H l (.lst (cm a c (RL.bD c a b))))):=by
 intro pins s σ H xs us Q I r h;obtain⟨p,a,b,c,rfl,hp,hs,hn,q⟩:=h
 cases r with
 |cons r rr=>
  cases rr;cases r;obtain⟨⟨t,u,v,hR⟩,_,_⟩:=I.hok p _ hp;refine call_list_range (I.ok.hd.1 hc) hR hs (hV a b c).symm (Nat.le_trans hn (by decide)) fun h' tk acc c' hk hS hI=>?_;have hf:H s.heap.objs.size=none:=I.hok.fresh (Nat.le_refl _);refine⟨.ref s.heap.objs.size,upd H s.heap.objs.size (.lst (cm a c (RL.bD c a b))),I.laid hk (Nat.le_refl _) (show _/\_ from⟨?_,acc.toList,c',?_,?_⟩),rfl,q _ hf⟩
  ·simp only[cm,List.length_map,List.length_range];exact Nat.le_trans hn bZ
  ·exact sj hI
  ·rw[Array.toArray_toList];exact hS
def jQ{P:Addr->Prop}{K:PySem.W.Frag}:∀ (n:Nat) (a c:Int),af P K H (RL.bV c a n) (cm a c n)
 | 0,a,c=>af.nil
 | n+1,a,c=>by
  have e:cm a c (n+1)=V.int a::cm (a+c) c n:=by
   simp only[cm,List.range_succ_eq_map,List.map_cons,List.map_map];congr 1
   ·simp
   ·apply List.map_congr_left;intro i _;show V.int (a+((i+1:Nat):Int)*c)=V.int (a+c+(i:Int)*c);congr 1;rw[show((i+1:Nat):Int)=(i:Int)+1 by lia,Int.add_mul];lia
  rw[RL.bV,e];exact af.cons bq (jQ n (a+c) c)
def je:∀ (n:Nat) (a:Int),RL.cE a n=RL.bV 1 a n
 | 0,_=>rfl
 | n+1,a=>by rw[RL.cE,RL.bV,je n]
def dN(a b:Int):RL.bD 1 a b=(b-a).toNat:=by
 have h:=hV a b 1;rw[rangeSize_one]at h;split at h<;>lia
def qZ{σD:RL.St}{σ:L2.St}{H H1:Hp}{e:RL.E}{Q:VK}{vs:List V}{a b c:Int}{ds:List RL.D}(hv:qw vs a b c)(hd:ds=RL.bV c a (RL.bD c a b))(hn:RL.bD c a b<=RL.most)(hs:Builtin.Range.small a b c=true)(sm:ax H H1)
 (hav:∀ M,RL.avE M e=false)(k:∀ v H',Res X.K σD σ H e (.lst ds) v H'->Q v H') :
  ∃ a b c,qw vs a b c/\∀ p,H1 p=none->(fun xs H Q=>∃ p a b c,xs=[V.ref p]/\H p=some (lh p a b c)/\Builtin.Range.small a b c=true/\RL.bD c a b<=RL.most/\∀ l,H l=none->Q (.ref l) (upd H l (.lst (cm a c (RL.bD c a b))))) [.ref p] (upd H1 p (lh p a b c)) Q:=by
 refine⟨a,b,c,hv,fun p hp=>⟨p,a,b,c,rfl,aP,hs,hn,fun l hl=>k _ _ ?_⟩⟩;subst hd;exact fw (sm.trans (ax.bO hp)) hl (jQ _ _ _) hav
def AQ(hc:X.calm=true)(hgl:Gl X "list")(hml:X.mg "list" = none)(hg:Gl X "range")(hm:X.mg "range" = none)(ha:SE X cl a a')(hn:noStar a=true){p2 pos2:Pos}:SE X cl (.Call (.Name "list" p2) [.Call (.Name "range" p) [a] [] pos] [] pos2) (.rng1 a'):=by
 refine PE.weak (bW (fO hc) hgl hml (by decide +kernel) (bh (bW gM hg hm boot_range (bH (cl:=cl) ha cB hn) (by decide) (by decide) (aw [] hn) rfl) cz) (by decide) (by decide) rfl rfl) fun σ H Q h=>?_;obtain⟨σD,d,rv,e,k⟩:=h;obtain⟨x,ea,e⟩:=bind_some e;obtain⟨ds,e1,e2⟩:=map_some e;subst e2;obtain⟨i,j,e3,rfl,hb,hm2,rfl⟩:=j5 e1;cases e3
 have hb2:-(2 ^ 60)<=j/\j<2 ^ 60:=by
  simp only[RL.c8]at e1;split at e1
  ·lia
  ·cases e1
 refine one rv ea fun v H1 s1 r1=>?_;exact qZ (a:=0) (b:=j) (c:=1) (.inl ⟨by rw[ah r1],rfl,rfl⟩) (by rw[je,dN]) (by rw[dN];exact hm2) (gU (by decide) (by decide) hb2.1 hb2.2 (by decide) (by decide)) s1 (fun _=>rfl) k
def Bo(hc:X.calm=true)(hgl:Gl X "list")(hml:X.mg "list" = none)(hg:Gl X "range")(hm:X.mg "range" = none)(ha:SE X cl a a')(hb:SE X cl b b')(hn:noStar a=true)(hn2:noStar b=true){p2 pos2:Pos}:SE X cl (.Call (.Name "list" p2) [.Call (.Name "range" p) [a,b] [] pos] [] pos2) (.rng2 a' b'):=by
 refine PE.weak (bW (fO hc) hgl hml (by decide +kernel) (bh (bW gM hg hm boot_range (bH (cl:=cl) ha (bH hb cB hn2) hn) (by decide) (by decide) (aw _ hn) (cN (by simp[hn2]))) cz) (by decide) (by decide) rfl rfl) fun σ H Q h=>?_;obtain⟨σD,d,rv,e,k⟩:=h;obtain⟨x,ea,e⟩:=bind_some e;obtain⟨y,eb,e⟩:=bind_some e;obtain⟨ds,e1,e2⟩:=map_some e;subst e2;obtain⟨i,j,rfl,rfl,hb,hm2,rfl⟩:=j5 e1
 have hb2:(-(2 ^ 60)<=i/\i<2 ^ 60)/\-(2 ^ 60)<=j/\j<2 ^ 60:=by
  simp only[RL.c8]at e1;split at e1
  ·lia
  ·cases e1
 refine pair rv ea eb fun v u H1 s1 r1 r2=>?_;exact qZ (a:=i) (b:=j) (c:=1) (.inr (.inl ⟨by rw[ah r1,ah r2],rfl⟩)) (by rw[je,dN]) (by rw[dN];exact hm2) (gU hb2.1.1 hb2.1.2 hb2.2.1 hb2.2.2 (by decide) (by decide)) s1 (fun _=>rfl) k
abbrev gZ(c:Int):Expr->Bool
 | .Constant (.int i) _ _=>i == c
 | .UnaryOp .USub (.Constant (.int i) _ _) _=>-i == c
 | _=>false
def kd(h:gZ c e=true):PE X e (tC (.int c))/\noStar e=true:=by
 unfold gZ at h;split at h
 ·rw[beq_iff_eq]at h;subst h;exact⟨pH,rfl⟩
 ·rw[beq_iff_eq]at h;subst h;exact⟨PE.weak (zZ v9 pH) fun σ H Q q=>⟨_,rfl,q⟩,rfl⟩
 ·cases h
def sN(h:RL.fU c x y=some ds):∃ i j:Int,x=.int i/\y=.int j/\c≠0/\c.natAbs<2 ^ 60/\Builtin.Range.small i j c=true/\RL.bD c i j<=RL.most/\ds=RL.bV c i (RL.bD c i j):=by
 cases x<;>cases y<;>simp only[RL.fU]at h<;>first
  | (cases h;done)
  | (split at h
     ·rename_i i j hc;cases h;exact⟨i,j,rfl,rfl,hc.1,by omega,gU hc.2.2.2.2.1 hc.2.2.2.2.2.1 hc.2.2.2.2.2.2.1 hc.2.2.2.2.2.2.2 (by omega) hc.2.2.1,hc.2.2.2.1,rfl⟩
     ·cases h)
def tG(ha:SE X cl a a')(hb:SE X cl b b')(hn:noStar a=true)(hn2:noStar b=true)(h3:gZ c e3=true):PA X [a,b,e3] (fun σ H R=>tE X.K cl a' σ H fun v H1=>tE X.K cl b' σ H1 fun u H2=>R [v,u,.int c] H2) :=
 bh ha (bh hb (bh (kd h3).1 cz (aw [] (kd (X:=X) h3).2)) (aw _ hn2)) (aw _ hn)
def BB{c:Int}{e3:Expr}(hc:X.calm=true)(hgl:Gl X "list")(hml:X.mg "list" = none)(hg:Gl X "range")(hm:X.mg "range" = none)(ha:SE X cl a a')(hb:SE X cl b b')(hn:noStar a=true)(hn2:noStar b=true)(h3:gZ c e3=true){p2 pos2:Pos} :
  SE X cl (.Call (.Name "list" p2) [.Call (.Name "range" p) [a,b,e3] [] pos] [] pos2) (.rng3 c a' b'):=by
 refine PE.weak (bW (fO hc) hgl hml (by decide +kernel) (bh (bW gM hg hm boot_range (tG (cl:=cl) ha hb hn hn2 h3) (by decide) (by decide) (aw _ hn) (cN (by simp[hn2,(kd (X:=X) h3).2]))) cz) (by decide) (by decide) rfl rfl) fun σ H Q h=>?_;obtain⟨σD,d,rv,e,k⟩:=h;obtain⟨x,ea,e⟩:=bind_some e;obtain⟨y,eb,e⟩:=bind_some e;obtain⟨ds,e1,e2⟩:=map_some e;subst e2;obtain⟨i,j,rfl,rfl,h0,h1,h2,h3,rfl⟩:=sN e1;refine two rv ea eb fun v u H1 H2 s1 s2 rx ry _ _=>?_;exact qZ (a:=i) (b:=j) (c:=c) (.inr (.inr ⟨by rw[ah rx,ah ry],h0,h1⟩)) rfl h3 h2 (s1.trans s2) (fun _=>rfl) k
def B0(hg:Gl X "range")(hm:X.mg "range" = none)(ha:SE X cl a a')(hb:SE X cl b b')(hn:noStar a=true)(hn2:noStar b=true)(h3:gZ c e3=true) :
  SI X cl tg (.Call (.Name "range" p) [a,b,e3] [] pos) (.rng3 c a' b'):=by
 intro pins s σ H R I h;obtain⟨σD,ds,rv,e,k⟩:=h;obtain⟨x,ea,e⟩:=bind_some e;obtain⟨y,eb,e⟩:=bind_some e;obtain⟨i,j,rfl,rfl,h0,h1,hs,hl,rfl⟩:=sN e;refine thn (bW gM hg hm boot_range (tG (cl:=cl) ha hb hn hn2 h3) (by decide) (by decide) (aw _ hn) (cN (by simp[hn2,(kd (X:=X) h3).2])) pins s σ H (fun x H2=>∃ p,x=.ref p/\H2 p=some (lh p i j c)/\ax H H2) I ?_) ?_
 ·exact two rv ea eb fun v u H1 H2 s1 s2 rx ry _ _=>⟨i,j,c,.inr (.inr ⟨by rw[ah rx,ah ry],h0,h1⟩),fun p hp=>⟨p,rfl,aP,(s1.trans s2).trans (ax.bO hp)⟩⟩
 ·rintro v s1 ⟨x,H1,I1,r1,q,rfl,hq,sm⟩;cases r1;obtain⟨⟨t,u,v,hR⟩,_,_⟩:=I1.hok q _ hq;refine wpAny_pyIter_range hR hs ⟨s1.heap.objs.size,[s1.heap.objs.size],_,Its c i (RL.bD c i j),H1,rfl,I1.kept (t':=s1.toks) fun b o e=>Heap.get?_push_of_some _ e,xk _ c i _,?_,fun b hb=>?_,k _ _ sm ⟨t8,fun _ _ _ _ _=>t8⟩⟩
  ·have e1:i+((0:Nat):Int)*c=i:=by simp
   have e2:((RL.bD c i j:Nat):Int)-((0:Nat):Int)=Builtin.Range.rangeSize i j c:=by rw[hV];simp
   show IsRangeIter _ _ (i+((0:Nat):Int)*c) (((RL.bD c i j:Nat):Int)-((0:Nat):Int)) c;rw[e1,e2];exact Heap.get?_push_size _ rfl
  ·rw[show b=s1.heap.objs.size by simpa using hb];exact I1.nD (Nat.le_refl _) (I1.hok.fresh (Nat.le_refl _))
def Am(hl:SE X cl l e'):SI X cl tg l (.seq e'):=by
 refine PI.weak (DX (cl:=cl) hl trivial) fun σ H R h=>?_;obtain⟨σD,ds,rv,e,k⟩:=h;obtain⟨d,e1,e2⟩:=bind_some e;exact⟨σD,d,ds,rv,e1,e2,k⟩
def E7(ha:SE X cl a a'):SE X cl (.UnaryOp .USub a pos) (.neg a'):=by
 refine PE.weak (zZ v9 ha) fun σ H Q h=>?_;obtain⟨σD,d,rv,e,k⟩:=h;obtain⟨x,ea,e⟩:=bind_some e
 cases x with
 | int i=>cases e;exact⟨σD,_,rv,ea,fun v H1 r1=>⟨i,ah r1.rep,k _ _ (cS r1.same bq rfl)⟩⟩
 | _=>cases e
end
abbrev mAt(mp:List Nat)(vs:List V):Addr->Prop:=fun a=>∃ p,p∈mp/\vs[p]?=some (.ref a)
structure BV(K:PySem.W.Frag)(mp:List Nat)(ds:List RL.D)(vs:List V)(H:Hp):Prop where
 mW:af nP K H ds vs
 own:∀ p∈mp,∃ d a,ds[p]?=some d/\vs[p]?=some (.ref a)/\Own K H d (.ref a)
 sep:∀ p∈mp,∀ q∈mp,∀ a,vs[p]?=some (.ref a)->vs[q]?=some (.ref a)->p=q
 oth:∀ (q:Nat) d v,q∉mp->ds[q]?=some d->vs[q]?=some v->Rep (mAt mp vs) K H d v
structure FI(K:PySem.W.Frag)(mp:List Nat)(outs:List RL.D)(vs:List V)(H:Hp):Prop where
 len:outs.length=mp.length
 own:∀ (k p:Nat) o,mp[k]?=some p->outs[k]?=some o->∃ a,vs[p]?=some (.ref a)/\Own K H o (.ref a)
abbrev spM(K:PySem.W.Frag)(cl:RL.Cl)(mp:List Nat)(f:Nat):Sp:=fun vs H Q _=>∃ ds d outs,cl f ds=some (.tup (d::outs))/\BV K mp ds vs H/\∀ v H',Off (mAt mp vs) H H'->Rep nP K H' d v->d.imm=true->FI K mp outs vs H'->Q v H'
abbrev pX(K:PySem.W.Frag)(cl:RL.Cl):RL.E->TE
 | .var j=>ji j
 | e=>tE K cl e
abbrev jg(K:PySem.W.Frag)(cl:RL.Cl):RL.Es->TA
 | .nil=>iO
 | .cons e es=>hX (pX K cl e) (jg K cl es)
abbrev cK(K:PySem.W.Frag)(M:List Nat)(σ:L2.St)(ps:List Nat)(H:Hp):Nat->RL.Es->List RL.D->List V->Prop
 | _,.nil,[],[]=>True
 | q,.cons e es,d::ds,v::vs=>Rep nP K H d v/\(if ps.contains q=true then ∃ j,e=.var j/\σ[j]?=some (some v)else Rep (aZ M σ) K H d v)/\cK K M σ ps H (q+1) es ds vs
 | _,_,_,_=>False
section
variable{K:PySem.W.Frag}
def wo(e:RL.ev cl σD (.var j)=some d):σD[j]?=some (some d):=by
 exact slot_get e
def Cg(rv:RVm K M σD σ H)(r1:Res K σD σ H e' d v H1)(ok:RL.bb M e' d=true):Rep (aZ M σ) K H1 d v:=by
 unfold RL.bb at ok;rw[Bool.or_eq_true,Bool.or_eq_true,Bool.and_eq_true]at ok;rcases ok with(q | ⟨q1,q2⟩) | q
 ·exact r1.rep.imm q
 ·have rp:=r1.rep;have fr:l7 d=true->∀ a,v=.ref a->¬ aZ M σ a:=fun m a z p=>rv.rP a p (r1.fresh q2 m a z)
  cases d with
  | lst ds=>obtain⟨a,xs,e1,e0,e2,e3⟩:=aC rp;rw[Rep];exact⟨a,xs,e1,fr rfl a e1,e2,e3.imm q1⟩
  | dK ks ds=>rw[Rep]at rp ⊢;obtain⟨a,xs,e1,e0,e2,el,e3⟩:=rp;exact⟨a,xs,e1,fr rfl a e1,e2,el,e3.imm q1⟩
  | dT ks ds=>rw[Rep]at rp ⊢;obtain⟨a,xs,e1,e0,e2,el,e3⟩:=rp;exact⟨a,xs,e1,fr rfl a e1,e2,el,e3.imm q1⟩
  | _=>cases q1
 ·refine r1.av M q _ rv.rP fun j dj vj hj h1 h2=>?_;obtain⟨v',h3,h4⟩:=rv.val j dj h1;rw[h2]at h3;cases h3;rw[if_neg (by rw[hj];decide)]at h4;exact h4
def Ao{e:RL.E}{d:RL.D}{ps:List Nat}(rv:RVm K M σD σ H)(he:RL.ev cl σD e=some d)(ok:(if ps.contains q=true then RL.isVar e else RL.bb M e d)=true)
 (k:∀ v H1,ax H H1->Rep nP K H1 d v->(if ps.contains q=true then ∃ j,e=.var j/\σ[j]?=some (some v)else Rep (aZ M σ) K H1 d v)->R v H1):pX K cl e σ H R:=by
 have other:pX K cl e=tE K cl e->ps.contains q=false->pX K cl e σ H R:=fun z hq=>by
  rw[z];rw[if_neg (by rw[hq];decide)]at ok;refine⟨σD,d,rv.rv0,he,fun v H1 r1=>k v H1 r1.same r1.rep ?_⟩;rw[if_neg (by rw[hq];decide)];exact Cg rv r1 ok
 cases e with
 |var j=>
  have hj:=wo he;obtain⟨v,h1,h2⟩:=rv.val j d hj;refine⟨v,h1,k v H (ax.refl H) ?_ ?_⟩
  ·obtain⟨v',h3,h4⟩:=rv.rv0.2 j d hj;rw[h1]at h3;cases h3;exact h4
  ·by_cases hq:ps.contains q=true
   ·rw[if_pos hq];exact⟨j,rfl,h1⟩
   ·rw[if_neg hq]at ok ⊢;by_cases hm:M.contains j=true
    ·rw[if_pos hm]at h2
     have im:d.imm=true:=by
      unfold RL.bb at ok;rw[Bool.or_eq_true,Bool.or_eq_true,Bool.and_eq_true]at ok;rcases ok with(z | ⟨_,z⟩) | z
      ·exact z
      ·cases z
      ·rw[RL.avE,hm]at z;cases z
     exact h2.2.2.imm im
    ·rw[if_neg hm]at h2;exact h2
 |_=>
  refine other rfl ?_
  cases hq:ps.contains q with
  | false=>rfl
  |true=>
   rw[if_pos hq]at ok;cases ok
def rG:∀ {es:RL.Es} {q:Nat} {ds:List RL.D} {H:Hp} {R:List V->Hp->Prop},RVm K M σD σ H->RL.evs cl σD es=some ds->RL.i5 M ps q es ds=true ->
  (∀ vs H1,ax H H1->cK K M σ ps H1 q es ds vs->R vs H1)->jg K cl es σ H R
 | .nil,q,ds,H,R,rv,he,ok,k=>by
  cases he;exact k [] H (ax.refl H) (by rw[cK];trivial)
 | .cons e es,q,ds,H,R,rv,he,ok,k=>by
  obtain⟨d,e1,he⟩:=bind_some he;obtain⟨ds',e2,e3⟩:=map_some he;subst e3;rw[RL.i5,Bool.and_eq_true]at ok;refine Ao rv e1 ok.1 fun v H1 s1 r1 x1=>?_;refine rG (rv.same s1) e2 ok.2 fun vs H2 s2 r2=>k (v::vs) H2 (s1.trans s2) ?_;rw[cK];refine⟨r1.same s2,?_,r2⟩;by_cases hq:ps.contains q=true
  ·rw[if_pos hq]at x1 ⊢;exact x1
  ·rw[if_neg hq]at x1 ⊢;exact x1.same s2
abbrev kE:RL.Es->Nat->Option RL.E
 | .nil,_=>none
 | .cons e _,0=>some e
 | .cons _ es,n+1=>kE es n
def cK.mW:∀ {q:Nat} {es:RL.Es} {ds:List RL.D} {vs:List V},cK K M σ ps H q es ds vs->af nP K H ds vs
 | _,.nil,[],[],h=>af.nil
 | q,.cons e es,d::ds,v::vs,h=>by
  rw[cK]at h;exact af.cons h.1 (cK.mW h.2.2)
 | _,.nil,_::_,_,h=>by simp[cK]at h
 | _,.nil,[],_::_,h=>by simp[cK]at h
 | _,.cons _ _,[],_,h=>by simp[cK]at h
 | _,.cons _ _,_::_,[],h=>by simp[cK]at h
def cK.get:∀ {q:Nat} {es:RL.Es} {ds:List RL.D} {vs:List V} (n:Nat) {d:RL.D} {v:V},cK K M σ ps H q es ds vs->ds[n]?=some d->vs[n]?=some v ->
  Rep nP K H d v/\(if ps.contains (q+n)=true then ∃ j,kE es n=some (.var j)/\σ[j]?=some (some v)else Rep (aZ M σ) K H d v)
 | _,.nil,[],[],n,_,_,h,e,_=>by simp at e
 | q,.cons e es,d::ds,v::vs,0,_,_,h,e1,e2=>by
  simp at e1 e2;subst e1 e2;rw[cK]at h;refine⟨h.1,?_⟩;have h2:=h.2.1;rw[Nat.add_zero];by_cases hq:ps.contains q=true
  ·rw[if_pos hq]at h2 ⊢;obtain⟨j,z,y⟩:=h2;subst z;exact⟨j,rfl,y⟩
  ·rw[if_neg hq]at h2 ⊢;exact h2
 | q,.cons e es,d::ds,v::vs,n+1,_,_,h,e1,e2=>by
  rw[cK]at h;have:=cK.get n h.2.2 (by simpa using e1) (by simpa using e2);rw[show q+1+n=q+(n+1) by lia]at this;exact this
 | _,.nil,_::_,_,_,_,_,h,_,_=>by simp[cK]at h
 | _,.nil,[],_::_,_,_,_,h,_,_=>by simp[cK]at h
 | _,.cons _ _,[],_,_,_,_,h,_,_=>by simp[cK]at h
 | _,.cons _ _,_::_,[],_,_,_,h,_,_=>by simp[cK]at h
def Own.off(h:Own K H d (.ref a))(hm:∀ b o,P b->H b=some o->cU o)(k:Off P H H1)(n:¬ P a):Own K H1 d (.ref a):=by
 obtain⟨q1,q2,q3⟩:=h;refine⟨q1,q2,?_⟩;have im:∀ {ds:List RL.D} {xs:List V},RL.au ds=true->af nP K H ds xs->af nP K H1 ds xs:=fun hi r=>((r.imm hi).off hm k).imm hi
 cases d with
 | lst ds=>obtain⟨b',xs,e1,e0,e2,e3⟩:=aC q3;cases e1;rw[Rep];exact⟨a,xs,rfl,fun z=>z,k _ _ n e2,im q2 e3⟩
 | dK ks ds=>rw[Rep]at q3 ⊢;obtain⟨b',xs,e1,e0,e2,el,e3⟩:=q3;cases e1;exact⟨a,xs,rfl,fun z=>z,k _ _ n e2,el,im q2 e3⟩
 | dT ks ds=>rw[Rep]at q3 ⊢;obtain⟨b',xs,e1,e0,e2,el,e3⟩:=q3;cases e1;exact⟨a,xs,rfl,fun z=>z,k _ _ n e2,el,im q2 e3⟩
 | _=>cases q1
def nE:∀ {ms:List Nat} {outs:List RL.D} {σD:RL.St} {k i:Nat} {o:RL.D},ms.Nodup->ms[k]?=some i->outs[k]?=some o->i<σD.length->(eB ms outs σD)[i]?=some (some o)
 | [],_,_,_,_,_,_,e,_,_=>by simp at e
 | m::ms,[],_,_,_,_,_,_,e,_=>by simp at e
 | m::ms,d::ds,σD,0,i,o,nd,e1,e2,hl=>by
  simp at e1 e2;subst e1 e2;rw[eB,kc _ _ _ _ (by simpa using(List.nodup_cons.mp nd).1),List.getElem?_set_self hl]
 | m::ms,d::ds,σD,k+1,i,o,nd,e1,e2,hl=>by
  rw[eB];exact nE (List.nodup_cons.mp nd).2 (by simpa using e1) (by simpa using e2) (by simpa using hl)
def RVm.changed(h:RVm K M σD σ H)(hms:∀ i∈ms,M.contains i=true)(nd:ms.Nodup)(len:ms.length=outs.length)(k:Off (fun a=>∃ i∈ms,σ[i]?=some (some (.ref a))) H H1)
 (ow:∀ (k i:Nat) o,ms[k]?=some i->outs[k]?=some o->∃ a,σ[i]?=some (some (.ref a))/\Own K H1 o (.ref a)):RVm K M (eB ms outs σD) σ H1/\Fr' M σ H σ H1:=by
 have sub:∀ a,(∃ i∈ms,σ[i]?=some (some (.ref a)))->aZ M σ a:=fun a ⟨i,hi,e⟩=>⟨i,hms i hi,e⟩
 have offA:Off (aZ M σ) H H1:=fun b o n e=>k b o (fun z=>n (sub b z)) e
 have hmA:∀ b o,aZ M σ b->H b=some o->cU o:=fun b o p e=>by
  obtain⟨o',e',m⟩:=h.uj b p;rw[e]at e';cases e';exact m
 have at_:∀ i,i∈ms->∃ (kk:Nat) (o:RL.D),ms[kk]?=some i/\outs[kk]?=some o:=fun i hi=>by
  obtain⟨kk,hk,e⟩:=List.getElem_of_mem hi;exact⟨kk,outs[kk]'(by lia),by simp[hk,e],by simp⟩
 refine⟨⟨by rw[l3];exact h.len,fun i d e=>?_,fun i v e=>?_,h.sep⟩,⟨fun b o e n=>⟨offA b o n e,n⟩,fun _ _=>rfl⟩⟩
 ·by_cases hi:i∈ms
  ·obtain⟨kk,o,e1,e2⟩:=at_ i hi
   have hl:i<σD.length:=by
    have:=(List.getElem?_eq_some_iff.mp e).1;rw[l3]at this;exact this
   rw[nE nd e1 e2 hl]at e;cases e;obtain⟨a,q1,q2⟩:=ow kk i _ e1 e2;exact⟨.ref a,q1,by rw[if_pos (hms i hi)];exact q2⟩
  ·rw[kc _ _ _ _ (by simpa using hi)]at e;obtain⟨v,h1,h2⟩:=h.val i d e;refine⟨v,h1,?_⟩;by_cases hm:M.contains i=true
   ·rw[if_pos hm]at h2 ⊢;obtain⟨a,o,rfl,_,_⟩:=h2.ref;refine h2.off (fun b o p e=>hmA b o (sub b p) e) k fun⟨j,hj,ej⟩=>?_;exact hi (h.sep i j a hm (hms j hj) h1 ej▸hj)
   ·rw[if_neg hm]at h2 ⊢;exact h2.off hmA offA
 ·obtain⟨d,hd⟩:=h.non i v e;by_cases hi:i∈ms
  ·obtain⟨kk,o,e1,e2⟩:=at_ i hi;exact⟨o,nE nd e1 e2 (List.getElem?_eq_some_iff.mp hd).1⟩
  ·exact⟨d,by rw[kc _ _ _ _ (by simpa using hi)];exact hd⟩
end
section rules
variable{X:Cx}{st:Stmt}
abbrev cy(es:RL.Es):List Nat->List Nat->Bool
 | [],[]=>true
 | p::ps,m::ms=>(match kE es p with | some (.var j)=>j == m | _=>false)&&cy es ps ms
 | _,_=>false
def kO:∀ {ps ms:List Nat} {k p:Nat},cy es ps ms=true->ps[k]?=some p->∃ m,ms[k]?=some m/\kE es p=some (.var m)
 | [],_,_,_,_,e=>by simp at e
 | _::_,[],_,_,h,_=>by simp[cy]at h
 | p::ps,m::ms,0,q,h,e=>by
  rw[cy,Bool.and_eq_true]at h;simp at e;subst e;have h1:=h.1;split at h1
  ·rename_i j hj;rw[beq_iff_eq]at h1;subst h1;exact⟨j,rfl,hj⟩
  ·cases h1
 | p::ps,m::ms,k+1,q,h,e=>by
  rw[cy,Bool.and_eq_true]at h;obtain⟨m',h1,h2⟩:=kO (k:=k) h.2 (by simpa using e);exact⟨m',by simpa using h1,h2⟩
def ic:∀ {ps ms:List Nat},cy es ps ms=true->ps.length=ms.length
 | [],[],_=>rfl
 | [],_::_,h=>by simp[cy]at h
 | _::_,[],h=>by simp[cy]at h
 | p::ps,m::ms,h=>by
  rw[cy,Bool.and_eq_true]at h;rw[List.length_cons,List.length_cons,ic h.2]
def yv(rv:RVm X.K M σD σ H)(he:RL.evs cl σD es=some ds)(ok:RL.i5 M ps 0 es ds=true)(hc:cl f ds=some (.tup (d::outs)))
 (hs:cy es ps ms=true)(hms:∀ i∈ms,M.contains i=true)(nd:ms.Nodup)(ndp:ps.Nodup)(hset:RL.bK ms outs σD=some σ1)
 (k:∀ v H',Rep nP X.K H' d v->d.imm=true->RVm X.K M σ1 σ H'->Fr' M σ H σ H'->Q v H'):lU (spM X.K cl ps f) [] E0 (jg X.K cl es) σ H Q:=by
 refine rG rv he ok fun vs H1 s1 ar=>?_;show spM X.K cl ps f (vs++[]) H1 Q E0;rw[List.append_nil];have rv1:=rv.same s1;have rps:=ar.mW;obtain⟨hlen,hσ1⟩:=fD hset;subst hσ1
 have adr:∀ (k p:Nat),ps[k]?=some p->∃ m a d',ms[k]?=some m/\σ[m]?=some (some (.ref a))/\vs[p]?=some (.ref a)/\ds[p]?=some d'/\Own X.K H1 d' (.ref a)/\kE es p=some (.var m):=by
  intro k p hk;obtain⟨m,h1,h2⟩:=kO hs hk
  have evg:∀ (es:RL.Es) (ds:List RL.D) (n:Nat) (e:RL.E),RL.evs cl σD es=some ds->kE es n=some e->∃ d',ds[n]?=some d'/\RL.ev cl σD e=some d':=by
   intro es
   induction es using RL.Es.rec (motive_1:=fun _=>True) (motive_3:=fun _=>True)with
   | nil=>intro ds n e _ z;cases z
   |cons e0 es0 _ ih=>
    intro ds n e h z;obtain⟨d0,y1,h⟩:=bind_some h;obtain⟨ds0,y2,y3⟩:=map_some h;subst y3
    cases n with
    | zero=>cases z;exact⟨d0,rfl,y1⟩
    | succ n=>exact ih ds0 n e y2 z
   | _=>trivial
  obtain⟨d',g1,g2⟩:=evg es ds p _ he h2;obtain⟨v,g3,g4⟩:=rps.get g1
  have hpc:ps.contains (0+p)=true:=by
   rw[Nat.zero_add];simpa using List.mem_of_getElem? hk
  have g5:=(ar.get p g1 g3).2;rw[if_pos hpc]at g5;obtain⟨j,z1,z2⟩:=g5;rw[h2]at z1;cases z1;have hm:M.contains m=true:=hms m (List.mem_of_getElem? h1);obtain⟨v',z3,z4⟩:=rv1.val m d' (wo g2);rw[z2]at z3;cases z3;rw[if_pos hm]at z4;obtain⟨a,o,rfl,_,_⟩:=z4.ref;exact⟨m,a,d',h1,z2,g3,g1,z4,h2⟩
 have adr':∀ a,mAt ps vs a->∃ i∈ms,σ[i]?=some (some (.ref a)):=fun a ⟨p,hp,e⟩=>by
  obtain⟨k,hk,z⟩:=List.getElem_of_mem hp;obtain⟨m,a',d',h1,h2,h3,_⟩:=adr k p (by simp[hk,z]);rw[e]at h3;cases h3;exact⟨m,List.mem_of_getElem? h1,h2⟩
 refine⟨ds,d,outs,hc,⟨rps,fun p hp=>?_,fun p hp q hq a e1 e2=>?_,fun q dq v hq e1 e2=>?_⟩,fun v H' off rp im mo=>?_⟩
 ·obtain⟨k,hk,z⟩:=List.getElem_of_mem hp;obtain⟨m,a',d',h1,h2,h3,h4,h5,_⟩:=adr k p (by simp[hk,z]);exact⟨d',a',h4,h3,h5⟩
 ·obtain⟨k,hk,z⟩:=List.getElem_of_mem hp;obtain⟨l,hl,y⟩:=List.getElem_of_mem hq
  have gk:ps[k]?=some p:=by simp[hk,z]
  have gl:ps[l]?=some q:=by simp[hl,y]
  obtain⟨m,a1,d1,h1,h2,h3,_⟩:=adr k p gk;obtain⟨m',a2,d2,h1',h2',h3',_⟩:=adr l q gl;rw[e1]at h3;cases h3;rw[e2]at h3';cases h3';have hmm:=rv1.sep m m' a (hms m (List.mem_of_getElem? h1)) (hms m' (List.mem_of_getElem? h1')) h2 h2';subst hmm;have hkl:k=l:=(List.getElem?_inj (by rw[<-ic hs];exact hk) nd).mp (by rw[h1,h1']);subst hkl;rw[gk]at gl;exact Option.some.inj gl
 ·have hpc:ps.contains (0+q)=false:=by
   rw[Nat.zero_add];simpa using hq
  have g5:=(ar.get q e1 e2).2;rw[if_neg (by rw[hpc];decide)]at g5
  exact g5.weak fun a ha=>by
   obtain⟨i,hi,e⟩:=adr' a ha;exact⟨i,hms i hi,e⟩
 ·obtain⟨g1,g2⟩:=rv1.changed (outs:=outs) (H1:=H') hms nd hlen (fun b o n e=>off b o (fun z=>n (adr' b z)) e) fun k i o hk ho=>by
   have hkl:k<ps.length:=by
    rw[ic hs];exact(List.getElem?_eq_some_iff.mp hk).1
   obtain⟨m,a1,d1,h1,h2,h3,_⟩:=adr k ps[k] (by simp[hkl]);rw[hk]at h1;cases h1;obtain⟨a,q1,q2⟩:=mo.own k ps[k] o (by simp[hkl]) ho;rw[q1]at h3;cases h3;exact⟨_,h2,q2⟩
  exact k v H' rp im g1 ((Fr'.same s1).trans g2)
def AH(h:PS X st (oV (lU (spM X.K cl ps f) [] E0 (jg X.K cl es))))(hs:cy es ps ms=true)(hms:∀ i∈ms,M.contains i=true)(nd:ms.Nodup)(ndp:ps.Nodup):SS X cl M st (.mexc f es ps ms):=by
 refine PS.weak h fun D σ H h=>?_;obtain⟨σD,o,σD',rv,e,k⟩:=h;obtain⟨ds,e1,e⟩:=bind_some e;split at e
 ·rename_i ok;obtain⟨r,e2,e⟩:=bind_some e;split at e
  ·rename_i d outs;obtain⟨σ1,e3,e4⟩:=map_some e;cases e4;exact yv rv e1 ok e2 hs hms nd ndp e3 fun v H' _ _ rv' fr'=>k _ _ rv' fr'
  ·cases e
 ·cases e
end rules
end RS
namespace L2
open PySem PySem.Spec PyProof.Rows
abbrev eA(A:Around)(h:Heap):Prop:=A.handled=none\/∃ x o vs,A.handled=some (.ref x)/\h.get? x=some o/\o.data=.fields vs/\vs[2]?=some .none
def eA.keeps(x:eA A h)(k:∀ b o vs,h.get? b=some o->o.data=.fields vs->A.handled=some (.ref b)->h'.get? b=some o):eA A h':=by
 rcases x with z | ⟨y,o,vs,h1,h2,h3,h4⟩
 ·exact .inl z
 ·exact .inr ⟨y,o,vs,h1,k _ _ _ h2 h3 h1,h3,h4⟩
section
def oM:entryFor table "proto.unchain" = some Builtin.«proto.unchain»:=entryFor_of_tree (by kernel_rfl)
def yR(hd:eA A s.heap)(he:s.heap.get? e=some oe)(hf:oe.data=.fields vs)(hz:2<vs.size)(ne:A.handled≠some (.ref e))
 (k:∀ h',Heap.SameBut e s.heap h'->(∃ o,h'.get? e=some o/\o.cls=oe.cls)->E (.ref e) { s with heap:=h' }):wpAny (model prog w) A (raiseNew (.ref e):Sem α) Q E s:=by
 unfold raiseNew;refine wpAny_bind (wpAny_handled ?_)
 rcases hd with z | ⟨x,o,ws,h1,h2,h3,h4⟩
 ·rw[z];exact wpAny_bind (wpAny_pure (wpAny_throw (k s.heap (.refl ..) ⟨oe,he,rfl⟩)))
 ·rw[h1]
  have nx:(Value.ref x != Value.ref e)=true:=by
   rw[bne_iff_ne];intro q;exact ne (by rw[h1,q])
  dsimp only;rw[if_pos nx];refine wpAny_bind (wpAny_holding (wpAny_runValue (codeAny_builtin oM ?_)));unfold Builtin.«proto.unchain»;refine wpAny_bind (wpAny_field h2 h3 h4 ?_);rw[if_pos (by decide)];refine wpAny_bind (wpAny_pure (wpAny_pure ?_));show wpAny _ _ _ _ _ _;refine wpAny_bind ?_;show wpAny _ _ (setField (.ref e) 2 (.ref x)) _ _ _;refine wpAny_setField he hf hz (wpAny_throw (k _ (.update ..) ⟨_,Heap.get?_update_self _ he (Obj.isFreed_of_fields (Obj.data_mapFields hf _)),Obj.cls_mapFields ..⟩))
def nq(hd:eA A s.heap)(k:∀ h' e,(∀ b o,s.heap.get? b=some o->h'.get? b=some o)->(∃ o,h'.get? e=some o/\o.cls=.type "StopIteration")->E (.ref e) { s with heap:=h' }) :
  wpAny (model prog w) A (newExc (.type "StopIteration") []) (fun e s'=>wpAny (model prog w) A (raiseNew e:Sem α) Q E s') E s:=by
 simp only[newExc,newTuple];apply wpAny_bind;refine wpAny_newObj_type ?_ (by size_fits);apply wpAny_bind (m:=firstArgMember _ _);refine wpAny_of_eq (a:=Value.none) (by first | rfl | (simp only[firstArgMember];rfl)) ?_;refine wpAny_newObj_type ?_ (by size_fits);have hs:∀ b o,s.heap.get? b=some o->b≠(s.heap.push { cls:=.type "tuple",data:=.seq ([]:List Value).toArray }).objs.size:=fun b o e=>Nat.ne_of_lt (by rw[Heap.size_push];exact Nat.lt_succ_of_lt (Heap.lt_size e));refine yR (hd.keeps fun b o vs e _ _=>Heap.get?_push_of_some _ (Heap.get?_push_of_some _ e)) (Heap.get?_push_size _ rfl) rfl (Nat.lt_of_lt_of_le (by decide:2<6) (by simp)) (fun q=>?_) fun h' sb ho=>k h' _ (fun b o e=>(sb.2 b (hs b o e)).trans (Heap.get?_push_of_some _ (Heap.get?_push_of_some _ e))) ho
 rcases hd with z | ⟨x,o,ws,h1,h2,_,_⟩
 ·rw[z]at q;cases q
 ·rw[h1]at q;cases q;exact hs _ _ h2 rfl
def j0{it l:Addr}{i:Nat}(hd:eA A s.heap)(ni:A.handled≠some (.ref it))(ho:s.heap.get? it=some o)(hdt:o.data=.fields #[.ref l,.int i 0])(hol:s.heap.get? l=some ol)(hdl:ol.data=.seq its nl)(hx:its[i]?=none)
 (k:∀ h' e,Heap.ExtBut it s.heap h'->(∃ o,h'.get? e=some o/\o.cls=.type "StopIteration")->E (.ref e) { s with heap:=h' }):wpAny (model prog w) A (Builtin.«list_iterator.__next__» ⟨[.ref it],[]⟩) Q E s:=by
 have n0:¬ ((Value.ref l == Value.none)=true):=Bool.false_ne_true;refine show wpAny _ _ (field (.ref it) 0 >>= _) _ _ s from wpAny_bind (wpAny_field ho hdt (x:=.ref l) rfl ?_);refine show wpAny _ _ (if(Value.ref l == Value.none)=true then _ else _) _ _ s from ?_;rw[if_neg n0];refine show wpAny _ _ (field (.ref it) 1 >>= _) _ _ s from wpAny_bind (wpAny_field ho hdt (x:=.int i 0) rfl ?_);refine show wpAny _ _ (seqItems? (.ref l) >>= _) _ _ s from wpAny_bind (wpAny_seqItems hol hdl ?_);simp only[Int.toNat_natCast,hx];refine wpAny_bind (wpAny_rule (wpAny_bind (wpAny_setField ho hdt (by simp) ?_)));refine show wpAny _ _ (newExc (.type "StopIteration") [] >>= _) _ _ _ from wpAny_bind ?_;have sb:=Heap.SameBut.update s.heap it (Obj.mapFields (·.setIfInBounds 0 Value.none));refine nq (hd.keeps fun b u vs e _ hb=>(sb.2 b fun z=>ni (z▸hb)).trans e) fun h' e kk he=>k h' e (fun b u hb q=>kk b u ((sb.2 b hb).trans q)) he
def oO{it l:Addr}{i:Nat}(hd:eA A s.heap)(ni:A.handled≠some (.ref it))(hit:s.heap.IsListIter it l i)(hl:s.heap.IsList l its)(hx:its[i]?=none)
 (k:∀ h' e,Heap.ExtBut it s.heap h'->(∃ o,h'.get? e=some o/\o.cls=.type "StopIteration")->E (.ref e) { s with heap:=h' }):wpAny (model prog w) A (Builtin.SmallTypes.nextOf (.ref it)) Q E s:=by
 obtain⟨o,ho,hc,hdt⟩:=id hit;obtain⟨ol,hol,_,nl,hdl⟩:=hl;unfold Builtin.SmallTypes.nextOf;apply wpAny_bind;apply wpAny_callSpecial?_slot (name:=Str.ofString "__next__") hit.typeIs slot_listiter_next;refine wpAny_call_entry slot_listiter_next hit.typeIs entry_listiter_next ?_ (args_listiter_next _);exact j0 hd ni ho hdt hol hdl hx k
def rV{it l:Addr}{i:Nat}(hd:eA A s.heap)(ni:A.handled≠some (.ref it))(hit:s.heap.IsListIter it l i)(hl:s.heap.IsList l its)(hx:its[i]?=none)
 (k:∀ h',Heap.ExtBut it s.heap h'->Q none { s with heap:=h' }):wpAny (model prog w) A (pyNext (.ref it)) Q E s:=by
 obtain⟨o,ho,hc,hdt⟩:=id hit;obtain⟨ol,hol,_,nl,hdl⟩:=hl;unfold pyNext;apply wpAny_bind;apply wpAny_attempt;apply wpAny_callSpecial?_slot (name:=Str.ofString "__next__") hit.typeIs slot_listiter_next;refine wpAny_call_entry slot_listiter_next hit.typeIs entry_listiter_next ?_ (args_listiter_next _);refine j0 hd ni ho hdt hol hdl hx fun h' e eb he=>?_;apply wpAny_bind;refine wpAny_isInstance (T := "StopIteration") (b:=true) he isSubtype_stop ?_;exact wpAny_pure (k h' eb)
end
section
def rK(hi:z.heap.IsTupleIter ti tp i)(ht:z.heap.IsTuple tp its)(hx:its[i]?=some x)
 (k:∀ g,g.IsTupleIter ti tp (i+1)->Heap.SameBut ti z.heap g->Q x { z with heap:=g }):wpAny (model prog w) A (Builtin.SmallTypes.nextOf (.ref ti)) Q E z:=by
 have hty:=hi.typeIs;obtain⟨⟨c1,d1,f1,s1⟩,g1,c1',f1'⟩:=hi;obtain⟨⟨c2,d2,f2,s2⟩,g2,c2',n2,f2'⟩:=ht;dsimp only at c1' f1' c2' f2';subst c1' f1' c2' f2';obtain⟨hp,g,d,tk,os⟩:=z;unfold Builtin.SmallTypes.nextOf;refine wpAny_bind (wpAny_callSpecial?_slot (name:=Str.ofString "__next__") hty F.slot_tuple_iterator_next (wpAny_call_entry F.slot_tuple_iterator_next hty F.entry_tuple_iterator_next ?_ (F.args_tuple_iterator_next_1 _)));unfold Builtin.«tuple_iterator.__next__»
 wp_walk using AutoSeq1.wpAny_loadPart' g1,AutoSeq1.wpAny_loadPart' g2
 have e:its[((i:Nat):Int).toNat]?=some x:=hx;rw[e];dsimp only;apply wpAny_bind;apply wpAny_setField g1 rfl (by simp);apply wpAny_pure;refine⟨x,rfl,?_⟩;apply wpAny_pure;apply k
 ·exact⟨_,Heap.get?_update_self _ g1 rfl,rfl,by simp[Obj.mapFields,rawInt]⟩
 ·exact Heap.SameBut.update ..
def sr(hd:eA A z.heap)(ni:A.handled≠some (.ref ti))(hi:z.heap.IsTupleIter ti tp i)(ht:z.heap.IsTuple tp its)(hx:its[i]?=none)
 (k:∀ g e,Heap.ExtBut ti z.heap g->(∃ o,g.get? e=some o/\o.cls=.type "StopIteration")->E (.ref e) { z with heap:=g }):wpAny (model prog w) A (Builtin.SmallTypes.nextOf (.ref ti)) Q E z:=by
 have hty:=hi.typeIs;obtain⟨⟨c1,d1,f1,s1⟩,g1,c1',f1'⟩:=hi;obtain⟨⟨c2,d2,f2,s2⟩,g2,c2',n2,f2'⟩:=ht;dsimp only at c1' f1' c2' f2';subst c1' f1' c2' f2';obtain⟨hp,g,d,tk,os⟩:=z;unfold Builtin.SmallTypes.nextOf;refine wpAny_bind (wpAny_callSpecial?_slot (name:=Str.ofString "__next__") hty F.slot_tuple_iterator_next (wpAny_call_entry F.slot_tuple_iterator_next hty F.entry_tuple_iterator_next ?_ (F.args_tuple_iterator_next_1 _)));unfold Builtin.«tuple_iterator.__next__»
 wp_walk using AutoSeq1.wpAny_loadPart' g1,AutoSeq1.wpAny_loadPart' g2
 have e:its[((i:Nat):Int).toNat]?=none:=hx;rw[e];dsimp only;apply wpAny_bind;apply wpAny_rule;apply wpAny_bind;apply wpAny_setField g1 rfl (by simp);unfold Builtin.SmallTypes.stopIteration;apply wpAny_bind;refine nq (hd.keeps fun b u vs e _ hb=>(Heap.SameBut.update ..).extBut b u (fun z=>ni (z▸hb)) e) fun g e kp hc=>k g e (fun b o hb q=>kp b o ?_) hc;exact(Heap.SameBut.update ..).extBut b o hb q
def oZ(h:wpAny (model prog w) A m S (fun _ _=>False) z)(k:∀ a z1,S a z1->Q a z1):wpAny (model prog w) A m Q E z:=wpAny_mono h k fun _ _ f=>f.elim
def vY(h:∀ b,Q b z):wpAny (model prog w) A (pure b) Q E z:=wpAny_pure (h b)
def yB{x:Value}{S:Addr->Shared->Prop}(hx:∀ A:Around,wpAny (model prog w) A (pyIter x) (fun v z1=>∃ it,v=.ref it/\S it z1) (fun _ _=>False) z)
 (k:∀ it z1,S it z1->Q (.ref z1.heap.objs.size) { z1 with heap:=z1.heap.push { cls:=.type "enumerate",data:=.fields #[.none,.bool false,.ref it,rawInt 0,.none,.none] } }):wpAny (model prog w) A (call (.type "enumerate") [x]) Q E z:=by
 have body:MeetsIn prog w (Builtin.«enumerate.__new__» ⟨[.type "enumerate",x],[]⟩) (fun A R s=>s=z/\∀ it z1,S it z1->R (.ok (.ret (.ref z1.heap.objs.size))) { z1 with heap:=z1.heap.push { cls:=.type "enumerate",data:=.fields #[.none,.bool false,.ref it,rawInt 0,.none,.none] } }):=by
  rintro A R s ⟨rfl,hR⟩;have hsub:=sub_enumerate;have iter:=hx A.in1;obtain⟨hp,g,d,tk,os⟩:=s
  wp_walk
  refine wpAny_stack_any fun st=>vY fun b=>?_
  have done:∀ it z1,S it z1->wpAny (model prog w) A.in1 (do let r <- Builtin.SmallTypes.newRecord (.type "enumerate") (Builtin.SmallTypes.ownedTupleFields++[.ref it,rawInt 0,.none,.none]);ret r)
    (fun fin s'=>match fin with | .done f=>R (.ok f) s' | .again c'=>c'.quiet=true/\codeAny (model prog w) A c' R s') (fun e s'=>R (.error e) s') z1:=by
   intro it z1 h1;have:=hR it z1 h1;obtain⟨hp1,gg1,dd1,tk1,os1⟩:=z1
   wp_walk
   exact this
  cases b
  ·wp_walk using oZ iter
   rintro _ z1 ⟨it,rfl,h1⟩;exact done it z1 h1
  ·wp_walk using oZ iter
   rintro _ z1 ⟨it,rfl,h1⟩;exact done it z1 h1
 refine callType_newIn F.called_enumerate (by decide) (F.typeCall_enumerate_1 _) (F.newCall_enumerate_1 _) (fun obj=>F.args_object_init_2 obj _) F.entry_enumerate_new body ⟨rfl,fun it z1 h=>?_⟩;exact⟨⟨_,Heap.get?_push_size _ rfl,rfl⟩,k it z1 h⟩
def qV:k9 prog w where
 draws:=fun hh ti tp hne its=>{
  live:=fun i h st=>let ⟨o,e,_⟩:=st.1;⟨o,e⟩
  frame:=fun i h h' st kp=>by
   obtain⟨⟨o1,e1,r1⟩,⟨o2,e2,r2⟩⟩:=st;exact⟨⟨o1,kp ti (by simp) _ e1,r1⟩,⟨o2,kp tp (by simp) _ e2,r2⟩⟩
  item:=fun i s Q E hi st k=>by
   refine rK st.1 st.2 (x:=its[i]) (by simp[hi]) fun g h1 h2=>k its[i] g s.toks (by simp[hi]) ⟨h1,st.2.extBut h2.extBut hne⟩ h2
  done:=fun s Q E st k=>sr (.inl hh) (by rw[hh];exact fun z=>nomatch z) st.1 st.2 (by simp) fun g e h1 h2=>k g e h1 h2 }
 call:=fun {A E z tp its Q} ht k=>by
  refine yB (S:=fun it z1=>it=z.heap.objs.size/\z1={ z with heap:=z.heap.push { cls:=.type "tuple_iterator",data:=.fields #[.ref tp,rawInt 0] } }) (fun A=>wpAny_pyIter_tuple ht ⟨_,rfl,rfl,rfl⟩) ?_;rintro it z1 ⟨rfl,rfl⟩;have hz:(z.heap.push { cls:=.type "tuple_iterator",data:=.fields #[.ref tp,rawInt 0] }).objs.size=z.heap.objs.size+1:=Heap.size_push ..;dsimp only;rw[hz];refine k _ ?_ ⟨_,Heap.get?_push_of_some _ (Heap.get?_push_size _ rfl),rfl,rfl⟩ fun b o e=>Heap.get?_push_of_some _ (Heap.get?_push_of_some _ e);have:=Heap.get?_push_size (z.heap.push { cls:=.type "tuple_iterator",data:=.fields #[.ref tp,rawInt 0] }) (o:={ cls:=.type "enumerate",data:=.fields #[.none,.bool false,.ref z.heap.objs.size,rawInt 0,.none,.none] }) rfl;rw[hz]at this;exact this
end
end L2
namespace RS
open PySem PySem.Spec PyProof.Rows L2
section
variable{X:Cx}
def sX:∀ {bs:List Bool} {us:List Value},Vals (bs.map V.bl) us->us=bs.map Value.bool
 | [],_,h=>by cases h;rfl
 | b::bs,_,h=>by
  cases h with
  |cons r t=>
   cases r;rw[sX t];rfl
def yC{A:Around}{bs:List Bool}:TruthOf X.prog X.w A (fun i v=>(bs.map Value.bool).toArray[i]?=some v) (fun i=>bs.getD i false):=by
 intro i v s Q E hP q
 have hP':(bs.map Value.bool)[i]?=some v:=by simpa using hP
 rw[List.getElem?_map]at hP';obtain⟨b,h1,h2⟩:=map_some hP';subst h2
 have:bs.getD i false=b:=by rw[List.getD_eq_getElem?_getD,h1];rfl
 have q':Q b s:=this▸q;exact wpAny_truthy_bool q'
def range_all(bs:List Bool):(List.range bs.length).all (fun i=>bs.getD i false)=bs.all id:=by
 have:bs=(List.range bs.length).map fun i=>bs.getD i false:=by
  apply List.ext_getElem
  ·simp
  ·intro i h1 h2;simp[List.getD_eq_getElem?_getD,h1]
 conv=>rhs;rw[this]
 rw[List.all_map];rfl
abbrev EB(f:List Bool->Bool):List V->Hp->VK->Prop:=fun xs H Q=>∃ p bs,xs=[.ref p]/\H p=some (.lst (bs.map V.bl))/\Q (.bl (f bs)) H
def za(hc:X.calm=true):bI X (.builtin "all") (EB fun bs=>bs.all id):=by
 intro pins s σ H xs us Q I r h;obtain⟨p,bs,rfl,hp,q⟩:=h
 cases r with
 |cons r rr=>
  cases rr;cases r;obtain⟨its,rv,hl,hz⟩:=I.list (SqL.of hp);have hits:=sX rv;subst hits
  have hlt:p<s.heap.objs.size:=by obtain⟨o,ho,_⟩:=hl.isList;exact Heap.lt_size ho
  refine call_all_walk (wpAny_pyIter_list hl.isList ?_);refine⟨s.heap.objs.size,_,[s.heap.objs.size],_,_,_,_,rfl,Walks.list (A:=X.A.in1) (I.ok.hd.1 hc) s.heap.objs.size p (Nat.ne_of_lt hlt) (bs.map Value.bool).toArray,⟨⟨_,Heap.get?_push_size _ rfl,rfl,rfl⟩,hl.isList.push _⟩,yC,fun h' tk hk=>?_⟩;refine⟨.bl (bs.all id),H,I.kept (t':=tk) (fun b o e=>hk b o (fun z=>?_) (Heap.get?_push_of_some _ e)),?_,q⟩
  ·rw[List.mem_singleton.mp z]at e;exact absurd (Heap.lt_size e) (Nat.lt_irrefl _)
  ·have:=range_all bs;show Value.bool _=Value.bool _;rw[<-this];simp
def qb{P:Addr->Prop}{K:PySem.W.Frag}:∀ {ds:List RL.D} {bs:List Bool} {xs:List V},RL.dE ds=some bs->af P K H ds xs->xs=bs.map V.bl
 | [],bs,xs,h,r=>by rw[RL.dE]at h;cases h;rw[af]at r;exact r
 | d::ds,bs,xs,h,r=>by
  cases d<;>simp only[RL.dE]at h<;>first | (cases h;done) | skip
  rename_i b;obtain⟨bs',h1,h2⟩:=map_some h;subst h2;rw[af]at r;obtain⟨x,t,rfl,r1,r2⟩:=r;rw[bf r1,qb h1 r2];rfl
def BZ(hc:X.calm=true)(hg:Gl X "all")(hm:X.mg "all" = none)(ha:SE X cl a a')(hn:noStar a=true):SE X cl (.Call (.Name "all" p) [a] [] pos) (.bi .all a'):=by
 refine nX (za hc) hg hm (by decide +kernel) ha hn (by decide) (by decide) fun σD σ H H1 y d v Q e s1 r1 k=>?_
 cases y<;>simp only[RL.biV]at e<;>first | (cases e;done) | skip
 case lst ds =>
  obtain⟨bs,e1,e2⟩:=map_some e;subst e2;obtain⟨q,xs,rfl,_,f2,f3⟩:=aC r1;rw[qb e1 f3]at f2;exact⟨q,bs,rfl,f2,k _ _ (cS s1 qU rfl)⟩
def B5(hg:Gl X "enumerate")(hm:X.mg "enumerate" = none)(ha:SE X cl a a')(hn:noStar a=true):SI X cl (.Tuple elts kx tp) (.Call (.Name "enumerate" p) [a] [] pos) (.enm a'):=Cb qV hg hm ha hn
def sY{P:Addr->Prop}{K:PySem.W.Frag}:∀ {ds:List RL.D} {is:List Int} {xs:List V},RL.f7 ds=some is->af P K H ds xs->xs=is.map V.int
 | [],is,xs,h,r=>by rw[RL.f7]at h;cases h;rw[af]at r;exact r
 | d::ds,is,xs,h,r=>by
  cases d<;>simp only[RL.f7]at h<;>first | (cases h;done) | skip
  rename_i b;obtain⟨bs',h1,h2⟩:=map_some h;subst h2;rw[af]at r;obtain⟨x,t,rfl,r1,r2⟩:=r;rw[ah r1,sY h1 r2];rfl
abbrev mG(ns:List Int):List Int:=firstMet (fun i=>ns.getD i 0) ns.length
def Bz(ns:List Int):mG ns=RL.iG ns:=by
 unfold mG firstMet RL.iG
 have:(List.range ns.length).map (fun i=>ns.getD i 0)=ns:=by
  apply List.ext_getElem
  ·simp
  ·intro i h1 h2;simp[List.getD_eq_getElem?_getD,h2]
 rw[this];rfl
def vQ(hc:X.calm=true):bI X (.type "set") (fun xs H Q=>∃ p ns,xs=[.ref p]/\H p=some (.lst (ns.map V.int))/\ns.length<=1000/\∀ l,H l=none->Q (.ref l) (upd H l (.set (fun k=>(mG ns).any (· == k)) (mG ns).length))):=by
 intro pins s σ H xs us Q I r h;obtain⟨p,ns,rfl,hp,hn,q⟩:=h
 cases r with
 |cons r rr=>
  cases rr;cases r;obtain⟨its,rv,hl,hz⟩:=I.list (SqL.of hp)
  have hlen:its.length=ns.length:=by
   have:=rv.length;simp at this;exact this.symm
  have hf:H s.heap.objs.size=none:=I.hok.fresh (Nat.le_refl _);refine call_set_list (I.ok.hd.1 hc) hl.isList (ns:=ns) (by simpa using intsAre_of rv) (by rw[List.size_toArray,hlen];show ns.length+1<4096;lia) fun h' tk hS hk=>?_
  have hsz:its.toArray.size=ns.length:=by rw[List.size_toArray];exact hlen
  rw[hsz]at hS;exact⟨.ref s.heap.objs.size,_,I.laid (o:=.set (fun k=>(mG ns).any (· == k)) (mG ns).length) (t':=tk) (fun b u e=>hk b u (Heap.lt_size e) e) (Nat.le_refl _) hS,rfl,q _ hf⟩
def wY:bI X (.builtin "len") (fun xs H Q=>∃ p S n,xs=[.ref p]/\H p=some (.set S n)/\Q (.int (n:Nat)) H):=by
 intro pins s σ H xs us Q I r h;obtain⟨p,S,n,rfl,hp,q⟩:=h
 cases r with
 |cons r rr=>
  cases rr;cases r;obtain⟨o,es,ep,t,h1,h2,h3,h4,h5,h6,h7,h8⟩:=I.hok p _ hp;refine call_len_set h1 h2 h3 h7 (by have:scanBound=4096:=rfl;lia) ?_;rw[h8];exact⟨.int n,H,I.tok _,⟨_,rfl⟩,q⟩
def wQ(hc:X.calm=true)(hgl:Gl X "len")(hml:X.mg "len" = none)(hg:Gl X "set")(hm:X.mg "set" = none)(ha:SE X cl a a')(hn:noStar a=true):SE X cl (.Call (.Name "len" p2) [.Call (.Name "set" p) [a] [] pos] [] pos2) (.bi .lenSet a'):=by
 refine PE.weak (ff wY hgl hml PySem.boot_len (bh (bW (vQ hc) hg hm (by decide +kernel) (bH (cl:=cl) ha cB hn) (by decide) (by decide) (aw [] hn) rfl) cz) (by decide) (by decide) rfl rfl) fun σ H Q h=>?_;obtain⟨σD,d,rv,e,k⟩:=h;obtain⟨y,ea,e⟩:=bind_some e;refine one rv ea fun v H1 s1 r1=>?_
 cases y<;>simp only[RL.biV]at e<;>first | (cases e;done) | skip
 case lst ds =>
  split at e
  ·rename_i hl;obtain⟨is,e1,e2⟩:=map_some e;subst e2;obtain⟨q,xs,rfl,_,f2,f3⟩:=aC r1;have hx:=sY e1 f3;rw[hx]at f2
   have hil:is.length<=1000:=by
    have:=f3.length;rw[hx]at this;simp at this;lia
   refine⟨q,is,rfl,f2,hil,fun l hl2=>⟨l,_,_,rfl,aP,?_⟩⟩;rw[Bz];exact k _ _ (cS (s1.trans (ax.bO hl2)) bq rfl)
  ·cases e
def C4(hl:PE X l (y8 X.K "list" yN (ji i)))(he:SE X cl e e')(ha:SSs X cl M A A')(hb:SSs X cl M B B')(hi:M.contains i=true):SS X cl M (.If (.Compare l [.NotEq] [e] pos) A B pos2) (.ifp i e' A' B'):=by
 refine PS.weak (tX (mF F2 hl he (r0 _)) ha hb) fun D σ H h=>?_;obtain⟨σD,o,σD',rv,ev,k⟩:=h;obtain⟨l,e3,ev⟩:=bind_some ev
 cases l with
 |lst ds=>
  obtain⟨d,e4,ev⟩:=bind_some ev;obtain⟨y,e5,ev⟩:=bind_some ev;obtain⟨v,h1,h2⟩:=rv.val i _ (slot_get e3);rw[if_pos hi]at h2;obtain⟨q1,q2,q3⟩:=h2;obtain⟨a,xs,rfl,_,f2,f3⟩:=aC q3;obtain⟨u,f4,f5⟩:=f3.get e4;have im:=mH q2;obtain⟨g1,g2⟩:=rv.iE (d':=.lst ds.dropLast) (o':=.lst xs.dropLast) hi h1 f2 (.inl ⟨_,rfl⟩) (mI (ds:=ds) f2 im f3.dropLast)
  cases d with
  |int m=>
   cases y with
   |int n=>
    refine⟨.ref a,h1,.inl ⟨rfl,xs,SqL.of f2⟩,a,xs,u,rfl,rfl,f2,by rw[<-f3.length];exact f4,?_⟩;refine⟨_,_,g1.rv0,e5,fun w H1 r1=>?_⟩;rw[ah f5,ah r1.rep];have k1:=k.from (g2.trans (Fr'.same (σ:=σ) r1.same));refine⟨rfl,_,rfl,?_⟩;dsimp only at ev;by_cases hmn:m=n
    ·rw[if_pos (by simpa using hmn)]at ev
     have hd:(!decide (V.int m=V.int n))=false:=by rw[hmn];simp
     rw[hd];exact fq ⟨_,o,σD',g1.same r1.same,ev,k1⟩
    ·rw[if_neg (by simpa using hmn)]at ev
     have hd:(!decide (V.int m=V.int n))=true:=by
      have:V.int m≠V.int n:=fun z=>hmn (by injection z);simp[this]
     rw[hd];exact eJ ⟨_,o,σD',g1.same r1.same,ev,k1⟩
   | _=>cases ev
  | _=>cases ev
 | _=>cases ev
end
end RS
namespace L2
open PySem PySem.Spec PyProof.Rows
section
variable{prog:Program}{w:World}{A:Around}{E:Value->Shared->Prop}
def BC{x y:Value}{S1:Addr->Shared->Prop}{S2:Addr->Addr->Shared->Prop}{z:Shared}{Q:Value->Shared->Prop}(hx:∀ A:Around,wpAny (model prog w) A (pyIter x) (fun v z1=>∃ it,v=.ref it/\S1 it z1) (fun _ _=>False) z)
 (hy:∀ it z1,S1 it z1->∀ A:Around,wpAny (model prog w) A (pyIter y) (fun v z2=>∃ jt,v=.ref jt/\S2 it jt z2) (fun _ _=>False) z1)
 (k:∀ it jt z2,S2 it jt z2->Q (.ref (((z2.heap.push { cls:=.type "tuple",data:=.seq #[.ref it,.ref jt] }).push { cls:=.type "tuple",data:=.seq #[.none,.none] })).objs.size)
   { z2 with heap:=((z2.heap.push { cls:=.type "tuple",data:=.seq #[.ref it,.ref jt] }).push { cls:=.type "tuple",data:=.seq #[.none,.none] }).push { cls:=.type "zip",data:=.fields #[.none,.bool false,.bool false,.ref z2.heap.objs.size,.ref (z2.heap.push { cls:=.type "tuple",data:=.seq #[.ref it,.ref jt] }).objs.size] } }) :
  wpAny (model prog w) A (call (.type "zip") [x,y]) Q E z:=by
 have body:MeetsIn prog w (Builtin.«zip.__new__» ⟨[.type "zip",x,y],[]⟩) (fun A R s=>s=z/\∀ it jt z2,S2 it jt z2->R (.ok (.ret (.ref (((z2.heap.push { cls:=.type "tuple",data:=.seq #[.ref it,.ref jt] }).push { cls:=.type "tuple",data:=.seq #[.none,.none] })).objs.size)))
   { z2 with heap:=((z2.heap.push { cls:=.type "tuple",data:=.seq #[.ref it,.ref jt] }).push { cls:=.type "tuple",data:=.seq #[.none,.none] }).push { cls:=.type "zip",data:=.fields #[.none,.bool false,.bool false,.ref z2.heap.objs.size,.ref (z2.heap.push { cls:=.type "tuple",data:=.seq #[.ref it,.ref jt] }).objs.size] } }):=by
  rintro A R s ⟨rfl,hR⟩;have hsub:=sub_zip;have iter:=hx A.in1;obtain⟨hp,g,d,tk,os⟩:=s
  wp_walk using oZ iter
  rintro _ z1 ⟨it,rfl,h1⟩;have iter2:=hy it z1 h1 A.in1;obtain⟨hp1,gg1,dd1,tk1,os1⟩:=z1
  wp_walk using oZ iter2
  rintro _ z2 ⟨jt,rfl,h2⟩;have fin:=hR it jt z2 h2;obtain⟨hp2,gg2,dd2,tk2,os2⟩:=z2
  wp_walk
  exact fin
 refine callType_newIn F.called_zip (by decide) (F.typeCall_zip_2 _ _) (F.newCall_zip_2 _ _) (fun obj=>F.args_object_init_3 obj _ _) F.entry_zip_new body ⟨rfl,fun it jt z2 h=>?_⟩;exact⟨⟨_,Heap.get?_push_size _ rfl,rfl⟩,k it jt z2 h⟩
structure ip(z TI TO i1 i2:Addr)(fp1 fp2:List Addr):Prop where
 zTI:TI≠z
 zTO:TO≠z
 TT:TI≠TO
 i1z:i1≠z
 i2z:i2≠z
 Ge:i1≠TO
 Gb:i2≠TO
 i12:i1≠i2
 z1:z∉fp1
 z2:z∉fp2
 TO1:TO∉fp1
 TO2:TO∉fp2
 i1f:i1∉fp2
 i2f:i2∉fp1
def xT{z TI TO i1 i2:Addr}{fp1 fp2:List Addr}{n1 n2 k:Nat}{P1 P2:Nat->Value->Prop}{S1 S2:Nat->Heap->Prop}{a b:Value}{s:Shared}{Q:Value->Shared->Prop}(Z:ip z TI TO i1 i2 fp1 fp2)
 (D1:Draws prog w A i1 fp1 n1 P1 S1)(D2:Draws prog w A i2 fp2 n2 P2 S2)(hz:IsZip s.heap z TI TO .none)(hTI:IsPair s.heap TI (.ref i1) (.ref i2))(hTO:IsPair s.heap TO a b)(s1:S1 k s.heap)(s2:S2 k s.heap)(k1:k<n1)(k2:k<n2)
 (hQ:∀ x y g tk,P1 k x->P2 k y->IsZip g z TI TO (rawInt s.heap.objs.size)->IsPair g TO x y->S1 (k+1) g->S2 (k+1) g->IsPair g s.heap.objs.size x y->g.objs.size=s.heap.objs.size+1->(∀ c o,c≠z->c≠TO->c≠i1->c≠i2->s.heap.get? c=some o->g.get? c=some o)->Q (.ref s.heap.objs.size) { s with heap:=g,toks:=tk }) :
  wpAny (model prog w) A (Builtin.«zip.__next__» ⟨[.ref z],[]⟩) (fun fin s'=>∃ v,fin=.done (.ret v)/\Q v s') E s:=by
 obtain⟨hp,g,d,tk,os⟩:=s;have off:∀ (f:Obj->Obj) b o,b≠z->hp.get? b=some o->(hp.update z f).get? b=some o:=fun f b o hb e=>(Heap.SameBut.update ..).extBut b o hb e;have st1:∀ f:Obj->Obj,S1 k (hp.update z f):=fun f=>D1.frame k _ _ s1 fun b hb o e=>off f b o (fun q=>Z.z1 (q▸hb)) e;have st2:∀ f:Obj->Obj,S2 k (hp.update z f):=fun f=>D2.frame k _ _ s2 fun b hb o e=>off f b o (fun q=>Z.z2 (q▸hb)) e;unfold Builtin.«zip.__next__»
 wp_walk using AutoSeq1.wpAny_loadPart' hz,AutoSeq1.wpAny_loadPart' hTI,wpAny_onRaise,(D1.item k _ _ _ k1 (st1 _))
 intro x h1 t1 px st1' sb1;have q1:IsPair h1 TO a b:=sb1.extBut _ _ (Ne.symm Z.Ge) (off _ TO _ Z.zTO hTO);have z1:IsZip h1 z TI TO .ellipsis:=sb1.extBut _ _ (Ne.symm Z.i1z) (Heap.get?_update_self _ hz rfl);have u1:=sb1.1;have c1:∀ c o,c≠z->c≠i1->hp.get? c=some o->h1.get? c=some o:=fun c o n1 n2 e=>sb1.extBut _ _ n2 (off _ c o n1 e);clear sb1 st1 st2
 wp_walk using AutoSeq1.wpAny_loadPart' q1,(wpAny_updateSeq_pair q1)
 intro h2 q2 sb2
 replace q2:IsPair h2 TO x b:=q2
 have z2:IsZip h2 z TI TO .ellipsis:=sb2.extBut _ _ (Ne.symm Z.zTO) z1;have c2:∀ c o,c≠z->c≠TO->c≠i1->hp.get? c=some o->h2.get? c=some o:=fun c o n1 n2 n3 e=>sb2.extBut _ _ n2 (c1 c o n1 n3 e);have e1:S1 (k+1) h2:=D1.frame _ _ _ st1' fun b hb o e=>sb2.extBut _ _ (fun q=>Z.TO1 (q▸hb)) e;have e2:S2 k h2:=D2.frame _ _ _ s2 fun b hb o e=>c2 b o (fun q=>Z.z2 (q▸hb)) (fun q=>Z.TO2 (q▸hb)) (fun q=>Z.i1f (q▸hb)) e;have u2:=sb2.1.trans u1;clear sb2 u1 c1 z1 q1
 wp_walk using wpAny_onRaise,(D2.item k _ _ _ k2 e2)
 intro y h3 t3 py f2 sb3;have q3:IsPair h3 TO x b:=sb3.extBut _ _ (Ne.symm Z.Gb) q2;have z3:IsZip h3 z TI TO .ellipsis:=sb3.extBut _ _ (Ne.symm Z.i2z) z2;have f1:S1 (k+1) h3:=D1.frame _ _ _ e1 fun b hb o e=>sb3.extBut _ _ (fun q=>Z.i2f (q▸hb)) e;have c3:∀ c o,c≠z->c≠TO->c≠i1->c≠i2->hp.get? c=some o->h3.get? c=some o:=fun c o n1 n2 n3 n4 e=>sb3.extBut _ _ n4 (c2 c o n1 n2 n3 e);have u3:=sb3.1.trans u2;clear sb3 u2 c2 z2 q2 e1 e2
 wp_walk using AutoSeq1.wpAny_loadPart' q3,(wpAny_updateSeq_pair q3)
 intro h4 q4 sb4
 replace q4:IsPair h4 TO x y:=q4
 have z4:IsZip h4 z TI TO .ellipsis:=sb4.extBut _ _ (Ne.symm Z.zTO) z3;have g1:S1 (k+1) h4:=D1.frame _ _ _ f1 fun b hb o e=>sb4.extBut _ _ (fun q=>Z.TO1 (q▸hb)) e;have g2:S2 (k+1) h4:=D2.frame _ _ _ f2 fun b hb o e=>sb4.extBut _ _ (fun q=>Z.TO2 (q▸hb)) e;have c4:∀ c o,c≠z->c≠TO->c≠i1->c≠i2->hp.get? c=some o->h4.get? c=some o:=fun c o n1 n2 n3 n4 e=>sb4.extBut _ _ n2 (c3 c o n1 n2 n3 n4 e);have u4:=sb4.1.trans u3;clear sb4 u3 c3 z3 q3 f1 f2
 wp_walk using AutoSeq1.wpAny_loadPart' q4
 have u0:h4.objs.size=hp.objs.size:=u4.trans (Heap.SameBut.update ..).1;refine⟨_,rfl,?_⟩;show Q (.ref h4.objs.size) _;have zp:IsZip (h4.push { cls:=.type "tuple",data:=.seq #[x,y].toList.toArray }) z TI TO .ellipsis:=Heap.get?_push_of_some _ z4;have zlt:z<h4.objs.size:=Heap.lt_size z4
 have up:∀ (f f':Obj->Obj) c o,c≠z->(h4.push { cls:=.type "tuple",data:=.seq #[x,y].toList.toArray }).get? c=some o->(((h4.push { cls:=.type "tuple",data:=.seq #[x,y].toList.toArray }).update z f).update z f').get? c=some o:=fun f f' c o hc e =>
  (Heap.SameBut.update ..).extBut c o hc ((Heap.SameBut.update ..).extBut c o hc e)
 have goal:=hQ x y (((h4.push { cls:=.type "tuple",data:=.seq #[x,y].toList.toArray }).update z (Obj.mapFields (·.setIfInBounds 0 (rawInt h4.objs.size)))).update z (Obj.mapFields (·.setIfInBounds 1 (.bool false)))) t3 px py ?_ ?_ ?_ ?_ ?_ ?_ ?_
 ·rw[u0]at goal ⊢;exact goal
 ·rw[<-u0];exact Heap.get?_update_self _ (Heap.get?_update_self _ zp rfl) rfl
 ·exact up _ _ _ _ Z.zTO (Heap.get?_push_of_some _ q4)
 ·exact D1.frame _ _ _ g1 fun b hb o e=>up _ _ _ _ (fun q=>Z.z1 (q▸hb)) (Heap.get?_push_of_some _ e)
 ·exact D2.frame _ _ _ g2 fun b hb o e=>up _ _ _ _ (fun q=>Z.z2 (q▸hb)) (Heap.get?_push_of_some _ e)
 ·show IsPair _ hp.objs.size x y;rw[<-u0];exact up _ _ _ _ (Nat.ne_of_gt zlt) (Heap.get?_push_size _ rfl)
 ·refine((Heap.SameBut.update ..).1.trans ((Heap.SameBut.update ..).1.trans ((Heap.size_push ..).trans ?_)));show h4.objs.size+1=hp.objs.size+1;rw[u0]
 ·exact fun c o n1 n2 n3 n4 e=>up _ _ _ _ n1 (Heap.get?_push_of_some _ (c4 c o n1 n2 n3 n4 e))
def Aw{z TI TO i1 i2:Addr}{fp1 fp2:List Addr}{n1:Nat}{P1:Nat->Value->Prop}{S1:Nat->Heap->Prop}{a b:Value}{s:Shared}{Q:Fin->Shared->Prop}(Z:ip z TI TO i1 i2 fp1 fp2)
 (D1:Draws prog w A i1 fp1 n1 P1 S1)(hz:IsZip s.heap z TI TO .none)(hTI:IsPair s.heap TI (.ref i1) (.ref i2))(hTO:IsPair s.heap TO a b)(s1:S1 n1 s.heap)
 (hE:∀ g e,(∀ c o,c≠z->c≠i1->s.heap.get? c=some o->g.get? c=some o)->(∃ o,g.get? e=some o/\o.cls=.type "StopIteration")->E (.ref e) { s with heap:=g }) :
  wpAny (model prog w) A (Builtin.«zip.__next__» ⟨[.ref z],[]⟩) Q E s:=by
 obtain⟨hp,g,d,tk,os⟩:=s;have off:∀ (f:Obj->Obj) b o,b≠z->hp.get? b=some o->(hp.update z f).get? b=some o:=fun f b o hb e=>(Heap.SameBut.update ..).extBut b o hb e;have st1:∀ f:Obj->Obj,S1 n1 (hp.update z f):=fun f=>D1.frame n1 _ _ s1 fun b hb o e=>off f b o (fun q=>Z.z1 (q▸hb)) e;unfold Builtin.«zip.__next__»
 wp_walk using AutoSeq1.wpAny_loadPart' hz,AutoSeq1.wpAny_loadPart' hTI,wpAny_onRaise,(D1.done _ _ _ (st1 _))
 rintro h1 e eb ⟨oe,he,hce⟩;have z1:IsZip h1 z TI TO .ellipsis:=eb _ _ (Ne.symm Z.i1z) (Heap.get?_update_self _ hz rfl)
 have ez:e≠z:=fun q=>by
  rw[q,z1]at he;have:=Option.some.inj he;rw[<-this]at hce;simp at hce
 refine wpAny_setField_rec z1 (by simp) fun h2 _ sb2=>?_;exact hE h2 e (fun c o n1 n2 q=>sb2.extBut _ _ n1 (eb _ _ n2 (off _ _ _ n1 q))) ⟨oe,sb2.extBut _ _ ez he,hce⟩
end
section
variable{prog:Program}{w:World}{A:Around}{E:Value->Shared->Prop}{z TI TO i1 i2:Addr}{fp1 fp2:List Addr}{n1 n2 k:Nat}{P1 P2:Nat->Value->Prop}{S1 S2:Nat->Heap->Prop}{a b:Value}{s:Shared}
def zo{Q:Option Value->Shared->Prop}(Z:ip z TI TO i1 i2 fp1 fp2)(D1:Draws prog w A.in1 i1 fp1 n1 P1 S1)(D2:Draws prog w A.in1 i2 fp2 n2 P2 S2)(hz:IsZip s.heap z TI TO .none)(hTI:IsPair s.heap TI (.ref i1) (.ref i2))(hTO:IsPair s.heap TO a b)(s1:S1 k s.heap)(s2:S2 k s.heap)(k1:k<n1)(k2:k<n2)
 (hQ:∀ x y g tk,P1 k x->P2 k y->IsZip g z TI TO (rawInt s.heap.objs.size)->IsPair g TO x y->S1 (k+1) g->S2 (k+1) g->IsPair g s.heap.objs.size x y->g.objs.size=s.heap.objs.size+1->(∀ c o,c≠z->c≠TO->c≠i1->c≠i2->s.heap.get? c=some o->g.get? c=some o)->Q (some (.ref s.heap.objs.size)) { s with heap:=g,toks:=tk }) :
  wpAny (model prog w) A (pyNext (.ref z)) Q E s:=by
 have hT:s.TypeIs (.ref z) "zip" := ⟨_,hz,rfl⟩
 unfold pyNext;apply wpAny_bind;apply wpAny_attempt;apply wpAny_callSpecial?_slot (name:=Str.ofString "__next__") hT F.slot_zip_next;refine wpAny_call_entry F.slot_zip_next hT F.entry_zip_next ?_ (F.args_zip_next_1 _);refine xT Z D1 D2 hz hTI hTO s1 s2 k1 k2 fun x y g tk px py q1 q2 q3 q4 q5 q6 q7=>?_;apply wpAny_pure;exact hQ x y g tk px py q1 q2 q3 q4 q5 q6 q7
def yZ{Q:Option Value->Shared->Prop}(Z:ip z TI TO i1 i2 fp1 fp2)(D1:Draws prog w A.in1 i1 fp1 n1 P1 S1)(hz:IsZip s.heap z TI TO .none)(hTI:IsPair s.heap TI (.ref i1) (.ref i2))(hTO:IsPair s.heap TO a b)(s1:S1 n1 s.heap)
 (hQ:∀ g,(∀ c o,c≠z->c≠i1->s.heap.get? c=some o->g.get? c=some o)->Q none { s with heap:=g }):wpAny (model prog w) A (pyNext (.ref z)) Q E s:=by
 have hT:s.TypeIs (.ref z) "zip" := ⟨_,hz,rfl⟩
 unfold pyNext;apply wpAny_bind;apply wpAny_attempt;apply wpAny_callSpecial?_slot (name:=Str.ofString "__next__") hT F.slot_zip_next;refine wpAny_call_entry F.slot_zip_next hT F.entry_zip_next ?_ (F.args_zip_next_1 _);refine Aw Z D1 hz hTI hTO s1 fun g e hk ⟨o,he,hc⟩=>?_;apply wpAny_bind;refine wpAny_isInstance (T := "StopIteration") (b:=true) ⟨_,he,hc⟩ isSubtype_stop ?_;apply wpAny_pure;exact hQ g hk
end
section
variable{s:Shared}
def eA.wq(hd:eA A s.heap):A.handled≠some (.ref s.heap.objs.size):=fun q=>by
 rcases hd with z | ⟨x,o,ws,h1,h2,_,_⟩
 ·rw[z]at q;cases q
 ·rw[h1]at q;cases q;exact Nat.lt_irrefl _ (Heap.lt_size h2)
def tM(hd:eA A s.heap)(ni:A.handled≠some (.ref it))(hit:IsTupIter s.heap it t i)(ht:IsTup s.heap t its)(hx:its[i]?=none)
 (k:∀ h',Heap.ExtBut it s.heap h'->Q none { s with heap:=h' }):wpAny (model prog w) A (pyNext (.ref it)) Q E s:=by
 obtain⟨o,ho,hc,hdt⟩:=id hit;obtain⟨ol,hol,_,nl,hdl⟩:=ht;unfold pyNext;apply wpAny_bind;apply wpAny_attempt;apply wpAny_callSpecial?_slot (name:=Str.ofString "__next__") hit.typeIs slot_tupleiter_next;refine wpAny_call_entry slot_tupleiter_next hit.typeIs entry_tupleiter_next ?_ (args_tupleiter_next _);have n0:¬ ((Value.ref t == Value.none)=true):=Bool.false_ne_true;refine show wpAny _ _ (field (.ref it) 0 >>= _) _ _ s from wpAny_bind (wpAny_field ho hdt (x:=.ref t) rfl ?_);refine show wpAny _ _ (if(Value.ref t == Value.none)=true then _ else _) _ _ s from ?_;rw[if_neg n0];refine show wpAny _ _ (field (.ref it) 1 >>= _) _ _ s from wpAny_bind (wpAny_field ho hdt (x:=.int i 0) rfl ?_);refine show wpAny _ _ (seqItems? (.ref t) >>= _) _ _ s from wpAny_bind (wpAny_seqItems hol hdl ?_);simp only[Int.toNat_natCast,hx];refine wpAny_bind (wpAny_rule (wpAny_bind (wpAny_setField ho hdt (by simp) ?_)));refine show wpAny _ _ (newExc (.type "StopIteration") [] >>= _) _ _ _ from wpAny_bind ?_;have sb:=Heap.SameBut.update s.heap it (Obj.mapFields (·.setIfInBounds 0 Value.none));refine nq (hd.keeps fun b u vs e _ hb=>(sb.2 b fun z=>ni (z▸hb)).trans e) fun h' e kk he=>?_;apply wpAny_bind;refine wpAny_isInstance (T := "StopIteration") (b:=true) he isSubtype_stop ?_;exact wpAny_pure (k h' fun b u hb q=>kk b u ((sb.2 b hb).trans q))
def take_all{its:Array Value}:List.take its.size (List.drop 0 its.toList)=its.toList:=by
 rw[List.drop_zero,List.take_of_length_le (by simp)]
def uA{t:Addr}(hd:eA A s.heap)(ht:IsTup s.heap t its)(k:∀ h',Heap.ExtBut s.heap.objs.size s.heap h'->Q its.toList { s with heap:=h' }):wpAny (model prog w) A (unpackItems (.ref t) its.size none) Q E s:=by
 have hlt:t≠s.heap.objs.size:=Nat.ne_of_lt ht.lt;have nn:=hd.wq;unfold unpackItems;apply wpAny_bind;unfold notIterableAtAll;apply wpAny_bind;refine wpAny_specialOf ht.typeIs slot_tuple_iter.lookup (wpAny_pure ?_);simp only[Bool.false_eq_true,if_false];apply wpAny_bind;refine wpAny_holding (iter_tuple ht ?_);apply wpAny_bind;refine wpAny_holding (draw_tuple hlt its.size 0 _ _ ⟨_,Heap.get?_push_size _ rfl,rfl,rfl⟩ (ht.push _) (by omega) fun g hit sb=>?_);rw[take_all,if_neg (by simp)];apply wpAny_bind;refine wpAny_holding (tM (hd.keeps fun b o vs e _ hb=>(sb.2 b fun z=>nn (z▸hb)).trans (Heap.get?_push_of_some _ e)) nn hit ((ht.push _).extBut sb.extBut hlt) (by simp) fun g2 eb=>?_);simp only[Option.isSome_none,Bool.false_eq_true,if_false];exact wpAny_pure (k g2 fun b o hb e=>eb b o hb (sb.extBut b o hb (Heap.get?_push_of_some _ e)))
def tU{l:Addr}(hd:eA A s.heap)(hl:s.heap.IsList l its)(k:∀ h',Heap.ExtBut s.heap.objs.size s.heap h'->Q its.toList { s with heap:=h' }):wpAny (model prog w) A (unpackItems (.ref l) its.size none) Q E s:=by
 have hlt:l≠s.heap.objs.size:=let ⟨o,ho,_⟩:=hl;Nat.ne_of_lt (Heap.lt_size ho);have nn:=hd.wq;unfold unpackItems;apply wpAny_bind;unfold notIterableAtAll;apply wpAny_bind;refine wpAny_specialOf hl.typeIs slot_list_iter.lookup (wpAny_pure ?_);simp only[Bool.false_eq_true,if_false];apply wpAny_bind;refine wpAny_holding (wpAny_pyIter_list hl ?_);apply wpAny_bind;refine wpAny_holding (PySem.W.kun_draw hlt its.size 0 _ _ ⟨_,Heap.get?_push_size _ rfl,rfl,rfl⟩ (hl.push _) (by omega) fun g hit sb=>?_);rw[take_all,if_neg (by simp)];apply wpAny_bind;refine wpAny_holding (rV (hd.keeps fun b o vs e _ hb=>(sb.2 b fun z=>nn (z▸hb)).trans (Heap.get?_push_of_some _ e)) nn hit ((hl.push _).extBut sb.extBut hlt) (by simp) fun g2 eb=>?_);simp only[Option.isSome_none,Bool.false_eq_true,if_false];exact wpAny_pure (k g2 fun b o hb e=>eb b o hb (sb.extBut b o hb (Heap.get?_push_of_some _ e)))
def ze(hh:A.handled=some (.ref x))(hd:ox.data=.fields xs)(h2:xs[2]?=some .none)(nx:x≠it)(hne:l≠it)(its:Array Value) :
  Draws prog w A it [it,l,x] its.size (fun i v=>its[i]?=some v) (fun i h=>(h.IsListIter it l i/\h.IsList l its)/\h.get? x=some ox) where
 live:=fun _ _ st=>let ⟨o,ho,_⟩:=st.1.1;⟨o,ho⟩
 frame:=fun _ _ _ st hk=>⟨⟨st.1.1.at fun o e=>hk it (by simp) o e,st.1.2.at fun o e=>hk l (by simp) o e⟩,hk x (by simp) _ st.2⟩
 item:=fun i s Q E hi st hQ=>wpAny_nextOf_list_item st.1.1 st.1.2 (x:=its[i]) (by simp[hi]) fun h' hit' hs'=>hQ _ h' s.toks (by simp[hi]) ⟨⟨hit',st.1.2.extBut hs'.extBut hne⟩,(hs'.2 x nx).trans st.2⟩ hs'
 done:=fun s Q E st hE=>oO (.inr ⟨x,ox,xs,hh,st.2,hd,h2⟩) (fun q=>by rw[hh]at q;cases q;exact nx rfl) st.1.1 st.1.2 (by simp) hE
def wX(hh:A.handled=some (.ref x))(hd:ox.data=.fields xs)(h2:xs[2]?=some .none)(nx:x≠it)(hne:l≠it)(its:Array Value) :
  Draws prog w A it [it,l,x] its.size (fun i v=>its[i]?=some v) (fun i h=>(h.IsTupleIter it l i/\h.IsTuple l its)/\h.get? x=some ox) where
 live:=fun _ _ st=>let ⟨o,ho,_⟩:=st.1.1;⟨o,ho⟩
 frame:=fun _ _ _ st hk=>by
  obtain⟨⟨⟨o1,e1,r1⟩,⟨o2,e2,r2⟩⟩,e3⟩:=st;exact⟨⟨⟨o1,hk it (by simp) _ e1,r1⟩,⟨o2,hk l (by simp) _ e2,r2⟩⟩,hk x (by simp) _ e3⟩
 item:=fun i s Q E hi st k=>rK st.1.1 st.1.2 (x:=its[i]) (by simp[hi]) fun g g1 g2=>k its[i] g s.toks (by simp[hi]) ⟨⟨g1,st.1.2.extBut g2.extBut hne⟩,(g2.2 x nx).trans st.2⟩ g2
 done:=fun s Q E st hE=>sr (.inr ⟨x,ox,xs,hh,st.2,hd,h2⟩) (fun q=>by rw[hh]at q;cases q;exact nx rfl) st.1.1 st.1.2 (by simp) hE
end
section
def Inv.hd(I:Inv X pins σ H s):eA X.A s.heap:=by
 rcases I.ok.hd.2 with z | ⟨h,o,u,vs,h1,h2,h3,h4⟩
 ·exact .inl z
 ·exact .inr ⟨h,o,vs,h1,(I.hok _ _ (I.base.cR _ _ _ h2)).1,h3,h4⟩
end
abbrev dX(t:Bool)(xs:List V):HO:=if t then .tup xs else .lst xs
abbrev ij(t:Bool)(it l:Addr)(i:Nat)(h:Heap):Prop:=if t then h.IsTupleIter it l i else h.IsListIter it l i
def ij.obj(st:ij t it l i h):∃ o,h.get? it=some o/\∀ v,o.data≠.cell v:=by
 cases t with
 | true=>exact let ⟨o,ho,_,hd⟩:=(show h.IsTupleIter it l i from st);⟨o,ho,fun v q=>by rw[hd]at q;cases q⟩
 | false=>exact let ⟨o,ho,_,hd⟩:=(show h.IsListIter it l i from st);⟨o,ho,fun v q=>by rw[hd]at q;cases q⟩
def ij.keep(st:ij t it l i h)(k:∀ o,h.get? it=some o->h'.get? it=some o):ij t it l i h':=by
 cases t with
 | true=>exact let ⟨o,ho,r⟩:=(show h.IsTupleIter it l i from st);⟨o,k o ho,r⟩
 | false=>exact(show h.IsListIter it l i from st).at fun o q=>k o q
def gS(I:Inv X pins σ H s)(hi:H it=none)(hx:H l=some (dX t xs)) :
  ∃ (fp:List Addr) (Pv:Nat->Value->Prop) (St:Nat->Heap->Prop),Draws X.prog X.w X.A.in1 it fp xs.length Pv St/\(∀ b∈fp,b=it\/H b≠none)/\(∀ i,ij t it l i s.heap->St i s.heap)/\(∀ i h,St i h->ij t it l i h)/\∀ i v,Pv i v->∃ x,xs[i]?=some x/\RelV x v:=by
 have back:∀ {its:List Value},Vals xs its->∀ (i:Nat) (v:Value),its.toArray[i]?=some v->∃ x,xs[i]?=some x/\RelV x v:=fun {its} rv i v hv=>by
  have hv:its[i]?=some v:=by simpa using hv
  have hlt:i<xs.length:=by rw[rv.length];exact(List.getElem?_eq_some_iff.mp hv).1
  obtain⟨u,h1,h2⟩:=rv.get (i:=i) (x:=xs[i]) (by simp[hlt]);rw[hv]at h1;cases h1;exact⟨xs[i],by simp[hlt],h2⟩
 have two:∀ {u:HO},H l=some u->∀ b∈[it,l],b=it\/H b≠none:=fun {u} e b hb=>by
  rcases List.mem_cons.mp hb with z | z
  ·exact .inl z
  ·rw[List.mem_singleton.mp z,e]
   exact .inr fun z=>nomatch z
 rcases I.ok.hd.2 with hh | ⟨x,ox,ux,ws,hh,g1,g2,g3⟩
 ·cases t with
  |true=>
   have hx:H l=some (.tup xs):=hx;obtain⟨its,rv,p,hz⟩:=I.tuple (SqT.of hx);have D:=qV.draws (prog:=X.prog) (w:=X.w) (A:=X.A.in1) hh it l (aM hx hi) its.toArray;rw[show its.toArray.size=xs.length by rw[List.size_toArray,rv.length]]at D;exact⟨_,_,_,D,two hx,fun i st=>⟨st,p⟩,fun i h st=>st.1,back rv⟩
  |false=>
   have hx:H l=some (.lst xs):=hx;obtain⟨its,rv,p,hz⟩:=I.list (SqL.of hx);have D:=Draws.list (prog:=X.prog) (w:=X.w) (A:=X.A.in1) hh it l (aM hx hi) its.toArray;rw[show its.toArray.size=xs.length by rw[List.size_toArray,rv.length]]at D;exact⟨_,_,_,D,two hx,fun i st=>⟨st,p.isList⟩,fun i h st=>st.1,back rv⟩
 ·have hxx:=I.base.cR _ _ _ g1;have hxo:s.heap.get? x=some ox:=(I.hok _ _ hxx).1;have nx:x≠it:=aM hxx hi
  have three:∀ {u:HO},H l=some u->∀ b∈[it,l,x],b=it\/H b≠none:=fun {u} e b hb=>by
   simp only[List.mem_cons,List.mem_nil_iff,or_false]at hb;rcases hb with z | z | z
   ·exact .inl z
   ·rw[z,e]
    exact .inr fun z=>nomatch z
   ·rw[z,hxx]
    exact .inr fun z=>nomatch z
  cases t with
  |true=>
   have hx:H l=some (.tup xs):=hx;obtain⟨its,rv,p,hz⟩:=I.tuple (SqT.of hx);have D:=wX (prog:=X.prog) (w:=X.w) (A:=X.A.in1) hh g2 g3 nx (aM hx hi) its.toArray;rw[show its.toArray.size=xs.length by rw[List.size_toArray,rv.length]]at D;exact⟨_,_,_,D,three hx,fun i st=>⟨⟨st,p⟩,hxo⟩,fun i h st=>st.1.1,back rv⟩
  |false=>
   have hx:H l=some (.lst xs):=hx;obtain⟨its,rv,p,hz⟩:=I.list (SqL.of hx);have D:=ze (prog:=X.prog) (w:=X.w) (A:=X.A.in1) hh g2 g3 nx (aM hx hi) its.toArray;rw[show its.toArray.size=xs.length by rw[List.size_toArray,rv.length]]at D;exact⟨_,_,_,D,three hx,fun i st=>⟨⟨st,p.isList⟩,hxo⟩,fun i h st=>st.1.1,back rv⟩
abbrev Itz(t1 t2:Bool)(l1 l2:Addr):It :=
 ⟨fun i H=>∃ xs ys x y,H l1=some (dX t1 xs)/\H l2=some (dX t2 ys)/\xs[i]?=some x/\ys[i]?=some y,
   fun i H v H'=>∃ p x y,H p=none/\v=.ref p/\H'=upd H p (.tup [x,y])/\(∀ xs,H l1=some (dX t1 xs)->xs[i]?=some x)/\∀ ys,H l2=some (dX t2 ys)->ys[i]?=some y,
   fun i H=>∃ xs ys,H l1=some (dX t1 xs)/\H l2=some (dX t2 ys)/\xs.length=i/\ys.length=i⟩
def pO(h:dX t xs=dX t ys):xs=ys:=by
 cases t<;>(injection h)
def xP{P:Program}{w:World}{K:PySem.W.Frag}{elts:List Expr}{kx:Nat}{tp:Pos}{t1 t2:Bool}{z TI TO i1 i2 l1 l2:Addr}(n1:TI≠z)(n2:TO≠z)(n3:TI≠TO)(n4:i1≠z)(n5:i2≠z)(n6:i1≠TO)(n7:i2≠TO)(n8:i1≠i2)(n9:i1≠TI)(n10:i2≠TI) :
  m7 (fun _=>True) P w K (.Tuple elts kx tp) (Itz t1 t2 l1 l2) [z,TI,TO,i1,i2] z (fun i h=>IsZip h z TI TO .none/\IsPair h TI (.ref i1) (.ref i2)/\(∃ a b,IsPair h TO a b)/\ij t1 i1 l1 i h/\ij t2 i2 l2 i h) where
 mem:=by simp
 obj:=fun i h st b hb=>by
  obtain⟨h1,h2,⟨a,c,h3⟩,h4,h5⟩:=st;simp only[List.mem_cons,List.mem_nil_iff,or_false]at hb;rcases hb with rfl | rfl | rfl | rfl | rfl
  ·exact⟨_,h1,fun v q=>by cases q⟩
  ·exact⟨_,h2,fun v q=>by cases q⟩
  ·exact⟨_,h3,fun v q=>by cases q⟩
  ·exact h4.obj
  ·exact h5.obj
 keep:=fun i h h' st k=>by
  obtain⟨h1,h2,⟨a,c,h3⟩,h4,h5⟩:=st;exact⟨k z (by simp) _ h1,k TI (by simp) _ h2,⟨a,c,k TO (by simp) _ h3⟩,h4.keep fun o q=>k i1 (by simp) o q,h5.keep fun o q=>k i2 (by simp) o q⟩
 item:=by
  intro X hP hw hK hc i pins s σ H E I hf st hg;subst hP hw hK;obtain⟨h1,h2,⟨a,c,h3⟩,h4,h5⟩:=st;obtain⟨xs,ys,x,y,hx,hy,ex,ey⟩:=hg;have f:∀ b∈[z,TI,TO,i1,i2],H b=none:=fun b hb=>(hf b hb).1;obtain⟨fp1,Pv1,St1,D1,m1,a1,a2,a3⟩:=gS I (f i1 (by simp)) hx;obtain⟨fp2,Pv2,St2,D2,m2,b1,b2,b3⟩:=gS I (f i2 (by simp)) hy;have no:∀ {fp:List Addr} {i b:Addr},(∀ b∈fp,b=i\/H b≠none)->b∈[z,TI,TO,i1,i2]->b≠i->b∉fp:=fun m hb n z=>(m _ z).elim n fun q=>q (f _ hb)
  have Z:ip z TI TO i1 i2 fp1 fp2:=⟨n1,n2,n3,n4,n5,n6,n7,n8,no m1 (by simp) (Ne.symm n4),no m2 (by simp) (Ne.symm n5),no m1 (by simp) (Ne.symm n6),no m2 (by simp) (Ne.symm n7),no m2 (by simp) n8,no m1 (by simp) (Ne.symm n8)⟩
  refine zo Z D1 D2 h1 h2 h3 (a1 i h4) (b1 i h5) (List.getElem?_eq_some_iff.mp ex).1 (List.getElem?_eq_some_iff.mp ey).1 fun u v g tk pu pv g1 g2 g3 g4 g5 g6 g7=>?_;obtain⟨x',ex',rx⟩:=a3 i u pu;obtain⟨y',ey',ry⟩:=b3 i v pv;rw[ex]at ex';rw[ey]at ey';cases ex';cases ey';refine⟨.ref s.heap.objs.size,rfl,wpAny_letOwnedTupleGo_zip g1 fun g' gz' sb=>?_⟩;have hn:H s.heap.objs.size=none:=I.hok.fresh (Nat.le_refl _)
  have I1:Inv X pins σ (upd H s.heap.objs.size (.tup [x,y])) { s with heap:=s.heap.push { cls:=.type "tuple",data:=.seq #[u,v] },toks:=tk } :=
   I.laid (t':=tk) (fun b o q=>Heap.get?_push_of_some _ q) (Nat.le_refl _) ⟨by show 2<=sizeLine;decide,[u,v],.cons rx (.cons ry .nil),⟨_,Heap.get?_push_size _ rfl,rfl,_,rfl⟩⟩
  have lt:∀ b∈[z,TI,TO,i1,i2],b≠s.heap.objs.size:=fun b hb=>by
   have:∃ o,s.heap.get? b=some o:=by
    simp only[List.mem_cons,List.mem_nil_iff,or_false]at hb;rcases hb with rfl | rfl | rfl | rfl | rfl
    ·exact⟨_,h1⟩
    ·exact⟨_,h2⟩
    ·exact⟨_,h3⟩
    ·exact let ⟨o,q,_⟩:=h4.obj;⟨o,q⟩
    ·exact let ⟨o,q,_⟩:=h5.obj;⟨o,q⟩
   obtain⟨o,q⟩:=this;exact Nat.ne_of_lt (Heap.lt_size q)
  have stat:∀ b∈[z,TI,TO,i1,i2],upd H s.heap.objs.size (.tup [x,y]) b=none/\(b∈X.ex\/X.s₀.heap.objs.size<=b)/\b≠X.env.locals/\(∀ x c,X.env.cells.lookup x=some c->c≠b)/\∀ p∈X.pn++pins,p.1≠b:=fun b hb=>by
   obtain⟨f0,f1,f2,f3,f4,f5⟩:=hf b hb;exact⟨by rw[aI (lt b hb)];exact f0,f3,f1,f4,f5⟩
  have I2:Inv X pins σ (upd H s.heap.objs.size (.tup [x,y])) { s with heap:=g',toks:=tk }:=by
   refine Inv.mL (s:={ s with heap:=s.heap.push { cls:=.type "tuple",data:=.seq #[u,v] },toks:=tk }) (h':=g') (t':=tk) (fp:=[z,TI,TO,i1,i2]) I1 (fun b o hb q=>?_) stat;simp only[List.mem_cons,List.mem_nil_iff,or_false,not_or]at hb;refine sb.extBut b o hb.1 ?_;by_cases hbT:b=s.heap.objs.size
   ·subst hbT;have q':(s.heap.push { cls:=.type "tuple",data:=.seq #[u,v] }).get? s.heap.objs.size=some o:=q;rw[Heap.get?_push_size _ rfl]at q';cases q';exact g5
   ·exact g7 b o hb.1 hb.2.2.1 hb.2.2.2.1 hb.2.2.2.2 ((Heap.get?_push_ne _ _ _ hbT).symm.trans q)
  have kp:∀ b∈[TI,TO,i1,i2],∀ o,g.get? b=some o->g'.get? b=some o:=fun b hb o q=>sb.extBut b o (fun e=>by
   subst e;simp only[List.mem_cons,List.mem_nil_iff,or_false]at hb;rcases hb with e | e | e | e
   ·exact n1 e.symm
   ·exact n2 e.symm
   ·exact n4 e.symm
   ·exact n5 e.symm) q
  refine⟨.ref s.heap.objs.size,_,I2,rfl,⟨s.heap.objs.size,x,y,hn,rfl,rfl,fun xs' hx'=>?_,fun ys' hy'=>?_⟩,⟨gz',kp TI (by simp) _ (g7 TI _ n1 n3 (Ne.symm n9) (Ne.symm n10) h2),⟨u,v,kp TO (by simp) _ g2⟩,(a2 _ _ g3).keep fun o q=>kp i1 (by simp) o q,(b2 _ _ g4).keep fun o q=>kp i2 (by simp) o q⟩,fun b hb=>(stat b hb).1⟩
  ·rw[hx]at hx';rw[<-pO (Option.some.inj hx')];exact ex
  ·rw[hy]at hy';rw[<-pO (Option.some.inj hy')];exact ey
 done:=by
  intro X hP hw hK hc i pins s σ H E I hf st hg;subst hP hw hK;obtain⟨h1,h2,⟨a,c,h3⟩,h4,h5⟩:=st;obtain⟨xs,ys,hx,hy,ex,ey⟩:=hg;have f:∀ b∈[z,TI,TO,i1,i2],H b=none:=fun b hb=>(hf b hb).1;obtain⟨fp1,Pv1,St1,D1,m1,a1,a2,a3⟩:=gS I (f i1 (by simp)) hx;obtain⟨fp2,_,_,_,m2,_⟩:=gS I (f i2 (by simp)) hy;have no:∀ {fp:List Addr} {i b:Addr},(∀ b∈fp,b=i\/H b≠none)->b∈[z,TI,TO,i1,i2]->b≠i->b∉fp:=fun m hb n z=>(m _ z).elim n fun q=>q (f _ hb)
  have Z:ip z TI TO i1 i2 fp1 fp2:=⟨n1,n2,n3,n4,n5,n6,n7,n8,no m1 (by simp) (Ne.symm n4),no m2 (by simp) (Ne.symm n5),no m1 (by simp) (Ne.symm n6),no m2 (by simp) (Ne.symm n7),no m2 (by simp) n8,no m1 (by simp) (Ne.symm n8)⟩
  subst ex
  refine yZ Z D1 h1 h2 h3 (a1 _ h4) fun g hk=>⟨rfl,?_⟩
  refine Inv.mL (h':=g) (t':=s.toks) (fp:=[z,i1]) I (fun b o hb q=>?_) fun b hb=>?_
  ·simp only[List.mem_cons,List.mem_nil_iff,or_false,not_or]at hb;exact hk b o hb.1 hb.2 q
  ·have hb':b∈[z,TI,TO,i1,i2]:=by
    simp only[List.mem_cons,List.mem_nil_iff,or_false]at hb ⊢;rcases hb with q | q
    ·exact .inl q
    ·exact .inr (.inr (.inr (.inl q)))
   obtain⟨f0,f1,f2,f3,f4,f5⟩:=hf b hb';exact⟨f0,f3,f1,f4,f5⟩
 self:=fun A i s Q E st h=>wpAny_pyIter_zip st.1 h
def m7.calm{P:Program}{w:World}{K:PySem.W.Frag}(T:m7 (fun _=>True) P w K tg J fp it tn):Turn P w K tg J fp it tn where
 mem:=T.mem
 obj:=T.obj
 keep:=T.keep
 item:=fun X a b c hc i pins s σ H E I=>T.item X a b c trivial i pins s σ H E I
 done:=fun X a b c hc i pins s σ H E I=>T.done X a b c trivial i pins s σ H E I
 self:=T.self
def PI'.calm(h:PI' (fun _=>True) X tg iter wi):PI X tg iter wi:=fun pins s σ H R I q =>
 thn (h pins s σ H R I q) fun v s1 h1=>thn h1 fun itv s2 ⟨it,fp,tn,J,H',e,I',T,r⟩=>⟨it,fp,tn,J,H',e,I',T.calm,r⟩
abbrev cV(t:Bool)(l:Addr):Obj:=if t then { cls:=.type "tuple_iterator",data:=.fields #[.ref l,rawInt 0] } else { cls:=.type "list_iterator",data:=.fields #[.ref l,.int 0 0] }
def qu(e:h.get? it=some (cV t l)):ij t it l 0 h:=by
 cases t with
 | true=>exact⟨_,e,rfl,rfl⟩
 | false=>exact⟨_,e,rfl,rfl⟩
def qp(I:Inv X pins σ H s)(hx:H l=some (dX t xs))(q:Q (.ref s.heap.objs.size) { s with heap:=s.heap.push (cV t l) }):wpAny (model X.prog X.w) A (pyIter (.ref l)) Q E s:=by
 cases t with
 |true=>
  obtain⟨its,rv,p,hz⟩:=I.tuple (SqT.of (show H l=some (.tup xs)from hx));exact wpAny_pyIter_tuple p q
 |false=>
  obtain⟨its,rv,p,hz⟩:=I.list (SqL.of (show H l=some (.lst xs)from hx));exact wpAny_pyIter_list p.isList q
section
abbrev Gd(ta:TA):TI:=fun σ H R=>ta σ H fun vs H1=>∃ t1 t2 l1 l2 xs ys,vs=[.ref l1,.ref l2]/\H1 l1=some (dX t1 xs)/\H1 l2=some (dX t2 ys)/\R (Itz t1 t2 l1 l2) H1
def far(n a b:Nat)(h:a≠b):n+a≠n+b:=fun q=>h (Nat.add_left_cancel q)
def vR:bootBuiltins "zip" = some (.type "zip"):=by decide +kernel
def Cp(hg:Gl X "zip")(hm:X.mg "zip" = none)(ha:PA X [a,b] ta)(hs:starEach [a,b] X.env=[(false,eval a X.env),(false,eval b X.env)])(hs2:starEach [b] X.env=[(false,eval b X.env)]):PI' (fun _=>True) X (.Tuple elts kx tp) (.Call (.Name "zip" p) [a,b] [] pos) (Gd ta):=by
 intro pins s0 σ H0 R I0 h;refine Call_ (gx I0 hg hm vR (PyProof.Rows.callWith_type1 (thn (ha pos pins s0 σ H0 _ I0 h) fun us s ⟨vs,H,I,r1,q1⟩=>?_) (by rw[hs,hs2]) (by rw[hs2];rfl)));obtain⟨t1,t2,l1,l2,xs,ys,rfl,hx,hy,q⟩:=q1
 cases r1 with
 |cons r rr=>
  cases rr with
  |cons r2 rr=>
   cases rr;cases r;cases r2;have I1:Inv X pins σ H { s with heap:=s.heap.push (cV t1 l1) }:=I.kept (t':=s.toks) fun b o e=>Heap.get?_push_of_some _ e
   refine BC (S1:=fun it z1=>it=s.heap.objs.size/\z1={ s with heap:=s.heap.push (cV t1 l1) }) (S2:=fun it jt z2=>it=s.heap.objs.size/\jt=(s.heap.push (cV t1 l1)).objs.size/\z2={ s with heap:=(s.heap.push (cV t1 l1)).push (cV t2 l2) })
    (fun A=>qp I hx ⟨_,rfl,rfl,rfl⟩) (fun it z1 h1 A=>?_) fun it jt z2 h2=>?_
   ·obtain⟨rfl,rfl⟩:=h1;exact qp I1 hy ⟨_,rfl,rfl,rfl,rfl⟩
   ·obtain⟨rfl,rfl,rfl⟩:=h2;have z1:(s.heap.push (cV t1 l1)).objs.size=s.heap.objs.size+1:=Heap.size_push ..;generalize e1:s.heap.push (cV t1 l1)=g1 at *
    have p1:g1.get? s.heap.objs.size=some (cV t1 l1):=by
     rw[<-e1];exact Heap.get?_push_size _ (by cases t1<;>rfl)
    have k1:∀ b o,s.heap.get? b=some o->g1.get? b=some o:=fun b o e=>by rw[<-e1];exact Heap.get?_push_of_some _ e
    have z2:(g1.push (cV t2 l2)).objs.size=s.heap.objs.size+2:=by rw[Heap.size_push,z1]
    have p2:(g1.push (cV t2 l2)).get? (s.heap.objs.size+1)=some (cV t2 l2):=by
     rw[<-z1];exact Heap.get?_push_size _ (by cases t2<;>rfl)
    have k2:∀ b o,g1.get? b=some o->(g1.push (cV t2 l2)).get? b=some o:=fun b o e=>Heap.get?_push_of_some _ e;generalize e2:g1.push (cV t2 l2)=g2 at *;dsimp only;rw[z1]
    have z3:(g2.push { cls:=.type "tuple",data:=.seq #[.ref s.heap.objs.size,.ref (s.heap.objs.size+1)] }).objs.size=s.heap.objs.size+3:=by rw[Heap.size_push,z2]
    have p3:(g2.push { cls:=.type "tuple",data:=.seq #[.ref s.heap.objs.size,.ref (s.heap.objs.size+1)] }).get? (s.heap.objs.size+2)=some { cls:=.type "tuple",data:=.seq #[.ref s.heap.objs.size,.ref (s.heap.objs.size+1)] }:=by
     rw[<-z2];exact Heap.get?_push_size _ rfl
    have k3:∀ b o,g2.get? b=some o->(g2.push { cls:=.type "tuple",data:=.seq #[.ref s.heap.objs.size,.ref (s.heap.objs.size+1)] }).get? b=some o:=fun b o e=>Heap.get?_push_of_some _ e;rw[z2];generalize e3:g2.push { cls:=.type "tuple",data:=.seq #[.ref s.heap.objs.size,.ref (s.heap.objs.size+1)] }=g3 at *;rw[z3]
    have z4:(g3.push { cls:=.type "tuple",data:=.seq #[.none,.none] }).objs.size=s.heap.objs.size+4:=by rw[Heap.size_push,z3]
    have p4:(g3.push { cls:=.type "tuple",data:=.seq #[.none,.none] }).get? (s.heap.objs.size+3)=some { cls:=.type "tuple",data:=.seq #[.none,.none] }:=by
     rw[<-z3];exact Heap.get?_push_size _ rfl
    have k4:∀ b o,g3.get? b=some o->(g3.push { cls:=.type "tuple",data:=.seq #[.none,.none] }).get? b=some o:=fun b o e=>Heap.get?_push_of_some _ e;generalize e4:g3.push { cls:=.type "tuple",data:=.seq #[.none,.none] }=g4 at *;rw[z4]
    have p5:(g4.push { cls:=.type "zip",data:=.fields #[.none,.bool false,.bool false,.ref (s.heap.objs.size+2),.ref (s.heap.objs.size+3)] }).get? (s.heap.objs.size+4)=some { cls:=.type "zip",data:=.fields #[.none,.bool false,.bool false,.ref (s.heap.objs.size+2),.ref (s.heap.objs.size+3)] }:=by
     rw[<-z4];exact Heap.get?_push_size _ rfl
    have k5:∀ b o,g4.get? b=some o->(g4.push { cls:=.type "zip",data:=.fields #[.none,.bool false,.bool false,.ref (s.heap.objs.size+2),.ref (s.heap.objs.size+3)] }).get? b=some o:=fun b o e=>Heap.get?_push_of_some _ e;generalize e5:g4.push { cls:=.type "zip",data:=.fields #[.none,.bool false,.bool false,.ref (s.heap.objs.size+2),.ref (s.heap.objs.size+3)] }=g5 at *
    refine wpAny_pyIter_zip (TI:=s.heap.objs.size+2) (TO:=s.heap.objs.size+3) (f0:=.none) p5 ⟨s.heap.objs.size+4,[s.heap.objs.size+4,s.heap.objs.size+2,s.heap.objs.size+3,s.heap.objs.size,s.heap.objs.size+1],_,Itz t1 t2 l1 l2,H,rfl,I.kept (t':=s.toks) fun b o e=>k5 _ _ (k4 _ _ (k3 _ _ (k2 _ _ (k1 _ _ e)))),xP (far _ 2 4 (by decide)) (far _ 3 4 (by decide)) (far _ 2 3 (by decide)) (far _ 0 4 (by decide)) (far _ 1 4 (by decide)) (far _ 0 3 (by decide)) (far _ 1 3 (by decide)) (far _ 0 1 (by decide)) (far _ 0 2 (by decide)) (far _ 1 2 (by decide)),
     ⟨p5,k5 _ _ (k4 _ _ p3),⟨_,_,k5 _ _ p4⟩,qu (k5 _ _ (k4 _ _ (k3 _ _ (k2 _ _ p1)))),qu (k5 _ _ (k4 _ _ (k3 _ _ p2)))⟩,fun b hb=>?_,q⟩
    have hb':s.heap.objs.size<=b:=by
     simp only[List.mem_cons,List.mem_nil_iff,or_false]at hb
     rcases hb with rfl | rfl | rfl | rfl | rfl<;>first | exact Nat.le_refl _ | exact Nat.le_add_right _ _
    exact I.nD hb' (I.hok.fresh hb')
end
end L2
namespace RS
open PySem PySem.Spec PyProof.Rows L2
def iZ:∀ (ds es:List RL.D),ds.length=es.length->(RL.dY ds es).length=ds.length
 | [],[],_=>rfl
 | [],_::_,h=>by cases h
 | _::_,[],h=>by cases h
 | d::ds,e::es,h=>by rw[RL.dY,List.length_cons,List.length_cons,iZ ds es (by simpa using h)]
def rL:∀ (ds es:List RL.D) (i:Nat) (d:RL.D),(RL.dY ds es)[i]?=some d->∃ x y,ds[i]?=some x/\es[i]?=some y/\d=.tup [x,y]
 | [],es,i,d,h=>by cases es<;>simp[RL.dY]at h
 | _::_,[],i,d,h=>by simp[RL.dY]at h
 | x::ds,y::es,0,d,h=>by simp[RL.dY]at h;exact⟨x,y,rfl,rfl,h.symm⟩
 | x::ds,y::es,i+1,d,h=>by
  rw[RL.dY,List.getElem?_cons_succ]at h;obtain⟨x',y',h1,h2,h3⟩:=rL ds es i d h;exact⟨x',y',by simpa using h1,by simpa using h2,h3⟩
def vZ{K:PySem.W.Frag}(hl:ds.length=es.length)(h1:H l1=some (dX t1 xs))(h2:H l2=some (dX t2 ys))(n1:¬ P l1)(n2:¬ P l2)(r1:af nP K H ds xs)(r2:af nP K H es ys)(hm:∀ b o,P b->H b=some o->cU o) :
  ib K (Itz t1 t2 l1 l2) (RL.dY ds es) P H where
 go:=fun H' i k hi=>by
  rw[iZ ds es hl]at hi;obtain⟨x,e,_⟩:=r1.get (i:=i) (d:=ds[i]) (by simp[hi]);obtain⟨y,e',_⟩:=r2.get (i:=i) (d:=es[i]'(by lia)) (by simp);exact⟨xs,ys,x,y,k _ _ n1 h1,k _ _ n2 h2,e,e'⟩
 stop:=fun H' k=>⟨xs,ys,k _ _ n1 h1,k _ _ n2 h2,by rw[iZ ds es hl,r1.length],by rw[iZ ds es hl,hl,r2.length]⟩
 yld:=fun H' i d v H2 k e y=>by
  obtain⟨p,x,w,hp,rfl,rfl,hx,hw⟩:=y;obtain⟨dx,dw,g1,g2,rfl⟩:=rL ds es i d e;obtain⟨x',g3,g4⟩:=r1.get g1;obtain⟨w',g5,g6⟩:=r2.get g2;rw[hx xs (k _ _ n1 h1)]at g3;rw[hw ys (k _ _ n2 h2)]at g5;cases g3;cases g5;refine⟨ax.bO hp,fun q=>?_⟩
  have re:Rep nP K H' dx x/\Rep nP K H' dw w:=by
   rcases q with q | q
   ·have q:(dx.imm&&(dw.imm&&true))=true:=q;rw[Bool.and_true,Bool.and_eq_true]at q;exact⟨gE hm k g4 q.1,gE hm k g6 q.2⟩
   ·exact⟨g4.same q,g6.same q⟩
  rw[Rep];exact⟨p,[x,w],rfl,aP,af.cons (re.1.same (ax.bO hp)) (af.cons (re.2.same (ax.bO hp)) af.nil)⟩
def om{P:Addr->Prop}{K:PySem.W.Frag}(h:RL.items d=some ds)(r:Rep P K H d v):∃ t l xs,v=.ref l/\H l=some (dX t xs)/\af P K H ds xs/\(t=false->d=.lst ds):=by
 obtain⟨p,xs,rfl,hp,rs⟩:=gF h r
 rcases hp with⟨q,rfl⟩ | ⟨q,rfl⟩
 ·exact⟨false,p,xs,rfl,q,rs,fun _=>rfl⟩
 ·exact⟨true,p,xs,rfl,q,rs,fun z=>by cases z⟩
section rules
def wD(hg:Gl X "zip")(hm:X.mg "zip" = none)(ha:SE X cl a a')(hb:SE X cl b b')(hn:noStar a=true)(hn2:noStar b=true):PI' (fun _=>True) X (.Tuple elts kx tp) (.Call (.Name "zip" p) [a,b] [] pos) (tI X.K cl (.zip a' b')):=by
 intro pins s σ H R I h;obtain⟨σD,ds,rv,e,k⟩:=h;obtain⟨x,ea,e⟩:=bind_some e;obtain⟨y,eb,e⟩:=bind_some e;obtain⟨xs,e1,e⟩:=bind_some e;obtain⟨ys,e2,e⟩:=bind_some e;split at e
 ·rename_i hl;cases e;have hpa:PA X [a,b] (hX (tE X.K cl a') (hX (tE X.K cl b') iO)):=bh ha (bh hb cz (aw [] hn2)) (aw _ hn);refine Cp hg hm hpa (by rw[aw _ hn,aw _ hn2];rfl) (aw [] hn2) pins s σ H R I ?_;refine⟨σD,x,rv,ea,fun v H1 r1=>⟨σD,y,rv.same r1.same,eb,fun u H2 r2=>?_⟩⟩;obtain⟨t1,l1,vs,rfl,h1,p1,c1⟩:=om e1 (r1.rep.same r2.same);obtain⟨t2,l2,us,rfl,h2,p2,c2⟩:=om e2 r2.rep;refine⟨t1,t2,l1,l2,vs,us,rfl,h1,h2,k _ _ (r1.same.trans r2.same) ⟨vZ hl h1 h2 (fun z=>z) (fun z=>z) p1 p2 gA,fun M P z hP av=>?_⟩⟩;have hP2:=eE (r1.same.trans r2.same) hP;unfold RL.rF at z;rw[Bool.and_eq_true]at z
  have notT:∀ (t:Bool) l zs,H2 l=some (dX t zs)->t=true->¬ P l:=fun t l zs hl ht q=>by
   subst ht;rcases hP2 l _ q hl with⟨_,q⟩ | ⟨_,q⟩ | ⟨_,q⟩<;>cases q
  refine vZ hl h1 h2 ?_ ?_ p1 p2 hP2
  ·cases ht:t1 with
   | true=>exact notT t1 l1 vs h1 ht
   | false=>exact lP r1 z.1 hP av _ _ (c1 ht) rfl
  ·cases ht:t2 with
   | true=>exact notT t2 l2 us h2 ht
   |false=>
    refine lP r2 z.2 (fun b q=>?_) (fun j dj vj hj h3 h4=>(av j dj vj hj h3 h4).same r1.same) _ _ (c2 ht) rfl;obtain⟨o,ho,hmu⟩:=hP b q;exact⟨o,r1.same _ _ ho,hmu⟩
 ·cases e
end rules
end RS
namespace L2
open PySem PySem.Spec PyProof.Rows
section
end
end L2
namespace RS
open PySem PySem.Spec PyProof.Rows L2
section
end
end RS
namespace L2
open PySem PySem.Spec PyProof.Rows
section
end
section
end
end L2
namespace RS
open PySem PySem.Spec PyProof.Rows L2
section
end
section
variable{st:Stmt}
end
section
variable{X:Cx}
end
end RS
namespace L2
open PySem PySem.Spec PyProof.Rows
end L2
namespace RS
open PySem PySem.Spec PyProof.Rows L2
end RS
namespace L2
open PySem PySem.Spec PyProof.Rows
section
variable{prog:Program}{w:World}{A:Around}{E:Value->Shared->Prop}{s:Shared}
def rT{R:List Value->Shared->Prop}{r:Addr}{a b c:Int}{t u v:Tok}{n:Nat}(hh:A.handled=none)(hr:IsRange s.heap r a b c t u v)(hs:Builtin.Range.small a b c=true)(hn:Builtin.Range.rangeSize a b c=n)(hl:n<=2 ^ 24)
 (k:∀ g tk acc,(∀ q o,s.heap.get? q=some o->g.get? q=some o)->ItemsOf (fun i x=>∃ t,x=.int (a+i*c) t) acc n->R acc.toList { s with heap:=g,toks:=tk }):wpAny (model prog w) A (collect (.ref r)) R E s:=by
 unfold collect;refine wpAny_bind (wpAny_runValue (codeAny_builtin PySem.F.entry_proto_collect ?_));rw[Around.under_plainId PySem.F.plain_proto_collect _];refine wpAny_bind (wpAny_newObj_type ?_);refine wpAny_pure ⟨plainId_quiet PySem.F.plain_list_iadd _,codeAny_builtin PySem.F.entry_list_iadd ?_⟩;rw[Around.under_plainId PySem.F.plain_list_iadd _];have e0:(s.heap.push { cls:=.type "list",data:=.seq ([]:List Value).toArray }).get? s.heap.objs.size=some { cls:=.type "list",data:=.seq #[] 0 }:=Heap.get?_push_size _ rfl;show wpAny _ A.in1 (Builtin.List.listExtendWith (.ref s.heap.objs.size) (.ref r) (.ref s.heap.objs.size)) _ _ _
 have fin:∀ s',(∃ g tk acc c',s'={ s with heap:=g,toks:=tk }/\(∀ q o,s.heap.get? q=some o->g.get? q=some o)/\g.get? s.heap.objs.size=some { cls:=.type "list",dict:=none,data:=.seq acc c',slots:=#[] }/\ItemsOf (fun i x=>∃ t,x=.int (a+i*c) t) acc n) ->
   wpAny (model prog w) A (match Value.ref s.heap.objs.size with
   | Value.ref a=>do
    match(<- load a).data with
     | Data.seq xs _=>pure xs.toList
     | _=>unsupported "internal:collect"
   | _=>unsupported "internal:collect") R E s':=by
  rintro s' ⟨g,tk,acc,c',rfl,g1,g2,g3⟩;exact wpAny_bind (wpAny_load g2 (wpAny_pure (k g tk acc g1 g3)))
 refine wpAny_mono (wpAny_extend_range (A:=A) (R:=fun r s'=>r=.ok (.ret (.ref s.heap.objs.size))/\∃ g tk acc c',s'={ s with heap:=g,toks:=tk }/\(∀ q o,s.heap.get? q=some o->g.get? q=some o)/\g.get? s.heap.objs.size=some { cls:=.type "list",dict:=none,data:=.seq acc c',slots:=#[] }/\ItemsOf (fun i x=>∃ t,x=.int (a+i*c) t) acc n)
  (s:={ s with heap:=s.heap.push { cls:=.type "list",data:=.seq ([]:List Value).toArray } }) hh (Heap.get?_push_of_some _ hr) hs hn hl s.heap.objs.size _ 0 e0 fun g tk acc c' g1 g2 g3=>⟨rfl,g,tk,acc,c',rfl,fun q o e=>g1 q o (Nat.ne_of_lt (Heap.lt_size e)) (Heap.get?_push_of_some _ e),g2,g3⟩) (fun f s' h=>?_) (fun e s' h=>?_)
 ·cases f with
  |done f=>
   obtain⟨e,h⟩:=h;cases e;exact fin s' h
  | again c'=>exact⟨h.1,codeAny_mono h.2 fun r s'' hr=>by obtain⟨rfl,h⟩:=hr;exact fin s'' h⟩
 ·exact absurd h.1 (by simp)
def xj(r:Addr){a b c:Int}{t u v:Tok}{n:Nat}(hs:Builtin.Range.small a b c=true)(hn:Builtin.Range.rangeSize a b c=n)(hl:n<=2 ^ 24) :
  Meets (Builtin.«tuple.__new__» ⟨[.type "tuple",.ref r],[]⟩) (fun A R s=>A.handled=none/\IsRange s.heap r a b c t u v /\
   ∀ (g:Heap) (tk:Nat) (acc:Array Value),(∀ q o,s.heap.get? q=some o->g.get? q=some o)->ItemsOf (fun i x=>∃ t,x=.int (a+i*c) t) acc n->R (.ok (.ret (.ref g.objs.size))) { s with heap:=g.push { cls:=.type "tuple",data:=.seq acc },toks:=tk }) :=
 .of_wp fun prog w A R s h=>by
  obtain⟨hh,hr,h⟩:=h;have q1:=sub_tuple_self;have q2:=init_tuple_lookup;have q3:=madeHere_tuple
  have hT:s.TypeIs (.ref r) "range" := ⟨_,hr,rfl⟩
  obtain⟨hp,g,d,tk,os⟩:=s
  wp_walk using wpAny_loadPart' hr,wpAny_typeOf hT,rT (A:=A.in1) hh hr hs hn hl
  intro g1 tk1 acc hk hI
  have es:acc.size<=sizeLine:=by rw[hI.1];exact Nat.le_trans hl (by decide)
  show wpAny _ _ (Builtin.Tuple.tupleExact acc.toList.toArray >>= fun v=>ret v) _ _ _;rw[Array.toArray_toList];unfold Builtin.Tuple.tupleExact;exact wpAny_bind (wpAny_newObj_type (wpAny_pure ⟨_,rfl,h g1 tk1 acc hk hI⟩) es)
end
end L2
namespace RS
open PySem PySem.Spec PyProof.Rows L2
def qq{X:Cx}(hc:X.calm=true):bI X (.type "tuple") (fun xs H Q=>∃ p a b c,xs=[.ref p]/\H p=some (lh p a b c)/\Builtin.Range.small a b c=true/\RL.bD c a b<=RL.most /\
  ∀ l,H l=none->Q (.ref l) (upd H l (.tup (cm a c (RL.bD c a b))))):=by
 intro pins s σ H xs us Q I r h;obtain⟨p,a,b,c,rfl,hp,hs,hn,q⟩:=h
 cases r with
 |cons r rr=>
  cases rr;cases r;obtain⟨⟨t,u,v,hR⟩,_,_⟩:=I.hok p _ hp;refine callType_new PySem.F.called_tuple (by decide) (PySem.F.typeCall_tuple_1 _) (PySem.F.newCall_tuple_1 _) (fun obj=>PySem.F.args_object_init_2 obj _) PySem.F.entry_tuple_new (xj p hs (hV a b c).symm (Nat.le_trans hn (by decide))) ⟨I.ok.hd.1 hc,hR,fun g tk acc hk hI=>⟨⟨_,Heap.get?_push_size _ rfl,rfl⟩,?_⟩⟩;have I1:Inv X pins σ H { s with heap:=g,toks:=tk }:=I.kept (t':=tk) hk
  have I2:Inv X pins σ (upd H g.objs.size (.tup (cm a c (RL.bD c a b)))) { s with heap:=g.push { cls:=.type "tuple",data:=.seq acc },toks:=tk } :=
   I1.laid (t':=tk) (fun b o e=>Heap.get?_push_of_some _ e) (Nat.le_refl _) (show bu X.prog X.w _ _ _ (.tup (cm a c (RL.bD c a b)))from⟨by simp only[cm,List.length_map,List.length_range];exact Nat.le_trans hn bZ,acc.toList,sj hI,by rw[Array.toArray_toList];exact IsTup.new _ _⟩)
  exact⟨.ref g.objs.size,_,I2,rfl,q _ (I1.hok.fresh (Nat.le_refl _))⟩
def AG{X:Cx}{cl:RL.Cl}{a:Expr}{a':RL.E}{p pos p2 pos2:Pos}(hc:X.calm=true)(hgl:Gl X "tuple")(hml:X.mg "tuple" = none)(hg:Gl X "range")(hm:X.mg "range" = none)(ha:SE X cl a a')(hn:noStar a=true):SE X cl (.Call (.Name "tuple" p2) [.Call (.Name "range" p) [a] [] pos] [] pos2) (.rngT a'):=by
 refine PE.weak (bW (qq hc) hgl hml (by decide +kernel) (bh (bW gM hg hm boot_range (bH (cl:=cl) ha cB hn) (by decide) (by decide) (aw [] hn) rfl) cz) (by decide) (by decide) rfl rfl) fun σ H Q h=>?_;obtain⟨σD,d,rv,e,k⟩:=h;obtain⟨x,ea,e⟩:=bind_some (show(RL.ev cl σD a').bind _=some d from e);obtain⟨ds,e1,e2⟩:=map_some e;subst e2;obtain⟨i,j,e3,rfl,hb,hm2,rfl⟩:=j5 e1;cases e3
 have hb2:-(2 ^ 60)<=j/\j<2 ^ 60:=by
  simp only[RL.c8]at e1;split at e1
  ·lia
  ·cases e1
 refine one rv ea fun v H1 s1 r1=>⟨0,j,1,.inl ⟨by rw[ah r1],rfl,rfl⟩,fun p hp=>⟨p,0,j,1,rfl,aP,gU (by decide) (by decide) hb2.1 hb2.2 (by decide) (by decide),by rw[dN];exact hm2,fun l hl=>k _ _ ?_⟩⟩
 rw[je,<-dN];exact gJ (s1.trans (ax.bO hp)) hl (jQ _ _ _) fun _=>rfl
def yW{X:Cx}{cl:RL.Cl}{pos:Pos}{f:Nat}{x:Str}{p:Pos}{k:Nat}{fa:Addr}{fd:FuncData}{ps:List Str}(F:d5 X.prog X.w X.K X.mg X.base CX0 k fa fd ps (spF X.K cl f))(hr:cw k X.A)(hg:Gl X x)
 (hm:X.mg x=some (.ref fa))(hk:PySem.W.keepIn X.K (.ref fa)=true)(hb:Binds X.K fd ps [])(hdb:(x == ("__debug__" : Str))=false):SE X cl (.Call (.Name x p) [] [] pos) (.call0 f):=by
 refine PE.weak (yj F hr hg hm hk hb .nil uS hdb) fun σ H Q h=>?_;obtain⟨σD,d,rv,ev,q⟩:=h;refine⟨[],d,af.nil,ev,fun v H2 s2 r2=>q v H2 ⟨s2,r2.none,fun _ m a z=>?_,fun M z=>nomatch z⟩⟩;subst z
 cases d with
 | lst ds=>obtain⟨p,xs,e1,e2,_⟩:=aC r2;cases e1;exact Classical.byContradiction e2
 | dK ks ds=>rw[Rep]at r2;obtain⟨p,xs,e1,e2,_⟩:=r2;cases e1;exact Classical.byContradiction e2
 | dT ks ds=>rw[Rep]at r2;obtain⟨p,xs,e1,e2,_⟩:=r2;cases e1;exact Classical.byContradiction e2
 | _=>cases m
def nos{α:Type}{P:Prop}{x:α}(h:(none:Option α)=some x):P:=by cases h
def ai{α:Type}{o:Option α}{f:α->Bool}(h:o.any f=true):∃ x,o=some x/\f x=true:=by
 cases o with
 | none=>cases h
 | some x=>exact⟨x,rfl,h⟩
def ae{a b:Bool}(h:(a&&b)=true):a=true/\b=true:=by rw[Bool.and_eq_true]at h;exact h
abbrev d9:Expr->Option Str
 | .Name x _=>some x
 | _=>none
def cj{e:Expr}{x:Str}(h:d9 e=some x):∃ p,e=.Name x p:=by
 cases e
 case Name=>cases h;exact⟨_,rfl⟩
 all_goals exact nos h
abbrev nh:Expr->Option Const
 | .Constant k _ _=>some k
 | _=>none
def iC{e:Expr}{k:Const}(h:nh e=some k):∃ j p,e=.Constant k j p:=by
 cases e
 case Constant=>cases h;exact⟨_,_,rfl⟩
 all_goals exact nos h
abbrev C1:Expr->Option (Expr × Operator × Expr)
 | .BinOp l o r _=>some (l,o,r)
 | _=>none
def AR{e:Expr}{l r:Expr}{o:Operator}(h:C1 e=some (l,o,r)):∃ p,e=.BinOp l o r p:=by
 cases e
 case BinOp=>cases h;exact⟨_,rfl⟩
 all_goals exact nos h
abbrev vUn:Expr->Option (UnaryOp × Expr)
 | .UnaryOp o x _=>some (o,x)
 | _=>none
def qF{e x:Expr}{o:UnaryOp}(h:vUn e=some (o,x)):∃ p,e=.UnaryOp o x p:=by
 cases e
 case UnaryOp=>cases h;exact⟨_,rfl⟩
 all_goals exact nos h
abbrev nc:Expr->Option (Expr × List CmpOp × List Expr)
 | .Compare l o r _=>some (l,o,r)
 | _=>none
def iH{e l:Expr}{r:List Expr}{o:List CmpOp}(h:nc e=some (l,o,r)):∃ p,e=.Compare l o r p:=by
 cases e
 case Compare=>cases h;exact⟨_,rfl⟩
 all_goals exact nos h
abbrev vBool:Expr->Option (BoolOp × List Expr × Pos)
 | .BoolOp o es p=>some (o,es,p)
 | _=>none
def js{e:Expr}{es:List Expr}{o:BoolOp}{p:Pos}(h:vBool e=some (o,es,p)):e=.BoolOp o es p:=by
 cases e
 case BoolOp=>cases h;exact rfl
 all_goals exact nos h
abbrev CT:Expr->Option (Expr × Expr × Expr)
 | .IfExp c a b _=>some (c,a,b)
 | _=>none
def AO{e a b c:Expr}(h:CT e=some (c,a,b)):∃ p,e=.IfExp c a b p:=by
 cases e
 case IfExp=>cases h;exact⟨_,rfl⟩
 all_goals exact nos h
abbrev j8:Expr->Option (List Expr)
 | .Tuple es _ _=>some es
 | _=>none
def dP{e:Expr}{es:List Expr}(h:j8 e=some es):∃ k p,e=.Tuple es k p:=by
 cases e
 case Tuple=>cases h;exact⟨_,_,rfl⟩
 all_goals exact nos h
abbrev C3:Expr->Option (List Expr)
 | .List es _=>some es
 | _=>none
def A6{e:Expr}{es:List Expr}(h:C3 e=some es):∃ p,e=.List es p:=by
 cases e
 case List=>cases h;exact⟨_,rfl⟩
 all_goals exact nos h
abbrev pS:Expr->Option (Expr × Expr)
 | .Subscript a b _=>some (a,b)
 | _=>none
def iI{e a b:Expr}(h:pS e=some (a,b)):∃ p,e=.Subscript a b p:=by
 cases e
 case Subscript=>cases h;exact⟨_,rfl⟩
 all_goals exact nos h
abbrev vSl:Expr->Option (Option Expr × Option Expr × Option Expr)
 | .Slice a b c _=>some (a,b,c)
 | _=>none
def DW{e:Expr}{a b c:Option Expr}(h:vSl e=some (a,b,c)):∃ p,e=.Slice a b c p:=by
 cases e
 case Slice=>cases h;exact⟨_,rfl⟩
 all_goals exact nos h
abbrev hG:Expr->Option (Expr × List Expr × List Keyword × Pos)
 | .Call f as ks p=>some (f,as,ks,p)
 | _=>none
def dH{e f:Expr}{as:List Expr}{ks:List Keyword}{p:Pos}(h:hG e=some (f,as,ks,p)):e=.Call f as ks p:=by
 cases e
 case Call=>cases h;exact rfl
 all_goals exact nos h
abbrev tY:Expr->Option (Expr × Str × Pos)
 | .Attribute o x p=>some (o,x,p)
 | _=>none
def pC{e o:Expr}{x:Str}{p:Pos}(h:tY e=some (o,x,p)):e=.Attribute o x p:=by
 cases e
 case Attribute=>cases h;exact rfl
 all_goals exact nos h
abbrev tO:Expr->Option (Expr × List Comprehension × Scope × Pos)
 | .ListComp e gs sc p=>some (e,gs,sc,p)
 | _=>none
def qt{e x:Expr}{gs:List Comprehension}{sc:Scope}{p:Pos}(h:tO e=some (x,gs,sc,p)):e=.ListComp x gs sc p:=by
 cases e
 case ListComp=>cases h;exact rfl
 all_goals exact nos h
abbrev u5:Expr->Option (List (Option Expr) × List Expr)
 | .Dict ks vs _=>some (ks,vs)
 | _=>none
def rq{e:Expr}{ks:List (Option Expr)}{vs:List Expr}(h:u5 e=some (ks,vs)):∃ p,e=.Dict ks vs p:=by
 cases e
 case Dict=>cases h;exact⟨_,rfl⟩
 all_goals exact nos h
abbrev of1{α:Type}(xs:List α)(f:α->Bool):Bool:=match xs with
 | [a]=>f a
 | _=>false
abbrev of2{α:Type}(xs:List α)(f:α->α->Bool):Bool:=match xs with
 | [a,b]=>f a b
 | _=>false
abbrev of3{α:Type}(xs:List α)(f:α->α->α->Bool):Bool:=match xs with
 | [a,b,c]=>f a b c
 | _=>false
def aJ{α:Type}:∀ {xs:List α} {f:α->Bool},of1 xs f=true->∃ a,xs=[a]/\f a=true
 | [a],_,h=>⟨a,rfl,h⟩
def dB{α:Type}:∀ {xs:List α} {f:α->α->Bool},of2 xs f=true->∃ a b,xs=[a,b]/\f a b=true
 | [a,b],_,h=>⟨a,b,rfl,h⟩
def xp{α:Type}:∀ {xs:List α} {f:α->α->α->Bool},of3 xs f=true->∃ a b c,xs=[a,b,c]/\f a b c=true
 | [a,b,c],_,h=>⟨a,b,c,rfl,h⟩
abbrev ofM{α:Type}(xs:List α)(f:α->α->List α->Bool):Bool:=match xs with
 | a::b::r=>f a b r
 | _=>false
def lS{α:Type}:∀ {xs:List α} {f:α->α->List α->Bool},ofM xs f=true->∃ a b r,xs=a::b::r/\f a b r=true
 | a::b::r,_,h=>⟨a,b,r,rfl,h⟩
abbrev kZ:Stmt->Option (List Expr × Expr)
 | .Assign ts e _=>some (ts,e)
 | _=>none
def dQ{st:Stmt}{ts:List Expr}{e:Expr}(h:kZ st=some (ts,e)):∃ p,st=.Assign ts e p:=by
 cases st
 case Assign=>cases h;exact⟨_,rfl⟩
 all_goals exact nos h
abbrev uO:Stmt->Option Expr
 | .Expr e _=>some e
 | _=>none
def kq{st:Stmt}{e:Expr}(h:uO st=some e):∃ p,st=.Expr e p:=by
 cases st
 case Expr=>cases h;exact⟨_,rfl⟩
 all_goals exact nos h
abbrev wIf:Stmt->Option (Expr × List Stmt × List Stmt)
 | .If c a b _=>some (c,a,b)
 | _=>none
def qW{st:Stmt}{c:Expr}{a b:List Stmt}(h:wIf st=some (c,a,b)):∃ p,st=.If c a b p:=by
 cases st
 case If=>cases h;exact⟨_,rfl⟩
 all_goals exact nos h
abbrev DD:Stmt->Option (Expr × Expr × List Stmt × List Stmt)
 | .For t i b o _=>some (t,i,b,o)
 | _=>none
def sZ{st:Stmt}{t i:Expr}{b o:List Stmt}(h:DD st=some (t,i,b,o)):∃ p,st=.For t i b o p:=by
 cases st
 case For=>cases h;exact⟨_,rfl⟩
 all_goals exact nos h
abbrev Eh:Stmt->Option (Option Expr)
 | .Return e _=>some e
 | _=>none
def su{st:Stmt}{e:Option Expr}(h:Eh st=some e):∃ p,st=.Return e p:=by
 cases st
 case Return=>cases h;exact⟨_,rfl⟩
 all_goals exact nos h
end RS
namespace L2
open PySem PySem.Spec PyProof.Rows
def xf{o:Obj}:(o.mapFields f).dict=o.dict:=by
 obtain⟨c,d,dt,sl⟩:=o;cases dt<;>rfl
abbrev Exc(P:Addr->Prop)(e:Addr)(C:Addr)(tb:Bool)(h:Heap):Prop :=
 ∃ oe vs,h.get? e=some oe/\(oe.cls=.ref C/\oe.dict=none)/\oe.data=.fields vs/\vs[2]?=some .none/\¬ P e /\
  ((tb=false/\vs[1]?=some .none)\/∃ T oT ts,vs[1]?=some (.ref T)/\T≠e/\h.get? T=some oT/\oT.data=.fields ts/\ts[3]?=some .none/\¬ P T)
structure Off1(P:Addr->Prop)(fs:List Addr)(h h':Heap):Prop where
 sz:h.objs.size<=h'.objs.size
 keep:∀ b o,P b->b∉fs->h.get? b=some o->h'.get? b=some o
 slot:∀ b o,P b->b∈fs->h.get? b=some o->∃ sl,h'.get? b=some { o with slots:=sl }
def Off1.trans(a:Off1 P fs h h1)(b:Off1 P fs h1 h2):Off1 P fs h h2 where
 sz:=Nat.le_trans a.sz b.sz
 keep:=fun c o p n e=>b.keep c o p n (a.keep c o p n e)
 slot:=fun c o p n e=>by
  obtain⟨sl,e1⟩:=a.slot c o p n e;obtain⟨sl2,e2⟩:=b.slot c _ p n e1;exact⟨sl2,e2⟩
def Off1.um(n:¬ P a)(f:Obj->Obj):Off1 P fs h (h.update a f) where
 sz:=by rw[(Heap.SameBut.update ..).1];exact Nat.le_refl _
 keep:=fun b o p _ e=>by rw[Heap.get?_update_other _ _ (show a≠b from fun z=>n (z.symm▸p))];exact e
 slot:=fun b o p _ e=>⟨o.slots,by rw[Heap.get?_update_other _ _ (show a≠b from fun z=>n (z.symm▸p))];exact e⟩
def Off1.ext(o:Obj):Off1 P fs h (h.push o) where
 sz:=by rw[Heap.size_push];exact Nat.le_succ _
 keep:=fun b _ _ _ e=>Heap.get?_push_of_some _ e
 slot:=fun b o _ _ e=>⟨o.slots,Heap.get?_push_of_some _ e⟩
def Off1.slots(x:Heap.SlotsOnly fs h h'):Off1 P fs h h' where
 sz:=Nat.le_of_eq x.1.symm
 keep:=fun b o _ n e=>(x.2.1 b n).trans e
 slot:=fun b o _ _ e=>x.2.2 b o e
section
def qi(hfr:A.frames=some (env::outer))(hl:s.heap.FunFrames base (env::outer))(hf:env.frame=some L)(he:s.heap.get? e=some oe)(hc:oe.cls=.ref C/\oe.dict=none)(hd:oe.data=.fields vs)(h2:vs[2]?=some .none)
 (ne:¬ P e)(hP:∀ b,P b->b<s.heap.objs.size)(k:∀ h',Exc P e C true h'->Off1 P (frs (env::outer)) s.heap h'->Q () { s with heap:=h' }) :
  wpAny M A (do let fr <- frameOf env;let q <- entryPlaceOf L had;let t <- EntryCells.newEntry head fr .none (rawInt L) .none q;setField (.ref e) 1 t) (fun _ s2=>wpAny M A (setFlight (.ref e) none) Q E s2) E s:=by
 have efr:e∉(env::outer).filterMap (·.frame):=fun z=>by
  obtain⟨_,o,ho,hn⟩:=hl.mem z;rw[he]at ho;cases ho;exact hn vs hd
 have z1:1<vs.size:=Nat.lt_trans (by decide) (Array.getElem?_eq_some_iff.mp h2).1;apply wpAny_bind;refine wpAny_frameOf_fun hfr hl hf fun g1 sl=>?_;apply wpAny_bind;refine wpAny_entryPlaceOf fun q hq=>?_;unfold EntryCells.newEntry newFields;apply wpAny_bind;refine wpAny_newObj_type ?_ (hq.sizeOk5 _ _ _ _ _);have e1:g1.get? e=some oe:=(sl.2.1 e efr).trans he;generalize hto:({ cls:=.type "traceback",dict:=none,data:=.fields ([head,.ref L,.none,rawInt L,.none]++(if q.isEmpty then List.replicate 6 Value.none else q)).toArray }:Obj)=to;have e2:(g1.push to).get? e=some oe:=Heap.get?_push_of_some _ e1;have te:g1.objs.size≠e:=Nat.ne_of_gt (Heap.lt_size e1);refine wpAny_setField e2 hd z1 ?_;have d3:=Obj.data_mapFields hd (·.setIfInBounds 1 (Value.ref g1.objs.size));have e3:=Heap.get?_update_self (Obj.mapFields (·.setIfInBounds 1 (Value.ref g1.objs.size))) e2 (Obj.isFreed_of_fields d3)
 have tod:to.data=.fields ([head,.ref L,.none,rawInt L,.none]++(if q.isEmpty then List.replicate 6 Value.none else q)).toArray:=by rw[<-hto]
 have t3:=(Heap.get?_update_other (g1.push to) (Obj.mapFields (·.setIfInBounds 1 (Value.ref g1.objs.size))) (Ne.symm te)).trans (Heap.get?_push_size g1 (by rw[<-hto];rfl));unfold setFlight;apply wpAny_bind;refine wpAny_field e3 d3 (x:=.ref g1.objs.size) (by simp[z1]) ?_;rw[if_pos (show(Value.ref g1.objs.size != Value.none)=true from by simp)];refine wpAny_setField t3 tod (by simp only[List.size_toArray,List.length_append,List.length_cons,List.length_nil]<;>omega) (k _ ?_ ?_)
 ·refine⟨_,_,(Heap.get?_update_other _ _ te).trans e3,⟨(Obj.cls_mapFields _ _).trans hc.1,xf.trans hc.2⟩,d3,by rw[Array.getElem?_setIfInBounds_ne (by decide)];exact h2,ne,.inr ⟨g1.objs.size,_,_,by simp[z1],te,Heap.get?_update_self _ t3 (Obj.isFreed_of_fields (Obj.data_mapFields tod _)),Obj.data_mapFields tod _,?_,fun z=>?_⟩⟩
  ·rw[Array.getElem?_setIfInBounds_self_of_lt (by simp only[List.size_toArray,List.length_append,List.length_cons,List.length_nil]<;>omega)];rfl
  ·have:=hP _ z;rw[sl.1]at this;exact Nat.lt_irrefl _ this
 ·refine(((Off1.slots sl).trans (Off1.ext _)).trans (Off1.um ne _)).trans (Off1.um (fun z=>?_) _);have:=hP _ z;rw[sl.1]at this;exact Nat.lt_irrefl _ this
def nM(hfr:A.frames=some (env::outer))(hl:s.heap.FunFrames base (env::outer))(hf:env.frame=some L)(x:Exc P e C tb s.heap)(hP:∀ b,P b->b<s.heap.objs.size)
 (k:∀ h',Exc P e C true h'->Off1 P (frs (env::outer)) s.heap h'->Q () { s with heap:=h' }) :
  wpAny M A (noteFrame (.ref e) env) (fun _ s2=>wpAny M A (setFlight (.ref e) none) Q E s2) E s:=by
 obtain⟨oe,vs,he,hc,hd,h2,ne,x⟩:=x;unfold noteFrame;simp only[hf];apply wpAny_bind
 rcases x with⟨_,h1⟩ | ⟨T,oT,ts,h1,hTe,hT,hdT,h3,nT⟩
 ·refine wpAny_field he hd h1 ?_;rw[if_neg (by decide)];exact qi hfr hl hf he hc hd h2 ne hP k
 ·refine wpAny_field he hd h1 ?_;rw[if_pos (show(Value.ref T != Value.none)=true from by simp)];apply wpAny_bind;refine wpAny_field hT hdT h3 ?_;rw[if_neg (show ¬ ((Value.none == rawInt L)=true)from by simp[rawInt])];apply wpAny_bind;refine wpAny_setField hT hdT (Array.getElem?_eq_some_iff.mp h3).1 ?_;have oth:∀ b,b≠T->(s.heap.update T (Obj.mapFields (·.setIfInBounds 3 Value.none))).get? b=s.heap.get? b:=fun b hb=>Heap.get?_update_other _ _ (Ne.symm hb);have up:Off1 P (frs (env::outer)) s.heap (s.heap.update T (Obj.mapFields (·.setIfInBounds 3 Value.none))):=Off1.um nT _
  have hl':(s.heap.update T (Obj.mapFields (·.setIfInBounds 3 Value.none))).FunFrames base (env::outer):=hl.of_keeps fun b o hb hn=>⟨o,(oth b fun z=>by
   rw[z,hT]at hb;cases hb
   exact hn ts hdT).trans hb,rfl⟩
  exact qi (s:={ s with heap:=s.heap.update T (Obj.mapFields (·.setIfInBounds 3 Value.none)) }) hfr hl' hf ((oth e (Ne.symm hTe)).trans he) hc hd h2 ne (fun b hb=>Nat.lt_of_lt_of_le (hP b hb) up.sz) fun h' x' o'=>k h' x' (up.trans o')
def wW(hfr:A.frames=some (env::outer))(hl:s.heap.FunFrames base (env::outer))(hf:env.frame=some L)(x:Exc P e C tb s.heap)(hP:∀ b,P b->b<s.heap.objs.size)
 (k:∀ h',Exc P e C true h'->Off1 P (frs (env::outer)) s.heap h'->Q () { s with heap:=h' }):wpAny M A (leaving env (.ref e)) Q E s:=by
 unfold leaving;exact wpAny_bind (nM hfr hl hf x hP k)
end
def bu.there(x:bu P w H h a o):∃ u,h.get? a=some u:=by
 cases o with
 | lst xs=>obtain⟨_,_,_,_,e⟩:=x;exact⟨_,e⟩
 | tup xs=>obtain⟨_,_,_,o,e,_⟩:=x;exact⟨_,e⟩
 | dK kvs=>obtain⟨_,_,_,_,o,_,_,e,_⟩:=x;exact⟨_,e⟩
 | dT kvs=>obtain⟨_,_,_,_,o,_,_,e,_⟩:=x;exact⟨_,e⟩
 | set S n=>obtain⟨o,_,_,_,e,_⟩:=x;exact⟨_,e⟩
 | ins C dx fs=>obtain⟨_,_,_,e,_⟩:=x;exact⟨_,e⟩
 | own y=>exact x
 | xd fs=>obtain⟨_,⟨_,_,_,e,_⟩,_⟩:=x;exact⟨_,e⟩
 | rng lo hi=>obtain⟨_,_,_,e⟩:=x;exact⟨_,e⟩
 | frz ob u=>exact⟨_,x.1⟩
 | tbl ps=>exact⟨_,x⟩
 | met f y=>exact⟨_,x⟩
 | ext φ=>exact x.2.1
abbrev fQ(h:Heap)(H:Hp)(b:Addr):Prop:=(∃ o,h.get? b=some o)\/H b≠none
def Exc.mono(x:Exc P e C tb h)(k:∀ b,P' b->P b):Exc P' e C tb h:=by
 obtain⟨oe,vs,h1,h2,h3,h4,h5,h6⟩:=x;refine⟨oe,vs,h1,h2,h3,h4,fun z=>h5 (k _ z),h6.imp (fun z=>z) fun⟨T,oT,ts,a1,a2,a3,a4,a5,a6⟩=>⟨T,oT,ts,a1,a2,a3,a4,a5,fun z=>a6 (k _ z)⟩⟩
abbrev CXE(P:Program)(w:World):CXT:=fun outer H s E e s'=>∃ x C H',e=.ref x/\E (.ref C) none H'/\s'.os=s.os/\AllBare s'.gens/\Un (frs outer) [] H H' s.heap s'.heap/\HOk P w H' s'.heap/\Exc (fQ s.heap H') x C true s'.heap
section
def Inv.old(I:Inv X pins σ H s)(hex:X.ex=[])(e:X.s₀.heap.get? b=some o):∃ o',s.heap.get? b=some o':=I.base.there b o e (by rw[hex];simp)
def rB(I:Inv X pins σ H s)(hst:X.stack=X.env::X.outer)(hfrm:X.env.frame=some X.env.locals)(hex:X.ex=[])(x:Exc (fQ X.s₀.heap H) e C tb s.heap)(hE:EE (.ref C) none H)(hA:A.frames=some (X.env::X.outer)) :
  wpAny (model X.prog X.w) A (leaving X.env (.ref e)) (fun _ s2=>CXE X.prog X.w X.outer X.H₀ X.s₀ EE (.ref e) s2) E' s:=by
 have hl:=I.stack;rw[hst]at hl
 have hfr:∀ b∈frs (X.env::X.outer),H b=none:=by
  have:=I.ke;rw[hst]at this;exact this
 have hP:∀ b,fQ X.s₀.heap H b->b<s.heap.objs.size:=fun b hb=>by
  rcases hb with⟨o,e⟩ | hb
  ·exact Nat.lt_of_lt_of_le (Heap.lt_size e) I.sz
  ·obtain⟨o,ho⟩:=Option.ne_none_iff_exists'.mp hb;exact I.hok.lt ho
 refine wW hA hl hfrm x hP fun h' x' o'=>?_;have fsE:X.fs=frs X.outer:=rfl
 have mem:∀ b o,X.s₀.heap.get? b=some o->b∉frs X.outer->b∉frs (X.env::X.outer):=fun b o e n z=>by
  unfold frs at z;rw[List.filterMap_cons,hfrm]at z;rcases List.mem_cons.mp z with z | z
  ·have h1:=Heap.lt_size e;have h2:=I.ok.above;rw[z]at h1;exact Nat.lt_irrefl _ (Nat.lt_of_lt_of_le h1 h2)
  ·exact n z
 have mem2:∀ b,b∈frs X.outer->b∈frs (X.env::X.outer):=fun b z=>by
  unfold frs;rw[List.filterMap_cons,hfrm];exact List.mem_cons_of_mem _ z
 have nex:∀ b:Addr,b∉X.ex:=fun b=>by rw[hex];simp
 refine⟨e,C,H,rfl,hE,I.os,I.bare,⟨fun b o q n hb _=>?_,fun b o q n hb _=>?_,fun b o q n _=>I.base.free b o q n (nex b),fun b o q _=>?_,I.base.eD,I.base.cR,I.base.e8⟩,fun a o q=>?_,x'⟩
 ·exact o'.keep b o (.inl ⟨o,q⟩) (mem b o q hb) (I.base.keep b o q n hb (nex b))
 ·obtain⟨sl,q2⟩:=I.base.slot b o q n hb (nex b);obtain⟨sl2,q3⟩:=o'.slot b _ (.inl ⟨o,q⟩) (mem2 b hb) q2;exact⟨sl2,q3⟩
 ·obtain⟨o1,q1⟩:=I.base.there b o q (nex b);by_cases hb:b∈frs (X.env::X.outer)
  ·obtain⟨sl,q2⟩:=o'.slot b _ (.inl ⟨o,q⟩) hb q1;exact⟨_,q2⟩
  ·exact⟨_,o'.keep b _ (.inl ⟨o,q⟩) hb q1⟩
 ·refine(I.hok a o q).jy (fun b u hb r=>?_) (fun _ z=>z) fun _ _ z=>z
  have hn:H b≠none:=by
   rcases hb with rfl | hb
   ·rw[q];exact fun z=>nomatch z
   ·rw[hb];exact fun z=>nomatch z
  exact o'.keep b u (.inr hn) (fun z=>hn (hfr b z)) r
def Inv.refused(I:Inv X pins σ H s)(hex:X.ex=[])(h:CXE X.prog X.w X.stack H s E e s'):∃ x C H',e=.ref x/\E (.ref C) none H'/\Inv X pins σ H' s'/\Exc (fQ X.s₀.heap H') x C true s'.heap/\Exc (fQ s.heap H') x C true s'.heap/\Un (frs X.stack) [] H H' s.heap s'.heap:=by
 obtain⟨x,C,H',rfl,hE,os,bare,un,hok,ex⟩:=h;obtain⟨hh,g,d,t,os'⟩:=s';obtain rfl:os'=s.os:=os;refine⟨x,C,H',rfl,hE,I.call (h':=hh) (g':=g) (d':=d) (t':=t) (ch:=[]) un hok bare (fun b z=>absurd z (by simp)),ex.mono fun b hb=>?_,ex,un⟩;rcases hb with⟨o,q⟩ | hb
 ·exact .inl (I.old hex q)
 ·exact .inr hb
def qH(hok:HOk P w H h)(m:Heap.MadeExcOf h h' e (.ref C) vs):Exc (fQ h H) e C false h':=by
 obtain⟨t,he,_,_⟩:=m.there;refine⟨_,_,he,⟨rfl,rfl⟩,rfl,rfl,fun z=>?_,.inl ⟨rfl,rfl⟩⟩;have hn:=m.new;rcases z with⟨o,q⟩ | z
 ·rw[hn]at q;cases q
 ·obtain⟨o,ho⟩:=Option.ne_none_iff_exists'.mp z;obtain⟨u,q⟩:=(hok e o ho).there;rw[hn]at q;cases q
def Inv.newExc(I:Inv X pins σ H s)(hex:X.ex=[])(m:Heap.MadeExcOf s.heap h' e (.ref C) vs):Inv X pins σ H { s with heap:=h' }/\Exc (fQ X.s₀.heap H) e C false h' :=
 ⟨I.kept (t':=s.toks) m.keeps,(qH I.hok m).mono fun b hb=>hb.imp (fun⟨o,q⟩=>I.old hex q) fun z=>z⟩
end
open PySem.W
section
variable{K:PySem.W.Frag}
structure pU(K:PySem.W.Frag)(D:Addr):Prop where
 ga:findIn K (.ref D) "__getattribute__" = some (some (.builtin "BaseException.__getattribute__"))
 gn:findIn K (.ref D) "__getattr__" = some none
 fo:findObj K D none "__class__" = some (.bind (.builtin "getset_descriptor.__get__") (.builtin "object.__class__"))
 mo:mroIn K D (.type "object")=some true
 mb:subIn K (.ref D) (.type "BaseException")=some true
 is:(clsIn K D).isSome=true
def DJ(F:pU K D)(X:K.In s.heap)(I:InstAt s.heap x ox D none)(h:Q (some (.ref D)) { s with toks:=s.toks+1 }):wpAny (model prog w) A (getAttr? (.ref x) "__class__") Q E s:=by
 have L0:=I.type (M:=model prog w);have L1:=looks_findIn (M:=model prog w) X F.ga;have L2:=looks_findIn (M:=model prog w) X F.gn;have L3:=looks_find (M:=model prog w) X I F.fo;have L4:=looks_subIn (M:=model prog w) X F.mb;have cg:=fun(A:Around) (R:Result->Shared->Prop) (t:Nat)=>class_get (prog:=prog) (w:=w) (A:=A) (R:=R) (tp:=.ref D) (s:={ s with toks:=t }) X I F.mo;obtain⟨hh,g,d,t,os⟩:=s;unfold getAttr? getAttrBy? getAttrBy;refine wpAny_bind (wpAny_mkText (wpAny_bind (wpAny_attempt (wpAny_holding (wpAny_bind (L0.at (wpAny_bind (L1.at ?_))))))))
 have n0:¬ ((onTheHeap (Value.ref D)&&(Value.builtin "BaseException.__getattribute__" == Value.builtin "object.__getattribute__"))=true):=by
  have:(Value.builtin "BaseException.__getattribute__" == Value.builtin "object.__getattribute__")=false:=by decide +kernel
  rw[this,Bool.and_false];exact Bool.false_ne_true
 dsimp only;rw[if_neg n0];unfold getAttrByItsOwn hookBefore;rw[if_pos (show onTheHeap (Value.ref D)=true from rfl)];refine wpAny_bind (L2.at ?_);unfold callGetattribute boundAndCalled;rw[if_neg (show ¬ ((false&&onTheHeap (Value.builtin "BaseException.__getattribute__"))=true)from Bool.false_ne_true)];refine wpAny_bind (wpAny_attempt (wpAny_holding (wpAny_bind (wpAny_of_eq (PySem.F.attrBase_ValueError.ga.bind (.ref x)) ?_))));refine wpAny_call (codeAny_call_builtin PySem.F.attrBase_ValueError.ga.plain PySem.F.entry_bexc_ga ?_)
 have hk:builtinKind "BaseException.__getattribute__" = some .slot:=by decide +kernel
 have hsplit:splitId "BaseException.__getattribute__" = some ("BaseException", "__getattribute__"):=by decide +kernel
 have ha:=PySem.F.args_bexc_ga (.ref x) (.str "__class__" t);simp only[checkBuiltinCall,hk,hsplit];unfold isInstance
 repeat (any_goals (first | assumption | exact L0 | (with_reducible refine L0.at ?_) | (with_reducible refine L4.at ?_) | (with_reducible refine L3.at ?_) | (with_reducible refine wpAny_bind (L3.at ?_)) | wp_step))
 refine cg _ _ _ ?_;refine wpAny_pure ?_;exact wpAny_of_eq (handedOut_of rfl) (wpAny_pure h)
def rh(F:pU K D):KitX K (.ref x) (.ref D) (fun h=>InstAt h x ox D none) where
 ty:=fun _ _ _ I=>I.type
 it:=fun M h X _=>by
  have z:=F.is;unfold clsIn at z;split at z
  ·rename_i ho;intro A' Q' E' s' k q;unfold isType loadHead;exact wpAny_bind (wpAny_loadPart (k _ _ (X _ _ ho)) (wpAny_pure q))
  ·cases z
 ne:=fun h tp dd its n sl X htp=>by
  refine Bool.eq_false_iff.mpr fun q=>?_;have e:D=tp:=Value.ref.inj (beq_iff_eq.mp q);subst e;have z:=F.is;unfold clsIn at z;split at z
  ·rename_i ho;cases(X _ _ ho).symm.trans htp
  ·cases z
 ca:=fun X I k=>DJ F X I k
end
section
def mK(h:PGs X es t)(hn:(assignEach es X.env).length=n)(hst:(assignEach es X.env).findIdx? (·.1)=none):PG X (.Tuple es k pos) (nv X.K n t):=by
 intro pins s σ H v u Q I r hw;obtain⟨a,xs,e1,hq,hl,hw⟩:=hw;subst e1;cases r;obtain⟨its,rv,ht,hz⟩:=I.tuple hq
 have hsz:(assignEach es X.env).length=its.toArray.size:=by rw[hn,<-hl,rv.length,List.size_toArray]
 rw[PyProof.Rows.assign_Tuple];refine wpAny_bind (wpAny_standAt ?_);unfold unpack;rw[hsz,hst];refine wpAny_bind (wpAny_holding (uA I.hd ht fun h' hx=>?_));exact h pins _ σ H xs _ Q (I.kept (t':=s.toks) fun b o e=>hx b o (Nat.ne_of_lt (Heap.lt_size e)) e) (by simpa using rv) hw
def nG(h:PGs X es t)(hn:(assignEach es X.env).length=n)(hst:(assignEach es X.env).findIdx? (·.1)=none):PG X (.Tuple es k pos) (RS.nL X.K n t):=by
 intro pins s σ H v u Q I r hw;obtain⟨a,xs,e1,hq,hl,hw⟩:=hw;subst e1;cases r;obtain⟨its,rv,ht,hz⟩:=I.list hq
 have hsz:(assignEach es X.env).length=its.toArray.size:=by rw[hn,<-hl,rv.length,List.size_toArray]
 rw[PyProof.Rows.assign_Tuple];refine wpAny_bind (wpAny_standAt ?_);unfold unpack;rw[hsz,hst];refine wpAny_bind (wpAny_holding (tU I.hd ht.isList fun h' hx=>?_));exact h pins _ σ H xs _ Q (I.kept (t':=s.toks) fun b o e=>hx b o (Nat.ne_of_lt (Heap.lt_size e)) e) (by simpa using rv) hw
end
section
def PA.nox(h:PA X.nox es t):PA X es t:=fun pos pins s σ H Q I hw =>
 wpAny_mono (h pos pins s σ H Q (I.dZ _) hw) (fun _ _ ⟨v,H',I',r,q⟩=>⟨v,H',I'.cG,r,q⟩) fun _ _ z=>False.elim z
def PS.nox{st:Stmt}(h:PS X.nox st t):PS X st t:=fun pins s σ H D I hw =>
 wpAny_mono (h pins s σ H D (I.dZ _) hw) (fun _ _ q=>q.cG) fun _ _ z=>False.elim z
def PG.nox(h:PG X.nox tg t):PG X tg t:=fun pins s σ H v u Q I r hw =>
 wpAny_mono (h pins s σ H v u Q (I.dZ _) r hw) (fun _ _ ⟨σ',H',I',q⟩=>⟨σ',H',I'.cG,q⟩) fun _ _ z=>False.elim z
def PI.nox(h:PI X.nox tg iter wi):PI X tg iter wi:=fun pins s σ H R I hw =>
 wpAny_mono (h pins s σ H R (I.dZ _) hw) (fun _ _ h1=>wpAny_mono h1 (fun _ _ ⟨it,fp,tn,J,H',e,I',T,t0,f,r⟩=>⟨it,fp,tn,J,H',e,I'.cG,T,t0,f,r⟩) fun _ _ z=>False.elim z) fun _ _ z=>False.elim z
def pD{CX:CXT}{k:Nat}{f:Addr}{fd:FuncData}{ps:List Str}{sp:Sp}{EX:St->XK}{x:Str}{p pos:Pos}{e:Expr}{es:List Expr}{t:TA}(F:d5 X.prog X.w X.K X.mg X.base CX k f fd ps sp)(hr:cw k X.A)(hg:Gl X x)(hm:X.mg x=some (.ref f))(hk:PySem.W.keepIn X.K (.ref f)=true)
 (hb:Binds X.K fd ps [])(hx:∀ pins σ H s e s',Inv X pins σ H s->CX X.stack H s (EX σ) e s'->X.xe e s')(ha:PA X (e::es) t)(hdb:(x == ("__debug__" : Str))=false)(he:starEach (e::es) X.env=(false,eval e X.env)::starEach es X.env)(hpl:(backTo pos (starEach es X.env)).any (·.1)=false) :
  PE X (.Call (.Name x p) (e::es) [] pos) (fun σ H Q=>t σ H fun vs H1=>sp vs H1 Q (EX σ)):=by
 intro pins s σ H Q I h;refine wpAny_Call_Name_kw (fj I hg hm ?_ hdb);refine PySem.W.callWith_K (h₀:=X.base) I.ok.mod.kin hk (thn (ha pos pins s σ H _ I h) fun us s1 ⟨vs,H1,I1,r,q⟩=>⟨I1.kIn,?_⟩) he hpl
 have hl:us.length=ps.length:=by rw[<-r.length];exact F.len _ _ _ _ q
 have hbb:=hb s1 us I1.kIn (by rw[List.append_nil];exact hl);rw[List.append_nil]at hbb;refine wpAny_call (codeAny_mono (F.run X.A X.stack s1 H1 ⟨us,[]⟩ us vs Q (EX σ) hr I1.yn hbb r q) fun r s' hq=>?_)
 cases r with
 | error e=>exact hx pins σ H1 s1 e s' I1 hq
 |ok fl=>
  cases fl with
  | ret u=>exact I1.after hq
  | next=>exact False.elim hq
  | brk=>exact False.elim hq
  | cont=>exact False.elim hq
end
end L2
namespace RS
open PySem PySem.Spec PyProof.Rows L2
abbrev spX(K:PySem.W.Frag)(cl:RL.Cl)(f:Nat):Sp:=fun vs H _ E=>∃ ds x,af nP K H ds vs/\RL.clX cl f ds=some x/\∀ C H',Cls K x C->ax H H'->E (.ref C) none H'
abbrev tXE(K:PySem.W.Frag)(cl:RL.Cl)(EX:L2.St->XK)(e:RL.E):TE:=fun σ H _=>∃ σD x,RV0 K σD σ H/\RL.evX cl σD e=some x/\∀ C H1,Cls K x C->ax H H1->EX σ (.ref C) none H1
abbrev tXA(K:PySem.W.Frag)(cl:RL.Cl)(EX:L2.St->XK)(es:RL.Es):TA:=fun σ H _=>∃ σD x,RV0 K σD σ H/\RL.mC cl σD es=some x/\∀ C H1,Cls K x C->ax H H1->EX σ (.ref C) none H1
abbrev RE(X:Cx)(EX:L2.St->XK)(cl:RL.Cl)(e:Expr)(e':RL.E):Prop:=PE X e (tXE X.K cl EX e')
abbrev RA(X:Cx)(EX:L2.St->XK)(cl:RL.Cl)(es:List Expr)(es':RL.Es):Prop:=PA X es (tXA X.K cl EX es')
abbrev tXS(K:PySem.W.Frag)(M:List Nat)(EX:L2.St->XK)(r:RL.St->Option (Str × RL.St)):TS:=fun _ σ H=>∃ σD x σD',RVm K M σD σ H/\r σD=some (x,σD')/\∀ σ1 H1 C,Cls K x C->RVm K M σD' σ1 H1->Fr' M σ H σ1 H1->EX σ1 (.ref C) none H1
abbrev RZ(X:Cx)(EX:L2.St->XK)(cl:RL.Cl)(M:List Nat)(st:Stmt)(s:RL.S):Prop:=PS X st (tXS X.K M EX (RL.iK cl M s))
abbrev RZs(X:Cx)(EX:L2.St->XK)(cl:RL.Cl)(M:List Nat)(st:List Stmt)(s:RL.Ss):Prop:=PSs X st (tXS X.K M EX (RL.cq cl M s))
section
variable{st:Stmt}
def br(h:∀ σD,RL.evX cl σD e'=none):RE X EX cl e e':=fun pins s σ H Q I ⟨σD,x,_,z,_⟩=>by
 rw[h]at z;cases z
def hZ(h:∀ σD,RL.iK cl M s' σD=none):RZ X EX cl M st s':=fun pins s σ H Q I ⟨σD,x,_,_,z,_⟩=>by
 rw[h]at z;cases z
def D3:RA X EX cl es .nil:=fun pos pins s σ H Q I ⟨σD,x,_,z,_⟩=>by
 rw[RL.mC]at z;cases z
def AU(he:SE X cl e e')(hx:RE X EX cl e e')(hr:RA X EX cl es es')(hs:starEach (e::es) X.env=(false,eval e X.env)::starEach es X.env):RA X EX cl (e::es) (.cons e' es'):=by
 intro pos pins s σ H Q I h;obtain⟨σD,x,rv,z,k⟩:=h;rw[RL.mC]at z
 cases hev:RL.ev cl σD e' with
 |some d=>
  rw[hev]at z;exact bh he hr hs pos pins s σ H Q I ⟨σD,d,rv,hev,fun v H1 r1=>⟨σD,x,rv.same r1.same,z,fun C H2 hc sm=>k C H2 hc (r1.same.trans sm)⟩⟩
 |none=>
  rw[hev]at z;exact bh hx hr hs pos pins s σ H Q I ⟨σD,x,rv,z,k⟩
def AB(F:d5 X.prog X.w X.K X.mg X.base (CXE X.prog X.w) k fa fd ps (spX X.K cl f))(hr:cw k X.A)(hg:Gl X x)
 (hm:X.mg x=some (.ref fa))(hk:PySem.W.keepIn X.K (.ref fa)=true)(hb:Binds X.K fd ps [])(hx:∀ pins σ H s e s',Inv X pins σ H s->CXE X.prog X.w X.stack H s (EX σ) e s'->X.xe e s')(he:SEs X cl (e::es) es')(ha:RA X EX cl (e::es) es')(hdb:(x == ("__debug__" : Str))=false)(hn:noStar e=true)(hns:es.all noStar=true) :
  RE X EX cl (.Call (.Name x p) (e::es) [] pos) (.call f es'):=by
 intro pins s σ H Q I h;obtain⟨σD,y,rv,z,k⟩:=h;rw[RL.evX]at z
 cases hev:RL.evs cl σD es' with
 |some ds=>
  rw[hev]at z;exact pD F hr hg hm hk hb hx he hdb (aw es hn) (cN hns) pins s σ H Q I ⟨σD,ds,rv,hev,fun vs H1 s1 r1=>⟨ds,y,r1,z,fun C H2 hc sm=>k C H2 hc (s1.trans sm)⟩⟩
 |none=>
  rw[hev]at z;exact pD F hr hg hm hk hb hx ha hdb (aw es hn) (cN hns) pins s σ H Q I ⟨σD,y,rv,z,k⟩
def pf{s':RL.S}{g:Ends->L2.St->VK}(h:PS X st (fun D σ H=>tXE X.K cl EX e' σ H (g D σ)))(he:∀ σD,RL.iK cl M s' σD=(RL.evX cl σD e').map fun x=>(x,σD)):RZ X EX cl M st s':=by
 refine PS.weak h fun D σ H h=>?_;obtain⟨σD,x,σD',rv,z,k⟩:=h;rw[he]at z;obtain⟨y,z1,z2⟩:=map_some z;cases z2;exact⟨σD,x,rv.rv0,z1,fun C H1 hc sm=>k σ H1 C hc (rv.same sm) (Fr'.same sm)⟩
def Ak:RZs X EX cl M sts .nil:=fun pins s σ H Q I ⟨σD,x,_,_,z,_⟩=>by
 rw[RL.cq]at z;cases z
def yU(h1:SS X cl M st s)(h2:RZ X EX cl M st s)(h3:RZs X EX cl M sts r):RZs X EX cl M (st::sts) (.cons s r):=by
 intro pins sh σ H D I h;obtain⟨σD,x,σD',rv,z,k⟩:=h;rw[RL.cq]at z
 cases hev:RL.evS cl M s σD with
 |some p=>
  obtain⟨o,σ1⟩:=p;rw[hev]at z
  cases o with
  | nx=>exact kR h1 h3 pins sh σ H D I ⟨σD,.nx,σ1,rv,hev,fun σ2 H2 rv2 fr2=>⟨σ1,x,σD',rv2,z,fun σ3 H3 C hc rv3 fr3=>k σ3 H3 C hc rv3 (fr2.trans fr3)⟩⟩
  | rt d=>cases z
 |none=>
  rw[hev]at z;exact kR h2 h3 pins sh σ H D I ⟨σD,x,σD',rv,z,k⟩
def F5(hc:ST X cl c c')(ha:RZs X EX cl M a a')(hb:RZs X EX cl M b b'):RZ X EX cl M (.If c a b pos) (.ife c' a' b'):=by
 refine PS.weak (tX hc ha hb) fun D σ H h=>?_;obtain⟨σD,x,σD',rv,z,k⟩:=h;rw[RL.iK]at z;obtain⟨t,z1,z2⟩:=bind_some z;refine⟨σD,t,rv.rv0,z1,fun H1 sm=>?_⟩;have kk:∀ σ1 H2 C,Cls X.K x C->RVm X.K M σD' σ1 H2->Fr' M σ H1 σ1 H2->EX σ1 (.ref C) none H2:=fun σ1 H2 C hc r f=>k σ1 H2 C hc r ((Fr'.same sm).trans f)
 cases t with
 | true=>exact eJ ⟨σD,x,σD',rv.same sm,z2,kk⟩
 | false=>exact fq ⟨σD,x,σD',rv.same sm,z2,kk⟩
end
section
def tL(h:RL.hW f fx tg (d::ds) σ=some p):d.imm=true/\∃ σ1,RL.aF tg d σ=some σ1 /\
  ((∃ σ2,f σ1=some (.nx,σ2)/\RL.hW f fx tg ds σ2=some p)\/fx σ1=some p):=by
 rw[RL.hW]at h;by_cases him:d.imm=true
 case neg=>rw[if_neg him]at h;cases h
 rw[if_pos him]at h;obtain⟨σ1,h1,h⟩:=bind_some h;refine⟨him,σ1,h1,?_⟩
 cases hf:f σ1 with
 | none=>rw[hf]at h;exact .inr h
 |some q=>
  obtain⟨o,σ2⟩:=q;rw[hf]at h
  cases o with
  | nx=>exact .inl ⟨σ2,rfl,h⟩
  | rt d=>cases h
def E6(hp:PassesOwn (model X.prog X.w) X.A X.env X.xe)(hc:X.calm=true)(hi:SI X cl tgE iter it)(hg:PG X tgE (gT X.K tg))(hb:SSs X cl M body b)(hbx:RZs X EX cl M body b)(hs:∀ x,foldedSetIterable iter X.env x=pure x)(hav:RL.rF M it=true)(hM:∀ i∈tg,M.contains i=false) :
  RZ X EX cl M (.For tgE iter body [] pos) (.forr tg it b):=by
 have both:PSs X body (fun D σ H=>tS X.K M (RL.ag cl M b) D σ H\/tXS X.K M EX (RL.cq cl M b) D σ H):=fun pins s σ H D I h=>h.elim (hb pins s σ H D I) (hbx pins s σ H D I);refine PS.weak (xa hp hc hi hg both hs) fun D σ H h=>?_;obtain⟨σD,x,σD',rv,e,k⟩:=h;rw[RL.iK]at e;obtain⟨ds,e1,e2⟩:=bind_some e;refine⟨σD,ds,rv.rv0,e1,fun J H1 s1 src=>?_⟩
 have ok:ib X.K J ds (aZ M σ) H1:=src.2 M (aZ M σ) hav rv.uj fun j dj vj hj h1 h2=>by
  obtain⟨v',h3,h4⟩:=rv.val j dj h1;rw[h2]at h3;cases h3;rw[if_neg (by rw[hj];decide)]at h4;exact h4
 refine⟨fun i m σ2 H2=>∃ σD2,m=ds.length-i/\i<=ds.length/\RVm X.K M σD2 σ2 H2/\Fr' M σ H1 σ2 H2/\RL.hW (RL.ag cl M b) (RL.cq cl M b) tg (ds.drop i) σD2=some (x,σD'),⟨_,σD,rfl,Nat.zero_le _,rv.same s1,Fr'.same (ax.refl _),e2⟩,?_⟩;rintro i m σ2 H2 ⟨σD2,rfl,hi2,rv2,fr2,hl⟩;have off:Off (aZ M σ) H1 H2:=fun b o n e=>(fr2.1 b o e n).1;by_cases hlt:i<ds.length
 ·refine .inr ⟨ok.go H2 i off hlt,fun σ' H'=>∃ m',m'<ds.length-i/\∃ σD2,m'=ds.length-(i+1)/\i+1<=ds.length/\RVm X.K M σD2 σ' H'/\Fr' M σ H1 σ' H'/\RL.hW (RL.ag cl M b) (RL.cq cl M b) tg (ds.drop (i+1)) σD2=some (x,σD'),fun σ' H' z=>z,fun y H3 yl=>?_⟩;rw[List.drop_eq_getElem_cons hlt]at hl;obtain⟨him,σ3,h1,h2⟩:=tL hl;obtain⟨s3,rp⟩:=ok.yld H2 i ds[i] y H3 off (by simp[hlt]) yl;obtain⟨dv,vs,q1,q2,q3,q4,q5⟩:=uQ h1 (rp (.inl him));refine q5 _ _ ?_;obtain⟨rv3,as3⟩:=(rv2.same s3).bK hM q2 (q4 him) q3
  have fr3:Fr' M σ H1 (cT tg vs σ2) H3:=⟨fun b o e n=>⟨s3 _ _ (fr2.1 b o e n).1,by rw[as3];exact(fr2.1 b o e n).2⟩,fun j hj=>(lx hM hj).trans (fr2.2 j hj)⟩
  rcases h2 with⟨σ4,h2,h3⟩ | h2
  ·exact .inl ⟨σ3,.nx,σ4,by rw[q1];exact rv3,h2,fun σ' H' rv' fr'=>⟨_,by lia,σ4,rfl,hlt,rv',fr3.trans fr',h3⟩⟩
  ·exact .inr ⟨σ3,x,σD',by rw[q1];exact rv3,h2,fun σ' H' C hc rv' fr'=>k σ' H' C hc rv' (((Fr'.same s1).trans fr3).trans fr')⟩
 ·have e:i=ds.length:=by lia
  subst e;rw[List.drop_length,RL.hW]at hl;cases hl
end
end RS
namespace L2
open PySem PySem.Spec PyProof.Rows
open RS (VE)
def sH{K:PySem.W.Frag}(X:K.In h)(q:PySem.W.excIn K C VE "ValueError.__new__" = true):∃ bm N nm qn bs hdct sn sub ab col dd k0 k1 k2 k3 k5 mN,h.get? C=some (excClassObj nm qn C N bs bm hdct sn sub ab col dd k0 k1 k2 k3 k5 "ValueError.__new__")/\h.Ns N mN/\mN "__init__" = none/\OwnTail h VE bm:=by
 unfold PySem.W.excIn at q;split at q
 ·rename_i dd cd sl ho;split at q
  ·rename_i C' bm k0 k1 k2 k3 n k5 hm hs;simp only[Bool.and_eq_true,beq_iff_eq,Bool.not_eq_true']at q;obtain⟨⟨⟨⟨⟨rfl,rfl⟩,hdel⟩,ht⟩,hok⟩,hni⟩:=q;obtain⟨nm,bs,mro,ns,qn,hd,sn,sub,ab,col,del⟩:=cd;dsimp only at hm hdel hok hni;subst hm hdel;obtain⟨l⟩:=sl;simp only at hs;subst hs;exact⟨bm,ns,nm,qn,bs,hd,sn,sub,ab,col,dd,k0,k1,k2,k3,k5,_,X _ _ ho,.of_isNs (PySem.W.isNs_of_in X hok),PySem.W.nsMap_none_of_in X hok hni,PySem.W.tail_of_in X ht⟩
  ·cases q
 ·cases q
section
variable{EX:St->XK}
def ye(hh:X.A.handled=none)(hg:Gl X x)(hm:X.mg x=some (.ref C))(hdb:(x == ("__debug__" : Str))=false)(q:PySem.W.excIn X.K C VE "ValueError.__new__" = true)(hk:∀ pins σ H s h' e vs,Inv X pins σ H s->Heap.MadeExcOf s.heap h' e (.ref C) vs->EX σ (.ref C) none H->X.xe (.ref e) { s with heap:=h' })
 (ha:PA X [arg] (hX ta iO))(hs:starEach [arg] X.env=[(false,eval arg X.env)]):PS X (.Raise (some (.Call (.Name x np) [arg] [] cpos)) none pos) (fun _ σ H=>ta σ H fun v H1=>[v].length<=sizeLine/\EX σ (.ref C) none H1):=by
 intro pins s σ H D I h;obtain⟨bm,N,nm,qn,bs,hdct,sn,sub,ab,col,dd,k0,k1,k2,k3,k5,mN,hC,hN,hni,T⟩:=sH I.ok.mod.kin q;refine wpAny_Raise_call_subT (C:=C) (nm:=nm) (q:=qn) (N:=N) (bs:=bs) (bm:=bm) (hdct:=hdct) (sn:=sn) (sub:=sub) (ab:=ab) (col:=col) (dd:=dd) (k0:=k0) (k1:=k1) (k2:=k2) (k3:=k3) (k5:=k5) PySem.F.excBase_ValueError (mN:=mN) (T.hasType PySem.F.excBase_ValueError.hasBase) hh (by rw[hs];rfl) hni (fj I hg hm ⟨rfl,?_⟩ hdb);have ha':=ha cpos pins s σ H (fun vs H1=>vs.length<=sizeLine/\EX σ (.ref C) none H1) I h;rw[hs]at ha' ⊢;refine Calls.evalArgs_plain (thn ha' fun us s1 ⟨vs,H1,I1,r,q1⟩=>?_);exact⟨rfl,by rw[<-r.length];exact q1.1,I1.bk _ _ hC,hN.keeps I1.bk,T.keeps I1.bk,fun h' e m=>hk pins σ H1 s1 h' e us I1 m q1.2⟩
abbrev PJ(X:Cx)(vs:List Expr)(t:TA):Prop:=∀ (pins:List (Addr × Obj)) (s:Shared) (σ:St) (H:Hp) (Q:Hp->Prop) (out:Str),Inv X pins σ H s->t σ H (fun _ H1=>Q H1)->out.length+3000*vs.length<=sizeLine->wpAny (model X.prog X.w) X.A (joinParts out (evalEach vs X.env)) (EP X pins σ fun v H1=>(∃ x,v=.str x)/\Q H1) X.xe s
def BU:PJ X [] iO:=fun pins s σ H Q out I h z=>joinParts_nil (out:=out) ⟨.str out,H,I.tok _,⟨_,rfl⟩,⟨_,rfl⟩,h⟩ (by simpa using z)
def BA(h:PJ X vs t)(hy:y.length<=3000):PJ X (.Constant (.str y) k p::vs) t:=fun pins s σ H Q out I q z=>by
 have hz:(out++y).length+3000*vs.length<=sizeLine:=by
  rw[strLen_append];rw[List.length_cons]at z;omega
 refine joinParts_cons (Calls.Constant_str ⟨by omega,?_⟩);exact h pins _ σ H Q (out++y) (I.tok _) q hz
abbrev x6(te:TE)(t:TA):TA:=fun σ H Q=>te σ H fun v H1=>∃ i,v=.int i/\i.natAbs<2 ^ 1900/\t σ H1 Q
def CY(he:PE X e te)(h:PJ X vs t):PJ X (.FormattedValue e (-1) none p::vs) (x6 te t):=fun pins s σ H Q out I q z=>by
 refine joinParts_cons (FormattedValue_plain (thn (he pins s σ H _ I q) fun u s1 ⟨v,H1,I1,r1,i,hv,hi,q1⟩=>?_));subst hv;obtain⟨tk,rfl⟩:=r1
 have hl:i.natAbs.log2<1920:=by
  by_cases h0:i.natAbs=0
  ·rw[h0];decide
  ·exact Nat.lt_trans ((Nat.log2_lt h0).mpr hi) (by decide)
 have hy:(Str.ofString (toString i)).length<=1921:=by
  rw[PySem.ofString_length];exact int_text_length_le (by decide) hl
 have hz:(out++Str.ofString (toString i)).length+3000*vs.length<=sizeLine:=by
  rw[strLen_append];rw[List.length_cons]at z;omega
 refine formatField_int_small hl ⟨?_,?_⟩
 ·exact Nat.le_trans (Nat.le_add_right _ _) hz
 ·exact h pins _ σ H1 Q _ ((I1.tok _).tok _) q1 hz
def wz(h:PJ X (v::v2::vs) t)(hn:vs.length<=100):PE X (.JoinedStr (v::v2::vs) pos) (fun σ H Q=>t σ H fun _ H1=>∀ x,Q (.str x) H1):=by
 intro pins s σ H Q I q;refine JoinedStr_many (thn (h pins s σ H (fun H1=>∀ x,Q (.str x) H1) Str.empty I q ?_) fun u s1 ⟨v,H1,I1,r1,⟨x,hv⟩,q1⟩=>⟨v,H1,I1,r1,by rw[hv];exact q1 x⟩);rw[List.length_cons,List.length_cons,sizeLine_eq];have:Str.empty.length=0:=rfl;omega
end
section
variable{os:OsState}
def xA
 (hR:h.get? R=some (excClassObj nm q R N bs bm hdct sn sub ab col dd k0 k1 k2 k3 k5 newId))(he:h.get? e=some oe)(hc:oe.cls=.ref C)(hb:bm.contains (.type "BaseException")=true)(L:PySem.W.Looks M h (isSubtype (.ref C) (.ref R)) b)(hq:Q b ⟨h,g,d,t,os⟩) :
  wpAny M A (excMatches (.ref e) (.ref R)) Q E ⟨h,g,d,t,os⟩:=by
 have hcB:(Value.ref R::bm).contains (.type "BaseException")=true:=by rw[List.contains_cons,hb,Bool.or_true]
 have f:=tc_notTuple;unfold excMatches
 repeat (first | (with_reducible refine wpAny_loadPart_at he ?_;rw[hc]) | with_reducible refine wpAny_loadPart_at hR ?_ | (with_reducible refine wpAny_isSubtype_exc hR ?_;rw[hcB]) | (with_reducible refine L.at ?_) | wp_step)
 cases b<;>(wp_walk;exact hq)
end
section
def sT(I:Inv X pins σ H s)(hN:X.N.Nodup)(hi:X.N[i]?=some n)(hl:X.env.scope.names.lookup n=some .local)
 (k:∀ s',Inv X pins (σ.set i none) H s'->Q () s'):wpAny M A (do bindName X.env n .none;unbindBehindTheSuite X.env n pos) Q E s:=by
 obtain⟨m,hn,hlk⟩:=id I.loc
 have hcls:(X.env.scope.kind == .class || (X.env.scope.kind == .module&&X.env.locals != X.env.globals))=false:=by rw[I.ok.kind];rfl
 refine wpAny_nameGoes_keeps hl hn hcls fun h' v hn' hs=>k _ ?_;have up:∀ b o,X.s₀.heap.get? b=some o->b≠X.env.locals:=fun b o e=>Nat.ne_of_lt (Nat.lt_of_lt_of_le (Heap.lt_size e) I.ok.above);have cne:=I.cne;refine⟨I.ok,I.os,I.bare,⟨fun b o e nn hb hx=>(hs.2 b (up b o e)).trans (I.base.keep b o e nn hb hx),fun b o e nn hb hx=>?_,I.base.free,fun b o e hx=>?_,I.base.eD,I.base.cR,I.base.e8⟩,⟨_,hn',fun j y v' e1 e2 e3=>?_⟩,fun y c e=>?_,I.free,I.cJ,fun p hp=>?_,fun a o e=>?_,by simpa using I.len⟩
 ·obtain⟨sl,e1⟩:=I.base.slot b o e nn hb hx;exact⟨sl,(hs.2 b (up b o e)).trans e1⟩
 ·obtain⟨o',e1⟩:=I.base.there b o e hx;exact⟨o',(hs.2 b (up b o e)).trans e1⟩
 ·have hj:j≠i:=fun z=>by
   subst z;rw[List.getElem?_set_self (by rw[I.len];exact(List.getElem?_eq_some_iff.mp hi).1)]at e2;cases e2
  rw[List.getElem?_set_ne (Ne.symm hj)]at e2;obtain⟨u,r,lk⟩:=hlk j y v' e1 e2 e3;refine⟨u,r,?_⟩
  rcases lk with⟨a1,a2⟩ | ⟨a1,c,a2,a3⟩
  ·have hy:y≠n:=fun z=>hj (lu hN e1 (z▸hi));exact .inl ⟨a1,by simp[hy,a2]⟩
  ·exact .inr ⟨a1,c,a2,a3.sameBut hs (cne y c a2)⟩
 ·obtain⟨v,q⟩:=I.cell y c e;exact⟨v,q.sameBut hs (cne y c e)⟩
 ·obtain⟨p1,p2,p3,p4⟩:=I.pin p hp;exact⟨(hs.2 p.1 p3).trans p1,p2,p3,p4⟩
 ·refine(I.hok a o e).jy (fun c w hc q=>(hs.2 c fun z=>?_).trans q) (fun _ z=>z) fun _ _ z=>z;subst z;rcases hc with z | z
  ·rw[<-z,I.free]at e;cases e
  ·rw[I.free]at z;cases z
@[reducible]noncomputable def Fz(oe:Obj):HO:=.frz oe (.ext fun _=>True)
@[reducible]noncomputable def Cx.bS(X:Cx)(e:Addr)(oe:Obj):Cx:={ X with A:=X.A.mark (some (.ref e)),calm:=false,H₀:=upd X.H₀ e (Fz oe) }
def oz(I0:Inv X pins σ H0 s0)(hst:X.stack=X.env::X.outer)(hex:X.ex=[])(un:Un (frs X.stack) [] H0 H' s0.heap h1)(hok:HOk X.prog X.w H' h1)(bare:AllBare g)
 (o:Off1 (fQ s0.heap H') (frs (X.env::X.outer)) h1 h2)(he:h2.get? e=some oe)(hd:oe.data=.fields vs)(hv:vs[2]?=some .none)(ne:¬ fQ s0.heap H' e) :
  Inv (X.bS e oe) pins σ (upd H' e (Fz oe)) ⟨h2,g,dr,tk,s0.os⟩:=by
 have hne:H' e=none:=Classical.byContradiction fun z=>ne (.inr z);have n0:∀ b u,s0.heap.get? b=some u->b≠e:=fun b u q z=>ne (.inl ⟨u,z▸q⟩);have n1:∀ b u,X.s₀.heap.get? b=some u->b≠e:=fun b u q=>let ⟨u',q'⟩:=I0.old hex q;n0 b u' q';have off:∀ {b:Addr},b≠e->upd H' e (Fz oe) b=H' b:=fun z=>aI z
 have nfr:∀ b,H' b≠none->b∉frs (X.env::X.outer):=fun b hb z=>by
  rw[<-hst]at z;obtain⟨_,ob,hob,_⟩:=I0.stack.mem z;exact hb (un.free b ob hob (I0.ke b z) (by simp))
 have un2:Un (frs X.stack) [] H0 (upd H' e (Fz oe)) s0.heap h2:=by
  refine⟨fun b u q n hb hx=>?_,fun b u q n hb hx=>?_,fun b u q n hx=>by rw[off (n0 b u q)];exact un.free b u q n hx,fun b u q hx=>?_,fun b xs q=>?_,fun b ob u q=>?_,fun b ps q=>?_⟩
  ·exact o.keep b u (.inl ⟨u,q⟩) (by rw[<-hst];exact hb) (un.keep b u q n hb hx)
  ·obtain⟨sl,q1⟩:=un.slot b u q n hb hx;obtain⟨sl2,q2⟩:=o.slot b _ (.inl ⟨u,q⟩) (by rw[<-hst];exact hb) q1;exact⟨sl2,q2⟩
  ·obtain⟨u1,q1⟩:=un.there b u q hx;by_cases hb:b∈frs (X.env::X.outer)
   ·obtain⟨sl,q2⟩:=o.slot b _ (.inl ⟨u,q⟩) hb q1;exact⟨_,q2⟩
   ·exact⟨_,o.keep b _ (.inl ⟨u,q⟩) hb q1⟩
  ·have:=un.eD b xs q;rw[off (fun z=>by rw[z,hne]at this;cases this)];exact this
  ·have:=un.cR b ob u q;rw[off (fun z=>by rw[z,hne]at this;cases this)];exact this
  ·obtain⟨more,this⟩:=un.e8 b ps q;rw[off (fun z=>by rw[z,hne]at this;cases this)];exact⟨more,this⟩
 have hok2:HOk X.prog X.w (upd H' e (Fz oe)) h2:=fun a ob q=>by
  by_cases ha:a=e
  ·subst ha;rw[aP]at q;cases q;exact⟨he,trivial,⟨_,he⟩,fun _ _ _ _=>trivial⟩
  ·rw[off ha]at q
   have up:∀ (b:Addr) (u:HO),H' b=some u->upd H' e (Fz oe) b=some u:=fun b u z=>by rw[off (aM z hne)];exact z
   refine(hok a ob q).jy (fun b u hb r=>?_) (fun b z=>up b _ z) fun b xs z=>up b _ z
   have hn:H' b≠none:=by
    rcases hb with rfl | hb
    ·rw[q];exact fun z=>nomatch z
    ·rw[hb];exact fun z=>nomatch z
   exact o.keep b u (.inr hn) (nfr b hn) r
 have J:=I0.call (h':=h2) (g':=g) (d':=dr) (t':=tk) (ch:=[]) un2 hok2 bare (fun b z=>absurd z (by simp));have offH:∀ {b:Addr} {u:Obj},X.s₀.heap.get? b=some u->upd X.H₀ e (Fz oe) b=X.H₀ b:=fun q=>aI (n1 _ _ q);refine⟨⟨J.ok.mod,J.ok.kind,J.ok.glob,J.ok.blt,J.ok.above,J.ok.inj,J.ok.has,J.ok.cab,⟨fun z=>(nomatch z),.inr ⟨e,oe,_,vs,rfl,aP,hd,hv⟩⟩,J.ok.frames,J.ok.stk,J.ok.exf,fun b ob q=>?_,J.ok.bsz,J.ok.jn,J.ok.iM,J.ok.dD,fun b hb=>?_⟩,J.os,J.bare,⟨fun b u q n=>?_,fun b u q n=>?_,fun b u q n=>?_,J.base.there,fun b xs q=>?_,fun b ob u q=>?_,fun b ps q=>?_⟩,J.loc,J.cell,J.free,J.cJ,J.pin,J.hok,J.len⟩
 ·obtain⟨q1,q2⟩:=J.ok.bs b ob q;exact⟨q1,(offH q1).trans q2⟩
 ·obtain⟨_,ob,q,_⟩:=J.ok.dD.mem hb;exact(offH q).trans (J.ok.frf b hb)
 ·exact J.base.keep b u q ((offH q).symm.trans n)
 ·exact J.base.slot b u q ((offH q).symm.trans n)
 ·exact J.base.free b u q ((offH q).symm.trans n)
 ·by_cases hb:b=e
  ·subst hb;rw[show(X.bS b oe).H₀ b=some (Fz oe)from aP]at q;cases q
  ·exact J.base.eD b xs ((aI hb).symm.trans q)
 ·by_cases hb:b=e
  ·subst hb;rw[show(X.bS b oe).H₀ b=some (Fz oe)from aP]at q;cases q;exact aP
  ·exact J.base.cR b ob u ((aI hb).symm.trans q)
 ·by_cases hb:b=e
  ·subst hb;rw[show(X.bS b oe).H₀ b=some (Fz oe)from aP]at q;cases q
  ·exact J.base.e8 b ps ((aI hb).symm.trans q)
def lN(J:Inv (X.bS e oe) pins σ H s)(ok:X.Ok)(hn:X.s₀.heap.get? e=none)(h1:∀ xs,X.H₀ e≠some (.tup xs))(h2:∀ o u,X.H₀ e≠some (.frz o u))(h3:∀ ps,X.H₀ e≠some (.tbl ps)):Inv X pins σ H s:=by
 have offH:∀ {b:Addr} {u:Obj},X.s₀.heap.get? b=some u->upd X.H₀ e (Fz oe) b=X.H₀ b:=fun {b u} q=>aI fun z=>by rw[z,hn]at q;cases q
 have up:∀ (b:Addr) (u:HO),b≠e->X.H₀ b=some u->(X.bS e oe).H₀ b=some u:=fun b u hb z=>(aI hb).trans z
 exact⟨ok,J.os,J.bare,⟨fun b u q n=>J.base.keep b u q ((offH q).trans n),fun b u q n=>J.base.slot b u q ((offH q).trans n),fun b u q n=>J.base.free b u q ((offH q).trans n),J.base.there,
  fun b xs q=>J.base.eD b xs (up b _ (fun z=>h1 xs (z▸q)) q),fun b o u q=>J.base.cR b o u (up b _ (fun z=>h2 o u (z▸q)) q),fun b ps q=>J.base.e8 b ps (up b _ (fun z=>h3 ps (z▸q)) q)⟩,J.loc,J.cell,J.free,J.cJ,J.pin,J.hok,J.len⟩
end
end L2
namespace RS
open PySem PySem.Spec PyProof.Rows L2
def Cls.kin{K:PySem.W.Frag}(h:Cls K x C):pU K C:=by
 have:=h.ok;simp only[eS,Bool.and_eq_true,beq_iff_eq]at this;obtain⟨⟨⟨⟨⟨⟨⟨⟨_,a1⟩,a2⟩,a3⟩,a4⟩,a5⟩,a6⟩,_⟩,_⟩:=this;refine⟨a1,a2,?_,a4,a5,a6⟩;unfold qz at a3;split at a3
 ·rename_i a b e;simp only[Bool.and_eq_true,beq_iff_eq]at a3;rw[e,a3.1,a3.2]
 ·cases a3
section
def tQ(I0:Inv X pins σ H0 s0)(hst:X.stack=X.env::X.outer)(hfrm:X.env.frame=some X.env.locals)(hex:X.ex=[])
 (os:s1.os=s0.os)(bare:AllBare s1.gens)(un:Un (frs X.stack) [] H0 H' s0.heap s1.heap)(hok:HOk X.prog X.w H' s1.heap)(xx:Exc (fQ s0.heap H') e C tb s1.heap)(hc:Cls X.K x C)(hR:Cls X.K c R)(hcr:c∈cZ)(hsub:RL.cH x c=true)(hg:Gl X c)(hm:X.mg c=some (.ref R))(hdb:(c == ("__debug__" : Str))=false)
 (hN:X.N.Nodup)(hi:X.N[i]?=some n)(hl:X.env.scope.names.lookup n=some .local)
 (k:∀ oe vs s4,(oe.cls=.ref C/\oe.dict=none)->oe.data=.fields vs->vs[2]?=some .none->H' e=none->X.s₀.heap.get? e=none->(∀ xs,X.H₀ e≠some (.tup xs))->(∀ o u,X.H₀ e≠some (.frz o u))->(∀ ps,X.H₀ e≠some (.tbl ps))->Inv (X.bS e oe) pins (σ.set i (some (.ref e))) (upd H' e (Fz oe)) s4 ->
   wpAny (model X.prog X.w) (X.A.mark (some (.ref e))) (execs (b0::bS) X.env) (fun f s5=>wpAny (model X.prog X.w) X.A (do bindName X.env n .none;unbindBehindTheSuite X.env n hpos) (fun _ s6=>Q f s6) E s5) (fun _ _=>False) s4) :
  wpAny (model X.prog X.w) X.A (noteFrame (.ref e) X.env) (fun _ s2=>wpAny (model X.prog X.w) X.A (setFlight (.ref e) none) (fun _ s3=>wpAny (model X.prog X.w) X.A (handleBy (.ref e) X.env [.ExceptHandler (some (.Name c np)) (some n) (b0::bS) hpos]) Q E s3) E s2) E s1:=by
 have I1:Inv X pins σ H' s1:=I0.ud (ch:=[]) os un hok bare (fun b z=>absurd z (by simp));have hls:=I1.stack;have hfr:=I1.ok.frames;rw[hst]at hls hfr
 have hP:∀ b,fQ s0.heap H' b->b<s1.heap.objs.size:=fun b hb=>by
  rcases hb with⟨o,q⟩ | hb
  ·obtain⟨o',q'⟩:=un.there b o q (by simp);exact Heap.lt_size q'
  ·obtain⟨o,ho⟩:=Option.ne_none_iff_exists'.mp hb;exact hok.lt ho
 refine nM hfr hls hfrm xx hP fun h2 x2 o2=>?_;obtain⟨oe,vs,he,hcd,hd,hv,ne,xt⟩:=x2;obtain⟨hp,g,d,tk,os'⟩:=s1;obtain rfl:os'=s0.os:=os;have J2:Inv (X.bS e oe) pins σ (upd H' e (Fz oe)) ⟨h2,g,d,tk,s0.os⟩:=oz I0 hst hex un hok bare o2 he hd hv ne;refine wpAny_handleBy_cons (codeAny_handlers_test ?_) (by intro q;cases q);refine fj J2 hg hm ?_ hdb;obtain⟨bm,N,nm,qn,bs,hdct,sn,sub,ab,col,dd,k0,k1,k2,k3,k5,mN,g1,g2,g3,T⟩:=sH J2.kIn hR.exc;have L:=PySem.W.looks_subIn (M:=model X.prog X.w) J2.kIn (hc.ref hcr hR.ns).2;rw[hsub]at L;refine xA g1 he hcd.1 (T.hasType PySem.F.excBase_ValueError.hasBase) L ?_;refine codeAny_handlers_suite_as ?_
 rcases xt with⟨z,_⟩ | ⟨T,oT,ts,h1,hTe,hT,hdT,h3,nT⟩
 ·cases z
 unfold setFlight;refine wpAny_bind (wpAny_field he hd h1 ?_);rw[if_pos (show(Value.ref T != Value.none)=true from by simp)];refine wpAny_setField hT hdT (Array.getElem?_eq_some_iff.mp h3).1 ?_;have he3:(h2.update T (Obj.mapFields (·.setIfInBounds 3 Value.none))).get? e=some oe:=(Heap.get?_update_other _ _ hTe).trans he;have J3:Inv (X.bS e oe) pins σ (upd H' e (Fz oe)) ⟨h2.update T (Obj.mapFields (·.setIfInBounds 3 Value.none)),g,d,tk,s0.os⟩:=oz I0 hst hex un hok bare (o2.trans (Off1.um nT _)) he3 hd hv ne;have hne:H' e=none:=Classical.byContradiction fun z=>ne (.inr z)
 have tup:∀ u,X.H₀ e=some u->(∀ b,X.H₀ b=some u->H' b=some u)->False:=fun u q z=>by
  have:=z e q;rw[hne]at this;cases this
 refine gQ (X:=X.bS e oe) (v:=.ref e) J3 hN hi (.inl hl) rfl (fun s4 J4=>?_) (.inr hl);refine wpAny_mono (k oe vs s4 hcd hd hv hne ?_ (fun xs q=>?_) (fun o u q=>?_) (fun ps q=>?_) J4) (fun f s5 z=>z) fun _ _ z=>z.elim
 ·cases q:X.s₀.heap.get? e with
  | none=>rfl
  |some u=>
   obtain⟨u',q'⟩:=I0.old hex q;exact(ne (.inl ⟨u',q'⟩)).elim
 ·have:=un.eD e xs (I0.base.eD e xs q);rw[hne]at this;cases this
 ·have:=un.cR e o u (I0.base.cR e o u q);rw[hne]at this;cases this
 ·obtain⟨m1,q1⟩:=I0.base.e8 e ps q;obtain⟨m2,q2⟩:=un.e8 e _ q1;rw[hne]at q2;cases q2
end
section
variable{K:PySem.W.Frag}
def aZ.unset(hi:M.contains i=false):aZ M (σ.set i none)=aZ M σ:=by
 funext a;apply propext
 have hne:∀ {j},M.contains j=true->i≠j:=fun hj z=>by subst z;rw[hi]at hj;cases hj
 constructor
 ·rintro⟨j,hj,e⟩;rw[List.getElem?_set_ne (hne hj)]at e;exact⟨j,hj,e⟩
 ·rintro⟨j,hj,e⟩;exact⟨j,hj,by rw[List.getElem?_set_ne (hne hj)];exact e⟩
def iT{α:Type}{l:List (Option α)}{i j:Nat}{v:α}(h:(l.set i none)[j]?=some (some v)):i≠j/\l[j]?=some (some v):=by
 by_cases hj:i=j
 ·subst hj;rw[List.getElem?_set]at h;split at h
  ·split at h<;>cases h
  ·exact absurd rfl ‹_›
 ·rw[List.getElem?_set_ne hj]at h;exact⟨hj,h⟩
def RVm.unset(h:RVm K M σD σ H)(hi:M.contains i=false):RVm K M (σD.set i none) (σ.set i none) H where
 len:=by simpa using h.len
 val:=fun j d e=>by
  obtain⟨hj,e⟩:=iT e;obtain⟨v,e1,e2⟩:=h.val j d e;exact⟨v,by rw[List.getElem?_set_ne hj];exact e1,by rw[aZ.unset hi];exact e2⟩
 non:=fun j v e=>by
  obtain⟨hj,e⟩:=iT e;obtain⟨d,e1⟩:=h.non j v e;exact⟨d,by rw[List.getElem?_set_ne hj];exact e1⟩
 sep:=fun j k a hj hk e1 e2=>h.sep j k a hj hk (iT e1).2 (iT e2).2
def Fr'.unset(hi:M.contains i=false):Fr' M σ H (σ.set i none) H:=⟨fun b o e n=>⟨e,by rw[aZ.unset hi];exact n⟩,fun j hj=>List.getElem?_set_ne fun z=>by subst z;rw[iu hj]at hi;cases hi⟩
end
section
@[reducible]noncomputable def CxX(X:Cx)(pn:List (Addr × Obj))(E:Value->Shared->Prop):Cx:={ X with pn:=pn,xe:=E }
def Em(hx:X.xe=fun _ _=>False)(hst:X.stack=X.env::X.outer)(hfrm:X.env.frame=some X.env.locals)(hex:X.ex=[])(hb:SSs X cl M body b)
 (hbx:∀ (pn:List (Addr × Obj)) (E:Value->Shared->Prop) (EX:L2.St->XK),(∀ pins σ H s e s',Inv (CxX X pn E) pins σ H s->CXE X.prog X.w X.stack H s (EX σ) e s'->E e s')->(∀ pins σ H s h' e C vs,Inv (CxX X pn E) pins σ H s->Heap.MadeExcOf s.heap h' e (.ref C) vs->EX σ (.ref C) none H->E (.ref e) { s with heap:=h' }) ->
   PassesOwn (model X.prog X.w) X.A X.env E->RZs (CxX X pn E) EX cl M body b)
 (hsu:∀ e oe,SSs (X.bS e oe) cl M (b0::bS) h)(hR:Cls X.K c R)(hcr:c∈cZ)(hg:Gl X c)(hm:X.mg c=some (.ref R))(hdb:(c == ("__debug__" : Str))=false)(hN:X.N.Nodup)(hi:X.N[i]?=some n)(hl:X.env.scope.names.lookup n=some .local)(hM:M.contains i=false) :
  SS X cl M (.Try body [.ExceptHandler (some (.Name c np)) (some n) (b0::bS) hpos] [] [] pos) (.tryc b c i h):=by
 intro pins s σ H D I hh;obtain⟨σD,r,σD',rv,ev,post⟩:=hh;rw[RL.evS]at ev;refine wpAny_Try_except ?_
 cases hev:RL.ag cl M b σD with
 |some p=>
  rw[hev]at ev;cases ev
  refine wpAny_mono (hb pins s σ H D I ⟨σD,r,σD',rv,hev,post⟩) (fun f s1 q=>?_) fun e s1 z=>by rw[hx]at z;exact z.elim
  cases f with
  | next=>exact wpAny_execs_nil q
  | ret u=>exact q
  | brk=>exact q
  | cont=>exact q
 |none=>
  rw[hev]at ev;obtain⟨⟨x,σD1⟩,hev2,ev⟩:=bind_some ev;by_cases hs:RL.cH x c=true
  case neg=>rw[if_neg hs]at ev;cases ev
  rw[if_pos hs]at ev;obtain⟨⟨rr,σ5⟩,hev3,ev⟩:=map_some ev;cases ev;dsimp only at hev3 post;generalize hE:(fun(e:Value) (s₁:Shared)=>wpAny (model X.prog X.w) X.A (noteFrame e X.env) (fun _ s₂=>wpAny (model X.prog X.w) X.A (setFlight e none) (fun _ s₃=>wpAny (model X.prog X.w) X.A (handleBy e X.env [.ExceptHandler (some (.Name c np)) (some n) (b0::bS) hpos]) (SP X pins D) X.xe s₃) X.xe s₂) X.xe s₁)=E1
  have own:PassesOwn (model X.prog X.w) X.A X.env E1:=by
   rw[<-hE];exact PassesOwn.looking
  have hand:∀ (pins':List (Addr × Obj)) (σ1:L2.St) (H0 H':Hp) (s0 s1:Shared) (e C:Addr) (tb:Bool),Inv (CxX X (X.pn++pins) E1) pins' σ1 H0 s0->s1.os=s0.os->AllBare s1.gens->Un (frs X.stack) [] H0 H' s0.heap s1.heap->HOk X.prog X.w H' s1.heap->Exc (fQ s0.heap H') e C tb s1.heap ->
    (Cls X.K x C/\RVm X.K M σD1 σ1 H'/\Fr' M σ H σ1 H')->E1 (.ref e) s1:=by
   intro pins' σ1 H0 H' s0 s1 e C tb J os bare un hok ex ⟨hc,rv1,fr1⟩
   have I0:Inv X pins σ1 H0 s0:=⟨⟨J.ok.mod,J.ok.kind,J.ok.glob,J.ok.blt,J.ok.above,J.ok.inj,J.ok.has,J.ok.cab,J.ok.hd,J.ok.frames,J.ok.stk,J.ok.exf,J.ok.bs,J.ok.bsz,J.ok.jn,J.ok.iM,J.ok.dD,J.ok.frf⟩,J.os,J.bare,J.base,J.loc,J.cell,J.free,J.cJ,fun p hp=>J.pin p (List.mem_append_left _ hp),J.hok,J.len⟩
   rw[<-hE];refine tQ I0 hst hfrm hex os bare un hok ex hc hR hcr hs hg hm hdb hN hi hl fun oe vs s4 hcd hd hv hne hn0 n1 n2 n3 J4=>?_
   have sm:ax H' (upd H' e (Fz oe)):=fun a u q=>by rw[aI (aM q hne)];exact q
   have rv4:RVm X.K M (σD1.set i (some (.exc x))) (σ1.set i (some (.ref e))) (upd H' e (Fz oe)):=(rv1.same sm).bind hM (by
    rw[Rep]
    exact⟨e,oe,_,C,vs,rfl,aP,hcd,hd,hv,hc⟩)
   have fr4:Fr' M σ H (σ1.set i (some (.ref e))) (upd H' e (Fz oe)):=fr1.trans (Fr'.bind hM sm)
   have post2:qI X.K M { nx:=fun σ' H5=>D.nx (σ'.set i none) H5,rt:=D.rt } (σ1.set i (some (.ref e))) (upd H' e (Fz oe)) rr σ5:=by
    cases rr with
    | nx=>exact fun σ' H5 rv5 fr5=>post (σ'.set i none) H5 (rv5.unset hM) ((fr4.trans fr5).trans (Fr'.unset hM))
    | rt d=>exact fun σ' H5 v H6 rv5 fr5 sm5 rp=>post (σ'.set i none) H5 v H6 (rv5.unset hM) ((fr4.trans fr5).trans (Fr'.unset hM)) sm5 fun P hP=>rp P fun p hp=>by rw[<-aZ.unset hM];exact hP p hp
   refine wpAny_mono (hsu e oe pins s4 _ _ _ J4 ⟨_,rr,σ5,rv4,hev3,post2⟩) (fun f s5 q=>?_) fun e s5 z=>by
    have z:X.xe e s5:=z;rw[hx]at z;exact z.elim
   cases f with
   |next=>
    obtain⟨σ',H5,J5,q⟩:=q
    exact sT (lN J5 I0.ok hn0 n1 n2 n3) hN hi hl fun s6 J6=>⟨_,H5,J6,q⟩
   |ret u=>
    obtain⟨v,σ',H5,J5,rel,q⟩:=q
    exact sT (lN J5 I0.ok hn0 n1 n2 n3) hN hi hl fun s6 J6=>⟨v,_,H5,J6,rel,q⟩
   |brk=>
    obtain⟨_,_,_,q⟩:=q;exact q.elim
   |cont=>
    obtain⟨_,_,_,q⟩:=q;exact q.elim
  have rz:=hbx (X.pn++pins) E1 (fun σ1 Cv _ H1=>∃ C,Cv=.ref C/\Cls X.K x C/\RVm X.K M σD1 σ1 H1/\Fr' M σ H σ1 H1) (fun pins' σ1 H0 s0 e s1 J z=>by
    obtain⟨x',C,H',rfl,⟨C',q,hc⟩,os,bare,un,hok,ex⟩:=z;cases q
    exact hand pins' σ1 H0 H' s0 s1 x' C true J os bare un hok ex hc) (fun pins' σ1 H0 s0 h' e C vs J m z=>by
    obtain⟨C',q,hc⟩:=z;cases q
    exact hand pins' σ1 H0 H0 s0 _ e C false J rfl J.bare (Un.kept m.keeps) (J.hok.kept m.keeps) (qH J.hok m) hc) own
  have I1:Inv (CxX X (X.pn++pins) E1) [] σ H s:=⟨⟨I.ok.mod,I.ok.kind,I.ok.glob,I.ok.blt,I.ok.above,I.ok.inj,I.ok.has,I.ok.cab,I.ok.hd,I.ok.frames,I.ok.stk,I.ok.exf,I.ok.bs,I.ok.bsz,I.ok.jn,I.ok.iM,I.ok.dD,I.ok.frf⟩,I.os,I.bare,I.base,I.loc,I.cell,I.free,I.cJ,fun p hp=>I.pin p (by rw[List.append_nil]at hp;exact hp),I.hok,I.len⟩
  refine wpAny_mono (rz [] s σ H { nx:=fun _ _=>False,rt:=fun _ _=>False } I1 ⟨σD,x,σD1,rv,hev2,fun σ1 H1 C hc rv1 fr1=>⟨C,rfl,hc,rv1,fr1⟩⟩) (fun f s1 q=>?_) fun e s1 z=>by
   have z:E1 e s1:=z;subst hE;exact z
  cases f with
  |next=>
   obtain⟨_,_,_,q⟩:=q;exact q.elim
  |ret u=>
   obtain⟨_,_,_,_,_,q⟩:=q;exact q.elim
  |brk=>
   obtain⟨_,_,_,q⟩:=q;exact q.elim
  |cont=>
   obtain⟨_,_,_,q⟩:=q;exact q.elim
end
section
variable{X:Cx}
def qe:bI X (.builtin "isinstance") (fun xs H Q=>∃ b o u C vs t k,xs=[.ref b,t]/\H b=some (.frz o u)/\(o.cls=.ref C/\o.dict=none)/\o.data=.fields vs/\pU X.K C/\((∃ D,t=.ref D/\PySem.W.kitOne X.K (.ref C) (.ref D)=some k)\/∃ T,t=.ty T/\PySem.W.kitOne X.K (.ref C) (.type T)=some k)/\Q (.bl k) H):=by
 intro pins s σ H xs us Q I r h;obtain⟨b,o,u,C,vs,t,k,rfl,hb,hcd,hd,F,hk,q⟩:=h
 cases r with
 |cons r1 r2=>
  cases r2 with
  |cons r2 r3=>
   cases r3;cases r1
   have J:PySem.W.InstAt s.heap b o C none:=⟨(I.hok _ _ hb).1,hcd.1,by unfold PySem.W.notCls;rw[hd],by rw[hcd.2];trivial⟩
   rcases hk with⟨D,rfl,e⟩ | ⟨T,rfl,e⟩
   ·cases r2
    exact PySem.W.kia_one (rh F) I.kIn J e (fun z=>nomatch z) fun tk=>⟨.bl k,H,I.tok tk,rfl,q⟩
   ·cases r2
    exact PySem.W.kia_one (rh F) I.kIn J e (fun z=>nomatch z) fun tk=>⟨.bl k,H,I.tok tk,rfl,q⟩
def vf(ht:∀ x C,Cls X.K x C->(∃ D,t=.ref D/\PySem.W.kitOne X.K (.ref C) (.ref D)=some (RL.cH x c))\/∃ T,t=.ty T/\PySem.W.kitOne X.K (.ref C) (.type T)=some (RL.cH x c))(h:tE X.K cl (.isx a' c) σ H Q) :
  tCB (fun xs H Q=>∃ b o u C vs t k,xs=[.ref b,t]/\H b=some (.frz o u)/\(o.cls=.ref C/\o.dict=none)/\o.data=.fields vs/\pU X.K C/\((∃ D,t=.ref D/\PySem.W.kitOne X.K (.ref C) (.ref D)=some k)\/∃ T,t=.ty T/\PySem.W.kitOne X.K (.ref C) (.type T)=some k)/\Q (.bl k) H) (hX (tE X.K cl a') (hX (tC t) iO)) σ H Q:=by
 obtain⟨σD,d,rv,e,k⟩:=h;obtain⟨x,ea,e⟩:=bind_some e
 cases x with
 |exc n=>
  cases e;refine⟨σD,_,rv,ea,fun v H1 r1=>?_⟩;have rp:=r1.rep;rw[Rep]at rp;obtain⟨b,o,u,C,vs,rfl,h1,h2,h3,h4,h5⟩:=rp;exact⟨b,o,u,C,vs,t,_,rfl,h1,h2,h3,h5.kin,ht n C h5,k _ _ (dU r1.same)⟩
 | _=>cases e
def CJ(hg:Gl X "isinstance")(hm:X.mg "isinstance" = none)(hgc:Gl X c)(hmc:X.mg c=some (.ref D))(hns:PySem.W.nsIn X.K mainGlobals c=some (some (.ref D)))(hcr:c∈cZ)(hdb:(c == ("__debug__" : Str))=false)(ha:SE X cl a a')(hn:noStar a=true) :
  SE X cl (.Call (.Name "isinstance" p) [a,.Name c p2] [] pos) (.isx a' c) :=
 PE.weak (ff qe hg hm (by decide +kernel) (bh ha (bh (sE (v:=.ref D) hgc hmc rfl hdb) cz) (aw _ hn)) (by decide) (by decide) (aw _ hn) rfl) fun σ H Q h=>vf (fun x C hc=>.inl ⟨D,rfl,(hc.ref hcr hns).1⟩) h
def BK(hg:Gl X "isinstance")(hm:X.mg "isinstance" = none)(hgc:Gl X "ValueError")(hmc:X.mg "ValueError" = none)(ha:SE X cl a a')(hn:noStar a=true):SE X cl (.Call (.Name "isinstance" p) [a,.Name "ValueError" p2] [] pos) (.isx a' "ValueError") :=
 PE.weak (ff qe hg hm (by decide +kernel) (bh ha (bh (tq (v:=.ty "ValueError") hgc hmc PyProof.Rows.Boot.«ValueError» rfl) cz) (aw _ hn)) (by decide) (by decide) (aw _ hn) rfl) fun σ H Q h=>vf (fun x C hc=>.inr ⟨_,rfl,by rw[hc.val];simp[RL.cH]⟩) h
end
def nS:∀ ys:List Str,Str.join ⟨#[]⟩ ys=⟨(ys.flatMap fun s=>s.cps.toList).toArray⟩
 | []=>rfl
 | [x]=>by simp[Str.join]
 | x::y::r=>by
  have ih:=nS (y::r);show x++(⟨#[]⟩:Str)++Str.join ⟨#[]⟩ (y::r)=_;rw[ih];show(⟨(x.cps ++ #[])++(List.flatMap (fun s=>s.cps.toList) (y::r)).toArray⟩:Str)=_;simp
def so:∀ {ys:List Str} {us:List Value},Vals (ys.map V.str) us->StrsAre us ys
 | [],_,r=>by cases r;exact .nil
 | y::ys,_,r=>by
  cases r with
  |cons a b=>
   obtain⟨t,rfl⟩:=a;exact .cons y t (so b)
def qP{P:Addr->Prop}{K:PySem.W.Frag}:∀ {ds:List RL.D} {ss:List Str} {xs:List V},RL.strs? ds=some ss->af P K H ds xs->xs=ss.map V.str
 | [],ss,xs,h,r=>by
  rw[RL.strs?]at h;cases h;rw[af]at r;exact r
 | d::ds,ss,xs,h,r=>by
  rw[af]at r;obtain⟨x,t,rfl,r1,r2⟩:=r
  cases d with
  |str y=>
   rw[RL.strs?]at h;obtain⟨q,h1,h2⟩:=map_some h;subst h2;rw[aQ r1,qP h1 r2];rfl
  | _=>cases h
section
def A8:MtR X "str.join" (fun x xs H Q=>∃ b ys,x=.str ⟨#[]⟩/\xs=[.ref b]/\H b=some (.lst (ys.map V.str))/\(ys.map (·.length)).sum<=16777216/\Q (.str (Str.join ⟨#[]⟩ ys)) H):=by
 intro pins s σ H x xs v us Q I rx r h;obtain⟨b,ys,rfl,rfl,hb,hz,q⟩:=h;obtain⟨t,rfl⟩:=rx;obtain⟨u,rfl,ru⟩:=vals1 r;cases ru;obtain⟨its,rv,ht,_⟩:=I.list (SqL.of hb)
 refine join_list (items:=its.toArray) ht.isList (by simpa using so rv) (by show _+_*0<=_;rw[Nat.mul_zero];exact hz) fun t' k=>⟨.str (Str.join ⟨#[]⟩ ys),H,I.tok _,⟨t',?_⟩,q⟩
 show Value.str (Builtin.Str.glued ⟨#[]⟩ ys) t'=_;rw[PySem.StrLaws.glued_eq_join]
def vi:∀ {ss:List Str},ss.all (fun s=>decide (s.length<=100))=true->(ss.map (·.length)).sum<=100*ss.length
 | [],_=>Nat.le_refl _
 | x::r,h=>by
  rw[List.all_cons,Bool.and_eq_true,decide_eq_true_eq]at h;have:=vi h.2;rw[List.map_cons,List.sum_cons,List.length_cons];omega
def AI(ha:SE X cl a a')(hn:noStar a=true)(hline:(apos.endLine == pos.line)=true):SE X cl (.Call (.Attribute (.Constant (.str ⟨#[]⟩) j p) "join" apos) [a] [] pos) (.join a'):=by
 refine PE.weak (zP PySem.F.plainAttrs_str PySem.F.slot_str_join PySem.F.type_str_join A8 qE (bh ha cz (aw [] hn)) rfl ?_ hline (aw [] hn) rfl) fun σ H Q h=>?_
 ·rw[aw [] hn];rfl
 obtain⟨σD,d,rv,e,k⟩:=h;obtain⟨x,ea,e⟩:=bind_some e
 cases x with
 |lst ds=>
  obtain⟨ss,e1,e2⟩:=bind_some e;split at e2
  ·rename_i hz;cases e2;refine⟨rfl,σD,_,rv,ea,fun v H1 r1=>?_⟩;obtain⟨b,xs,rfl,_,f2,f3⟩:=aC r1.rep;rw[qP e1 f3]at f2;have hs:=vi hz.2;have hm:RL.most=100000:=rfl;refine⟨b,ss,rfl,rfl,f2,by omega,?_⟩;rw[nS];exact k _ _ (cS r1.same gq rfl)
  ·cases e2
 | _=>cases e
end
end RS
namespace L2
open PySem PySem.Spec PyProof.Rows
structure jh(k:Nat)(A:Around):Prop where
 dp:A.depth+3*k+5<recursionLimit
 un:A.units+16*k+200<cLine
def cw.h(r:cw k A):jh k A:=⟨r.dp,r.un⟩
abbrev HXH(A:Around)(H:Hp):Prop:=A.handled=none\/∃ h o u vs,A.handled=some (.ref h)/\H h=some (.frz o u)/\o.data=.fields vs/\vs[2]?=some .none
structure m6(P:Program)(w:World)(K:PySem.W.Frag)(mg:Str->Option Value)(base:Heap)(k:Nat)(f:Addr)(fd:FuncData)(ps:List Str)(sp:Sp):Prop where
 len:∀ vs H Q,sp vs H Q E0->vs.length=ps.length
 run:∀ (A:Around) (outer:List Env) (s:Shared) (H:Hp) (us:List Value) (vs:List V) (Q:VK),jh k A->HXH A H->qB P w K mg base A outer s H->BindsTo s fd ⟨us,[]⟩ (ps.zip us)->Vals vs us->sp vs H Q E0->codeAny (model P w) A (.call (.ref f) ⟨us,[]⟩) (CR CX0 outer P w H s Q E0) s
@[reducible]noncomputable def cxH(P:Program)(w:World)(K:PySem.W.Frag)(mg:Str->Option Value)(base:Heap)(N:List Str)(qual:Str)(scope:Scope)(f:Addr)(cd:Value)(A:Around)(outer:List Env)(s:Shared)(H:Hp):Cx:={ (gD CX0 P w K mg base N qual scope f cd A outer s H E0).nox with calm:=false }
section
variable{K:PySem.W.Frag}{st:Stmt}
def Fun.okH(F:Fun K x qual st f fd)(S:fh N ps (aN st))(len:∀ vs H Q,sp vs H Q E0->vs.length=ps.length)
 (hbody:∀ (cdv:Value) (A:Around) (outer:List Env) (s:Shared) (H:Hp) (vs:List V) (Q:VK),jh k (A.deeper (envOfC qual (aN st) s.heap.objs.size f cdv))->sp vs H Q E0->∃ t,PSs (cxH P w K mg base N qual (aN st) f cdv A outer s H) (cC st) t/\t { nx:=fun _ H'=>Q .non H',rt:=Q } (start N vs) H):m6 P w K mg base (k+1) f fd ps sp:=by
 obtain⟨oc,od,kV,doc,pm,an,cdv,ct,osl,rfl,lk,hcd⟩:=F.ex;refine⟨len,fun A outer s H us vs Q hr hx e0 hb r hsp=>?_⟩;have hl:=len _ _ _ hsp;have KX:K.In s.heap:=e0.mod.kin.keeps fun b o e=>(e0.bs b o e).1
 have kinds:∀ y∈ps.zip us,(aN st).names.lookup y.1=some .local\/((aN st).names.lookup y.1=some .cell/\((cellsFrom (s.heap.objs.size+1) (aN st).names []).lookup y.1).isSome=true):=fun⟨n,v⟩ hy=>(S.par n (List.of_mem_zip hy).1).imp (fun q=>q) fun q=>⟨q,PySem.W.cellsFrom_some _ _ _ (.inl q)⟩
 refine codeAny_call_function (by have:=hr.dp;omega) (KX _ _ lk) rfl S.co S.gen rfl (PySem.W.codeRec_of KX hcd) (hb _ _ _ _ ?_);refine wpAny_newFunctionEnv_cells S.kind kinds fun env he s1 y=>?_;subst he;refine⟨(e0.mod.nolimit.keeps fun b o e=>(e0.bs b o e).1).keeps y.toInCall.keep,codeAny_func ?_⟩
 have hr':jh k (A.deeper (envOfC qual (aN st) s.heap.objs.size f cdv)):=⟨by have:=hr.dp;show A.depth+1+3*k+5<_;omega,by have:=hr.un;show A.units+3+16*k+200<_;omega⟩
 obtain⟨t,ht,hq⟩:=hbody cdv A outer s H vs Q hr' hsp;have I0:Inv (gD CX0 P w K mg base N qual (aN st) f cdv { A with handled:=none } outer s H E0) [] (start N vs) H s1:=nR (A:={ A with handled:=none }) S rfl ⟨e0.frames,e0.mod,e0.bs,e0.bsz,e0.dD,e0.frf,e0.hok,e0.bare⟩ hl r y
 have I:Inv (cxH P w K mg base N qual (aN st) f cdv A outer s H) [] (start N vs) H s1:=⟨⟨I0.ok.mod,I0.ok.kind,I0.ok.glob,I0.ok.blt,I0.ok.above,I0.ok.inj,I0.ok.has,I0.ok.cab,⟨fun z=>(nomatch z),hx⟩,Around.frames_deeper e0.frames,I0.ok.stk,I0.ok.exf,I0.ok.bs,I0.ok.bsz,I0.ok.jn,I0.ok.iM,I0.ok.dD,I0.ok.frf⟩,I0.os,I0.bare,I0.base,I0.loc,I0.cell,I0.free,I0.cJ,I0.pin,I0.hok,I0.len⟩
 refine wpAny_mono (ht [] s1 (start N vs) H _ I hq) (fun fl s' hs=>?_) fun e s' hs=>hs.elim
 cases fl with
 |ret u=>
  obtain⟨v,σ',H',J,rv,q⟩:=hs;exact⟨v,H',J.os,J.bare,J.base,J.hok,rv,q⟩
 |next=>
  obtain⟨σ',H',J,q⟩:=hs;exact⟨.non,H',J.os,J.bare,J.base,J.hok,rfl,q⟩
 |brk=>
  obtain⟨_,_,_,q⟩:=hs;exact q.elim
 |cont=>
  obtain⟨_,_,_,q⟩:=hs;exact q.elim
def Fun.okX(F:Fun K x qual st f fd)(S:fh N ps (aN st))(len:∀ vs H Q E,sp vs H Q E->vs.length=ps.length)
 (hbody:∀ (cdv:Value) (A:Around) (outer:List Env) (s:Shared) (H:Hp) (vs:List V) (Q:VK) (E:XK),cw k (A.deeper (envOfC qual (aN st) s.heap.objs.size f cdv))->sp vs H Q E->∃ t,PSs (gD (CXE P w) P w K mg base N qual (aN st) f cdv A outer s H E) (cC st) t/\t { nx:=fun _ H'=>Q .non H',rt:=Q } (start N vs) H):d5 P w K mg base (CXE P w) (k+1) f fd ps sp:=by
 obtain⟨oc,od,kV,doc,pm,an,cdv,ct,osl,rfl,lk,hcd⟩:=F.ex;exact zH lk hcd S len fun A outer s H vs Q E hr hsp=>hbody cdv A outer s H vs Q E hr hsp
end
def yg(F:m6 X.prog X.w X.K X.mg X.base k f fd ps sp)(hr:jh k X.A)(hg:Gl X x)(hm:X.mg x=some (.ref f))(hk:PySem.W.keepIn X.K (.ref f)=true)
 (hb:Binds X.K fd ps [])(ha:PA X (e::es) t)(hdb:(x == ("__debug__" : Str))=false)(he:starEach (e::es) X.env=(false,eval e X.env)::starEach es X.env)(hpl:(backTo pos (starEach es X.env)).any (·.1)=false) :
  PE X (.Call (.Name x p) (e::es) [] pos) (fun σ H Q=>t σ H fun vs H1=>sp vs H1 Q E0):=by
 intro pins s σ H Q I h;refine wpAny_Call_Name_kw (fj I hg hm ?_ hdb);refine PySem.W.callWith_K (h₀:=X.base) I.ok.mod.kin hk (thn (ha pos pins s σ H _ I h) fun us s1 ⟨vs,H1,I1,r,q⟩=>⟨I1.kIn,?_⟩) he hpl
 have hl:us.length=ps.length:=by rw[<-r.length];exact F.len _ _ _ q
 have hbb:=hb s1 us I1.kIn (by rw[List.append_nil];exact hl);rw[List.append_nil]at hbb
 have hx:HXH X.A H1:=by
  rcases I1.ok.hd.2 with z | ⟨h,o,u,vs,h1,h2,h3⟩
  ·exact .inl z
  ·exact .inr ⟨h,o,u,vs,h1,I1.base.cR _ _ _ h2,h3⟩
 refine wpAny_call (codeAny_mono (F.run X.A X.stack s1 H1 us vs Q hr hx I1.yn hbb r q) fun r s' hq=>?_)
 cases r with
 | error e=>exact hq.elim
 |ok fl=>
  cases fl with
  | ret u=>exact I1.after hq
  | next=>exact False.elim hq
  | brk=>exact False.elim hq
  | cont=>exact False.elim hq
end L2
namespace RS
open PySem PySem.Spec PyProof.Rows L2
abbrev Aa:Expr->Option (List Expr)
 | .JoinedStr vs _=>some vs
 | _=>none
def xU{e:Expr}{vs:List Expr}(h:Aa e=some vs):∃ p,e=.JoinedStr vs p:=by
 cases e
 case JoinedStr=>cases h;exact⟨_,rfl⟩
 all_goals exact nos h
abbrev DI:Expr->Option (Expr × Int × Option Expr)
 | .FormattedValue e c s _=>some (e,c,s)
 | _=>none
def Ag{e x:Expr}{c:Int}{s:Option Expr}(h:DI e=some (x,c,s)):∃ p,e=.FormattedValue x c s p:=by
 cases e
 case FormattedValue=>cases h;exact⟨_,rfl⟩
 all_goals exact nos h
abbrev wb:Stmt->Option (Option Expr × Option Expr)
 | .Raise e c _=>some (e,c)
 | _=>none
def vc{st:Stmt}{e c:Option Expr}(h:wb st=some (e,c)):∃ p,st=.Raise e c p:=by
 cases st
 case Raise=>cases h;exact⟨_,rfl⟩
 all_goals exact nos h
abbrev CQ:Stmt->Option (List Stmt × List ExceptHandler × List Stmt × List Stmt)
 | .Try b h o f _=>some (b,h,o,f)
 | _=>none
def AV{st:Stmt}{b o f:List Stmt}{h:List ExceptHandler}(z:CQ st=some (b,h,o,f)):∃ p,st=.Try b h o f p:=by
 cases st
 case Try=>cases z;exact⟨_,rfl⟩
 all_goals exact nos z
abbrev p7:ExceptHandler->Option Expr × Option Str × List Stmt
 | .ExceptHandler t n b _=>(t,n,b)
structure CC where
 N:List Str
 sc:Scope
 B:List Str
 G:List (Str × Int)
 F:List (Str × List Nat)
 calm:Bool
 hf:List Nat
 Xr:List Str
 Xs:List Str
abbrev BO(scope sc:Scope):Scope:={ scope with names:=scope.names.map fun(n,k)=>if(k == NameKind.free&&sc.kind == .function&&sc.names.lookup n == some .cell)then(n,NameKind.cell)else(n,k) }
abbrev CC.inner(C:CC)(scope:Scope):CC:={ C with sc:=BO scope C.sc }
abbrev iy(x:Str):Bool:=!(x == ("__debug__" : Str)) && !(x == ("__classdict__" : Str))
abbrev yw(C:CC)(x:Str):Bool:=C.sc.names.lookup x == some .local || C.sc.names.lookup x == some .cell
abbrev zd(C:CC)(x:Str):Bool:=C.sc.names.lookup x == some .local || C.sc.names.lookup x == some .cell || C.sc.names.lookup x == some .free
abbrev glB(C:CC)(x:Str):Bool:=C.sc.names.lookup x == some .globalImplicit&&iy x
abbrev ll(C:CC)(x:Str):Bool:=glB C x&&C.B.contains x
abbrev nmB(C:CC)(i:Nat)(x:Str):Bool:=C.N[i]? == some x&&iy x
structure XOk(C:CC)(X:Cx)(cl:RL.Cl):Prop where
 scope:X.env.scope=C.sc
 names:X.N=C.N
 nd:C.N.Nodup
 calm:C.calm=true->X.calm=true
 xe:X.xe=fun _ _=>False
 hu:X.A.units+100<cLine
 blt:∀ x∈C.B,X.mg x=none
 glb:∀ x i,C.G.lookup x=some i->∃ u,X.mg x=some u/\RelV (.int i) u
 fns:∀ (f:Nat) (x:Str) (mp:List Nat),C.calm=true->C.F[f]?=some (x,mp)->∃ k fa fd ps,d5 X.prog X.w X.K X.mg X.base CX0 k fa fd ps (if mp=[]then spF X.K cl f else spM X.K cl mp f)/\cw k X.A/\X.mg x=some (.ref fa)/\PySem.W.keepIn X.K (.ref fa)=true/\Binds X.K fd ps []
 hfn:∀ (f:Nat) (x:Str),C.hf.contains f=true->C.F[f]?=some (x,[])->∃ k fa fd ps,m6 X.prog X.w X.K X.mg X.base k fa fd ps (spF X.K cl f)/\jh k X.A/\X.mg x=some (.ref fa)/\PySem.W.keepIn X.K (.ref fa)=true/\Binds X.K fd ps []
 cls:∀ c,C.Xr.contains c=true->∃ D,X.mg c=some (.ref D)/\Cls X.K c D
 ref:∀ c,C.Xs.contains c=true->∃ D,X.mg c=some (.ref D)/\PySem.W.nsIn X.K mainGlobals c=some (some (.ref D))
section
variable{C:CC}{X:Cx}{cl:RL.Cl}{e:Expr}
def XOk.vis(h:XOk C X cl){x:Str}(v:zd C x=true):Vis X.env.scope x:=by
 unfold zd at v;rw[<-h.scope,Bool.or_eq_true,Bool.or_eq_true,beq_iff_eq,beq_iff_eq,beq_iff_eq]at v;rcases v with(v | v) | v
 ·exact .inl v
 ·exact .inr (.inl v)
 ·exact .inr (.inr v)
def XOk.loc(h:XOk C X cl){x:Str}(v:yw C x=true):Loc X.env.scope x:=by
 unfold yw at v;rw[<-h.scope,Bool.or_eq_true,beq_iff_eq,beq_iff_eq]at v;exact v
def bM{x:Str}(h:iy x=true):(x == ("__debug__" : Str))=false/\(x == ("__classdict__" : Str))=false:=by
 unfold iy at h;rw[Bool.and_eq_true,Bool.not_eq_true',Bool.not_eq_true']at h;exact h
def XOk.gl(h:XOk C X cl){x:Str}(v:glB C x=true):Gl X x/\iy x=true:=by
 unfold glB at v;rw[<-h.scope,Bool.and_eq_true,beq_iff_eq]at v;exact v
def XOk.bl(h:XOk C X cl){x:Str}(v:ll C x=true):Gl X x/\X.mg x=none:=by
 unfold ll at v;rw[Bool.and_eq_true]at v;exact⟨(h.gl v.1).1,h.blt x (by simpa using v.2)⟩
def XOk.nm(h:XOk C X cl){i:Nat}{x:Str}(v:nmB C i x=true):X.N[i]?=some x/\iy x=true:=by
 unfold nmB at v;rw[<-h.names,Bool.and_eq_true,beq_iff_eq]at v;exact v
def XOk.ndX(h:XOk C X cl):X.N.Nodup:=by rw[h.names];exact h.nd
def XOk.blk(h:XOk C X cl){scope:Scope}(cls:List (Str × Addr))(Ca:Addr)(fp:List Addr)(s:Shared)(H:Hp):XOk (C.inner scope) (L2.blk X scope cls Ca fp s H) cl where
 scope:=by
  show relabel scope X.env=BO scope C.sc;rw[<-h.scope];rfl
 names:=h.names
 nd:=h.nd
 calm:=h.calm
 xe:=rfl
 hu:=h.hu
 blt:=h.blt
 glb:=h.glb
 fns:=h.fns
 hfn:=h.hfn
 cls:=h.cls
 ref:=h.ref
abbrev gW:RL.D->Const->Bool
 | .int i,.int j=>i == j
 | .bl i,.bool j=>i == j
 | .non,.none=>true
 | .str x,.str y=>x == y
 | _,_=>false
abbrev plainT:Expr->Bool
 | .UnaryOp .Not _ _=>false
 | .BoolOp _ _ _=>false
 | .IfExp _ _ _ _=>false
 | .Compare _ _ _ _=>false
 | _=>true
abbrev pR:Expr->Bool
 | .BoolOp _ _ _=>true
 | _=>false
abbrev lX:Expr->Bool
 | .Set _ _ _=>false
 | _=>true
abbrev ub:RL.Bi->Option Str
 | .len=>some "len"
 | .list=>some "list"
 | .tuple=>some "tuple"
 | .int=>some "int"
 | .all=>some "all"
 | _=>none
abbrev pJ:RL.Ty->Str
 | .int => "int"
 | .bool => "bool"
 | .list => "list"
 | .tuple => "tuple"
 | .str => "str"
abbrev Gu(neg:Bool):CmpOp:=if neg then .IsNot else .Is
abbrev GK(neg:Bool):CmpOp:=if neg then .NotIn else .In
abbrev p6(C:CC)(i:Nat)(e:Expr):Bool:=(d9 e).any fun x=>nmB C i x&&zd C x
abbrev gX(C:CC)(i:Nat)(e:Expr):Bool:=(d9 e).any fun x=>nmB C i x&&yw C x
abbrev ko(C:CC):List Nat->List Expr->Bool
 | [],es=>es.isEmpty
 | i::is,es=>match es with
  | e::es=>gX C i e&&ko C is es
  | []=>false
abbrev mT(C:CC)(tg:List Nat)(e:Expr):Bool :=
 match tg with
 | [i]=>gX C i e
 | tg=>(j8 e).any fun es=>ko C tg es
abbrev lO(C:CC)(scope:Scope)(tg:List Nat):Bool:=tg.all fun i=>match C.N[i]? with
 | some x=>scope.names.lookup x == some .local || scope.names.lookup x == some .cell
 | none=>false
abbrev lZ(C:CC)(scope:Scope)(tg:List Nat):Bool:=(List.range C.N.length).all fun i=>match C.N[i]? with
 | some x=>!(scope.names.lookup x == some .local || scope.names.lookup x == some .cell) || tg.contains i
 | none=>true
abbrev scB(scope sc:Scope):Bool:=scope.kind == .function&&scope.names.all (fun x=>(!(x.2 == .cell) || scope.names.lookup x.1 == some .cell)&&(!(x.2 == .local) || scope.names.lookup x.1 == some .local)&&(!(x.2 == .free) || sc.names.lookup x.1 == some .cell || sc.names.lookup x.1 == some .free))
abbrev bG(C:CC)(e:Expr)(nm:Str)(f:List Expr->Bool):Bool:=(hG e).any fun q=>(d9 q.1).any (fun x=>x == nm&&ll C x)&&q.2.2.1.isEmpty&&q.2.1.all noStar&&f q.2.1
def bj{nm:Str}{f:List Expr->Bool}(h:XOk C X cl)(z:bG C e nm f=true):∃ p as pos,e=.Call (.Name nm p) as [] pos/\Gl X nm/\X.mg nm=none/\as.all noStar=true/\f as=true:=by
 unfold bG at z;obtain⟨⟨g,as,ks,pos⟩,z0,z⟩:=ai z;have e0:=dH z0;subst e0;obtain⟨z,z4⟩:=ae z;obtain⟨z,z3⟩:=ae z;obtain⟨z1,z2⟩:=ae z;obtain⟨x,y0,z1⟩:=ai z1;obtain⟨p,rfl⟩:=cj y0;obtain⟨y1,y2⟩:=ae z1;rw[beq_iff_eq]at y1;subst y1;obtain⟨b1,b2⟩:=h.bl y2;rw[List.isEmpty_iff]at z2;subst z2;exact⟨p,as,pos,rfl,b1,b2,z3,z4⟩
def all1{a:Expr}(h:[a].all noStar=true):noStar a=true:=by simpa using h
def all2{a b:Expr}(h:[a,b].all noStar=true):noStar a=true/\noStar b=true:=by simpa using h
def jd{a b c:Expr}(h:[a,b,c].all noStar=true):noStar a=true/\noStar b=true/\noStar c=true:=by simpa using h
end
abbrev uc:RL.It->Bool
 | .zip _ _=>true
 | _=>false
mutual
noncomputable def chk(C:CC)(t:Bool):RL.E->Expr->Bool
 | .var i=>fun e=>p6 C i e
 | .cst d=>fun e=>(nh e).any fun k=>gW d k
 | .glb y i=>fun e=>(d9 e).any fun x=>x == y&&glB C x&&C.G.lookup x == some i
 | .bin o a b=>fun e=>(C1 e).any fun q=>q.2.1 == qm o&&chk C false a q.1&&chk C false b q.2.2
 | .neg a=>fun e=>(vUn e).any fun q=>q.1 == .USub&&chk C false a q.2
 | .cmp c a b=>fun e=>(nc e).any fun q=>of1 q.2.1 fun op=>of1 q.2.2 fun r=>op == d7 c&&chk C false a q.1&&chk C false b r
 | .chain c c' a b d=>fun e=>(nc e).any fun q=>of2 q.2.1 fun op op'=>of2 q.2.2 fun r s=>op == d7 c&&op' == d7 c'&&chk C false a q.1&&chk C false b r&&chk C false d s
 | .isN neg a=>fun e=>(nc e).any fun q=>of1 q.2.1 fun op=>of1 q.2.2 fun r=>op == Gu neg&&(nh r).any (fun k=>gW .non k)&&chk C false a q.1
 | .inD neg a b=>fun e=>(nc e).any fun q=>of1 q.2.1 fun op=>of1 q.2.2 fun r=>op == GK neg&&uo r&&chk C false a q.1&&chk C false b r
 | .and a b=>fun e=>(vBool e).any fun q=>ofM q.2.1 fun l r rest=>q.1 == .And&&chk C t a l&&(if rest.isEmpty then chk C t b r else chk C t b (.BoolOp .And (r::rest) q.2.2))
 | .or a b=>fun e=>(vBool e).any fun q=>ofM q.2.1 fun l r rest=>q.1 == .Or&&chk C t a l&&(if rest.isEmpty then chk C t b r else chk C t b (.BoolOp .Or (r::rest) q.2.2))
 | .not a=>fun e=>(vUn e).any fun q=>q.1 == .Not&&chk C t a q.2
 | .ifx c a b=>fun e=>(CT e).any fun q=>!t&&chk C true c q.1&&chk C false a q.2.1&&chk C false b q.2.2
 | .tup es=>fun e=>(j8 e).any fun xs=>ka C es xs&&decide (eh es<=1000)
 | .lst es=>fun e=>(C3 e).any fun xs=>ka C es xs&&decide (eh es<=1000)
 | .ix a b=>fun e=>(pS e).any fun q=>kT q.2&&chk C false a q.1&&chk C false b q.2
 | .ixD a b=>fun e=>(pS e).any fun q=>kT q.2&&chk C false a q.1&&chk C false b q.2
 | .slT a b=>fun e=>(pS e).any fun q=>chk C false a q.1&&(vSl q.2).any fun s=>s.1.isNone&&s.2.2.isNone&&s.2.1.any fun r=>chk C false b r
 | .call f es=>fun e=>(C.calm || C.hf.contains f)&&(hG e).any fun q=>(d9 q.1).any (fun x=>glB C x&&C.F[f]? == some (x,[]))&&q.2.2.1.isEmpty && !q.2.1.isEmpty&&ka C es q.2.1
 | .call0 f=>fun e=>C.calm&&(hG e).any fun q=>(d9 q.1).any (fun x=>glB C x&&C.F[f]? == some (x,[]))&&q.2.2.1.isEmpty&&q.2.1.isEmpty
 | .bi b a=>fun e=>C.calm&&match b with
  | .lenSet=>bG C e "len" fun ys=>of1 ys fun y=>bG C y "set" fun zs=>of1 zs fun z=>chk C false a z
  | b=>(ub b).any fun x=>bG C e x fun ys=>of1 ys fun y=>chk C false a y
 | .max a b=>fun e=>C.calm&&bG C e "max" fun ys=>of2 ys fun y z=>chk C false a y&&chk C false b z
 | .isi a ty=>fun e=>bG C e "isinstance" fun ys=>of2 ys fun y z=>(d9 z).any (fun x=>x == pJ ty&&ll C x)&&chk C false a y
 | .rng1 a=>fun e=>C.calm&&bG C e "list" fun ys=>of1 ys fun y=>bG C y "range" fun zs=>of1 zs fun z=>chk C false a z
 | .rngT a=>fun e=>C.calm&&bG C e "tuple" fun ys=>of1 ys fun y=>bG C y "range" fun zs=>of1 zs fun z=>chk C false a z
 | .rng2 a b=>fun e=>C.calm&&bG C e "list" fun ys=>of1 ys fun y=>bG C y "range" fun zs=>of2 zs fun z u=>chk C false a z&&chk C false b u
 | .rng3 c a b=>fun e=>C.calm&&bG C e "list" fun ys=>of1 ys fun y=>bG C y "range" fun zs=>of3 zs fun z u q=>gZ c q&&chk C false a z&&chk C false b u
 | .comp d tg it c=>fun e=>(tO e).any fun q=>of1 q.2.1 fun g=>of1 g.ifs fun w=>g.is_async == 0&&scB q.2.2.1 C.sc&&lZ C q.2.2.1 tg&&lX g.iter&&mT (C.inner q.2.2.1) tg g.target&&lO C q.2.2.1 tg&&qh C it g.target g.iter&&chk (C.inner q.2.2.1) false d q.1&&chk (C.inner q.2.2.1) true c w&&(C.calm || uc it)
 | .compA d tg it=>fun e=>(tO e).any fun q=>of1 q.2.1 fun g=>g.ifs.isEmpty&&g.is_async == 0&&scB q.2.2.1 C.sc&&lZ C q.2.2.1 tg&&lX g.iter&&mT (C.inner q.2.2.1) tg g.target&&lO C q.2.2.1 tg&&qh C it g.target g.iter&&chk (C.inner q.2.2.1) false d q.1&&C.calm
 | .dk0=>fun e=>(u5 e).any fun q=>q.1.isEmpty&&q.2.isEmpty
 | .dt0=>fun e=>(u5 e).any fun q=>q.1.isEmpty&&q.2.isEmpty
 | .join a=>fun e=>(hG e).any fun q=>(tY q.1).any (fun u=>u.2.1 == ("join" : Str)&&u.2.2.endLine == q.2.2.2.line&&(nh u.1).any fun k=>gW (.str ⟨#[]⟩) k)&&q.2.2.1.isEmpty&&of1 q.2.1 fun y=>noStar y&&chk C false a y
 | .isx a c=>fun e=>bG C e "isinstance" fun ys=>of2 ys fun y z=>(d9 z).any (fun x=>x == c&&(if c == ("ValueError" : Str)then ll C x else glB C x&&C.Xs.contains x&&cZ.contains x))&&chk C false a y
noncomputable def ka(C:CC):RL.Es->List Expr->Bool
 | .nil=>fun xs=>xs.isEmpty
 | .cons e es=>fun xs=>match xs with
  | x::xs=>noStar x&&chk C false e x&&ka C es xs
  | []=>false
noncomputable def qh(C:CC):RL.It->Expr->Expr->Bool
 | .seq a=>fun _ e=>chk C false a e
 | .rng1 a=>fun _ e=>bG C e "range" fun ys=>of1 ys fun y=>chk C false a y
 | .rng2 a b=>fun _ e=>bG C e "range" fun ys=>of2 ys fun y z=>chk C false a y&&chk C false b z
 | .rng3 c a b=>fun _ e=>bG C e "range" fun ys=>of3 ys fun y z q=>gZ c q&&chk C false a y&&chk C false b z
 | .enm a=>fun tg e=>(j8 tg).isSome&&bG C e "enumerate" fun ys=>of1 ys fun y=>chk C false a y
 | .zip a b=>fun tg e=>(j8 tg).isSome&&bG C e "zip" fun ys=>of2 ys fun y z=>chk C false a y&&chk C false b z
end
abbrev qk(X:Cx)(cl:RL.Cl)(e:Expr)(e':RL.E)(b b':Bool):Prop:=(b=true->SE X cl e e')/\(b'=true->ST X cl e e'/\(pR e=true->SW X cl e e'))
section
variable{C:CC}{X:Cx}{cl:RL.Cl}{e:Expr}{e':RL.E}{b:Bool}
def u9{env:Env}(h:plainT e=true)(whole:Sem Value):isTrue e env whole=(do let v <- whole;standAt e.pos;holding [v] (truthy v)):=by
 cases e<;>first
  | rfl
  | (cases h;done)
  | (rename_i op _ _;cases op<;>first | rfl | (cases h;done))
def aB(h:b=true->SE X cl e e'/\plainT e=true):qk X cl e e' b b :=
 ⟨fun z=>(h z).1,fun z=>⟨yq (h z).1 (u9 (h z).2),fun q=>by
  have:=(h z).2
  cases e<;>first | (cases q;done) | (cases this;done)⟩⟩
def jc(h:b=true->SE X cl e e'/\ST X cl e e'/\pR e=false):qk X cl e e' b b :=
 ⟨fun z=>(h z).1,fun z=>⟨(h z).2.1,fun q=>by rw[(h z).2.2]at q;cases q⟩⟩
def GP(h:b=false){b':Bool}(h':b'=false):qk X cl e e' b b':=⟨fun z=>(by rw[h]at z;cases z),fun z=>(by rw[h']at z;cases z)⟩
def DE{d:RL.D}{k:Const}{j:Nat}{pos:Pos}(h:gW d k=true):SE X cl (.Constant k j pos) (.cst d):=by
 cases d<;>cases k<;>simp only[gW]at h<;>first | (cases h;done) | skip
 case non.none=>exact mm pE (fun P H=>by rw[Rep]) rfl
 case bl.bool i j=>rw[beq_iff_eq]at h;subst h;exact mm EO (fun P H=>qU) rfl
 case int.int i j=>rw[beq_iff_eq]at h;subst h;exact mm pH (fun P H=>bq) rfl
 case str.str i j=>rw[beq_iff_eq]at h;subst h;exact mm qE (fun P H=>gq) rfl
def B6{k:Const}(h:gW .non k=true):k=.none:=by
 cases k<;>simp only[gW]at h<;>first | (cases h;done) | rfl
def vX(t:RL.Ty):bootBuiltins (pJ t)=some (.type (tyN t))/\pJ t ≠ "__name__" /\ (pJ t == ("__debug__" : Str))=false:=by
 cases t<;>exact⟨by decide +kernel,by decide +kernel,by decide +kernel⟩
def dC(h:lX e=true)(env:Env)(x:Value):foldedSetIterable e env x=pure x:=by
 cases e<;>first | rfl | (cases h;done)
def FE(hcalm:X.calm=true){o:RL.Bi}{x:Str}{p pos:Pos}{y:Expr}{a':RL.E}(hx:ub o=some x)(hb:Gl X x)(hb2:X.mg x=none)(ha:SE X cl y a')(hn:noStar y=true):SE X cl (.Call (.Name x p) [y] [] pos) (.bi o a'):=by
 cases o<;>simp only[ub]at hx<;>first | (cases hx;done) | skip
 case len=>cases hx;exact EF hb hb2 ha hn
 case list=>cases hx;exact B9 hb hb2 ha hn
 case tuple=>cases hx;exact yk hb hb2 ha hn
 case int=>cases hx;exact Dd hb hb2 ha hn
 case all=>cases hx;exact BZ hcalm hb hb2 ha hn
def vH{r:Expr}(h:kT r=true):uP r:=by
 cases r<;>first | (cases h;done) | (intro a b;rfl) | skip
def i8{i:Nat}(h:XOk C X cl)(z:p6 C i e=true):∃ x p,e=.Name x p/\X.N[i]?=some x/\Vis X.env.scope x/\(x == ("__debug__" : Str))=false/\(x == ("__classdict__" : Str))=false:=by
 obtain⟨x,z0,z⟩:=ai z;obtain⟨p,rfl⟩:=cj z0;obtain⟨z1,z2⟩:=ae z;obtain⟨g1,g2⟩:=h.nm z1;exact⟨x,p,rfl,g1,h.vis z2,(bM g2).1,(bM g2).2⟩
def gH{i:Nat}(h:XOk C X cl)(z:gX C i e=true):∃ x p,e=.Name x p/\X.N[i]?=some x/\Loc X.env.scope x:=by
 obtain⟨x,z0,z⟩:=ai z;obtain⟨p,rfl⟩:=cj z0;obtain⟨z1,z2⟩:=ae z;exact⟨x,p,rfl,(h.nm z1).1,h.loc z2⟩
def kg(h:XOk C X cl){T:List Nat}(hf:∀ i x,i∈T->X.N[i]?=some x->X.fn x=true\/X.env.scope.names.lookup x=some .local):∀ {is:List Nat} {es:List Expr},(∀ i∈is,i∈T)->ko C is es=true->PGs X es (gs is)/\(assignEach es X.env).length=is.length/\(assignEach es X.env).findIdx? (·.1)=none
 | [],es,_,z=>by
  rw[ko,List.isEmpty_iff]at z;subst z;exact⟨Ar,rfl,rfl⟩
 | i::is,[],_,z=>by cases z
 | i::is,e::es,hs,z=>by
  rw[ko]at z;obtain⟨z1,z2⟩:=ae z;obtain⟨x,p,rfl,g1,g2⟩:=gH h z1;obtain⟨h1,h2,h3⟩:=kg h hf (fun j hj=>hs j (List.mem_cons_of_mem _ hj)) z2;refine⟨zr (t5 h.ndX g1 g2 (hf i x (hs i List.mem_cons_self) g1)) h1,?_,?_⟩
  ·show(assignEach es X.env).length+1=is.length+1;rw[h2]
  ·show List.findIdx? (·.1) ((false,assign (.Name x p) X.env)::assignEach es X.env)=none;rw[List.findIdx?_cons];simp only[Bool.false_eq_true,if_false,h3,Option.map_none]
def qo{tg:List Nat}{tgE:Expr}(h:XOk C X cl)(hf:∀ i x,i∈tg->X.N[i]?=some x->X.fn x=true\/X.env.scope.names.lookup x=some .local)(hc:mT C tg tgE=true):PG X tgE (gT X.K tg):=by
 unfold mT at hc;split at hc
 ·obtain⟨x,p,rfl,g1,g2⟩:=gH h hc;exact t5 h.ndX g1 g2 (hf _ x (by simp) g1)
 ·rename_i hne;obtain⟨es,z0,z⟩:=ai hc;obtain⟨k,p,rfl⟩:=dP z0;obtain⟨h1,h2,h3⟩:=kg h hf (fun i hi=>hi) z
  have e:gT X.K tg=fun v σ H Q=>nv X.K tg.length (gs tg) v σ H Q\/nL X.K tg.length (gs tg) v σ H Q:=by
   unfold gT;split
   ·rename_i i;exact absurd rfl (hne i)
   ·rfl
  rw[e];exact rN (mK h1 h2 h3) (nG h1 h2 h3)
section rulesH
variable{pos:Pos}
def yo(F:m6 X.prog X.w X.K X.mg X.base k fa fd ps (spF X.K cl f))(hr:jh k X.A)(hg:Gl X x)
 (hm:X.mg x=some (.ref fa))(hk:PySem.W.keepIn X.K (.ref fa)=true)(hb:Binds X.K fd ps [])(he:SEs X cl (e::es) (.cons e' es'))(hdb:(x == ("__debug__" : Str))=false)(hn:noStar e=true)(hns:es.all noStar=true) :
  SE X cl (.Call (.Name x p) (e::es) [] pos) (.call f (.cons e' es')):=by
 refine PE.weak (yg F hr hg hm hk hb he hdb (aw es hn) (cN hns)) fun σ H Q h=>?_;obtain⟨σD,d,rv,ev,q⟩:=h;obtain⟨ds,e1,e2⟩:=bind_some ev;refine⟨σD,ds,rv,e1,fun vs H1 s1 r1=>?_⟩;refine⟨ds,d,r1,e2,fun v H2 s2 r2=>q v H2 ⟨s1.trans s2,r2.none,fun _ m a z=>?_,fun M _ P hP _=>?_⟩⟩
 ·subst z
  have hh:H1 a=none:=by
   cases d with
   | lst ds=>obtain⟨p,xs,e1,e2,_⟩:=aC r2;cases e1;exact Classical.byContradiction e2
   | dK ks ds=>rw[Rep]at r2;obtain⟨p,xs,e1,e2,_⟩:=r2;cases e1;exact Classical.byContradiction e2
   | dT ks ds=>rw[Rep]at r2;obtain⟨p,xs,e1,e2,_⟩:=r2;cases e1;exact Classical.byContradiction e2
   | _=>cases m
  exact s1.free hh
 ·refine r2.weak fun a z=>?_;obtain⟨o,ho⟩:=Option.ne_none_iff_exists'.mp (hP a z);rw[s1 _ _ ho]
  exact fun q=>nomatch q
end rulesH
def C9{x:Str}{i:Int}{pos:Pos}(h:XOk C X cl)(hg:glB C x=true)(hl:C.G.lookup x=some i):SE X cl (.Name x pos) (.glb x i):=by
 obtain⟨u,h1,h2⟩:=h.glb x i hl;obtain⟨g1,g2⟩:=h.gl hg;exact CO (u:=u) (sE g1 h1 h2 (bM g2).1)
def A5{x:Str}{f:Nat}(hcal:(C.calm || C.hf.contains f)=true){p pos:Pos}{y:Expr}{ys:List Expr}{es:RL.Es}(h:XOk C X cl)(hg:glB C x=true)(hf:C.F[f]?=some (x,[]))(he:SEs X cl (y::ys) es)(hl:eh es=ys.length+1)(hn:noStar y=true)(hns:ys.all noStar=true) :
  SE X cl (.Call (.Name x p) (y::ys) [] pos) (.call f es):=by
 obtain⟨g1,g2⟩:=h.gl hg;by_cases hc:C.calm=true
 ·obtain⟨k,fa,fd,ps,F,hr,hm,hk,hb⟩:=h.fns f x [] hc hf;rw[if_pos rfl]at F
  cases es with
  | nil=>simp[eh]at hl
  | cons e' es'=>exact B1 F hr g1 hm hk hb he (bM g2).1 hn hns
 ·have hh:C.hf.contains f=true:=by simpa[hc]using hcal
  obtain⟨k,fa,fd,ps,F,hr,hm,hk,hb⟩:=h.hfn f x hh hf
  cases es with
  | nil=>simp[eh]at hl
  | cons e' es'=>exact yo F hr g1 hm hk hb he (bM g2).1 hn hns
def lM{scope sc:Scope}(h:scB scope sc=true):nH scope sc:=by
 unfold scB at h;obtain⟨h1,h2⟩:=ae h;rw[List.all_eq_true]at h2;refine⟨by simpa using h1,fun x hx z=>?_,fun x hx z=>?_,fun x hx z=>?_⟩
 ·have:=h2 x hx;rw[z]at this;simpa using this
 ·have:=h2 x hx;rw[z]at this;simpa using this
 ·have:=h2 x hx;rw[z]at this;simpa using this
def iY{scope:Scope}{tg:List Nat}(h:lZ C scope tg=true)(i:Nat)(x:Str)(hx:C.N[i]?=some x)(hl:scope.names.lookup x=some .local\/scope.names.lookup x=some .cell):tg.contains i=true:=by
 unfold lZ at h;rw[List.all_eq_true]at h;have:=h i (List.mem_range.mpr (List.getElem?_eq_some_iff.mp hx).1);rw[hx]at this;rcases hl with hl | hl
 ·simp only[hl,beq_self_eq_true,Bool.true_or,Bool.not_true,Bool.false_or]at this;exact this
 ·simp only[hl,beq_self_eq_true,Bool.or_true,Bool.not_true,Bool.false_or]at this;exact this
def ot{X:Cx}{cls:List (Str × Addr)}{scope:Scope}{Ca:Addr}{fp:List Addr}{s:Shared}{H:Hp}{pins:List (Addr × Obj)}{s':Shared}{σ:L2.St}{H':Hp}{Q:Bool->Hp->Prop}(I:Inv (L2.blk X scope cls Ca fp s H) pins σ H' s')(q:lH σ H' Q) :
  wpAny (model X.prog X.w) X.A (gw [] (compEnvC scope cls Ca X.env)) (TP (L2.blk X scope cls Ca fp s H) pins σ Q) (fun _ _=>False) s':=by
 unfold gw;exact wpAny_pure ⟨H',I,q⟩
def oa{X:Cx}{cls:List (Str × Addr)}{scope:Scope}{Ca:Addr}{fp:List Addr}{s:Shared}{H:Hp}{pins:List (Addr × Obj)}{s':Shared}{σ:L2.St}{H':Hp}{Q:Bool->Hp->Prop}{c:Expr}{t:TT}(hc:PT (L2.blk X scope cls Ca fp s H) c t)(I:Inv (L2.blk X scope cls Ca fp s H) pins σ H' s')(q:t σ H' Q) :
  wpAny (model X.prog X.w) X.A (gw [c] (compEnvC scope cls Ca X.env)) (TP (L2.blk X scope cls Ca fp s H) pins σ Q) (fun _ _=>False) s':=by
 have h:=hc pins s' σ H' Q I q;unfold gw;simp only[List.forIn_cons,List.forIn_nil,if_true];refine wpAny_bind (wpAny_bind (thn h fun b s1 hb=>wpAny_pure ?_));exact wpAny_pure hb
def lK(h:XOk C X cl){scope:Scope}{cls:List (Str × Addr)}{Ca:Addr}{fp:List Addr}{s:Shared}{H:Hp}{tg:List Nat}(ha:lO C scope tg=true){tgE:Expr}(hc:mT (C.inner scope) tg tgE=true):PG (L2.blk X scope cls Ca fp s H) tgE (gT X.K tg):=by
 have hb:=h.blk (scope:=scope) cls Ca fp s H;unfold lO at ha;rw[List.all_eq_true]at ha;refine qo hb (fun i x hi hx=>?_) hc;have:=ha i hi;have hx:X.N[i]?=some x:=hx;rw[h.names]at hx;rw[hx]at this;simp only[Bool.or_eq_true,beq_iff_eq]at this;rcases this with z | z
 ·exact .inr (lookup_relabel_local z)
 ·exact .inl (by show(scope.names.lookup x == some .cell)=true;rw[z];rfl)
def ku{α:Type}{o:Option α}(h:o.isNone=true):o=none:=by
 cases o with
 | none=>rfl
 | some _=>cases h
end
mutual
theorem aj{cl:RL.Cl}:∀ (e':RL.E) {C:CC} {X:Cx} (h:XOk C X cl) (e:Expr),qk X cl e e' (chk C false e' e) (chk C true e' e)
 | .var i,C,X,h,e=>aB (b:=chk C false (.var i) e) fun z=>by
  obtain⟨x,p,rfl,g1,g2,g3,g4⟩:=i8 h z;exact⟨BQ g1 g2 g3 g4,rfl⟩
 | .cst d,C,X,h,e=>aB (b:=chk C false (.cst d) e) fun z=>by
  obtain⟨k,z0,z⟩:=ai z;obtain⟨j,p,rfl⟩:=iC z0;exact⟨DE z,rfl⟩
 | .glb y i,C,X,h,e=>aB (b:=chk C false (.glb y i) e) fun z=>by
  obtain⟨x,z0,z⟩:=ai z;obtain⟨p,rfl⟩:=cj z0;obtain⟨z,z3⟩:=ae z;obtain⟨z1,z2⟩:=ae z;rw[beq_iff_eq]at z1 z3;subst z1;exact⟨C9 h z2 z3,rfl⟩
 | .bin o a b,C,X,h,e=>aB (b:=chk C false (.bin o a b) e) fun z=>by
  obtain⟨⟨l,op,r⟩,z0,z⟩:=ai z;obtain⟨p,rfl⟩:=AR z0;obtain⟨z,z3⟩:=ae z;obtain⟨z1,z2⟩:=ae z;rw[beq_iff_eq]at z1;have z1:op=qm o:=z1;subst z1;exact⟨BY ((aj a h l).1 z2) ((aj b h r).1 z3),rfl⟩
 | .neg a,C,X,h,e=>aB (b:=chk C false (.neg a) e) fun z=>by
  obtain⟨⟨op,x⟩,z0,z⟩:=ai z;obtain⟨p,rfl⟩:=qF z0;obtain⟨z1,z2⟩:=ae z;rw[beq_iff_eq]at z1;have z1:op=.USub:=z1;subst z1;exact⟨E7 ((aj a h x).1 z2),rfl⟩
 | .cmp c a b,C,X,h,e=>jc (b:=chk C false (.cmp c a b) e) fun z=>by
  obtain⟨⟨l,os,rs⟩,z0,z⟩:=ai z;obtain⟨p,rfl⟩:=iH z0;obtain⟨op,y1,z⟩:=aJ z;obtain⟨r,y2,z⟩:=aJ z;have y1:os=[op]:=y1;have y2:rs=[r]:=y2;subst y1 y2;obtain⟨z,z3⟩:=ae z;obtain⟨z1,z2⟩:=ae z;rw[beq_iff_eq]at z1;subst z1;exact⟨Dc h.hu ((aj a h l).1 z2) ((aj b h r).1 z3),DG h.hu ((aj a h l).1 z2) ((aj b h r).1 z3),rfl⟩
 | .chain c c' a b d,C,X,h,e=>jc (b:=chk C false (.chain c c' a b d) e) fun z=>by
  obtain⟨⟨l,os,rs⟩,z0,z⟩:=ai z;obtain⟨p,rfl⟩:=iH z0;obtain⟨op,op',y1,z⟩:=dB z;obtain⟨r,s,y2,z⟩:=dB z;have y1:os=[op,op']:=y1;have y2:rs=[r,s]:=y2;subst y1 y2;obtain⟨z,z5⟩:=ae z;obtain⟨z,z4⟩:=ae z;obtain⟨z,z3⟩:=ae z;obtain⟨z1,z2⟩:=ae z;rw[beq_iff_eq]at z1 z2;subst z1 z2;exact⟨yb h.hu ((aj a h l).1 z3) ((aj b h r).1 z4) ((aj d h s).1 z5),yz h.hu ((aj a h l).1 z3) ((aj b h r).1 z4) ((aj d h s).1 z5),rfl⟩
 | .isN neg a,C,X,h,e=>jc (b:=chk C false (.isN neg a) e) fun z=>by
  obtain⟨⟨l,os,rs⟩,z0,z⟩:=ai z;obtain⟨p,rfl⟩:=iH z0;obtain⟨op,y1,z⟩:=aJ z;obtain⟨r,y2,z⟩:=aJ z;have y1:os=[op]:=y1;have y2:rs=[r]:=y2;subst y1 y2;obtain⟨z,z3⟩:=ae z;obtain⟨z1,z2⟩:=ae z;rw[beq_iff_eq]at z1;subst z1;obtain⟨k,w0,w⟩:=ai z2;obtain⟨j,q,rfl⟩:=iC w0;have w:=B6 w;subst w;exact⟨Ew ((aj a h l).1 z3),CK ((aj a h l).1 z3),rfl⟩
 | .inD neg a b,C,X,h,e=>jc (b:=chk C false (.inD neg a b) e) fun z=>by
  obtain⟨⟨l,os,rs⟩,z0,z⟩:=ai z;obtain⟨p,rfl⟩:=iH z0;obtain⟨op,y1,z⟩:=aJ z;obtain⟨r,y2,z⟩:=aJ z;have y1:os=[op]:=y1;have y2:rs=[r]:=y2;subst y1 y2;obtain⟨z,z4⟩:=ae z;obtain⟨z,z3⟩:=ae z;obtain⟨z1,z2⟩:=ae z;rw[beq_iff_eq]at z1;subst z1;exact⟨Cr h.hu ((aj a h l).1 z3) ((aj b h r).1 z4) z2,Dq h.hu ((aj a h l).1 z3) ((aj b h r).1 z4) z2,rfl⟩
 | .and a b,C,X,h,e=>⟨(fun z=>by
   obtain⟨⟨op,es,p⟩,z0,z⟩:=ai z;obtain⟨l,r,rest,y1,z⟩:=lS z;have e0:=js z0;have y1:es=l::r::rest:=y1;obtain⟨z,z3⟩:=ae z;obtain⟨z1,z2⟩:=ae z;rw[beq_iff_eq]at z1;have z1:op=.And:=z1;subst y1 z1 e0;refine Dw ((aj a h l).1 z2) ?_;split at z3
   ·rename_i hr;rw[List.isEmpty_iff]at hr;subst hr;exact vo ((aj b h r).1 z3)
   ·exact(aj b h _).1 z3),(fun z=>by
   obtain⟨⟨op,es,p⟩,z0,z⟩:=ai z;obtain⟨l,r,rest,y1,z⟩:=lS z;have e0:=js z0;have y1:es=l::r::rest:=y1;obtain⟨z,z3⟩:=ae z;obtain⟨z1,z2⟩:=ae z;rw[beq_iff_eq]at z1;have z1:op=.And:=z1;subst y1 z1 e0
   have w:SW X cl (.BoolOp .And (l::r::rest) p) (.and a b):=by
    refine Du ((aj a h l).2 z2).1 ?_;split at z3
    ·rename_i hr;rw[List.isEmpty_iff]at hr;subst hr;exact wC ((aj b h r).2 z3).1
    ·exact((aj b h _).2 z3).2 rfl
   exact⟨w.pt,fun _=>w⟩)⟩
 | .or a b,C,X,h,e=>⟨(fun z=>by
   obtain⟨⟨op,es,p⟩,z0,z⟩:=ai z;obtain⟨l,r,rest,y1,z⟩:=lS z;have e0:=js z0;have y1:es=l::r::rest:=y1;obtain⟨z,z3⟩:=ae z;obtain⟨z1,z2⟩:=ae z;rw[beq_iff_eq]at z1;have z1:op=.Or:=z1;subst y1 z1 e0;refine F8 ((aj a h l).1 z2) ?_;split at z3
   ·rename_i hr;rw[List.isEmpty_iff]at hr;subst hr;exact vo ((aj b h r).1 z3)
   ·exact(aj b h _).1 z3),(fun z=>by
   obtain⟨⟨op,es,p⟩,z0,z⟩:=ai z;obtain⟨l,r,rest,y1,z⟩:=lS z;have e0:=js z0;have y1:es=l::r::rest:=y1;obtain⟨z,z3⟩:=ae z;obtain⟨z1,z2⟩:=ae z;rw[beq_iff_eq]at z1;have z1:op=.Or:=z1;subst y1 z1 e0
   have w:SW X cl (.BoolOp .Or (l::r::rest) p) (.or a b):=by
    refine EW ((aj a h l).2 z2).1 ?_;split at z3
    ·rename_i hr;rw[List.isEmpty_iff]at hr;subst hr;exact wC ((aj b h r).2 z3).1
    ·exact((aj b h _).2 z3).2 rfl
   exact⟨w.pt,fun _=>w⟩)⟩
 | .not a,C,X,h,e=>⟨(fun z=>by
   obtain⟨⟨op,x⟩,z0,z⟩:=ai z;obtain⟨p,rfl⟩:=qF z0;obtain⟨z1,z2⟩:=ae z;rw[beq_iff_eq]at z1;have z1:op=.Not:=z1;subst z1
   exact BJ ((aj a h x).1 z2)),(fun z=>by
   obtain⟨⟨op,x⟩,z0,z⟩:=ai z;obtain⟨p,rfl⟩:=qF z0;obtain⟨z1,z2⟩:=ae z;rw[beq_iff_eq]at z1;have z1:op=.Not:=z1;subst z1
   exact⟨CH ((aj a h x).2 z2).1,fun q=>by cases q⟩)⟩
 | .ifx c a b,C,X,h,e=>⟨(fun z=>by
   obtain⟨⟨q,l,r⟩,z0,z⟩:=ai z;obtain⟨p,rfl⟩:=AO z0;obtain⟨z,z4⟩:=ae z;obtain⟨z,z3⟩:=ae z;obtain⟨z1,z2⟩:=ae z
   exact Cy ((aj c h q).2 z2).1 ((aj a h l).1 z3) ((aj b h r).1 z4)),(fun z=>by
   obtain⟨⟨q,l,r⟩,z0,z⟩:=ai z;obtain⟨z,z4⟩:=ae z;obtain⟨z,z3⟩:=ae z;obtain⟨z1,z2⟩:=ae z
   cases z1)⟩
 | .tup es,C,X,h,e=>aB (b:=chk C false (.tup es) e) fun z=>by
  obtain⟨xs,z0,z⟩:=ai z;obtain⟨k,p,rfl⟩:=dP z0;obtain⟨z1,z2⟩:=ae z;exact⟨EK (gy es h _ z1).1 (by simpa using z2),rfl⟩
 | .lst es,C,X,h,e=>aB (b:=chk C false (.lst es) e) fun z=>by
  obtain⟨xs,z0,z⟩:=ai z;obtain⟨p,rfl⟩:=A6 z0;obtain⟨z1,z2⟩:=ae z;exact⟨Dl (gy es h _ z1).1 (by simpa using z2),rfl⟩
 | .ix a b,C,X,h,e=>aB (b:=chk C false (.ix a b) e) fun z=>by
  obtain⟨⟨l,r⟩,z0,z⟩:=ai z;obtain⟨p,rfl⟩:=iI z0;obtain⟨z,z3⟩:=ae z;obtain⟨z1,z2⟩:=ae z;exact⟨FA ((aj a h l).1 z2) ((aj b h r).1 z3) z1,rfl⟩
 | .ixD a b,C,X,h,e=>aB (b:=chk C false (.ixD a b) e) fun z=>by
  obtain⟨⟨l,r⟩,z0,z⟩:=ai z;obtain⟨p,rfl⟩:=iI z0;obtain⟨z,z3⟩:=ae z;obtain⟨z1,z2⟩:=ae z;exact⟨E9 h.hu ((aj a h l).1 z2) ((aj b h r).1 z3) (vH z1),rfl⟩
 | .slT a b,C,X,h,e=>aB (b:=chk C false (.slT a b) e) fun z=>by
  obtain⟨⟨l,s⟩,z0,z⟩:=ai z;obtain⟨p,rfl⟩:=iI z0;obtain⟨z1,z⟩:=ae z;obtain⟨⟨s1,s2,s3⟩,z0,z⟩:=ai z;obtain⟨q,e0⟩:=DW z0;have e0:s=.Slice s1 s2 s3 q:=e0;obtain⟨z,z4⟩:=ae z;obtain⟨z2,z3⟩:=ae z;have w2:s1=none:=ku z2;have w3:s3=none:=ku z3;obtain⟨r,y0,z4⟩:=ai z4;have y1:s2=some r:=y0;rw[w2,w3,y1]at e0;subst e0;exact⟨CP ((aj a h l).1 z1) ((aj b h r).1 z4),rfl⟩
 | .call f es,C,X,h,e=>aB (b:=chk C false (.call f es) e) fun z=>by
  obtain⟨zc,z⟩:=ae z;obtain⟨⟨g,as,ks,p⟩,z0,z⟩:=ai z;have z0:=dH z0;subst z0;obtain⟨z,z4⟩:=ae z;obtain⟨z,z3⟩:=ae z;obtain⟨z1,z2⟩:=ae z;obtain⟨x,y0,z1⟩:=ai z1;obtain⟨q,e0⟩:=cj y0;have e0:g=.Name x q:=e0;obtain⟨y1,y2⟩:=ae z1;rw[beq_iff_eq]at y2
  have w2:ks=[]:=by rw[List.isEmpty_iff]at z2;exact z2
  subst e0 w2;obtain⟨q1,q2,q3⟩:=gy es h _ z4;dsimp only at z3 q1 q2 q3
  cases as with
  | nil=>cases z3
  |cons y ys=>
   rw[List.all_cons]at q3;exact⟨A5 zc h y1 y2 q1 q2 (ae q3).1 (ae q3).2,rfl⟩
 | .call0 f,C,X,h,e=>aB (b:=chk C false (.call0 f) e) fun z=>by
  obtain⟨zc,z⟩:=ae z;obtain⟨⟨g,as,ks,p⟩,z0,z⟩:=ai z;have z0:=dH z0;subst z0;obtain⟨z,z4⟩:=ae z;obtain⟨z1,z2⟩:=ae z;obtain⟨x,y0,z1⟩:=ai z1;obtain⟨q,e0⟩:=cj y0;have e0:g=.Name x q:=e0;obtain⟨y1,y2⟩:=ae z1;rw[beq_iff_eq]at y2
  have w2:ks=[]:=by rw[List.isEmpty_iff]at z2;exact z2
  have w4:as=[]:=by rw[List.isEmpty_iff]at z4;exact z4
  subst e0 w2 w4;obtain⟨k,fa,fd,ps,F,hr,hm,hk,hb⟩:=h.fns f x [] zc y2;obtain⟨g1,g2⟩:=h.gl y1;rw[if_pos rfl]at F;exact⟨yW F hr g1 hm hk hb (bM g2).1,rfl⟩
 | .bi o a,C,X,h,e=>by
  have gen:(∀ t,chk C t (.bi o a) e=(C.calm&&(ub o).any fun x=>bG C e x fun ys=>of1 ys fun y=>chk C false a y))->qk X cl e (.bi o a) (chk C false (.bi o a) e) (chk C true (.bi o a) e):=fun heq=>by
   rw[heq,heq];refine aB fun z=>?_;obtain⟨zc,z⟩:=ae z;obtain⟨x,y0,z⟩:=ai z;obtain⟨p,as,pos,rfl,b1,b2,z3,z4⟩:=bj h z;obtain⟨y,rfl,z4⟩:=aJ z4;exact⟨FE (h.calm zc) y0 b1 b2 ((aj a h y).1 z4) (all1 z3),rfl⟩
  cases o
  case lenSet =>
   refine aB (b:=chk C false (.bi .lenSet a) e) fun z=>?_;obtain⟨zc,z⟩:=ae z;obtain⟨p,as,pos,rfl,b1,b2,z3,z4⟩:=bj h z;obtain⟨y,rfl,z5⟩:=aJ z4;obtain⟨p',as',pos',rfl,b1',b2',z3',z6⟩:=bj h z5;obtain⟨y,rfl,z7⟩:=aJ z6;exact⟨wQ (h.calm zc) b1 b2 b1' b2' ((aj a h y).1 z7) (all1 z3'),rfl⟩
  all_goals exact gen fun t=>rfl
 | .max a b,C,X,h,e=>aB (b:=chk C false (.max a b) e) fun z=>by
  obtain⟨zc,z⟩:=ae z;obtain⟨p,as,pos,rfl,b1,b2,z3,z4⟩:=bj h z;obtain⟨y,u,rfl,z4⟩:=dB z4;exact⟨Cs (h.calm zc) b1 b2 ((aj a h y).1 (ae z4).1) ((aj b h u).1 (ae z4).2) (all2 z3).1 (all2 z3).2,rfl⟩
 | .isi a ty,C,X,h,e=>aB (b:=chk C false (.isi a ty) e) fun z=>by
  have z:(bG C e "isinstance" fun ys=>of2 ys fun y z=>(d9 z).any (fun x=>x == pJ ty&&ll C x)&&chk C false a y)=true:=z;obtain⟨p,as,pos,rfl,b1,b2,z3,z4⟩:=bj h z;obtain⟨y,u,rfl,z4⟩:=dB z4;obtain⟨z5,z6⟩:=ae z4;obtain⟨x,w0,w⟩:=ai z5;obtain⟨q,rfl⟩:=cj w0;obtain⟨w1,w2⟩:=ae w;rw[beq_iff_eq]at w1;subst w1;obtain⟨t1,t2,t3⟩:=vX ty;exact⟨CL b1 b2 (h.bl w2).1 (h.bl w2).2 t1 t2 t3 ((aj a h y).1 z6) (all2 z3).1,rfl⟩
 | .rng1 a,C,X,h,e=>aB (b:=chk C false (.rng1 a) e) fun z=>by
  obtain⟨zc,z⟩:=ae z;obtain⟨p,as,pos,rfl,b1,b2,z3,z4⟩:=bj h z;obtain⟨y,rfl,z5⟩:=aJ z4;obtain⟨p',as',pos',rfl,b1',b2',z3',z6⟩:=bj h z5;obtain⟨y,rfl,z7⟩:=aJ z6;exact⟨AQ (h.calm zc) b1 b2 b1' b2' ((aj a h y).1 z7) (all1 z3'),rfl⟩
 | .rngT a,C,X,h,e=>aB (b:=chk C false (.rngT a) e) fun z=>by
  obtain⟨zc,z⟩:=ae z;obtain⟨p,as,pos,rfl,b1,b2,z3,z4⟩:=bj h z;obtain⟨y,rfl,z5⟩:=aJ z4;obtain⟨p',as',pos',rfl,b1',b2',z3',z6⟩:=bj h z5;obtain⟨y,rfl,z7⟩:=aJ z6;exact⟨AG (h.calm zc) b1 b2 b1' b2' ((aj a h y).1 z7) (all1 z3'),rfl⟩
 | .rng2 a b,C,X,h,e=>aB (b:=chk C false (.rng2 a b) e) fun z=>by
  obtain⟨zc,z⟩:=ae z;obtain⟨p,as,pos,rfl,b1,b2,z3,z4⟩:=bj h z;obtain⟨y,rfl,z5⟩:=aJ z4;obtain⟨p',as',pos',rfl,b1',b2',z3',z6⟩:=bj h z5;obtain⟨y,u,rfl,z7⟩:=dB z6;exact⟨Bo (h.calm zc) b1 b2 b1' b2' ((aj a h y).1 (ae z7).1) ((aj b h u).1 (ae z7).2) (all2 z3').1 (all2 z3').2,rfl⟩
 | .rng3 c a b,C,X,h,e=>aB (b:=chk C false (.rng3 c a b) e) fun z=>by
  obtain⟨zc,z⟩:=ae z;obtain⟨p,as,pos,rfl,b1,b2,z3,z4⟩:=bj h z;obtain⟨y,rfl,z5⟩:=aJ z4;obtain⟨p',as',pos',rfl,b1',b2',z3',z6⟩:=bj h z5;obtain⟨y,u,q,rfl,z7⟩:=xp z6;obtain⟨z7,z9⟩:=ae z7;obtain⟨z7,z8⟩:=ae z7;exact⟨BB (h.calm zc) b1 b2 b1' b2' ((aj a h y).1 z8) ((aj b h u).1 z9) (jd z3').1 (jd z3').2.1 z7,rfl⟩
 | .comp d tg it c,C,X,h,e=>aB (b:=chk C false (.comp d tg it c) e) fun z=>by
  obtain⟨⟨elt,gens,scope,p⟩,z0,z⟩:=ai z;have z0:=qt z0;subst z0;obtain⟨⟨tgE,iter,ifs,asy⟩,y1,z⟩:=aJ z;have y1:gens=[⟨tgE,iter,ifs,asy⟩]:=y1;obtain⟨w,y2,z⟩:=aJ z;have y2:ifs=[w]:=y2;obtain⟨z,zc⟩:=ae z;obtain⟨z,z8⟩:=ae z;obtain⟨z,z7⟩:=ae z;obtain⟨z,z6⟩:=ae z;obtain⟨z,z5⟩:=ae z;obtain⟨z,z4⟩:=ae z;obtain⟨z,z3⟩:=ae z;obtain⟨z,z2⟩:=ae z;obtain⟨z0,z1⟩:=ae z;rw[beq_iff_eq]at z0;have w0:asy=0:=z0;subst y1 w0;subst y2
  have B:jk X cl scope tgE tg elt d (tT X.K cl c) [w]:=⟨fun cls Ca fp s H=>lK h z5 z4,fun cls Ca fp s H pins s' σ H' Q I q=>oa ((aj c (h.blk cls Ca fp s H) _).2 z8).1 I q,fun cls Ca fp s H=>(aj d (h.blk cls Ca fp s H) _).1 z7,fun i x hx hl=>iY z2 i x (by rw[<-h.names];exact hx) hl⟩
  by_cases hc:C.calm=true
  ·exact⟨qY (fun _ _ _ _=>h.calm hc) (by rw[h.scope];exact lM z1) (gf it h _ _ z6) B (dC z3 _),rfl⟩
  ·have hz:uc it=true:=by simpa[hc]using zc
   exact⟨qY (CM:=fun _=>True) (fun _ _ _ _=>trivial) (by rw[h.scope];exact lM z1) (B3 it h _ _ z6 hz) B (dC z3 _),rfl⟩
 | .compA d tg it,C,X,h,e=>aB (b:=chk C false (.compA d tg it) e) fun z=>by
  obtain⟨⟨elt,gens,scope,p⟩,z0,z⟩:=ai z;have z0:=qt z0;subst z0;obtain⟨⟨tgE,iter,ifs,asy⟩,y1,z⟩:=aJ z;have y1:gens=[⟨tgE,iter,ifs,asy⟩]:=y1;obtain⟨z,zc⟩:=ae z;obtain⟨z,z7⟩:=ae z;obtain⟨z,z6⟩:=ae z;obtain⟨z,z5⟩:=ae z;obtain⟨z,z4⟩:=ae z;obtain⟨z,z3⟩:=ae z;obtain⟨z,z2⟩:=ae z;obtain⟨z,z1⟩:=ae z;obtain⟨y2,z0⟩:=ae z;rw[beq_iff_eq]at z0;have w0:asy=0:=z0
  have w2:ifs=[]:=by rw[List.isEmpty_iff]at y2;exact y2
  subst y1 w0;subst w2;refine⟨yS (h.calm zc) (by rw[h.scope];exact lM z1) (gf it h _ _ z6) ?_ (dC z3 _),rfl⟩;exact⟨fun cls Ca fp s H=>lK h z5 z4,fun cls Ca fp s H pins s' σ H' Q I q=>ot I q,fun cls Ca fp s H=>(aj d (h.blk cls Ca fp s H) _).1 z7,fun i x hx hl=>iY z2 i x (by rw[<-h.names];exact hx) hl⟩
 | .dk0,C,X,h,e=>aB (b:=chk C false .dk0 e) fun z=>by
  obtain⟨⟨ks,vs⟩,z0,z⟩:=ai z;obtain⟨p,rfl⟩:=rq z0;obtain⟨z1,z2⟩:=ae z;rw[List.isEmpty_iff]at z1 z2;have z1:ks=[]:=z1;have z2:vs=[]:=z2;subst z1 z2;exact⟨BS,rfl⟩
 | .dt0,C,X,h,e=>aB (b:=chk C false .dt0 e) fun z=>by
  obtain⟨⟨ks,vs⟩,z0,z⟩:=ai z;obtain⟨p,rfl⟩:=rq z0;obtain⟨z1,z2⟩:=ae z;rw[List.isEmpty_iff]at z1 z2;have z1:ks=[]:=z1;have z2:vs=[]:=z2;subst z1 z2;exact⟨E5,rfl⟩
 | .join a,C,X,h,e=>aB (b:=chk C false (.join a) e) fun z=>by
  obtain⟨⟨g,as,ks,p⟩,z0,z⟩:=ai z;have z0:=dH z0;obtain⟨z,z3⟩:=ae z;obtain⟨z1,z2⟩:=ae z;obtain⟨⟨o,nm,apos⟩,y0,z1⟩:=ai z1;have e1:=pC y0;have e1:g=.Attribute o nm apos:=e1;obtain⟨z1,y3⟩:=ae z1;obtain⟨y1,y2⟩:=ae z1;rw[beq_iff_eq]at y1;have y1:nm = "join" := y1;obtain⟨kk,w0,w⟩:=ai y3;obtain⟨j,q,e2⟩:=iC w0;have e2:o=.Constant kk j q:=e2
  have e4:kk=.str ⟨#[]⟩:=by
   cases kk<;>simp only[gW]at w<;>first | (cases w;done) | skip
   rw[beq_iff_eq]at w;rw[<-w]
  have w2:ks=[]:=by rw[List.isEmpty_iff]at z2;exact z2
  obtain⟨y,e3,z3⟩:=aJ z3;have e3:as=[y]:=e3;obtain⟨z3,z5⟩:=ae z3;rw[e1,y1,e2,e4,w2,e3]at z0;subst z0;exact⟨AI ((aj a h y).1 z5) z3 y2,rfl⟩
 | .isx a c,C,X,h,e=>aB (b:=chk C false (.isx a c) e) fun z=>by
  have z:(bG C e "isinstance" fun ys=>of2 ys fun y z=>(d9 z).any (fun x=>x == c&&(if c == ("ValueError" : Str)then ll C x else glB C x&&C.Xs.contains x&&cZ.contains x))&&chk C false a y)=true:=z;obtain⟨p,as,pos,rfl,b1,b2,z3,z4⟩:=bj h z;obtain⟨y,u,rfl,z4⟩:=dB z4;obtain⟨z5,z6⟩:=ae z4;obtain⟨x,w0,w⟩:=ai z5;obtain⟨q,rfl⟩:=cj w0;obtain⟨w1,w2⟩:=ae w;rw[beq_iff_eq]at w1;subst w1;split at w2
  ·rename_i hv;rw[beq_iff_eq]at hv;subst hv;exact⟨BK b1 b2 (h.bl w2).1 (h.bl w2).2 ((aj a h y).1 z6) (all2 z3).1,rfl⟩
  ·obtain⟨w2,w4⟩:=ae w2;obtain⟨w2,w3⟩:=ae w2;obtain⟨D,d1,d2⟩:=h.ref x w3;exact⟨CJ b1 b2 (h.gl w2).1 d1 d2 (by simpa using w4) (bM (h.gl w2).2).1 ((aj a h y).1 z6) (all2 z3).1,rfl⟩
theorem gy{cl:RL.Cl}:∀ (es':RL.Es) {C:CC} {X:Cx} (h:XOk C X cl) (es:List Expr),ka C es' es=true->SEs X cl es es'/\eh es'=es.length/\es.all noStar=true
 | .nil,C,X,h,es,z=>by
  have z:es=[]:=List.isEmpty_iff.mp z;subst z;exact⟨cB,rfl,rfl⟩
 | .cons e' es',C,X,h,es,z=>by
  cases es with
  | nil=>cases z
  |cons e es=>
   obtain⟨z,z3⟩:=ae z;obtain⟨z1,z2⟩:=ae z;obtain⟨q1,q2,q3⟩:=gy es' h es z3;exact⟨bH ((aj e' h e).1 z2) q1 z1,by rw[eh,q2,List.length_cons],by rw[List.all_cons,z1,q3];rfl⟩
theorem gf{cl:RL.Cl}:∀ (it:RL.It) {C:CC} {X:Cx} (h:XOk C X cl) (tg e:Expr),qh C it tg e=true->SI X cl tg e it
 | .seq a,C,X,h,tg,e,z=>Am ((aj a h e).1 z)
 | .rng1 a,C,X,h,tg,e,z=>by
  have z:(bG C e "range" fun ys=>of1 ys fun y=>chk C false a y)=true:=z;obtain⟨p,as,pos,rfl,b1,b2,z3,z4⟩:=bj h z;obtain⟨y,rfl,z4⟩:=aJ z4;exact A4 b1 b2 ((aj a h y).1 z4) (all1 z3)
 | .rng2 a b,C,X,h,tg,e,z=>by
  have z:(bG C e "range" fun ys=>of2 ys fun y z=>chk C false a y&&chk C false b z)=true:=z;obtain⟨p,as,pos,rfl,b1,b2,z3,z4⟩:=bj h z;obtain⟨y,u,rfl,z4⟩:=dB z4;exact B4 b1 b2 ((aj a h y).1 (ae z4).1) ((aj b h u).1 (ae z4).2) (all2 z3).1 (all2 z3).2
 | .rng3 c a b,C,X,h,tg,e,z=>by
  have z:(bG C e "range" fun ys=>of3 ys fun y z q=>gZ c q&&chk C false a y&&chk C false b z)=true:=z;obtain⟨p,as,pos,rfl,b1,b2,z3,z4⟩:=bj h z;obtain⟨y,u,q,rfl,z4⟩:=xp z4;obtain⟨z4,z6⟩:=ae z4;obtain⟨z4,z5⟩:=ae z4;exact B0 b1 b2 ((aj a h y).1 z5) ((aj b h u).1 z6) (jd z3).1 (jd z3).2.1 z4
 | .enm a,C,X,h,tg,e,z=>by
  obtain⟨z0,zz⟩:=ae z;obtain⟨ts,z0⟩:=Option.isSome_iff_exists.mp z0;obtain⟨k,tp,rfl⟩:=dP z0;obtain⟨p,as,pos,rfl,b1,b2,z3,z4⟩:=bj h zz;obtain⟨y,rfl,z4⟩:=aJ z4;exact B5 b1 b2 ((aj a h y).1 z4) (all1 z3)
 | .zip a b,C,X,h,tg,e,z=>by
  obtain⟨z0,zz⟩:=ae z;obtain⟨ts,z0⟩:=Option.isSome_iff_exists.mp z0;obtain⟨k,tp,rfl⟩:=dP z0;obtain⟨p,as,pos,rfl,b1,b2,z3,z4⟩:=bj h zz;obtain⟨y,u,rfl,z4⟩:=dB z4;exact PI'.calm (wD b1 b2 ((aj a h y).1 (ae z4).1) ((aj b h u).1 (ae z4).2) (all2 z3).1 (all2 z3).2)
theorem B3{cl:RL.Cl}:∀ (it:RL.It) {C:CC} {X:Cx} (h:XOk C X cl) (tg e:Expr),qh C it tg e=true->uc it=true->PI' (fun _=>True) X tg e (tI X.K cl it)
 | .zip a b,C,X,h,tg,e,z,_=>by
  obtain⟨z0,zz⟩:=ae z;obtain⟨ts,z0⟩:=Option.isSome_iff_exists.mp z0;obtain⟨k,tp,rfl⟩:=dP z0;obtain⟨p,as,pos,rfl,b1,b2,z3,z4⟩:=bj h zz;obtain⟨y,u,rfl,z4⟩:=dB z4;exact wD b1 b2 ((aj a h y).1 (ae z4).1) ((aj b h u).1 (ae z4).2) (all2 z3).1 (all2 z3).2
 | .seq _,C,X,h,tg,e,z,w=>by cases w
 | .rng1 _,C,X,h,tg,e,z,w=>by cases w
 | .rng2 _ _,C,X,h,tg,e,z,w=>by cases w
 | .rng3 _ _ _,C,X,h,tg,e,z,w=>by cases w
 | .enm _,C,X,h,tg,e,z,w=>by cases w
end
abbrev dR:Expr->Bool
 | .ListComp _ _ _ _=>false
 | .SetComp _ _ _ _=>false
 | .DictComp _ _ _ _ _=>false
 | _=>true
abbrev wV:Expr->Bool
 | .Tuple _ _ _=>false
 | _=>true
abbrev uU(e:Expr):Bool:=match e with
 | .SetComp _ _ _ _=>false
 | .DictComp _ _ _ _ _=>false
 | _=>true
abbrev yi(C:CC)(x y:Str)(px py:Pos)(a b:Expr):Bool :=
 C.sc.kind == .function&&C.sc.names.lookup x == some .local&&C.sc.names.lookup y == some .local&&px.line == py.line && !(x == y)&&noStar a&&noStar b && !(foldedForSure 8 a&&foldedForSure 8 b) && !(constantsAlone 8 a&&constantsAlone 8 b)
abbrev sI(M:List Nat):RL.E->Bool
 | .var i=>M.contains i
 | _=>false
abbrev ur(C:CC):RL.Es->List Expr->Bool
 | .nil=>fun xs=>xs.isEmpty
 | .cons e es=>fun xs=>match xs with
  | x::xs=>noStar x&&chk C false e x&&ur C es xs
  | []=>false
abbrev qR:Expr->Option (Str × Pos)
 | .Name x p=>some (x,p)
 | _=>none
def oi{e:Expr}{x:Str}{p:Pos}(h:qR e=some (x,p)):e=.Name x p:=by
 cases e
 case Name=>cases h;rfl
 all_goals exact nos h
abbrev m8(C:CC)(i:Nat)(nm:Str)(e:Expr)(f:List Expr->Bool):Bool:=(hG e).any fun q=>(tY q.1).any (fun a=>p6 C i a.1&&a.2.1 == nm&&a.2.2.endLine == q.2.2.2.line)&&q.2.2.1.isEmpty&&f q.2.1
abbrev p8(C:CC)(M:List Nat)(f:Nat)(es:RL.Es)(ps ms:List Nat)(e:Expr):Bool:=(hG e).any fun q=>(d9 q.1).any (fun x=>glB C x&&C.F[f]? == some (x,ps))&&q.2.2.1.isEmpty && !q.2.1.isEmpty && !ps.isEmpty&&ur C es q.2.1&&cy es ps ms&&ms.all (fun i=>M.contains i)&&decide ms.Nodup&&decide ps.Nodup&&C.calm
abbrev rE(C:CC):List Expr->RL.Es->Bool
 | [],ps=>match ps with
  | .nil=>true
  | _=>false
 | v::vs,ps=>match nh v with
  | some (.str y)=>decide (y.length<=3000)&&rE C vs ps
  | some _=>false
  | none=>(DI v).any fun q=>q.2.1 == -1&&q.2.2.isNone&&match ps with
   | .cons e es=>chk C false e q.1&&rE C vs es
   | .nil=>false
abbrev D9:Const->Bool
 | .str _=>true
 | _=>false
abbrev isNil:RL.Es->Bool
 | .nil=>true
 | _=>false
abbrev yp(C:CC)(ps:RL.Es)(a:Expr):Bool:=((nh a).any D9&&isNil ps) || (Aa a).any fun vs=>decide (2<=vs.length)&&decide (vs.length<=100)&&rE C vs ps
mutual
noncomputable def xC(C:CC)(M:List Nat):RL.S->Stmt->Bool
 | .asg i e'=>fun st=>(kZ st).any fun q=>of1 q.1 fun t=>gX C i t && !M.contains i&&uU q.2&&chk C false e' q.2&&(C.calm || dR q.2)
 | .own i e'=>fun st=>(kZ st).any fun q=>of1 q.1 fun t=>gX C i t&&M.contains i&&decide (M.count i<2)&&uU q.2&&chk C false e' q.2&&(C.calm || dR q.2)
 | .unp is e'=>fun st=>(kZ st).any fun q=>of1 q.1 fun t=>(j8 t).any fun ts=>ko C is ts&&is.all (fun i=>!M.contains i)&&wV q.2&&chk C false e' q.2
 | .par i j a' b'=>fun st=>(kZ st).any fun q=>of1 q.1 fun t=>(j8 t).any fun ts=>of2 ts fun s u=>(qR s).any fun x=>(qR u).any fun y=>(j8 q.2).any fun vs=>of2 vs fun a b=>nmB C i x.1&&nmB C j y.1 && !(i == j) && !M.contains i && !M.contains j&&yi C x.1 y.1 x.2 y.2 a b&&chk C false a' a&&chk C false b' b&&C.calm
 | .app i e'=>fun st=>(uO st).any fun e=>m8 C i "append" e fun as=>of1 as fun y=>M.contains i&&noStar y&&chk C false e' y
 | .put i k' e'=>fun st=>(kZ st).any fun q=>of1 q.1 fun t=>(pS t).any fun u=>p6 C i u.1&&M.contains i&&kT u.2&&dR q.2&&chk C false k' u.2&&chk C false e' q.2
 | .pop i j=>fun st=>(kZ st).any fun q=>of1 q.1 fun t=>gX C j t&&M.contains i && !M.contains j&&m8 C i "pop" q.2 fun as=>as.isEmpty
 | .ife c' a' b'=>fun st=>(wIf st).any fun q=>chk C true c' q.1&&cO C M a' q.2.1&&cO C M b' q.2.2
 | .forr tg it b'=>fun st=>(DD st).any fun q=>q.2.2.2.isEmpty&&qh C it q.1 q.2.1&&mT C tg q.1&&lX q.2.1&&RL.rF M it&&tg.all (fun i=>!M.contains i)&&cO C M b' q.2.2.1&&C.calm
 | .mexc f es ps ms=>fun st=>(uO st).any fun e=>p8 C M f es ps ms e
 | .ret e'=>fun st=>(Eh st).any fun o=>o.any fun e=>chk C false e' e
 | .exc e'=>fun st=>(uO st).any fun e=>dR e&&chk C false e' e
 | .ifp i e' a' b'=>fun st=>(wIf st).any fun q=>(nc q.1).any fun u=>of1 u.2.1 fun op=>of1 u.2.2 fun e=>op == .NotEq&&M.contains i&&chk C false e' e&&cO C M a' q.2.1&&cO C M b' q.2.2&&m8 C i "pop" u.1 fun as=>as.isEmpty
 | .rais c ps=>fun st=>(wb st).any fun q=>C.calm&&C.Xr.contains c&&glB C c&&q.2.isNone&&q.1.any fun e=>(hG e).any fun u=>(d9 u.1).any (fun x=>x == c)&&u.2.2.1.isEmpty&&of1 u.2.1 fun a=>noStar a&&yp C ps a
 | .tryc b c i hh=>fun st=>(CQ st).any fun q=>C.calm&&q.2.2.1.isEmpty&&q.2.2.2.isEmpty&&C.Xr.contains c&&cZ.contains c&&glB C c && !M.contains i&&of1 q.2.1 (fun hd=>(p7 hd).1.any (fun t=>(d9 t).any fun x=>x == c)&&(p7 hd).2.1.any (fun n=>nmB C i n&&C.sc.names.lookup n == some .local) && !(p7 hd).2.2.isEmpty&&cO { C with calm:=false } M hh (p7 hd).2.2)&&cO C M b q.1
noncomputable def cO(C:CC)(M:List Nat):RL.Ss->List Stmt->Bool
 | .nil=>fun xs=>xs.isEmpty
 | .cons s r=>fun xs=>match xs with
  | x::xs=>xC C M s x&&cO C M r xs
  | []=>false
end
structure YOk(C:CC)(X:Cx)(cl:RL.Cl):Prop extends XOk C X cl where
 fn:∀ x,X.fn x=true
 st:X.stack=X.env::X.outer/\X.env.frame=some X.env.locals/\X.ex=[]
 fnx:∀ (f:Nat) (x:Str),C.calm=true->C.F[f]?=some (x,[])->∃ k fa fd ps,d5 X.prog X.w X.K X.mg X.base (CXE X.prog X.w) k fa fd ps (spX X.K cl f)/\cw k X.A/\X.mg x=some (.ref fa)/\PySem.W.keepIn X.K (.ref fa)=true/\Binds X.K fd ps []
structure ROk(C:CC)(X:Cx)(cl:RL.Cl)(EX:L2.St->XK):Prop where
 y:YOk C X.nox cl
 cal:C.calm=true
 pass:∀ pins σ H s e s',Inv X pins σ H s->CXE X.prog X.w X.stack H s (EX σ) e s'->X.xe e s'
 made:∀ pins σ H s h' e C vs,Inv X pins σ H s->Heap.MadeExcOf s.heap h' e (.ref C) vs->EX σ (.ref C) none H->X.xe (.ref e) { s with heap:=h' }
 own:PassesOwn (model X.prog X.w) X.A X.env X.xe
section
variable{C:CC}{X:Cx}{cl:RL.Cl}{M:List Nat}{st:Stmt}{e:Expr}{e' k':RL.E}{i:Nat}
def eC{t:Option Expr}{l:Nat}{env:Env}(h:dR e=true):swapsWith e t l env=pure false:=by
 cases e<;>first | rfl | (cases h;done)
def zV{t:Expr}{spos:Pos}(hcal:(C.calm || dR e)=true)(h:YOk C X cl)(hn:gX C i t=true)(ha:uU e=true)(hc:chk C false e' e=true):SA X cl (.Assign [t] e spos) i e':=by
 obtain⟨y,py,rfl,hN,hl⟩:=gH h.toXOk hn
 have plain:swapsWith e (some (.Name y py)) spos.line X.env=pure false->SA X cl (.Assign [.Name y py] e spos) i e':=fun z =>
  yh h.ndX hN hl ((aj e' h.toXOk e).1 hc) (.inl (h.fn y)) z trivial
 by_cases hcomp:dR e=true
 ·exact plain (eC hcomp)
 ·have hcm:X.calm=true:=h.calm (by simpa[hcomp]using hcal)
  have:∃ elt gens scope p,e=.ListComp elt gens scope p:=by
   cases e<;>first | exact absurd rfl hcomp | exact Bool.noConfusion ha | exact⟨_,_,_,_,rfl⟩
  obtain⟨elt,gens,scope,p,rfl⟩:=this;have hsw:swapsWith (.ListComp elt gens scope p) (some (.Name y py)) spos.line X.env=pure (X.env.blockKind == .function&&X.env.kindOf y == some .local&&py.line == p.line && !(scope.names.any fun(n,k)=>n == y&&(k == .local || k == .cell))):=rfl;by_cases hb:(X.env.blockKind == .function&&X.env.kindOf y == some .local&&py.line == p.line && !(scope.names.any fun(n,k)=>n == y&&(k == .local || k == .cell)))=true
  ·have hy:X.env.scope.names.lookup y=some .local:=by
    obtain⟨q,_⟩:=ae (ae hb).1;have q2:=(ae q).2;rw[beq_iff_eq]at q2;exact q2
   rw[hb]at hsw;by_cases hk:∃ d tg it c,e'=.comp d tg it c
   ·obtain⟨d,tg,it,c,rfl⟩:=hk;obtain⟨⟨tgE,iter,ifs,asy⟩,y1,z⟩:=aJ hc;have y1:gens=[⟨tgE,iter,ifs,asy⟩]:=y1;obtain⟨w,y2,z⟩:=aJ z;have y2:ifs=[w]:=y2;obtain⟨z,zc⟩:=ae z;obtain⟨z,z8⟩:=ae z;obtain⟨z,z7⟩:=ae z;obtain⟨z,z6⟩:=ae z;obtain⟨z,z5⟩:=ae z;obtain⟨z,z4⟩:=ae z;obtain⟨z,z3⟩:=ae z;obtain⟨z,z2⟩:=ae z;obtain⟨z0,z1⟩:=ae z;rw[beq_iff_eq]at z0;have w0:asy=0:=z0;subst y1 w0;subst y2;refine zv hcm h.ndX hN hy (by rw[h.scope];exact lM z1) (gf it h.toXOk _ _ z6) ?_ (dC z3 _) hsw;exact⟨fun cls Ca fp s H=>lK h.toXOk z5 z4,fun cls Ca fp s H pins s' σ H' Q I q=>oa ((aj c (h.toXOk.blk cls Ca fp s H) _).2 z8).1 I q,fun cls Ca fp s H=>(aj d (h.toXOk.blk cls Ca fp s H) _).1 z7,fun i x hx hl=>iY z2 i x (by rw[<-h.names];exact hx) hl⟩
   ·by_cases hk2:∃ d tg it,e'=.compA d tg it
    ·obtain⟨d,tg,it,rfl⟩:=hk2;obtain⟨⟨tgE,iter,ifs,asy⟩,y1,z⟩:=aJ hc;have y1:gens=[⟨tgE,iter,ifs,asy⟩]:=y1;obtain⟨z,zc⟩:=ae z;obtain⟨z,z7⟩:=ae z;obtain⟨z,z6⟩:=ae z;obtain⟨z,z5⟩:=ae z;obtain⟨z,z4⟩:=ae z;obtain⟨z,z3⟩:=ae z;obtain⟨z,z2⟩:=ae z;obtain⟨z,z1⟩:=ae z;obtain⟨y2,z0⟩:=ae z;rw[beq_iff_eq]at z0;have w0:asy=0:=z0
     have w2:ifs=[]:=by rw[List.isEmpty_iff]at y2;exact y2
     subst y1 w0;subst w2;refine yD hcm h.ndX hN hy (by rw[h.scope];exact lM z1) (gf it h.toXOk _ _ z6) ?_ (dC z3 _) hsw;exact⟨fun cls Ca fp s H=>lK h.toXOk z5 z4,fun cls Ca fp s H pins s' σ H' Q I q=>ot I q,fun cls Ca fp s H=>(aj d (h.toXOk.blk cls Ca fp s H) _).1 z7,fun i x hx hl=>iY z2 i x (by rw[<-h.names];exact hx) hl⟩
    ·cases e'<;>first | exact Bool.noConfusion hc | exact absurd ⟨_,_,_,_,rfl⟩ hk | exact absurd ⟨_,_,_,rfl⟩ hk2 | (obtain⟨_,hc⟩:=ae hc;exact Bool.noConfusion hc) | (rename_i b a;cases b<;>(obtain⟨_,hc⟩:=ae hc;exact Bool.noConfusion hc))
  ·have hb':=Bool.not_eq_true _▸hb;rw[hb']at hsw;exact plain hsw
def pN(h:XOk C X cl):∀ {es':RL.Es} {es:List Expr},ur C es' es=true->PA X es (jg X.K cl es')/\es.all noStar=true
 | .nil,es,z=>by
  have z:es=[]:=List.isEmpty_iff.mp z;subst z;exact⟨cz,rfl⟩
 | .cons _ _,[],z=>by cases z
 | .cons e' es',e::es,z=>by
  obtain⟨z,z3⟩:=ae z;obtain⟨z1,z2⟩:=ae z;obtain⟨q1,q2⟩:=pN h z3;refine⟨?_,by rw[List.all_cons,z1,q2];rfl⟩;rw[jg];refine bh ?_ q1 (aw es z1);by_cases hv:∃ j,e'=.var j
  ·obtain⟨j,rfl⟩:=hv;obtain⟨x,p,rfl,g1,g2,g3,g4⟩:=i8 h z2;exact gB g1 g2 g3 g4
  ·have ht:pX X.K cl e'=tE X.K cl e':=by
    cases e'<;>first | rfl | exact absurd ⟨_,rfl⟩ hv
   rw[ht];exact(aj _ h e).1 z2
def mV{is:List Nat}(h:is.all (fun i=>!M.contains i)=true):∀ i∈is,M.contains i=false:=fun i hi=>by
 rw[List.all_eq_true]at h;simpa using h i hi
def D7{is:List Nat}(h:is.all (fun i=>M.contains i)=true):∀ i∈is,M.contains i=true:=fun i hi=>by
 rw[List.all_eq_true]at h;exact h i hi
def jP{b:Bool}(h:(!b)=true):b=false:=by simpa using h
def yx{f:Nat}{ps ms:List Nat}{es:RL.Es}(h:XOk C X cl)(z:p8 C M f es ps ms e=true):PE X e (lU (spM X.K cl ps f) [] E0 (jg X.K cl es))/\cy es ps ms=true/\(∀ i∈ms,M.contains i=true)/\ms.Nodup/\ps.Nodup/\dR e=true:=by
 unfold p8 at z;obtain⟨⟨g,as,ks,pos⟩,z0,z⟩:=ai z;have e0:=dH z0;obtain⟨z,zc⟩:=ae z;obtain⟨z,z9⟩:=ae z;obtain⟨z,z8⟩:=ae z;obtain⟨z,z7⟩:=ae z;obtain⟨z,z6⟩:=ae z;obtain⟨z,z5⟩:=ae z;obtain⟨z,z4⟩:=ae z;obtain⟨z,z3⟩:=ae z;obtain⟨z1,z2⟩:=ae z;obtain⟨x,y0,z1⟩:=ai z1;obtain⟨p,e1⟩:=cj y0;have e1:g=.Name x p:=e1;obtain⟨y1,y2⟩:=ae z1;rw[beq_iff_eq]at y2
 have w2:ks=[]:=by rw[List.isEmpty_iff]at z2;exact z2
 rw[e1,w2]at e0;subst e0;refine⟨?_,z6,D7 z7,by simpa using z8,by simpa using z9,rfl⟩;obtain⟨k,fa,fd,pn,F,hr,hm,hk,hb⟩:=h.fns f x ps zc y2;rw[if_neg (fun z=>by subst z;cases z4)]at F;obtain⟨q1,q2⟩:=pN h z5;obtain⟨g1,g2⟩:=h.gl y1
 cases as with
 | nil=>cases z3
 |cons y ys=>
  rw[List.all_cons]at q2;exact tf F hr g1 hm hk hb .nil uS q1 (bM g2).1 (aw ys (ae q2).1) (cN (ae q2).2)
def nI{nm:Str}{f:List Expr->Bool}(h:XOk C X cl)(z:m8 C i nm e f=true):∃ x p apos as pos,e=.Call (.Attribute (.Name x p) nm apos) as [] pos/\X.N[i]?=some x/\Vis X.env.scope x/\(x == ("__debug__" : Str))=false/\(x == ("__classdict__" : Str))=false/\(apos.endLine == pos.line)=true/\f as=true:=by
 unfold m8 at z;obtain⟨⟨g,as,ks,pos⟩,z0,z⟩:=ai z;have e0:=dH z0;obtain⟨z,z3⟩:=ae z;obtain⟨z1,z2⟩:=ae z;obtain⟨⟨o,a,apos⟩,y0,z1⟩:=ai z1;have e1:=pC y0;have e1:g=.Attribute o a apos:=e1;obtain⟨z1,y3⟩:=ae z1;obtain⟨y1,y2⟩:=ae z1;rw[beq_iff_eq]at y2;have y2:a=nm:=y2
 have w2:ks=[]:=by rw[List.isEmpty_iff]at z2;exact z2
 obtain⟨x,p,e2,g1,g2,g3,g4⟩:=i8 h y1;have e2:o=.Name x p:=e2;rw[e1,w2,y2,e2]at e0;exact⟨x,p,apos,as,pos,e0,g1,g2,g3,g4,y3,z3⟩
def AM(h1:PS X st (nB (tE X.K cl e') (ya (ji i) (tE X.K cl k') tN)))(h2:PS X st (uC (ji i) (tE X.K cl k') (tE X.K cl e')))(hi:M.contains i=true):SS X cl M st (.put i k' e'):=by
 have a1:=E4 h1 hi trivial;have a2:=Bc h2 hi;intro pins s σ H D I h;obtain⟨σD,o,σD',rv,e,k⟩:=h;rw[RL.evS]at e;obtain⟨d,e1,e⟩:=bind_some e;obtain⟨kk,e2,e⟩:=bind_some e;obtain⟨l,e3,e⟩:=bind_some e
 cases l with
 | lst ds=>exact a1 pins s σ H D I ⟨σD,o,σD',rv,by dsimp only;rw[e1];dsimp only[Option.bind_some];rw[e2];dsimp only[Option.bind_some];rw[e3];exact e,k⟩
 | _=>exact a2 pins s σ H D I ⟨σD,o,σD',rv,by dsimp only;rw[e1];dsimp only[Option.bind_some];rw[e2];dsimp only[Option.bind_some];rw[e3];exact e,k⟩
def uK{o k:Expr}{pos:Pos}{env:Env}(h:kT k=true)(v:Value):assign (.Subscript o k pos) env v=(do
   let ov <- holding [v] (eval o env)
   let iv <- holding [v,ov] (eval k env)
   standAt pos
   holding [v,ov,iv] (setItem ov iv v)
   release [v,ov,iv] []):=by
 cases k<;>first | rfl | (cases h;done)
def oG{us:List Expr}{kk:Nat}{tp:Pos}{env:Env}(h:wV e=true):swappedStores [.Tuple us kk tp] e env=pure none:=by
 cases e<;>first | rfl | (cases h;done)
def D4{x y:Str}{px py pt pt2:Pos}{kt k2:Nat}{a b:Expr}(h:XOk C X cl)(hp:yi C x y px py a b=true):swappedStores [.Tuple [.Name x px,.Name y py] kt pt] (.Tuple [a,b] k2 pt2) X.env=pure (some [x,y]) /\
  X.env.scope.names.lookup x=some .local/\X.env.scope.names.lookup y=some .local/\noStar a=true/\noStar b=true:=by
 unfold yi at hp;obtain⟨hp,h9⟩:=ae hp;obtain⟨hp,h8⟩:=ae hp;obtain⟨hp,h7⟩:=ae hp;obtain⟨hp,h6⟩:=ae hp;obtain⟨hp,h5⟩:=ae hp;obtain⟨hp,h4⟩:=ae hp;obtain⟨hp,h3⟩:=ae hp;obtain⟨h1,h2⟩:=ae hp;rw[beq_iff_eq]at h1 h2 h3 h4;rw[<-h.scope]at h1 h2 h3;refine⟨?_,h2,h3,h6,h7⟩
 have bk:X.env.blockKind=.function:=by
  unfold Env.blockKind;rw[h1];rfl
 have k1:X.env.kindOf x=some .local:=h2;have k2:X.env.kindOf y=some .local:=h3
 have hxy:x≠y:=by simpa using h5
 have fs':foldedForSure 8 a=true->foldedForSure 8 b=false:=fun z=>by simpa[z]using h8
 have ca':constantsAlone 8 a=true->constantsAlone 8 b=false:=fun z=>by simpa[z]using h9
 have ed:[x,y].eraseDups=[x,y]:=by
  rw[List.eraseDups_cons];simp[Ne.symm hxy];rfl
 unfold swappedStores;simp only[bk];simp[show ∀ (x:Str) (p:Pos),(Expr.Name x p).pos=p from fun _ _=>rfl,k1,k2,h4,ed];refine(if_neg ?_).trans ((if_neg ?_).trans (if_neg ?_))
 ·intro hh;rcases hh with hh | hh
  ·cases a<;>first | exact Bool.noConfusion (show false=true from hh) | exact Bool.noConfusion (show false=true from h6)
  ·cases b<;>first | exact Bool.noConfusion (show false=true from hh) | exact Bool.noConfusion (show false=true from h7)
 ·intro hh;have:=fs' hh.1;rw[hh.2]at this;cases this
 ·intro hh;have:=ca' hh.1;rw[hh.2]at this;cases this
end
section
variable{cl:RL.Cl}
def Bb{X:Cx}{C:CC}{EX:L2.St->XK}{x:Str}{f:Nat}{p pos:Pos}{y:Expr}{ys:List Expr}{es:RL.Es}(h:ROk C X cl EX)(hg:glB C x=true)(hf:C.F[f]?=some (x,[]))(he:SEs X.nox cl (y::ys) es)(ha:RA X EX cl (y::ys) es)(hn:noStar y=true)(hns:ys.all noStar=true) :
  RE X EX cl (.Call (.Name x p) (y::ys) [] pos) (.call f es):=by
 obtain⟨k,fa,fd,ps,F,hr,hm,hk,hb⟩:=h.y.fnx f x h.cal hf;obtain⟨g1,g2⟩:=h.y.gl hg;exact AB F hr g1 hm hk hb h.pass (PA.nox he) ha (bM g2).1 hn hns
mutual
theorem gm:∀ (e':RL.E) {X:Cx} {C:CC} {EX:L2.St->XK} (h:ROk C X cl EX) (e:Expr),chk C false e' e=true->RE X EX cl e e'
 | .call f es,X,C,EX,h,e,z=>by
  obtain⟨zc,z⟩:=ae z;obtain⟨⟨g,as,ks,p⟩,z0,z⟩:=ai z;have z0:=dH z0;subst z0;obtain⟨z,z4⟩:=ae z;obtain⟨z,z3⟩:=ae z;obtain⟨z1,z2⟩:=ae z;obtain⟨x,y0,z1⟩:=ai z1;obtain⟨q,e0⟩:=cj y0;have e0:g=.Name x q:=e0;obtain⟨y1,y2⟩:=ae z1;rw[beq_iff_eq]at y2
  have w2:ks=[]:=by rw[List.isEmpty_iff]at z2;exact z2
  subst e0 w2;obtain⟨q1,q2,q3⟩:=gy es h.y.toXOk _ z4;have ha:=oD es h _ z4;dsimp only at z3 q1 q2 q3 ha
  cases as with
  | nil=>cases z3
  |cons y ys=>
   rw[List.all_cons]at q3;exact Bb h y1 y2 q1 ha (ae q3).1 (ae q3).2
 | .ix a b,X,C,EX,h,e,z=>by
  obtain⟨⟨l,r⟩,z0,z⟩:=ai z;obtain⟨p,rfl⟩:=iI z0;obtain⟨z,z3⟩:=ae z;obtain⟨z1,z2⟩:=ae z;exact PE.weak (zU uX (gm a h l z2) (PE.nox ((aj b h.y.toXOk r).1 z3)) (tK z1)) fun σ H Q q=>q
 | .var _,X,C,EX,h,e,z=>br fun _=>rfl
 | .cst _,X,C,EX,h,e,z=>br fun _=>rfl
 | .glb _ _,X,C,EX,h,e,z=>br fun _=>rfl
 | .bin _ _ _,X,C,EX,h,e,z=>br fun _=>rfl
 | .cmp _ _ _,X,C,EX,h,e,z=>br fun _=>rfl
 | .chain _ _ _ _ _,X,C,EX,h,e,z=>br fun _=>rfl
 | .isN _ _,X,C,EX,h,e,z=>br fun _=>rfl
 | .inD _ _ _,X,C,EX,h,e,z=>br fun _=>rfl
 | .and _ _,X,C,EX,h,e,z=>br fun _=>rfl
 | .or _ _,X,C,EX,h,e,z=>br fun _=>rfl
 | .not _,X,C,EX,h,e,z=>br fun _=>rfl
 | .ifx _ _ _,X,C,EX,h,e,z=>br fun _=>rfl
 | .tup _,X,C,EX,h,e,z=>br fun _=>rfl
 | .lst _,X,C,EX,h,e,z=>br fun _=>rfl
 | .ixD _ _,X,C,EX,h,e,z=>br fun _=>rfl
 | .slT _ _,X,C,EX,h,e,z=>br fun _=>rfl
 | .call0 _,X,C,EX,h,e,z=>br fun _=>rfl
 | .bi _ _,X,C,EX,h,e,z=>br fun _=>rfl
 | .max _ _,X,C,EX,h,e,z=>br fun _=>rfl
 | .isi _ _,X,C,EX,h,e,z=>br fun _=>rfl
 | .rng1 _,X,C,EX,h,e,z=>br fun _=>rfl
 | .rngT _,X,C,EX,h,e,z=>br fun _=>rfl
 | .rng2 _ _,X,C,EX,h,e,z=>br fun _=>rfl
 | .rng3 _ _ _,X,C,EX,h,e,z=>br fun _=>rfl
 | .neg _,X,C,EX,h,e,z=>br fun _=>rfl
 | .comp _ _ _ _,X,C,EX,h,e,z=>br fun _=>rfl
 | .compA _ _ _,X,C,EX,h,e,z=>br fun _=>rfl
 | .join _,X,C,EX,h,e,z=>br fun _=>rfl
 | .isx _ _,X,C,EX,h,e,z=>br fun _=>rfl
 | .dk0,X,C,EX,h,e,z=>br fun _=>rfl
 | .dt0,X,C,EX,h,e,z=>br fun _=>rfl
theorem oD:∀ (es':RL.Es) {X:Cx} {C:CC} {EX:L2.St->XK} (h:ROk C X cl EX) (es:List Expr),ka C es' es=true->RA X EX cl es es'
 | .nil,X,C,EX,h,es,z=>D3
 | .cons e' es',X,C,EX,h,es,z=>by
  cases es with
  | nil=>cases z
  |cons e es=>
   obtain⟨z,z3⟩:=ae z;obtain⟨z1,z2⟩:=ae z;exact AU (PE.nox ((aj e' h.y.toXOk e).1 z2)) (gm e' h e z2) (oD es' h es z3) (aw es z1)
end
section
variable{X:Cx}{C:CC}{EX:L2.St->XK}{M:List Nat}
def B8{X:Cx}{st:Stmt}{c:Str}{ps:RL.Es}:SS X cl M st (.rais c ps):=fun pins s σ H D I ⟨σD,r,σD',_,e,_⟩=>by
 rw[RL.evS]at e;cases e
def wJ{t e:Expr}{spos:Pos}{i:Nat}{e':RL.E}{s:RL.S}(h:ROk C X cl EX)(hn:gX C i t=true)(ha:uU e=true)(hc:chk C false e' e=true)(he:∀ σD,RL.iK cl M s σD=(RL.evX cl σD e').map fun x=>(x,σD)):RZ X EX cl M (.Assign [t] e spos) s:=by
 obtain⟨y,py,rfl,hN,hl⟩:=gH h.y.toXOk hn;by_cases hcomp:dR e=true
 ·exact pf (qK (X:=X) h.y.ndX hN hl (gm e' h e hc) (eC hcomp) (.inl (h.y.fn y))) he
 ·refine hZ fun σD=>?_;rw[he]
  have:∃ elt gens scope p,e=.ListComp elt gens scope p:=by
   cases e<;>first | exact absurd rfl hcomp | exact Bool.noConfusion ha | exact⟨_,_,_,_,rfl⟩
  obtain⟨elt,gens,scope,p,rfl⟩:=this
  cases e' with
  |call f es=>
   obtain⟨_,z⟩:=ae hc;exact Bool.noConfusion z
  | ix a b=>exact Bool.noConfusion hc
  | _=>rfl
abbrev tW(K:PySem.W.Frag)(cl:RL.Cl):RL.Es->TA
 | .nil=>iO
 | .cons e es=>x6 (tE K cl e) (tW K cl es)
def Ab{K:PySem.W.Frag}{σD:RL.St}{σ:L2.St}:∀ {ps:RL.Es} {ds:List RL.D} {H:Hp} {Q:List V->Hp->Prop},RV0 K σD σ H->RL.evs cl σD ps=some ds->ds.all RL.written=true->(∀ vs H1,ax H H1->Q vs H1)->tW K cl ps σ H Q
 | .nil,ds,H,Q,rv,e,w,k=>k [] H (ax.refl _)
 | .cons p ps,ds,H,Q,rv,e,w,k=>by
  rw[RL.evs]at e;obtain⟨d,e1,e⟩:=bind_some e;obtain⟨ds',e2,e3⟩:=map_some e;subst e3;rw[List.all_cons,Bool.and_eq_true]at w
  cases d with
  |int i=>
   refine⟨σD,.int i,rv,e1,fun v H1 r1=>⟨i,ah r1.rep,by simpa[RL.written]using w.1,Ab (rv.same r1.same) e2 w.2 fun vs H2 sm=>k vs H2 (r1.same.trans sm)⟩⟩
  | _=>cases w.1
def nr{X:Cx}(h:XOk C X cl):∀ {vs:List Expr} {ps:RL.Es},rE C vs ps=true->PJ X vs (tW X.K cl ps)
 | [],.nil,z=>BU
 | [],.cons _ _,z=>by cases z
 | v::vs,ps,z=>by
  rw[rE]at z;split at z
  ·rename_i y hv;obtain⟨j,p,rfl⟩:=iC hv;obtain⟨z1,z2⟩:=ae z;exact BA (nr h z2) (by simpa using z1)
  ·cases z
  ·obtain⟨⟨e,cv,sp⟩,z0,z⟩:=ai z;obtain⟨p,rfl⟩:=Ag z0;obtain⟨z,z3⟩:=ae z;obtain⟨z1,z2⟩:=ae z;rw[beq_iff_eq]at z1;have y1:cv=-1:=z1;have y2:sp=none:=ku z2;clear z1 z2 z z0;subst y1 y2
   cases ps with
   | nil=>cases z3
   |cons q qs=>
    obtain⟨z4,z5⟩:=ae z3;exact CY ((aj q h e).1 z4) (nr h z5)
def xK{c:Str}{ps:RL.Es}{a:Expr}{np cpos pos:Pos}(h:ROk C X cl EX)(z1:C.calm=true)(z2:C.Xr.contains c=true)(z3:glB C c=true)(hn:noStar a=true)(z4:yp C ps a=true):RZ X EX cl M (.Raise (some (.Call (.Name c np) [a] [] cpos)) none pos) (.rais c ps):=by
 obtain⟨D,d1,d2⟩:=h.y.cls c z2;obtain⟨g1,g2⟩:=h.y.gl z3
 have key:∀ {ta:TE},PE X a ta->(∀ σD σ H ds (Q:VK),RV0 X.K σD σ H->RL.evs cl σD ps=some ds->ds.all RL.written=true->(∀ v H1,ax H H1->Q v H1)->ta σ H Q)->RZ X EX cl M (.Raise (some (.Call (.Name c np) [a] [] cpos)) none pos) (.rais c ps):=fun {ta} pe rd=>by
  intro pins s σ H Dn I q;refine PS.weak (ye (np:=np) (cpos:=cpos) (pos:=pos) (I.ok.hd.1 (h.y.calm z1)) g1 d1 (bM g2).1 d2.exc (fun pins σ H s h' e vs I m q=>h.made pins σ H s h' e D vs I m q) (bh pe cz (aw [] hn)) (aw [] hn)) (fun Dn σ H q=>?_) pins s σ H Dn I q;obtain⟨σD,x,σD',rv,e,k⟩:=q;rw[RL.iK]at e;obtain⟨ds,e1,e2⟩:=bind_some e;obtain⟨hw,e2⟩:=cL e2;cases e2
  exact rd σD σ H ds _ rv.rv0 e1 hw fun v H1 sm=>⟨by show 1<=sizeLine;decide,k σ H1 D d2 (rv.same sm) (Fr'.same sm)⟩
 unfold yp at z4;rcases Bool.or_eq_true_iff.mp z4 with z | z
 ·obtain⟨w1,w2⟩:=ae z;obtain⟨kk,q0,q⟩:=ai w1;obtain⟨j,p,rfl⟩:=iC q0
  cases kk with
  | str y=>exact key qE fun σD σ H ds Q rv e w k=>k _ H (ax.refl _)
  | _=>cases q
 ·obtain⟨vs,q0,z⟩:=ai z;obtain⟨p,rfl⟩:=xU q0;obtain⟨z,w3⟩:=ae z;obtain⟨w1,w2⟩:=ae z;rw[decide_eq_true_eq]at w1 w2
  match vs,w1,w2,w3 with
  |v::v2::vs,_,w2,w3=>
   exact key (PE.nox (wz (nr h.y.toXOk w3) (by simp at w2;omega))) fun σD σ H ds Q rv e w k=>Ab rv e w fun vs H1 sm x=>k _ H1 sm
end
def YOk.rok{C:CC}{X:Cx}(h:YOk C X cl)(pn:List (Addr × Obj))(E:Value->Shared->Prop)(EX:L2.St->XK)(hc:C.calm=true)(ps:∀ pins σ H s e s',Inv (CxX X pn E) pins σ H s->CXE X.prog X.w X.stack H s (EX σ) e s'->E e s')(md:∀ pins σ H s h' e C vs,Inv (CxX X pn E) pins σ H s->Heap.MadeExcOf s.heap h' e (.ref C) vs->EX σ (.ref C) none H->E (.ref e) { s with heap:=h' })(ow:PassesOwn (model X.prog X.w) X.A X.env E):ROk C (CxX X pn E) cl EX where
 y:={ scope:=h.scope,names:=h.names,nd:=h.nd,calm:=h.calm,xe:=rfl,hu:=h.hu,blt:=h.blt,glb:=h.glb,fns:=h.fns,hfn:=h.hfn,cls:=h.cls,ref:=h.ref,fn:=h.fn,st:=h.st,fnx:=h.fnx }
 cal:=hc
 pass:=ps
 made:=md
 own:=ow
def YOk.bS{C:CC}{X:Cx}(h:YOk C X cl)(e:Addr)(oe:Obj):YOk { C with calm:=false } (X.bS e oe) cl where
 scope:=h.scope
 names:=h.names
 nd:=h.nd
 calm:=fun z=>nomatch z
 xe:=h.xe
 hu:=h.hu
 blt:=h.blt
 glb:=h.glb
 fns:=fun _ _ _ z=>nomatch z
 hfn:=fun f x a b=>by
  obtain⟨k,fa,fd,ps,F,hr,r⟩:=h.hfn f x a b;exact⟨k,fa,fd,ps,F,⟨hr.dp,hr.un⟩,r⟩
 cls:=h.cls
 ref:=h.ref
 fn:=h.fn
 st:=h.st
 fnx:=fun _ _ z=>nomatch z
end
section
variable{cl:RL.Cl}
mutual
theorem sO:∀ (s:RL.S) {X:Cx} {C:CC} {M:List Nat} (h:YOk C X cl) (st:Stmt),xC C M s st=true->SS X cl M st s
 | .asg i e',X,C,M,h,st,z=>by
  obtain⟨⟨ts,e⟩,z0,z⟩:=ai z;obtain⟨p,rfl⟩:=dQ z0;obtain⟨t,y1,z⟩:=aJ z;have y1:ts=[t]:=y1;obtain⟨z,zc⟩:=ae z;obtain⟨z,z4⟩:=ae z;obtain⟨z,z3⟩:=ae z;obtain⟨z1,z2⟩:=ae z;subst y1;exact Di (zV zc h z1 z3 z4) (jP z2)
 | .own i e',X,C,M,h,st,z=>by
  obtain⟨⟨ts,e⟩,z0,z⟩:=ai z;obtain⟨p,rfl⟩:=dQ z0;obtain⟨t,y1,z⟩:=aJ z;have y1:ts=[t]:=y1;obtain⟨z,zc⟩:=ae z;obtain⟨z,z5⟩:=ae z;obtain⟨z,z4⟩:=ae z;obtain⟨z,z3⟩:=ae z;obtain⟨z1,z2⟩:=ae z;subst y1;exact DQ (zV zc h z1 z4 z5) z2 (by simpa using z3)
 | .unp is e',X,C,M,h,st,z=>by
  obtain⟨⟨ts,e⟩,z0,z⟩:=ai z;obtain⟨p,rfl⟩:=dQ z0;obtain⟨t,y1,z⟩:=aJ z;have y1:ts=[t]:=y1;obtain⟨us,y2,z⟩:=ai z;obtain⟨k,tp,rfl⟩:=dP y2;obtain⟨z,z4⟩:=ae z;obtain⟨z,z3⟩:=ae z;obtain⟨z1,z2⟩:=ae z;subst y1;obtain⟨g1,g2,g3⟩:=kg h.toXOk (T:=is) (fun i x _ _=>.inl (h.fn x)) (fun _ h=>h) z1;refine AA (qS ((aj e' h.toXOk e).1 z4) (rN (mK g1 g2 g3) (nG g1 g2 g3)) ?_ (oG z3)) (mV z2);cases e<;>rfl
 | .par i j a' b',X,C,M,h,st,z=>by
  obtain⟨⟨ts,e⟩,z0,z⟩:=ai z;obtain⟨p,rfl⟩:=dQ z0;obtain⟨t,y1,z⟩:=aJ z;have y1:ts=[t]:=y1;obtain⟨us,y2,z⟩:=ai z;obtain⟨k,tp,e2⟩:=dP y2;obtain⟨s1,s2,y3,z⟩:=dB z;obtain⟨⟨x,px⟩,y4,z⟩:=ai z;obtain⟨⟨y,py⟩,y5,z⟩:=ai z;obtain⟨vs,y6,z⟩:=ai z;obtain⟨k',tp',e6⟩:=dP y6;have e6:e=.Tuple vs k' tp':=e6;obtain⟨a,b,y7,w⟩:=dB z;rw[oi y4,oi y5]at y3;rw[y3]at e2
  have e7:e=.Tuple [a,b] k' tp':=by rw[<-y7];exact e6
  rw[e2]at y1;subst y1 e7;obtain⟨w,zc⟩:=ae w;obtain⟨w,z8⟩:=ae w;obtain⟨w,z7⟩:=ae w;obtain⟨w,z6⟩:=ae w;obtain⟨w,z5⟩:=ae w;obtain⟨w,z4⟩:=ae w;obtain⟨w,z3⟩:=ae w;obtain⟨z1,z2⟩:=ae w;obtain⟨g1,g2,g3,g4,g5⟩:=D4 h.toXOk z6;exact Ex (C5 (h.calm zc) h.ndX (h.nm z1).1 (h.nm z2).1 (by simpa using z3) g2 g3 (bH (cl:=cl) ((aj a' h.toXOk a).1 z7) (bH ((aj b' h.toXOk b).1 z8) cB g5) g4) g1) (jP z4) (jP z5)
 | .app i e',X,C,M,h,st,z=>by
  obtain⟨e,z0,z8⟩:=ai z;obtain⟨p0,rfl⟩:=kq z0;obtain⟨x,p,apos,as,pos,rfl,g1,g2,g3,g4,z6,z7⟩:=nI h.toXOk z8;obtain⟨y,rfl,z9⟩:=aJ z7;obtain⟨z9,z7⟩:=ae z9;obtain⟨z4,z5⟩:=ae z9;refine CA (k7 (zP PySem.F.plainAttrs_list PySem.F.slot_list_append PySem.F.type_list_append ou (gB g1 g2 g3 g4) (bH (cl:=cl) ((aj e' h.toXOk y).1 z7) cB z5) rfl ?_ z6 (aw [] z5) rfl)) z4;rw[aw [] z5];rfl
 | .put i k' e',X,C,M,h,st,z=>by
  obtain⟨⟨ts,e⟩,z0,z⟩:=ai z;obtain⟨p,rfl⟩:=dQ z0;obtain⟨t,y1,z⟩:=aJ z;have y1:ts=[t]:=y1;obtain⟨⟨o,k⟩,y2,z⟩:=ai z;obtain⟨sp,e2⟩:=iI y2;obtain⟨z,z7⟩:=ae z;obtain⟨z,z6⟩:=ae z;obtain⟨z,z5⟩:=ae z;obtain⟨z,z4⟩:=ae z;obtain⟨z1,z3⟩:=ae z;obtain⟨x,px,e3,g1,g2,g3,g4⟩:=i8 h.toXOk z1;have e3:o=.Name x px:=e3;rw[e3]at e2;rw[e2]at y1;subst y1;have pv:=fun pos=>gB (X:=X) (pos:=pos) g1 g2 g3 g4;refine AM (qS ((aj e' h.toXOk e).1 z7) (BR (pv _) ((aj k' h.toXOk k).1 z6) set_list (uK z4)) ?_ ?_) (B7 (Nat.lt_of_le_of_lt (by lia) h.hu) (pv _) ((aj k' h.toXOk k).1 z6) ((aj e' h.toXOk e).1 z7) (eC z5)) z3
  ·unfold swapsWithSole;exact eC z5
  ·rfl
 | .pop i j,X,C,M,h,st,z=>by
  obtain⟨⟨ts,e⟩,z0,z⟩:=ai z;obtain⟨p,rfl⟩:=dQ z0;obtain⟨t,y1,z⟩:=aJ z;have y1:ts=[t]:=y1;obtain⟨z,z4⟩:=ae z;obtain⟨z,z3⟩:=ae z;obtain⟨z1,z2⟩:=ae z;obtain⟨y,py,rfl,l1,l2⟩:=gH h.toXOk z1;obtain⟨x,px,apos,as,pos,e2,g1,g2,g3,g4,z6,z5⟩:=nI h.toXOk z4;have e2:e=.Call (.Attribute (.Name x px) "pop" apos) as [] pos:=e2;have z5:as=[]:=List.isEmpty_iff.mp z5;subst y1 z5 e2;exact Dh (qK h.ndX l1 l2 (wt PySem.F.plainAttrs_list PySem.F.slot_list_pop PySem.F.type_list_pop vp (gB g1 g2 g3 g4) rfl z6) rfl (.inl (h.fn _))) z2 (jP z3)
 | .ife c' a' b',X,C,M,h,st,z=>by
  obtain⟨⟨c,a,b⟩,z0,z⟩:=ai z;obtain⟨p,rfl⟩:=qW z0;obtain⟨z,z3⟩:=ae z;obtain⟨z1,z2⟩:=ae z;exact F4 ((aj c' h.toXOk c).2 z1).1 (c7 a' h a z2) (c7 b' h b z3)
 | .forr tg it b',X,C,M,h,st,z=>by
  obtain⟨⟨t,it',b,o⟩,z0,z⟩:=ai z;obtain⟨p,rfl⟩:=sZ z0;obtain⟨z,zc⟩:=ae z;obtain⟨z,z7⟩:=ae z;obtain⟨z,z6⟩:=ae z;obtain⟨z,z5⟩:=ae z;obtain⟨z,z4⟩:=ae z;obtain⟨z,z3⟩:=ae z;obtain⟨z1,z2⟩:=ae z;have z1:o=[]:=List.isEmpty_iff.mp z1;subst z1;exact Dp h.xe (h.calm zc) (gf it h.toXOk t it' z2) (qo h.toXOk (fun i x _ _=>.inl (h.fn x)) z3) (c7 b' h b z7) (dC z4 _) z5 (mV z6)
 | .mexc f es ps ms,X,C,M,h,st,z=>by
  obtain⟨e,z0,z⟩:=ai z;obtain⟨p0,rfl⟩:=kq z0;obtain⟨g1,g2,g3,g4,g5,g6⟩:=yx h.toXOk z;exact AH (k7 g1 (eC g6)) g2 g3 g4 g5
 | .ret e',X,C,M,h,st,z=>by
  obtain⟨o,z0,z⟩:=ai z;obtain⟨p,rfl⟩:=su z0;obtain⟨e,rfl,zz⟩:=ai z;by_cases hv:sI M e'=true
  ·have:∃ i,e'=.var i:=by
    cases e'<;>first | exact⟨_,rfl⟩ | exact Bool.noConfusion hv
   obtain⟨i,rfl⟩:=this;obtain⟨x,q,rfl,g1,g2,g3,g4⟩:=i8 h.toXOk zz;exact An g1 g2 g3 g4 hv
  ·exact Co ((aj e' h.toXOk e).1 zz) fun i hi=>by
    subst hi;simpa[sI]using hv
 | .exc e',X,C,M,h,st,z=>by
  obtain⟨e,z0,z⟩:=ai z;obtain⟨p0,rfl⟩:=kq z0;obtain⟨z1,z2⟩:=ae z;exact E2 (k7 ((aj e' h.toXOk e).1 z2) (eC z1))
 | .ifp i e' a' b',X,C,M,h,st,z=>by
  obtain⟨⟨c,a,b⟩,z0,z⟩:=ai z;obtain⟨p,rfl⟩:=qW z0;obtain⟨⟨l,os,rs⟩,z0,z⟩:=ai z;obtain⟨cp,ec⟩:=iH z0;have ec:c=.Compare l os rs cp:=ec;obtain⟨op,y1,z⟩:=aJ z;obtain⟨e,y2,z⟩:=aJ z;have y1:os=[op]:=y1;have y2:rs=[e]:=y2;obtain⟨z,z6⟩:=ae z;obtain⟨z,z5⟩:=ae z;obtain⟨z,z4⟩:=ae z;obtain⟨z,z3⟩:=ae z;obtain⟨z1,z2⟩:=ae z;rw[beq_iff_eq]at z1;obtain⟨x,px,apos,as,pos,e2,g1,g2,g3,g4,z7,z8⟩:=nI h.toXOk z6;have e2:l=.Call (.Attribute (.Name x px) "pop" apos) as [] pos:=e2;have z8:as=[]:=List.isEmpty_iff.mp z8;rw[z8]at e2;rw[y1,y2,z1,e2]at ec;subst ec;exact C4 (wt PySem.F.plainAttrs_list PySem.F.slot_list_pop PySem.F.type_list_pop vp (gB g1 g2 g3 g4) rfl z7) ((aj e' h.toXOk e).1 z3) (c7 a' h a z4) (c7 b' h b z5) z2
 | .rais _ _,X,C,M,h,st,z=>B8
 | .tryc b c i hh,X,C,M,h,st,z=>by
  obtain⟨⟨bd,hs,oe,fi⟩,z0,z⟩:=ai z;obtain⟨p,rfl⟩:=AV z0;obtain⟨z,z9⟩:=ae z;obtain⟨z,z8⟩:=ae z;obtain⟨z,z7⟩:=ae z;obtain⟨z,z6⟩:=ae z;obtain⟨z,z5⟩:=ae z;obtain⟨z,z4⟩:=ae z;obtain⟨z,z3⟩:=ae z;obtain⟨z1,z2⟩:=ae z;have v2:oe=[]:=List.isEmpty_iff.mp z2;have v3:fi=[]:=List.isEmpty_iff.mp z3;obtain⟨hd,y1,z8⟩:=aJ z8;have v1:hs=[hd]:=y1;obtain⟨ht,hn,hb,hp⟩:=hd;obtain⟨w,w4⟩:=ae z8;obtain⟨w,w3⟩:=ae w;obtain⟨w1,w2⟩:=ae w;obtain⟨te,q1,w5⟩:=ai w1;have u1:ht=some te:=q1;obtain⟨x,q2,w6⟩:=ai w5;obtain⟨np,q4⟩:=cj q2;rw[beq_iff_eq]at w6;clear w1 w5 q2;subst q4 w6;obtain⟨n,q3,w7⟩:=ai w2;have u3:hn=some n:=q3;obtain⟨n1,n2⟩:=ae w7;rw[beq_iff_eq]at n2;have z9:cO C M b bd=true:=z9;have w4:cO { C with calm:=false } M hh hb=true:=w4;have w3:(!hb.isEmpty)=true:=w3;clear z2 z3 y1 q1 q3 z0 z;subst v2 v3 u1 u3
  cases hb with
  | nil=>cases w3
  |cons b0 bS=>
   subst v1;obtain⟨R,r1,r2⟩:=h.cls x z4;refine Em h.xe h.st.1 h.st.2.1 h.st.2.2 (c7 b h bd z9) (fun pn E EX ps md ow=>eF b (h.rok pn E EX z1 ps md ow) bd z9) (fun e oe=>c7 hh (h.bS e oe) (b0::bS) w4) r2 (by simpa using z5) (h.gl z6).1 r1 (bM (h.gl z6).2).1 h.ndX (h.nm n1).1 (by rw[h.scope];exact n2) (jP z7)
theorem c7:∀ (s:RL.Ss) {X:Cx} {C:CC} {M:List Nat} (h:YOk C X cl) (st:List Stmt),cO C M s st=true->SSs X cl M st s
 | .nil,X,C,M,h,st,z=>by
  have z:st=[]:=List.isEmpty_iff.mp z;subst z;exact Bu
 | .cons s r,X,C,M,h,st,z=>by
  cases st with
  | nil=>cases z
  |cons x xs=>
   obtain⟨z1,z2⟩:=ae z;exact xR (sO s h x z1) (c7 r h xs z2)
theorem yG:∀ (s:RL.S) {X:Cx} {C:CC} {M:List Nat} {EX:L2.St->XK} (h:ROk C X cl EX) (st:Stmt),xC C M s st=true->RZ X EX cl M st s
 | .asg i e',X,C,M,EX,h,st,z=>by
  obtain⟨⟨ts,e⟩,z0,z⟩:=ai z;obtain⟨p,rfl⟩:=dQ z0;obtain⟨t,y1,z⟩:=aJ z;have y1:ts=[t]:=y1;obtain⟨z,zc⟩:=ae z;obtain⟨z,z4⟩:=ae z;obtain⟨z,z3⟩:=ae z;obtain⟨z1,z2⟩:=ae z;subst y1;exact wJ h z1 z3 z4 (fun _=>rfl)
 | .own i e',X,C,M,EX,h,st,z=>by
  obtain⟨⟨ts,e⟩,z0,z⟩:=ai z;obtain⟨p,rfl⟩:=dQ z0;obtain⟨t,y1,z⟩:=aJ z;have y1:ts=[t]:=y1;obtain⟨z,zc⟩:=ae z;obtain⟨z,z5⟩:=ae z;obtain⟨z,z4⟩:=ae z;obtain⟨z,z3⟩:=ae z;obtain⟨z1,z2⟩:=ae z;subst y1;exact wJ h z1 z4 z5 (fun _=>rfl)
 | .unp is e',X,C,M,EX,h,st,z=>by
  obtain⟨⟨ts,e⟩,z0,z⟩:=ai z;obtain⟨p,rfl⟩:=dQ z0;obtain⟨t,y1,z⟩:=aJ z;have y1:ts=[t]:=y1;obtain⟨us,y2,z⟩:=ai z;obtain⟨k,tp,rfl⟩:=dP y2;obtain⟨z,z4⟩:=ae z;obtain⟨z,z3⟩:=ae z;obtain⟨z1,z2⟩:=ae z;subst y1;obtain⟨g1,g2,g3⟩:=kg h.y.toXOk (T:=is) (fun i x _ _=>.inl (h.y.fn x)) (fun _ h=>h) z1;refine pf (qS (gm e' h e z4) (PG.nox (rN (mK g1 g2 g3) (nG g1 g2 g3))) ?_ (oG z3)) fun _=>rfl;cases e<;>rfl
 | .exc e',X,C,M,EX,h,st,z=>by
  obtain⟨e,z0,z⟩:=ai z;obtain⟨p0,rfl⟩:=kq z0;obtain⟨z1,z2⟩:=ae z;exact pf (k7 (gm e' h e z2) (eC z1)) fun _=>rfl
 | .ret e',X,C,M,EX,h,st,z=>by
  obtain⟨o,z0,z⟩:=ai z;obtain⟨p,rfl⟩:=su z0;obtain⟨e,rfl,zz⟩:=ai z;exact pf (g:=fun D _=>D.rt) (pW (gm e' h e zz)) fun _=>rfl
 | .ife c' a' b',X,C,M,EX,h,st,z=>by
  obtain⟨⟨c,a,b⟩,z0,z⟩:=ai z;obtain⟨p,rfl⟩:=qW z0;obtain⟨z,z3⟩:=ae z;obtain⟨z1,z2⟩:=ae z;exact F5 (PT.nox ((aj c' h.y.toXOk c).2 z1).1) (eF a' h a z2) (eF b' h b z3)
 | .forr tg it b',X,C,M,EX,h,st,z=>by
  obtain⟨⟨t,it',b,o⟩,z0,z⟩:=ai z;obtain⟨p,rfl⟩:=sZ z0;obtain⟨z,zc⟩:=ae z;obtain⟨z,z7⟩:=ae z;obtain⟨z,z6⟩:=ae z;obtain⟨z,z5⟩:=ae z;obtain⟨z,z4⟩:=ae z;obtain⟨z,z3⟩:=ae z;obtain⟨z1,z2⟩:=ae z;have z1:o=[]:=List.isEmpty_iff.mp z1;subst z1;exact E6 h.own (h.y.calm zc) (PI.nox (gf it h.y.toXOk t it' z2)) (PG.nox (qo h.y.toXOk (fun i x _ _=>.inl (h.y.fn x)) z3)) (PSs.nox (c7 b' h.y b z7)) (eF b' h b z7) (dC z4 _) z5 (mV z6)
 | .rais c ps,X,C,M,EX,h,st,z=>by
  obtain⟨⟨eo,co⟩,z0,z⟩:=ai z;obtain⟨p,rfl⟩:=vc z0;obtain⟨z,z5⟩:=ae z;obtain⟨z,z4⟩:=ae z;obtain⟨z,z3⟩:=ae z;obtain⟨z1,z2⟩:=ae z;have z4:co=none:=ku z4;obtain⟨e,q1,z5⟩:=ai z5;have q1:eo=some e:=q1;obtain⟨⟨g,as,ks,cp⟩,w0,w⟩:=ai z5;have w0:=dH w0;obtain⟨w,w3⟩:=ae w;obtain⟨w1,w2⟩:=ae w;obtain⟨x,q2,w1⟩:=ai w1;obtain⟨np,q3⟩:=cj q2;have q3:g=.Name x np:=q3;rw[beq_iff_eq]at w1;subst w1;have w2:ks=[]:=List.isEmpty_iff.mp w2;obtain⟨a,q4,w3⟩:=aJ w3;have q4:as=[a]:=q4;obtain⟨w3,w4⟩:=ae w3;rw[q3,w2,q4]at w0;subst w0 z4 q1;exact xK h z1 z2 z3 w3 w4
 | .par _ _ _ _,X,C,M,EX,h,st,z=>hZ fun _=>rfl
 | .app _ _,X,C,M,EX,h,st,z=>hZ fun _=>rfl
 | .put _ _ _,X,C,M,EX,h,st,z=>hZ fun _=>rfl
 | .pop _ _,X,C,M,EX,h,st,z=>hZ fun _=>rfl
 | .ifp _ _ _ _,X,C,M,EX,h,st,z=>hZ fun _=>rfl
 | .mexc _ _ _ _,X,C,M,EX,h,st,z=>hZ fun _=>rfl
 | .tryc _ _ _ _,X,C,M,EX,h,st,z=>hZ fun _=>rfl
theorem eF:∀ (s:RL.Ss) {X:Cx} {C:CC} {M:List Nat} {EX:L2.St->XK} (h:ROk C X cl EX) (st:List Stmt),cO C M s st=true->RZs X EX cl M st s
 | .nil,X,C,M,EX,h,st,z=>Ak
 | .cons s r,X,C,M,EX,h,st,z=>by
  cases st with
  | nil=>cases z
  |cons x xs=>
   obtain⟨z1,z2⟩:=ae z;exact yU (PS.nox (sO s h.y x z1)) (yG s h x z1) (eF r h xs z2)
end
end
structure fS where
 name:Str
 st:Stmt
 ps:List Str
 N:List Str
 h:Bool
structure PT' where
 B:List Str
 G:List (Str × Int)
 Ds:List fS
 T:List RL.Fn
 Xr:List Str
 Xs:List Str
abbrev PT'.F(p:PT'):List (Str × List Nat):=(p.Ds.zip p.T).map fun q=>(q.1.name,q.2.mp)
abbrev PT'.hf(p:PT'):List Nat:=(List.range p.Ds.length).filter fun f=>(p.Ds[f]?).any (·.h)
abbrev PT'.cc(p:PT')(d:fS):CC:=⟨d.N,aN d.st,p.B,p.G,p.F,true,p.hf,p.Xr,p.Xs⟩
abbrev qg(N ps:List Str)(sc:Scope):Bool :=
 sc.kind == .function && !sc.isCoroutine && !sc.isGenerator&&decide N.Nodup&&N.take ps.length == ps&&ps.all (fun x=>sc.names.lookup x == some .local || sc.names.lookup x == some .cell)&&sc.names.all (fun y=>!(y.2 == .free))
abbrev fnB(p:PT')(d:fS)(fn:RL.Fn):Bool :=
 qg d.N d.ps (aN d.st)&&fn.ps == d.ps.length&&fn.nn == d.N.length&&decide (d.ps.length<=d.N.length)&&(List.range fn.ps).all (fun i=>!fn.M.contains i || fn.mp.contains i)&&fn.mp.all (fun i=>decide (i<fn.ps)&&decide (2<=fn.M.count i))&&cO (p.cc d) fn.M fn.body (cC d.st)&&(!d.h || cO { p.cc d with calm:=false } fn.M fn.body (cC d.st))
abbrev PT'.ok(p:PT'):Bool:=decide (p.T.length<=1000)&&p.Ds.length == p.T.length&&(p.Ds.zip p.T).all fun q=>fnB p q.1 q.2
def yf{N ps:List Str}{sc:Scope}(h:qg N ps sc=true):fh N ps sc:=by
 unfold qg at h;obtain⟨h,h7⟩:=ae h;obtain⟨h,h6⟩:=ae h;obtain⟨h,h5⟩:=ae h;obtain⟨h,h4⟩:=ae h;obtain⟨h,h3⟩:=ae h;obtain⟨h1,h2⟩:=ae h;refine⟨by simpa using h1,by simpa using h2,by simpa using h3,by simpa using h4,by simpa using h5,fun x hx=>?_,fun y hy=>?_⟩
 ·rw[List.all_eq_true]at h6;have:=h6 x hx;rw[Bool.or_eq_true,beq_iff_eq,beq_iff_eq]at this;exact this
 ·rw[List.all_eq_true]at h7;have:=h7 y hy;intro z;rw[z]at this;simp at this
structure uH(p:PT')(K:PySem.W.Frag)(mg:Str->Option Value):Prop where
 defs:∀ (f:Nat) (d:fS),p.Ds[f]?=some d->∃ fa fd,mg d.name=some (.ref fa)/\Fun K d.name d.name d.st fa fd/\PySem.W.keepIn K (.ref fa)=true/\Binds K fd d.ps []
 blt:∀ x∈p.B,mg x=none
 glb:∀ x i,p.G.lookup x=some i->∃ u,mg x=some u/\RelV (.int i) u
 cls:∀ c,p.Xr.contains c=true->∃ D,mg c=some (.ref D)/\Cls K c D
 ref:∀ c,p.Xs.contains c=true->∃ D,mg c=some (.ref D)/\PySem.W.nsIn K mainGlobals c=some (some (.ref D))
section
variable{p:PT'}{K:PySem.W.Frag}{mg:Str->Option Value}{base:Heap}{P:Program}{w:World}
abbrev mY(K:PySem.W.Frag)(cl:RL.Cl)(mp:List Nat)(f:Nat):Sp:=if mp=[]then spF K cl f else spM K cl mp f
def bp{α:Type}(vs:List α)(k:Nat)(i:Nat)(v:α):(vs.map some++List.replicate k none)[i]?=some (some v)↔vs[i]?=some v:=by
 by_cases h:i<vs.length
 ·rw[List.getElem?_append_left (by simpa using h)];simp[h]
 ·rw[List.getElem?_append_right (by simpa using h)];constructor
  ·intro e;rw[List.getElem?_replicate]at e;split at e<;>cases e
  ·intro e;have:=(List.getElem?_eq_some_iff.mp e).1;lia
def sy{ds:List RL.D}{vs:List V}{H:Hp}{M:List Nat}{k n:Nat}(r:af nP K H ds vs)(hM:∀ i,i<n->M.contains i=false)(hn:ds.length=n):RVm K M (ds.map some++List.replicate k none) (vs.map some++List.replicate k none) H:=by
 have nA:∀ a,¬ aZ M (vs.map some++List.replicate k none) a:=fun a ⟨i,hi,e⟩=>by
  rw[bp]at e;have:=(List.getElem?_eq_some_iff.mp e).1;rw[hM i (by rw[<-hn,r.length];exact this)]at hi;cases hi
 refine⟨by simp[r.length],fun i d e=>?_,fun i v e=>?_,fun i j a hi hj e1 e2=>(nA a ⟨i,hi,e1⟩).elim⟩
 ·rw[bp]at e;obtain⟨v,h1,h2⟩:=r.get e;have hl:=(List.getElem?_eq_some_iff.mp e).1;refine⟨v,(bp _ _ _ _).mpr h1,?_⟩;rw[if_neg (by rw[hM i (by lia)];decide)];exact h2.weak fun a ha=>nA a ha
 ·rw[bp]at e;have hl:=(List.getElem?_eq_some_iff.mp e).1;exact⟨ds[i]'(by rw[r.length];exact hl),(bp _ _ _ _).mpr (by simp)⟩
def Be{ds:List RL.D}{vs:List V}{H:Hp}{M mp:List Nat}{k n:Nat}(a:BV K mp ds vs H)(hM:∀ i,i<n->M.contains i=true->i∈mp)(hp:∀ i∈mp,M.contains i=true)(hn:ds.length=n):RVm K M (ds.map some++List.replicate k none) (vs.map some++List.replicate k none) H:=by
 have r:=a.mW
 have inM:∀ i v,(vs.map some++List.replicate k none)[i]?=some (some v)->M.contains i=true->i∈mp/\vs[i]?=some v:=fun i v e hi=>by
  rw[bp]at e;have:=(List.getElem?_eq_some_iff.mp e).1;exact⟨hM i (by rw[<-hn,r.length];exact this) hi,e⟩
 refine⟨by simp[r.length],fun i d e=>?_,fun i v e=>?_,fun i j b hi hj e1 e2=>?_⟩
 ·rw[bp]at e;obtain⟨v,h1,h2⟩:=r.get e;have hl:=(List.getElem?_eq_some_iff.mp e).1;refine⟨v,(bp _ _ _ _).mpr h1,?_⟩;by_cases hm:M.contains i=true
  ·rw[if_pos hm];obtain⟨d',b,g1,g2,g3⟩:=a.own i (hM i (by lia) hm);rw[e]at g1;cases g1;rw[h1]at g2;cases g2;exact g3
  ·rw[if_neg hm];refine(a.oth i d v (fun z=>hm (hp i z)) e h1).weak fun b ⟨j,hj,ej⟩=>?_;obtain⟨q1,q2⟩:=inM j _ ej hj;exact⟨j,q1,q2⟩
 ·rw[bp]at e;have hl:=(List.getElem?_eq_some_iff.mp e).1;exact⟨ds[i]'(by rw[r.length];exact hl),(bp _ _ _ _).mpr (by simp)⟩
 ·obtain⟨q1,q2⟩:=inM i _ e1 hi;obtain⟨q3,q4⟩:=inM j _ e2 hj;exact a.sep i q1 j q3 b q2 q4
def rC{σ:RL.St}:∀ {mp:List Nat} {outs:List RL.D},RL.gI σ mp=some outs->outs.length=mp.length/\∀ (k i:Nat) o,mp[k]?=some i->outs[k]?=some o->σ[i]?=some (some o)
 | [],outs,h=>by
  rw[RL.gI]at h;cases h;exact⟨rfl,fun k i o e=>by simp at e⟩
 | m::mp,outs,h=>by
  rw[RL.gI]at h;obtain⟨d,h1,h⟩:=bind_some h;obtain⟨os,h2,h3⟩:=map_some h;subst h3;obtain⟨g1,g2⟩:=rC h2;refine⟨by simp[g1],fun k i o e1 e2=>?_⟩
  cases k with
  |zero=>
   simp at e1 e2;subst e1 e2;exact slot_get h1
  | succ k=>exact g2 k i o (by simpa using e1) (by simpa using e2)
def vC{fn:RL.Fn}{d r:RL.D}{σ:RL.St}(h:RL.aW fn d σ=some r)(hm:fn.mp=[]):r=d:=by
 unfold RL.aW at h;rw[hm]at h;simpa using h.symm
def DR{fn:RL.Fn}{d r:RL.D}{σ:RL.St}(h:RL.aW fn d σ=some r)(hm:fn.mp≠[]):d.imm=true/\∃ outs,RL.gI σ fn.mp=some outs/\r=.tup (d::outs):=by
 unfold RL.aW at h;rw[if_neg (by simpa using hm)]at h;split at h
 ·rename_i im;obtain⟨os,h1,h2⟩:=map_some h;exact⟨im,os,h1,h2.symm⟩
 ·cases h
structure FnB(p:PT')(d:fS)(fn:RL.Fn):Prop where
 sc:fh d.N d.ps (aN d.st)
 ps:fn.ps=d.ps.length
 nn:fn.nn=d.N.length
 hM:∀ i,i<fn.ps->fn.M.contains i=true->i∈fn.mp
 mp:∀ i∈fn.mp,i<fn.ps/\2<=fn.M.count i
 body:cO (p.cc d) fn.M fn.body (cC d.st)=true
 hb:d.h=true->cO { p.cc d with calm:=false } fn.M fn.body (cC d.st)=true
def Eu{d:fS}{fn:RL.Fn}(hB:fnB p d fn=true):FnB p d fn:=by
 unfold fnB at hB;obtain⟨hB,b8⟩:=ae hB;obtain⟨hB,b7⟩:=ae hB;obtain⟨hB,b6⟩:=ae hB;obtain⟨hB,b5⟩:=ae hB;obtain⟨hB,b4⟩:=ae hB;obtain⟨hB,b3⟩:=ae hB;obtain⟨b1,b2⟩:=ae hB;rw[beq_iff_eq]at b2 b3;rw[List.all_eq_true]at b5 b6;refine⟨yf b1,b2,b3,fun i hi hm=>?_,fun i hi=>by simpa using b6 i hi,b7,fun hh=>by simpa[hh]using b8⟩;have:=b5 i (List.mem_range.mpr hi);rw[hm]at this;simpa using this
def xl{f:Nat}(h:p.hf.contains f=true):∃ d,p.Ds[f]?=some d/\d.h=true:=by
 unfold PT'.hf at h;rw[List.contains_iff_mem,List.mem_filter]at h;exact ai h.2
def v8{cl:RL.Cl}{f:Nat}{d:fS}{fn:RL.Fn}{vs:List V}{H:Hp}{Q:VK}{ds:List RL.D}{r:RL.D}{o:RL.Out}{σ':RL.St}(B:FnB p d fn)(hmp:fn.mp=[])(r1:af nP K H ds vs)(hlen:ds.length=fn.ps)(e2:(match o with | .nx=>RL.aW fn .non σ' | .rt d=>RL.aW fn d σ')=some r)(e1:RL.ag cl fn.M fn.body (ds.map some++List.replicate (fn.nn-fn.ps) none)=some (o,σ'))
 (k:∀ v H',ax H H'->Rep (fun p=>H p≠none) K H' r v->Q v H'):tS K fn.M (RL.ag cl fn.M fn.body) { nx:=fun _ H'=>Q .non H',rt:=Q } (start d.N vs) H:=by
 have hst:start d.N vs=vs.map some++List.replicate (d.N.length-vs.length) none:=rfl
 have hvl:vs.length=fn.ps:=by rw[<-r1.length];exact hlen
 refine⟨_,o,σ',?_,e1,?_⟩
 ·rw[hst,hvl,<-B.nn]
  exact sy r1 (fun i hi=>by
   cases hc:fn.M.contains i with
   | false=>rfl
   |true=>
    have:=B.hM i hi hc;rw[hmp]at this
    cases this) hlen
 ·have noA:∀ a,¬ aZ fn.M (start d.N vs) a:=fun a ⟨i,hi,ei⟩=>by
   rw[hst,bp]at ei;have h3:=(List.getElem?_eq_some_iff.mp ei).1;have:=B.hM i (by lia) hi;rw[hmp]at this;cases this
  cases o with
  |nx=>
   have hr':=vC (d:=.non) e2 hmp;subst hr';intro σ1 H1 rv1 fr1;refine k .non H1 (fun b u eb=>(fr1.1 b u eb (noA b)).1) (by rw[Rep])
  |rt d0=>
   have hr':=vC (d:=d0) e2 hmp;subst hr';intro σ1 H1 v H' rv1 fr1 sm rp;refine k v H' (fun b u eb=>sm _ _ (fr1.1 b u eb (noA b)).1) (rp _ fun q hq=>?_);obtain⟨u,hu⟩:=Option.ne_none_iff_exists'.mp hq;have:=fr1.1 q u hu (noA q);exact⟨(by rw[this.1];exact fun z=>nomatch z),this.2⟩
def C6{cl:RL.Cl}{d:fS}{fn:RL.Fn}{vs:List V}{H:Hp}{E:XK}{ds:List RL.D}{x:Str}{σ':RL.St}{D:Ends}(B:FnB p d fn)(hmp:fn.mp=[])(r1:af nP K H ds vs)(hlen:ds.length=fn.ps)(e1:RL.cq cl fn.M fn.body (ds.map some++List.replicate (fn.nn-fn.ps) none)=some (x,σ'))
 (k:∀ C H',Cls K x C->ax H H'->E (.ref C) none H'):tXS K fn.M (fun _=>E) (RL.cq cl fn.M fn.body) D (start d.N vs) H:=by
 have hst:start d.N vs=vs.map some++List.replicate (d.N.length-vs.length) none:=rfl
 have hvl:vs.length=fn.ps:=by rw[<-r1.length];exact hlen
 refine⟨_,x,σ',?_,e1,fun σ1 H1 C hc rv1 fr1=>k C H1 hc fun b u eb=>(fr1.1 b u eb fun⟨i,hi,ei⟩=>?_).1⟩
 ·rw[hst,hvl,<-B.nn]
  exact sy r1 (fun i hi=>by
   cases hc:fn.M.contains i with
   | false=>rfl
   |true=>
    have:=B.hM i hi hc;rw[hmp]at this
    cases this) hlen
 ·rw[hst,bp]at ei;have h3:=(List.getElem?_eq_some_iff.mp ei).1;have:=B.hM i (by lia) hi;rw[hmp]at this;cases this
structure Gx(P:Program)(w:World)(K:PySem.W.Frag)(mg:Str->Option Value)(base:Heap)(p:PT')(n f:Nat)(d:fS)(fn:RL.Fn)(fa:Addr)(fd:FuncData):Prop where
 nor:d5 P w K mg base CX0 n fa fd d.ps (mY K (RL.ak p.T n) fn.mp f)
 ref:fn.mp=[]->d5 P w K mg base (CXE P w) n fa fd d.ps (spX K (RL.ak p.T n) f)
 sui:d.h=true->fn.mp=[]->m6 P w K mg base n fa fd d.ps (spF K (RL.ak p.T n) f)
def il(hok:p.ok=true)(tp:uH p K mg):∀ (n f:Nat) (d:fS) (fn:RL.Fn),p.Ds[f]?=some d->p.T[f]?=some fn->∀ fa fd,Fun K d.name d.name d.st fa fd->Gx P w K mg base p n f d fn fa fd
 | 0,f,d,fn,hd,hf,fa,fd,F=>by
  have no:∀ vs H Q E,¬ mY K (RL.ak p.T 0) fn.mp f vs H Q E:=fun vs H Q E h=>by
   unfold mY at h;split at h
   ·obtain⟨ds,r,_,e,_⟩:=h;cases e
   ·obtain⟨ds,r,o,e,_⟩:=h;cases e
  have noF:∀ vs H Q E,¬ spF K (RL.ak p.T 0) f vs H Q E:=fun vs H Q E h=>by
   obtain⟨ds,r,_,e,_⟩:=h;cases e
  have noX:∀ vs H Q E,¬ spX K (RL.ak p.T 0) f vs H Q E:=fun vs H Q E h=>by
   obtain⟨ds,r,_,e,_⟩:=h;cases e
  exact⟨⟨fun vs H Q E h=>(no vs H Q E h).elim,fun A outer s H args us vs Q E _ _ _ _ h=>(no vs H Q E h).elim⟩,fun _=>⟨fun vs H Q E h=>(noX vs H Q E h).elim,fun A outer s H args us vs Q E _ _ _ _ h=>(noX vs H Q E h).elim⟩,fun _ _=>⟨fun vs H Q h=>(noF vs H Q E0 h).elim,fun A outer s H us vs Q _ _ _ _ _ h=>(noF vs H Q E0 h).elim⟩⟩
 | n+1,f,d,fn,hd,hf,fa,fd,F=>by
  have hok':=hok;unfold PT'.ok at hok';obtain⟨hok',hall⟩:=ae hok';obtain⟨hT,hl⟩:=ae hok';rw[beq_iff_eq]at hl;rw[decide_eq_true_eq]at hT;rw[List.all_eq_true]at hall
  have hz:(p.Ds.zip p.T)[f]?=some (d,fn):=by
   rw[List.getElem?_zip_eq_some];exact⟨hd,hf⟩
  have B:=Eu (hall (d,fn) (List.mem_of_getElem? hz))
  have unf:∀ ds r,RL.ak p.T (n+1) f ds=some r->ds.length=fn.ps/\∃ o σ',RL.ag (RL.ak p.T n) fn.M fn.body (ds.map some++List.replicate (fn.nn-fn.ps) none)=some (o,σ')/\(match o with | .nx=>RL.aW fn .non σ' | .rt d=>RL.aW fn d σ')=some r:=by
   intro ds r h;rw[RL.ak,hf]at h;dsimp only at h;split at h
   ·rename_i hlen;obtain⟨⟨o,σ'⟩,h1,h2⟩:=bind_some h;exact⟨hlen,o,σ',h1,h2⟩
   ·cases h
  have unx:∀ ds x,RL.clX (RL.ak p.T (n+1)) f ds=some x->ds.length=fn.ps/\fn.mp=[]/\∃ σ',RL.cq (RL.ak p.T n) fn.M fn.body (ds.map some++List.replicate (fn.nn-fn.ps) none)=some (x,σ'):=by
   intro ds x h;unfold RL.clX at h;obtain⟨r,h1,h2⟩:=bind_some h;have hT2:p.T[f+1000]?=none:=List.getElem?_eq_none_iff.mpr (by lia);rw[RL.ak,hT2]at h1;dsimp only at h1;rw[Nat.add_sub_cancel,hf]at h1;dsimp only[Option.bind_some]at h1;split at h1
   ·rename_i hlen;obtain⟨⟨y,σ'⟩,h3,h4⟩:=map_some h1;subst h4;cases h2;exact⟨hlen.1,hlen.2,σ',h3⟩
   ·cases h1
  have look:∀ {g:Nat} {x:Str} {mp:List Nat},p.F[g]?=some (x,mp)->∃ d' fn',p.Ds[g]?=some d'/\p.T[g]?=some fn'/\d'.name=x/\fn'.mp=mp:=fun {g x mp} hg=>by
   unfold PT'.F at hg;rw[List.getElem?_map]at hg;obtain⟨⟨d',fn'⟩,q1,q2⟩:=map_some hg;cases q2;rw[List.getElem?_zip_eq_some]at q1;exact⟨d',fn',q1.1,q1.2,rfl,rfl⟩
  have Y:∀ (CX:CXT) (E:XK) (cdv:Value) (A:Around) (outer:List Env) (s:Shared) (H:Hp),cw n (A.deeper (envOfC d.name (aN d.st) s.heap.objs.size fa cdv))->YOk (p.cc d) (gD CX P w K mg base d.N d.name (aN d.st) fa cdv A outer s H E).nox (RL.ak p.T n):=fun CX E cdv A outer s H hr=>{
   scope:=rfl
   names:=rfl
   nd:=B.sc.nd
   calm:=fun _=>rfl
   xe:=rfl
   hu:=by
    have:=hr.un;show(A.deeper _).units+100<cLine;lia
   blt:=tp.blt
   glb:=tp.glb
   fns:=fun g x mp _ hg=>by
    obtain⟨d',fn',q1,q2,rfl,rfl⟩:=look hg;obtain⟨fa',fd',t1,t2,t3,t4⟩:=tp.defs g d' q1;exact⟨n,fa',fd',d'.ps,(il hok tp n g d' fn' q1 q2 fa' fd' t2).nor,hr,t1,t3,t4⟩
   hfn:=fun g x hh hg=>by
    obtain⟨d',fn',q1,q2,rfl,q3⟩:=look hg;obtain⟨d2,q4,q5⟩:=xl hh;rw[q1]at q4;cases q4;obtain⟨fa',fd',t1,t2,t3,t4⟩:=tp.defs g d' q1;exact⟨n,fa',fd',d'.ps,(il hok tp n g d' fn' q1 q2 fa' fd' t2).sui q5 q3,hr.h,t1,t3,t4⟩
   cls:=tp.cls
   ref:=tp.ref
   fn:=fun _=>rfl
   st:=⟨rfl,rfl,rfl⟩
   fnx:=fun g x _ hg=>by
    obtain⟨d',fn',q1,q2,rfl,q3⟩:=look hg;obtain⟨fa',fd',t1,t2,t3,t4⟩:=tp.defs g d' q1
    exact⟨n,fa',fd',d'.ps,(il hok tp n g d' fn' q1 q2 fa' fd' t2).ref q3,hr,t1,t3,t4⟩ }
  refine⟨?_,fun hmp=>?_,fun hh hmp=>?_⟩
  ·refine Fun.ok F B.sc (fun vs H Q E h=>?_) fun cdv A outer s H vs Q E hr h=>?_
   ·unfold mY at h;split at h
    ·obtain⟨ds,r,r1,e,_⟩:=h;rw[<-r1.length,(unf ds r e).1,B.ps]
    ·obtain⟨ds,r,o,e,a,_⟩:=h;rw[<-a.mW.length,(unf ds _ e).1,B.ps]
   ·refine⟨_,c7 fn.body (Y CX0 E cdv A outer s H hr) (M:=fn.M) _ B.body,?_⟩;have hst:start d.N vs=vs.map some++List.replicate (d.N.length-vs.length) none:=rfl;unfold mY at h;split at h
    ·rename_i hmp;obtain⟨ds,r,r1,e,k⟩:=h;obtain⟨hlen,o,σ',e1,e2⟩:=unf ds r e;exact v8 (f:=f) B hmp r1 hlen e2 e1 k
    ·rename_i hmp;obtain⟨ds,r,outs,e,a,k⟩:=h;obtain⟨hlen,o,σ',e1,e2⟩:=unf ds _ e
     have hvl:vs.length=fn.ps:=by rw[<-a.mW.length];exact hlen
     refine⟨_,o,σ',?_,e1,?_⟩
     ·rw[hst,hvl,<-B.nn];exact Be a B.hM (fun i hi=>iu (B.mp i hi).2) hlen
     ·-- the lists behind it
      have fin:∀ (d0:RL.D) (σ1:L2.St) (H1 H':Hp) (v:V),RL.aW fn d0 σ'=some (.tup (r::outs))->RVm K fn.M σ' σ1 H1->Fr' fn.M (start d.N vs) H σ1 H1->ax H1 H'->(d0.imm=true->Rep nP K H' d0 v)->Q v H':=by
       intro d0 σ1 H1 H' v ht rv1 fr1 sm rp;obtain⟨im,os,g1,g2⟩:=DR ht hmp;cases g2;obtain⟨l1,l2⟩:=rC g1;refine k v H' (fun b u nb eb=>sm _ _ (fr1.1 b u eb fun⟨i,hi,ei⟩=>?_).1) (rp im) im ⟨l1,fun kk pp oo hk ho=>?_⟩
       ·rw[hst,bp]at ei;have h3:=(List.getElem?_eq_some_iff.mp ei).1;exact nb ⟨i,B.hM i (by lia) hi,ei⟩
       ·have hpm:=List.mem_of_getElem? hk;obtain⟨dp,ap,g3,g4,g5⟩:=a.own pp hpm;have g6:=fr1.2 pp (B.mp pp hpm).2
        have g7:(start d.N vs)[pp]?=some (some (.ref ap)):=by rw[hst,bp];exact g4
        rw[g7]at g6;obtain⟨v',g8,g9⟩:=rv1.val pp oo (l2 kk pp oo hk ho);rw[g6]at g8;cases g8;rw[if_pos (iu (B.mp pp hpm).2)]at g9;exact⟨ap,g4,g9.same sm⟩
      cases o with
      |nx=>
       intro σ1 H1 rv1 fr1
       exact fin .non σ1 H1 H1 .non e2 rv1 fr1 (ax.refl _) fun _=>by rw[Rep]
      |rt d0=>
       intro σ1 H1 v H' rv1 fr1 sm rp;exact fin d0 σ1 H1 H' v e2 rv1 fr1 sm fun im=>rp nP fun _ z=>z.elim
  ·refine Fun.okX F B.sc (fun vs H Q E h=>?_) fun cdv A outer s H vs Q E hr h=>?_
   ·obtain⟨ds,x,r1,e,_⟩:=h;rw[<-r1.length,(unx ds x e).1,B.ps]
   ·have R:ROk (p.cc d) (gD (CXE P w) P w K mg base d.N d.name (aN d.st) fa cdv A outer s H E) (RL.ak p.T n) (fun _=>E):={
     y:=Y (CXE P w) E cdv A outer s H hr
     cal:=rfl
     pass:=fun pins σ H1 s1 e s' I z=>by
      obtain⟨x,C,H',rfl,hE,I',ex,_⟩:=I.refused rfl z;exact rB I' rfl rfl rfl ex hE I'.ok.frames
     made:=fun pins σ H1 s1 h' e C vs I m z=>by
      obtain⟨I',ex⟩:=I.newExc rfl m;exact rB I' rfl rfl rfl ex z I'.ok.frames
     own:=PassesOwn.leaving }
    obtain⟨ds,x,r1,e,k⟩:=h;obtain⟨hlen,_,σ',e1⟩:=unx ds x e;exact⟨_,eF fn.body R (M:=fn.M) _ B.body,C6 B hmp r1 hlen e1 k⟩
  ·refine Fun.okH F B.sc (fun vs H Q h=>?_) fun cdv A outer s H vs Q hr h=>?_
   ·obtain⟨ds,r,r1,e,_⟩:=h;rw[<-r1.length,(unf ds r e).1,B.ps]
   ·have Z:YOk { p.cc d with calm:=false } (cxH P w K mg base d.N d.name (aN d.st) fa cdv A outer s H) (RL.ak p.T n):={
     scope:=rfl
     names:=rfl
     nd:=B.sc.nd
     calm:=fun z=>(nomatch z)
     xe:=rfl
     hu:=by
      have:=hr.un;show(A.deeper _).units+100<cLine;lia
     blt:=tp.blt
     glb:=tp.glb
     fns:=fun _ _ _ z=>(nomatch z)
     hfn:=fun g x hh hg=>by
      obtain⟨d',fn',q1,q2,rfl,q3⟩:=look hg;obtain⟨d2,q4,q5⟩:=xl hh;rw[q1]at q4;cases q4;obtain⟨fa',fd',t1,t2,t3,t4⟩:=tp.defs g d' q1;exact⟨n,fa',fd',d'.ps,(il hok tp n g d' fn' q1 q2 fa' fd' t2).sui q5 q3,hr,t1,t3,t4⟩
     cls:=tp.cls
     ref:=tp.ref
     fn:=fun _=>rfl
     st:=⟨rfl,rfl,rfl⟩
     fnx:=fun _ _ z=>(nomatch z) }
    obtain⟨ds,r,r1,e,k⟩:=h;obtain⟨hlen,o,σ',e1,e2⟩:=unf ds r e;exact⟨_,c7 fn.body Z (M:=fn.M) _ (B.hb hh),v8 (f:=f) B hmp r1 hlen e2 e1 k⟩
def DF(hok:p.ok=true)(tp:uH p K mg):∀ (n f:Nat) (d:fS) (fn:RL.Fn),p.Ds[f]?=some d->p.T[f]?=some fn->∀ fa fd,Fun K d.name d.name d.st fa fd->d5 P w K mg base CX0 n fa fd d.ps (mY K (RL.ak p.T n) fn.mp f):=fun n f d fn a b fa fd F=>(il hok tp n f d fn a b fa fd F).nor
end
abbrev spL(n:Nat)(p:PT')(f:Nat)(K:PySem.W.Frag):Sp:=spF K (RL.ak p.T n) f
def Eo{n:Nat}{p:PT'}{f:Nat}{K:PySem.W.Frag}{H:Hp}{a:Addr}{ns:List Int}(hO:rm H)(hS:SqL K H a (ns.map V.int))(h:RL.ak p.T n f [.scr (ns.map RL.D.int)]=some (.bl true)):spL n p f K [.ref a] H (fun v _=>v=.bl true) fun _ _ _=>False:=by
 refine⟨_,_,?_,h,fun v H' _ r=>bf r⟩;refine af.cons ?_ af.nil;rw[Rep];refine⟨a,ns.map V.int,rfl,?_,?_⟩
 ·rcases hS with(z | ⟨o,z⟩) | z
  ·rcases hO a with q | ⟨o,xs,q⟩
   ·rw[q]at z;cases z
   ·rw[q]at z;cases z
  ·exact .inl ⟨o,z⟩
  ·exact .inr (.inr z)
 ·clear hS h
  induction ns with
  | nil=>exact af.nil
  | cons i r ih=>exact af.cons bq ih
end RS
namespace K13
open PySem PySem.Spec PyProof.Rows L2
abbrev top(i:Nat):Stmt:=PySem.Challenge.pw_ribbonloft_k13_halves_of_frames.main.body.getD i (.Pass ⟨0,0,0,0⟩)
abbrev Ds:List RS.fS:=[
 ⟨"is_number",top 19,["value"],["value"],false⟩,
 ⟨"is_peg_count",top 20,["value"],["value"],false⟩,
 ⟨"check_pegs",top 21,["pegs"],["pegs"],false⟩,
 ⟨"is_pairing",top 23,["row"],["row", "place"],false⟩,
 ⟨"names_back",top 24,["row", "place"],["row", "place", "other"],false⟩,
 ⟨"is_uncrossed",top 25,["row"],["row", "waiting", "place", "other"],false⟩,
 ⟨"tie",top 26,["row", "one", "other"],["row", "one", "other"],false⟩,
 ⟨"is_frame",top 28,["frame"],["frame", "pegs", "alone", "peg", "other"],false⟩,
 ⟨"check_frame",top 29,["frame"],["frame"],false⟩,
 ⟨"pegs_of",top 30,["frame"],["frame"],false⟩,
 ⟨"plain",top 31,["pegs"],["pegs"],false⟩,
 ⟨"over",top 32,["frame"],["frame"],false⟩,
 ⟨"round_place",top 33,["pegs", "peg"],["pegs", "peg"],false⟩,
 ⟨"in_round",top 34,["frame"],["frame", "pegs", "peg"],false⟩,
 ⟨"moved",top 35,["frame", "to"],["frame", "to", "ends", "peg", "other"],false⟩,
 ⟨"is_half",top 37,["half"],["half"],false⟩,
 ⟨"check_half",top 38,["half"],["half"],false⟩,
 ⟨"check_two_halves",top 39,["one", "other"],["one", "other"],false⟩,
 ⟨"upper",top 40,["frame"],["frame", "pegs", "peg", "other"],false⟩,
 ⟨"lower",top 41,["frame"],["frame"],false⟩,
 ⟨"through_of",top 42,["half"],["half"],false⟩,
 ⟨"joined",top 43,["one", "other"],["one", "other", "leaving", "coming", "pegs", "frame", "above", "beneath", "peg"],false⟩,
 ⟨"going",top 44,["half"],["half", "peg", "other"],false⟩,
 ⟨"_law_kin",top 46,["_law_e"],["_law_e", "_law_found", "_law_words", "_law_word_here", "_law_kin_here"],true⟩,
 ⟨"_law_mix",top 47,["_law_seed"],["_law_seed", "_law_one", "_law_two"],false⟩,
 ⟨"_law_raw",top 48,["_law_script", "_law_k"],["_law_script", "_law_k", "_law_cell", "_law_found", "_law_turn"],false⟩,
 ⟨"_law_digits",top 49,["_law_script", "_law_k", "_law_sizes"],["_law_script", "_law_k", "_law_sizes", "_law_rest", "_law_found", "_law_size"],false⟩,
 ⟨"_law_plain",top 50,["_law_pegs"],["_law_pegs", "_law_peg"],false⟩,
 ⟨"_law_hook",top 51,["_law_pegs", "_law_number"],["_law_pegs", "_law_number", "_law_found", "_law_start"],false⟩,
 ⟨"_law_circle",top 52,["_law_pegs"],["_law_pegs"],false⟩,
 ⟨"_law_from_text",top 53,["_law_text_here"],["_law_text_here", "_law_pegs", "_law_circle_here", "_law_found", "_law_line", "_law_place", "_law_sign", "_law_peg", "_law_other"],false⟩,
 ⟨"_law_text",top 54,["_law_raw_here", "_law_pegs"],["_law_raw_here", "_law_pegs", "_law_text_here", "_law_deep", "_law_left", "_law_up", "_law_step"],false⟩,
 ⟨"_law_rings_by",top 55,["_law_high", "_law_low", "_law_inner"],["_law_high", "_law_low", "_law_inner", "_law_pegs", "_law_head", "_law_peg", "_law_other", "_law_one", "_law_keep", "_law_go"],false⟩,
 ⟨"_law_hung",top 56,["_law_high", "_law_low"],["_law_high", "_law_low", "_law_pegs", "_law_near", "_law_peg", "_law_found", "_law_gone", "_law_here", "_law_turn"],false⟩,
 ⟨"_law_over",top 57,["_law_frame_here"],["_law_frame_here", "_law_pegs", "_law_peg"],false⟩,
 ⟨"_law_frame",top 58,["_law_script", "_law_k", "_law_pegs"],["_law_script", "_law_k", "_law_pegs", "_law_found", "_law_way", "_law_raw_here", "_law_number"],false⟩,
 ⟨"_law_frames",top 59,["_law_script", "_law_k", "_law_pegs", "_law_count"],["_law_script", "_law_k", "_law_pegs", "_law_count", "_law_at"],false⟩,
 ⟨"_law_same",top 60,["_law_told", "_law_due"],["_law_told", "_law_due", "_law_one", "_law_other"],false⟩,
 ⟨"_law_upper",top 61,["_law_frame_here"],["_law_frame_here", "_law_pegs", "_law_peg"],false⟩,
 ⟨"_law_lower",top 62,["_law_frame_here"],["_law_frame_here"],false⟩,
 ⟨"_law_joined",top 63,["_law_one", "_law_other"],["_law_one", "_law_other", "_law_pegs", "_law_found", "_law_high", "_law_low", "_law_here", "_law_there", "_law_peg", "_law_end"],false⟩,
 ⟨"_law_word",top 64,["_law_one", "_law_other"],["_law_one", "_law_other", "_law_found", "_law_e"],false⟩,
 ⟨"_law_through",top 65,["_law_told"],["_law_told", "_law_found", "_law_e"],false⟩,
 ⟨"_law_bad_halves",top 66,[],["_law_bad", "_law_plain_one", "_law_words"],false⟩,
 ⟨"law",top 67,["_law_script"],["_law_script", "_law_k", "_law_pegs", "_law_open_pegs", "_law_there", "_law_due", "_law_short", "_law_words", "_law_frame_here", "_law_other", "_law_high", "_law_low", "_law_peg"],false⟩]
abbrev p:RS.PT':=⟨["ValueError", "all", "bool", "enumerate", "int", "isinstance", "len", "list", "max", "range", "set", "str", "tuple", "zip"],[("MOST_PEGS",10)],Ds,T,["BadFrame", "BadHalf", "BadPegs", "RibbonError"],["BadFrame", "BadHalf", "BadHook", "BadName", "BadPage", "BadPegs", "BadTrade", "Full", "Hangs", "NoFrame", "NoNumber", "NoPlace", "NoStack", "NothingThere", "Taken"]⟩
def FH:p.ok=true:=by decide +kernel
def GN{P:List Value->Prop}(h:P []):∀ us:List Value,us.length=0->P us
 | [],_=>h
def all1{P:List Value->Prop}(h:∀ a0,P [a0]):∀ us:List Value,us.length=1->P us
 | [a0],_=>h a0
def all2{P:List Value->Prop}(h:∀ a0 a1,P [a0,a1]):∀ us:List Value,us.length=2->P us
 | [a0,a1],_=>h a0 a1
def jd{P:List Value->Prop}(h:∀ a0 a1 a2,P [a0,a1,a2]):∀ us:List Value,us.length=3->P us
 | [a0,a1,a2],_=>h a0 a1 a2
def FK{P:List Value->Prop}(h:∀ a0 a1 a2 a3,P [a0,a1,a2,a3]):∀ us:List Value,us.length=4->P us
 | [a0,a1,a2,a3],_=>h a0 a1 a2 a3
structure aH(K:PySem.W.Frag)(mg:Str->Option Value)(x:Str)(st:Stmt):Prop where
 ex:∃ f fd,mg x=some (.ref f)/\Fun K x x st f fd/\PySem.W.keepIn K (.ref f)=true
def BI{K:PySem.W.Frag}{h:Heap}{mg:Str->Option Value}{x:Str}{st:Stmt}{f:Addr}{oc kV dc pm cd ct:Value}{od an:Option Addr}{sl:Array (Option Value)}(X:K.In h)(G:h.Ns mainGlobals mg)(a:PySem.W.nsIn K mainGlobals x=some (some (.ref f)))
 (l:K.lookup f=some ⟨oc,od,.func (PySem.W.fnOf x x (iq st) (cC st) (aN st) .none kV dc pm an cd ct),sl⟩)(c:PySem.W.codeIn K cd x=true)(k:PySem.W.keepIn K (.ref f)=true):aH K mg x st :=
 ⟨f,_,PySem.W.mg_of X G a,C2 (st:=st) l c k,k⟩
structure sS(K:PySem.W.Frag)(mg:Str->Option Value):Prop where
 d19:aH K mg "is_number" (top 19)
 d20:aH K mg "is_peg_count" (top 20)
 d21:aH K mg "check_pegs" (top 21)
 d23:aH K mg "is_pairing" (top 23)
 d24:aH K mg "names_back" (top 24)
 d25:aH K mg "is_uncrossed" (top 25)
 d26:aH K mg "tie" (top 26)
 d28:aH K mg "is_frame" (top 28)
 d29:aH K mg "check_frame" (top 29)
 d30:aH K mg "pegs_of" (top 30)
 d31:aH K mg "plain" (top 31)
 d32:aH K mg "over" (top 32)
 d33:aH K mg "round_place" (top 33)
 d34:aH K mg "in_round" (top 34)
 d35:aH K mg "moved" (top 35)
 d37:aH K mg "is_half" (top 37)
 d38:aH K mg "check_half" (top 38)
 d39:aH K mg "check_two_halves" (top 39)
 d40:aH K mg "upper" (top 40)
 d41:aH K mg "lower" (top 41)
 d42:aH K mg "through_of" (top 42)
 d43:aH K mg "joined" (top 43)
 d44:aH K mg "going" (top 44)
 d46:aH K mg "_law_kin" (top 46)
 d47:aH K mg "_law_mix" (top 47)
 d48:aH K mg "_law_raw" (top 48)
 d49:aH K mg "_law_digits" (top 49)
 d50:aH K mg "_law_plain" (top 50)
 d51:aH K mg "_law_hook" (top 51)
 d52:aH K mg "_law_circle" (top 52)
 d53:aH K mg "_law_from_text" (top 53)
 d54:aH K mg "_law_text" (top 54)
 d55:aH K mg "_law_rings_by" (top 55)
 d56:aH K mg "_law_hung" (top 56)
 d57:aH K mg "_law_over" (top 57)
 d58:aH K mg "_law_frame" (top 58)
 d59:aH K mg "_law_frames" (top 59)
 d60:aH K mg "_law_same" (top 60)
 d61:aH K mg "_law_upper" (top 61)
 d62:aH K mg "_law_lower" (top 62)
 d63:aH K mg "_law_joined" (top 63)
 d64:aH K mg "_law_word" (top 64)
 d65:aH K mg "_law_through" (top 65)
 d66:aH K mg "_law_bad_halves" (top 66)
 d67:aH K mg "law" (top 67)
 pI:PySem.W.nsIn K mainGlobals "ValueError" = some none
 Fo:PySem.W.nsIn K mainGlobals "all" = some none
 CD:PySem.W.nsIn K mainGlobals "bool" = some none
 rR:PySem.W.nsIn K mainGlobals "enumerate" = some none
 Fq:PySem.W.nsIn K mainGlobals "int" = some none
 pA:PySem.W.nsIn K mainGlobals "isinstance" = some none
 EN:PySem.W.nsIn K mainGlobals "len" = some none
 Dy:PySem.W.nsIn K mainGlobals "list" = some none
 F9:PySem.W.nsIn K mainGlobals "max" = some none
 Ah:PySem.W.nsIn K mainGlobals "range" = some none
 Fp:PySem.W.nsIn K mainGlobals "set" = some none
 Fe:PySem.W.nsIn K mainGlobals "str" = some none
 A0:PySem.W.nsIn K mainGlobals "tuple" = some none
 Fg:PySem.W.nsIn K mainGlobals "zip" = some none
 rQ:∃ t,PySem.W.nsIn K mainGlobals "MOST_PEGS" = some (some (.int 10 t))
 tZ:∃ D,PySem.W.nsIn K mainGlobals "BadFrame" = some (some (.ref D))/\RS.eS K "BadFrame" D=true
 uY:∃ D,PySem.W.nsIn K mainGlobals "BadHalf" = some (some (.ref D))/\RS.eS K "BadHalf" D=true
 wR:∃ D,PySem.W.nsIn K mainGlobals "BadPegs" = some (some (.ref D))/\RS.eS K "BadPegs" D=true
 oQ:∃ D,PySem.W.nsIn K mainGlobals "RibbonError" = some (some (.ref D))/\RS.eS K "RibbonError" D=true
 ug:∃ D,PySem.W.nsIn K mainGlobals "BadFrame" = some (some (.ref D))
 vP:∃ D,PySem.W.nsIn K mainGlobals "BadHalf" = some (some (.ref D))
 vv:∃ D,PySem.W.nsIn K mainGlobals "BadHook" = some (some (.ref D))
 vt:∃ D,PySem.W.nsIn K mainGlobals "BadName" = some (some (.ref D))
 wj:∃ D,PySem.W.nsIn K mainGlobals "BadPage" = some (some (.ref D))
 vq:∃ D,PySem.W.nsIn K mainGlobals "BadPegs" = some (some (.ref D))
 uE:∃ D,PySem.W.nsIn K mainGlobals "BadTrade" = some (some (.ref D))
 CG:∃ D,PySem.W.nsIn K mainGlobals "Full" = some (some (.ref D))
 Ba:∃ D,PySem.W.nsIn K mainGlobals "Hangs" = some (some (.ref D))
 xq:∃ D,PySem.W.nsIn K mainGlobals "NoFrame" = some (some (.ref D))
 uq:∃ D,PySem.W.nsIn K mainGlobals "NoNumber" = some (some (.ref D))
 vM:∃ D,PySem.W.nsIn K mainGlobals "NoPlace" = some (some (.ref D))
 vI:∃ D,PySem.W.nsIn K mainGlobals "NoStack" = some (some (.ref D))
 nF:∃ D,PySem.W.nsIn K mainGlobals "NothingThere" = some (some (.ref D))
 Ap:∃ D,PySem.W.nsIn K mainGlobals "Taken" = some (some (.ref D))
def Et{K:PySem.W.Frag}{h:Heap}{mg:Str->Option Value}(X:K.In h)(G:h.Ns mainGlobals mg)(A:sS K mg):RS.uH p K mg where
 defs:=by
  intro f d hf
  match f,hf with
  | 0,hf=>cases hf;obtain⟨fa,fd,h1,h2,h3⟩:=A.d19.ex;exact⟨fa,fd,h1,h2,h3,h2.binds (ps:=["value"]) (fun _ _ _ _ _ _=>all1 (fun _=>rfl))⟩
  | 1,hf=>cases hf;obtain⟨fa,fd,h1,h2,h3⟩:=A.d20.ex;exact⟨fa,fd,h1,h2,h3,h2.binds (ps:=["value"]) (fun _ _ _ _ _ _=>all1 (fun _=>rfl))⟩
  | 2,hf=>cases hf;obtain⟨fa,fd,h1,h2,h3⟩:=A.d21.ex;exact⟨fa,fd,h1,h2,h3,h2.binds (ps:=["pegs"]) (fun _ _ _ _ _ _=>all1 (fun _=>rfl))⟩
  | 3,hf=>cases hf;obtain⟨fa,fd,h1,h2,h3⟩:=A.d23.ex;exact⟨fa,fd,h1,h2,h3,h2.binds (ps:=["row"]) (fun _ _ _ _ _ _=>all1 (fun _=>rfl))⟩
  | 4,hf=>cases hf;obtain⟨fa,fd,h1,h2,h3⟩:=A.d24.ex;exact⟨fa,fd,h1,h2,h3,h2.binds (ps:=["row", "place"]) (fun _ _ _ _ _ _=>all2 (fun _ _=>rfl))⟩
  | 5,hf=>cases hf;obtain⟨fa,fd,h1,h2,h3⟩:=A.d25.ex;exact⟨fa,fd,h1,h2,h3,h2.binds (ps:=["row"]) (fun _ _ _ _ _ _=>all1 (fun _=>rfl))⟩
  | 6,hf=>cases hf;obtain⟨fa,fd,h1,h2,h3⟩:=A.d26.ex;exact⟨fa,fd,h1,h2,h3,h2.binds (ps:=["row", "one", "other"]) (fun _ _ _ _ _ _=>jd (fun _ _ _=>rfl))⟩
  | 7,hf=>cases hf;obtain⟨fa,fd,h1,h2,h3⟩:=A.d28.ex;exact⟨fa,fd,h1,h2,h3,h2.binds (ps:=["frame"]) (fun _ _ _ _ _ _=>all1 (fun _=>rfl))⟩
  | 8,hf=>cases hf;obtain⟨fa,fd,h1,h2,h3⟩:=A.d29.ex;exact⟨fa,fd,h1,h2,h3,h2.binds (ps:=["frame"]) (fun _ _ _ _ _ _=>all1 (fun _=>rfl))⟩
  | 9,hf=>cases hf;obtain⟨fa,fd,h1,h2,h3⟩:=A.d30.ex;exact⟨fa,fd,h1,h2,h3,h2.binds (ps:=["frame"]) (fun _ _ _ _ _ _=>all1 (fun _=>rfl))⟩
  | 10,hf=>cases hf;obtain⟨fa,fd,h1,h2,h3⟩:=A.d31.ex;exact⟨fa,fd,h1,h2,h3,h2.binds (ps:=["pegs"]) (fun _ _ _ _ _ _=>all1 (fun _=>rfl))⟩
  | 11,hf=>cases hf;obtain⟨fa,fd,h1,h2,h3⟩:=A.d32.ex;exact⟨fa,fd,h1,h2,h3,h2.binds (ps:=["frame"]) (fun _ _ _ _ _ _=>all1 (fun _=>rfl))⟩
  | 12,hf=>cases hf;obtain⟨fa,fd,h1,h2,h3⟩:=A.d33.ex;exact⟨fa,fd,h1,h2,h3,h2.binds (ps:=["pegs", "peg"]) (fun _ _ _ _ _ _=>all2 (fun _ _=>rfl))⟩
  | 13,hf=>cases hf;obtain⟨fa,fd,h1,h2,h3⟩:=A.d34.ex;exact⟨fa,fd,h1,h2,h3,h2.binds (ps:=["frame"]) (fun _ _ _ _ _ _=>all1 (fun _=>rfl))⟩
  | 14,hf=>cases hf;obtain⟨fa,fd,h1,h2,h3⟩:=A.d35.ex;exact⟨fa,fd,h1,h2,h3,h2.binds (ps:=["frame", "to"]) (fun _ _ _ _ _ _=>all2 (fun _ _=>rfl))⟩
  | 15,hf=>cases hf;obtain⟨fa,fd,h1,h2,h3⟩:=A.d37.ex;exact⟨fa,fd,h1,h2,h3,h2.binds (ps:=["half"]) (fun _ _ _ _ _ _=>all1 (fun _=>rfl))⟩
  | 16,hf=>cases hf;obtain⟨fa,fd,h1,h2,h3⟩:=A.d38.ex;exact⟨fa,fd,h1,h2,h3,h2.binds (ps:=["half"]) (fun _ _ _ _ _ _=>all1 (fun _=>rfl))⟩
  | 17,hf=>cases hf;obtain⟨fa,fd,h1,h2,h3⟩:=A.d39.ex;exact⟨fa,fd,h1,h2,h3,h2.binds (ps:=["one", "other"]) (fun _ _ _ _ _ _=>all2 (fun _ _=>rfl))⟩
  | 18,hf=>cases hf;obtain⟨fa,fd,h1,h2,h3⟩:=A.d40.ex;exact⟨fa,fd,h1,h2,h3,h2.binds (ps:=["frame"]) (fun _ _ _ _ _ _=>all1 (fun _=>rfl))⟩
  | 19,hf=>cases hf;obtain⟨fa,fd,h1,h2,h3⟩:=A.d41.ex;exact⟨fa,fd,h1,h2,h3,h2.binds (ps:=["frame"]) (fun _ _ _ _ _ _=>all1 (fun _=>rfl))⟩
  | 20,hf=>cases hf;obtain⟨fa,fd,h1,h2,h3⟩:=A.d42.ex;exact⟨fa,fd,h1,h2,h3,h2.binds (ps:=["half"]) (fun _ _ _ _ _ _=>all1 (fun _=>rfl))⟩
  | 21,hf=>cases hf;obtain⟨fa,fd,h1,h2,h3⟩:=A.d43.ex;exact⟨fa,fd,h1,h2,h3,h2.binds (ps:=["one", "other"]) (fun _ _ _ _ _ _=>all2 (fun _ _=>rfl))⟩
  | 22,hf=>cases hf;obtain⟨fa,fd,h1,h2,h3⟩:=A.d44.ex;exact⟨fa,fd,h1,h2,h3,h2.binds (ps:=["half"]) (fun _ _ _ _ _ _=>all1 (fun _=>rfl))⟩
  | 23,hf=>cases hf;obtain⟨fa,fd,h1,h2,h3⟩:=A.d46.ex;exact⟨fa,fd,h1,h2,h3,h2.binds (ps:=["_law_e"]) (fun _ _ _ _ _ _=>all1 (fun _=>rfl))⟩
  | 24,hf=>cases hf;obtain⟨fa,fd,h1,h2,h3⟩:=A.d47.ex;exact⟨fa,fd,h1,h2,h3,h2.binds (ps:=["_law_seed"]) (fun _ _ _ _ _ _=>all1 (fun _=>rfl))⟩
  | 25,hf=>cases hf;obtain⟨fa,fd,h1,h2,h3⟩:=A.d48.ex;exact⟨fa,fd,h1,h2,h3,h2.binds (ps:=["_law_script", "_law_k"]) (fun _ _ _ _ _ _=>all2 (fun _ _=>rfl))⟩
  | 26,hf=>cases hf;obtain⟨fa,fd,h1,h2,h3⟩:=A.d49.ex;exact⟨fa,fd,h1,h2,h3,h2.binds (ps:=["_law_script", "_law_k", "_law_sizes"]) (fun _ _ _ _ _ _=>jd (fun _ _ _=>rfl))⟩
  | 27,hf=>cases hf;obtain⟨fa,fd,h1,h2,h3⟩:=A.d50.ex;exact⟨fa,fd,h1,h2,h3,h2.binds (ps:=["_law_pegs"]) (fun _ _ _ _ _ _=>all1 (fun _=>rfl))⟩
  | 28,hf=>cases hf;obtain⟨fa,fd,h1,h2,h3⟩:=A.d51.ex;exact⟨fa,fd,h1,h2,h3,h2.binds (ps:=["_law_pegs", "_law_number"]) (fun _ _ _ _ _ _=>all2 (fun _ _=>rfl))⟩
  | 29,hf=>cases hf;obtain⟨fa,fd,h1,h2,h3⟩:=A.d52.ex;exact⟨fa,fd,h1,h2,h3,h2.binds (ps:=["_law_pegs"]) (fun _ _ _ _ _ _=>all1 (fun _=>rfl))⟩
  | 30,hf=>cases hf;obtain⟨fa,fd,h1,h2,h3⟩:=A.d53.ex;exact⟨fa,fd,h1,h2,h3,h2.binds (ps:=["_law_text_here"]) (fun _ _ _ _ _ _=>all1 (fun _=>rfl))⟩
  | 31,hf=>cases hf;obtain⟨fa,fd,h1,h2,h3⟩:=A.d54.ex;exact⟨fa,fd,h1,h2,h3,h2.binds (ps:=["_law_raw_here", "_law_pegs"]) (fun _ _ _ _ _ _=>all2 (fun _ _=>rfl))⟩
  | 32,hf=>cases hf;obtain⟨fa,fd,h1,h2,h3⟩:=A.d55.ex;exact⟨fa,fd,h1,h2,h3,h2.binds (ps:=["_law_high", "_law_low", "_law_inner"]) (fun _ _ _ _ _ _=>jd (fun _ _ _=>rfl))⟩
  | 33,hf=>cases hf;obtain⟨fa,fd,h1,h2,h3⟩:=A.d56.ex;exact⟨fa,fd,h1,h2,h3,h2.binds (ps:=["_law_high", "_law_low"]) (fun _ _ _ _ _ _=>all2 (fun _ _=>rfl))⟩
  | 34,hf=>cases hf;obtain⟨fa,fd,h1,h2,h3⟩:=A.d57.ex;exact⟨fa,fd,h1,h2,h3,h2.binds (ps:=["_law_frame_here"]) (fun _ _ _ _ _ _=>all1 (fun _=>rfl))⟩
  | 35,hf=>cases hf;obtain⟨fa,fd,h1,h2,h3⟩:=A.d58.ex;exact⟨fa,fd,h1,h2,h3,h2.binds (ps:=["_law_script", "_law_k", "_law_pegs"]) (fun _ _ _ _ _ _=>jd (fun _ _ _=>rfl))⟩
  | 36,hf=>cases hf;obtain⟨fa,fd,h1,h2,h3⟩:=A.d59.ex;exact⟨fa,fd,h1,h2,h3,h2.binds (ps:=["_law_script", "_law_k", "_law_pegs", "_law_count"]) (fun _ _ _ _ _ _=>FK (fun _ _ _ _=>rfl))⟩
  | 37,hf=>cases hf;obtain⟨fa,fd,h1,h2,h3⟩:=A.d60.ex;exact⟨fa,fd,h1,h2,h3,h2.binds (ps:=["_law_told", "_law_due"]) (fun _ _ _ _ _ _=>all2 (fun _ _=>rfl))⟩
  | 38,hf=>cases hf;obtain⟨fa,fd,h1,h2,h3⟩:=A.d61.ex;exact⟨fa,fd,h1,h2,h3,h2.binds (ps:=["_law_frame_here"]) (fun _ _ _ _ _ _=>all1 (fun _=>rfl))⟩
  | 39,hf=>cases hf;obtain⟨fa,fd,h1,h2,h3⟩:=A.d62.ex;exact⟨fa,fd,h1,h2,h3,h2.binds (ps:=["_law_frame_here"]) (fun _ _ _ _ _ _=>all1 (fun _=>rfl))⟩
  | 40,hf=>cases hf;obtain⟨fa,fd,h1,h2,h3⟩:=A.d63.ex;exact⟨fa,fd,h1,h2,h3,h2.binds (ps:=["_law_one", "_law_other"]) (fun _ _ _ _ _ _=>all2 (fun _ _=>rfl))⟩
  | 41,hf=>cases hf;obtain⟨fa,fd,h1,h2,h3⟩:=A.d64.ex;exact⟨fa,fd,h1,h2,h3,h2.binds (ps:=["_law_one", "_law_other"]) (fun _ _ _ _ _ _=>all2 (fun _ _=>rfl))⟩
  | 42,hf=>cases hf;obtain⟨fa,fd,h1,h2,h3⟩:=A.d65.ex;exact⟨fa,fd,h1,h2,h3,h2.binds (ps:=["_law_told"]) (fun _ _ _ _ _ _=>all1 (fun _=>rfl))⟩
  | 43,hf=>cases hf;obtain⟨fa,fd,h1,h2,h3⟩:=A.d66.ex;exact⟨fa,fd,h1,h2,h3,h2.binds (ps:=[]) (fun _ _ _ _ _ _=>GN rfl)⟩
  | 44,hf=>cases hf;obtain⟨fa,fd,h1,h2,h3⟩:=A.d67.ex;exact⟨fa,fd,h1,h2,h3,h2.binds (ps:=["_law_script"]) (fun _ _ _ _ _ _=>all1 (fun _=>rfl))⟩
  | f+45,hf=>cases hf
 blt:=by
  intro x hx;simp only[p,List.mem_cons,List.mem_nil_iff,or_false]at hx;rcases hx with rfl | rfl | rfl | rfl | rfl | rfl | rfl | rfl | rfl | rfl | rfl | rfl | rfl | rfl
  ·exact PySem.W.mg_none_of X G A.pI
  ·exact PySem.W.mg_none_of X G A.Fo
  ·exact PySem.W.mg_none_of X G A.CD
  ·exact PySem.W.mg_none_of X G A.rR
  ·exact PySem.W.mg_none_of X G A.Fq
  ·exact PySem.W.mg_none_of X G A.pA
  ·exact PySem.W.mg_none_of X G A.EN
  ·exact PySem.W.mg_none_of X G A.Dy
  ·exact PySem.W.mg_none_of X G A.F9
  ·exact PySem.W.mg_none_of X G A.Ah
  ·exact PySem.W.mg_none_of X G A.Fp
  ·exact PySem.W.mg_none_of X G A.Fe
  ·exact PySem.W.mg_none_of X G A.A0
  ·exact PySem.W.mg_none_of X G A.Fg
 glb:=by
  intro x i hx;obtain⟨t,ht⟩:=A.rQ
  have e:x = "MOST_PEGS" /\ i=10:=by
   simp only[p,List.lookup]at hx;split at hx
   ·rename_i he;cases hx;exact⟨by simpa using he,rfl⟩
   ·cases hx
  obtain⟨rfl,rfl⟩:=e;exact⟨_,PySem.W.mg_of X G ht,t,rfl⟩
 cls:=by
  intro c hc
  have hc:c∈p.Xr:=by simpa using hc
  simp only[p,List.mem_cons,List.mem_nil_iff,or_false]at hc;rcases hc with rfl | rfl | rfl | rfl
  ·obtain⟨D,a,b⟩:=A.tZ;exact⟨D,PySem.W.mg_of X G a,⟨a,b⟩⟩
  ·obtain⟨D,a,b⟩:=A.uY;exact⟨D,PySem.W.mg_of X G a,⟨a,b⟩⟩
  ·obtain⟨D,a,b⟩:=A.wR;exact⟨D,PySem.W.mg_of X G a,⟨a,b⟩⟩
  ·obtain⟨D,a,b⟩:=A.oQ;exact⟨D,PySem.W.mg_of X G a,⟨a,b⟩⟩
 ref:=by
  intro c hc
  have hc:c∈p.Xs:=by simpa using hc
  simp only[p,List.mem_cons,List.mem_nil_iff,or_false]at hc;rcases hc with rfl | rfl | rfl | rfl | rfl | rfl | rfl | rfl | rfl | rfl | rfl | rfl | rfl | rfl | rfl
  ·obtain⟨D,a⟩:=A.ug;exact⟨D,PySem.W.mg_of X G a,a⟩
  ·obtain⟨D,a⟩:=A.vP;exact⟨D,PySem.W.mg_of X G a,a⟩
  ·obtain⟨D,a⟩:=A.vv;exact⟨D,PySem.W.mg_of X G a,a⟩
  ·obtain⟨D,a⟩:=A.vt;exact⟨D,PySem.W.mg_of X G a,a⟩
  ·obtain⟨D,a⟩:=A.wj;exact⟨D,PySem.W.mg_of X G a,a⟩
  ·obtain⟨D,a⟩:=A.vq;exact⟨D,PySem.W.mg_of X G a,a⟩
  ·obtain⟨D,a⟩:=A.uE;exact⟨D,PySem.W.mg_of X G a,a⟩
  ·obtain⟨D,a⟩:=A.CG;exact⟨D,PySem.W.mg_of X G a,a⟩
  ·obtain⟨D,a⟩:=A.Ba;exact⟨D,PySem.W.mg_of X G a,a⟩
  ·obtain⟨D,a⟩:=A.xq;exact⟨D,PySem.W.mg_of X G a,a⟩
  ·obtain⟨D,a⟩:=A.uq;exact⟨D,PySem.W.mg_of X G a,a⟩
  ·obtain⟨D,a⟩:=A.vM;exact⟨D,PySem.W.mg_of X G a,a⟩
  ·obtain⟨D,a⟩:=A.vI;exact⟨D,PySem.W.mg_of X G a,a⟩
  ·obtain⟨D,a⟩:=A.nF;exact⟨D,PySem.W.mg_of X G a,a⟩
  ·obtain⟨D,a⟩:=A.Ap;exact⟨D,PySem.W.mg_of X G a,a⟩
end K13
end
namespace PySem.W.Fast
local macro_rules|`(universe $x*)=>do pure (Lean.mkNullNode (<-x.mapM fun x=>`(theorem $(Lean.mkIdent (.mkSimple s!"tw{x.getId.toString.foldl (fun a c=>52*a+c.toNat-if c.toNat<97 then 65 else 71) 0}")) :True:=trivial)))
universe BaQuCzdSyRUA GDHhYeQNSwA XkYrViiUFpc CPcdnEwNeJgw cenMdYWXcKY BWVHLeejNpqo BPegRlwAdvXk BjGSAOloAKTk XwKlKmKGJts CAltftwKqMXU BoDpMSsxghWY JaQXbjYUBgw pohXwwGWbAw DaftBoUZvQQ bfYrYObszyo DZZenTgwseo CViBbhuTxxGY BUIzNpwMSgPU CERyMqwDrpzV CQKBUwDxaiTl BzsBEOtsmBOZ CNKZyFGDypgx ikOxWYrNpYR BGfDPiDOJoup DXAkqODNLdN tzuglRppVSJ EgJalwJgrQx CFODjdAdsqPV BFFmatbVdNVN igSMJosRhbV CPSSFImijSnV YqTbDARQIzF yxjAeqaPQya BpTVPEoDUSzm BRWalyWjqXLW BPOdpKMlWzm CBVlwCeTblci NzkKWSoAyGq hXKeDiOOSmq RBNKVGDcZlu PsVZvDuygle WKIfSNinpzW bUHhZsvIXMC PUXexgzSlKq mLvDUiLkcOq wojdXYQyJtu ByXuWqarSWZO BLlWCfHddIHW skLIFggjGBO mZonblIYxAy BVDMaJoTaDqq GiNomLdLpAz CEDDnZVtrmTH fgwHHEcxRPn BuaQveGkmlJf CGcCQlJqRDaL WtZopQiOGab BjFnxMkPhsj KCCUhYlWHdv FDyluyUYuYD iTjrUpxtQgD GOawsgKceOL LwdTPOfBIUT CXCYimAAPDzX BsCQOZLrhadf ageqYXZsrkj yxyvsloMDir BKghjxVDcMZP prnvAkHFXJf BWzcCvJbfkoD BTRbMifsPZkj CGEYbkiTZEfX sVkeneofMID BQHtMvUkEkcz giqyjamXbkD BOuEqYpXnwrn BhCCgXDbqSdf itSKBYSVXWb awiRsEyxXvH CEWxApCoKhjY lyMVRYdzphA FVHygMldbfo BJMXdKoMXSJw vyFSyNJaOM CKYeVcxiiahQ BoQTvcHAEqGs BBoDqbXlfIes JufCBBDByfY BSwIaMbPorlw gaoFfcEDapw HxvyRGhvsMU sZKhQnEOrlQ QrWjHedQanY RdRAmvVRWFA jkPrCVGjyLJ BtezcOjDGQEV RUohVWriaCd DudrbdNjwtB kpkMVryEihx BnGJIscTrpRB pinKmzXvRBh CHvPqiNXhTqt CJSowqBtRpfp BKCHzYHgrOUV LNWZrcOdAmt BJfPPMYdvuqd BHrLYVokygyd oewdCJTNgut KsnWJfzeOzp CTHwUGNeqgMV IjApJwYGpNx eZkdSVwTUWN pkdGFvpsosV dxHuVhWyIhR TfSoLIbUoHa BcWjRAAMUqkW EdJFgSHJczK DjNMLdDSedi CPqWxMaFuBRi fdAhQViMiDK tsglFFZeWfa CJZkLNDkgKSe CLZBffAtAwva BRCJYYNIsWLq CAMOzdTrOhEm CTgyMpdyvlja qeKENCWKjNS RWlhYCoPqqe BCpFuJHRMrvK CQHHIjKLrrZD BERzEbLNENDb BhgHIkEtzklD BOKETTUeZXsn BSNMIYEjZvgX BaGJUbpBGvCv GqRwEIQDnJj BwehrhycMoWv eZyAOBTalqv DbppPSstmJz GIYrDAKIVdT BfbwxDKTssYn BStDnjdUuWJz BFELRUDuWUmw BjfGreSognXs OdJVrvuIWEY CEglHVosfmtk CCPrWGFdYBnM BbmGEOufQiAI djoxnWZGjBE QYCxvoQEZuA KFAxLaEpNKQ hAQFdyKfCrs qWkDOQGLIgI BWaMQRSNeABU CcZUEPulciA BqvaSVpRjNEo EtObwlPgXZE BMQEPYYRFHM CRpfrJqrRUAo USBTDZhyugI QdhwmhQIoRV ByYgzvFDWwll BXZNahxDTvxl BKUHlLGTBDvN CTJQijdPKmrN BrdaDCcrglAZ BeRSAbmgCpgZ BqvzIJjPmPax BYqGfWMSFlV CARACjHPYQHd BvaLkcRaSoCh COCXalkelpgZ BXwHTMsSWEVG DxcORyFLVmC NQhANHavRnu nPSQVwQjqZW IbPZQpEvCXe BcttkMdEGfxG SlwMdVKQQxW BdydbQvsJvGi rbZZuKzqbCS BpPzBuQeqwlm CHwpLbSgQAaC BCyQcSTUeMGy CNZMozmeWLnO BsWImTWmjYMa CHCfJccsjfMq BPNLOBruXhNW BtrukYbuQAVm BnqJasKKvwka CUbqmKVguEmS CUmbDsNNdsbO BhrgKTJuUWWz rHcNzMACLvv iUMcMibnDZH PxQoeuRWWSD BZbUbjOoUYeT JkxANqJZfsr CSwqBqtjjuVH ByfCUhfQRFOj BVifCmYUCtQb BxtwVhDqFfvP BsQDoNKJzQTv NHGdGneTwtH BeNLvtAXDnPv BoHoStzLXMnf BnkeqyYawwbv BRfoqVfsVBcr BBSNBsmdksor hXHrXHnBlnv BGREjhSJoEKD LQgxyZxvwrP UEDFqHZKAOU BbwNbarpQXrg CVYawIFdgWTQ CEmghtmPrSzQ SzXXNKTLyHg THPsBNWwRrg BueeqiScsdss BGRfSVeuPUgs CRpimAGmDMyk wzbuKLIKoSk BrMyPeIqTcGU BrbwYlZihXXw CZZKeqzsBhI BVpuPCTeXVOE CSfNVRcfpRcM ByNCKqNjOpLA BNHbNHRrnBbA YJDIXWtYzKU wfWYkJcPGIs BxfUSKwDSnfw CRBJpzhWkntZ WKDTmxacOlJ BljQyuecaHNZ CEKZjiuSDTjB BOcQheoHPIQN BQYrAYhgZVXR UeCVJQTEpDh BWXzuKKToFAd BBFIzktzJwYN LLzjkVEahZJ QvYUqzrFnGl BKjGPoXMVEeV CoMneZaqAAt BQTxFZTtgpXR sZcYzvGmeXB CTBLwqDHPdQd FmYhNgiuATx BlCETZnDMwNJ cjvczyyTIHh PflmjHscLXR TUhsxGSCTOG BLKKjzZOIGXC kddOrLXBFku CSaLmlrvyaCm BeDIWAuNSqdq cAeSYRSMHem CVKMJWUqNeyG COAEWBvEBnAe BSrTCEKkNsVq BNCRSyNgDpXS KsqfNiKibnS BiaENEyQVzXy CWnueFNNhfUu BUPRoKaHzBsu CFGoQDnFRzHy CUcnIxpZycke CRgrYqWjITEu atCvpUvpAqG sjLzeWebTzi BjrXwfiZsnPy BkeOsFFNbqDy yGKGeinrcNq bKvODRdNqzS BmyCBVFrwvoe BjzIyhiGzKpa xUgewPMBuEf uGulGMlnVqX BYDbPRdusBWn BEkdarHwvZL BZwrBSduOLZL BDRjVJYiFYin BCTZcAIpaXWn CJYWzSXISFJL CDDbLBmSxneH ExNIKYPlSxb fKlLeouPVhr BJqwTROHmlWn YDiNekwFzEv CBeCBqfCsmmX lvbQXhWDfsP BuzQsgyegMuX BwpKnJRvLVTD CLpRBpPGOBpr BqDlyezCqufj cxshXUtNeYP BvfYDQzKqoyH tuOaUTosdfT CUnMwKuQhsIP BswNEMNWhuzz BOgmvzUWuSyn JQiqHexlEMg CMXhWjoOJxbE CTQVCtoWJszU BwuJfcRHHvBs nxXlCJSGQKI wIHAoRakTZM BfmspKDNCrRM JifEykxOsxc NlSaOvLXBOo BOcpfcLMJvdc CWAJfjaOXxbE vRZkCQlMljE BezPCqyvXCYw irorThuhSXk PEbWEwBMWcg BWPrQFXvwwVM BLSjpxNFvecg krtlgebducA BEgXxGIvgoww BgBYTXrWAfxs QlfKQKhQDOo VIjnKoEekeY BATjkudjJQsh LcVbxIdmuKp CIFGzDofpRiZ zGZvzlvhTAh BBMuTlUpBjZt BwitCUPeqVZt CWXlincsPuYR LwYXlkLmwBd BESdhZnjuPOJ uCKkpqJMDLF yvpHktsPmdN CENLlZFrijiZ QCwggiCRoqp CLyYUPwYVFld YUeLphnItLl CJlxQqAMpfUx CTyleLHCpvGp BoluznMgFUcB GBhTtEubkkB QvIrTyQficB CSeWiOcLGqbV CPWArdntQJTm IUyQCUGGYsi BIdnSuprWuSq CLqfOhHIJIqq CCdRhLHgkmea BGyXMDytXhLm BSYYOBJQBhhu BPnFXvaoqvAi bPpSSAaDbxu uClvuPEvijW sucDrOyWaHG azJoYrjKTuq kIkIrqLeKpe BJsJbdWUOzzG BCzsJsXEnpsS JtJzDDrKBEy rdgIVGfQXFe wshJSPifCHm BiUqQisKrpjG BNvmbzpvqwaq BqLzTdGXkdcT CDqxmSTumpcz BfiZOMPiYMwz BLgRkftcjSOb BQVuUdNXnWqr SVqAsKJDhoD sgWKLHHXNpP dGQCTozquVP fdPIRwpoilP VecfsxccMAT aRSTHOftLzH HitOBusXXeL cGGPhZPnnib CGUsBRRsKIJf nesBuspwaQz BoobFqGRoPer JSWyWdezuAz RJyynfsSbpQ wupbHlAJGbY BqlSwbwNQsOc BtLYcrDDewxA yuolfCkBHyc vYjEwFFLIfI ERoNOsfcwsE CEGXfujgetHY ZzCdsMdBjzI BUHdmAEspDlA BwsGBHhXtLPY BXqDuAbQfKec BYWJwfWoRBOM CCtVBIgAWckk CBfmOcKTPfcU BmfIVimXFAdQ hBnCUUdRTVA IFoTAStEFCc CSGBMyWBuDHY BXnSLryfeSZg LjZeHPxqaUF ByVjazceABTJ BUwCsOwrtAtx TtJYSodoAvp xxqQUUEIgqt CSSngFprcNIF CAjRhhfFRFJR BuyIeesJFEV CWrMqXhgaFmt wVmliueuhGt CPzWPMbUoiYV BeSmaBazifZR liBdwHpZZwl BDObhauwiIRB ufKDxNnhjrJ HYSQLzKHrwl BPfqRnpFfwUl BMkKmpTNyGBB BJrVsJOFWGjZ BLmUqZICWTFB CLYHlQQnXwDZ ONjiMbWkkVR BoAMYpksBkdx hPpeHHQwylR CMFLFQRAvIDZ BhkMnBEHOIiN CRlmNxwVVLWu idhqGxODecG sQvkajaiUDa BEKUtVjgLgsG RUSafTIaGYW mviLLTwwWWe HArVuawHNPa bHjwJLRrIdS lbKYvUTkyue BlbewYTOwEau BdBMAdrREHeu CAzqsyaedsSO BozyYoluAPMW BmiigvGijxmO BuXplcjMqXRy vnQBcblHIEm BetlQgjcRtgm tRZqDAjftzq JgoDTBCVEFy BzAFMujJeAvL KCxAsbYxzBT CTEpXRxFmkSP CIMpGuYkkTAH dXOLawsOmiv SGGBXPYUXJz YYugrwOZKjb obeiCuJPRQH KYqaCqvqCef haRgkFbzocn eHOsNvCiHEX RQKvPBdPddD BLGSEFfXosyw CHZtEnaPxVxU BPomBLCVeKBE CQikHjzQoPoo BiVLycpUyBlk BInCgEYQcLdE BGQzFnylWOYY BDxGWpWkOLAo CKnKxlZDbwPs BLLJFXOxPxwo iLTwkYSQOGg BtPdoCsmaZk aaUIfMfiJOQ YhkVJhYLpXc CQslhKxclpZV BKpTKuQGdYEJ BqpfVvNHlGnt UavOntQipFl BqOtTdnvBlyB BaemImGtvPPd lsBtgETAvdl CRLvsjLzEajd EbUTydeiCWB CKZtAXvjrQqR kStJCLHyyaR BNKjiQDYbQqR CJkYbMxCmnyB BVPJyTXcUznd BcSHOdjBLJdl CPNVFZvbBFhV BMVuwDvVmFgp CGGWLltlDYeC BTCtJUaqEeWC BzsCqlQdQXqC BzQFBMvUzwK CCGvKMhgumIa BpUZrXFjasWC BVicxfHhbakq BZlOrANJppSC xHKLHMCOUfO CpZWKMZfsEK BdSmrCblTqFW BIqeuVxSSHOy MWbxzIDgGQa CPAWVgXRAcYa BTLHJKVCGOCy aVmjrTkhQoa BZYHunfsbPLO bWmTPfQbCTe rdiVHJkHDOS bGfVypnTHhW mRaUfcsckpm CQLFBuXUxniD BfSGBRyVZBdH BZJsUTANkxFn PJFJBxUyrTv BRnRQBJjkGHP BPGuvEonimKz BPcMWEUEHUsr BhdeeMnQOyz NReMscSWdbv CAOlXBttbVFH nlgSsvaxyfv CItQLCRnFaej CDYmgolhOFij wBZJyWyWSOj BxRtcXBndPsb CAzwfzivcYkL BSqoEDILNXWz BGiaSYGLuNGT CQVfpHWXmkWD TTfDJtRoDDv BKmqZHuWmqz BCvknpOLkFNn COCYKiQwognP CGeVwgDWogLA JzIKPxUqExI BQwfWtZIRHvA LjoMZccJyvQ UXqfwMAtldI BbgUHmMJYnKk dPygnjkgWrg CKuPqYSIIduU BQhDXHerXqLg bdOhVoIWhwM rtTiGqWXrYs BqkNmOCIdqyU BCxVyIANGeGE BcKDROnWfSnw CScIehGHYNY LzAVusnIFuU CHYpFaxefpws BXkWfOdVdYYc BmWXByxJohVo jgxQsJFsHeV BsZiVAIDLfnh sKsqGVANVzR RmEaSXmKcfR YOwNqbpELfh zfFMvOAkrKl OnFgXUuikXR BOkXxOqlUCOl BqJPrNThONNp XbcQqcKiQGF CMjVFKBBWkel CRuVkcqaVOPx CPTQGWyukOWF fSFHmKbKPvB BrtcWXcfdggd CXPYvjZhuAul vWSEnpOKjVq BkxTgUwtCcuG CWiptUJQujvC UAmyMkPaiLi BacizkaZZHjS BSRBhcWbnyJq IbNAAHlXyVa BLVQKxzhDfKm Uaznvtnbke MMcrISXghha BDFbRxbkjkfy BcGWiQxxlpyG RUcWaHnuVCG BPhyrWrsOpAu crDxGWesyvS JuFsVkEjRRa RCkIwELxKZq NAbmfYJzCGm OPfmGochQta BFkvGvGxXZIu CPrpaACEVJLy NdFyxNmbLXD GcUjsIEfUhL rpYUENIsrlr BjAovRzFdKLD BnyfeRMRVeEv rhCVvSCLijj mYTRwLAxvXj ToNMUHdxaLD BxFlHHxKmPjT COUPDRyHDmjj BJUsvymPzRoQ
end PySem.W.Fast
open PySem PySem.W PyProof.Rows
set_option maxRecDepth 100000 in
set_option maxHeartbeats 0 in
theorem PySem.Challenge.cw_ribbonloft_k13_halves_of_frames_holds : PySem.Challenge.rw_ribbonloft_k13_halves_of_frames.Holds := by
 w_on;o_law;k_head;(case hw=>w_witness2)
 k_fill
 refine L2.zx (l:=PySem.Challenge.rw_ribbonloft_k13_halves_of_frames) (n:=63) (k:=30) (x := "_law_script") (CX:=L2.CX0) (sp:=RS.spL 30 K13.p 44) rfl (by decide) rfl ⟨rfl,by decide,by decide⟩ (fun w h Y=>PySem.W.kIn_of Y) ?F ?S ?C
 case F =>
  intro w mg fa h KX G hmg
  have T:K13.sS (L2.KOf KX) mg:=by
   dsimp only[L2.KOf];constructor
   iterate 45 (refine' K13.BI KX G ?a ?l ?c ?k;(case a=>k_is);(case l=>k_is);(case c=>k_is);(case k=>k_is))
   iterate 14 k_is
   exact⟨_,by k_is⟩;refine' ⟨_,?n,RS.lJ ?c⟩;(case n=>k_is);(case c=>constructor;k_exc;(iterate 7 k_is);kit_is;(iterate 16 (refine' RS.m4 ?n ?k ?s ?e;(case n=>k_is);(case k=>kit_is);(case s=>k_is);(case e=>decide +kernel))));refine' ⟨_,?n,RS.lJ ?c⟩;(case n=>k_is);(case c=>constructor;k_exc;(iterate 7 k_is);kit_is;(iterate 16 (refine' RS.m4 ?n ?k ?s ?e;(case n=>k_is);(case k=>kit_is);(case s=>k_is);(case e=>decide +kernel))));refine' ⟨_,?n,RS.lJ ?c⟩;(case n=>k_is);(case c=>constructor;k_exc;(iterate 7 k_is);kit_is;(iterate 16 (refine' RS.m4 ?n ?k ?s ?e;(case n=>k_is);(case k=>kit_is);(case s=>k_is);(case e=>decide +kernel))));refine' ⟨_,?n,RS.lJ ?c⟩;(case n=>k_is);(case c=>constructor;k_exc;(iterate 7 k_is);kit_is;(iterate 16 (refine' RS.m4 ?n ?k ?s ?e;(case n=>k_is);(case k=>kit_is);(case s=>k_is);(case e=>decide +kernel))));exact⟨_,by k_is⟩;exact⟨_,by k_is⟩;exact⟨_,by k_is⟩;exact⟨_,by k_is⟩;exact⟨_,by k_is⟩;exact⟨_,by k_is⟩;exact⟨_,by k_is⟩;exact⟨_,by k_is⟩;exact⟨_,by k_is⟩;exact⟨_,by k_is⟩;exact⟨_,by k_is⟩;exact⟨_,by k_is⟩;exact⟨_,by k_is⟩;exact⟨_,by k_is⟩;exact⟨_,by k_is⟩
  have tp:=K13.Et KX G T;obtain⟨fa',fd,h1,h2,h3,h4⟩:=tp.defs 44 _ rfl;have e0:=hmg.symm.trans h1;cases e0;refine⟨fd,fun s u=>?_,fun base kb nb=>RS.DF K13.FH tp 30 44 _ _ rfl rfl _ _ h2⟩;obtain⟨oc,od,kV,doc,pm,an,cdv,ct,osl,e9,_,_⟩:=h2.ex;subst e9;exact .of_eq rfl
 case S=>exact fun K H a ns hl hO hS=>RS.Eo hO hS (K13.main ns hl)
 case C=>exact fun _ _ _ _ h=>h
