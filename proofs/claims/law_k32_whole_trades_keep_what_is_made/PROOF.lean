import PyProof.Rows.All
import Wide.All
import OpenK.AllK
import Wide.FinOn
import PyProof.EqAt
import PyProof.EqKinds
import PyProof.TupleCall
import PySem.Str
import PyProof.NeKinds
import PyProof.CompMap
import PyProof.CompFree
import PyProof.EnumMake
import PyProof.Draws
import PyProof.ListRange
import PyProof.ConsumeWalk
import PyProof.Rows.SetFrom
import PyProof.SetRoads
import PyProof.ZipIter
import PyProof.Rows.SumAny
import PyProof.Rows.SortWalk
import PyProof.Rows.SeqMore2
import PyProof.Rows.SeqMore
import PyProof.StrWalks
import PyProof.SliceStr2
import PyProof.StrBlockI
import PyProof.StrOps2
import PySem.SetOps
import PyProof.SetScanFacts
import KE.KDictSum
import PyProof.DictWalks
import PyProof.DictRoadsH
import PyProof.MeetsSeq3
import PyProof.MinMaxWalk
import PyProof.WalkInts
import PyProof.MeetsIn
import PyProof.Rows.TupDisplay
import PyProof.Rows.TupIter
import PyProof.CollectIter
import PyProof.WalksS
import PyProof.WalksMore
import PySem.Challenge.RW_ribbonloft_k32_whole_trades_keep_what_is
set_option Elab.async false
set_option linter.all false
set_option maxRecDepth 100000
set_option maxHeartbeats 4000000
set_option autoImplicit true
set_option relaxedAutoImplicit true
set_option genSizeOf false
set_option genSizeOfSpec false
set_option genInjectivity false
section
local macro_rules
|`(def $d $s:optDeclSig $v:declVal)=>`(theorem $d $(Lean.TSyntax.mk (Lean.mkNode ``Lean.Parser.Command.declSig #[s.raw[0],s.raw[1][0]])):declSig $v:declVal)
|`(abbrev $d $s:optDeclSig $v:declVal)=>`(noncomputable def $d $s:optDeclSig $v:declVal)
namespace RL
open PySem (Str)
@[reducible]noncomputable def Ky:=Sum Int Str
set_option genInjectivity true in
inductive D where
 | non
 | bl (b:Bool)
 | int (i:Int)
 | str (x:Str)
 | tup (xs:List D)
 | lst (xs:List D)
 | dK (ks:List Ky) (vs:List D)
 | dT (ks:List (List Ky)) (vs:List D)
 | scr (xs:List D)
 | exc (c:Str)
 | fT (ks:List (List Ky)) (vs:List D)
 | fL (xs:List D)
 deriving Inhabited
mutual
noncomputable def D.imm:D->Bool
 | .tup xs=>ao xs
 | .lst _=>false
 | .dK _ _=>false
 | .dT _ _=>false
 | .scr xs=>ao xs
 | .fT _ vs=>ao vs
 | .fL xs=>ao xs
 | _=>true
noncomputable def ao:List D->Bool
 | []=>true
 | d::r=>d.imm&&ao r
end
inductive Bop where | add | sub | mul | fdiv | mod | pow
 deriving DecidableEq
inductive Cop where | lt | le | gt | ge | eq | ne
 deriving DecidableEq
inductive Bi where | len | list | tuple | int | all | any | lenSet | sorted | sortedSet | abs | sum | sortedS
 deriving DecidableEq
inductive Ty where | int | bool | list | tuple | str
 deriving DecidableEq
mutual
inductive E where
 | var (i:Nat)
 | cst (d:D)
 | glb (x:Str) (i:Int)
 | bin (o:Bop) (a b:E)
 | cmp (c:Cop) (a b:E)
 | chain (c c':Cop) (a b e:E)
 | isN (neg:Bool) (a:E)
 | inn (neg:Bool) (a b:E)
 | and (a b:E)
 | or (a b:E)
 | not (a:E)
 | tup (es:Es)
 | lst (es:Es)
 | ix (a b:E)
 | slT (a b:E)
 | slF (a b:E)
 | call (f:Nat) (es:Es)
 | bi (b:Bi) (a:E)
 | max (a b:E)
 | min (a b:E)
 | isi (a:E) (t:Ty)
 | rng1 (a:E)
 | rng2 (a b:E)
 | rng3 (c:Int) (a b:E)
 | neg (a:E)
 | comp (e:E) (tg:List Nat) (it:It) (c:E)
 | compA (e:E) (tg:List Nat) (it:It)
 | frz (a:E)
 | inG (g:Str) (ks:List Str) (a:E)
inductive Es where
 | nil
 | cons (e:E) (es:Es)
inductive It where
 | seq (e:E)
 | rng1 (a:E)
 | rng2 (a b:E)
 | rng3 (c:Int) (a b:E)
 | enm (e:E)
end
mutual
inductive S where
 | asg (i:Nat) (e:E)
 | own (i:Nat) (e:E)
 | unp (is:List Nat) (e:E)
 | par (i j:Nat) (a b:E)
 | parL (i j:Nat) (a b:E)
 | star (i j:Nat) (e:E)
 | app (i:Nat) (e:E)
 | put (i:Nat) (k e:E)
 | ife (t:E) (a b:Ss)
 | forr (tg:List Nat) (it:It) (b:Ss)
 | mexc (f:Nat) (es:Es) (ps ms:List Nat)
 | maug (i f:Nat) (es:Es) (ps ms:List Nat)
 | ret (e:E)
 | exc (e:E)
 | never
 | rais (c:Str) (ps:Es)
inductive Ss where
 | nil
 | cons (s:S) (r:Ss)
 | act (i:Nat) (g:Str) (tbl:List (Str × Nat)) (a:E) (es:Es)
 | opn (j:Nat) (e:E) (r:Sq)
inductive Sq where
 | cls (r:Ss)
 | cons (s:S) (r:Sq)
 | opn (j:Nat) (e:E) (r:Sq)
 | frz (j:Nat) (r:Ss)
 | fz (j:Nat) (r:Sq)
end
@[reducible]noncomputable def St:=List (Option D)
@[reducible]noncomputable def Cl:=Nat->List D->Option D
abbrev most:Nat:=100000
abbrev bq{α:Type}(xs:List α)(i:Int):Option α :=
 if 0<=i then xs[i.toNat]? else if -(xs.length:Int)<=i then xs[(i+xs.length).toNat]? else none
abbrev lP(n:Nat)(i:Int):Option Nat :=
 if 0<=i then(if i<n then some i.toNat else none)else if -(n:Int)<=i then some (i+n).toNat else none
abbrev cutAt(n:Nat)(i:Int):Nat:=if 0<=i then min i.toNat n else(i+n).toNat
abbrev aI:Bop->D->D->Option D
 | .add,.int a,.int b=>some (.int (a+b))
 | .add,.str a,.str b=>if a.length+b.length<=most then some (.str (a++b))else none
 | .add,.lst a,.lst b=>if a.length+b.length<=most then some (.lst (a++b))else none
 | .add,.tup a,.tup b=>if a.length+b.length<=most/\0<a.length then some (.tup (a++b))else none
 | .sub,.int a,.int b=>some (.int (a-b))
 | .mul,.int a,.int b=>if(-(2 ^ 64)<a/\a<2 ^ 64)\/(-(2 ^ 64)<b/\b<2 ^ 64)then some (.int (a*b))else none
 | .mul,.lst a,.int b=>if 0<=b/\b<=most/\a.length*b.toNat<=most then some (.lst (List.replicate b.toNat a).flatten)else none
 | .fdiv,.int a,.int b=>if 0<b/\b<2 ^ 200 then some (.int (a / b))else none
 | .mod,.int a,.int b=>if 0<b then some (.int (a%b))else none
 | .pow,.int a,.int b=>if 0<=b/\b<=1000/\a.natAbs<2 ^ 64 then some (.int (a ^ b.toNat))else none
 | _,_,_=>none
abbrev eqs(f:D->D->Option Bool):List D->List D->Option Bool
 | a::r,b::s=>(f a b).bind fun e=>(eqs f r s).map fun k=>e&&k
 | _,_=>some true
abbrev eqD:Nat->D->D->Option Bool
 | _,.int a,.int b=>some (a == b)
 | _,.str a,.str b=>some (a == b)
 | _,.bl a,.bl b=>some (a == b)
 | n+1,.tup a,.tup b=>(eqs (eqD n) a b).map fun k=>k&&a.length == b.length
 | n+1,.lst a,.lst b=>(eqs (eqD n) a b).map fun k=>k&&a.length == b.length
 | _,_,_=>none
abbrev aY:Cop->D->D->Option Bool
 | .lt,.int a,.int b=>some (decide (a<b))
 | .le,.int a,.int b=>some (decide (a<=b))
 | .gt,.int a,.int b=>some (decide (b<a))
 | .ge,.int a,.int b=>some (decide (b<=a))
 | .eq,a,b=>eqD 8 a b
 | .ne,a,b=>(eqD 8 a b).map not
 | _,_,_=>none
abbrev truth:D->Option Bool
 | .bl b=>some b
 | .lst xs=>some (!xs.isEmpty)
 | .tup xs=>some (!xs.isEmpty)
 | .int i=>some (i != 0)
 | _=>none
abbrev gb:List D->Option (List Int)
 | []=>some []
 | .int i::r=>(gb r).map (i :: ·)
 | _=>none
abbrev kT:List D->Option (List Bool)
 | []=>some []
 | .bl i::r=>(kT r).map (i :: ·)
 | _=>none
abbrev strs?:List D->Option (List Str)
 | []=>some []
 | .str i::r=>(strs? r).map (i :: ·)
 | _=>none
abbrev mK(a:Int):List Int->List Int
 | []=>[a]
 | b::r=>if a<=b then a::b::r else b::mK a r
abbrev sortI:List Int->List Int
 | []=>[]
 | a::r=>mK a (sortI r)
abbrev iU(xs:List Int):List Int:=xs.foldl (fun m k=>if m.any (· == k)then m else m++[k]) []
abbrev items:D->Option (List D)
 | .lst xs=>some xs
 | .tup xs=>some xs
 | .fL xs=>some xs
 | _=>none
abbrev gy:D->Option (List D)
 | .fL xs=>some xs
 | .lst xs=>some xs
 | .tup xs=>some xs
 | _=>none
@[simp] theorem itemsS_lst:gy (.lst xs)=some xs:=rfl
@[simp] theorem itemsS_tup:gy (.tup xs)=some xs:=rfl
abbrev iZ:D->Option (List D)
 | .lst xs=>some xs
 | .tup xs=>some xs
 | .str x=>some (x.cps.toList.map fun c=>.str ⟨#[c]⟩)
 | _=>none
abbrev xF:List Str->Bool
 | a::b::r=>!decide (b.cps.toList<a.cps.toList)&&xF (b::r)
 | _=>true
abbrev biV:Bi->D->Option D
 | .len,.str x=>if x.length<=most then some (.int x.length)else none
 | .len,.dK ks _=>some (.int ks.length)
 | .len,.dT ks _=>some (.int ks.length)
 | .len,.fT ks _=>some (.int ks.length)
 | .len,d=>(items d).map fun xs=>.int xs.length
 | .list,d=>(items d).map .lst
 | .tuple,d=>(items d).map .tup
 | .int,.bl b=>some (.int (if b then 1 else 0))
 | .int,.int i=>some (.int i)
 | .int,_=>none
 | .all,.lst xs=>(kT xs).map fun bs=>.bl (bs.all id)
 | .any,.lst xs=>(kT xs).map fun bs=>.bl (bs.any id)
 | .all,_=>none
 | .any,_=>none
 | .lenSet,.lst xs=>if xs.length<=1000 then(gb xs).map fun is=>.int (iU is).length else none
 | .lenSet,_=>none
 | .sorted,.lst xs=>if xs.length<64 then(gb xs).map fun is=>.lst ((sortI is).map .int)else none
 | .sorted,_=>none
 | .sortedSet,.lst xs=>if xs.length<=5 then(gb xs).map fun is=>.lst ((sortI (iU is)).map .int)else(gb xs).bind fun is=>if(iU is).length<=4 then some (.lst ((sortI (iU is)).map .int))else none
 | .sortedSet,_=>none
 | .abs,.int i=>some (.int (if i<0 then -i else i))
 | .abs,_=>none
 | .sortedS,.lst xs=>(strs? xs).bind fun ss=>if xF ss then some (.lst xs)else none
 | .sortedS,_=>none
 | .sum,.lst xs=>(gb xs).map fun is=>.int is.sum
 | .sum,_=>none
abbrev vG:Ty->D->Option Bool
 | .int,.int _=>some true
 | .int,.bl _=>some true
 | .bool,.bl _=>some true
 | .list,.lst _=>some true
 | .list,.fL _=>some true
 | .tuple,.tup _=>some true
 | .str,.str _=>some true
 | _,.non=>some false
 | _,.bl _=>some false
 | _,.int _=>some false
 | _,.str _=>some false
 | _,.tup _=>some false
 | _,.lst _=>some false
 | _,.fL _=>some false
 | _,_=>none
abbrev keyOf:D->Option Ky
 | .int i=>some (.inl i)
 | .str x=>some (.inr x)
 | _=>none
abbrev keysOf:List D->Option (List Ky)
 | []=>some []
 | d::r=>(keyOf d).bind fun k=>(keysOf r).map (k :: ·)
abbrev eW{κ:Type} [DecidableEq κ]:List κ->List D->κ->Option D
 | k::ks,v::vs,x=>if k=x then some v else eW ks vs x
 | _,_,_=>none
abbrev putD{κ:Type} [DecidableEq κ](ks:List κ)(vs:List D)(x:κ)(d:D):List κ × List D :=
 if x∈ks then(ks,List.zipWith (fun k v=>if k=x then d else v) ks vs)else(ks++[x],vs++[d])
abbrev ixV:D->D->Option D
 | .lst xs,.int i=>bq xs i
 | .tup xs,.int i=>bq xs i
 | .str x,.int i=>if x.length<=most then(bq x.cps.toList i).map fun c=>.str ⟨#[c]⟩else none
 | .fL xs,.int i=>if ao xs then bq xs i else none
 | _,_=>none
abbrev Ac:D->D->Option D
 | .dK ks vs,k=>(keyOf k).bind (eW ks vs)
 | .dT ks vs,.tup k=>(keysOf k).bind (eW ks vs)
 | .fT ks vs,.tup k=>(keysOf k).bind (eW ks vs)
 | _,_=>none
abbrev Aa:D->D->D->Option D
 | .dK ks vs,k,z=>(keyOf k).map fun q=>(eW ks vs q).getD z
 | .dT ks vs,.tup k,z=>(keysOf k).map fun q=>(eW ks vs q).getD z
 | _,_,_=>none
abbrev Ae:D->D->Option Bool
 | .dK ks vs,k=>(keyOf k).map fun k=>(eW ks vs k).isSome
 | .dT ks vs,.tup k=>(keysOf k).map fun k=>(eW ks vs k).isSome
 | .fT ks _,.tup k=>(keysOf k).map fun k=>ks.any fun x=>decide (x=k)
 | _,_=>none
abbrev flat:D->Bool
 | .int _=>true
 | .str _=>true
 | _=>false
abbrev eqF:D->D->Bool
 | .int a,.int b=>a == b
 | .str a,.str b=>a == b
 | _,_=>false
abbrev inV(a b:D):Option Bool :=
 (items b).bind fun xs=>if flat a&&xs.all flat then some (xs.any fun x=>eqF x a)else none
abbrev fS:D->D->Option D
 | .fL xs,.int k=>some (.lst (xs.take (cutAt xs.length k)))
 | .scr xs,.int k=>some (.lst (xs.take (cutAt xs.length k)))
 | .lst xs,.int k=>some (.lst (xs.take (cutAt xs.length k)))
 | .tup xs,.int k=>if cutAt xs.length k<xs.length then some (.tup (xs.take (cutAt xs.length k)))else none
 | _,_=>none
abbrev cW:D->D->Option D
 | .fL xs,.int k=>some (.lst (xs.drop (cutAt xs.length k)))
 | .lst xs,.int k=>some (.lst (xs.drop (cutAt xs.length k)))
 | .tup xs,.int k=>if 0<cutAt xs.length k then some (.tup (xs.drop (cutAt xs.length k)))else none
 | _,_=>none
abbrev bx(lo:Int):Nat->List D
 | 0=>[]
 | n+1=>.int lo::bx (lo+1) n
abbrev bB(c lo:Int):Nat->List D
 | 0=>[]
 | n+1=>.int lo::bB c (lo+c) n
abbrev aZ(c a b:Int):Nat:=(if c > 0 then(if a<b then(b-a-1) / c+1 else 0)else(if a > b then(a-b-1) / (-c)+1 else 0)).toNat
abbrev cw:D->D->Option (List D)
 | .int a,.int b=>if(b-a).toNat<=most/\-(2 ^ 60)<=a/\a<2 ^ 60/\-(2 ^ 60)<=b/\b<2 ^ 60 then some (bx a (b-a).toNat)else none
 | _,_=>none
abbrev gM(c:Int):D->D->Option (List D)
 | .int a,.int b=>if c≠0/\-(2 ^ 60)<c/\c<2 ^ 60/\aZ c a b<=most/\-(2 ^ 60)<=a/\a<2 ^ 60/\-(2 ^ 60)<=b/\b<2 ^ 60 then some (bB c a (aZ c a b))else none
 | _,_=>none
abbrev cS(i:Int):List D->List D
 | []=>[]
 | d::r=>.tup [.int i,d]::cS (i+1) r
abbrev zl:List D->List D->List D
 | a::r,b::s=>.tup [a,b]::zl r s
 | _,_=>[]
abbrev ba:List Nat->List D->St->Option St
 | [],[],σ=>some σ
 | i::is,d::ds,σ=>ba is ds (σ.set i (some d))
 | _,_,_=>none
abbrev bP(tg:List Nat)(d:D)(σ:St):Option St :=
 match tg with
 | [i]=>some (σ.set i (some d))
 | tg=>match d with
  | .tup ds=>ba tg ds σ
  | .lst ds=>ba tg ds σ
  | _=>none
abbrev kI(y:Option D)(ys:List D):Option (List D) :=
 match y with
 | some e=>if e.imm then some (e::ys)else none
 | none=>some ys
abbrev cu(f:St->Option (Option D))(tg:List Nat)(σ:St):List D->Option (List D)
 | []=>some []
 | d::r=>(bP tg d σ).bind fun σ1=>(f σ1).bind fun y=>(cu f tg σ r).bind (kI y)
abbrev aH:D->Bool
 | .lst xs=>ao xs
 | .dK _ vs=>ao vs
 | .dT _ vs=>ao vs
 | _=>false
abbrev zc(f:St->Option D)(fr:Bool)(tg:List Nat)(σ:St):List D->Option (List D)
 | []=>some []
 | d::r=>(bP tg d σ).bind fun σ1=>(f σ1).bind fun y=>if aH y&&fr then(zc f fr tg σ r).map (y :: ·)else none
abbrev fits(xs:List D):Option (List D):=if xs.length<=most then some xs else none
abbrev a6:E->Bool
 | .lst _=>true
 | .tup _=>true
 | .comp _ _ _ _=>true
 | .compA _ _ _=>true
 | .bin _ _ _=>true
 | .slT _ _=>true
 | .slF _ _=>true
 | .call _ _=>true
 | .bi _ _=>true
 | .rng1 _=>true
 | .rng2 _ _=>true
 | .rng3 _ _ _=>true
 | _=>false
abbrev sF(n c:Str):Bool:=n == c || c == "RibbonError" || c == "ValueError"
abbrev xr(neg:Bool):D->Option D
 | .non=>some (.bl (!neg))
 | .dK _ _=>none
 | .dT _ _=>none
 | .fT _ _=>none
 | _=>some (.bl neg)
abbrev nE(y:Option D):D->Option D
 | .bl true=>y
 | .bl false=>some (.bl false)
 | _=>none
abbrev orV(y:Option D):D->Option D
 | .bl false=>y
 | .bl true=>some (.bl true)
 | _=>none
abbrev qm:D->Option D
 | .int i=>some (.int (-i))
 | _=>none
abbrev rl:D->D->Option D
 | .int i,.int j=>some (.int (if j > i then j else i))
 | _,_=>none
abbrev qp:D->D->Option D
 | .int i,.int j=>some (.int (if j<i then j else i))
 | _,_=>none
abbrev zR:D->D->Option D
 | .str x,.str y=>match y.cps.toList with
  | [c]=>some (.int (x.cps.toList.count c:Nat))
  | _=>none
 | _,_=>none
abbrev zV:D->D->Option D
 | .str x,.int k=>if 0<=k/\x.length<=most then some (.str ⟨(x.cps.toList.take k.toNat).toArray⟩)else none
 | _,_=>none
abbrev Ab:D->D->Option D
 | .str x,.int k=>if 0<=k/\x.length<=most then some (.str ⟨(x.cps.toList.drop k.toNat).toArray⟩)else none
 | _,_=>none
abbrev zW:D->D->D->D->Option D
 | .str x,y,.str z,w=>if x≠z/\y.imm=true/\w.imm=true then some (.dK [.inr x,.inr z] [y,w])else none
 | _,_,_,_=>none
abbrev zQ:D->D->Option D
 | .str x,.int n=>if 1<n/\n<=1000/\0<x.length/\x.length<=100 then some (.str ⟨(List.replicate n.toNat x.cps.toList).flatten.toArray⟩)else none
 | _,_=>none
abbrev kyD:Ky->D
 | .inl i=>.int i
 | .inr x=>.str x
abbrev Af:D->Option (List D)
 | .fT ks _=>some (ks.map fun k=>.tup (k.map kyD))
 | _=>none
abbrev zx:D->Option D
 | .lst xs=>if ao xs then some (.fL xs)else none
 | _=>none
abbrev zX:D->D->Option D
 | .fL a,.lst b=>if a.length+b.length<=most then some (.lst (a++b))else none
 | .lst a,.fL b=>if a.length+b.length<=most then some (.lst (a++b))else none
 | _,_=>none
abbrev Ag:D->D->Option D
 | .tup k,v=>(keysOf k).bind fun q=>if v.imm then some (.dT [q] [v])else none
 | _,_=>none
abbrev sy:List D->Option (List (List Int))
 | []=>some []
 | .fL ds::r=>(gb ds).bind fun is=>(sy r).map (is :: ·)
 | _=>none
abbrev ltL:List Int->List Int->Bool
 | [],[]=>false
 | [],_::_=>true
 | _::_,[]=>false
 | a::r,b::s=>if a=b then ltL r s else decide (a<b)
abbrev vq:List Int->List (List Int)->List Int
 | b,[]=>b
 | b,x::r=>vq (if ltL x b then x else b) r
abbrev zT:D->Option D
 | .lst xs=>(sy xs).bind fun rs=>match rs with
  | []=>none
  | x::r=>some (.fL ((vq x r).map .int))
 | _=>none
abbrev zC(ks:List Str):D->Option D
 | .str w=>some (.bl (ks.any fun k=>decide (k=w)))
 | _=>none
abbrev fj(tbl:List (Str × Nat)):D->Option Nat
 | .str w=>(tbl.find? fun q=>decide (q.1=w)).map (·.2)
 | _=>none
abbrev k8:D->Option (D × D)
 | .tup (d::r)=>if d.imm&&ao r then some (d,.fL r)else none
 | _=>none
abbrev yd:D->Option D
 | .dT ks vs=>some (.fT ks vs)
 | _=>none
@[simp] theorem sv_andt {y:Option D}:nE y (.bl true)=y:=rfl
@[simp] theorem sv_andf {y:Option D}:nE y (.bl false)=some (.bl false):=rfl
@[simp] theorem sv_ort {y:Option D}:orV y (.bl true)=some (.bl true):=rfl
@[simp] theorem sv_orf {y:Option D}:orV y (.bl false)=y:=rfl
@[simp] theorem sv_max {i j:Int}:rl (.int i) (.int j)=some (.int (if j > i then j else i)):=rfl
@[simp] theorem sv_min {i j:Int}:qp (.int i) (.int j)=some (.int (if j<i then j else i)):=rfl
@[simp] theorem sv_neg {i:Int}:qm (.int i)=some (.int (-i)):=rfl
mutual
noncomputable def ev(cl:Cl)(σ:St):E->Option D
 | .var i=>(σ[i]?).bind id
 | .cst d=>some d
 | .glb _ i=>some (.int i)
 | .bin o a b=>(ev cl σ a).bind fun x=>(ev cl σ b).bind fun y=>aI o x y
 | .cmp c a b=>(ev cl σ a).bind fun x=>(ev cl σ b).bind fun y=>(aY c x y).map .bl
 | .chain c c' a b e=>(ev cl σ a).bind fun x=>(ev cl σ b).bind fun y=>(aY c x y).bind fun k=>if k then(ev cl σ e).bind fun z=>(aY c' y z).map .bl else some (.bl false)
 | .isN neg a=>(ev cl σ a).bind (xr neg)
 | .inn neg a b=>(ev cl σ a).bind fun x=>(ev cl σ b).bind fun y=>(inV x y).map fun k=>.bl (if neg then !k else k)
 | .and a b=>(ev cl σ a).bind (nE (ev cl σ b))
 | .or a b=>(ev cl σ a).bind (orV (ev cl σ b))
 | .not a=>((ev cl σ a).bind truth).map fun k=>.bl (!k)
 | .tup es=>(evs cl σ es).map .tup
 | .lst es=>(evs cl σ es).map .lst
 | .ix a b=>(ev cl σ a).bind fun x=>(ev cl σ b).bind fun y=>ixV x y
 | .slT a b=>(ev cl σ a).bind fun x=>(ev cl σ b).bind fun y=>fS x y
 | .slF a b=>(ev cl σ a).bind fun x=>(ev cl σ b).bind fun y=>cW x y
 | .call f es=>(evs cl σ es).bind fun ds=>cl f ds
 | .bi b a=>(ev cl σ a).bind fun x=>biV b x
 | .max a b=>(ev cl σ a).bind fun x=>(ev cl σ b).bind fun y=>rl x y
 | .min a b=>(ev cl σ a).bind fun x=>(ev cl σ b).bind fun y=>qp x y
 | .isi a t=>(ev cl σ a).bind fun x=>(vG t x).map .bl
 | .rng1 a=>(ev cl σ a).bind fun x=>(cw (.int 0) x).map .lst
 | .rng2 a b=>(ev cl σ a).bind fun x=>(ev cl σ b).bind fun y=>(cw x y).map .lst
 | .rng3 c a b=>(ev cl σ a).bind fun x=>(ev cl σ b).bind fun y=>(gM c x y).map .lst
 | .neg a=>(ev cl σ a).bind qm
 | .comp e tg it c=>(bN cl σ it).bind fun ds=>(fits ds).bind fun ds=>(cu (fun σ1=>((ev cl σ1 c).bind truth).bind fun k=>if k then(ev cl σ1 e).map some else some none) tg σ ds).map .lst
 | .compA e tg it=>(bN cl σ it).bind fun ds=>(fits ds).bind fun ds=>(cu (fun σ1=>(ev cl σ1 e).map some) tg σ ds).map .lst
 | .frz a=>(ev cl σ a).bind fun x=>if a6 a then zx x else none
 | .inG _ ks a=>(ev cl σ a).bind (zC ks)
noncomputable def evs(cl:Cl)(σ:St):Es->Option (List D)
 | .nil=>some []
 | .cons e es=>(ev cl σ e).bind fun d=>(evs cl σ es).map (d :: ·)
noncomputable def bN(cl:Cl)(σ:St):It->Option (List D)
 | .seq e=>(ev cl σ e).bind gy
 | .rng1 a=>(ev cl σ a).bind fun x=>cw (.int 0) x
 | .rng2 a b=>(ev cl σ a).bind fun x=>(ev cl σ b).bind fun y=>cw x y
 | .rng3 c a b=>(ev cl σ a).bind fun x=>(ev cl σ b).bind fun y=>gM c x y
 | .enm e=>(ev cl σ e).bind fun x=>(iZ x).map (cS 0)
end
abbrev clX(cl:Cl)(f:Nat)(ds:List D):Option Str:=(cl (f+1000) ds).bind fun d=>match d with
 | .str x=>some x
 | _=>none
mutual
noncomputable def evX(cl:Cl)(σ:St):E->Option Str
 | .call f es=>match evs cl σ es with
  | some ds=>clX cl f ds
  | none=>xk cl σ es
 | .ix a _=>evX cl σ a
 | _=>none
noncomputable def xk(cl:Cl)(σ:St):Es->Option Str
 | .nil=>none
 | .cons e es=>match ev cl σ e with
  | some _=>xk cl σ es
  | none=>evX cl σ e
end
abbrev written:D->Bool
 | .int i=>decide (i.natAbs<2 ^ 1900)
 | _=>false
inductive Out where
 | nx
 | rt (d:D)
abbrev avE(M:List Nat):E->Bool
 | .var j=>!M.contains j
 | .ix a _=>avE M a
 | .call _ _=>true
 | _=>false
abbrev rX(M:List Nat):It->Bool
 | .seq e=>avE M e || a6 e
 | .enm e=>avE M e || a6 e
 | _=>true
abbrev bD(M:List Nat)(e:E)(d:D):Bool :=
 d.imm || (aH d&&(a6 e || match e with | .var i=>M.contains i | _=>false))
abbrev aU(M:List Nat)(e:E)(d:D):Bool:=d.imm || (aH d&&a6 e) || avE M e
abbrev isVar:E->Bool
 | .var _=>true
 | _=>false
abbrev cE(M ps:List Nat):Nat->Es->List D->Bool
 | _,.nil,[]=>true
 | q,.cons e es,d::ds=>(if ps.contains q then isVar e else aU M e d)&&cE M ps (q+1) es ds
 | _,_,_=>false
abbrev kH:D->D->D->Option D
 | .lst xs,.int k,d=>(lP xs.length k).map fun j=>.lst (xs.set j d)
 | .dK ks vs,k,d=>(keyOf k).bind fun k=>if ks.length<most then some (.dK (putD ks vs k d).1 (putD ks vs k d).2)else none
 | .dT ks vs,.tup k,d=>(keysOf k).bind fun k=>if ks.length<most then some (.dT (putD ks vs k d).1 (putD ks vs k d).2)else none
 | _,_,_=>none
abbrev bG(f:St->Option (Out × St))(tg:List Nat):List D->St->Option (Out × St)
 | [],σ=>some (.nx,σ)
 | d::r,σ=>if d.imm then(bP tg d σ).bind fun σ1=>(f σ1).bind fun p=>match p.1 with
   | .nx=>bG f tg r p.2
   | .rt d=>some (.rt d,p.2)
  else none
abbrev whF(t:St->Option Bool)(f:St->Option (Out × St)):Nat->St->Option (Out × St)
 | 0,_=>none
 | n+1,σ=>(t σ).bind fun k=>if k then(f σ).bind fun p=>match p.1 with
   | .nx=>whF t f n p.2
   | .rt d=>some (.rt d,p.2)
  else some (.nx,σ)
abbrev tq(f:St->Option (Out × St))(fx:St->Option (Str × St))(tg:List Nat):List D->St->Option (Str × St)
 | [],_=>none
 | d::r,σ=>if d.imm then(bP tg d σ).bind fun σ1=>match f σ1 with
   | some p=>match p.1 with
    | .nx=>tq f fx tg r p.2
    | .rt _=>none
   | none=>fx σ1
  else none
abbrev Ad:D->Option (D × D)
 | .lst xs=>(xs[xs.length-1]?).map fun d=>(d,.lst xs.dropLast)
 | _=>none
abbrev zY:D->Option D
 | .lst xs=>some (.lst xs.reverse)
 | _=>none
abbrev zS(σ:St)(r w:Nat)(l:D):D->Option (Out × St)
 | .tup [_,R]=>some (.nx,(σ.set w (some l)).set r (some R))
 | _=>none
abbrev zU:D->D->Option D
 | .str a,.str b=>if a.length+b.length<=most then some (.str (a++b))else none
 | _,_=>none
mutual
noncomputable def evS(cl:Cl)(M:List Nat):S->St->Option (Out × St)
 | .asg i e,σ=>(ev cl σ e).bind fun d=>if aU M e d then some (.nx,σ.set i (some d))else none
 | .own i e,σ=>(ev cl σ e).bind fun d=>if aH d&&a6 e then some (.nx,σ.set i (some d))else none
 | .unp is e,σ=>(ev cl σ e).bind fun d=>(items d).bind fun ds=>if ao ds then(ba is ds σ).map fun σ1=>(.nx,σ1)else none
 | .par i j a b,σ=>(ev cl σ a).bind fun x=>(ev cl σ b).bind fun y=>if x.imm&&y.imm then some (.nx,(σ.set i (some x)).set j (some y))else none
 | .parL i j a b,σ=>(ev cl σ a).bind fun x=>(ev cl σ b).bind fun y=>if x.imm&&(aH y&&a6 b)then some (.nx,(σ.set i (some x)).set j (some y))else none
 | .star i j e,σ=>((ev cl σ e).bind k8).map fun q=>(.nx,(σ.set i (some q.1)).set j (some q.2))
 | .app i e,σ=>(ev cl σ e).bind fun d=>((σ[i]?).bind id).bind fun l=>match l with
  | .lst xs=>if d.imm&&decide (xs.length<most)then some (.nx,σ.set i (some (.lst (xs++[d]))))else none
  | _=>none
 | .put i k e,σ=>(ev cl σ e).bind fun d=>(ev cl σ k).bind fun kk=>((σ[i]?).bind id).bind fun l=>if d.imm then(kH l kk d).map fun l'=>(.nx,σ.set i (some l'))else none
 | .ife t a b,σ=>((ev cl σ t).bind truth).bind fun k=>if k then aw cl M a σ else aw cl M b σ
 | .forr tg it b,σ=>(bN cl σ it).bind fun ds=>bG (aw cl M b) tg ds σ
 | .mexc f es ps ms,σ=>(evs cl σ es).bind fun ds=>if cE M ps 0 es ds then(cl f ds).bind fun r=>match r with
  | .tup (_::outs)=>(ba ms outs σ).map fun σ1=>(.nx,σ1)
  | _=>none
  else none
 | .maug i f es ps ms,σ=>((σ[i]?).bind id).bind fun x=>(evs cl σ es).bind fun ds=>if cE M ps 0 es ds then(cl f ds).bind fun r=>match r with
  | .tup (y::outs)=>match x,y with
   | .int a,.int b=>(ba ms outs σ).map fun σ1=>(.nx,σ1.set i (some (.int (a+b))))
   | _,_=>none
  | _=>none
  else none
 | .ret e,σ=>(ev cl σ e).bind fun d=>if bD M e d then some (.rt d,σ)else none
 | .exc e,σ=>(ev cl σ e).map fun _=>(.nx,σ)
 | .never,_=>none
 | .rais _ _,_=>none
noncomputable def aw(cl:Cl)(M:List Nat):Ss->St->Option (Out × St)
 | .nil,σ=>some (.nx,σ)
 | .cons s r,σ=>(evS cl M s σ).bind fun p=>match p.1 with
  | .nx=>aw cl M r p.2
  | .rt d=>some (.rt d,p.2)
 | .opn j e r,σ=>(ev cl σ e).bind fun d=>if aH d&&a6 e then nv cl M (j::M) r (σ.set j (some d))else none
 | .act i _ tbl a es,σ=>((ev cl σ a).bind (fj tbl)).bind fun f=>(evs cl (σ.set i none) es).bind fun ds=>(cl f ds).bind fun d=>if d.imm then some (.rt d,σ)else none
noncomputable def nv(cl:Cl)(M:List Nat):List Nat->Sq->St->Option (Out × St)
 | _,.cls r,σ=>aw cl M r σ
 | M1,.cons s r,σ=>(evS cl M1 s σ).bind fun p=>match p.1 with
  | .nx=>nv cl M M1 r p.2
  | .rt _=>none
 | M1,.opn j e r,σ=>(ev cl σ e).bind fun d=>if aH d&&a6 e then nv cl M (j::M1) r (σ.set j (some d))else none
 | _,.frz j r,σ=>(((σ[j]?).bind id).bind yd).bind fun d=>aw cl M r (σ.set j (some d))
 | M1,.fz j r,σ=>(((σ[j]?).bind id).bind yd).bind fun d=>nv cl M M1.tail r (σ.set j (some d))
noncomputable def zI(cl:Cl)(M:List Nat):S->St->Option (Str × St)
 | .asg _ e,σ=>(evX cl σ e).map fun x=>(x,σ)
 | .own _ e,σ=>(evX cl σ e).map fun x=>(x,σ)
 | .unp _ e,σ=>(evX cl σ e).map fun x=>(x,σ)
 | .exc e,σ=>(evX cl σ e).map fun x=>(x,σ)
 | .ret e,σ=>(evX cl σ e).map fun x=>(x,σ)
 | .ife t a b,σ=>((ev cl σ t).bind truth).bind fun k=>if k then iX cl M a σ else iX cl M b σ
 | .forr tg it b,σ=>(bN cl σ it).bind fun ds=>tq (aw cl M b) (iX cl M b) tg ds σ
 | .rais c ps,σ=>(evs cl σ ps).bind fun ds=>if ds.all written then some (c,σ)else none
 | _,_=>none
noncomputable def iX(cl:Cl)(M:List Nat):Ss->St->Option (Str × St)
 | .nil,_=>none
 | .cons s r,σ=>match evS cl M s σ with
  | some p=>match p.1 with
   | .nx=>iX cl M r p.2
   | .rt _=>none
  | none=>zI cl M s σ
 | .opn _ _ _,_=>none
 | .act _ _ _ _ _,_=>none
end
def bS:ev cl σ (.var i)=((σ[i]?).bind id):=rfl
def cQ:ev cl σ (.cst d)=(some d):=rfl
def yq:ev cl σ (.glb y1 i)=(some (.int i)):=rfl
def dz:ev cl σ (.bin o a b)=((ev cl σ a).bind fun x=>(ev cl σ b).bind fun y=>aI o x y):=rfl
def hW:ev cl σ (.cmp c a b)=((ev cl σ a).bind fun x=>(ev cl σ b).bind fun y=>(aY c x y).map .bl):=rfl
def gQ:ev cl σ (.chain c c' a b e)=((ev cl σ a).bind fun x=>(ev cl σ b).bind fun y=>(aY c x y).bind fun k=>if k then(ev cl σ e).bind fun z=>(aY c' y z).map .bl else some (.bl false)):=rfl
def yi:ev cl σ (.isN neg a)=((ev cl σ a).bind (xr neg)):=rfl
def yl:ev cl σ (.inn neg a b)=((ev cl σ a).bind fun x=>(ev cl σ b).bind fun y=>(inV x y).map fun k=>.bl (if neg then !k else k)):=rfl
def eU:ev cl σ (.and a b)=((ev cl σ a).bind (nE (ev cl σ b))):=rfl
def sj:ev cl σ (.or a b)=((ev cl σ a).bind (orV (ev cl σ b))):=rfl
def sP:ev cl σ (.not a)=(((ev cl σ a).bind truth).map fun k=>.bl (!k)):=rfl
def y9:ev cl σ (.tup es)=((evs cl σ es).map .tup):=rfl
def fH:ev cl σ (.lst es)=((evs cl σ es).map .lst):=rfl
def jg:ev cl σ (.ix a b)=((ev cl σ a).bind fun x=>(ev cl σ b).bind fun y=>ixV x y):=rfl
def su:ev cl σ (.slT a b)=((ev cl σ a).bind fun x=>(ev cl σ b).bind fun y=>fS x y):=rfl
def yG:ev cl σ (.slF a b)=((ev cl σ a).bind fun x=>(ev cl σ b).bind fun y=>cW x y):=rfl
def cX:ev cl σ (.call f es)=((evs cl σ es).bind fun ds=>cl f ds):=rfl
def vz:ev cl σ (.bi b a)=((ev cl σ a).bind fun x=>biV b x):=rfl
def nz:ev cl σ (.max a b)=((ev cl σ a).bind fun x=>(ev cl σ b).bind fun y=>rl x y):=rfl
def mX:ev cl σ (.min a b)=((ev cl σ a).bind fun x=>(ev cl σ b).bind fun y=>qp x y):=rfl
def vx:ev cl σ (.rng1 a)=((ev cl σ a).bind fun x=>(cw (.int 0) x).map .lst):=rfl
def vM:ev cl σ (.rng2 a b)=((ev cl σ a).bind fun x=>(ev cl σ b).bind fun y=>(cw x y).map .lst):=rfl
def k9:ev cl σ (.neg a)=((ev cl σ a).bind qm):=rfl
def wY:ev cl σ (.comp e tg it c)=((bN cl σ it).bind fun ds=>(fits ds).bind fun ds=>(cu (fun σ1=>((ev cl σ1 c).bind truth).bind fun k=>if k then(ev cl σ1 e).map some else some none) tg σ ds).map .lst):=rfl
def uW:ev cl σ (.compA e tg it)=((bN cl σ it).bind fun ds=>(fits ds).bind fun ds=>(cu (fun σ1=>(ev cl σ1 e).map some) tg σ ds).map .lst):=rfl
def ee:evS cl M (.asg i e) σ=((ev cl σ e).bind fun d=>if aU M e d then some (.nx,σ.set i (some d))else none):=rfl
def n5:evS cl M (.own i e) σ=((ev cl σ e).bind fun d=>if aH d&&a6 e then some (.nx,σ.set i (some d))else none):=rfl
def yM:evS cl M (.unp is e) σ=((ev cl σ e).bind fun d=>(items d).bind fun ds=>if ao ds then(ba is ds σ).map fun σ1=>(.nx,σ1)else none):=rfl
def yB:evS cl M (.par i j a b) σ=((ev cl σ a).bind fun x=>(ev cl σ b).bind fun y=>if x.imm&&y.imm then some (.nx,(σ.set i (some x)).set j (some y))else none):=rfl
def kz:evS cl M (.app i e) σ=((ev cl σ e).bind fun d=>((σ[i]?).bind id).bind fun l=>match l with
  | .lst xs=>if d.imm&&decide (xs.length<most)then some (.nx,σ.set i (some (.lst (xs++[d]))))else none
  | _=>none):=rfl
def yF:evS cl M (.put i k e) σ=((ev cl σ e).bind fun d=>(ev cl σ k).bind fun kk=>((σ[i]?).bind id).bind fun l=>if d.imm then(kH l kk d).map fun l'=>(.nx,σ.set i (some l'))else none):=rfl
def dX:evS cl M (.ife t a b) σ=(((ev cl σ t).bind truth).bind fun k=>if k then aw cl M a σ else aw cl M b σ):=rfl
def iR:evS cl M (.forr tg it b) σ=((bN cl σ it).bind fun ds=>bG (aw cl M b) tg ds σ):=rfl
def pk:evS cl M (.mexc f es ps ms) σ=((evs cl σ es).bind fun ds=>if cE M ps 0 es ds then(cl f ds).bind fun r=>match r with
  | .tup (_::outs)=>(ba ms outs σ).map fun σ1=>(.nx,σ1)
  | _=>none
  else none):=rfl
def wO:evS cl M (.maug i f es ps ms) σ=(((σ[i]?).bind id).bind fun x=>(evs cl σ es).bind fun ds=>if cE M ps 0 es ds then(cl f ds).bind fun r=>match r with
  | .tup (y::outs)=>match x,y with
   | .int a,.int b=>(ba ms outs σ).map fun σ1=>(.nx,σ1.set i (some (.int (a+b))))
   | _,_=>none
  | _=>none
  else none):=rfl
def cY:evS cl M (.ret e) σ=((ev cl σ e).bind fun d=>if bD M e d then some (.rt d,σ)else none):=rfl
def sZ:evS cl M (.exc e) σ=((ev cl σ e).map fun _=>(.nx,σ)):=rfl
def vW:evS cl M (.rais y1 y2) σ=(none):=rfl
def nT:aI .add (.lst a) (.lst b)=(if a.length+b.length<=most then some (.lst (a++b))else none):=rfl
def rm:aI .mul (.int a) (.int b)=(if(-(2 ^ 64)<a/\a<2 ^ 64)\/(-(2 ^ 64)<b/\b<2 ^ 64)then some (.int (a*b))else none):=rfl
def zG:aI .fdiv (.int a) (.int b)=(if 0<b/\b<2 ^ 200 then some (.int (a / b))else none):=rfl
def zJ:aI .mod (.int a) (.int b)=(if 0<b then some (.int (a%b))else none):=rfl
def yZ:kH (.lst xs) (.int k) d=((lP xs.length k).map fun j=>.lst (xs.set j d)):=rfl
def qX:ixV (.lst xs) (.int i)=(bq xs i):=rfl
def fh:bP [i] d σ=some (σ.set i (some d)):=rfl
def xZ:ba [] [] σ=some σ:=rfl
def vB:ba (i::is) (d::ds) σ=ba is ds (σ.set i (some d)):=rfl
def zE:eqD n (.int a) (.int b)=some (a == b):=by cases n<;>rfl
def zr:biV .list d=(items d).map .lst:=rfl
def ze:biV .tuple d=(items d).map .tup:=rfl
def yI:biV .len (.str x)=if x.length<=most then some (.int x.length)else none:=rfl
def xQ:avE M (.var j)=!M.contains j:=rfl
set_option autoImplicit false
structure Fn where
 ps:Nat
 nn:Nat
 M:List Nat
 mp:List Nat
 body:Ss
abbrev dh(σ:St):List Nat->Option (List D)
 | []=>some []
 | i::is=>((σ[i]?).bind id).bind fun d=>(dh σ is).map (d :: ·)
abbrev bp(fn:Fn)(d:D)(σ:St):Option D :=
 if fn.mp.isEmpty then some d else if d.imm then(dh σ fn.mp).map fun os=>.tup (d::os)else none
abbrev a5(T:List Fn):Nat->Cl
 | 0,_,_=>none
 | n+1,f,ds=>match T[f]? with
  | some fn=>if ds.length=fn.ps then(aw (a5 T n) fn.M fn.body (ds.map some++List.replicate (fn.nn-fn.ps) none)).bind fun p=>match p.1 with
   | .nx=>bp fn .non p.2
   | .rt d=>bp fn d p.2
   else none
  | none=>(T[f-1000]?).bind fun fn=>if ds.length=fn.ps/\fn.mp=[]then(iX (a5 T n) fn.M fn.body (ds.map some++List.replicate (fn.nn-fn.ps) none)).map fun p=>.str p.1 else none
end RL
namespace RT
open RL
abbrev ff:Fn :=
 ⟨1,1,[],[],(.cons (.ret (.and (.isi (.var 0) .int) (.not (.isi (.var 0) .bool)))) .nil)⟩
abbrev c9(f_is_number:Nat):Fn :=
 ⟨1,1,[],[],(.cons (.ret (.and (.call f_is_number (.cons (.var 0) .nil)) (.chain .le .le (.cst (.int 1)) (.var 0) (.glb "MOST_PEGS" 10)))) .nil)⟩
abbrev df(f_is_peg_count:Nat):Fn :=
 ⟨1,1,[],[],(.cons (.ife (.not (.call f_is_peg_count (.cons (.var 0) .nil))) (.cons (.rais "BadPegs" (.cons (.glb "MOST_PEGS" 10) .nil)) .nil) .nil) .nil)⟩
abbrev ku:Fn :=
 ⟨3,3,[0,0],[0],(.cons (.put 0 (.var 1) (.var 2)) (.cons (.put 0 (.var 2) (.var 1)) .nil))⟩
abbrev gj:Fn :=
 ⟨1,1,[],[],(.cons (.ret (.bin .fdiv (.bi .len (.var 0)) (.cst (.int 2)))) .nil)⟩
abbrev gE(f_check_pegs:Nat):Fn :=
 ⟨1,1,[],[],(.cons (.exc (.call f_check_pegs (.cons (.var 0) .nil))) (.cons (.ret (.bi .tuple (.bin .add (.rng2 (.var 0) (.bin .mul (.cst (.int 2)) (.var 0))) (.rng1 (.var 0))))) .nil))⟩
abbrev jq(f_hang_hook f_plain f_check_row:Nat):Ss :=
 (.cons (.maug 3 f_hang_hook (.cons (.var 2) (.cons (.var 4) .nil)) [0] [2]) .nil)
abbrev jb(f_hang_hook f_plain f_check_row:Nat):Fn :=
 ⟨2,5,[2],[],(.cons (.exc (.call f_check_row (.cons (.var 0) (.cons (.var 1) .nil)))) (.cons (.own 2 (.bi .list (.call f_plain (.cons (.var 0) .nil)))) (.cons (.asg 3 (.cst (.int 0))) (.cons (.forr [4] (.seq (.var 1)) (jq f_hang_hook f_plain f_check_row)) (.cons (.ret (.tup (.cons (.bi .tuple (.var 2)) (.cons (.var 3) .nil)))) .nil)))))⟩
abbrev cD(f_tie f_pegs_of:Nat):Fn :=
 ⟨2,4,[0,0],[0],(.cons (.asg 2 (.bin .add (.call f_pegs_of (.cons (.var 0) .nil)) (.var 1))) (.cons (.asg 3 (.bin .add (.var 2) (.cst (.int 1)))) (.cons (.ife (.cmp .eq (.ix (.var 0) (.var 2)) (.var 3)) (.cons (.ret (.cst (.int 1))) .nil) .nil) (.cons (.mexc f_tie (.cons (.var 0) (.cons (.ix (.var 0) (.var 2)) (.cons (.ix (.var 0) (.var 3)) .nil))) [0] [0]) (.cons (.mexc f_tie (.cons (.var 0) (.cons (.var 2) (.cons (.var 3) .nil))) [0] [0]) (.cons (.ret (.cst (.int 0))) .nil))))))⟩
abbrev eR(f_is_number:Nat):Fn :=
 ⟨2,2,[],[],(.cons (.ret (.and (.call f_is_number (.cons (.var 1) .nil)) (.chain .le .le (.cst (.int 0)) (.var 1) (.bin .sub (.var 0) (.cst (.int 2)))))) .nil)⟩
abbrev gh(f_is_hook f_check_pegs:Nat):Ss :=
 (.cons (.ife (.not (.call f_is_hook (.cons (.var 0) (.cons (.var 2) .nil)))) (.cons (.rais "BadHook" (.cons (.var 2) (.cons (.var 0) .nil))) .nil) .nil) .nil)
abbrev d6(f_is_hook f_check_pegs:Nat):Fn :=
 ⟨2,3,[],[],(.cons (.exc (.call f_check_pegs (.cons (.var 0) .nil))) (.cons (.forr [2] (.seq (.var 1)) (gh f_is_hook f_check_pegs)) .nil))⟩
abbrev gi:Fn :=
 ⟨1,3,[],[],(.cons (.asg 1 (.bin .mod (.bin .add (.bin .mul (.var 0) (.cst (.int 48271))) (.cst (.int 11))) (.cst (.int 2147483647)))) (.cons (.asg 2 (.bin .mod (.bin .add (.bin .add (.bin .mul (.var 1) (.var 1)) (.bin .mul (.cst (.int 40692)) (.var 1))) (.var 0)) (.cst (.int 2147483399)))) (.cons (.ret (.bin .mod (.bin .add (.bin .add (.bin .mul (.var 2) (.var 2)) (.bin .mul (.cst (.int 69621)) (.var 2))) (.var 1)) (.cst (.int 2147483563)))) .nil)))⟩
abbrev fG(f_law_mix:Nat):Ss :=
 (.cons (.asg 3 (.bin .add (.bin .mul (.var 3) (.cst (.int 2147483563))) (.call f_law_mix (.cons (.bin .add (.bin .add (.var 2) (.bin .mul (.cst (.int 1009)) (.var 1))) (.bin .mul (.cst (.int 7919)) (.var 4))) .nil)))) .nil)
abbrev gu(f_law_mix:Nat):Fn :=
 ⟨2,5,[],[],(.cons (.asg 2 (.bin .add (.bin .mul (.cst (.int 7)) (.var 1)) (.cst (.int 3)))) (.cons (.ife (.cmp .gt (.bi .len (.var 0)) (.cst (.int 0))) (.cons (.asg 2 (.bin .add (.ix (.var 0) (.bin .mod (.var 1) (.bi .len (.var 0)))) (.bin .mul (.cst (.int 9973)) (.bin .fdiv (.var 1) (.bi .len (.var 0)))))) .nil) .nil) (.cons (.ife (.and (.cmp .lt (.var 1) (.bi .len (.var 0))) (.cmp .ge (.var 2) (.bin .pow (.cst (.int 10)) (.cst (.int 18))))) (.cons (.ret (.bin .sub (.var 2) (.bin .pow (.cst (.int 10)) (.cst (.int 18))))) .nil) .nil) (.cons (.asg 3 (.cst (.int 0))) (.cons (.forr [4] (.rng1 (.cst (.int 40))) (fG f_law_mix)) (.cons (.ret (.var 3)) .nil))))))⟩
abbrev dQ(f_law_raw:Nat):Ss :=
 (.cons (.app 4 (.bin .mod (.var 3) (.var 5))) (.cons (.asg 3 (.bin .fdiv (.var 3) (.var 5))) .nil))
abbrev cT(f_law_raw:Nat):Fn :=
 ⟨3,6,[4],[],(.cons (.asg 3 (.call f_law_raw (.cons (.var 0) (.cons (.var 1) .nil)))) (.cons (.own 4 (.lst .nil)) (.cons (.forr [5] (.seq (.var 2)) (dQ f_law_raw)) (.cons (.ret (.var 4)) .nil))))⟩
abbrev bY(f_law_digits:Nat):Ss :=
 (.cons (.ife (.cmp .lt (.var 2) (.cst (.int 2))) (.cons (.ret (.lst .nil)) .nil) .nil) (.cons (.asg 8 (.bin .mod (.var 7) (.bin .sub (.var 2) (.cst (.int 1))))) (.cons (.ife (.and (.cmp .ne (.var 4) (.lst .nil)) (.cmp .eq (.bin .mod (.var 7) (.cst (.int 3))) (.cst (.int 1)))) (.cons (.asg 8 (.min (.bin .sub (.var 2) (.cst (.int 2))) (.max (.cst (.int 0)) (.bin .add (.ix (.var 4) (.neg (.cst (.int 1)))) (.ix (.lst (.cons (.cst (.int 1)) (.cons (.neg (.cst (.int 1))) (.cons (.cst (.int 0)) .nil)))) (.bin .mod (.bin .mod (.var 7) (.cst (.int 7))) (.cst (.int 3)))))))) .nil) .nil) (.cons (.app 4 (.var 8)) .nil))))
abbrev eK(f_law_digits:Nat):Ss :=
 (.cons (.asg 6 (.call f_law_digits (.cons (.var 0) (.cons (.bin .add (.var 1) (.bin .fdiv (.var 5) (.cst (.int 12)))) (.cons (.bin .mul (.lst (.cons (.cst (.int 97)) .nil)) (.cst (.int 12))) .nil))))) (.cons (.forr [7] (.seq (.slT (.var 6) (.bin .sub (.var 3) (.var 5)))) (bY f_law_digits)) .nil))
abbrev d7(f_law_digits:Nat):Fn :=
 ⟨4,9,[4],[],(.cons (.own 4 (.lst .nil)) (.cons (.forr [5] (.rng3 (12) (.cst (.int 0)) (.var 3)) (eK f_law_digits)) (.cons (.ret (.var 4)) .nil)))⟩
end RT
namespace M
abbrev hg(l r:Nat)(g:Nat->Nat):Nat->Nat:=fun x=>if g l=r then g x else if x=r then l else if x=l then r else if x=g r then g l else if x=g l then g r else g x
abbrev rg(l r:Nat)(g:Nat->Nat):Nat:=if g l=r then 1 else 0
section
def eE(e:g l=r):hg l r g=g:=by funext x;unfold hg;rw[if_pos e]
def qY(hlr:l≠r):hg l r g l=r:=by unfold hg;grind
def vt(hlr:l≠r)(h:∀ x,g (g x)=x)(n1:g l≠l)(n2:g r≠r)(x:Nat):hg l r g (hg l r g x)=x:=by
 by_cases e:g l=r
 ·rw[eE e];exact h x
 ·have k:∀ y,hg l r g y=if y=r then l else if y=l then r else if y=g r then g l else if y=g l then g r else g y:=fun y=>by unfold hg;rw[if_neg e]
  rw[k x,k];grind
def qz(hlr:l≠r)(h:∀ x,g (g x)=x)(n1:g l≠l)(n2:g r≠r)(nx:g x≠x):hg l r g x≠x:=by
 unfold hg;grind
def up1(h1:l≠r)(h2:r≠s)(h3:l≠s)(h:∀ x,g (g x)=x)(e:g l=r)(n3:g s≠s):hg l r (hg r s g)=g/\rg r s g=0/\rg l r (hg r s g)=0:=by
 have e2:g r=l:=by rw[<-e,h]
 have k:hg r s g=fun x=>if x=s then r else if x=r then s else if x=g s then l else if x=l then g s else g x:=by
  funext x;unfold hg;rw[if_neg (by rw[e2];exact h3),e2]
 have kl:hg r s g l=g s:=by rw[k];grind
 have kr:hg r s g r=s:=by rw[k];grind
 refine⟨?_,?_,?_⟩
 ·funext x;unfold hg;grind
 ·unfold rg;grind
 ·unfold rg;grind
def dn1(h1:l≠r)(h2:r≠s)(h3:l≠s)(h:∀ x,g (g x)=x)(e:g l=r)(n3:g s≠s):hg l r (hg s l g)=g/\rg s l g=0/\rg l r (hg s l g)=0:=by
 have e2:g r=l:=by rw[<-e,h]
 have ns:g s≠l:=fun z=>by rw[<-e2]at z;have:=congrArg g z;rw[h,h]at this;exact h2 this.symm
 have k:hg s l g=fun x=>if x=l then s else if x=s then l else if x=r then g s else if x=g s then r else g x:=by
  funext x;unfold hg;rw[if_neg ns,e]
 have kl:hg s l g l=s:=by rw[k];grind
 have kr:hg s l g r=g s:=by rw[k];grind
 refine⟨?_,?_,?_⟩
 ·funext x;unfold hg;grind
 ·unfold rg;grind
 ·unfold rg;grind
def far(h1:l≠r)(h2:p≠q)(d1:l≠p)(d2:l≠q)(d3:r≠p)(d4:r≠q)(h:∀ x,g (g x)=x)(n1:g l≠l)(n2:g r≠r)(n3:g p≠p)(n4:g q≠q):hg l r (hg p q g)=hg p q (hg l r g)/\rg p q g+rg l r (hg p q g)=rg l r g+rg p q (hg l r g):=by
 by_cases e1:g l=r
 ·rw[eE e1]
  have k:hg p q g l=r:=by unfold hg;grind
  rw[eE k];refine⟨rfl,?_⟩;unfold rg;rw[k,e1];omega
 ·by_cases e2:g p=q
  ·rw[eE e2]
   have k:hg l r g p=q:=by unfold hg;grind
   rw[eE k];refine⟨rfl,?_⟩;unfold rg;rw[k,e2];omega
  ·have k1:∀ y,hg l r g y=if y=r then l else if y=l then r else if y=g r then g l else if y=g l then g r else g y:=fun y=>by unfold hg;rw[if_neg e1]
   have k2:∀ y,hg p q g y=if y=q then p else if y=p then q else if y=g q then g p else if y=g p then g q else g y:=fun y=>by unfold hg;rw[if_neg e2]
   by_cases c:(g l=p/\g r=q)\/(g l=q/\g r=p)
   ·have a1:hg p q g l=r:=by rw[k2];grind
    have a2:hg l r g p=q:=by rw[k1];grind
    rw[eE a1,eE a2];refine⟨?_,?_⟩
    ·funext x;rw[k1,k2];grind
    ·unfold rg;rw[a1,a2,if_neg e1,if_neg e2];simp
   ·have a1:hg p q g l≠r:=by rw[k2];grind
    have a2:hg l r g p≠q:=by rw[k1];grind
    refine⟨?_,?_⟩
    ·funext x
     have b1:∀ y,hg l r (hg p q g) y=if y=r then l else if y=l then r else if y=hg p q g r then hg p q g l else if y=hg p q g l then hg p q g r else hg p q g y:=fun y=>by
      show(if hg p q g l=r then _ else _)=_;rw[if_neg a1]
     have b2:∀ y,hg p q (hg l r g) y=if y=q then p else if y=p then q else if y=hg l r g q then hg l r g p else if y=hg l r g p then hg l r g q else hg l r g y:=fun y=>by
      show(if hg l r g p=q then _ else _)=_;rw[if_neg a2]
     rw[b1,b2,k2 r,k2 l,k2 x,k1 q,k1 p,k1 x];by_cases x1:x=r
     ·grind
     ·by_cases x2:x=l
      ·grind
      ·by_cases x3:x=q
       ·grind
       ·by_cases x4:x=p
        ·grind
        ·by_cases y1:g l=p<;>by_cases y2:g l=q<;>by_cases y3:g r=p<;>by_cases y4:g r=q<;>grind (splits:=20)
    ·unfold rg;rw[if_neg a1,if_neg a2,if_neg e1,if_neg e2]
end
end M
namespace RL
abbrev evF(cl:Cl)(fn:Fn)(ds:List D):Option D:=if ds.length=fn.ps then(aw cl fn.M fn.body (ds.map some++List.replicate (fn.nn-fn.ps) none)).bind fun p=>match p.1 with
  | .nx=>bp fn .non p.2
  | .rt d=>bp fn d p.2
  else none
def aA(h:T[f]?=some fn):a5 T (n+1) f ds=evF (a5 T n) fn ds:=by
 rw[a5,h];rfl
abbrev L(xs:List Nat):List D:=xs.map fun(i:Nat)=>.int (i:Int)
def mM(I:List D->St->Prop):∀ (ds done:List D) (σ:St),(∀ pre d post σ,done++ds=pre++d::post->I pre σ->d.imm=true/\∃ σ2,(bP tg d σ).bind f=some (.nx,σ2)/\I (pre++[d]) σ2)->I done σ->∃ σ',bG f tg ds σ=some (.nx,σ')/\I (done++ds) σ'
 | [],done,σ,_,h=>⟨σ,rfl,by simpa using h⟩
 | d::ds,done,σ,hs,h=>by
  obtain⟨im,σ2,h1,h3⟩:=hs done d ds σ rfl h;obtain⟨σ',h4,h5⟩:=mM I ds (done++[d]) σ2 (fun pre e post σ he=>hs pre e post σ (by simpa using he)) h3;refine⟨σ',?_,by simpa using h5⟩;rw[bG,if_pos im]
  cases hb:bP tg d σ with
  | none=>rw[hb]at h1;cases h1
  |some σ1=>
   rw[hb]at h1;simp only[Option.bind_some]at h1 ⊢;rw[h1];exact h4
def tL(I:List D->St->Prop)(h0:I [] σ)(hs:∀ pre d post σ,ds=pre++d::post->I pre σ->d.imm=true/\∃ σ2,(bP tg d σ).bind f=some (.nx,σ2)/\I (pre++[d]) σ2):∃ σ',bG f tg ds σ=some (.nx,σ')/\I ds σ' :=
 mM I ds [] σ (by simpa using hs) h0
@[simp] theorem tf_lst:a6 (.lst a)=true:=rfl
@[simp] theorem tf_tup:a6 (.tup a)=true:=rfl
@[simp] theorem tf_comp:a6 (.comp a b c d)=true:=rfl
@[simp] theorem tf_compA:a6 (.compA a b c)=true:=rfl
@[simp] theorem tf_bin:a6 (.bin a b c)=true:=rfl
@[simp] theorem tf_slT:a6 (.slT a b)=true:=rfl
@[simp] theorem tf_slF:a6 (.slF a b)=true:=rfl
@[simp] theorem tf_call:a6 (.call a b)=true:=rfl
@[simp] theorem tf_bi:a6 (.bi a b)=true:=rfl
@[simp] theorem tf_rng1:a6 (.rng1 a)=true:=rfl
@[simp] theorem tf_rng2:a6 (.rng2 a b)=true:=rfl
@[simp] theorem tf_rng3:a6 (.rng3 a b c)=true:=rfl
end RL
namespace RM
open RL RT
section basics
def jk:aY .lt (.int a) (.int b)=some (decide (a<b)):=rfl
def vZ:aY .le (.int a) (.int b)=some (decide (a<=b)):=rfl
def xh:aY .gt (.int a) (.int b)=some (decide (b<a)):=rfl
def xA:aY .ge (.int a) (.int b)=some (decide (b<=a)):=rfl
def nJ:aY .eq (.int a) (.int b)=some (a == b):=rfl
def zZ:aY .ne (.int a) (.int b)=some (!(a == b)):=rfl
def cv:aI .add (.int a) (.int b)=some (.int (a+b)):=rfl
def gX:aI .sub (.int a) (.int b)=some (.int (a-b)):=rfl
def cH(h:0<b):aI .mod (.int a) (.int b)=some (.int (a%b)):=zJ.trans (if_pos h)
def oi(h:0<b)(h':b<2 ^ 200):aI .fdiv (.int a) (.int b)=some (.int (a / b)):=zG.trans (if_pos ⟨h,h'⟩)
def dH(h1:-(2 ^ 64)<a)(h2:a<2 ^ 64):aI .mul (.int a) (.int b)=some (.int (a*b)):=rm.trans (if_pos (.inl ⟨h1,h2⟩))
def o4(h1:-(2 ^ 64)<b)(h2:b<2 ^ 64):aI .mul (.int a) (.int b)=some (.int (a*b)):=rm.trans (if_pos (.inr ⟨h1,h2⟩))
def qW(k:Bool):truth (.bl k)=some k:=rfl
end basics
def uZ(h:L xs=pre++d::post):∃ p x q,xs=p++x::q/\pre=L p/\d=.int (x:Nat)/\post=L q:=by
 unfold L at h;obtain⟨p,r,rfl,h1,h2⟩:=List.map_eq_append_iff.mp h;obtain⟨x,q,rfl,h3,h4⟩:=List.map_eq_cons_iff.mp h2;exact⟨p,x,q,rfl,h1.symm,h3.symm,h4.symm⟩
def mZ:∀ {a b:List Nat},L a=L b->a=b
 | [],[],_=>rfl
 | [],_::_,h=>by simp[L]at h
 | _::_,[],h=>by simp[L]at h
 | x::a,y::b,h=>by
  unfold L at h;rw[List.map_cons,List.map_cons,List.cons.injEq]at h
  have h1:(x:Int)=y:=by injection h.1
  rw[mZ (a:=a) (b:=b) h.2,Int.ofNat_inj.mp h1]
def dI(I:List Nat->St->Prop)(h0:I [] σ)(hs:∀ p x q σ,xs=p++x::q->I p σ->∃ σ2,(bP tg (.int (x:Nat)) σ).bind f=some (.nx,σ2)/\I (p++[x]) σ2):∃ σ',bG f tg (L xs) σ=some (.nx,σ')/\I xs σ':=by
 obtain⟨σ',e,p,hp,hi⟩:=tL (f:=f) (tg:=tg) (ds:=L xs) (σ:=σ) (fun pre σ=>∃ p,pre=L p/\I p σ) ⟨[],rfl,h0⟩ (by
  rintro pre d post σ hd ⟨p',hp',hi⟩;obtain⟨p,x,q,rfl,rfl,rfl,rfl⟩:=uZ hd;have:=mZ hp';subst this;obtain⟨σ2,h1,h2⟩:=hs p x q σ rfl hi
  exact⟨rfl,σ2,h1,p++[x],by simp[L],h2⟩)
 have:=mZ hp;subst this;exact⟨σ',e,hi⟩
def cI(xs:List Nat):(L xs).length=xs.length:=by simp[L]
def so(xs:List Nat)(i:Nat):(L xs)[i]?=(xs[i]?).map fun(i:Nat)=>.int (i:Int):=by simp[L]
def yg(xs:List Nat)(i j:Nat):(L xs).set i (.int j)=L (xs.set i j):=by simp[L,List.map_set]
def bg:∀ xs:List Nat,ao (L xs)=true
 | []=>rfl
 | x::xs=>by
  show((D.int x).imm&&ao (L xs))=true;rw[bg xs];rfl
def iC(xs ys:List Nat):L (xs++ys)=L xs++L ys:=by simp[L]
def iA(xs:List α)(i:Nat):bq xs (i:Int)=xs[i]?:=by
 unfold bq;rw[if_pos (Int.natCast_nonneg i)];rfl
def iy(a:Nat):∀ n:Nat,bx (a:Int) n=L (List.range' a n)
 | 0=>rfl
 | n+1=>by
  rw[bx,List.range'_succ];have:=iy (a+1) n;rw[show((a+1:Nat):Int)=(a:Int)+1 by lia]at this;rw[this];rfl
def jH{a b:Nat}(h1:a<=1000)(h2:b<=1000):cw (.int a) (.int b)=some (L (List.range' a (b-a))):=by
 dsimp only[cw]
 have:((b:Int)-a).toNat=b-a:=by lia
 rw[if_pos ⟨by unfold most;lia,by lia,by lia,by lia,by lia⟩,this,iy]
section
def kn(i:Int):evF cl ff [.int i]=some (.bl true):=rfl
def i5(h:∀ i:Int,cl f [.int i]=some (.bl true))(i:Int):evF cl (c9 f) [.int i]=some (.bl (decide (1<=i/\i<=10))):=by
 simp[evF,c9,aw,cY,eU,cX,gQ,cQ,yq,bS,evs,h,vZ,bD,D.imm,bp];by_cases h1:1<=i<;>simp[h1,bD,D.imm,bp]
def jB(h:cl f [.int i]=some (.bl true)):evF cl (df f) [.int i]=some .non:=by
 simp[evF,df,aw,dX,vW,cX,sP,bS,evs,h,truth,bp]
def ur(xs:List Nat)(hi:i<xs.length)(hj:j<xs.length):evF cl ku [.lst (L xs),.int i,.int j]=some (.tup [.non,.lst (L ((xs.set i j).set j i))]):=by
 simp[evF,ku,aw,yF,bS,evs,yZ,lP,hi,hj,D.imm,bp,dh,cI,yg]
def lZ(xs:List D):evF cl gj [.lst xs]=some (.int (xs.length / 2)):=rfl
abbrev aO(n:Nat):List Nat:=List.range' n n++List.range' 0 n
def run_plain{f:Nat}{n:Nat}(hn:n<=10)(h:cl f [.int n]=some .non):evF cl (gE f) [.int n]=some (.tup (L (aO n))):=by
 have e1:=jH (a:=n) (b:=2*n) (by lia) (by lia);rw[show 2*n-n=n by lia,show((2*n:Nat):Int)=2*(n:Int) by lia]at e1;have e2:=jH (a:=0) (b:=n) (by lia) (by lia);rw[Nat.sub_zero]at e2
 have e3:aI .mul (.int 2) (.int n)=some (.int (2*n)):=by
  rw[rm];rw[if_pos (by lia)]
 have e4:aI .add (.lst (L (List.range' n n))) (.lst (L (List.range' 0 n)))=some (.lst (L (aO n))):=by
  rw[nT];rw[if_pos (by simp[cI,most];lia),aO,iC]
 simp only[Int.natCast_zero]at e2;simp[evF,gE,aw,sZ,cY,vz,dz,cQ,vx,vM,bS,cX,evs,h,e1,e2,e3,e4,zr,ze,items,bD,D.imm,bg,bp]
def lY(h:∀ i:Int,cl f [.int i]=some (.bl true))(n i:Int):evF cl (eR f) [.int n,.int i]=some (.bl (decide (0<=i/\i<=n-2))):=by
 simp[evF,eR,aw,cY,eU,dz,cX,gQ,cQ,bS,evs,h,vZ,gX];by_cases h1:0<=i<;>simp[h1,bD,D.imm,bp]
abbrev at'(f:List Nat)(x:Nat):Nat:=(f[x]?).getD x
abbrev aG(f:List Nat)(l:Nat):List Nat:=if at' f l=l+1 then f else(((f.set (at' f l) (at' f (l+1))).set (at' f (l+1)) (at' f l)).set l (l+1)).set (l+1) l
abbrev bT(f:List Nat)(l:Nat):Nat:=if at' f l=l+1 then 1 else 0
structure Frm(n:Nat)(f:List Nat):Prop where
 len:f.length=2*n
 lt:∀ x,x<2*n->at' f x<2*n
 inv:∀ x,at' f (at' f x)=x
 no:∀ x,x<2*n->at' f x≠x
def hX(h:x<f.length):f[x]?=some (at' f x):=by simp[at',h]
def iL(h:i<f.length):at' (f.set i j) x=if x=i then j else at' f x:=by
 unfold at';rw[List.getElem?_set];by_cases e:i=x
 ·subst e;simp[h]
 ·simp[e,Ne.symm e]
def bh(F:Frm n f)(hl:l+1<2*n):at' (aG f l)=M.hg l (l+1) (at' f):=by
 funext x;unfold aG M.hg;have a1:=F.lt l (by lia);have a2:=F.lt (l+1) hl;have hlen:=F.len;by_cases e:at' f l=l+1
 ·rw[if_pos e,if_pos e]
 ·rw[if_neg e,if_neg e,iL (by simp;lia),iL (by simp;lia),iL (by simp;lia),iL (by lia)]
def sh:(aG f l).length=f.length:=by
 unfold aG;split
 ·rfl
 ·simp
def bL(F:Frm n f)(hl:l+1<2*n):Frm n (aG f l):=by
 have n1:=F.no l (by lia);have n2:=F.no (l+1) hl;refine⟨by rw[sh];exact F.len,fun x hx=>?_,fun x=>?_,fun x hx=>?_⟩
 ·rw[bh F hl];unfold M.hg;have a1:=F.lt l (by lia);have a2:=F.lt (l+1) hl;have a3:=F.lt x hx
  repeat' split
  all_goals lia
 ·rw[bh F hl];exact M.vt (by lia) F.inv n1 n2 x
 ·rw[bh F hl];exact M.qz (by lia) F.inv n1 n2 (F.no x hx)
def lh(F:f.length=2*n)(G:g.length=2*n)(h:at' f=at' g):f=g:=by
 apply List.ext_getElem?;intro i;by_cases hi:i<2*n
 ·rw[hX (by lia),hX (by lia),h]
 ·rw[List.getElem?_eq_none (by lia),List.getElem?_eq_none (by lia)]
def km(F:Frm n f)(hi:i+1<n)(hp:∀ xs:List D,cl f_pegs [.lst xs]=some (.int (xs.length / 2)))
 (ht:∀ (xs:List Nat) (i j:Nat),i<xs.length->j<xs.length->cl f_tie [.lst (L xs),.int i,.int j]=some (.tup [.non,.lst (L ((xs.set i j).set j i))])) :
  evF cl (cD f_tie f_pegs) [.lst (L f),.int i]=some (.tup [.int (bT f (n+i)),.lst (L (aG f (n+i)))]):=by
 have hlen:=F.len
 have h2:((2*n:Nat):Int) / 2=n:=by lia
 have g1:((L f).length:Int) / 2=n:=by rw[cI,hlen];exact h2
 have hl:n+i+1<2*n:=by lia
 have k1:f[n+i]?=some (at' f (n+i)):=hX (by lia);have k2:f[n+i+1]?=some (at' f (n+i+1)):=hX (by lia)
 have p1:∀ k:Nat,bq (L f) ((n:Int)+(k:Int))=(f[n+k]?).map fun(i:Nat)=>.int (i:Int):=fun k=>by
  have:=iA (L f) (n+k);rw[show((n+k:Nat):Int)=(n:Int)+(k:Int) by lia]at this;rw[this,so]
 have p2:=p1 (i+1);rw[show(n:Int)+((i+1:Nat):Int)=(n:Int)+(i:Int)+1 by lia,show n+(i+1)=n+i+1 by lia]at p2;have a1:=F.lt (n+i) (by lia);have a2:=F.lt (n+i+1) hl;have t1:=ht f (at' f (n+i)) (at' f (n+i+1)) (by lia) (by lia);have t2:=ht ((f.set (at' f (n+i)) (at' f (n+i+1))).set (at' f (n+i+1)) (at' f (n+i))) (n+i) (n+i+1) (by simp;lia) (by simp;lia);rw[show((n+i:Nat):Int)=(n:Int)+(i:Int) by lia,show((n+i+1:Nat):Int)=(n:Int)+(i:Int)+1 by lia]at t2;by_cases e:at' f (n+i)=n+i+1
 ·have e':((at' f (n+i):Nat):Int)=(n:Int)+(i:Int)+1:=by lia
  simp[evF,cD,aw,ee,dX,pk,cY,dz,hW,cQ,jg,bS,cX,evs,hp,g1,cv,aU,D.imm,qX,p1,p2,k1,k2,nJ,truth,e',bD,bp,dh,bT,aG,e]
 ·have e':¬ ((at' f (n+i):Nat):Int)=(n:Int)+(i:Int)+1:=by lia
  simp[evF,cD,aw,ee,dX,pk,cY,dz,hW,cQ,jg,bS,cX,evs,hp,g1,cv,aU,D.imm,qX,p1,p2,k1,k2,nJ,truth,e',bD,bp,dh,bT,aG,e,cE,isVar,t1,t2,xZ,vB]
end
section
abbrev hangs(n:Nat):List Nat->List Nat × Nat->List Nat × Nat
 | [],s=>s
 | i::row,s=>hangs n row (aG s.1 (n+i),s.2+bT s.1 (n+i))
def bU(n:Nat):∀ (a b:List Nat) (s:List Nat × Nat),hangs n (a++b) s=hangs n b (hangs n a s)
 | [],_,_=>rfl
 | i::a,b,s=>by
  rw[List.cons_append,hangs,hangs,bU n a b]
def cq(n:Nat):∀ (row:List Nat) (f:List Nat) (r:Nat),hangs n row (f,r)=((hangs n row (f,0)).1,r+(hangs n row (f,0)).2)
 | [],_,_=>rfl
 | i::row,f,r=>by
  rw[hangs,hangs,cq n row _ (r+_),cq n row _ (0+_)];simp only[Nat.zero_add,Nat.add_assoc]
def gx:∀ {row:List Nat} {s:List Nat × Nat},(∀ i∈row,i+1<n)->Frm n s.1->Frm n (hangs n row s).1
 | [],_,_,F=>F
 | i::row,s,h,F=>by
  rw[hangs];have:=h i List.mem_cons_self;exact gx (fun j hj=>h j (List.mem_cons_of_mem _ hj)) (bL F (by lia))
def plain_at(n x:Nat):at' (aO n) x=if x<n then n+x else if x<2*n then x-n else x:=by
 unfold at' aO;by_cases h1:x<n
 ·rw[List.getElem?_append_left (by simpa using h1),if_pos h1];simp[h1]
 ·rw[List.getElem?_append_right (by simpa using h1),if_neg h1];by_cases h2:x<2*n
  ·rw[if_pos h2];simp[show x-n<n by lia]
  ·rw[if_neg h2];simp[show ¬ x-n<n by lia]
def jS(n:Nat):Frm n (aO n):=by
 refine⟨by simp[aO];lia,fun x hx=>?_,fun x=>?_,fun x hx=>?_⟩
 ·rw[plain_at];repeat' split
  all_goals lia
 ·rw[plain_at,plain_at];repeat' split
  all_goals lia
 ·rw[plain_at];repeat' split
  all_goals lia
end
end RM
namespace RL
section
def cC:aw cl M .nil σ=some (.nx,σ):=by rw[aw]
def d9(h:evS cl M s σ=some (.nx,σ'))(k:aw cl M r σ'=res):aw cl M (.cons s r) σ=res:=by
 rw[aw,h];exact k
def sU(h:evS cl M s σ=some (.rt d,σ')):aw cl M (.cons s r) σ=some (.rt d,σ'):=by
 rw[aw,h];rfl
def bb(h:ev cl σ e=some d)(ok:aU M e d=true)(k:aw cl M r (σ.set i (some d))=res):aw cl M (.cons (.asg i e) r) σ=res :=
 d9 (by rw[ee,h];show(if aU M e d=true then _ else _)=_;rw[if_pos ok]) k
def yc(h:ev cl σ e=some d)(ok:(aH d&&a6 e)=true)(k:aw cl M r (σ.set i (some d))=res):aw cl M (.cons (.own i e) r) σ=res :=
 d9 (by rw[n5,h];show(if(aH d&&a6 e)=true then _ else _)=_;rw[if_pos ok]) k
def lD(h:ev cl σ e=some d)(k:aw cl M r σ=res):aw cl M (.cons (.exc e) r) σ=res :=
 d9 (by rw[sZ,h];rfl) k
def aD(h:ev cl σ e=some d)(ok:bD M e d=true):aw cl M (.cons (.ret e) r) σ=some (.rt d,σ) :=
 sU (by rw[cY,h];show(if bD M e d=true then _ else _)=_;rw[if_pos ok])
def oy(h:(ev cl σ t).bind truth=some true)(h1:aw cl M a σ=some (.nx,σ'))(k:aw cl M r σ'=res):aw cl M (.cons (.ife t a b) r) σ=res :=
 d9 (by rw[dX,h];exact h1) k
def bJ(h:(ev cl σ t).bind truth=some true)(h1:aw cl M a σ=some (.rt d,σ')):aw cl M (.cons (.ife t a b) r) σ=some (.rt d,σ') :=
 sU (by rw[dX,h];exact h1)
def yb(h:(ev cl σ t).bind truth=some false)(h1:aw cl M b σ=some (.nx,σ'))(k:aw cl M r σ'=res):aw cl M (.cons (.ife t a b) r) σ=res :=
 d9 (by rw[dX,h];exact h1) k
def ax(h:(ev cl σ t).bind truth=some false)(k:aw cl M r σ=res):aw cl M (.cons (.ife t a .nil) r) σ=res:=yb h cC k
def eD(h:ev cl σ e=some d)(hd:items d=some ds)(im:ao ds=true)(hs:ba is ds σ=some σ')(k:aw cl M r σ'=res):aw cl M (.cons (.unp is e) r) σ=res :=
 d9 (by rw[yM,h,Option.bind_some,hd];show(if ao ds=true then _ else _)=_;rw[if_pos im,hs];rfl) k
def xH(h:ev cl σ e=some x)(h':ev cl σ e'=some y)(im:(x.imm&&y.imm)=true)(k:aw cl M r ((σ.set i (some x)).set j (some y))=res):aw cl M (.cons (.par i j e e') r) σ=res :=
 d9 (by rw[yB,h,Option.bind_some,h'];show(if(x.imm&&y.imm)=true then _ else _)=_;rw[if_pos im]) k
def fE(h:bN cl σ it=some ds)(h1:bG (aw cl M b) tg ds σ=some (.nx,σ'))(k:aw cl M r σ'=res):aw cl M (.cons (.forr tg it b) r) σ=res :=
 d9 (by rw[iR,h];exact h1) k
def aa(h:(σ[i]?).bind id=some d):ev cl σ (.var i)=some d:=by rw[bS];exact h
def ag:ev cl σ (.cst d)=some d:=by rw[cQ]
def x_call(h:evs cl σ es=some ds)(hc:cl f ds=some d):ev cl σ (.call f es)=some d:=by rw[cX,h];exact hc
def az:evs cl σ .nil=some []:=by rw[evs]
def ai(h:ev cl σ e=some d)(hr:evs cl σ es=some ds):evs cl σ (.cons e es)=some (d::ds):=by rw[evs,h,Option.bind_some,hr];rfl
def n6(h:ev cl σ e=some d)(hc:cl f [d]=some x):ev cl σ (.call f (.cons e .nil))=some x:=x_call (ai h az) hc
def j7(h:ev cl σ e=some d)(h':ev cl σ e'=some d')(hc:cl f [d,d']=some x):ev cl σ (.call f (.cons e (.cons e' .nil)))=some x:=x_call (ai h (ai h' az)) hc
def dM(h:ev cl σ e=some d)(h':ev cl σ e'=some d')(h'':ev cl σ e''=some d'')(hc:cl f [d,d',d'']=some x):ev cl σ (.call f (.cons e (.cons e' (.cons e'' .nil))))=some x:=x_call (ai h (ai h' (ai h'' az))) hc
def aq(h:ev cl σ e=some x)(h':ev cl σ e'=some y)(hb:aI o x y=some d):ev cl σ (.bin o e e')=some d:=by rw[dz,h,Option.bind_some,h'];exact hb
def a9(h:ev cl σ e=some x)(h':ev cl σ e'=some y)(hb:aY o x y=some k):ev cl σ (.cmp o e e')=some (.bl k):=by rw[hW,h,Option.bind_some,h',Option.bind_some,hb];rfl
def aS(h:ev cl σ e=some x)(h':ev cl σ e'=some y)(hb:ixV x y=some d):ev cl σ (.ix e e')=some d:=by rw[jg,h,Option.bind_some,h'];exact hb
def bC(h:ev cl σ e=some x)(hb:biV o x=some d):ev cl σ (.bi o e)=some d:=by rw[vz,h];exact hb
def cR(h:ev cl σ e=some x)(h':ev cl σ e'=some y)(hb:fS x y=some d):ev cl σ (.slT e e')=some d:=by rw[su,h,Option.bind_some,h'];exact hb
def dR(h:ev cl σ e=some x)(h':ev cl σ e'=some y)(hb:cW x y=some d):ev cl σ (.slF e e')=some d:=by rw[yG,h,Option.bind_some,h'];exact hb
def ky(h:ev cl σ e=some x)(h':ev cl σ e'=some y)(hb:inV x y=some k):ev cl σ (.inn n e e')=some (.bl (if n then !k else k)):=by rw[yl,h,Option.bind_some,h',Option.bind_some,hb];rfl
def yR(h:ev cl σ e=some (.int k)):ev cl σ (.neg e)=some (.int (-k)):=by rw[k9,h];rfl
def gU(h:ev cl σ e=some x)(h':ev cl σ e'=some y)(h'':ev cl σ e''=some z)(b1:aY c x y=some true)(b2:aY c' y z=some k):ev cl σ (.chain c c' e e' e'')=some (.bl k):=by rw[gQ,h,Option.bind_some,h',Option.bind_some,b1,Option.bind_some,if_pos rfl,h'',Option.bind_some,b2];rfl
def la(h:ev cl σ e=some x)(h':ev cl σ e'=some y)(b1:aY c x y=some false):ev cl σ (.chain c c' e e' e'')=some (.bl false):=by rw[gQ,h,Option.bind_some,h',Option.bind_some,b1];rfl
def bw(h:evs cl σ es=some ds):ev cl σ (.lst es)=some (.lst ds):=by rw[fH,h];rfl
def aP(h:evs cl σ es=some ds):ev cl σ (.tup es)=some (.tup ds):=by rw[y9,h];rfl
def bE(h:ev cl σ e=some (.bl true))(h':ev cl σ e'=some d):ev cl σ (.and e e')=some d:=by rw[eU,h];exact h'
def cB(h:ev cl σ e=some (.bl false)):ev cl σ (.and e e')=some (.bl false):=by rw[eU,h];rfl
def et(h:ev cl σ e=some (.bl false))(h':ev cl σ e'=some d):ev cl σ (.or e e')=some d:=by rw[sj,h];exact h'
def yv(h:ev cl σ e=some (.bl true)):ev cl σ (.or e e')=some (.bl true):=by rw[sj,h];rfl
def yk(h:(ev cl σ e).bind truth=some k):ev cl σ (.not e)=some (.bl (!k)):=by rw[sP,h];rfl
def cF(h:ev cl σ e=some (.bl k)):ev cl σ (.not e)=some (.bl (!k)):=yk (by rw[h];rfl)
def aX(h:ev cl σ e=some (.bl k)):(ev cl σ e).bind truth=some k:=by rw[h];rfl
def mQ(h:bN cl σ it=some ds)(hf:ds.length<=most)(hm:cu (fun σ1=>(ev cl σ1 e).map some) tg σ ds=some ys):ev cl σ (.compA e tg it)=some (.lst ys):=by
 rw[uW,h,Option.bind_some,fits,if_pos hf,Option.bind_some,hm];rfl
def yf(h:bN cl σ it=some ds)(hf:ds.length<=most)(hm:cu (fun σ1=>((ev cl σ1 t).bind truth).bind fun k=>if k then(ev cl σ1 e).map some else some none) tg σ ds=some ys):ev cl σ (.comp e tg it t)=some (.lst ys):=by
 rw[wY,h,Option.bind_some,fits,if_pos hf,Option.bind_some,hm];rfl
def l5(h:ev cl σ e=some x)(hr:cw (.int 0) x=some ds):bN cl σ (.rng1 e)=some ds:=by rw[bN,h];exact hr
def lQ(h:ev cl σ e=some x)(hr:gy x=some ds):bN cl σ (.seq e)=some ds:=by rw[bN,h];exact hr
def nQ(h:ev cl σ e=some x)(hr:items x=some ds):bN cl σ (.seq e)=some ds:=lQ h (by
 cases x with
 | lst _=>exact hr
 | tup _=>exact hr
 | fL _=>exact hr
 | _=>cases hr)
def iY(hk:(match x with | .non=>some (D.bl (!n)) | .dK _ _=>none | .dT _ _=>none | .fT _ _=>none | _=>some (.bl n))=some (D.bl k))(h:ev cl σ e=some x):ev cl σ (.isN n e)=some (.bl k):=by rw[yi,h];exact hk
def yP(h:ev cl σ e=some x)(hr:iZ x=some ds):bN cl σ (.enm e)=some (cS 0 ds):=by rw[bN,h,Option.bind_some,hr];rfl
end
def vk:bG f tg [] σ=some (.nx,σ):=rfl
def uR(im:d.imm=true)(hb:bP tg d σ=some σ1)(h:f σ1=some (.nx,σ2))(k:bG f tg r σ2=res):bG f tg (d::r) σ=res:=by
 rw[bG,if_pos im,hb,Option.bind_some,h];exact k
def bu(hl:ds.length=fn.ps)(hm:fn.mp=[])(h:aw cl fn.M fn.body (ds.map some++List.replicate (fn.nn-fn.ps) none)=some (.rt d,σ')):evF cl fn ds=some d:=by
 unfold evF;rw[if_pos hl,h];show bp fn d σ'=_;unfold bp;rw[hm];rfl
def xv(hl:ds.length=fn.ps)(hm:fn.mp=[])(h:aw cl fn.M fn.body (ds.map some++List.replicate (fn.nn-fn.ps) none)=some (.nx,σ')):evF cl fn ds=some .non:=by
 unfold evF;rw[if_pos hl,h];show bp fn .non σ'=_;unfold bp;rw[hm];rfl
end RL
namespace RM
open RL RT
abbrev LI(xs:List Int):List D:=xs.map D.int
def pE(xs:List Int):(LI xs).length=xs.length:=by simp[LI]
def p6:∀ xs:List Int,ao (LI xs)=true
 | []=>rfl
 | x::xs=>by
  show((D.int x).imm&&ao (LI xs))=true;rw[p6 xs];rfl
section
def mod_lt{a b:Int}(h:0<b):0<=a%b/\a%b<b:=⟨Int.emod_nonneg _ (by lia),Int.emod_lt_of_pos _ h⟩
def tR(s:Int):∃ m:Int,evF cl gi [.int s]=some (.int m):=by
 have a1:=mod_lt (a:=s*48271+11) (b:=2147483647) (by decide);generalize h1:(s*48271+11)%2147483647=one at a1;have a2:=mod_lt (a:=one*one+40692*one+s) (b:=2147483399) (by decide);generalize h2:(one*one+40692*one+s)%2147483399=two at a2
 exact⟨_,bu rfl rfl (bb (d:=.int one) (aq (aq (aq (aa rfl) ag (o4 (by decide) (by decide))) ag cv) ag (by rw[cH (by decide),h1])) rfl
  (bb (d:=.int two) (aq (aq (aq (aq (aa rfl) (aa rfl) (dH (by lia) (by lia))) (aq ag (aa rfl) (dH (by decide) (by decide))) cv) (aa rfl) cv) ag (by rw[cH (by decide),h2])) rfl
  (aD (aq (aq (aq (aq (aa rfl) (aa rfl) (dH (by omega) (by omega))) (aq ag (aa rfl) (dH (by decide) (by decide))) cv) (aa rfl) cv) ag (cH (by decide))) rfl)))⟩
def uX{f:Nat}(h:∀ s:Int,∃ m:Int,cl f [.int s]=some (.int m)){ns:List Int}(hl:ns.length<=63){k:Nat}(hk:k<=1000):∃ r:Int,evF cl (gu f) [.lst (LI ns),.int k]=some (.int r):=by
 have pw:aI .pow (.int 10) (.int 18)=some (.int 1000000000000000000):=rfl
 have rest:∀ c:Int,∃ r σ',aw cl [] (.cons (.asg 3 (.cst (.int 0))) (.cons (.forr [4] (.rng1 (.cst (.int 40))) (fG f)) (.cons (.ret (.var 3)) .nil))) [some (.lst (LI ns)),some (.int k),some (.int c),none,none]=some (.rt (.int r),σ'):=by
  intro c;have hr:cw (.int 0) (.int 40)=some (L (List.range' 0 40)):=congrArg some (iy 0 40)
  obtain⟨σ',e,r,o,rfl⟩:=dI (f:=aw cl [] (fG f)) (tg:=[4]) (xs:=List.range' 0 40) (σ:=[some (.lst (LI ns)),some (.int k),some (.int c),some (.int 0),none])
   (fun p σ=>∃ (r:Int) (o:Option D),σ=[some (.lst (LI ns)),some (.int k),some (.int c),some (.int r),o]) ⟨0,none,rfl⟩ (by
    rintro p x q σ hx ⟨r,o,rfl⟩;obtain⟨m,hm⟩:=h (c+1009*k+7919*x)
    exact⟨_,bb (aq (aq (aa rfl) ag (o4 (by decide) (by decide))) (n6 (aq (aq (aa rfl) (aq ag (aa rfl) (dH (by decide) (by decide))) cv) (aq ag (aa rfl) (dH (by decide) (by decide))) cv) hm) cv) rfl cC,_,_,rfl⟩)
  exact⟨r,_,bb ag rfl (fE (l5 ag hr) e (aD (aa rfl) rfl))⟩
 have len:biV .len (.lst (LI ns))=some (.int ns.length):=congrArg (fun n:Nat=>some (D.int n)) (pE ns)
 have first:ev cl [some (.lst (LI ns)),some (.int k),none,none,none] (.bin .add (.bin .mul (.cst (.int 7)) (.var 1)) (.cst (.int 3)))=some (.int (7*k+3)):=aq (aq ag (aa rfl) (dH (by decide) (by decide))) ag cv
 by_cases h0:0<ns.length
 ·have hmod:=mod_lt (a:=(k:Int)) (b:=(ns.length:Int)) (by lia);obtain⟨j,hj⟩:=Int.eq_ofNat_of_zero_le hmod.1
  have hjl:j<ns.length:=by lia
  have ix:ixV (.lst (LI ns)) (.int ((k:Int)%ns.length))=some (.int ns[j]):=by
   show bq (LI ns) _=_;rw[hj,iA];simp[LI,hjl]
  obtain⟨r,σ',hr⟩:=rest (ns[j]+9973*((k:Int) / ns.length));generalize hc:ns[j]+9973*((k:Int) / ns.length)=cell at hr
  have cel:∀ {r':Ss} {res:Option (Out × St)},aw cl [] r' [some (.lst (LI ns)),some (.int k),some (.int cell),none,none]=res->aw cl [] (.cons (.asg 2 (.bin .add (.bin .mul (.cst (.int 7)) (.var 1)) (.cst (.int 3)))) (.cons (.ife (.cmp .gt (.bi .len (.var 0)) (.cst (.int 0))) (.cons (.asg 2 (.bin .add (.ix (.var 0) (.bin .mod (.var 1) (.bi .len (.var 0)))) (.bin .mul (.cst (.int 9973)) (.bin .fdiv (.var 1) (.bi .len (.var 0)))))) .nil) .nil) r')) [some (.lst (LI ns)),some (.int k),none,none,none]=res:=fun z =>
   bb first rfl (oy (aX (a9 (bC (aa rfl) len) ag (by rw[xh,decide_eq_true (by lia)]))) (bb (d:=.int cell) (aq (aS (aa rfl) (aq (aa rfl) (bC (aa rfl) len) (cH (by lia))) ix) (aq ag (aq (aa rfl) (bC (aa rfl) len) (oi (by lia) (by lia))) (dH (by decide) (by decide))) (by rw[cv,hc])) rfl cC) z)
  by_cases h1:k<ns.length
  ·have c1:aY .lt (.int (k:Nat)) (.int (ns.length:Nat))=some true:=by rw[jk,decide_eq_true (by lia)]
   by_cases h2:(1000000000000000000:Int)<=cell
   ·exact⟨_,bu rfl rfl (cel (bJ (aX (bE (a9 (aa rfl) (bC (aa rfl) len) c1) (a9 (aa rfl) (aq ag ag pw) (by rw[xA,decide_eq_true h2])))) (aD (aq (aa rfl) (aq ag ag pw) gX) rfl)))⟩
   ·exact⟨r,bu rfl rfl (cel (ax (aX (bE (a9 (aa rfl) (bC (aa rfl) len) c1) (a9 (aa rfl) (aq ag ag pw) (by rw[xA,decide_eq_false h2])))) hr))⟩
  ·exact⟨r,bu rfl rfl (cel (ax (aX (cB (a9 (aa rfl) (bC (aa rfl) len) (by rw[jk,decide_eq_false (by lia)])))) hr))⟩
 ·obtain⟨r,σ',hr⟩:=rest (7*k+3);exact⟨r,bu rfl rfl (bb first rfl (ax (aX (a9 (bC (aa rfl) len) ag (by rw[xh,decide_eq_false (by lia)]))) (ax (aX (cB (a9 (aa rfl) (bC (aa rfl) len) (by rw[jk,decide_eq_false (by lia)])))) hr)))⟩
end
section
abbrev gz(ds sizes:List Nat):Prop:=ds.length=sizes.length/\∀ (i d s:Nat),ds[i]?=some d->sizes[i]?=some s->d<s
def gz.snoc(h:gz ds sizes)(hd:d<s):gz (ds++[d]) (sizes++[s]):=by
 refine⟨by simp[h.1],fun i x y h1 h2=>?_⟩;by_cases hi:i<ds.length
 ·rw[List.getElem?_append_left hi]at h1;rw[List.getElem?_append_left (by rw[<-h.1];exact hi)]at h2;exact h.2 i x y h1 h2
 ·rw[List.getElem?_append_right (by lia)]at h1;rw[List.getElem?_append_right (by rw[<-h.1];lia)]at h2;rw[h.1]at h1
  cases hk:i-sizes.length with
  | zero=>rw[hk]at h1 h2;simp at h1 h2;lia
  | succ k=>rw[hk]at h1;simp at h1
def nt(h:cl f [scr,.int k]=some (.int r))(hp:∀ s∈sizes,0<s/\s<2 ^ 200)(hlen:sizes.length<=1000):∃ ds:List Nat,gz ds sizes/\evF cl (cT f) [scr,.int k,.lst (L sizes)]=some (.lst (L ds)):=by
 obtain⟨σ',e,r',ds,o,hds,rfl⟩:=dI (f:=aw cl [4] (dQ f)) (tg:=[5]) (xs:=sizes) (σ:=[some scr,some (.int k),some (.lst (L sizes)),some (.int r),some (.lst []),none])
  (fun p σ=>∃ (r:Int) (ds:List Nat) (o:Option D),gz ds p/\σ=[some scr,some (.int k),some (.lst (L sizes)),some (.int r),some (.lst (L ds)),o]) ⟨r,[],none,⟨rfl,by simp⟩,rfl⟩ (by
   rintro p x q σ hx ⟨r,ds,o,hds,rfl⟩;have hx0:=hp x (by rw[hx];simp)
   have hpl:p.length<1000:=by
    have:=congrArg List.length hx;simp at this;lia
   have hx1:(0:Int)<x:=by lia
   have hx2:(x:Int)<2 ^ 200:=by
    have:=hx0.2;lia
   obtain⟨d,hd⟩:=Int.eq_ofNat_of_zero_le (Int.emod_nonneg r (show(x:Int)≠0 by lia))
   have hdx:d<x:=by
    have:=Int.emod_lt_of_pos r hx1;lia
   refine⟨[some scr,some (.int k),some (.lst (L sizes)),some (.int (r / x)),some (.lst (L (ds++[d]))),some (.int x)],?_,_,_,_,hds.snoc hdx,rfl⟩
   have hl:(L ds).length<most:=by
    rw[cI,hds.1];unfold most;lia
   simp[fh,dQ,aw,kz,ee,dz,bS,cH hx1,oi hx1 hx2,hd,D.imm,hl,aU,iC]
   rfl)
 refine⟨ds,hds,?_⟩;simp[evF,cT,aw,ee,iR,n5,cY,fH,bS,cX,evs,bN,items,h,aU,D.imm,aH,ao];simp[e,bD,aH,bg,bp]
end
section
def lR(c:Nat):∀ (n a:Nat),bB (c:Int) (a:Int) n=L (List.range' a n c)
 | 0,a=>rfl
 | n+1,a=>by
  rw[bB,List.range'_succ];have:=lR c n (a+c);rw[show((a+c:Nat):Int)=(a:Int)+(c:Int) by lia]at this;rw[this];rfl
def ne_nil(hs:List Nat):aY .ne (.lst (L hs)) (.lst [])=some (!hs.isEmpty):=by
 cases hs with
 | nil=>rfl
 |cons h t=>
  show((eqs (eqD 7) (D.int h::L t) []).map fun k=>k&&(D.int h::L t).length == ([]:List D).length).map not=_;simp[eqs]
def uD(h:hs≠[]):∃ m,m∈hs/\bq (L hs) (-1)=some (.int (m:Nat)):=by
 have hl:0<hs.length:=List.length_pos_iff.mpr h;refine⟨hs[hs.length-1],List.getElem_mem _,?_⟩;unfold bq;rw[if_neg (by decide),if_pos (by rw[cI];lia),cI,show((-1:Int)+hs.length).toNat=hs.length-1 by lia,so,List.getElem?_eq_getElem (by omega)];rfl
def qI(x:Nat):∃ v:Int,(v=1\/v=-1\/v=0)/\bq [D.int 1,D.int (-1),D.int 0] ((x:Int)%7%3)=some (.int v):=by
 have h:x%7%3=0\/x%7%3=1\/x%7%3=2:=by lia
 have e:(x:Int)%7%3=((x%7%3:Nat):Int):=by lia
 rw[e,iA];rcases h with h | h | h
 ·exact⟨1,.inl rfl,by rw[h];rfl⟩
 ·exact⟨-1,.inr (.inl rfl),by rw[h];rfl⟩
 ·exact⟨0,.inr (.inr rfl),by rw[h];rfl⟩
def nk(hn:2<=n)(hh:∀ h∈hs,h+1<n)(hl:hs.length<10000):∃ m:Nat,m+1<n /\
  (bP [7] (.int (x:Nat)) [some scr,some (.int k),some (.int n),some (.int size),some (.lst (L hs)),some (.int start),some (.lst (L steps)),o7,o8]).bind (aw cl [4] (bY f)) =
   some (.nx,[some scr,some (.int k),some (.int n),some (.int size),some (.lst (L (hs++[m]))),some (.int start),some (.lst (L steps)),some (.int x),some (.int m)]):=by
 have hlen:(L hs).length<most:=by rw[cI];unfold most;lia
 have c1:¬ (n:Int)<2:=by lia
 have pos1:(0:Int)<(n:Int)-1:=by lia
 have ap:∀ m:Nat,L hs++[D.int m]=L (hs++[m]):=fun m=>by rw[iC];rfl
 obtain⟨m0,hm0⟩:=Int.eq_ofNat_of_zero_le (Int.emod_nonneg (x:Int) (show(n:Int)-1≠0 by lia))
 have hm0':m0+1<n:=by
  have:=Int.emod_lt_of_pos (x:Int) pos1;lia
 by_cases hc:hs.isEmpty=false/\(x:Int)%3=1
 ·have hne:hs≠[]:=by
   intro z;subst z;cases hc.1
  obtain⟨m1,hm1,e1⟩:=uD hne;obtain⟨v,hv,e2⟩:=qI x;have hm1':=hh m1 hm1
  have fin:∃ m:Nat,(if(if(m1:Int)+v > 0 then(m1:Int)+v else 0)<(n:Int)-2 then(if(m1:Int)+v > 0 then(m1:Int)+v else 0)else(n:Int)-2)=(m:Int)/\m+1<n:=by
   refine⟨(if(if(m1:Int)+v > 0 then(m1:Int)+v else 0)<(n:Int)-2 then(if(m1:Int)+v > 0 then(m1:Int)+v else 0)else(n:Int)-2).toNat,?_,?_⟩<;>rcases hv with rfl | rfl | rfl<;>(repeat' split)<;>lia
  obtain⟨m,em,hm⟩:=fin;refine⟨m,hm,?_⟩;simp only[fh,Option.bind_some,bY,aw,kz,ee,dX,cY,eU,dz,hW,cQ,jg,fH,nz,mX,k9,bS,sv_andt,sv_andf,sv_max,sv_min,sv_neg,evs,List.set_cons_succ,List.set_cons_zero,List.getElem?_cons_succ,List.getElem?_cons_zero,id,jk,c1,decide_false,Option.map_some,qW,Bool.false_eq_true,if_false,gX,cH pos1,hm0,aU,D.imm,Bool.true_or,if_true,ne_nil,hc.1,Bool.not_false,cH (show(0:Int)<3 by decide),cH (show(0:Int)<7 by decide),hc.2,nJ,beq_self_eq_true,qX,e1,e2,cv,em,Bool.and_eq_true,decide_eq_true_eq,true_and,hlen,ap]
 ·refine⟨m0,hm0',?_⟩;by_cases h1:hs.isEmpty=false
  ·have h2:((x:Int)%3 == 1)=false:=by
    have:¬ (x:Int)%3=1:=fun z=>hc ⟨h1,z⟩;simpa using this
   simp only[fh,Option.bind_some,bY,aw,kz,ee,dX,cY,eU,dz,hW,cQ,jg,fH,nz,mX,k9,bS,sv_andt,sv_andf,sv_max,sv_min,sv_neg,evs,List.set_cons_succ,List.set_cons_zero,List.getElem?_cons_succ,List.getElem?_cons_zero,id,jk,c1,decide_false,Option.map_some,qW,Bool.false_eq_true,if_false,gX,cH pos1,hm0,aU,D.imm,Bool.true_or,if_true,ne_nil,h1,Bool.not_false,cH (show(0:Int)<3 by decide),nJ,h2,Bool.and_eq_true,decide_eq_true_eq,true_and,hlen,ap]
  ·have h1':hs.isEmpty=true:=by
    cases hz:hs.isEmpty with
    | true=>rfl
    | false=>exact absurd hz h1
   simp only[fh,Option.bind_some,bY,aw,kz,ee,dX,cY,eU,dz,hW,cQ,jg,fH,nz,mX,k9,bS,sv_andt,sv_andf,sv_max,sv_min,sv_neg,evs,List.set_cons_succ,List.set_cons_zero,List.getElem?_cons_succ,List.getElem?_cons_zero,id,jk,c1,decide_false,Option.map_some,qW,Bool.false_eq_true,if_false,gX,cH pos1,hm0,aU,D.imm,Bool.true_or,if_true,ne_nil,h1',Bool.not_true,Bool.and_eq_true,decide_eq_true_eq,true_and,hlen,ap]
def pV(xs:List Nat)(n:Nat):(L xs).take n=L (xs.take n):=by simp[L]
def pI{f:Nat}{scr:D}{k n size:Nat}(hn:2<=n)(hs:size<=100)(hk:k<=900)(h:∀ k:Nat,k<=1000->∃ ds:List Nat,gz ds (List.replicate 12 97)/\cl f [scr,.int k,.lst (L (List.replicate 12 97))]=some (.lst (L ds))) :
  ∃ hs:List Nat,(∀ h∈hs,h+1<n)/\hs.length<=1200/\evF cl (d7 f) [scr,.int k,.int n,.int size]=some (.lst (L hs)):=by
 have cnt:aZ 12 0 size<=100:=by
  unfold aZ;rw[if_pos (by decide)];split
  ·lia
  ·simp
 have rg:gM 12 (.int 0) (.int size)=some (L (List.range' 0 (aZ 12 0 size) 12)):=by
  dsimp only[gM];rw[if_pos ⟨by decide,by decide,by decide,by unfold most;lia,by decide,by decide,by lia,by lia⟩];have:=lR 12 (aZ 12 0 size) 0;exact congrArg some this
 have m97:aI .mul (.lst [.int 97]) (.int 12)=some (.lst (L (List.replicate 12 97))):=rfl
 obtain⟨σ',e,hs',o5,o6,o7,o8,q1,q2,rfl⟩:=dI (f:=aw cl [4] (eK f)) (tg:=[5]) (xs:=List.range' 0 (aZ 12 0 size) 12) (σ:=[some scr,some (.int k),some (.int n),some (.int size),some (.lst []),none,none,none,none])
  (fun p σ=>∃ (hs:List Nat) (o5 o6 o7 o8:Option D),(∀ h∈hs,h+1<n)/\hs.length<=12*p.length/\σ=[some scr,some (.int k),some (.int n),some (.int size),some (.lst (L hs)),o5,o6,o7,o8]) ⟨[],none,none,none,none,by simp,by simp,rfl⟩ (by
   rintro p x q σ hx ⟨hs,o5,o6,o7,o8,q1,q2,rfl⟩
   have hxm:x∈List.range' 0 (aZ 12 0 size) 12:=by rw[hx];simp
   have hxb:x<=1200:=by
    obtain⟨i,hi,rfl⟩:=List.mem_range'.mp hxm;lia
   have hpl:p.length<100:=by
    have:=congrArg List.length hx;simp at this;lia
   obtain⟨ds,hds,ed⟩:=h (k+x / 12) (by lia)
   have ek:(k:Int)+(x:Int) / 12=((k+x / 12:Nat):Int):=by lia
   have hdl:ds.length=12:=by rw[hds.1];simp
   obtain⟨σ2,e2,hs2,o7',o8',g1,g2,rfl⟩:=dI (f:=aw cl [4] (bY f)) (tg:=[7]) (xs:=ds.take (cutAt (L ds).length ((size:Int)-(x:Int)))) (σ:=[some scr,some (.int k),some (.int n),some (.int size),some (.lst (L hs)),some (.int x),some (.lst (L ds)),o7,o8])
    (fun p σ=>∃ (hs':List Nat) (o7 o8:Option D),(∀ h∈hs',h+1<n)/\hs'.length<=hs.length+p.length/\σ=[some scr,some (.int k),some (.int n),some (.int size),some (.lst (L hs')),some (.int x),some (.lst (L ds)),o7,o8]) ⟨hs,o7,o8,q1,by simp,rfl⟩ (by
     rintro p' y q' σ hy ⟨hs',o7,o8,g1,g2,rfl⟩
     have hpl':p'.length<12:=by
      have:=congrArg List.length hy;simp at this;lia
     obtain⟨m,hm,em⟩:=nk (cl:=cl) (f:=f) (scr:=scr) (k:=k) (size:=size) (start:=x) (x:=y) (steps:=ds) (o7:=o7) (o8:=o8) hn g1 (by lia);refine⟨_,em,_,_,_,?_,?_,rfl⟩
     ·intro h hh;rcases List.mem_append.mp hh with z | z
      ·exact g1 h z
      ·rw[List.mem_singleton.mp z];exact hm
     ·simp;lia)
   have hcl:(ds.take (cutAt (L ds).length ((size:Int)-(x:Int)))).length<=12:=by
    rw[List.length_take];lia
   refine⟨[some scr,some (.int k),some (.int n),some (.int size),some (.lst (L hs2)),some (.int x),some (.lst (L ds)),o7',o8'],?_,hs2,_,_,_,_,g1,?_,rfl⟩
   ·simp only[fh,Option.bind_some,eK,aw,ee,iR,dz,su,bS,cX,cQ,fH,evs,bN,itemsS_lst,itemsS_tup,List.set_cons_succ,List.set_cons_zero,List.getElem?_cons_succ,List.getElem?_cons_zero,id,Option.map_some,oi (show(0:Int)<12 by decide) (show(12:Int)<2 ^ 200 by decide),cv,ek,m97,ed,aU,D.imm,aH,bg,tf_call,tf_slT,tf_bin,tf_lst,Bool.true_and,Bool.or_true,Bool.true_or,if_true,gX,fS,pV,items,e2]
   ·simp only[List.length_append,List.length_cons,List.length_nil]
    lia)
 refine⟨hs',q1,by rw[List.length_range']at q2;lia,?_⟩;simp[evF,d7,aw,iR,n5,cY,cQ,bS,fH,evs,bN,rg,aH,ao];simp[e,bD,aH,bg,bp]
end
section
def cN:bT f l=M.rg l (l+1) (at' f):=rfl
def oj(F:Frm n f)(hl:l+1<2*n):aG (aG f l) l=aG f l/\bT (aG f l) l=1:=by
 have e:at' (aG f l) l=l+1:=by rw[bh F hl];exact M.qY (by lia)
 exact⟨by unfold aG;rw[if_pos (by unfold aG at e;exact e)],by unfold bT;rw[if_pos e]⟩
def vc(F:Frm n f)(hl:l+2<2*n):aG (aG (aG f l) (l+1)) l=aG f l/\bT (aG f l) (l+1)=0/\bT (aG (aG f l) (l+1)) l=0:=by
 have F1:=bL F (l:=l) (by lia);have F2:=bL F1 (l:=l+1) (by lia);have F3:=bL F2 (l:=l) (by lia)
 have e:at' (aG f l) l=l+1:=by rw[bh F (by lia)];exact M.qY (by lia)
 obtain⟨h1,h2,h3⟩:=M.up1 (l:=l) (r:=l+1) (s:=l+1+1) (g:=at' (aG f l)) (by lia) (by lia) (by lia) F1.inv e (F1.no _ (by lia));refine⟨lh F3.len F1.len ?_,?_,?_⟩
 ·rw[bh F2 (by lia),bh F1 (by lia)];exact h1
 ·rw[cN];exact h2
 ·rw[cN,bh F1 (by lia)];exact h3
def tJ(F:Frm n f)(hl:l+2<2*n):aG (aG (aG f (l+1)) l) (l+1)=aG f (l+1)/\bT (aG f (l+1)) l=0/\bT (aG (aG f (l+1)) l) (l+1)=0:=by
 have F1:=bL F (l:=l+1) (by lia);have F2:=bL F1 (l:=l) (by lia);have F3:=bL F2 (l:=l+1) (by lia)
 have e:at' (aG f (l+1)) (l+1)=l+1+1:=by rw[bh F (by lia)];exact M.qY (by lia)
 obtain⟨h1,h2,h3⟩:=M.dn1 (l:=l+1) (r:=l+1+1) (s:=l) (g:=at' (aG f (l+1))) (by lia) (by lia) (by lia) F1.inv e (F1.no _ (by lia));refine⟨lh F3.len F1.len ?_,?_,?_⟩
 ·rw[bh F2 (by lia),bh F1 (by lia)];exact h1
 ·rw[cN];exact h2
 ·rw[cN,bh F1 (by lia)];exact h3
def rE(F:Frm n f)(hl:l+1<2*n)(hp:p+1<2*n)(hd:l+1<p\/p+1<l):aG (aG f p) l=aG (aG f l) p/\bT f p+bT (aG f p) l=bT f l+bT (aG f l) p:=by
 have F1:=bL F hl;have F2:=bL F hp;obtain⟨h1,h2⟩:=M.far (l:=l) (r:=l+1) (p:=p) (q:=p+1) (g:=at' f) (by lia) (by lia) (by lia) (by lia) (by lia) (by lia) F.inv (F.no _ (by lia)) (F.no _ hl) (F.no _ (by lia)) (F.no _ hp);refine⟨lh (bL F2 hl).len (bL F1 hp).len ?_,?_⟩
 ·rw[bh F2 hl,bh F1 hp,bh F hl,bh F hp];exact h1
 ·rw[cN,cN,cN,cN,bh F hl,bh F hp];exact h2
end
abbrev a8(n:Nat)(row:List Nat):List Nat × Nat:=hangs n row (aO n,0)
abbrev nB(n:Nat)(row:List Nat):D:=.tup [.tup (L (a8 n row).1),.int (a8 n row).2]
def i6(h:∀ f:List Nat,Frm n f->(hangs n mid (f,0)).1=(hangs n mid' (f,0)).1/\(hangs n mid (f,0)).2=(hangs n mid' (f,0)).2+k)(ha:∀ i∈a,i+1<n) :
  (a8 n (a++mid++b)).1=(a8 n (a++mid'++b)).1/\(a8 n (a++mid++b)).2=(a8 n (a++mid'++b)).2+k:=by
 unfold a8;have F:Frm n (hangs n a (aO n,0)).1:=gx ha (jS n);obtain⟨h1,h2⟩:=h _ F;rw[bU,bU,bU,bU];rw[show hangs n mid (hangs n a (aO n,0))=((hangs n mid ((hangs n a (aO n,0)).1,0)).1,(hangs n a (aO n,0)).2+(hangs n mid ((hangs n a (aO n,0)).1,0)).2)from cq n mid _ _];rw[show hangs n mid' (hangs n a (aO n,0))=((hangs n mid' ((hangs n a (aO n,0)).1,0)).1,(hangs n a (aO n,0)).2+(hangs n mid' ((hangs n a (aO n,0)).1,0)).2)from cq n mid' _ _];rw[h1,h2,cq n b _ (_+(_+k)),cq n b _ (_+_)];exact⟨rfl,by lia⟩
def lI(hi:i+1<n)(ha:∀ i∈a,i+1<n):(a8 n (a++[i,i]++b)).1=(a8 n (a++[i]++b)).1/\(a8 n (a++[i,i]++b)).2=(a8 n (a++[i]++b)).2+1:=by
 refine i6 (fun f F=>?_) ha;obtain⟨h1,h2⟩:=oj F (l:=n+i) (by lia);simp only[hangs,h1,h2,Nat.zero_add];exact⟨trivial,trivial⟩
def kg(hi:i+1<n)(hj:j+1<n)(hd:j=i+1\/i=j+1)(ha:∀ i∈a,i+1<n):a8 n (a++[i,j,i]++b)=a8 n (a++[i]++b):=by
 have:=i6 (n:=n) (a:=a) (mid:=[i,j,i]) (mid':=[i]) (b:=b) (k:=0) (fun f F=>by
  rcases hd with rfl | rfl
  ·obtain⟨h1,h2,h3⟩:=vc F (l:=n+i) (by lia);rw[show n+i+1=n+(i+1) by lia]at h1 h2 h3;simp[hangs,h1,h2,h3]
  ·obtain⟨h1,h2,h3⟩:=tJ F (l:=n+j) (by lia);rw[show n+j+1=n+(j+1) by lia]at h1 h2 h3
   simp[hangs,h1,h2,h3]) ha
 exact Prod.ext this.1 this.2
def vN(hi:i+1<n)(hj:j+1<n)(hd:i+1<j\/j+1<i)(ha:∀ i∈a,i+1<n):a8 n (a++[i,j]++b)=a8 n (a++[j,i]++b):=by
 have:=i6 (n:=n) (a:=a) (mid:=[i,j]) (mid':=[j,i]) (b:=b) (k:=0) (fun f F=>by
  obtain⟨h1,h2⟩:=rE F (l:=n+j) (p:=n+i) (by lia) (by lia) (by lia);simp only[hangs]
  exact⟨h1,by lia⟩) ha
 exact Prod.ext this.1 this.2
def tj(k:Nat):∀ xs:List Nat,eqs (eqD k) (L xs) (L xs)=some true
 | []=>rfl
 | x::xs=>by
  show((eqD k (.int x) (.int x)).bind fun e=>(eqs (eqD k) (L xs) (L xs)).map fun k=>e&&k)=_;rw[tj k xs];simp[zE]
section dicts
variable [DecidableEq κ]
end dicts
section
end
section
end
section
end
section
variable{n:Nat}
end
section
end
section
end
section
end
end RM
set_option maxHeartbeats 1000000
namespace RM
open RL RT
section
end
end RM
set_option maxHeartbeats 1000000
namespace RM
open RL RT
section
end
structure Dg(T:List Fn)(mx rw dg:Nat):Prop where
 zK:T[mx]?=some gi
 za:T[rw]?=some (gu mx)
 zd:T[dg]?=some (cT rw)
def Dg.digits{T:List Fn}{mx rw dg:Nat}(h:Dg T mx rw dg){ns:List Int}(hl:ns.length<=63)(n:Nat){k:Nat}{sizes:List Nat}(hk:k<=1000)(hp:∀ s∈sizes,0<s/\s<2 ^ 200)(hz:sizes.length<=1000) :
  ∃ ds:List Nat,gz ds sizes/\a5 T (n+3) dg [.lst (LI ns),.int k,.lst (L sizes)]=some (.lst (L ds)):=by
 obtain⟨r,hr⟩:=uX (cl:=a5 T (n+1)) (f:=mx) (fun s=>by
  obtain⟨m,hm⟩:=tR (cl:=a5 T n) s
  exact⟨m,(aA h.zK).trans hm⟩) hl hk
 obtain⟨ds,h1,h2⟩:=nt (cl:=a5 T (n+2)) (f:=rw) ((aA h.za).trans hr) hp hz;exact⟨ds,h1,(aA h.zd).trans h2⟩
section
variable{T:List Fn}{mx rw dg pl hk ci ft tx rg hu ov fr:Nat}
end
section
variable{T:List Fn}{nu pc pa nb un if' cf po rp ir mv:Nat}
end
end RM
set_option maxHeartbeats 1000000
namespace K32
open RL RT
abbrev kE(f_walked:Nat):Fn :=
 ⟨4,4,[],[],(.cons (.ret (.call f_walked (.cons (.var 0) (.cons (.var 1) (.cons (.var 2) (.cons (.lst (.cons (.var 3) .nil)) .nil)))))) .nil)⟩
abbrev ka(f_pair_behind f_check_row:Nat):Ss :=
 (.cons (.asg 4 (.call f_pair_behind (.cons (.var 0) (.cons (.var 4) (.cons (.var 6) .nil))))) (.cons (.ife (.isN false (.var 4)) (.cons .never .nil) .nil) .nil))
abbrev kX(f_pair_behind f_check_row:Nat):Fn :=
 ⟨4,7,[],[],(.cons (.exc (.call f_check_row (.cons (.var 0) (.cons (.var 2) .nil)))) (.cons (.asg 4 (.tup (.cons (.var 1) (.cons (.frz (.bi .list (.var 2))) .nil)))) (.cons (.forr [5,6] (.enm (.var 3)) (ka f_pair_behind f_check_row)) (.cons (.ret (.var 4)) .nil))))⟩
abbrev eM(f_has_places:Nat):Fn :=
 ⟨3,3,[],[],(.cons (.ife (.or (.not (.call f_has_places (.cons (.var 1) (.cons (.var 2) (.cons (.cst (.int 2)) .nil))))) (.cmp .lt (.bi .abs (.bin .sub (.ix (.var 1) (.var 2)) (.ix (.var 1) (.bin .add (.var 2) (.cst (.int 1)))))) (.cst (.int 2)))) (.cons (.ret (.cst .non)) .nil) .nil) (.cons (.ret (.tup (.cons (.var 0) (.cons (.frz (.bin .add (.bin .add (.slT (.var 1) (.var 2)) (.lst (.cons (.ix (.var 1) (.bin .add (.var 2) (.cst (.int 1)))) (.cons (.ix (.var 1) (.var 2)) .nil)))) (.slF (.var 1) (.bin .add (.var 2) (.cst (.int 2)))))) .nil)))) .nil))⟩
abbrev eP(f_has_places:Nat):Fn :=
 ⟨3,3,[],[],(.cons (.ife (.or (.not (.call f_has_places (.cons (.var 1) (.cons (.var 2) (.cons (.cst (.int 2)) .nil))))) (.cmp .ne (.ix (.var 1) (.var 2)) (.ix (.var 1) (.bin .add (.var 2) (.cst (.int 1)))))) (.cons (.ret (.cst .non)) .nil) .nil) (.cons (.ret (.tup (.cons (.bin .add (.var 0) (.cst (.int 1))) (.cons (.frz (.bin .add (.slT (.var 1) (.var 2)) (.slF (.var 1) (.bin .add (.var 2) (.cst (.int 1)))))) .nil)))) .nil))⟩
abbrev eQ(f_has_places:Nat):Fn :=
 ⟨3,3,[],[],(.cons (.ife (.or (.not (.call f_has_places (.cons (.var 1) (.cons (.var 2) (.cons (.cst (.int 1)) .nil))))) (.cmp .lt (.var 0) (.cst (.int 1)))) (.cons (.ret (.cst .non)) .nil) .nil) (.cons (.ret (.tup (.cons (.bin .sub (.var 0) (.cst (.int 1))) (.cons (.frz (.bin .add (.bin .add (.slT (.var 1) (.var 2)) (.lst (.cons (.ix (.var 1) (.var 2)) .nil))) (.slF (.var 1) (.var 2)))) .nil)))) .nil))⟩
abbrev dw(f_has_places:Nat):Fn :=
 ⟨3,3,[],[],(.cons (.ife (.or (.not (.call f_has_places (.cons (.var 1) (.cons (.var 2) (.cons (.cst (.int 3)) .nil))))) (.or (.cmp .ne (.ix (.var 1) (.var 2)) (.ix (.var 1) (.bin .add (.var 2) (.cst (.int 2))))) (.cmp .ne (.bi .abs (.bin .sub (.ix (.var 1) (.var 2)) (.ix (.var 1) (.bin .add (.var 2) (.cst (.int 1)))))) (.cst (.int 1))))) (.cons (.ret (.cst .non)) .nil) .nil) (.cons (.ret (.tup (.cons (.var 0) (.cons (.frz (.bin .add (.slT (.var 1) (.bin .add (.var 2) (.cst (.int 1)))) (.slF (.var 1) (.bin .add (.var 2) (.cst (.int 3)))))) .nil)))) .nil))⟩
abbrev hG(f_is_hook f_has_places:Nat):Fn :=
 ⟨5,5,[],[],(.cons (.ife (.or (.not (.call f_has_places (.cons (.var 2) (.cons (.var 3) (.cons (.cst (.int 1)) .nil))))) (.or (.not (.call f_is_hook (.cons (.var 0) (.cons (.var 4) .nil)))) (.cmp .ne (.bi .abs (.bin .sub (.ix (.var 2) (.var 3)) (.var 4))) (.cst (.int 1))))) (.cons (.ret (.cst .non)) .nil) .nil) (.cons (.ret (.tup (.cons (.var 1) (.cons (.frz (.bin .add (.bin .add (.slT (.var 2) (.bin .add (.var 3) (.cst (.int 1)))) (.lst (.cons (.var 4) (.cons (.ix (.var 2) (.var 3)) .nil)))) (.slF (.var 2) (.bin .add (.var 3) (.cst (.int 1)))))) .nil)))) .nil))⟩
abbrev dO(f_swapped f_dropped f_doubled f_shortened f_grown:Nat):Fn :=
 ⟨3,8,[],[],(.cons (.unp [3,4] (.var 1)) (.cons (.star 5 7 (.var 2)) (.cons (.ife (.and (.cmp .eq (.var 5) (.cst (.str "grow"))) (.cmp .eq (.bi .len (.var 7)) (.cst (.int 2)))) (.cons (.ret (.call f_grown (.cons (.var 0) (.cons (.var 3) (.cons (.var 4) (.cons (.ix (.var 7) (.cst (.int 0))) (.cons (.ix (.var 7) (.cst (.int 1))) .nil))))))) .nil) .nil) (.cons (.ife (.and (.inG "TRADES_AT_A_PLACE" ["swap", "drop", "double", "cut"] (.var 5)) (.cmp .eq (.bi .len (.var 7)) (.cst (.int 1)))) (.act 6 "TRADES_AT_A_PLACE" [("swap",f_swapped),("drop",f_dropped),("double",f_doubled),("cut",f_shortened)] (.var 5) (.cons (.var 3) (.cons (.var 4) (.cons (.ix (.var 7) (.cst (.int 0))) .nil)))) .nil) (.cons (.ret (.cst .non)) .nil)))))⟩
abbrev cV(f_is_number:Nat):Fn :=
 ⟨3,3,[],[],(.cons (.ret (.and (.call f_is_number (.cons (.var 1) .nil)) (.chain .le .le (.cst (.int 0)) (.var 1) (.bin .sub (.bi .len (.var 0)) (.var 2))))) .nil)⟩
abbrev bj:Fn :=
 ⟨3,9,[],[],(.cons (.unp [3,4] (.var 1)) (.cons (.par 5 6 (.ix (.var 2) (.cst (.int 0))) (.ix (.var 2) (.cst (.int 1)))) (.cons (.ife (.or (.not (.chain .le .lt (.cst (.int 0)) (.var 6) (.bi .len (.var 4)))) (.cmp .ne (.bi .len (.var 2)) (.bin .add (.cst (.int 2)) (.bi .int (.cmp .eq (.var 5) (.cst (.str "grow"))))))) (.cons (.ret (.cst .non)) .nil) .nil) (.cons (.parL 7 8 (.ix (.var 4) (.var 6)) (.slF (.var 4) (.bin .add (.var 6) (.cst (.int 1))))) (.cons (.ife (.and (.cmp .eq (.var 5) (.cst (.str "double"))) (.cmp .gt (.var 3) (.cst (.int 0)))) (.cons (.ret (.tup (.cons (.bin .sub (.var 3) (.cst (.int 1))) (.cons (.frz (.bin .add (.bin .add (.slT (.var 4) (.bin .add (.var 6) (.cst (.int 1)))) (.lst (.cons (.var 7) .nil))) (.var 8))) .nil)))) .nil) .nil) (.cons (.ife (.and (.cmp .eq (.var 5) (.cst (.str "grow"))) (.and (.chain .le .lt (.cst (.int 0)) (.ix (.var 2) (.cst (.int 2))) (.bin .sub (.var 0) (.cst (.int 1)))) (.inn false (.ix (.var 2) (.cst (.int 2))) (.tup (.cons (.bin .sub (.var 7) (.cst (.int 1))) (.cons (.bin .add (.var 7) (.cst (.int 1))) .nil)))))) (.cons (.ret (.tup (.cons (.var 3) (.cons (.frz (.bin .add (.bin .add (.slT (.var 4) (.bin .add (.var 6) (.cst (.int 1)))) (.lst (.cons (.ix (.var 2) (.cst (.int 2))) (.cons (.var 7) .nil)))) (.var 8))) .nil)))) .nil) .nil) (.cons (.ife (.and (.cmp .eq (.var 5) (.cst (.str "swap"))) (.and (.cmp .ne (.var 8) (.lst .nil)) (.inn true (.ix (.var 8) (.cst (.int 0))) (.tup (.cons (.bin .sub (.var 7) (.cst (.int 1))) (.cons (.var 7) (.cons (.bin .add (.var 7) (.cst (.int 1))) .nil))))))) (.cons (.ret (.tup (.cons (.var 3) (.cons (.frz (.bin .add (.bin .add (.slT (.var 4) (.var 6)) (.lst (.cons (.ix (.var 8) (.cst (.int 0))) (.cons (.var 7) .nil)))) (.slF (.var 8) (.cst (.int 1))))) .nil)))) .nil) .nil) (.cons (.ife (.and (.cmp .eq (.var 5) (.cst (.str "drop"))) (.and (.cmp .ne (.var 8) (.lst .nil)) (.cmp .eq (.ix (.var 8) (.cst (.int 0))) (.var 7)))) (.cons (.ret (.tup (.cons (.bin .add (.var 3) (.cst (.int 1))) (.cons (.frz (.bin .add (.slT (.var 4) (.bin .add (.var 6) (.cst (.int 1)))) (.slF (.var 8) (.cst (.int 1))))) .nil)))) .nil) .nil) (.cons (.ife (.and (.cmp .eq (.var 5) (.cst (.str "cut"))) (.and (.cmp .gt (.bi .len (.var 8)) (.cst (.int 1))) (.and (.cmp .eq (.ix (.var 8) (.cst (.int 1))) (.var 7)) (.inn false (.ix (.var 8) (.cst (.int 0))) (.tup (.cons (.bin .sub (.var 7) (.cst (.int 1))) (.cons (.bin .add (.var 7) (.cst (.int 1))) .nil))))))) (.cons (.ret (.tup (.cons (.var 3) (.cons (.frz (.bin .add (.slT (.var 4) (.bin .add (.var 6) (.cst (.int 1)))) (.slF (.var 8) (.cst (.int 2))))) .nil)))) .nil) .nil) (.cons (.ret (.cst .non)) .nil))))))))))⟩
abbrev cA(f_law_after f_law_digits:Nat):Ss :=
 (.cons (.asg 5 (.bin .add (.var 5) (.compA (.tup (.cons (.var 12) (.cons (.var 6) .nil))) [12] (.seq (.tup (.cons (.cst (.str "swap")) (.cons (.cst (.str "drop")) (.cons (.cst (.str "cut")) (.cons (.cst (.str "double")) .nil))))))))) (.cons (.asg 5 (.bin .add (.var 5) (.compA (.tup (.cons (.cst (.str "grow")) (.cons (.var 6) (.cons (.bin .add (.ix (.ix (.var 3) (.cst (.int 1))) (.var 6)) (.var 13)) .nil)))) [13] (.seq (.tup (.cons (.neg (.cst (.int 1))) (.cons (.cst (.int 1)) .nil))))))) .nil))
abbrev eG(f_law_after f_law_digits:Nat):Fn :=
 ⟨4,14,[],[],(.cons (.unp [7,4,8,9] (.call f_law_digits (.cons (.var 0) (.cons (.var 1) (.cons (.lst (.cons (.cst (.int 14)) (.cons (.bin .add (.bi .len (.ix (.var 3) (.cst (.int 1)))) (.cst (.int 2))) (.cons (.cst (.int 10)) (.cons (.bin .pow (.cst (.int 10)) (.cst (.int 20))) .nil))))) .nil))))) (.cons (.asg 4 (.bin .sub (.var 4) (.cst (.int 1)))) (.cons (.asg 5 (.lst .nil)) (.cons (.forr [6] (.rng1 (.bi .len (.ix (.var 3) (.cst (.int 1))))) (cA f_law_after f_law_digits)) (.cons (.asg 5 (.comp (.var 11) [11] (.seq (.var 5)) (.isN true (.call f_law_after (.cons (.var 2) (.cons (.var 3) (.cons (.var 11) .nil))))))) (.cons (.ife (.and (.cmp .lt (.var 7) (.cst (.int 9))) (.cmp .ne (.var 5) (.lst .nil))) (.cons (.ret (.ix (.var 5) (.bin .mod (.var 9) (.bi .len (.var 5))))) .nil) .nil) (.cons (.ife (.cmp .eq (.var 7) (.cst (.int 9))) (.cons (.ret (.tup (.cons (.cst (.str "grow")) (.cons (.var 4) (.cons (.ix (.lst (.cons (.bin .sub (.var 8) (.cst (.int 1))) (.cons (.var 9) (.cons (.bin .sub (.cst (.int 0)) (.var 9)) .nil)))) (.bin .mod (.var 9) (.cst (.int 3)))) .nil))))) .nil) .nil) (.cons (.ife (.cmp .eq (.var 7) (.cst (.int 10))) (.cons (.asg 10 (.lst (.cons (.tup (.cons (.cst (.str "grow")) (.cons (.var 4) .nil))) (.cons (.tup (.cons (.cst (.str "swap")) (.cons (.var 4) (.cons (.cst (.int 0)) .nil)))) (.cons (.tup (.cons (.cst (.str "")) (.cons (.var 4) .nil))) (.cons (.tup (.cons (.cst (.str "Swap")) (.cons (.var 4) .nil))) (.cons (.tup (.cons (.cst (.str "drop")) (.cons (.var 9) .nil))) (.cons (.tup (.cons (.cst (.str "cut")) (.cons (.bin .sub (.cst (.int 0)) (.var 9)) .nil))) .nil)))))))) (.cons (.ret (.ix (.bin .add (.var 10) (.lst (.cons (.tup (.cons (.cst (.str "drop")) (.cons (.var 4) (.cons (.cst (.int 0)) .nil)))) (.cons (.tup (.cons (.cst (.str "double")) (.cons (.var 4) (.cons (.cst (.int 0)) .nil)))) (.cons (.tup (.cons (.cst (.str "cut")) (.cons (.var 4) (.cons (.cst (.int 0)) .nil)))) .nil))))) (.bin .mod (.var 9) (.cst (.int 9))))) .nil)) .nil) (.cons (.ret (.tup (.cons (.ix (.lst (.cons (.cst (.str "swap")) (.cons (.cst (.str "drop")) (.cons (.cst (.str "cut")) (.cons (.cst (.str "double")) .nil))))) (.bin .mod (.var 9) (.cst (.int 4)))) (.cons (.var 4) .nil)))) .nil)))))))))⟩
abbrev lE(f_law_after f_made f_traded f_law_some_trade f_law_hooks f_law_digits:Nat):Ss :=
 (.cons (.asg 9 (.call f_law_some_trade (.cons (.var 0) (.cons (.bin .add (.cst (.int 3)) (.var 3)) (.cons (.var 1) (.cons (.var 2) .nil)))))) (.cons (.ife (.isN true (.call f_law_after (.cons (.var 1) (.cons (.var 2) (.cons (.var 9) .nil))))) (.cons (.asg 2 (.call f_traded (.cons (.var 1) (.cons (.ix (.var 2) (.cst (.int 0))) (.cons (.ix (.var 2) (.cst (.int 1))) (.cons (.var 9) .nil)))))) (.cons (.unp [10,11] (.call f_made (.cons (.var 1) (.cons (.ix (.var 2) (.cst (.int 1))) .nil)))) (.cons (.ife (.or (.cmp .ne (.var 10) (.var 7)) (.or (.cmp .ne (.bin .add (.var 11) (.ix (.var 2) (.cst (.int 0)))) (.bin .add (.var 8) (.var 4))) (.cmp .lt (.ix (.var 2) (.cst (.int 0))) (.cst (.int 0))))) (.cons (.ret (.cst (.bl false))) .nil) .nil) .nil))) .nil) .nil))
abbrev sk(f_law_after f_made f_traded f_law_some_trade f_law_hooks f_law_digits:Nat):Fn :=
 ⟨1,12,[],[],(.cons (.asg 0 (.slT (.var 0) (.cst (.int 63)))) (.cons (.unp [1,4,5,6] (.call f_law_digits (.cons (.var 0) (.cons (.cst (.int 60)) (.cons (.lst (.cons (.cst (.int 9)) (.cons (.cst (.int 6)) (.cons (.cst (.int 13)) (.cons (.cst (.int 16)) .nil))))) .nil))))) (.cons (.asg 1 (.bin .add (.cst (.int 2)) (.var 1))) (.cons (.asg 2 (.tup (.cons (.var 4) (.cons (.frz (.call f_law_hooks (.cons (.var 0) (.cons (.cst (.int 0)) (.cons (.var 1) (.cons (.var 5) .nil)))))) .nil)))) (.cons (.unp [7,8] (.call f_made (.cons (.var 1) (.cons (.ix (.var 2) (.cst (.int 1))) .nil)))) (.cons (.forr [3] (.rng1 (.var 6)) (lE f_law_after f_made f_traded f_law_some_trade f_law_hooks f_law_digits)) (.cons (.ret (.cst (.bl true))) .nil)))))))⟩
abbrev T:List Fn:=[ff,c9 0,df 1,ku,gj,gE 2,jb 7 5 9,cD 3 4,eR 0,d6 8 2,kE 11,kX 17 9,eM 18,eP 18,eQ 18,dw 18,hG 8 18,dO 12 13 14 15 16,cV 0,gi,gu 19,cT 20,d7 21,bj,eG 23 21,sk 23 6 10 24 22 21]
open RM
section
variable{cl:Cl}
def cG(h:ev cl σ a=some (.lst xs))(tf:a6 a=true)(im:ao xs=true):ev cl σ (.frz a)=some (.fL xs):=by
 show(ev cl σ a).bind _=_;rw[h,Option.bind_some,if_pos tf];exact if_pos im
def yU(h:ev cl σ a=some (.str w)):ev cl σ (.inG g ks a)=some (.bl (ks.any fun k=>decide (k=w))):=by
 show(ev cl σ a).bind _=_;rw[h];rfl
def u6(h:ev cl σ e=some x)(h':ev cl σ e'=some y)(ok:(x.imm&&(aH y&&a6 e'))=true)(k:aw cl M r ((σ.set i (some x)).set j (some y))=res):aw cl M (.cons (.parL i j e e') r) σ=res :=
 d9 (by
  show(ev cl σ e).bind _=_;rw[h,Option.bind_some,h',Option.bind_some]
  exact if_pos ok) k
def mL(h:ev cl σ e=some (.tup (d::ds)))(im:(d.imm&&ao ds)=true)(k:aw cl M r ((σ.set i (some d)).set j (some (.fL ds)))=res):aw cl M (.cons (.star i j e) r) σ=res :=
 d9 (by
  show((ev cl σ e).bind k8).map _=_;rw[h,Option.bind_some,show k8 (.tup (d::ds))=if(d.imm&&ao ds)=true then some (d,.fL ds)else none from rfl,if_pos im]
  rfl) k
def xp(h:ev cl σ a=some x)(hf:fj tbl x=some f)(he:evs cl (σ.set i none) es=some ds)(hc:cl f ds=some d)(im:d.imm=true):aw cl M (.act i g tbl a es) σ=some (.rt d,σ):=by
 show((ev cl σ a).bind (fj tbl)).bind _=_;rw[h,Option.bind_some,hf,Option.bind_some,he,Option.bind_some,hc,Option.bind_some];exact if_pos im
def weq(x:PySem.Str):aY .eq (.str x) (.str x)=some true:=by
 show some (x == x)=_;rw[beq_self_eq_true]
def wne{x y:PySem.Str}(h:x≠y):aY .eq (.str x) (.str y)=some false:=by
 show some (x == y)=_;rw[beq_eq_false_iff_ne.mpr h]
end
def lr{xs:List Nat}{k x:Nat}(h:xs[k]?=some x):ixV (.fL (L xs)) (.int (k:Nat))=some (.int (x:Nat)):=by
 show(if ao (L xs)=true then bq (L xs) (k:Nat)else none)=_;rw[if_pos (bg xs)];unfold bq L;rw[if_pos (Int.natCast_nonneg k),Int.toNat_natCast,List.getElem?_map,h];rfl
def nM{xs:List Nat}{k:Nat}(h:k<=xs.length):cutAt (L xs).length (k:Nat)=k:=by
 unfold cutAt;rw[if_pos (Int.natCast_nonneg k),Int.toNat_natCast,cI];omega
def sY{xs:List Nat}{k:Nat}(h:k<=xs.length):fS (.fL (L xs)) (.int (k:Nat))=some (.lst (L (xs.take k))):=by
 show some (D.lst ((L xs).take (cutAt (L xs).length (k:Nat))))=_;rw[nM h,pV]
def pz(xs:List Nat)(n:Nat):(L xs).drop n=L (xs.drop n):=by simp[L]
def iI{xs:List Nat}{k:Nat}(h:k<=xs.length):cW (.fL (L xs)) (.int (k:Nat))=some (.lst (L (xs.drop k))):=by
 show some (D.lst ((L xs).drop (cutAt (L xs).length (k:Nat))))=_;rw[nM h,pz]
def lG{xs:List Nat}{k:Nat}(h:k<=xs.length):cW (.lst (L xs)) (.int (k:Nat))=some (.lst (L (xs.drop k))):=by
 show some (D.lst ((L xs).drop (cutAt (L xs).length (k:Nat))))=_;rw[nM h,pz]
def bR{a b:List Nat}(h:a.length+b.length<=50000):aI .add (.lst (L a)) (.lst (L b))=some (.lst (L (a++b))):=by
 rw[nT,if_pos (by rw[cI,cI];unfold most;omega)];simp[L]
def iQ(xs:List Nat):biV .len (.fL (L xs))=some (.int (xs.length:Nat)):=by
 show some (D.int ((L xs).length:Nat))=_;rw[cI]
def sJ(xs:List Nat):biV .len (.lst (L xs))=some (.int (xs.length:Nat)):=by
 show some (D.int ((L xs).length:Nat))=_;rw[cI]
abbrev prF(r:Nat)(row:List Nat):D:=.tup [.int (r:Nat),.fL (L row)]
def cM(r:Nat)(row:List Nat):(prF r row).imm=true:=by simp[prF,D.imm,ao,bg]
inductive Stp (n:Nat):Nat->List Nat->PySem.Str->Int->List Int->Nat->List Nat->Prop
 | swap {r:Nat} {p q:List Nat} {h x:Nat}:(h+1<x\/x+1<h)->Stp n r (p++h::x::q) "swap" (p.length:Nat) [] r (p++x::h::q)
 | drop {r:Nat} {p q:List Nat} {h:Nat}:Stp n r (p++h::h::q) "drop" (p.length:Nat) [] (r+1) (p++h::q)
 | dbl {r:Nat} {p q:List Nat} {h:Nat}:Stp n (r+1) (p++h::q) "double" (p.length:Nat) [] r (p++h::h::q)
 | cut {r:Nat} {p q:List Nat} {h x:Nat}:(x=h+1\/h=x+1)->Stp n r (p++h::x::h::q) "cut" (p.length:Nat) [] r (p++h::q)
 | grow {r:Nat} {p q:List Nat} {h b:Nat}:b+1<n->(b=h+1\/h=b+1)->Stp n r (p++h::q) "grow" (p.length:Nat) [((b:Nat):Int)] r (p++h::b::h::q)
abbrev trD(w:PySem.Str)(a:Int)(bs:List Int):D:=.tup (.str w :: .int a::bs.map .int)
def j9:∀ (w:PySem.Str) (a:Int) (bs:List Int),(trD w a bs).imm=true:=fun w a bs=>by
 have:∀ bs:List Int,ao (bs.map D.int)=true:=fun bs=>by
  induction bs with
  | nil=>rfl
  | cons b r ih=>rw[List.map_cons,ao,ih];rfl
 simp[trD,D.imm,ao,this]
def Stp.keep(S:Stp n r row w a bs r' row')(hr:∀ i∈row,i+1<n):(∀ i∈row',i+1<n)/\(a8 n row').1=(a8 n row).1/\(a8 n row').2+r'=(a8 n row).2+r/\row'.length<=row.length+2:=by
 have app:∀ (p q:List Nat) (m:List Nat),p++m++q=p++(m++q):=fun p q m=>List.append_assoc ..
 cases S with
 |@swap r p q h x d=>
  have e:=vN (n:=n) (i:=h) (j:=x) (a:=p) (b:=q) (hr h (by simp)) (hr x (by simp)) d (fun i hi=>hr i (by simp[hi]));rw[app,app]at e;have e:a8 n (p++h::x::q)=a8 n (p++x::h::q):=e;exact⟨fun i hi=>hr i (by simp at hi ⊢;rcases hi with a | a | a | a<;>simp[a]),by rw[e],by rw[e],by simp⟩
 |@drop r p q h=>
  have e:=lI (n:=n) (i:=h) (a:=p) (b:=q) (hr h (by simp)) (fun i hi=>hr i (by simp[hi]));rw[app,app]at e;have e:(a8 n (p++h::h::q)).1=(a8 n (p++h::q)).1/\(a8 n (p++h::h::q)).2=(a8 n (p++h::q)).2+1:=e;exact⟨fun i hi=>hr i (by simp at hi ⊢;rcases hi with a | a | a<;>simp[a]),e.1.symm,by rw[e.2];omega,by simp;omega⟩
 |@dbl r p q h=>
  have e:=lI (n:=n) (i:=h) (a:=p) (b:=q) (hr h (by simp)) (fun i hi=>hr i (by simp[hi]));rw[app,app]at e;have e:(a8 n (p++h::h::q)).1=(a8 n (p++h::q)).1/\(a8 n (p++h::h::q)).2=(a8 n (p++h::q)).2+1:=e;exact⟨fun i hi=>hr i (by simp only[List.mem_append,List.mem_cons]at hi ⊢;rcases hi with a | a | a | a<;>simp[a]),e.1,by rw[e.2];omega,by simp;omega⟩
 |@cut r p q h x d=>
  have e:=kg (n:=n) (i:=h) (j:=x) (a:=p) (b:=q) (hr h (by simp)) (hr x (by simp)) d (fun i hi=>hr i (by simp[hi]));rw[app,app]at e;have e:a8 n (p++h::x::h::q)=a8 n (p++h::q):=e;exact⟨fun i hi=>hr i (by simp at hi ⊢;rcases hi with a | a | a<;>simp[a]),by rw[e],by rw[e],by simp;omega⟩
 |@grow r p q h b hb d=>
  have e:=kg (n:=n) (i:=h) (j:=b) (a:=p) (b:=q) (hr h (by simp)) hb d (fun i hi=>hr i (by simp[hi]));rw[app,app]at e;have e:a8 n (p++h::b::h::q)=a8 n (p++h::q):=e;exact⟨fun i hi=>(by simp only[List.mem_append,List.mem_cons]at hi;rcases hi with a | a | a | a | a<;>first | (rw[a];exact hb) | exact hr i (by simp[a])),by rw[e],by rw[e],by simp;omega⟩
end K32
set_option maxHeartbeats 1000000
namespace K32
open RL RT RM
section
variable{cl:Cl}{n r:Nat}{row:List Nat}
def uH{a:Int}(h0:0<=a)(h1:a<(row.length:Nat)):∃ p h q,row=p++h::q/\a=((p.length:Nat):Int):=by
 have hk:a.toNat<row.length:=by omega
 refine⟨row.take a.toNat,row[a.toNat],row.drop (a.toNat+1),?_,?_⟩
 ·rw[<-List.drop_eq_getElem_cons hk,List.take_append_drop]
 ·rw[List.length_take];omega
def rM{a:Int}(h:¬ (0<=a/\a<(row.length:Nat)))(h6:(σ[6]?).bind id=some (.int a))(h4:(σ[4]?).bind id=some (.fL (L row))):ev cl σ (.chain .le .lt (.cst (.int 0)) (.var 6) (.bi .len (.var 4)))=some (.bl false):=by
 by_cases h0:0<=a
 ·exact gU ag (aa h6) (bC (aa h4) (iQ row)) (by show some (decide _)=_;rw[decide_eq_true h0]) (by show some (decide _)=_;rw[decide_eq_false (by omega)])
 ·exact la ag (aa h6) (by show some (decide _)=_;rw[decide_eq_false h0])
def uT{a:Int}(h:0<=a/\a<(row.length:Nat))(h6:(σ[6]?).bind id=some (.int a))(h4:(σ[4]?).bind id=some (.fL (L row))):ev cl σ (.chain .le .lt (.cst (.int 0)) (.var 6) (.bi .len (.var 4)))=some (.bl true) :=
 gU ag (aa h6) (bC (aa h4) (iQ row)) (by show some (decide _)=_;rw[decide_eq_true h.1]) (by show some (decide _)=_;rw[decide_eq_true h.2])
def in2(x h:Nat):inV (.int (x:Nat)) (.tup [.int ((h:Int)-1),.int ((h:Int)+1)])=some (decide (x=h+1\/h=x+1)):=by
 show some (((h:Int)-1 == (x:Int)) || (((h:Int)+1 == (x:Int)) || false))=_;congr 1;rw[Bool.eq_iff_iff];simp;omega
def in3(x h:Nat):inV (.int (x:Nat)) (.tup [.int ((h:Int)-1),.int (h:Nat),.int ((h:Int)+1)])=some (!decide (h+1<x\/x+1<h)):=by
 show some (((h:Int)-1 == (x:Int)) || ((((h:Nat):Int) == (x:Int)) || (((h:Int)+1 == (x:Int)) || false)))=_;congr 1;rw[Bool.eq_iff_iff];simp;omega
def wm(b:Int)(h:Nat):inV (.int b) (.tup [.int ((h:Int)-1),.int ((h:Int)+1)])=some (decide (b=h-1\/b=h+1)):=by
 show some (((h:Int)-1 == b) || (((h:Int)+1 == b) || false))=_;congr 1;rw[Bool.eq_iff_iff];simp;omega
abbrev A5:Ss :=
 (.cons (.ife (.and (.cmp .eq (.var 5) (.cst (.str "double"))) (.cmp .gt (.var 3) (.cst (.int 0)))) (.cons (.ret (.tup (.cons (.bin .sub (.var 3) (.cst (.int 1))) (.cons (.frz (.bin .add (.bin .add (.slT (.var 4) (.bin .add (.var 6) (.cst (.int 1)))) (.lst (.cons (.var 7) .nil))) (.var 8))) .nil)))) .nil) .nil) (.cons (.ife (.and (.cmp .eq (.var 5) (.cst (.str "grow"))) (.and (.chain .le .lt (.cst (.int 0)) (.ix (.var 2) (.cst (.int 2))) (.bin .sub (.var 0) (.cst (.int 1)))) (.inn false (.ix (.var 2) (.cst (.int 2))) (.tup (.cons (.bin .sub (.var 7) (.cst (.int 1))) (.cons (.bin .add (.var 7) (.cst (.int 1))) .nil)))))) (.cons (.ret (.tup (.cons (.var 3) (.cons (.frz (.bin .add (.bin .add (.slT (.var 4) (.bin .add (.var 6) (.cst (.int 1)))) (.lst (.cons (.ix (.var 2) (.cst (.int 2))) (.cons (.var 7) .nil)))) (.var 8))) .nil)))) .nil) .nil) (.cons (.ife (.and (.cmp .eq (.var 5) (.cst (.str "swap"))) (.and (.cmp .ne (.var 8) (.lst .nil)) (.inn true (.ix (.var 8) (.cst (.int 0))) (.tup (.cons (.bin .sub (.var 7) (.cst (.int 1))) (.cons (.var 7) (.cons (.bin .add (.var 7) (.cst (.int 1))) .nil))))))) (.cons (.ret (.tup (.cons (.var 3) (.cons (.frz (.bin .add (.bin .add (.slT (.var 4) (.var 6)) (.lst (.cons (.ix (.var 8) (.cst (.int 0))) (.cons (.var 7) .nil)))) (.slF (.var 8) (.cst (.int 1))))) .nil)))) .nil) .nil) (.cons (.ife (.and (.cmp .eq (.var 5) (.cst (.str "drop"))) (.and (.cmp .ne (.var 8) (.lst .nil)) (.cmp .eq (.ix (.var 8) (.cst (.int 0))) (.var 7)))) (.cons (.ret (.tup (.cons (.bin .add (.var 3) (.cst (.int 1))) (.cons (.frz (.bin .add (.slT (.var 4) (.bin .add (.var 6) (.cst (.int 1)))) (.slF (.var 8) (.cst (.int 1))))) .nil)))) .nil) .nil) (.cons (.ife (.and (.cmp .eq (.var 5) (.cst (.str "cut"))) (.and (.cmp .gt (.bi .len (.var 8)) (.cst (.int 1))) (.and (.cmp .eq (.ix (.var 8) (.cst (.int 1))) (.var 7)) (.inn false (.ix (.var 8) (.cst (.int 0))) (.tup (.cons (.bin .sub (.var 7) (.cst (.int 1))) (.cons (.bin .add (.var 7) (.cst (.int 1))) .nil))))))) (.cons (.ret (.tup (.cons (.var 3) (.cons (.frz (.bin .add (.slT (.var 4) (.bin .add (.var 6) (.cst (.int 1)))) (.slF (.var 8) (.cst (.int 2))))) .nil)))) .nil) .nil) (.cons (.ret (.cst .non)) .nil))))))
abbrev s9(n r:Nat)(p:List Nat)(h:Nat)(q:List Nat)(w:PySem.Str)(bs:List Int):St:=[some (.int (n:Nat)),some (prF r (p++h::q)),some (trD w (p.length:Nat) bs),some (.int (r:Nat)),some (.fL (L (p++h::q))),some (.str w),some (.int (p.length:Nat)),some (.int (h:Nat)),some (.lst (L q))]
section
variable{p q:List Nat}{h:Nat}{w:PySem.Str}{bs:List Int}
def b1:aI .add (.int (p.length:Nat)) (.int 1)=some (.int ((p.length+1:Nat):Int)):=rfl
def tk1:fS (.fL (L (p++h::q))) (.int ((p.length+1:Nat):Int))=some (.lst (L (p++[h]))):=by
 rw[sY (by simp)]
 have e:(p++h::q).take (p.length+1)=p++[h]:=by
  rw[show p++h::q=(p++[h])++q by simp,List.take_left' (by simp)]
 rw[e]
def tk0:fS (.fL (L (p++h::q))) (.int (p.length:Nat))=some (.lst (L p)):=by
 rw[sY (by simp),List.take_left' rfl]
def no(x:PySem.Str)(hx:w≠x)(e:E)(σ:St)(h5:(σ[5]?).bind id=some (.str w)):(ev cl σ (.and (.cmp .eq (.var 5) (.cst (.str x))) e)).bind truth=some false:=aX (cB (a9 (aa h5) ag (wne hx)))
def no2(x:PySem.Str)(e:E)(σ:St)(h5:(σ[5]?).bind id=some (.str x))(h:ev cl σ e=some (.bl false)):(ev cl σ (.and (.cmp .eq (.var 5) (.cst (.str x))) e)).bind truth=some false:=aX (bE (a9 (aa h5) ag (weq x)) h)
def yes(x:PySem.Str)(e:E)(σ:St)(h5:(σ[5]?).bind id=some (.str x))(h:ev cl σ e=some (.bl true)):(ev cl σ (.and (.cmp .eq (.var 5) (.cst (.str x))) e)).bind truth=some true:=aX (bE (a9 (aa h5) ag (weq x)) h)
def dS{r':Nat}{row':List Nat}{xs:List Nat}(e:xs=row'):D.tup [.int (r':Nat),.fL (L xs)]=prF r' row':=by rw[e];rfl
def rk{e:E}(r':Nat)(xs:List Nat):bD [] e (.tup [.int (r':Nat),.fL (L xs)])=true:=by
 unfold bD;rw[show(D.tup [.int (r':Nat),.fL (L xs)]).imm=true from cM r' xs];rfl
def j8:aY .ne (.lst (L q)) (.lst [])=some (!q.isEmpty):=ne_nil q
def qT(hz:(p++h::q).length<=5000)(hn:1<=n)(b:Int):aw cl [] A5 (s9 n r p h q "grow" [b])=some (.rt .non,s9 n r p h q "grow" [b])\/∃ r' row',Stp n r (p++h::q) "grow" (p.length:Nat) [b] r' row'/\aw cl [] A5 (s9 n r p h q "grow" [b])=some (.rt (prF r' row'),s9 n r p h q "grow" [b]):=by
 have hz:p.length+(q.length+1)<=5000:=by simpa using hz
 have i2:ev cl (s9 n r p h q "grow" [b]) (.ix (.var 2) (.cst (.int 2)))=some (.int b):=aS (aa rfl) ag rfl;have tp:ev cl (s9 n r p h q "grow" [b]) (.tup (.cons (.bin .sub (.var 7) (.cst (.int 1))) (.cons (.bin .add (.var 7) (.cst (.int 1))) .nil)))=some (.tup [.int ((h:Int)-1),.int ((h:Int)+1)]):=aP (ai (aq (aa rfl) ag rfl) (ai (aq (aa rfl) ag rfl) az));have bn:aI .sub (.int (n:Nat)) (.int 1)=some (.int ((n:Int)-1)):=rfl
 have c1:ev cl (s9 n r p h q "grow" [b]) (.chain .le .lt (.cst (.int 0)) (.ix (.var 2) (.cst (.int 2))) (.bin .sub (.var 0) (.cst (.int 1))))=some (.bl (decide (0<=b/\b<(n:Int)-1))):=by
  by_cases hb0:0<=b
  ·rw[gU ag i2 (aq (aa rfl) ag bn) (by show some (decide _)=_;rw[decide_eq_true hb0]) (k:=decide (b<(n:Int)-1)) rfl];simp[hb0]
  ·rw[la ag i2 (by show some (decide _)=_;rw[decide_eq_false hb0])];simp[hb0]
 have n1:=fun e=>no (cl:=cl) (w := "grow") "double" (by decide) e (s9 n r p h q "grow" [b]) rfl;by_cases k1:0<=b/\b<(n:Int)-1
 ·rw[decide_eq_true k1]at c1;by_cases k2:b=h-1\/b=h+1
  ·obtain⟨m,rfl⟩:∃ m:Nat,b=(m:Nat):=⟨b.toNat,by omega⟩
   have c2:=ky (n:=false) i2 tp ((wm m h).trans (by rw[decide_eq_true k2]));refine .inr ⟨r,p++h::m::h::q,.grow (by omega) (by omega),?_⟩;rw[<-dS (xs:=(p++[h])++[m,h]++q) (by simp)];exact ax (n1 _) (bJ (yes "grow" _ _ rfl (bE c1 c2)) (aD (aP (ai (aa rfl) (ai (cG (aq (aq (cR (aa rfl) (aq (aa rfl) ag b1) tk1) (bw (ai i2 (ai (aa rfl) az))) (bR (b:=[m,h]) (by simp;omega))) (aa rfl) (bR (by simp;omega))) rfl (bg _)) az))) (rk _ _)))
  ·have c2:=ky (n:=false) i2 tp ((wm b h).trans (by rw[decide_eq_false k2]));exact .inl (ax (n1 _) (ax (no2 "grow" _ _ rfl (bE c1 c2)) (ax (no "swap" (by decide) _ _ rfl) (ax (no "drop" (by decide) _ _ rfl) (ax (no "cut" (by decide) _ _ rfl) (aD ag rfl))))))
 ·rw[decide_eq_false k1]at c1;exact .inl (ax (n1 _) (ax (no2 "grow" _ _ rfl (cB c1)) (ax (no "swap" (by decide) _ _ rfl) (ax (no "drop" (by decide) _ _ rfl) (ax (no "cut" (by decide) _ _ rfl) (aD ag rfl))))))
def vb(hz:(p++h::q).length<=5000)(hg:w ≠ "grow"):aw cl [] A5 (s9 n r p h q w [])=some (.rt .non,s9 n r p h q w [])\/∃ r' row',Stp n r (p++h::q) w (p.length:Nat) [] r' row'/\aw cl [] A5 (s9 n r p h q w [])=some (.rt (prF r' row'),s9 n r p h q w []):=by
 have hz:p.length+(q.length+1)<=5000:=by simpa using hz
 have nw:∀ (x:PySem.Str),w≠x->∀ e,(ev cl (s9 n r p h q w []) (.and (.cmp .eq (.var 5) (.cst (.str x))) e)).bind truth=some false:=fun x hx e=>no x hx e _ rfl;by_cases w1:w = "double"
 ·subst w1
  cases r with
  |zero=>
   have t:ev cl (s9 n 0 p h q "double" []) (.cmp .gt (.var 3) (.cst (.int 0)))=some (.bl false):=a9 (aa rfl) ag rfl;exact .inl (ax (no2 "double" _ _ rfl t) (ax (nw "grow" hg _) (ax (nw "swap" (by decide) _) (ax (nw "drop" (by decide) _) (ax (nw "cut" (by decide) _) (aD ag rfl))))))
  |succ r=>
   have t:ev cl (s9 n (r+1) p h q "double" []) (.cmp .gt (.var 3) (.cst (.int 0)))=some (.bl true):=a9 (aa rfl) ag (by show some (decide _)=_;rw[decide_eq_true (by omega)])
   have bs:aI .sub (.int ((r+1:Nat):Int)) (.int 1)=some (.int (r:Nat)):=by show some (D.int _)=_;congr 2;omega
   refine .inr ⟨r,p++h::h::q,.dbl,?_⟩;rw[<-dS (xs:=(p++[h])++[h]++q) (by simp)];exact bJ (yes "double" _ _ rfl t) (aD (aP (ai (aq (aa rfl) ag bs) (ai (cG (aq (aq (cR (aa rfl) (aq (aa rfl) ag b1) tk1) (bw (ai (aa rfl) az)) (bR (b:=[h]) (by simp;omega))) (aa rfl) (bR (by simp;omega))) rfl (bg _)) az))) (rk _ _))
 by_cases w2:w = "swap"
 ·subst w2;have fin:∀ {e},ev cl (s9 n r p h q "swap" []) (.and (.cmp .ne (.var 8) (.lst .nil)) e)=some (.bl false)->(ev cl (s9 n r p h q "swap" []) (.and (.cmp .eq (.var 5) (.cst (.str "swap"))) (.and (.cmp .ne (.var 8) (.lst .nil)) e))).bind truth=some false:=fun t=>no2 "swap" _ _ rfl t
  cases q with
  | nil=>exact .inl (ax (nw "double" (by decide) _) (ax (nw "grow" hg _) (ax (fin (cB (a9 (aa rfl) (bw az) j8))) (ax (nw "drop" (by decide) _) (ax (nw "cut" (by decide) _) (aD ag rfl))))))
  |cons x q=>
   have i0:ev cl (s9 n r p h (x::q) "swap" []) (.ix (.var 8) (.cst (.int 0)))=some (.int (x:Nat)):=aS (aa rfl) ag rfl;have tp:ev cl (s9 n r p h (x::q) "swap" []) (.tup (.cons (.bin .sub (.var 7) (.cst (.int 1))) (.cons (.var 7) (.cons (.bin .add (.var 7) (.cst (.int 1))) .nil))))=some (.tup [.int ((h:Int)-1),.int (h:Nat),.int ((h:Int)+1)]):=aP (ai (aq (aa rfl) ag rfl) (ai (aa rfl) (ai (aq (aa rfl) ag rfl) az)));have c:=ky (n:=true) i0 tp (in3 x h);by_cases d:h+1<x\/x+1<h
   ·rw[decide_eq_true d]at c;have s1:cW (.lst (L (x::q))) (.int 1)=some (.lst (L q)):=lG (xs:=x::q) (k:=1) (by simp);refine .inr ⟨r,p++x::h::q,.swap d,?_⟩;rw[<-dS (xs:=p++[x,h]++q) (by simp)];exact ax (nw "double" (by decide) _) (ax (nw "grow" hg _) (bJ (yes "swap" _ _ rfl (bE (a9 (aa rfl) (bw az) j8) c)) (aD (aP (ai (aa rfl) (ai (cG (aq (aq (cR (aa rfl) (aa rfl) tk0) (bw (ai i0 (ai (aa rfl) az))) (bR (b:=[x,h]) (by simp at hz ⊢;omega))) (dR (aa rfl) ag s1) (bR (by simp at hz ⊢;omega))) rfl (bg _)) az))) (rk _ _))))
   ·rw[decide_eq_false d]at c;exact .inl (ax (nw "double" (by decide) _) (ax (nw "grow" hg _) (ax (fin (bE (a9 (aa rfl) (bw az) j8) c)) (ax (nw "drop" (by decide) _) (ax (nw "cut" (by decide) _) (aD ag rfl))))))
 by_cases w3:w = "drop"
 ·subst w3
  cases q with
  | nil=>exact .inl (ax (nw "double" (by decide) _) (ax (nw "grow" hg _) (ax (nw "swap" (by decide) _) (ax (no2 "drop" _ _ rfl (cB (a9 (aa rfl) (bw az) j8))) (ax (nw "cut" (by decide) _) (aD ag rfl))))))
  |cons x q=>
   have i0:ev cl (s9 n r p h (x::q) "drop" []) (.ix (.var 8) (.cst (.int 0)))=some (.int (x:Nat)):=aS (aa rfl) ag rfl;by_cases d:x=h
   ·subst d;have s1:cW (.lst (L (x::q))) (.int 1)=some (.lst (L q)):=lG (xs:=x::q) (k:=1) (by simp);have bs:aI .add (.int (r:Nat)) (.int 1)=some (.int ((r+1:Nat):Int)):=rfl;refine .inr ⟨r+1,p++x::q,.drop,?_⟩;rw[<-dS (xs:=(p++[x])++q) (by simp)];exact ax (nw "double" (by decide) _) (ax (nw "grow" hg _) (ax (nw "swap" (by decide) _) (bJ (yes "drop" _ _ rfl (bE (a9 (aa rfl) (bw az) j8) (a9 i0 (aa rfl) (by show some (_ == _)=_;rw[beq_self_eq_true])))) (aD (aP (ai (aq (aa rfl) ag bs) (ai (cG (aq (cR (aa rfl) (aq (aa rfl) ag b1) tk1) (dR (aa rfl) ag s1) (bR (by simp at hz ⊢;omega))) rfl (bg _)) az))) (rk _ _)))))
   ·exact .inl (ax (nw "double" (by decide) _) (ax (nw "grow" hg _) (ax (nw "swap" (by decide) _) (ax (no2 "drop" _ _ rfl (bE (a9 (aa rfl) (bw az) j8) (a9 i0 (aa rfl) (by show some (_ == _)=_;rw[beq_eq_false_iff_ne.mpr (by omega)])))) (ax (nw "cut" (by decide) _) (aD ag rfl))))))
 by_cases w4:w = "cut"
 ·subst w4;have hd:∀ {res},aw cl [] (.cons (.ife (.and (.cmp .eq (.var 5) (.cst (.str "cut"))) (.and (.cmp .gt (.bi .len (.var 8)) (.cst (.int 1))) (.and (.cmp .eq (.ix (.var 8) (.cst (.int 1))) (.var 7)) (.inn false (.ix (.var 8) (.cst (.int 0))) (.tup (.cons (.bin .sub (.var 7) (.cst (.int 1))) (.cons (.bin .add (.var 7) (.cst (.int 1))) .nil))))))) (.cons (.ret (.tup (.cons (.var 3) (.cons (.frz (.bin .add (.slT (.var 4) (.bin .add (.var 6) (.cst (.int 1)))) (.slF (.var 8) (.cst (.int 2))))) .nil)))) .nil) .nil) (.cons (.ret (.cst .non)) .nil)) (s9 n r p h q "cut" [])=res->aw cl [] A5 (s9 n r p h q "cut" [])=res:=fun k=>ax (nw "double" (by decide) _) (ax (nw "grow" hg _) (ax (nw "swap" (by decide) _) (ax (nw "drop" (by decide) _) k)));by_cases hl:1<q.length
  ·obtain⟨x,y,q,rfl⟩:∃ x y q',q=x::y::q':=by
    match q,hl with
    | x::y::q',_=>exact⟨x,y,q',rfl⟩
   have t0:ev cl (s9 n r p h (x::y::q) "cut" []) (.cmp .gt (.bi .len (.var 8)) (.cst (.int 1)))=some (.bl true):=a9 (bC (aa rfl) (sJ _)) ag (by show some (decide _)=_;rw[decide_eq_true (by simp;omega)]);have i1:ev cl (s9 n r p h (x::y::q) "cut" []) (.ix (.var 8) (.cst (.int 1)))=some (.int (y:Nat)):=aS (aa rfl) ag rfl;have i0:ev cl (s9 n r p h (x::y::q) "cut" []) (.ix (.var 8) (.cst (.int 0)))=some (.int (x:Nat)):=aS (aa rfl) ag rfl;by_cases d:y=h
   ·subst d;have t1:ev cl (s9 n r p y (x::y::q) "cut" []) (.cmp .eq (.ix (.var 8) (.cst (.int 1))) (.var 7))=some (.bl true):=a9 i1 (aa rfl) (by show some (_ == _)=_;rw[beq_self_eq_true]);have tp:ev cl (s9 n r p y (x::y::q) "cut" []) (.tup (.cons (.bin .sub (.var 7) (.cst (.int 1))) (.cons (.bin .add (.var 7) (.cst (.int 1))) .nil)))=some (.tup [.int ((y:Int)-1),.int ((y:Int)+1)]):=aP (ai (aq (aa rfl) ag rfl) (ai (aq (aa rfl) ag rfl) az));have c:=ky (n:=false) i0 tp (in2 x y);by_cases e:x=y+1\/y=x+1
    ·rw[decide_eq_true e]at c;have s1:cW (.lst (L (x::y::q))) (.int 2)=some (.lst (L q)):=lG (xs:=x::y::q) (k:=2) (by simp);refine .inr ⟨r,p++y::q,.cut e,?_⟩;rw[<-dS (xs:=(p++[y])++q) (by simp)];exact hd (bJ (yes "cut" _ _ rfl (bE t0 (bE t1 c))) (aD (aP (ai (aa rfl) (ai (cG (aq (cR (aa rfl) (aq (aa rfl) ag b1) tk1) (dR (aa rfl) ag s1) (bR (by simp at hz ⊢;omega))) rfl (bg _)) az))) (rk _ _)))
    ·rw[decide_eq_false e]at c;exact .inl (hd (ax (no2 "cut" _ _ rfl (bE t0 (bE t1 c))) (aD ag rfl)))
   ·have t1:ev cl (s9 n r p h (x::y::q) "cut" []) (.cmp .eq (.ix (.var 8) (.cst (.int 1))) (.var 7))=some (.bl false):=a9 i1 (aa rfl) (by show some (_ == _)=_;rw[beq_eq_false_iff_ne.mpr (by omega)]);exact .inl (hd (ax (no2 "cut" _ _ rfl (bE t0 (cB t1))) (aD ag rfl)))
  ·have t0:ev cl (s9 n r p h q "cut" []) (.cmp .gt (.bi .len (.var 8)) (.cst (.int 1)))=some (.bl false):=a9 (bC (aa rfl) (sJ _)) ag (by show some (decide _)=_;rw[decide_eq_false (by omega)]);exact .inl (hd (ax (no2 "cut" _ _ rfl (cB t0)) (aD ag rfl)))
 exact .inl (ax (nw _ w1 _) (ax (nw _ hg _) (ax (nw _ w2 _) (ax (nw _ w3 _) (ax (nw _ w4 _) (aD ag rfl))))))
end
end
end K32
set_option maxHeartbeats 1000000
namespace K32
open RL RT RM
section
variable{cl:Cl}{n r:Nat}{row:List Nat}{w:PySem.Str}{bs:List Int}
abbrev A3:Ss:=.cons (.ife (.or (.not (.chain .le .lt (.cst (.int 0)) (.var 6) (.bi .len (.var 4)))) (.cmp .ne (.bi .len (.var 2)) (.bin .add (.cst (.int 2)) (.bi .int (.cmp .eq (.var 5) (.cst (.str "grow"))))))) (.cons (.ret (.cst .non)) .nil) .nil) (.cons (.parL 7 8 (.ix (.var 4) (.var 6)) (.slF (.var 4) (.bin .add (.var 6) (.cst (.int 1))))) A5)
abbrev s7(n r:Nat)(row:List Nat)(w:PySem.Str)(a:Int)(bs:List Int):St:=[some (.int (n:Nat)),some (prF r row),some (trD w a bs),some (.int (r:Nat)),some (.fL (L row)),some (.str w),some (.int a),none,none]
def out{a:Int}{d:D}(k:aw cl [] A3 (s7 n r row w a bs)=some (.rt d,σ')):evF cl bj [.int (n:Nat),prF r row,trD w a bs]=some d:=by
 have im2:ao [D.int (r:Nat),.fL (L row)]=true:=by simp[ao,D.imm,bg]
 exact bu (fn:=bj) rfl rfl (eD (aa rfl) rfl im2 rfl (xH (aS (aa rfl) ag rfl) (aS (aa rfl) ag rfl) rfl k))
def jm{a:Int}{k:Bool}(hk:aY .eq (.str w) (.str "grow")=some k):ev cl (s7 n r row w a bs) (.cmp .ne (.bi .len (.var 2)) (.bin .add (.cst (.int 2)) (.bi .int (.cmp .eq (.var 5) (.cst (.str "grow"))))))=some (.bl (!decide (bs.length=if k then 1 else 0))):=by
 refine a9 (bC (aa rfl) (d:=.int ((bs.length+2:Nat):Int)) (by show some (D.int ((D.str w::D.int _::bs.map D.int).length:Nat))=_;rw[List.length_cons,List.length_cons,List.length_map])) (aq ag (bC (a9 (aa rfl) ag hk) rfl) rfl) ?_;show some (!(_ == _))=_;congr 2;rw[Bool.eq_iff_iff,beq_iff_eq,decide_eq_true_eq];cases k
 ·show((bs.length+2:Nat):Int)=2+0↔bs.length=0;omega
 ·show((bs.length+2:Nat):Int)=2+1↔bs.length=1;omega
def jW(hz:row.length<=5000)(hn:1<=n)(w:PySem.Str)(a:Int)(bs:List Int)(hb:bs.length<=1) :
  evF cl bj [.int (n:Nat),prF r row,trD w a bs]=some .non\/∃ r' row',Stp n r row w a bs r' row'/\evF cl bj [.int (n:Nat),prF r row,trD w a bs]=some (prF r' row'):=by
 by_cases hp:0<=a/\a<(row.length:Nat)
 case neg=>exact .inl (out (bJ (aX (yv (cF (rM hp rfl rfl)))) (aD ag rfl)))
 have pl:ev cl (s7 n r row w a bs) (.chain .le .lt (.cst (.int 0)) (.var 6) (.bi .len (.var 4)))=some (.bl true):=uT hp rfl rfl;obtain⟨p,h,q,rfl,rfl⟩:=uH hp.1 hp.2;have ixh:ixV (.fL (L (p++h::q))) (.int (p.length:Nat))=some (.int (h:Nat)):=lr (by simp)
 have dr:cW (.fL (L (p++h::q))) (.int ((p.length+1:Nat):Int))=some (.lst (L q)):=by
  rw[iI (by simp)];simp
 have on:ev cl (s7 n r (p++h::q) w (p.length:Nat) bs) (.cmp .ne (.bi .len (.var 2)) (.bin .add (.cst (.int 2)) (.bi .int (.cmp .eq (.var 5) (.cst (.str "grow"))))))=some (.bl false)->∀ {d σ'},aw cl [] A5 (s9 n r p h q w bs)=some (.rt d,σ')->evF cl bj [.int (n:Nat),prF r (p++h::q),trD w (p.length:Nat) bs]=some d:=fun z {d σ'} k =>
  out (ax (aX (et (cF pl) z)) (u6 (aS (aa rfl) (aa rfl) ixh) (dR (aa rfl) (aq (aa rfl) ag b1) dr) (by simp[D.imm,aH,bg,a6]) k))
 have off:ev cl (s7 n r (p++h::q) w (p.length:Nat) bs) (.cmp .ne (.bi .len (.var 2)) (.bin .add (.cst (.int 2)) (.bi .int (.cmp .eq (.var 5) (.cst (.str "grow"))))))=some (.bl true)->evF cl bj [.int (n:Nat),prF r (p++h::q),trD w (p.length:Nat) bs]=some .non:=fun z =>
  out (bJ (aX (et (cF pl) z)) (aD ag rfl))
 by_cases hg:w = "grow"
 ·subst hg
  match bs,hb with
  | [],_=>exact .inl (off (jm (weq _)))
  |[b],_=>
   rcases qT (cl:=cl) (n:=n) (r:=r) hz hn b with k | ⟨r',row',S,k⟩
   ·exact .inl (on (jm (weq _)) k)
   ·exact .inr ⟨r',row',S,on (jm (weq _)) k⟩
 ·match bs,hb with
  |[],_=>
   rcases vb (cl:=cl) (n:=n) (r:=r) hz hg with k | ⟨r',row',S,k⟩
   ·exact .inl (on (jm (wne hg)) k)
   ·exact .inr ⟨r',row',S,on (jm (wne hg)) k⟩
  | [b],_=>exact .inl (off (jm (wne hg)))
end
section
variable{cl:Cl}{n r:Nat}{row:List Nat}
def places(hnum:∀ i:Int,cl 0 [.int i]=some (.bl true)){k m:Nat}(h:k+m<=row.length):evF cl (cV 0) [.fL (L row),.int (k:Nat),.int (m:Nat)]=some (.bl true):=by
 refine bu (fn:=cV 0) rfl rfl (aD (bE (n6 (aa rfl) (hnum k)) (gU ag (aa rfl) (aq (bC (aa rfl) (iQ row)) (aa rfl) rfl) (by show some (decide _)=_;rw[decide_eq_true (by omega)]) (k:=true) (by show some (decide _)=_;rw[decide_eq_true (by omega)]))) rfl)
variable{p q:List Nat}{h x:Nat}
def at0:ixV (.fL (L (p++h::q))) (.int (p.length:Nat))=some (.int (h:Nat)):=lr (by simp)
def at1:ixV (.fL (L (p++h::x::q))) (.int ((p.length+1:Nat):Int))=some (.int (x:Nat)):=lr (by simp)
def at2:ixV (.fL (L (p++h::x::y::q))) (.int ((p.length+2:Nat):Int))=some (.int (y:Nat)):=lr (by simp)
def dr0:cW (.fL (L (p++h::q))) (.int (p.length:Nat))=some (.lst (L (h::q))):=by rw[iI (by simp)];simp
def dr1:cW (.fL (L (p++h::q))) (.int ((p.length+1:Nat):Int))=some (.lst (L q)):=by rw[iI (by simp)];simp
def dr2:cW (.fL (L (p++h::x::q))) (.int ((p.length+2:Nat):Int))=some (.lst (L q)):=by rw[iI (by simp)];simp
def dr3:cW (.fL (L (p++h::x::y::q))) (.int ((p.length+3:Nat):Int))=some (.lst (L q)):=by rw[iI (by simp)];simp
def qD(a b:Nat):biV .abs (.int ((a:Int)-(b:Nat)))=some (.int ((a:Int)-b).natAbs):=by
 show some (D.int (if(a:Int)-b<0 then -((a:Int)-b)else(a:Int)-b))=_;congr 2;split<;>omega
abbrev b2':aI .add (.int (p.length:Nat)) (.int 2)=some (.int ((p.length+2:Nat):Int)):=rfl
def mf(hp:∀ (row:List Nat) (k m:Nat),k+m<=row.length->cl 18 [.fL (L row),.int (k:Nat),.int (m:Nat)]=some (.bl true))(hz:(p++h::x::q).length<=5000)(d:h+1<x\/x+1<h):evF cl (eM 18) [.int (r:Nat),.fL (L (p++h::x::q)),.int (p.length:Nat)]=some (prF r (p++x::h::q)):=by
 have hz:p.length+(q.length+1+1)<=5000:=by simpa using hz
 rw[<-dS (xs:=p++[x,h]++q) (by simp)];refine bu (fn:=eM 18) rfl rfl (ax (aX (et (cF (dM (aa rfl) (aa rfl) ag (hp _ _ 2 (by simp)))) (a9 (bC (aq (aS (aa rfl) (aa rfl) at0) (aS (aa rfl) (aq (aa rfl) ag b1) at1) rfl) (qD h x)) ag (k:=false) (by show some (decide _)=_;rw[decide_eq_false (by omega)])))) (aD (aP (ai (aa rfl) (ai (cG (aq (aq (cR (aa rfl) (aa rfl) tk0) (bw (ai (aS (aa rfl) (aq (aa rfl) ag b1) at1) (ai (aS (aa rfl) (aa rfl) at0) az))) (bR (b:=[x,h]) (by simp;omega))) (dR (aa rfl) (aq (aa rfl) ag b2') dr2) (bR (by simp;omega))) rfl (bg _)) az))) (rk _ _)))
end
end K32
set_option maxHeartbeats 1000000
namespace K32
open RL RT RM
section
variable{cl:Cl}{n r:Nat}{p q:List Nat}{h x:Nat}
def b3':aI .add (.int (p.length:Nat)) (.int 3)=some (.int ((p.length+3:Nat):Int)):=rfl
def nne{a b:Nat}(h:a=b):aY .ne (.int (a:Nat)) (.int (b:Nat))=some false:=by
 subst h;show some (!(_ == _))=_;rw[beq_self_eq_true];rfl
def ma(hp:∀ (row:List Nat) (k m:Nat),k+m<=row.length->cl 18 [.fL (L row),.int (k:Nat),.int (m:Nat)]=some (.bl true))(hz:(p++h::h::q).length<=5000):evF cl (eP 18) [.int (r:Nat),.fL (L (p++h::h::q)),.int (p.length:Nat)]=some (prF (r+1) (p++h::q)):=by
 have hz:p.length+(q.length+1+1)<=5000:=by simpa using hz
 have bs:aI .add (.int (r:Nat)) (.int 1)=some (.int ((r+1:Nat):Int)):=rfl;exact bu (fn:=eP 18) rfl rfl (ax (aX (et (cF (dM (aa rfl) (aa rfl) ag (hp _ _ 2 (by simp)))) (a9 (aS (aa rfl) (aa rfl) at0) (aS (aa rfl) (aq (aa rfl) ag b1) at1) (nne rfl)))) (aD (aP (ai (aq (aa rfl) ag bs) (ai (cG (aq (cR (aa rfl) (aa rfl) tk0) (dR (aa rfl) (aq (aa rfl) ag b1) dr1) (bR (by simp;omega))) rfl (bg _)) az))) (rk _ _)))
def lX(hp:∀ (row:List Nat) (k m:Nat),k+m<=row.length->cl 18 [.fL (L row),.int (k:Nat),.int (m:Nat)]=some (.bl true))(hz:(p++h::q).length<=5000):evF cl (eQ 18) [.int ((r+1:Nat):Int),.fL (L (p++h::q)),.int (p.length:Nat)]=some (prF r (p++h::h::q)):=by
 have hz:p.length+(q.length+1)<=5000:=by simpa using hz
 have bs:aI .sub (.int ((r+1:Nat):Int)) (.int 1)=some (.int (r:Nat)):=by show some (D.int _)=_;congr 2;omega
 rw[<-dS (xs:=p++[h]++(h::q)) (by simp)];exact bu (fn:=eQ 18) rfl rfl (ax (aX (et (cF (dM (aa rfl) (aa rfl) ag (hp _ _ 1 (by simp)))) (a9 (aa rfl) ag (k:=false) (by show some (decide _)=_;rw[decide_eq_false (by omega)])))) (aD (aP (ai (aq (aa rfl) ag bs) (ai (cG (aq (aq (cR (aa rfl) (aa rfl) tk0) (bw (ai (aS (aa rfl) (aa rfl) at0) az)) (bR (b:=[h]) (by simp;omega))) (dR (aa rfl) (aa rfl) dr0) (bR (by simp;omega))) rfl (bg _)) az))) (rk _ _)))
def kj(hp:∀ (row:List Nat) (k m:Nat),k+m<=row.length->cl 18 [.fL (L row),.int (k:Nat),.int (m:Nat)]=some (.bl true))(hz:(p++h::x::h::q).length<=5000)(d:x=h+1\/h=x+1):evF cl (dw 18) [.int (r:Nat),.fL (L (p++h::x::h::q)),.int (p.length:Nat)]=some (prF r (p++h::q)):=by
 have hz:p.length+(q.length+1+1+1)<=5000:=by simpa using hz
 have ab:((h:Int)-(x:Int)).natAbs=1:=by omega
 rw[<-dS (xs:=(p++[h])++q) (by simp)];exact bu (fn:=dw 18) rfl rfl (ax (aX (et (cF (dM (aa rfl) (aa rfl) ag (hp _ _ 3 (by simp)))) (et (a9 (aS (aa rfl) (aa rfl) at0) (aS (aa rfl) (aq (aa rfl) ag b2') at2) (nne rfl)) (a9 (bC (aq (aS (aa rfl) (aa rfl) at0) (aS (aa rfl) (aq (aa rfl) ag b1) at1) rfl) ((qD h x).trans (by rw[ab]))) ag (nne (a:=1) (b:=1) rfl))))) (aD (aP (ai (aa rfl) (ai (cG (aq (cR (aa rfl) (aq (aa rfl) ag b1) tk1) (dR (aa rfl) (aq (aa rfl) ag b3') dr3) (bR (by simp;omega))) rfl (bg _)) az))) (rk _ _)))
def pM(hp:∀ (row:List Nat) (k m:Nat),k+m<=row.length->cl 18 [.fL (L row),.int (k:Nat),.int (m:Nat)]=some (.bl true))(hh:cl 8 [.int (n:Nat),.int (x:Nat)]=some (.bl true))(hz:(p++h::q).length<=5000)(d:x=h+1\/h=x+1):evF cl (hG 8 18) [.int (n:Nat),.int (r:Nat),.fL (L (p++h::q)),.int (p.length:Nat),.int (x:Nat)]=some (prF r (p++h::x::h::q)):=by
 have hz:p.length+(q.length+1)<=5000:=by simpa using hz
 have ab:((h:Int)-(x:Int)).natAbs=1:=by omega
 rw[<-dS (xs:=(p++[h])++[x,h]++q) (by simp)];exact bu (fn:=hG 8 18) rfl rfl (ax (aX (et (cF (dM (aa rfl) (aa rfl) ag (hp _ _ 1 (by simp)))) (et (cF (j7 (aa rfl) (aa rfl) hh)) (a9 (bC (aq (aS (aa rfl) (aa rfl) at0) (aa rfl) rfl) ((qD h x).trans (by rw[ab]))) ag (nne (a:=1) (b:=1) rfl))))) (aD (aP (ai (aa rfl) (ai (cG (aq (aq (cR (aa rfl) (aq (aa rfl) ag b1) tk1) (bw (ai (aa rfl) (ai (aS (aa rfl) (aa rfl) at0) az))) (bR (b:=[x,h]) (by simp;omega))) (dR (aa rfl) (aq (aa rfl) ag b1) dr1) (bR (by simp;omega))) rfl (bg _)) az))) (rk _ _)))
end
section
variable{n r r':Nat}{row row':List Nat}
def num(m:Nat)(i:Int):a5 T (m+1) 0 [.int i]=some (.bl true):=(aA (fn:=ff) rfl).trans (kn i)
def hpl(m:Nat)(row:List Nat)(k j:Nat)(h:k+j<=row.length):a5 T (m+2) 18 [.fL (L row),.int (k:Nat),.int (j:Nat)]=some (.bl true):=(aA (fn:=cV 0) rfl).trans (places (num m) h)
def hook(m:Nat){x:Nat}(h:x+1<n):a5 T (m+2) 8 [.int (n:Nat),.int (x:Nat)]=some (.bl true):=(aA (fn:=eR 0) rfl).trans ((lY (num m) n x).trans (by rw[decide_eq_true (by omega)]))
def ln1(xs:List D):biV .len (.fL xs)=some (.int (xs.length:Nat)):=rfl
def oC(S:Stp n r row w a bs r' row')(hz:row.length<=5000):a5 T 27 17 [.int (n:Nat),prF r row,trD w a bs]=some (prF r' row'):=by
 have im:∀ row:List Nat,ao [D.int (r:Nat),.fL (L row)]=true:=fun row=>by simp[ao,D.imm,bg]
 have act:∀ {w:PySem.Str} {k f:Nat} {row:List Nat},w ≠ "grow" -> (["swap", "drop", "double", "cut"]:List PySem.Str).any (fun k=>decide (k=w))=true->fj [("swap",12),("drop",13),("double",14),("cut",15)] (.str w)=some f->a5 T 26 f [.int (r:Nat),.fL (L row),.int (k:Nat)]=some (prF r' row')->a5 T 27 17 [.int (n:Nat),prF r row,trD w (k:Nat) []]=some (prF r' row'):=fun {w k f row} hg hi hf hc=>by
  refine(aA (fn:=dO 12 13 14 15 16) rfl).trans (bu rfl rfl (eD (aa rfl) rfl (im row) rfl (mL (aa rfl) rfl (ax (aX (cB (a9 (aa rfl) ag (wne hg)))) (bJ (aX (bE ((yU (aa rfl)).trans (by rw[hi])) (a9 (bC (aa rfl) (ln1 _)) ag rfl))) (xp (aa rfl) hf (ai (aa rfl) (ai (aa rfl) (ai (aS (aa rfl) ag rfl) az))) hc (cM _ _)))))))
 cases S with
 | swap d=>exact act (f:=12) (by decide) (by decide) (by decide) ((aA (fn:=eM 18) rfl).trans (mf (hpl 23) hz d))
 | drop=>exact act (f:=13) (by decide) (by decide) (by decide) ((aA (fn:=eP 18) rfl).trans (ma (hpl 23) hz))
 | dbl=>exact act (f:=14) (by decide) (by decide) (by decide) ((aA (fn:=eQ 18) rfl).trans (lX (hpl 23) hz))
 | cut d=>exact act (f:=15) (by decide) (by decide) (by decide) ((aA (fn:=dw 18) rfl).trans (kj (hpl 23) hz d))
 |grow hb d=>
  exact(aA (fn:=dO 12 13 14 15 16) rfl).trans (bu rfl rfl (eD (aa rfl) rfl (im _) rfl (mL (aa rfl) rfl (bJ (aX (bE (a9 (aa rfl) ag (weq _)) (a9 (bC (aa rfl) (ln1 _)) ag rfl))) (aD (x_call (ai (aa rfl) (ai (aa rfl) (ai (aa rfl) (ai (aS (aa rfl) ag rfl) (ai (aS (aa rfl) ag rfl) az))))) ((aA (fn:=hG 8 18) rfl).trans (pM (hpl 23) (hook 23 hb) hz d))) (rk _ _))))))
def v8(m:Nat)(h1:1<=n)(h2:n<=10):a5 T (m+3) 2 [.int (n:Nat)]=some .non:=(aA (fn:=df 1) rfl).trans (jB ((aA (fn:=c9 0) rfl).trans ((i5 (num m) n).trans (by rw[decide_eq_true (by omega)]))))
def ug{cl:Cl}(h1:cl 2 [.int (n:Nat)]=some .non)(h2:∀ i∈row,cl 8 [.int (n:Nat),.int (i:Nat)]=some (.bl true)):evF cl (d6 8 2) [.int (n:Nat),.fL (L row)]=some .non:=by
 obtain⟨σ',e,o',rfl⟩:=dI (f:=aw cl [] (gh 8 2)) (tg:=[2]) (xs:=row) (σ:=[some (.int (n:Nat)),some (.fL (L row)),none]) (fun _ σ=>∃ o,σ=[some (.int (n:Nat)),some (.fL (L row)),o]) ⟨none,rfl⟩ (by
  rintro p x q σ rfl ⟨o,rfl⟩
  exact⟨_,ax (aX (cF (j7 (aa rfl) (aa rfl) (h2 x (by simp))))) cC,_,rfl⟩)
 exact xv (fn:=d6 8 2) rfl rfl (lD (n6 (aa rfl) h1) (fE (lQ (aa rfl) rfl) e cC))
def rows(m:Nat)(h1:1<=n)(h2:n<=10)(hr:∀ i∈row,i+1<n):a5 T (m+4) 9 [.int (n:Nat),.fL (L row)]=some .non:=(aA (fn:=d6 8 2) rfl).trans (ug (v8 m h1 h2) fun i hi=>hook (m+1) (hr i hi))
def qP{cl:Cl}(hn:n<=10)(hrow:∀ i∈row,i+1<n)(h1:cl 9 [.int (n:Nat),.fL (L row)]=some .non)(h2:cl 5 [.int (n:Nat)]=some (.tup (L (aO n))))
 (h3:∀ (f:List Nat) (i:Nat),Frm n f->i+1<n->cl 7 [.lst (L f),.int (i:Nat)]=some (.tup [.int (bT f (n+i):Nat),.lst (L (aG f (n+i)))])):evF cl (jb 7 5 9) [.int (n:Nat),.fL (L row)]=some (nB n row):=by
 obtain⟨σ',e,o',rfl⟩:=dI (f:=aw cl [2] (jq 7 5 9)) (tg:=[4]) (xs:=row) (σ:=[some (.int (n:Nat)),some (.fL (L row)),some (.lst (L (aO n))),some (.int 0),none])
  (fun p σ=>∃ o,σ=[some (.int (n:Nat)),some (.fL (L row)),some (.lst (L (hangs n p (aO n,0)).1)),some (.int (hangs n p (aO n,0)).2),o]) ⟨none,rfl⟩ (by
   rintro p x q σ rfl ⟨o,rfl⟩;have F:Frm n (hangs n p (aO n,0)).1:=gx (fun i hi=>hrow i (by simp[hi])) (jS n);have hx:=h3 (hangs n p (aO n,0)).1 x F (hrow x (by simp));refine⟨[some (.int (n:Nat)),some (.fL (L (p++x::q))),some (.lst (L (hangs n (p++[x]) (aO n,0)).1)),some (.int (hangs n (p++[x]) (aO n,0)).2),some (.int x)],?_,_,rfl⟩
   simp[fh,jq,aw,wO,bS,evs,hx,cE,isVar,aU,D.imm,xZ,vB,bU,hangs])
 exact bu (fn:=jb 7 5 9) rfl rfl (lD (j7 (aa rfl) (aa rfl) h1) (yc (bC (n6 (aa rfl) h2) rfl) (by simp[aH,bg,a6]) (bb ag rfl (fE (lQ (aa rfl) rfl) e (aD (aP (ai (bC (aa rfl) rfl) (ai (aa rfl) az))) (by simp[bD,nB,D.imm,ao,bg]))))))
def my(h1:1<=n)(h2:n<=10)(hr:∀ i∈row,i+1<n):a5 T 29 6 [.int (n:Nat),.fL (L row)]=some (nB n row) :=
 (aA (fn:=jb 7 5 9) rfl).trans (qP h2 hr (rows 24 h1 h2 hr) ((aA (fn:=gE 2) rfl).trans (run_plain h2 (v8 24 h1 h2))) fun f i F hi=>(aA (fn:=cD 3 4) rfl).trans (km F hi (fun xs=>(aA (fn:=gj) rfl).trans (lZ xs)) fun xs a b ha hb=>(aA (fn:=ku) rfl).trans (ur xs ha hb)))
def oT(h1:1<=n)(h2:n<=10)(hr:∀ i∈row,i+1<n)(S:Stp n r row w a bs r' row')(hz:row.length<=5000):a5 T 29 10 [.int (n:Nat),.int (r:Nat),.fL (L row),trD w a bs]=some (prF r' row'):=by
 have lp:bG (aw (a5 T 27) [] (ka 17 9)) [5,6] (cS 0 [trD w a bs]) [some (.int (n:Nat)),some (.int (r:Nat)),some (.fL (L row)),some (.lst [trD w a bs]),some (prF r row),none,none]=some (.nx,[some (.int (n:Nat)),some (.int (r:Nat)),some (.fL (L row)),some (.lst [trD w a bs]),some (prF r' row'),some (.int 0),some (trD w a bs)]):=by
  refine uR (d:=.tup [.int 0,trD w a bs]) (by show ao [D.int 0,trD w a bs]=true;simp[ao,D.imm,j9]) rfl (bb (dM (aa rfl) (aa rfl) (aa rfl) (oC S hz)) (by unfold aU;rw[cM];rfl) (ax (aX (iY (n:=false) (k:=false) rfl (aa rfl))) cC)) vk
 have wk:a5 T 28 11 [.int (n:Nat),.int (r:Nat),.fL (L row),.lst [trD w a bs]]=some (prF r' row'):=(aA (fn:=kX 17 9) rfl).trans (bu rfl rfl (lD (j7 (aa rfl) (aa rfl) (rows 23 h1 h2 hr)) (bb (aP (ai (aa rfl) (ai (cG (bC (aa rfl) rfl) rfl (bg _)) az))) (by unfold aU;rw[show(D.tup [D.int (r:Nat),.fL (L row)]).imm=true from cM r row];rfl) (fE (yP (aa rfl) rfl) lp (aD (aa rfl) (by unfold bD;rw[cM];rfl))))));exact(aA (fn:=kE 11) rfl).trans (bu rfl rfl (aD (x_call (ai (aa rfl) (ai (aa rfl) (ai (aa rfl) (ai (bw (ai (aa rfl) az)) az)))) wk) (by unfold bD;rw[cM];rfl)))
end
end K32
set_option maxHeartbeats 1000000
namespace K32
open RL RT RM
def rI:∀ (n a:Nat),bx (a:Int) n=L (List.range' a n)
 | 0,_=>rfl
 | n+1,a=>by
  rw[bx,List.range'_succ];show D.int (a:Int)::bx ((a:Int)+1) n=D.int (a:Int)::L (List.range' (a+1) n);rw[<-rI n (a+1)];rfl
def wG{n:Nat}(h:n<=10000):cw (.int 0) (.int n)=some (L (List.range n)):=by
 show(if((n:Int)-0).toNat<=most/\-(2 ^ 60)<=(0:Int)/\(0:Int)<2 ^ 60/\-(2 ^ 60)<=(n:Int)/\(n:Int)<2 ^ 60 then some (bx 0 ((n:Int)-0).toNat)else none)=_
 have q:(2:Int) ^ 60=1152921504606846976:=by decide
 rw[q,if_pos ⟨by unfold most;omega,by omega,by omega,by omega,by omega⟩,show((n:Int)-0).toNat=n by omega,List.range_eq_range'];exact congrArg some (rI n 0)
def yA{ns:List Int}(hl:ns.length<=63):fS (.scr (LI ns)) (.int 63)=some (.lst (LI ns)):=by
 show some (D.lst ((LI ns).take (cutAt (LI ns).length 63)))=_;rw[List.take_of_length_le];rw[pE];unfold cutAt;rw[if_pos (by decide)];show ns.length<=min 63 ns.length;omega
def sR(h:gz ds [a,b,c,d]):∃ x y z u,ds=[x,y,z,u]/\x<a/\y<b/\z<c/\u<d:=by
 obtain⟨h1,h2⟩:=h
 match ds,h1 with
 | [x,y,z,u],_=>exact⟨x,y,z,u,rfl,h2 0 x a rfl rfl,h2 1 y b rfl rfl,h2 2 z c rfl rfl,h2 3 u d rfl rfl⟩
def dg:Dg T 19 20 21:=⟨rfl,rfl,rfl⟩
abbrev IsT(g:D):Prop:=∃ w a bs,bs.length<=1/\g=trD w a bs
def IsT.imm(h:IsT g):g.imm=true:=by
 obtain⟨w,a,bs,_,rfl⟩:=h;exact j9 w a bs
def t2(w:PySem.Str)(a:Int):IsT (.tup [.str w,.int a]):=⟨w,a,[],by simp,rfl⟩
def t3(w:PySem.Str)(a b:Int):IsT (.tup [.str w,.int a,.int b]):=⟨w,a,[b],by simp,rfl⟩
def hJ:∀ {gs:List D},(∀ g∈gs,IsT g)->ao gs=true
 | [],_=>rfl
 | g::r,h=>by rw[ao,(h g (by simp)).imm,hJ fun g hg=>h g (by simp[hg])];rfl
section
variable{cl:Cl}{n r:Nat}{row:List Nat}{F:St->Option (Option D)}{σ:St}{i:Nat}
def oV(hf:F (σ.set i (some d))=some (some x))(im:x.imm=true)(hr:cu F [i] σ ds=some ys):cu F [i] σ (d::ds)=some (x::ys):=by
 show(bP [i] d σ).bind _=_;rw[fh,Option.bind_some,hf,Option.bind_some,hr,Option.bind_some];exact if_pos im
def ly:∀ {gs:List D},(∀ g∈gs,IsT g/\∃ b:Bool,F (σ.set i (some g))=some (if b then some g else none))->∃ gs',cu F [i] σ gs=some gs'/\(∀ g∈gs',IsT g)/\gs'.length<=gs.length
 | [],_=>⟨[],rfl,fun g hg=>(by cases hg),Nat.le_refl _⟩
 | g::r,h=>by
  obtain⟨gs',e,h1,h2⟩:=ly (gs:=r) fun g hg=>h g (by simp[hg]);obtain⟨it,b,hb⟩:=h g (by simp)
  have u:cu F [i] σ (g::r)=(F (σ.set i (some g))).bind fun y=>(cu F [i] σ r).bind (kI y):=by
   show(bP [i] g σ).bind _=_;rw[fh];rfl
  cases b with
  |true=>
   refine⟨g::gs',?_,fun x hx=>?_,by simp;omega⟩
   ·rw[u,hb,e];exact if_pos it.imm
   ·rcases List.mem_cons.mp hx with rfl | hx
    ·exact it
    ·exact h1 x hx
  | false=>exact⟨gs',by rw[u,hb,e];rfl,h1,by simp;omega⟩
def m6(gs:List D):aY .ne (.lst gs) (.lst [])=some (!gs.isEmpty):=by
 cases gs<;>rfl
abbrev sT(s:D)(k n r:Nat)(row:List Nat)(a:Int)(gs:List D)(o6:Option D)(way num far:Nat):St:=[some s,some (.int (k:Nat)),some (.int (n:Nat)),some (prF r row),some (.int a),some (.lst gs),o6,some (.int (way:Nat)),some (.int (num:Nat)),some (.int (far:Nat)),none,none,none,none]
def nO{σ:St}(h:(σ[3]?).bind id=some (prF r row)):ev cl σ (.ix (.var 3) (.cst (.int 1)))=some (.fL (L row)):=aS (aa h) ag rfl
def ph(s:D)(k n way num far:Nat)(a:Int)(hz:row.length<=5000):∃ gs o6,(∀ g∈gs,IsT g)/\gs.length<=6*row.length/\bG (aw cl [] (cA 23 21)) [6] (L (List.range row.length)) (sT s k n r row a [] none way num far)=some (.nx,sT s k n r row a gs o6 way num far):=by
 obtain⟨σ',e,gs,o6,h1,h2,rfl⟩:=dI (f:=aw cl [] (cA 23 21)) (tg:=[6]) (xs:=List.range row.length) (σ:=sT s k n r row a [] none way num far)
  (fun p σ=>∃ gs o6,(∀ g∈gs,IsT g)/\gs.length<=6*p.length/\σ=sT s k n r row a gs o6 way num far) ⟨[],none,fun g hg=>(by cases hg),by simp,rfl⟩ (by
   rintro p x q σ hx ⟨gs,o6,h1,h2,rfl⟩
   have hxr:x<row.length:=by
    have:x∈List.range row.length:=by rw[hx];simp
    simpa using this
   have pl:p.length<=row.length:=by
    have:=congrArg List.length hx;simp at this;omega
   obtain⟨v,hv⟩:∃ v,row[x]?=some v:=⟨row[x],by simp[hxr]⟩
   let A:List D:=[.tup [.str "swap",.int (x:Nat)],.tup [.str "drop",.int (x:Nat)],.tup [.str "cut",.int (x:Nat)],.tup [.str "double",.int (x:Nat)]]
   let B:List D:=[.tup [.str "grow",.int (x:Nat),.int ((v:Int)+-1)],.tup [.str "grow",.int (x:Nat),.int ((v:Int)+1)]]
   have c1:ev cl (sT s k n r row a gs (some (.int (x:Nat))) way num far) (.compA (.tup (.cons (.var 12) (.cons (.var 6) .nil))) [12] (.seq (.tup (.cons (.cst (.str "swap")) (.cons (.cst (.str "drop")) (.cons (.cst (.str "cut")) (.cons (.cst (.str "double")) .nil)))))))=some (.lst A) :=
    mQ (nQ (aP (ai ag (ai ag (ai ag (ai ag az))))) rfl) (by decide) rfl
   have el:∀ (gs:List D) (st:Int),ev cl ((sT s k n r row a gs (some (.int (x:Nat))) way num far).set 13 (some (.int st))) (.tup (.cons (.cst (.str "grow")) (.cons (.var 6) (.cons (.bin .add (.ix (.ix (.var 3) (.cst (.int 1))) (.var 6)) (.var 13)) .nil))))=some (.tup [.str "grow",.int (x:Nat),.int ((v:Int)+st)]):=fun gs st =>
    aP (ai ag (ai (aa rfl) (ai (aq (aS (nO rfl) (aa rfl) (lr hv)) (aa rfl) rfl) az)))
   have c2:∀ gs:List D,ev cl (sT s k n r row a gs (some (.int (x:Nat))) way num far) (.compA (.tup (.cons (.cst (.str "grow")) (.cons (.var 6) (.cons (.bin .add (.ix (.ix (.var 3) (.cst (.int 1))) (.var 6)) (.var 13)) .nil)))) [13] (.seq (.tup (.cons (.neg (.cst (.int 1))) (.cons (.cst (.int 1)) .nil)))))=some (.lst B):=fun gs =>
    mQ (nQ (aP (ai (yR ag) (ai ag az))) rfl) (by decide) (oV (by rw[el];rfl) rfl (oV (by rw[el];rfl) rfl rfl))
   have hA:∀ g∈gs++A,IsT g:=fun g hg=>by
    rcases List.mem_append.mp hg with hg | hg
    ·exact h1 g hg
    ·simp only[A,List.mem_cons,List.not_mem_nil,or_false]at hg;rcases hg with rfl | rfl | rfl | rfl<;>exact t2 _ _
   have hB:∀ g∈gs++A++B,IsT g:=fun g hg=>by
    rcases List.mem_append.mp hg with hg | hg
    ·exact hA g hg
    ·simp only[B,List.mem_cons,List.not_mem_nil,or_false]at hg;rcases hg with rfl | rfl<;>exact t3 _ _ _
   have l1:aI .add (.lst gs) (.lst A)=some (.lst (gs++A)):=by rw[nT];exact if_pos (by show gs.length+4<=most;unfold most;omega)
   have l2:aI .add (.lst (gs++A)) (.lst B)=some (.lst (gs++A++B)):=by rw[nT];exact if_pos (by rw[List.length_append];show gs.length+4+2<=most;unfold most;omega)
   refine⟨sT s k n r row a (gs++A++B) (some (.int (x:Nat))) way num far,?_,_,_,hB,?_,rfl⟩
   ·rw[fh,Option.bind_some];exact bb (aq (aa rfl) c1 l1) (by simp[aU,aH,hJ hA,a6]) (bb (aq (aa rfl) (c2 _) l2) (by simp only[aU,aH,hJ hB,a6];simp) cC)
   ·simp only[List.length_append,List.length_cons,List.length_nil];show gs.length+4+2<=_
    omega)
 exact⟨gs,o6,h1,by simpa using h2,e⟩
def nine(at' far:Int):∀ m:Nat,m<9->∃ g,IsT g/\bq [D.tup [.str "grow",.int at'],.tup [.str "swap",.int at',.int 0],.tup [.str "",.int at'],.tup [.str "Swap",.int at'],.tup [.str "drop",.int far],.tup [.str "cut",.int (0-far)],.tup [.str "drop",.int at',.int 0],.tup [.str "double",.int at',.int 0],.tup [.str "cut",.int at',.int 0]] (m:Nat)=some g
 | 0,_=>⟨_,t2 _ _,rfl⟩
 | 1,_=>⟨_,t3 _ _ _,rfl⟩
 | 2,_=>⟨_,t2 _ _,rfl⟩
 | 3,_=>⟨_,t2 _ _,rfl⟩
 | 4,_=>⟨_,t2 _ _,rfl⟩
 | 5,_=>⟨_,t2 _ _,rfl⟩
 | 6,_=>⟨_,t3 _ _ _,rfl⟩
 | 7,_=>⟨_,t3 _ _ _,rfl⟩
 | 8,_=>⟨_,t3 _ _ _,rfl⟩
def three(a b c:Int):∀ m:Nat,m<3->∃ v,bq [D.int a,.int b,.int c] (m:Nat)=some (.int v)
 | 0,_=>⟨_,rfl⟩
 | 1,_=>⟨_,rfl⟩
 | 2,_=>⟨_,rfl⟩
def four:∀ m:Nat,m<4->∃ w:PySem.Str,bq [D.str "swap",.str "drop",.str "cut",.str "double"] (m:Nat)=some (.str w)
 | 0,_=>⟨_,rfl⟩
 | 1,_=>⟨_,rfl⟩
 | 2,_=>⟨_,rfl⟩
 | 3,_=>⟨_,rfl⟩
def md{b:Nat}(h:0<b)(far:Nat):aI .mod (.int (far:Nat)) (.int (b:Nat))=some (.int ((far%b:Nat):Int)):=by
 rw[cH (by omega)];rfl
def rIs{M:List Nat}{e:E}(h:IsT g):bD M e g=true:=by unfold bD;rw[h.imm];rfl
def qZ{ns:List Int}(hl:ns.length<=63)(hz:row.length<=5000)(hn:1<=n)(k:Nat)(hk:k<=900):∃ w a bs,bs.length<=1/\a5 T 29 24 [.lst (LI ns),.int (k:Nat),.int (n:Nat),prF r row]=some (trD w a bs):=by
 suffices h:∃ g,IsT g/\a5 T 29 24 [.lst (LI ns),.int (k:Nat),.int (n:Nat),prF r row]=some g by
  obtain⟨g,⟨w,a,bs,hb,rfl⟩,e⟩:=h;exact⟨w,a,bs,hb,e⟩
 obtain⟨ds,hd,e1⟩:=dg.digits hl 25 (k:=k) (sizes:=[14,row.length+2,10,10 ^ 20]) (by omega) (by simp;omega) (by simp);obtain⟨way,at0,nm,far,rfl,hw,ha,hm,hf⟩:=sR hd;have pw:aI .pow (.int 10) (.int 20)=some (.int ((10 ^ 20:Nat):Int)):=rfl;have l2:aI .add (.int (row.length:Nat)) (.int 2)=some (.int ((row.length+2:Nat):Int)):=rfl;obtain⟨gs,o6,g1,g2,lp⟩:=ph (cl:=a5 T 28) (r:=r) (row:=row) (.lst (LI ns)) k n way nm far ((at0:Int)-1) hz
 have af:∀ g∈gs,IsT g/\∃ b:Bool,(fun σ1=>((ev (a5 T 28) σ1 (.isN true (.call 23 (.cons (.var 2) (.cons (.var 3) (.cons (.var 11) .nil)))))).bind truth).bind fun k=>if k then(ev (a5 T 28) σ1 (.var 11)).map some else some none) ((sT (.lst (LI ns)) k n r row ((at0:Int)-1) gs o6 way nm far).set 11 (some g))=some (if b then some g else none):=fun g hg=>by
  refine⟨g1 g hg,?_⟩;obtain⟨w,a,bs,hb,rfl⟩:=g1 g hg
  rcases jW (cl:=a5 T 27) (r:=r) hz hn w a bs hb with q | ⟨r',row',_,q⟩
  ·have q:a5 T 28 23 [.int (n:Nat),prF r row,trD w a bs]=some .non:=(aA (fn:=bj) rfl).trans q;refine⟨false,?_⟩;show((ev (a5 T 28) _ _).bind truth).bind _=_;rw[aX (iY (n:=true) (k:=false) rfl (dM (aa rfl) (aa rfl) (aa rfl) q))];rfl
  ·have q:a5 T 28 23 [.int (n:Nat),prF r row,trD w a bs]=some (prF r' row'):=(aA (fn:=bj) rfl).trans q;refine⟨true,?_⟩;show((ev (a5 T 28) _ _).bind truth).bind _=_;rw[aX (iY (n:=true) (k:=true) rfl (dM (aa rfl) (aa rfl) (aa rfl) q))];rfl
 obtain⟨hs,m1,m2,m3⟩:=ly (F:=fun σ1=>((ev (a5 T 28) σ1 (.isN true (.call 23 (.cons (.var 2) (.cons (.var 3) (.cons (.var 11) .nil)))))).bind truth).bind fun k=>if k then(ev (a5 T 28) σ1 (.var 11)).map some else some none) (σ:=sT (.lst (LI ns)) k n r row ((at0:Int)-1) gs o6 way nm far) (i:=11) (gs:=gs) af
 have st:∀ {d σ'},aw (a5 T 28) [] (.cons (.ife (.and (.cmp .lt (.var 7) (.cst (.int 9))) (.cmp .ne (.var 5) (.lst .nil))) (.cons (.ret (.ix (.var 5) (.bin .mod (.var 9) (.bi .len (.var 5))))) .nil) .nil) (.cons (.ife (.cmp .eq (.var 7) (.cst (.int 9))) (.cons (.ret (.tup (.cons (.cst (.str "grow")) (.cons (.var 4) (.cons (.ix (.lst (.cons (.bin .sub (.var 8) (.cst (.int 1))) (.cons (.var 9) (.cons (.bin .sub (.cst (.int 0)) (.var 9)) .nil)))) (.bin .mod (.var 9) (.cst (.int 3)))) .nil))))) .nil) .nil) (.cons (.ife (.cmp .eq (.var 7) (.cst (.int 10))) (.cons (.asg 10 (.lst (.cons (.tup (.cons (.cst (.str "grow")) (.cons (.var 4) .nil))) (.cons (.tup (.cons (.cst (.str "swap")) (.cons (.var 4) (.cons (.cst (.int 0)) .nil)))) (.cons (.tup (.cons (.cst (.str "")) (.cons (.var 4) .nil))) (.cons (.tup (.cons (.cst (.str "Swap")) (.cons (.var 4) .nil))) (.cons (.tup (.cons (.cst (.str "drop")) (.cons (.var 9) .nil))) (.cons (.tup (.cons (.cst (.str "cut")) (.cons (.bin .sub (.cst (.int 0)) (.var 9)) .nil))) .nil)))))))) (.cons (.ret (.ix (.bin .add (.var 10) (.lst (.cons (.tup (.cons (.cst (.str "drop")) (.cons (.var 4) (.cons (.cst (.int 0)) .nil)))) (.cons (.tup (.cons (.cst (.str "double")) (.cons (.var 4) (.cons (.cst (.int 0)) .nil)))) (.cons (.tup (.cons (.cst (.str "cut")) (.cons (.var 4) (.cons (.cst (.int 0)) .nil)))) .nil))))) (.bin .mod (.var 9) (.cst (.int 9))))) .nil)) .nil) (.cons (.ret (.tup (.cons (.ix (.lst (.cons (.cst (.str "swap")) (.cons (.cst (.str "drop")) (.cons (.cst (.str "cut")) (.cons (.cst (.str "double")) .nil))))) (.bin .mod (.var 9) (.cst (.int 4)))) (.cons (.var 4) .nil)))) .nil)))) (sT (.lst (LI ns)) k n r row ((at0:Int)-1) hs o6 way nm far)=some (.rt d,σ')->a5 T 29 24 [.lst (LI ns),.int (k:Nat),.int (n:Nat),prF r row]=some d:=fun {d σ'} z =>
  (aA (fn:=eG 23 21) rfl).trans (bu rfl rfl (eD (dM (aa rfl) (aa rfl) (bw (ai ag (ai (aq (bC (nO rfl) (iQ row)) ag l2) (ai ag (ai (aq ag ag pw) az))))) e1) rfl rfl rfl
   (bb (aq (aa rfl) ag (d:=.int ((at0:Int)-1)) rfl) rfl (bb (bw az) rfl (fE (l5 (bC (nO rfl) (iQ row)) (wG (by omega))) lp
   (bb (yf (nQ (aa rfl) rfl) (by show gs.length<=most;unfold most;omega) m1) (by simp[aU,aH,hJ m2,a6]) z))))))
 have rest:∀ (h9:¬ way<9\/hs=[]),∃ g,IsT g/\a5 T 29 24 [.lst (LI ns),.int (k:Nat),.int (n:Nat),prF r row]=some g:=fun h9=>by
  have no1:(ev (a5 T 28) (sT (.lst (LI ns)) k n r row ((at0:Int)-1) hs o6 way nm far) (.and (.cmp .lt (.var 7) (.cst (.int 9))) (.cmp .ne (.var 5) (.lst .nil)))).bind truth=some false:=by
   by_cases hw9:way<9
   ·have e:hs=[]:=h9.resolve_left (by omega);subst e;exact aX (bE (a9 (aa rfl) ag (by show some (decide _)=_;rw[decide_eq_true (by omega)])) (a9 (aa rfl) (bw az) (m6 _)))
   ·exact aX (cB (a9 (aa rfl) ag (by show some (decide _)=_;rw[decide_eq_false (by omega)])))
  by_cases w9:way=9
  ·subst w9;obtain⟨v,hv⟩:=three ((nm:Int)-1) far (0-far) (far%3) (by omega);exact⟨_,t3 "grow" ((at0:Int)-1) v,st (ax no1 (bJ (aX (a9 (aa rfl) ag rfl)) (aD (aP (ai ag (ai (aa rfl) (ai (aS (bw (ai (aq (aa rfl) ag rfl) (ai (aa rfl) (ai (aq ag (aa rfl) rfl) az)))) (aq (aa rfl) ag (md (b:=3) (by omega) far)) hv) az)))) (rIs (t3 _ _ _)))))⟩
  ·have no2:(ev (a5 T 28) (sT (.lst (LI ns)) k n r row ((at0:Int)-1) hs o6 way nm far) (.cmp .eq (.var 7) (.cst (.int 9)))).bind truth=some false:=aX (a9 (aa rfl) ag (by show some (_ == _)=_;rw[beq_eq_false_iff_ne.mpr (by omega)]));by_cases w10:way=10
   ·subst w10;obtain⟨g,hg,hv⟩:=nine ((at0:Int)-1) far (far%9) (by omega)
    exact⟨g,hg,st (ax no1 (ax no2 (bJ (aX (a9 (aa rfl) ag rfl)) (bb (bw (ai (aP (ai ag (ai (aa rfl) az))) (ai (aP (ai ag (ai (aa rfl) (ai ag az)))) (ai (aP (ai ag (ai (aa rfl) az))) (ai (aP (ai ag (ai (aa rfl) az))) (ai (aP (ai ag (ai (aa rfl) az))) (ai (aP (ai ag (ai (aq ag (aa rfl) rfl) az))) az))))))) rfl
     (aD (aS (aq (aa rfl) (bw (ai (aP (ai ag (ai (aa rfl) (ai ag az)))) (ai (aP (ai ag (ai (aa rfl) (ai ag az)))) (ai (aP (ai ag (ai (aa rfl) (ai ag az)))) az)))) rfl) (aq (aa rfl) ag (md (b:=9) (by omega) far)) hv) (rIs hg))))))⟩
   ·have no3:(ev (a5 T 28) (sT (.lst (LI ns)) k n r row ((at0:Int)-1) hs o6 way nm far) (.cmp .eq (.var 7) (.cst (.int 10)))).bind truth=some false:=aX (a9 (aa rfl) ag (by show some (_ == _)=_;rw[beq_eq_false_iff_ne.mpr (by omega)]));obtain⟨w,hv⟩:=four (far%4) (by omega);exact⟨_,t2 w ((at0:Int)-1),st (ax no1 (ax no2 (ax no3 (aD (aP (ai (aS (bw (ai ag (ai ag (ai ag (ai ag az))))) (aq (aa rfl) ag (md (b:=4) (by omega) far)) hv) (ai (aa rfl) az))) (rIs (t2 _ _))))))⟩
 by_cases hw9:way<9
 ·cases hs with
  | nil=>exact rest (.inr rfl)
  |cons g0 hs=>
   have hi:far%(g0::hs).length<(g0::hs).length:=Nat.mod_lt _ (by simp)
   have hv:bq (g0::hs) ((far%(g0::hs).length:Nat):Int)=some ((g0::hs)[far%(g0::hs).length]):=by
    unfold bq;rw[if_pos (Int.natCast_nonneg _),Int.toNat_natCast];exact List.getElem?_eq_getElem hi
   have it:=m2 _ (List.getElem_mem hi);exact⟨_,it,st (bJ (aX (bE (a9 (aa rfl) ag (by show some (decide _)=_;rw[decide_eq_true (by omega)])) (a9 (aa rfl) (bw az) (m6 _)))) (aD (aS (aa rfl) (aq (aa rfl) (bC (aa rfl) rfl) (md (by simp) far)) hv) (rIs it)))⟩
 ·exact rest (.inl hw9)
def x5(f:List Nat):aY .ne (.tup (L f)) (.tup (L f))=some false:=by
 show(((eqs (eqD 7) (L f) (L f)).map fun k=>k&&(L f).length == (L f).length)).map not=_;rw[tj 7];simp
abbrev sL(s:D)(n r0 sz st:Nat)(fr:List Nat)(fa r:Nat)(row:List Nat)(o3 o9 o10 o11:Option D):St:=[some s,some (.int (n:Nat)),some (prF r row),o3,some (.int (r0:Nat)),some (.int (sz:Nat)),some (.int (st:Nat)),some (.tup (L fr)),some (.int (fa:Nat)),o9,o10,o11]
def turn{ns:List Int}{r0 sz st fa k:Nat}{fr:List Nat}(hl:ns.length<=63)(h1:2<=n)(h2:n<=10)(hz:row.length<=4990)(hr:∀ i∈row,i+1<n)(e1:(a8 n row).1=fr)(e2:(a8 n row).2+r=fa+r0)(hk:k<=100)(o9 o10 o11:Option D) :
  ∃ r' row' o9 o10 o11',(∀ i∈row',i+1<n)/\(a8 n row').1=fr/\(a8 n row').2+r'=fa+r0/\row'.length<=row.length+2/\aw (a5 T 29) [] (lE 23 6 10 24 22 21) (sL (.lst (LI ns)) n r0 sz st fr fa r row (some (.int (k:Nat))) o9' o10' o11)=some (.nx,sL (.lst (LI ns)) n r0 sz st fr fa r' row' (some (.int (k:Nat))) o9 o10 o11'):=by
 obtain⟨w,a,bs,hb,q0⟩:=qZ (r:=r) (row:=row) (n:=n) hl (by omega) (by omega) (3+k) (by omega);have b3:aI .add (.int 3) (.int (k:Nat))=some (.int ((3+k:Nat):Int)):=rfl;have c0:∀ {o9 o10 o11},ev (a5 T 29) (sL (.lst (LI ns)) n r0 sz st fr fa r row (some (.int (k:Nat))) o9 o10 o11) (.call 24 (.cons (.var 0) (.cons (.bin .add (.cst (.int 3)) (.var 3)) (.cons (.var 1) (.cons (.var 2) .nil)))))=some (trD w a bs):=x_call (ai (aa rfl) (ai (aq ag (aa rfl) b3) (ai (aa rfl) (ai (aa rfl) az)))) q0
 have ok:aU [] (.call 24 (.cons (.var 0) (.cons (.bin .add (.cst (.int 3)) (.var 3)) (.cons (.var 1) (.cons (.var 2) .nil))))) (trD w a bs)=true:=by unfold aU;rw[j9];rfl
 rcases jW (cl:=a5 T 28) (r:=r) (n:=n) (row:=row) (by omega) (by omega) w a bs hb with q | ⟨r',row',S,q⟩
 ·have q:a5 T 29 23 [.int (n:Nat),prF r row,trD w a bs]=some .non:=(aA (fn:=bj) rfl).trans q;exact⟨r,row,_,_,_,hr,e1,e2,by omega,bb c0 ok (ax (aX (iY (n:=true) (k:=false) rfl (dM (aa rfl) (aa rfl) (aa rfl) q))) cC)⟩
 ·have q:a5 T 29 23 [.int (n:Nat),prF r row,trD w a bs]=some (prF r' row'):=(aA (fn:=bj) rfl).trans q;obtain⟨k1,k2,k3,k4⟩:=S.keep hr;have tr:=oT (by omega) h2 hr S (by omega);have md:=my (by omega) h2 k1
  have im:ao [D.tup (L (a8 n row').1),.int ((a8 n row').2:Nat)]=true:=by simp[ao,D.imm,bg]
  have c1:aY .ne (.tup (L (a8 n row').1)) (.tup (L fr))=some false:=by rw[k2,e1];exact x5 fr
  have c2:aY .ne (.int (((a8 n row').2:Int)+(r':Nat))) (.int ((fa:Int)+(r0:Nat)))=some false:=by
   show some (!(_ == _))=_;rw[beq_iff_eq.mpr (by omega)];rfl
  refine⟨r',row',_,_,_,k1,k2.trans e1,by omega,k4,bb c0 ok (oy (aX (iY (n:=true) (k:=true) rfl (dM (aa rfl) (aa rfl) (aa rfl) q))) (bb (x_call (ai (aa rfl) (ai (aS (aa rfl) ag rfl) (ai (aS (aa rfl) ag rfl) (ai (aa rfl) az)))) tr) (by unfold aU;rw[cM];rfl)
   (eD (j7 (aa rfl) (aS (aa rfl) ag rfl) md) rfl im rfl (ax (aX (et (a9 (aa rfl) (aa rfl) c1) (et (a9 (aq (aa rfl) (aS (aa rfl) ag rfl) rfl) (aq (aa rfl) (aa rfl) rfl) c2) (a9 (aS (aa rfl) ag rfl) ag (k:=false) (by show some (decide _)=_;rw[decide_eq_false (by omega)]))))) cC))) cC)⟩
end
def main(ns:List Int)(hl:ns.length<=63):a5 T 30 25 [.scr (ns.map D.int)]=some (.bl true):=by
 obtain⟨ds,hd,e2⟩:=dg.digits hl 26 (k:=60) (sizes:=[9,6,13,16]) (by omega) (by simp) (by simp);obtain⟨p,r0,sz,st,rfl,hp,hr0,hsz,hst⟩:=sR hd;have e0:aI .add (.int 2) (.int (p:Nat))=some (.int ((2+p:Nat):Int)):=rfl
 have n2:2<=2+p:=by omega
 have n10:2+p<=10:=by omega
 generalize 2+p=n at *;obtain⟨hs,hh,hsl,ehk⟩:=pI (cl:=a5 T 28) (f:=21) (scr:=.lst (LI ns)) (k:=0) (n:=n) (size:=sz) n2 (by omega) (by omega) (fun k hk=>dg.digits hl 25 (k:=k) (sizes:=List.replicate 12 97) hk (by simp) (by simp));have ehk:a5 T 29 22 [.lst (LI ns),.int 0,.int (n:Nat),.int (sz:Nat)]=some (.lst (L hs)):=(aA (fn:=d7 21) rfl).trans ehk;have md:=my (row:=hs) (by omega) n10 hh
 have im:ao [D.tup (L (a8 n hs).1),.int ((a8 n hs).2:Nat)]=true:=by simp[ao,D.imm,bg]
 obtain⟨σ',e,r,row,o3,o9,o10,o11,_,_,_,_,rfl⟩:=dI (f:=aw (a5 T 29) [] (lE 23 6 10 24 22 21)) (tg:=[3]) (xs:=List.range st) (σ:=sL (.lst (LI ns)) n r0 sz st (a8 n hs).1 (a8 n hs).2 r0 hs none none none none)
  (fun p σ=>∃ r row o3 o9 o10 o11,(∀ i∈row,i+1<n)/\(a8 n row).1=(a8 n hs).1/\(a8 n row).2+r=(a8 n hs).2+r0/\row.length<=1200+2*p.length/\σ=sL (.lst (LI ns)) n r0 sz st (a8 n hs).1 (a8 n hs).2 r row o3 o9 o10 o11) ⟨r0,hs,none,none,none,none,hh,rfl,rfl,by simpa using hsl,rfl⟩ (by
   rintro p x q σ hx ⟨r,row,o3,o9,o10,o11,a1,a2,a3,a4,rfl⟩
   have hxr:x<st:=by
    have:x∈List.range st:=by rw[hx];simp
    simpa using this
   have pl:p.length<=st:=by
    have:=congrArg List.length hx;simp at this;omega
   obtain⟨r',row',b9,b10,b11,c1,c2,c3,c4,c5⟩:=turn (o9':=o9) (o10':=o10) (sz:=sz) (st:=st) (k:=x) hl n2 n10 (by omega) a1 a2 a3 (by omega) o9 o10 o11
   exact⟨_,by rw[fh,Option.bind_some];exact c5,r',row',_,_,_,_,c1,c2,c3,by rw[List.length_append];simp;omega,rfl⟩)
 exact(aA (fn:=sk 23 6 10 24 22 21) rfl).trans (bu rfl rfl (bb (cR (aa rfl) ag (yA hl)) (by simp[aU,D.imm,aH,p6])
  (eD (dM (aa rfl) ag (bw (ai ag (ai ag (ai ag (ai ag az))))) e2) rfl rfl rfl
  (bb (aq ag (aa rfl) e0) rfl
  (bb (aP (ai (aa rfl) (ai (cG (x_call (ai (aa rfl) (ai ag (ai (aa rfl) (ai (aa rfl) az)))) ehk) rfl (bg _)) az))) (by unfold aU;rw[show(D.tup [D.int (r0:Nat),.fL (L hs)]).imm=true from cM r0 hs];rfl)
  (eD (j7 (aa rfl) (aS (aa rfl) ag rfl) md) rfl im rfl
  (fE (l5 (aa rfl) (wG (by omega))) e (aD ag rfl))))))))
end K32
namespace L2
open PySem PySem.Spec PyProof.Rows
@[reducible]noncomputable def Key:=Sum Int Str
abbrev gD:Key->Value->Bool
 | .inl k,v=>Value.isInt k v
 | .inr x,v=>Value.isStrOf x v
abbrev zD(w:World):Key->Int
 | .inl k=>hashInt k
 | .inr x=>hashStr w x
def bA:∀ {k:Key} {v:Value},gD k v=true->(∃ i t,k=Sum.inl i/\v=Value.int i t)\/(∃ x t,k=Sum.inr x/\v=Value.str x t)
 | .inl i,v,h=>by
  obtain⟨t,e⟩:=Value.isInt_shape (k:=i) (v:=v) h;exact .inl ⟨i,t,rfl,e⟩
 | .inr x,v,h=>by
  obtain⟨t,e⟩:=Value.isStrOf_shape (x:=x) (v:=v) h;exact .inr ⟨x,t,rfl,e⟩
def om(i:Int)(t:Tok):gD (.inl i) (.int i t)=true:=by simp[gD,Value.isInt]
def qj(x:Str)(t:Tok):gD (.inr x) (.str x t)=true:=by simp[gD,Value.isStrOf]
def v5(a b:Int):decide ((Sum.inl a:Key)=Sum.inl b)=(a == b):=by
 by_cases e:a=b
 ·subst e;simp
 ·have h:¬ (Sum.inl a:Key)=Sum.inl b:=fun q=>e (Sum.inl.inj q);rw[decide_eq_false h];exact(beq_eq_false_iff_ne.mpr e).symm
def p7(a b:Str):decide ((Sum.inr a:Key)=Sum.inr b)=decide (a=b):=by
 by_cases e:a=b
 ·subst e;simp
 ·have h:¬ (Sum.inr a:Key)=Sum.inr b:=fun q=>e (Sum.inr.inj q);rw[decide_eq_false h,decide_eq_false e]
def xl(a:Int)(b:Str):decide ((Sum.inl a:Key)=Sum.inr b)=false:=decide_eq_false (fun q=>nomatch q)
def vC(a:Str)(b:Int):decide ((Sum.inr a:Key)=Sum.inl b)=false:=decide_eq_false (fun q=>nomatch q)
abbrev aM(prog:Program)(w:World):PySem.KeyKind prog w Key where
 is:=gD
 hash:=zD w
 inj:=fun v a b ha hb=>by
  rcases bA ha with⟨i,t,rfl,rfl⟩ | ⟨x,t,rfl,rfl⟩
  ·rcases bA hb with⟨j,u,rfl,e⟩ | ⟨y,u,rfl,e⟩
   ·injection e with e1 _;rw[e1]
   ·exact nomatch e
  ·rcases bA hb with⟨j,u,rfl,e⟩ | ⟨y,u,rfl,e⟩
   ·exact nomatch e
   ·injection e with e1 _;rw[e1]
 byValue:=fun k v h=>by
  rcases bA h with⟨i,t,rfl,rfl⟩ | ⟨x,t,rfl,rfl⟩<;>rfl
 pyHash:=fun hv h=>by
  rcases bA hv with⟨i,t,rfl,rfl⟩ | ⟨x,t,rfl,rfl⟩
  ·exact wpAny_pyHash_int h
  ·exact wpAny_pyHash_str h
 eqBool:=fun hu hv h=>by
  rcases bA hu with⟨i,t,rfl,rfl⟩ | ⟨x,t,rfl,rfl⟩
  ·rcases bA hv with⟨j,u,rfl,rfl⟩ | ⟨y,u,rfl,rfl⟩
   ·rw[v5]at h;exact wpAny_eqBool_int h
   ·rw[xl]at h;exact SeqAt.EqAt.int_str i t y u _ _ _ _ h
  ·rcases bA hv with⟨j,u,rfl,rfl⟩ | ⟨y,u,rfl,rfl⟩
   ·rw[vC]at h;exact SeqAt.EqAt.str_int x t j u _ _ _ _ h
   ·rw[p7]at h;exact wpAny_eqBool_str h
 «strs»:=fun k x t v h=>by
  rcases bA h with⟨i,u,rfl,e⟩ | ⟨y,u,rfl,e⟩
  ·exact nomatch e
  ·injection e with e1 _;subst e1;cases v<;>rfl
def mh(prog:Program)(w:World)(i:Int)(t:Tok):(aM prog w).is (.inl i) (.int i t)=true:=om i t
def ij(prog:Program)(w:World)(x:Str)(t:Tok):(aM prog w).is (.inr x) (.str x t)=true:=qj x t
set_option genInjectivity true in
inductive V where
 | non | bl (b:Bool) | int (i:Int) | str (x:Str) | byt (b:Array UInt8) | flt (b:UInt64) | ref (a:Addr) | ty (n:String)
 deriving DecidableEq
abbrev RelV:V->Value->Prop
 | .non,u=>u=Value.none
 | .bl b,u=>u=Value.bool b
 | .int i,u=>∃ t,u=Value.int i t
 | .str x,u=>∃ t,u=Value.str x t
 | .byt b,u=>∃ t,u=Value.bytes b t
 | .flt b,u=>∃ t,u=Value.float b t
 | .ref a,u=>u=Value.ref a
 | .ty n,u=>u=Value.type n
@[reducible]noncomputable def Vals:List V->List Value->Prop:=Paired RelV
def Vals.length(r:Vals xs us):xs.length=us.length:=Paired.length r
def Vals.get:∀ {xs:List V} {us:List Value} {i:Nat} {x:V},Vals xs us->xs[i]?=some x->∃ u,us[i]?=some u/\RelV x u
 | _,_,_,_,.nil,e=>by simp at e
 | _,_,0,_,.cons r _,e=>by simp at e;subst e;exact⟨_,rfl,r⟩
 | _,_,i+1,x,.cons _ t,e=>by
  obtain⟨u,h1,h2⟩:=Vals.get (i:=i) (x:=x) t (by simpa using e);exact⟨u,by simpa using h1,h2⟩
def Vals.set(r:RelV x u):∀ {xs:List V} {us:List Value} (i:Nat),Vals xs us->Vals (xs.set i x) (us.set i u)
 | _,_,_,.nil=>.nil
 | _,_,0,.cons _ t=>.cons r t
 | _,_,i+1,.cons q t=>.cons q (Vals.set r i t)
def Vals.append:∀ {xs ys:List V} {us ws:List Value},Vals xs us->Vals ys ws->Vals (xs++ys) (us++ws)
 | _,_,_,_,.nil,s=>s
 | _,_,_,_,.cons r t,s=>.cons r (Vals.append t s)
def Vals.take:∀ {xs:List V} {us:List Value} (n:Nat),Vals xs us->Vals (xs.take n) (us.take n)
 | _,_,0,_=>.nil
 | _,_,_+1,.nil=>.nil
 | _,_,n+1,.cons r t=>.cons r (Vals.take n t)
def Vals.drop:∀ {xs:List V} {us:List Value} (n:Nat),Vals xs us->Vals (xs.drop n) (us.drop n)
 | _,_,0,r=>r
 | _,_,_+1,.nil=>.nil
 | _,_,n+1,.cons _ t=>Vals.drop n t
abbrev j6:Option V->Option Value->Prop
 | some v,some u=>RelV v u
 | none,none=>True
 | _,_=>False
abbrev KV:List (κ × V)->List (κ × Value)->Prop:=Paired fun(p:κ × V) (q:κ × Value)=>p.1=q.1/\RelV p.2 q.2
abbrev kV:Key->V
 | .inl i=>.int i
 | .inr x=>.str x
inductive HO where
  | lst (xs:List V)
  | tup (xs:List V)
  | dK (kvs:List (Key × V)) | dT (kvs:List (List Key × V))
  | set (S:Int->Bool) (n:Nat)
  | ins (C dx:Addr) (fs:List (Str × V))
  | own (x:Addr)
  | xd (fs:List (Str × V))
  | met (f x:Addr)
  | rng (lo hi:Int)
  | frz (o:Obj) (u:HO)
  | tbl (ps:Array Value)
  | ext (φ:Heap->Prop)
@[reducible]noncomputable def Hp:=Addr->Option HO
abbrev upd(H:Hp)(a:Addr)(o:HO):Hp:=fun b=>if b=a then some o else H b
def aV:upd H a o a=some o:=by unfold upd;rw[if_pos rfl]
def aE(h:b≠a):upd H a o b=H b:=by unfold upd;rw[if_neg h]
def hZ{H:Hp}(h:H a=some o)(h':H b=some u)(d:o≠u):a≠b:=by
 intro e;subst e;rw[h]at h';exact d (Option.some.inj h')
def aJ{H:Hp}(h:H a=some o)(h':H b=none):a≠b:=by
 intro e;subst e;rw[h]at h';cases h'
section
variable(P:Program)(w:World)
abbrev bf(H:Hp)(h:Heap)(a:Addr):HO->Prop
 | .lst xs=>xs.length<=sizeLine/\∃ (its:List Value) (n:Nat),Vals xs its/\h.get? a=some { cls:=.type "list",data:=.seq its.toArray n }
 | .tup xs=>xs.length<=sizeLine/\∃ its:List Value,Vals xs its/\IsTup h a its.toArray
 | .dK kvs=>kvs.length<=sizeLine/\(a == sysModules)=false/\∃ vs,KV kvs vs/\h.DictOf (aM P w) a vs
 | .dT kvs=>kvs.length<=sizeLine/\(a == sysModules)=false/\∃ xs:List (List Key × Addr × Value),
   Paired (fun(p:List Key × V) (q:List Key × Addr × Value)=>p.1=q.1/\H q.2.1=some (.tup (p.1.map kV))/\RelV p.2 q.2.2) kvs xs /\
   ∃ o es ep,h.get? a=some o/\o.ExactDict/\o.data=.dict es ep/\es.toList=xs.map (entryOfKey (tupleKind (aM P w)))/\(xs.map (·.1)).Nodup
 | .set S n=>h.SetOf (intKind P w) a S n
 | .ins C dx fs=>H dx=some (.own a)/\fs.length<=1000/\dx≠a/\h.get? a=some (PySem.W.instObj C dx) /\
   ∃ mA,h.Ns1 dx mA/\(∀ f,j6 (fs.lookup f) (mA f))/\PySem.Within mA (fs.map (·.1))
 | .own _=>∃ o,h.get? a=some o
 | .xd fs=>∃ mA,h.Ns1 a mA/\∀ f,j6 (fs.lookup f) (mA f)
 | .rng lo hi=>∃ t u v,h.get? a=some { cls:=.type "range",data:=.fields #[.int lo t,.int hi u,.int 1 v] }
 | .frz o u=>h.get? a=some o/\bf H h a u
 | .tbl ps=>h.get? a=some { cls:=.none,data:=.fields ps }
 | .met f x=>h.get? a=some (PySem.W.methodObj (.ref f) (.ref x))
 | .ext φ=>φ h/\(∃ o,h.get? a=some o)/\∀ h1 h2:Heap,φ h1->(∀ o,h1.get? a=some o->h2.get? a=some o)->φ h2
abbrev HOk(H:Hp)(h:Heap):Prop:=∀ a o,H a=some o->bf P w H h a o
end
section
variable{P:Program}{w:World}{H H':Hp}{h h':Heap}{a:Addr}{o:HO}
def bf.lt(x:bf P w H h a o):a<h.objs.size:=by
 cases o with
 | lst xs=>obtain⟨_,_,_,_,e⟩:=x;exact Heap.lt_size e
 | tup xs=>obtain⟨_,_,_,p⟩:=x;exact p.lt
 | dK kvs=>obtain⟨_,_,_,_,o,_,_,e,_⟩:=x;exact Heap.lt_size e
 | dT kvs=>obtain⟨_,_,_,_,o,_,_,e,_⟩:=x;exact Heap.lt_size e
 | set S n=>obtain⟨o,_,_,_,e,_⟩:=x;exact Heap.lt_size e
 | ins C dx fs=>obtain⟨_,_,_,e,_⟩:=x;exact Heap.lt_size e
 | own y=>obtain⟨_,e⟩:=x;exact Heap.lt_size e
 | xd fs=>obtain⟨_,⟨_,_,_,e,_⟩,_⟩:=x;exact Heap.lt_size e
 | rng lo hi=>obtain⟨_,_,_,e⟩:=x;exact Heap.lt_size e
 | frz ob u=>obtain⟨e,_⟩:=x;exact Heap.lt_size e
 | tbl ps=>exact Heap.lt_size (show h.get? a=some _ from x)
 | met f y=>exact Heap.lt_size (show h.get? a=some _ from x)
 | ext φ=>obtain⟨_,⟨_,e⟩,_⟩:=x;exact Heap.lt_size e
def Paired.qC:∀ {l₁:List α} {l₂:List β},Paired F l₁ l₂->(∀ a b,F a b->G a b)->Paired G l₁ l₂
 | _,_,.nil,_=>.nil
 | _,_,.cons r t,f=>.cons (f _ _ r) (Paired.qC t f)
def bf.js(x:bf P w H h a o)(k:∀ b u,(b=a\/H b=some (.own a))->h.get? b=some u->h'.get? b=some u)
 (ho:∀ b,H b=some (.own a)->H' b=some (.own a))(ht:∀ b xs,H b=some (.tup xs)->H' b=some (.tup xs)):bf P w H' h' a o:=by
 induction o with
 | lst xs=>obtain⟨z,its,n,r,e⟩:=x;exact⟨z,its,n,r,k _ _ (.inl rfl) e⟩
 | tup xs=>obtain⟨z,its,r,ob,e,c⟩:=x;exact⟨z,its,r,ob,k _ _ (.inl rfl) e,c⟩
 | dK kvs=>obtain⟨z,y,vs,r,ob,es,ep,e,c⟩:=x;exact⟨z,y,vs,r,ob,es,ep,k _ _ (.inl rfl) e,c⟩
 |dT kvs=>
  obtain⟨z,y,xs,r,ob,es,ep,e,c⟩:=x;exact⟨z,y,xs,Paired.qC r fun p q z=>⟨z.1,ht _ _ z.2.1,z.2.2⟩,ob,es,ep,k _ _ (.inl rfl) e,c⟩
 | set S n=>obtain⟨ob,es,ep,t,e,c⟩:=x;exact⟨ob,es,ep,t,k _ _ (.inl rfl) e,c⟩
 |ins C dx fs=>
  obtain⟨d,z,ne,e,mA,⟨od,es,ep,e2,c⟩,r⟩:=x;exact⟨ho _ d,z,ne,k _ _ (.inl rfl) e,mA,⟨od,es,ep,k _ _ (.inr d) e2,c⟩,r⟩
 | own y=>obtain⟨ob,e⟩:=x;exact⟨ob,k _ _ (.inl rfl) e⟩
 | xd fs=>obtain⟨mA,⟨od,es,ep,e,c⟩,r⟩:=x;exact⟨mA,⟨od,es,ep,k _ _ (.inl rfl) e,c⟩,r⟩
 | rng lo hi=>obtain⟨t,u,v,e⟩:=x;exact⟨t,u,v,k _ _ (.inl rfl) e⟩
 | frz ob u ih=>obtain⟨e,q⟩:=x;exact⟨k _ _ (.inl rfl) e,ih q⟩
 |tbl ps=>
  have e:h.get? a=some { cls:=.none,data:=.fields ps }:=x;show h'.get? a=some { cls:=.none,data:=.fields ps };exact k a _ (.inl rfl) e
 |met f y=>
  have e:h.get? a=some (PySem.W.methodObj (.ref f) (.ref y)):=x;show h'.get? a=some (PySem.W.methodObj (.ref f) (.ref y));exact k a _ (.inl rfl) e
 | ext φ=>obtain⟨p,⟨o,e⟩,st⟩:=x;exact⟨st _ _ p fun o q=>k _ _ (.inl rfl) q,⟨o,k _ _ (.inl rfl) e⟩,st⟩
def HOk.lt(x:HOk P w H h)(e:H a=some o):a<h.objs.size:=(x a o e).lt
def HOk.fresh(x:HOk P w H h)(e:h.objs.size<=a):H a=none:=by
 cases q:H a with
 | none=>rfl
 | some u=>exact absurd (Nat.lt_of_lt_of_le (x.lt q) e) (Nat.lt_irrefl _)
def HOk.kept(x:HOk P w H h)(k:∀ b u,h.get? b=some u->h'.get? b=some u):HOk P w H h':=fun a o e =>
 (x a o e).js (fun b u _ q=>k b u q) (fun _ q=>q) fun _ _ q=>q
def HOk.laid(x:HOk P w H h)(k:∀ b u,h.get? b=some u->h'.get? b=some u)(hp:h.objs.size<=a)(new:bf P w (upd H a o) h' a o):HOk P w (upd H a o) h':=fun b u e=>by
 have hn:=x.fresh hp;by_cases hb:b=a
 ·subst hb;rw[aV]at e;cases e;exact new
 ·rw[aE hb]at e
  exact(x b u e).js (fun c v _ q=>k c v q) (fun c q=>by rw[aE (aJ q hn)];exact q) fun c xs q=>by rw[aE (aJ q hn)];exact q
end
abbrev Rd(H:Hp)(a:Addr)(u:HO):Prop:=H a=some u\/∃ o,H a=some (.frz o u)
def Rd.ok(r:Rd H a u)(x:HOk P w H h):bf P w H h a u:=by
 rcases r with r | ⟨o,r⟩
 ·exact x a u r
 ·obtain⟨_,q⟩:=x a _ r;exact q
abbrev Mut:Option HO->Prop
 | some (.lst _)=>True
 | some (.dK _)=>True
 | some (.dT _)=>True
 | some (.set _ _)=>True
 | some (.ins _ _ _)=>True
 | some (.ext _)=>True
 | _=>False
section
variable{P:Program}{w:World}{H:Hp}{h h':Heap}{x e:Addr}{o':HO}
def HOk.write(ok:HOk P w H h)(mu:Mut (H x))(he:e=x\/H e=some (.own x))(k:∀ b u,b≠e->h.get? b=some u->h'.get? b=some u)(heo:∃ u,h'.get? e=some u)
 (new:bf P w (upd H x o') h' x o'):HOk P w (upd H x o') h':=fun b u q=>by
 have nown:∀ c y,H c=some (.own y)->c≠x:=fun c y r z=>by subst z;rw[r]at mu;exact mu
 have ntup:∀ c xs,H c=some (.tup xs)->c≠x:=fun c xs r z=>by subst z;rw[r]at mu;exact mu
 by_cases hb:b=x
 ·subst hb;rw[aV]at q;cases q;exact new
 ·rw[aE hb]at q;by_cases hbe:b=e
  ·have q':H b=some (.own x):=by
    rcases he with z | z
    ·exact absurd (hbe.trans z) hb
    ·rw[hbe];exact z
   rw[q]at q';cases q';obtain⟨v,hv⟩:=heo;exact⟨v,by rw[hbe];exact hv⟩
  ·refine(ok b u q).js (fun c v hc r=>k c v ?_ r) (fun c r=>by rw[aE (nown c b r)];exact r) fun c xs r=>by rw[aE (ntup c xs r)];exact r
   rcases hc with rfl | hc
   ·exact hbe
   ·rintro rfl;rcases he with z | z
    ·exact nown c b hc z
    ·rw[hc]at z;cases z;exact hb rfl
end
structure Un(fs ex:List Addr)(H H':Hp)(h h':Heap):Prop where
 keep:∀ b o,h.get? b=some o->H b=none->b∉fs->b∉ex->h'.get? b=some o
 slot:∀ b o,h.get? b=some o->H b=none->b∈fs->b∉ex->∃ sl,h'.get? b=some { o with slots:=sl }
 free:∀ b o,h.get? b=some o->H b=none->b∉ex->H' b=none
 there:∀ b o,h.get? b=some o->b∉ex->∃ o',h'.get? b=some o'
 gm:∀ b xs,H b=some (.tup xs)->H' b=some (.tup xs)
 eZ:∀ b o u,H b=some (.frz o u)->H' b=some (.frz o u)
 gB:∀ b ps,H b=some (.tbl ps)->∃ more,H' b=some (.tbl (ps++more))
section
variable{fs fs' ex ex':List Addr}{H H1 H2:Hp}{h h1 h2 h':Heap}{a x e:Addr}{o:HO}
def Un.any(u:Un fs ex H H1 h h1)(q:h.get? b=some ob)(n:H b=none)(hx:b∉ex):∃ sl,h1.get? b=some { ob with slots:=sl }:=by
 by_cases hb:b∈fs
 ·exact u.slot b ob q n hb hx
 ·exact⟨ob.slots,u.keep b ob q n hb hx⟩
def Un.kept(k:∀ b u,h.get? b=some u->h'.get? b=some u):Un fs ex H H h h' :=
 ⟨fun b ob q _ _ _=>k b ob q,fun b ob q _ _ _=>⟨ob.slots,k b ob q⟩,fun _ _ _ n _=>n,fun b ob q _=>⟨ob,k b ob q⟩,fun _ _ q=>q,fun _ _ _ q=>q,fun _ ps q=>⟨#[],by rw[q];simp⟩⟩
def Un.refl:Un fs ex H H h h:=Un.kept fun _ _ q=>q
def Un.laid(k:∀ b u,h.get? b=some u->h'.get? b=some u)(hp:h.objs.size<=a)(hn:H a=none):Un fs ex H (upd H a o) h h' where
 keep:=fun b u q _ _ _=>k b u q
 slot:=fun b u q _ _ _=>⟨u.slots,k b u q⟩
 free:=fun b u q n _=>by rw[aE (Nat.ne_of_lt (Nat.lt_of_lt_of_le (Heap.lt_size q) hp))];exact n
 there:=fun b u q _=>⟨u,k b u q⟩
 gm:=fun b xs q=>by rw[aE (aJ q hn)];exact q
 eZ:=fun b u xs q=>by rw[aE (aJ q hn)];exact q
 gB:=fun b ps q=>⟨#[],by rw[aE (aJ q hn),q];simp⟩
def Un.write(mu:Mut (H x))(he:e=x\/H e=some (.own x))(k:∀ b u,b≠e->h.get? b=some u->h'.get? b=some u)(heo:∃ u,h'.get? e=some u):Un fs ex H (upd H x o) h h':=by
 have hx:∀ b,H b=none->b≠x:=fun b n z=>by subst z;rw[n]at mu;exact mu
 have hb:∀ b,H b=none->b≠e:=fun b n z=>by
  subst z;rcases he with r | r
  ·exact hx b n r
  ·rw[n]at r;cases r
 have hm:∀ b u,H b=some u->¬ Mut (some u)->b≠x:=fun b u q nm z=>by subst z;rw[q]at mu;exact nm mu
 refine⟨fun b u q n _ _=>k b u (hb b n) q,fun b u q n _ _=>⟨u.slots,k b u (hb b n) q⟩,fun b u q n _=>by rw[aE (hx b n)];exact n,fun b u q _=>?_,
  fun b xs q=>by rw[aE (hm b _ q fun z=>z)];exact q,fun b u xs q=>by rw[aE (hm b _ q fun z=>z)];exact q,fun b ps q=>⟨#[],by rw[aE (hm b _ q fun z=>z),q];simp⟩⟩
 by_cases hbe:b=e
 ·subst hbe;exact heo
 ·exact⟨u,k b u hbe q⟩
end
abbrev trk(h:Heap)(H:Hp):List Addr:=(List.range h.objs.size).filter fun a=>(H a).isSome
abbrev fN(h:Heap)(H:Hp):Heap:=PySem.W.hideAll h (trk h H)
def pO(h:Heap)(H:Hp):(fN h H).objs.size=h.objs.size:=PySem.W.hideAll_size _ _
def qL(e:h.get? b=some o)(n:H b=none):(fN h H).get? b=some o :=
 PySem.W.hideAll_get _ e fun hm=>by
  have q:(H b).isSome=true:=(List.mem_filter.mp hm).2;rw[n]at q;simp at q
def tP(e:(fN h H).get? b=some o):h.get? b=some o/\H b=none:=by
 have e':h.get? b=some o:=PySem.W.of_hideAll (trk h H) e;refine⟨e',?_⟩
 cases q:H b with
 | none=>rfl
 |some x=>
  have hm:b∈trk h H:=List.mem_filter.mpr ⟨List.mem_range.mpr (Heap.lt_size e'),by simp[q]⟩;have z:(fN h H).get? b=none:=PySem.W.hideAll_none (trk h H) hm;rw[z]at e;cases e
structure Mod(K:PySem.W.Frag)(mg:Str->Option Value)(base:Heap):Prop where
 kin:K.In base
 glob:base.Ns mainGlobals mg
 blt:∃ mb,base.Ns builtinsNs mb/\∀ x:Str,x ≠ "__name__" -> mb x=bootBuiltins x
 nolimit:base.NoLimit
structure Cx where
 prog:Program
 w:World
 K:PySem.W.Frag
 mg:Str->Option Value
 base:Heap
 A:Around
 N:List Str
 s₀:Shared
 H₀:Hp
 env:Env
 outer:List Env
 stack:List Env
 ex:List Addr
 fn:Str->Bool
 calm:Bool
 pn:List (Addr × Obj)
 xe:Value->Shared->Prop
abbrev frs(l:List Env):List Addr:=l.filterMap (·.frame)
@[reducible]noncomputable def Cx.fs(X:Cx):List Addr:=frs X.outer
abbrev Vis(sc:Scope)(x:Str):Prop:=sc.names.lookup x=some .local\/sc.names.lookup x=some .cell\/sc.names.lookup x=some .free
abbrev Loc(sc:Scope)(x:Str):Prop:=sc.names.lookup x=some .local\/sc.names.lookup x=some .cell
abbrev Look(env:Env)(h:Heap)(m:Str->Option Value)(x:Str)(u:Value):Prop :=
 (env.kindOf x=some .local/\m x=some u)\/((env.kindOf x=some .cell\/env.kindOf x=some .free)/\∃ c,env.cells.lookup x=some c/\h.IsCell c (some u))
abbrev HX(X:Cx):Prop:=X.A.handled=none\/∃ h o u vs,X.A.handled=some (.ref h)/\X.H₀ h=some (.frz o u)/\o.data=.fields vs/\vs[2]?=some .none
structure Cx.Ok(X:Cx):Prop where
 mod:Mod X.K X.mg X.base
 kind:X.env.scope.kind=.function
 glob:X.env.globals=mainGlobals
 blt:X.env.builtins=builtinsNs
 above:X.s₀.heap.objs.size<=X.env.locals
 inj:∀ x y c,X.env.cells.lookup x=some c->X.env.cells.lookup y=some c->x=y
 has:∀ x,(X.env.kindOf x=some .cell\/X.env.kindOf x=some .free)->∃ c,X.env.cells.lookup x=some c
 cab:∀ x c,X.fn x=true->X.env.cells.lookup x=some c->X.s₀.heap.objs.size<=c
 hd:(X.calm=true->X.A.handled=none)/\HX X
 frames:X.A.frames=some X.stack
 stk:X.stack=X.outer\/(X.stack=X.env::X.outer/\X.env.frame=some X.env.locals)
 exf:∀ b∈X.ex,b≠X.env.locals/\∀ x c,X.env.cells.lookup x=some c->c≠b
 bs:∀ b o,X.base.get? b=some o->X.s₀.heap.get? b=some o/\X.H₀ b=none
 bsz:X.base.objs.size<=X.s₀.heap.objs.size
 kB:∀ b o,X.base.get? b=some o->b∉X.ex
 lL:∀ b∈X.ex,b∉X.fs
 eA:X.s₀.heap.FunFrames X.base X.outer
 frf:∀ b∈X.fs,X.H₀ b=none
structure Inv(X:Cx)(pins:List (Addr × Obj))(σ:List (Option V))(H:Hp)(s:Shared):Prop where
 ok:X.Ok
 os:s.os=X.s₀.os
 bare:AllBare s.gens
 base:Un X.fs X.ex X.H₀ H X.s₀.heap s.heap
 loc:∃ m,s.heap.Ns X.env.locals m/\∀ (i:Nat) (x:Str) (v:V),X.N[i]?=some x->σ[i]?=some (some v)->Vis X.env.scope x->∃ u,RelV v u/\Look X.env s.heap m x u
 cell:∀ x c,X.env.cells.lookup x=some c->∃ v,s.heap.IsCell c v
 free:H X.env.locals=none
 de:∀ x c,X.env.cells.lookup x=some c->H c=none
 pin:∀ p∈X.pn++pins,s.heap.get? p.1=some p.2/\H p.1=none/\p.1≠X.env.locals/\p.1∉X.fs/\∀ v,p.2.data≠.cell v
 hok:HOk X.prog X.w H s.heap
 len:σ.length=X.N.length
section
variable{X:Cx}{pins:List (Addr × Obj)}{σ:List (Option V)}{H H':Hp}{s:Shared}{h':Heap}
def Cx.Ok.zP(ok:X.Ok)(e:X.base.get? b=some o):b∉X.fs:=fun hb=>by
 have:=(ok.eA.mem hb).1;rw[e]at this;cases this
def Inv.bs(I:Inv X pins σ H s):∀ b o,X.base.get? b=some o->s.heap.get? b=some o/\H b=none:=fun b o e =>
 ⟨I.base.keep b o (I.ok.bs b o e).1 (I.ok.bs b o e).2 (I.ok.zP e) (I.ok.kB b o e),I.base.free b o (I.ok.bs b o e).1 (I.ok.bs b o e).2 (I.ok.kB b o e)⟩
def Inv.bk(I:Inv X pins σ H s):∀ b o,X.base.get? b=some o->s.heap.get? b=some o:=fun b o e=>(I.bs b o e).1
def Inv.mod(I:Inv X pins σ H s):Mod X.K X.mg X.base:=I.ok.mod
def Inv.kIn(I:Inv X pins σ H s):X.K.In s.heap:=I.ok.mod.kin.keeps I.bk
def Inv.lt(I:Inv X pins σ H s):X.env.locals<s.heap.objs.size:=let ⟨_,hn,_⟩:=I.loc;hn.lt
def Inv.sz(I:Inv X pins σ H s):X.s₀.heap.objs.size<=s.heap.objs.size:=Nat.le_trans I.ok.above (Nat.le_of_lt I.lt)
def Inv.zF(I:Inv X pins σ H s)(h:s.heap.objs.size<=a):a∉X.fs:=fun hb=>by
 obtain⟨_,o,ho,_⟩:=I.ok.eA.mem hb;exact absurd (Nat.lt_of_lt_of_le (Heap.lt_size ho) (Nat.le_trans I.sz h)) (Nat.lt_irrefl _)
def Inv.cne(I:Inv X pins σ H s):∀ x c,X.env.cells.lookup x=some c->c≠X.env.locals:=fun x c e z=>by
 obtain⟨v,o,ho,hd⟩:=I.cell x c e;obtain⟨m,⟨o',es,ep,ho',hd',_⟩,_⟩:=I.loc;rw[z,ho']at ho;cases ho;rw[hd']at hd;cases hd
def Inv.eA(I:Inv X pins σ H s):s.heap.FunFrames X.base X.outer:=by
 have all:∀ (l:List Env),(∀ b∈frs l,b∈X.fs)->X.s₀.heap.FunFrames X.base l->s.heap.FunFrames X.base l:=by
  intro l
  induction l with
  | nil=>intro _ _;trivial
  |cons env r ih=>
   intro hs hl;obtain⟨hk,⟨L,o,hf,hn,ho,hd⟩,hr⟩:=hl;have hL:L∈X.fs:=hs L (by unfold frs;rw[List.filterMap_cons,hf];exact List.mem_cons_self);obtain⟨sl,e⟩:=I.base.slot L o ho (I.ok.frf L hL) hL fun z=>I.ok.lL L z hL;exact⟨hk,⟨L,_,hf,hn,e,hd⟩,ih (fun b hb=>hs b (by unfold frs;rw[List.filterMap_cons,hf];exact List.mem_cons_of_mem _ hb)) hr⟩
 exact all X.outer (fun _ hb=>hb) I.ok.eA
def Inv.stack(I:Inv X pins σ H s):s.heap.FunFrames X.base X.stack:=by
 rcases I.ok.stk with e | ⟨e,hf⟩
 ·rw[e];exact I.eA
 ·rw[e];obtain⟨m,hn,_⟩:=I.loc;refine .cons (by rw[I.ok.kind];decide) hf hn ?_ I.eA;exact Heap.get?_none_of_le (Nat.le_trans I.ok.bsz I.ok.above)
def Inv.kQ(I:Inv X pins σ H s):∀ b∈frs X.stack,b∈X.env.locals::X.fs:=fun b hb=>by
 rcases I.ok.stk with e | ⟨e,hf⟩
 ·rw[e]at hb;exact List.mem_cons_of_mem _ hb
 ·rw[e]at hb;unfold frs at hb;rw[List.filterMap_cons,hf]at hb;exact hb
def Inv.mB(I:Inv X pins σ H s):∀ b∈frs X.stack,H b=none:=fun b hb=>by
 rcases List.mem_cons.mp (I.kQ b hb)with e | hb
 ·rw[e];exact I.free
 ·obtain⟨_,o,ho,_⟩:=I.ok.eA.mem hb;exact I.base.free b o ho (I.ok.frf b hb) fun z=>I.ok.lL b z hb
def Inv.step{g':Array GenState}{t':Nat}{d':Drawn}{ch:List Addr}(I:Inv X pins σ H s)
 (hch:∀ b∈ch,(b∈X.ex\/X.s₀.heap.objs.size<=b)/\b≠X.env.locals/\(∀ x c,X.env.cells.lookup x=some c->c≠b)/\∀ p∈X.pn++pins,p.1≠b)
 (keep:∀ b o,b≠X.env.locals->b∉X.fs->b∉ch->s.heap.get? b=some o->H b=none->h'.get? b=some o)
 (slot:∀ b o,b≠X.env.locals->b∈X.fs->b∉ch->s.heap.get? b=some o->H b=none->∃ sl,h'.get? b=some { o with slots:=sl })(free:∀ b o,b∉ch->s.heap.get? b=some o->H b=none->H' b=none)
 (there:∀ b o,b∉ch->s.heap.get? b=some o->∃ o',h'.get? b=some o')
 (gm:∀ b xs,H b=some (.tup xs)->H' b=some (.tup xs))(eZ:∀ b o u,H b=some (.frz o u)->H' b=some (.frz o u))(gB:∀ b ps,H b=some (.tbl ps)->∃ more,H' b=some (.tbl (ps++more)))
 (ns:∀ m,s.heap.Ns X.env.locals m->h'.Ns X.env.locals m)(hok:HOk X.prog X.w H' h')(hg:AllBare g') :
  Inv X pins σ H' { s with heap:=h',gens:=g',drawn:=d',toks:=t' }:=by
 have neL:∀ b o,X.s₀.heap.get? b=some o->b≠X.env.locals:=fun b o e=>Nat.ne_of_lt (Nat.lt_of_lt_of_le (Heap.lt_size e) I.ok.above)
 have neC:∀ b o,X.s₀.heap.get? b=some o->b∉X.ex->b∉ch:=fun b o e hx hb=>by
  rcases(hch b hb).1 with z | z
  ·exact hx z
  ·exact absurd (Nat.lt_of_lt_of_le (Heap.lt_size e) z) (Nat.lt_irrefl _)
 have cellK:∀ x c,X.env.cells.lookup x=some c->∀ v,s.heap.IsCell c v->h'.IsCell c v:=fun x c e v ⟨o,ho,hd⟩=>by
  have nch:c∉ch:=fun z=>(hch c z).2.2.1 x c e rfl;by_cases hc:c∈X.fs
  ·obtain⟨sl,q⟩:=slot c o (I.cne x c e) hc nch ho (I.de x c e);exact⟨_,q,hd⟩
  ·exact⟨o,keep c o (I.cne x c e) hc nch ho (I.de x c e),hd⟩
 refine⟨I.ok,I.os,hg,⟨fun b o e n hb hx=>?_,fun b o e n hb hx=>?_,fun b o e n hx=>?_,fun b o e hx=>?_,fun b xs e=>gm b xs (I.base.gm b xs e),fun b o xs e=>eZ b o xs (I.base.eZ b o xs e),fun b ps e=>?_⟩,?_,fun x c e=>?_,?_,fun x c e=>?_,fun p hp=>?_,hok,I.len⟩
 ·exact keep b o (neL b o e) hb (neC b o e hx) (I.base.keep b o e n hb hx) (I.base.free b o e n hx)
 ·obtain⟨sl,e1⟩:=I.base.slot b o e n hb hx;obtain⟨sl',e2⟩:=slot b _ (neL b o e) hb (neC b o e hx) e1 (I.base.free b o e n hx);exact⟨sl',e2⟩
 ·obtain⟨o',e1⟩:=I.base.there b o e hx;exact free b o' (neC b o e hx) e1 (I.base.free b o e n hx)
 ·obtain⟨o',e1⟩:=I.base.there b o e hx;exact there b o' (neC b o e hx) e1
 ·obtain⟨m1,e1⟩:=I.base.gB b ps e;obtain⟨m2,e2⟩:=gB b _ e1;exact⟨m1++m2,by rw[e2,Array.append_assoc]⟩
 ·obtain⟨m,hn,hl⟩:=I.loc;refine⟨m,ns m hn,fun i x v e1 e2 e3=>?_⟩;obtain⟨u,r,l⟩:=hl i x v e1 e2 e3;refine⟨u,r,?_⟩
  rcases l with l | ⟨k,c,e,z⟩
  ·exact .inl l
  ·exact .inr ⟨k,c,e,cellK x c e _ z⟩
 ·obtain⟨v,z⟩:=I.cell x c e;exact⟨v,cellK x c e v z⟩
 ·obtain⟨m,⟨o,_,_,ho,_⟩,_⟩:=I.loc;exact free _ o (fun z=>(hch _ z).2.1 rfl) ho I.free
 ·obtain⟨v,o,ho,hd⟩:=I.cell x c e;exact free c o (fun z=>(hch c z).2.2.1 x c e rfl) ho (I.de x c e)
 ·obtain⟨e,n,ne,nf,d⟩:=I.pin p hp;have nch:p.1∉ch:=fun z=>(hch p.1 z).2.2.2 p hp rfl;exact⟨keep p.1 p.2 ne nf nch e n,free p.1 p.2 nch e n,ne,nf,d⟩
def Inv.un(I:Inv X pins σ H s)(u:Un X.fs [] H H' s.heap h')(hok:HOk X.prog X.w H' h'):Inv X pins σ H' { s with heap:=h',toks:=t' }:=by
 obtain⟨m,⟨o,es,ep,ho,r⟩,_⟩:=id I.loc;obtain⟨sl,hL⟩:=u.any ho I.free (by simp)
 exact I.step (g':=s.gens) (d':=s.drawn) (ch:=[]) (fun _ z=>nomatch z) (fun b o _ hb _ e n=>u.keep b o e n hb (by simp)) (fun b o _ hb _ e n=>u.slot b o e n hb (by simp)) (fun b o _ e n=>u.free b o e n (by simp)) (fun b o _ e=>u.there b o e (by simp)) u.gm u.eZ u.gB (fun m' hm=>by
  obtain⟨o',es',ep',ho',r'⟩:=hm;rw[ho]at ho';cases ho'
  exact⟨_,es',ep',hL,r'⟩) hok I.bare
def Inv.call(I:Inv X pins σ H s)(u:Un (frs X.stack) ch H H' s.heap h')(hok:HOk X.prog X.w H' h')(hg:AllBare g')
 (hch:∀ b∈ch,(b∈X.ex\/X.s₀.heap.objs.size<=b)/\b≠X.env.locals/\(∀ x c,X.env.cells.lookup x=some c->c≠b)/\∀ p∈X.pn++pins,p.1≠b) :
  Inv X pins σ H' { s with heap:=h',gens:=g',drawn:=d',toks:=t' }:=by
 obtain⟨m,⟨o,es,ep,ho,r⟩,_⟩:=id I.loc;obtain⟨sl,hL⟩:=u.any ho I.free fun z=>(hch _ z).2.1 rfl
 exact I.step (ch:=ch) hch (fun b o hL hb hc e n=>u.keep b o e n (fun z=>(List.mem_cons.mp (I.kQ b z)).elim hL hb) hc) (fun b o _ _ hc e n=>u.any e n hc) (fun b o hc e n=>u.free b o e n hc) (fun b o hc e=>u.there b o e hc) u.gm u.eZ u.gB (fun m' hm=>by
  obtain⟨o',es',ep',ho',r'⟩:=hm;rw[ho]at ho';cases ho'
  exact⟨_,es',ep',hL,r'⟩) hok hg
def Inv.turned(I:Inv X pins σ H s)(k:∀ b o,b≠it->s.heap.get? b=some o->h'.get? b=some o)(hn:H it=none)(hL:it≠X.env.locals)
 (h1:it∈X.ex\/X.s₀.heap.objs.size<=it)(h2:∀ x c,X.env.cells.lookup x=some c->c≠it)(h3:∀ p∈X.pn++pins,p.1≠it):Inv X pins σ H { s with heap:=h',toks:=t' }:=by
 have nit:∀ b u,H b=some u->b≠it:=fun b u e z=>by rw[z,hn]at e;cases e
 refine I.step (g':=s.gens) (d':=s.drawn) (ch:=[it]) (fun b hb=>?_) (fun b o _ _ hc e _=>k b o (fun z=>hc (by simp[z])) e) (fun b o _ _ hc e _=>⟨o.slots,k b o (fun z=>hc (by simp[z])) e⟩) (fun _ _ _ _ n=>n)
  (fun b o hc e=>⟨o,k b o (fun z=>hc (by simp[z])) e⟩) (fun _ _ e=>e) (fun _ _ _ e=>e) (fun b ps e=>⟨#[],by rw[e];simp⟩) (fun m hm=>?_) (fun b u e=>?_) I.bare
 ·have e:b=it:=by simpa using hb
  subst e;exact⟨h1,hL,h2,h3⟩
 ·obtain⟨o,es,ep,ho,r⟩:=hm;exact⟨o,es,ep,k _ o (Ne.symm hL) ho,r⟩
 ·refine(I.hok b u e).js (fun c v hc q=>k c v ?_ q) (fun _ q=>q) fun _ _ q=>q;rcases hc with z | z
  ·rw[z];exact nit b u e
  ·exact nit c _ z
def Inv.tok(I:Inv X pins σ H s)(t:Nat):Inv X pins σ H { s with toks:=t }:=I.un (h':=s.heap) (t':=t) Un.refl I.hok
def Inv.kept(I:Inv X pins σ H s)(k:∀ b u,s.heap.get? b=some u->h'.get? b=some u):Inv X pins σ H { s with heap:=h',toks:=t' }:=I.un (Un.kept k) (I.hok.kept k)
def Inv.laid(I:Inv X pins σ H s)(k:∀ b u,s.heap.get? b=some u->h'.get? b=some u)(hp:s.heap.objs.size<=a)(new:bf X.prog X.w (upd H a o) h' a o) :
  Inv X pins σ (upd H a o) { s with heap:=h',toks:=t' }:=I.un (Un.laid k hp (I.hok.fresh hp)) (I.hok.laid k hp new)
def Inv.write(I:Inv X pins σ H s)(mu:Mut (H x))(he:e=x\/H e=some (.own x))(k:∀ b u,b≠e->s.heap.get? b=some u->h'.get? b=some u)(heo:∃ u,h'.get? e=some u)
 (new:bf X.prog X.w (upd H x o) h' x o):Inv X pins σ (upd H x o) { s with heap:=h',toks:=t' }:=I.un (Un.write mu he k heo) (I.hok.write mu he k heo new)
def Inv.weak(I:Inv X pins σ H s)(hl:σ'.length=σ.length)(w:∀ (i:Nat) v,σ'[i]?=some (some v)->σ[i]?=some (some v)):Inv X pins σ' H s :=
 ⟨I.ok,I.os,I.bare,I.base,let ⟨m,hn,hl'⟩:=I.loc;⟨m,hn,fun i x v e1 e2 e3=>hl' i x v e1 (w i v e2) e3⟩,I.cell,I.free,I.de,I.pin,I.hok,hl.trans I.len⟩
def Inv.mT(I:Inv X pins σ H s)(h:∀ p∈pins',s.heap.get? p.1=some p.2/\H p.1=none/\p.1≠X.env.locals/\p.1∉X.fs/\∀ v,p.2.data≠.cell v):Inv X pins' σ H s :=
 ⟨I.ok,I.os,I.bare,I.base,I.loc,I.cell,I.free,I.de,fun p hp=>(List.mem_append.mp hp).elim (fun z=>I.pin p (List.mem_append_left _ z)) (h p),I.hok,I.len⟩
def kU{N:List Str}(hN:N.Nodup){i j:Nat}(a:N[i]?=some x)(b:N[j]?=some x):i=j:=by
 obtain⟨h1,e1⟩:=List.getElem?_eq_some_iff.mp a;obtain⟨h2,e2⟩:=List.getElem?_eq_some_iff.mp b;exact(List.getElem_inj hN).mp (e1.trans e2.symm)
def jX{M:Model}{A:Around}(I:Inv X pins σ H s)(hN:X.N.Nodup)(hi:X.N[i]?=some x)(hx:Loc X.env.scope x)(r:RelV v u)
 (h:∀ s',Inv X pins (σ.set i (some v)) H s'->(∃ a,Heap.SameBut a s.heap s'.heap/\(a=X.env.locals\/X.env.cells.lookup x=some a))->Q () s')(hf:X.fn x=true\/X.env.scope.names.lookup x=some .local):wpAny M A (storeName X.env x u) Q E s:=by
 obtain⟨m,hn,hl⟩:=id I.loc
 have hcls:(X.env.scope.kind == .class || (X.env.scope.kind == .module&&X.env.locals != X.env.globals))=false:=by rw[I.ok.kind];rfl
 have hiσ:i<σ.length:=by rw[I.len];exact(List.getElem?_eq_some_iff.mp hi).1
 have cne:=I.cne
 have tracked:∀ {a:Addr} {h':Heap},(∃ o,s.heap.get? a=some o/\H a=none)->Heap.SameBut a s.heap h'->HOk X.prog X.w H h':=fun {a h'} ha hs b ob e=>by
  obtain⟨_,_,hfree⟩:=ha;refine(I.hok b ob e).js (fun c w' hc q=>(hs.2 c ?_).trans q) (fun _ q=>q) fun _ _ q=>q;rintro rfl;rcases hc with rfl | hc
  ·rw[hfree]at e;cases e
  ·rw[hfree]at hc;cases hc
 rcases hx with hk | hk
 ·refine wpAny_storeName_local hk hn (fun h' hn' hs=>?_) hcls;obtain⟨oL,_,_,hoL,_⟩:=id hn;refine h _ ⟨I.ok,I.os,I.bare,⟨fun b o e n hb hx=>?_,fun b o e n hb hx=>?_,I.base.free,fun b o e hx=>?_,I.base.gm,I.base.eZ,I.base.gB⟩,⟨_,hn',fun j y v' e1 e2 e3=>?_⟩,fun y c e=>?_,I.free,I.de,fun p hp=>?_,tracked ⟨oL,hoL,I.free⟩ hs,by simpa using I.len⟩ ⟨_,hs,.inl rfl⟩
  ·exact(hs.2 b (Nat.ne_of_lt (Nat.lt_of_lt_of_le (Heap.lt_size e) I.ok.above))).trans (I.base.keep b o e n hb hx)
  ·obtain⟨sl,e1⟩:=I.base.slot b o e n hb hx;exact⟨sl,(hs.2 b (Nat.ne_of_lt (Nat.lt_of_lt_of_le (Heap.lt_size e) I.ok.above))).trans e1⟩
  ·obtain⟨o',e1⟩:=I.base.there b o e hx;exact⟨o',(hs.2 b (Nat.ne_of_lt (Nat.lt_of_lt_of_le (Heap.lt_size e) I.ok.above))).trans e1⟩
  ·by_cases hj:j=i
   ·subst hj;rw[hi]at e1;cases e1;rw[List.getElem?_set_self hiσ]at e2;cases e2;exact⟨u,r,.inl ⟨hk,by simp⟩⟩
   ·rw[List.getElem?_set_ne (Ne.symm hj)]at e2;obtain⟨u',r',q⟩:=hl j y v' e1 e2 e3;refine⟨u',r',?_⟩
    rcases q with⟨k,e⟩ | ⟨k,c,e,z⟩
    ·refine .inl ⟨k,?_⟩;have:y≠x:=fun e=>hj (kU hN e1 (e▸hi));simp[this,e]
    ·exact .inr ⟨k,c,e,z.sameBut hs (cne y c e)⟩
  ·obtain⟨w',z⟩:=I.cell y c e;exact⟨w',z.sameBut hs (cne y c e)⟩
  ·obtain⟨e,n,ne,nf,d⟩:=I.pin p hp;exact⟨(hs.2 p.1 ne).trans e,n,ne,nf,d⟩
 ·have hfn:X.fn x=true:=by
   rcases hf with z | z
   ·exact z
   ·rw[z]at hk;cases hk
  obtain⟨c,hc⟩:=I.ok.has x (.inl hk);obtain⟨w',z⟩:=I.cell x c hc;refine wpAny_storeName_cell I.ok.kind hk hc z (fun h' hc' hs=>?_);obtain⟨oc,hoc,hocd⟩:=id z;refine h { s with heap:=h' } ⟨I.ok,I.os,I.bare,⟨fun b o e n hb hx=>?_,fun b o e n hb hx=>?_,I.base.free,fun b o e hx=>?_,I.base.gm,I.base.eZ,I.base.gB⟩,⟨m,hn.sameBut hs (Ne.symm (cne x c hc)),fun j y v' e1 e2 e3=>?_⟩,fun y c' e=>?_,I.free,I.de,fun p hp=>?_,tracked ⟨oc,hoc,I.de x c hc⟩ hs,by simpa using I.len⟩ ⟨c,hs,.inr hc⟩
  ·exact(hs.2 b (Nat.ne_of_lt (Nat.lt_of_lt_of_le (Heap.lt_size e) (I.ok.cab x c hfn hc)))).trans (I.base.keep b o e n hb hx)
  ·obtain⟨sl,e1⟩:=I.base.slot b o e n hb hx;exact⟨sl,(hs.2 b (Nat.ne_of_lt (Nat.lt_of_lt_of_le (Heap.lt_size e) (I.ok.cab x c hfn hc)))).trans e1⟩
  ·obtain⟨o',e1⟩:=I.base.there b o e hx;exact⟨o',(hs.2 b (Nat.ne_of_lt (Nat.lt_of_lt_of_le (Heap.lt_size e) (I.ok.cab x c hfn hc)))).trans e1⟩
  ·by_cases hj:j=i
   ·subst hj;rw[hi]at e1;cases e1;rw[List.getElem?_set_self hiσ]at e2;cases e2;exact⟨u,r,.inr ⟨.inl hk,c,hc,hc'⟩⟩
   ·rw[List.getElem?_set_ne (Ne.symm hj)]at e2;obtain⟨u',r',q⟩:=hl j y v' e1 e2 e3;refine⟨u',r',?_⟩
    rcases q with q | ⟨k,c',e,z'⟩
    ·exact .inl q
    ·refine .inr ⟨k,c',e,z'.sameBut hs ?_⟩;rintro rfl;exact hj (kU hN e1 (I.ok.inj _ _ _ e hc▸hi))
  ·by_cases hcc:c'=c
   ·subst hcc;exact⟨_,hc'⟩
   ·obtain⟨w2,z2⟩:=I.cell y c' e;exact⟨w2,z2.sameBut hs hcc⟩
  ·obtain⟨e,n,ne,nf,d⟩:=I.pin p hp;refine⟨(hs.2 p.1 ?_).trans e,n,ne,nf,d⟩;intro q;rw[q,hoc]at e;have q':oc=p.2:=Option.some.inj e;exact d w' (by rw[<-q'];exact hocd)
def eu(I:Inv X pins σ H s)(hN:X.N.Nodup)(hi:X.N[i]?=some x)(hx:Loc X.env.scope x)(r:RelV v u)
 (h:∀ s',Inv X pins (σ.set i (some v)) H s'->Q () s')(hf:X.fn x=true\/X.env.scope.names.lookup x=some .local):wpAny M A (storeName X.env x u) Q E s :=
 jX I hN hi hx r (fun s' I' _=>h s' I') hf
def Inv.sr(I:Inv X pins σ H s)(ho:s'.os=s.os)(u:Un (frs X.stack) ch H H' s.heap s'.heap)(hok:HOk X.prog X.w H' s'.heap)(hg:AllBare s'.gens)
 (hch:∀ b∈ch,(b∈X.ex\/X.s₀.heap.objs.size<=b)/\b≠X.env.locals/\(∀ x c,X.env.cells.lookup x=some c->c≠b)/\∀ p∈X.pn++pins,p.1≠b):Inv X pins σ H' s':=by
 obtain⟨h',g',d',t',o'⟩:=s';have e:o'=s.os:=ho;subst e;exact I.call (g':=g') (t':=t') (d':=d') u hok hg hch
end
@[reducible]noncomputable def XK:=Value->Option Addr->Hp->Prop
@[reducible]noncomputable def St:=List (Option V)
@[reducible]noncomputable def VK:=V->Hp->Prop
@[reducible]noncomputable def TE:=St->Hp->VK->Prop
@[reducible]noncomputable def TT:=St->Hp->(Bool->Hp->Prop)->Prop
@[reducible]noncomputable def TA:=St->Hp->(List V->Hp->Prop)->Prop
structure Ends where
 nx:St->Hp->Prop
 rt:VK
 bk:St->Hp->Prop:=fun _ _=>False
 ct:St->Hp->Prop:=fun _ _=>False
@[reducible]noncomputable def TS:=Ends->St->Hp->Prop
abbrev EP(X:Cx)(pins:List (Addr × Obj))(σ:St)(Q:VK)(u:Value)(s':Shared):Prop:=∃ v H',Inv X pins σ H' s'/\RelV v u/\Q v H'
abbrev TP(X:Cx)(pins:List (Addr × Obj))(σ:St)(Q:Bool->Hp->Prop)(b:Bool)(s':Shared):Prop:=∃ H',Inv X pins σ H' s'/\Q b H'
abbrev AP(X:Cx)(pins:List (Addr × Obj))(σ:St)(Q:List V->Hp->Prop)(us:List Value)(s':Shared):Prop:=∃ vs H',Inv X pins σ H' s'/\Vals vs us/\Q vs H'
abbrev SP(X:Cx)(pins:List (Addr × Obj))(D:Ends)(f:Flow)(s':Shared):Prop :=
 match f with
 | .next=>∃ σ' H',Inv X pins σ' H' s'/\D.nx σ' H'
 | .brk=>∃ σ' H',Inv X pins σ' H' s'/\D.bk σ' H'
 | .cont=>∃ σ' H',Inv X pins σ' H' s'/\D.ct σ' H'
 | .ret u=>∃ v σ' H',Inv X pins σ' H' s'/\RelV v u/\D.rt v H'
abbrev PE(X:Cx)(e:Expr)(t:TE):Prop :=
 ∀ (pins:List (Addr × Obj)) (s:Shared) (σ:St) (H:Hp) (Q:VK),Inv X pins σ H s->t σ H Q->wpAny (model X.prog X.w) X.A (eval e X.env) (EP X pins σ Q) X.xe s
abbrev PT(X:Cx)(e:Expr)(t:TT):Prop :=
 ∀ (pins:List (Addr × Obj)) (s:Shared) (σ:St) (H:Hp) (Q:Bool->Hp->Prop),Inv X pins σ H s->t σ H Q->wpAny (model X.prog X.w) X.A (isTrue e X.env (eval e X.env)) (TP X pins σ Q) X.xe s
abbrev PW(X:Cx)(e:Expr)(t:TT):Prop :=
 ∀ (whole:Sem Value) (pins:List (Addr × Obj)) (s:Shared) (σ:St) (H:Hp) (Q:Bool->Hp->Prop),Inv X pins σ H s->t σ H Q->wpAny (model X.prog X.w) X.A (isTrue e X.env whole) (TP X pins σ Q) X.xe s
def PW.pt(h:PW X e t):PT X e t:=h _
abbrev PA(X:Cx)(es:List Expr)(t:TA):Prop :=
 ∀ (pos:Pos) (pins:List (Addr × Obj)) (s:Shared) (σ:St) (H:Hp) (Q:List V->Hp->Prop),Inv X pins σ H s->t σ H Q->wpAny (model X.prog X.w) X.A (spliced (backTo pos (starEach es X.env))) (AP X pins σ Q) X.xe s
abbrev PS(X:Cx)(st:Stmt)(t:TS):Prop :=
 ∀ (pins:List (Addr × Obj)) (s:Shared) (σ:St) (H:Hp) (D:Ends),Inv X pins σ H s->t D σ H->wpAny (model X.prog X.w) X.A (exec st X.env) (SP X pins D) X.xe s
abbrev PSs(X:Cx)(st:List Stmt)(t:TS):Prop :=
 ∀ (pins:List (Addr × Obj)) (s:Shared) (σ:St) (H:Hp) (D:Ends),Inv X pins σ H s->t D σ H->wpAny (model X.prog X.w) X.A (execs st X.env) (SP X pins D) X.xe s
def thn(h:wpAny M A t Q E s)(hQ:∀ a s,Q a s->Q' a s):wpAny M A t Q' E s:=wpAny_mono h hQ fun _ _ x=>x
section
variable{X:Cx}
abbrev i3(i:Nat):TE:=fun σ H Q=>∃ v,σ[i]?=some (some v)/\Q v H
abbrev tC(v:V):TE:=fun _ H Q=>Q v H
def fw(hN:X.N[i]?=some x)(hv:Vis X.env.scope x)(hd:(x == ("__debug__" : Str))=false)(hcd:(x == ("__classdict__" : Str))=false):PE X (.Name x pos) (i3 i):=by
 intro pins s σ H Q I h;obtain⟨v,e,h⟩:=h;obtain⟨m,hn,hl⟩:=I.loc;obtain⟨u,r,l⟩:=hl i x v hN e hv
 have fin:EP X pins σ Q u s:=⟨v,H,I,r,h⟩
 rcases l with⟨hk,hm⟩ | ⟨hk,c,hc,hcell⟩
 ·exact wpAny_Name (wpAny_loadName_local I.ok.kind hk hn hm fin) hd
 ·rcases hk with hk | hk
  ·exact wpAny_Name (wpAny_loadName_cell I.ok.kind hk hc hcell fin) hd
  ·exact wpAny_Name (wpAny_loadName_free I.ok.kind hk hc hcell fin hcd) hd
def lC:PE X (.Constant (.int i) j pos) (tC (.int i)):=fun _ _ _ H _ I h=>wpAny_Constant_int ⟨.int i,H,I.tok _,⟨_,rfl⟩,h⟩
def yD:PE X (.Constant (.bool b) j pos) (tC (.bl b)):=fun _ _ _ H _ I h=>Constant_bool ⟨.bl b,H,I,rfl,h⟩
def lz:PE X (.Constant .none j pos) (tC .non):=fun _ _ _ H _ I h=>Constant_none ⟨.non,H,I,rfl,h⟩
def vR:PE X (.Constant (.str x) j pos) (tC (.str x)):=fun _ _ _ H _ I h=>Calls.Constant_str ⟨.str x,H,I.tok _,⟨_,rfl⟩,h⟩
abbrev Gl(X:Cx)(x:Str):Prop:=X.env.kindOf x=some .globalImplicit
def gN(I:Inv X pins σ H s)(hg:Gl X x)(hm:X.mg x=some u)(h:Q u s)
 (hd:(x == ("__debug__" : Str))=false):wpAny (model X.prog X.w) X.A (eval (.Name x pos) X.env) Q E s :=
 Calls.Name_function_global I.ok.kind hg (Calls.loadGlobal_global (by rw[I.ok.glob];exact I.mod.glob.keeps I.bk) hm h) hd
def fu(I:Inv X pins σ H s)(hg:Gl X x)(hm:X.mg x=none)(hv:bootBuiltins x=some u)(h:Q u s)
 (hn:x ≠ "__name__")(hd:(x == ("__debug__" : Str))=false):wpAny (model X.prog X.w) X.A (eval (.Name x pos) X.env) Q E s:=by
 obtain⟨mb,h1,h2⟩:=I.mod.blt;exact Calls.Name_function_global I.ok.kind hg (Calls.loadGlobal_builtin (by rw[I.ok.glob];exact I.mod.glob.keeps I.bk) hm (by rw[I.ok.blt];exact h1.keeps I.bk) ((h2 x hn).trans hv) h) hd
def uv(hg:Gl X x)(hm:X.mg x=some u)(r:RelV v u)(hd:(x == ("__debug__" : Str))=false):PE X (.Name x pos) (tC v) :=
 fun _ _ _ H _ I h=>gN I hg hm ⟨v,H,I,r,h⟩ hd
def uQ(hg:Gl X x)(hm:X.mg x=none)(hv:bootBuiltins x=some u)(r:RelV v u)(hn:x ≠ "__name__")(hd:(x == ("__debug__" : Str))=false):PE X (.Name x pos) (tC v) :=
 fun _ _ _ H _ I h=>fu I hg hm hv ⟨v,H,I,r,h⟩ hn hd
variable{a b:Expr}{ta tb:TE}{pos:Pos}
abbrev PC(X:Cx)(op:CmpOp)(a b:Expr)(t:TE):Prop :=
 ∀ (pins:List (Addr × Obj)) (s:Shared) (σ:St) (H:Hp) (Q:VK),Inv X pins σ H s->t σ H Q ->
  wpAny (model X.prog X.w) X.A (eval a X.env) (fun v s₁=>wpAny (model X.prog X.w) X.A (eval b X.env) (fun u s₂=>wpAny (model X.prog X.w) X.A (compareOp op v u) (EP X pins σ Q) X.xe s₂) X.xe s₁) X.xe s
abbrev tB(t:TE):TT:=fun σ H Q=>t σ H fun x H1=>∃ c,x=.bl c/\Q c H1
def vm(h:PC X op a b t)(h1:behindInMarks op b=false):PE X (.Compare a [op] [b] pos) t:=fun pins s σ H Q I hw=>wpAny_Compare1 (h pins s σ H Q I hw) h1
def v9(h:PC X op a b t)(h1:behindInMarks op b=false):PT X (.Compare a [op] [b] pos) (tB t):=by
 intro pins s σ H Q I hw;refine wpAny_isTrue_Compare1 (thn (h pins s σ H _ I hw) fun v s1 h1=>thn h1 fun u s2 h2=>thn h2 fun c s3 ⟨x,H1,I1,r1,q1⟩=>?_) h1;obtain⟨d,rfl,q⟩:=q1;cases r1;exact wpAny_truthy_bool ⟨H1,I1,q⟩
variable{tA tB':TT}{rest:List Expr}
abbrev zM(t u:TT):TT:=fun σ H Q=>t σ H fun c H1=>if c=true then u σ H1 Q else Q false H1
abbrev tOr(t u:TT):TT:=fun σ H Q=>t σ H fun c H1=>if c=true then Q true H1 else u σ H1 Q
abbrev yX(t:TT):TT:=fun σ H Q=>t σ H fun c H1=>Q (!c) H1
def uk(ha:PT X a tA):PW X (.BoolOp .And [a] pos) tA:=by
 intro wh pins s σ H Q I h;refine isTrue_and (thn (ha pins s σ H Q I h) fun c s1 e=>?_)
 cases c with
 | true=>exact isTrue_and_nil e
 | false=>exact e
def xP(ha:PT X a tA):PW X (.BoolOp .Or [a] pos) tA:=by
 intro wh pins s σ H Q I h;refine isTrue_or (thn (ha pins s σ H Q I h) fun c s1 e=>?_)
 cases c with
 | false=>exact isTrue_or_nil e
 | true=>exact e
def xN(ha:PT X a tA)(hb:PW X (.BoolOp .And (b::rest) pos) tB'):PW X (.BoolOp .And (a::b::rest) pos) (zM tA tB'):=by
 intro wh pins s σ H Q I h;refine isTrue_and (thn (ha pins s σ H _ I h) fun c s1 ⟨H1,I1,q1⟩=>?_)
 cases c with
 | true=>exact hb wh pins s1 σ H1 Q I1 q1
 | false=>exact⟨H1,I1,q1⟩
def yV(ha:PT X a tA)(hb:PW X (.BoolOp .Or (b::rest) pos) tB'):PW X (.BoolOp .Or (a::b::rest) pos) (tOr tA tB'):=by
 intro wh pins s σ H Q I h;refine isTrue_or (thn (ha pins s σ H _ I h) fun c s1 ⟨H1,I1,q1⟩=>?_)
 cases c with
 | true=>exact⟨H1,I1,q1⟩
 | false=>exact hb wh pins s1 σ H1 Q I1 q1
def xW(ha:PT X a tA):PT X (.UnaryOp .Not a pos) (yX tA):=by
 intro pins s σ H Q I h;exact isTrue_not (ha pins s σ H (fun c H1=>Q (!c) H1) I h)
abbrev yK(ta tb:TE):TE:=fun σ H Q=>ta σ H fun x H1=>∃ c,x=.bl c/\if c=true then tb σ H1 Q else Q (.bl false) H1
abbrev zq(ta tb:TE):TE:=fun σ H Q=>ta σ H fun x H1=>∃ c,x=.bl c/\if c=true then Q (.bl true) H1 else tb σ H1 Q
def xJ(h:PE X a t):PE X (.BoolOp op [a] pos) t:=fun pins s σ H Q I hw=>BoolOp_one (h pins s σ H Q I hw)
def x9(ha:PE X a ta)(hb:PE X (.BoolOp .And (b::rest) pos) tb):PE X (.BoolOp .And (a::b::rest) pos) (yK ta tb):=by
 intro pins s σ H Q I h;refine BoolOp_and (thn (ha pins s σ H _ I h) fun v s1 ⟨x,H1,I1,r1,q1⟩=>?_);obtain⟨c,rfl,q1⟩:=q1;cases r1;refine wpAny_truthy_bool ?_
 cases c with
 | true=>exact hb pins s1 σ H1 Q I1 q1
 | false=>exact⟨.bl false,H1,I1,rfl,q1⟩
def yh(ha:PE X a ta)(hb:PE X (.BoolOp .Or (b::rest) pos) tb):PE X (.BoolOp .Or (a::b::rest) pos) (zq ta tb):=by
 intro pins s σ H Q I h;refine BoolOp_or (thn (ha pins s σ H _ I h) fun v s1 ⟨x,H1,I1,r1,q1⟩=>?_);obtain⟨c,rfl,q1⟩:=q1;cases r1;refine wpAny_truthy_bool ?_
 cases c with
 | false=>exact hb pins s1 σ H1 Q I1 q1
 | true=>exact⟨.bl true,H1,I1,rfl,q1⟩
end
abbrev SqL(K:PySem.W.Frag)(H:Hp)(a:Addr)(xs:List V):Prop :=
 Rd H a (.lst xs) \/
  ∃ (o:Obj) (its:Array Value) (n:Nat),K.lookup a=some o/\o.cls=.type "list" /\ o.dict=none/\o.data=.seq its n/\its.size<=sizeLine/\Vals xs its.toList
abbrev SqT(K:PySem.W.Frag)(H:Hp)(a:Addr)(xs:List V):Prop :=
 Rd H a (.tup xs) \/
  ∃ (o:Obj) (its:Array Value) (n:Nat),K.lookup a=some o/\o.cls=.type "tuple" /\ o.data=.seq its n/\its.size<=sizeLine/\Vals xs its.toList
abbrev zu:Value->Option V
 | .none=>some .non
 | .bool b=>some (.bl b)
 | .int i _=>some (.int i)
 | .str x _=>some (.str x)
 | .bytes b _=>some (.byt b)
 | .float b _=>some (.flt b)
 | .ref a=>some (.ref a)
 | .type n=>some (.ty n)
 | _=>none
def RelV.abs(r:RelV x u):zu u=some x:=by
 cases x with
 | non=>cases r;rfl
 | bl _=>cases r;rfl
 | int _=>obtain⟨t,rfl⟩:=r;rfl
 | str _=>obtain⟨t,rfl⟩:=r;rfl
 | byt _=>obtain⟨t,rfl⟩:=r;rfl
 | flt _=>obtain⟨t,rfl⟩:=r;rfl
 | ref _=>cases r;rfl
 | ty _=>cases r;rfl
def RelV.inj(r:RelV x u)(q:RelV y u):x=y:=Option.some.inj (r.abs.symm.trans q.abs)
def Vals.inj:∀ {xs ys:List V} {us:List Value},Vals xs us->Vals ys us->xs=ys
 | _,_,_,.nil,.nil=>rfl
 | _,_,_,.cons r t,.cons r' t'=>by rw[r.inj r',Vals.inj t t']
section
variable{X:Cx}{pins:List (Addr × Obj)}{σ:St}{H:Hp}{s:Shared}{a:Addr}{xs ys:List V}
def SqL.of{K:PySem.W.Frag}(h:H a=some (.lst xs)):SqL K H a xs:=.inl (.inl h)
def SqT.of{K:PySem.W.Frag}(h:H a=some (.tup xs)):SqT K H a xs:=.inl (.inl h)
def Inv.list(I:Inv X pins σ H s)(h:SqL X.K H a xs):∃ its:List Value,Vals xs its/\PlainL s.heap a its.toArray/\xs.length<=sizeLine:=by
 rcases h with h | ⟨o,its,n,hk,hc,hd,hs,hz,r⟩
 ·obtain⟨z,its,n,r,e⟩:=h.ok I.hok;exact⟨its,r,⟨_,n,e,rfl,rfl,rfl⟩,z⟩
 ·refine⟨its.toList,r,⟨o,n,I.kIn a o hk,hc,hd,by simpa using hs⟩,?_⟩;have e:=r.length;simp only[Array.length_toList]at e;omega
def Inv.tuple(I:Inv X pins σ H s)(h:SqT X.K H a xs):∃ its:List Value,Vals xs its/\IsTup s.heap a its.toArray/\xs.length<=sizeLine:=by
 rcases h with h | ⟨o,its,n,hk,hc,hs,hz,r⟩
 ·obtain⟨z,its,r,p⟩:=h.ok I.hok;exact⟨its,r,p,z⟩
 ·refine⟨its.toList,r,⟨o,I.kIn a o hk,hc,n,by simpa using hs⟩,?_⟩;have e:=r.length;simp only[Array.length_toList]at e;omega
def Inv.qq(I:Inv X pins σ H s)(h:SqL X.K H a xs)(h':SqL X.K H a ys):xs=ys:=by
 obtain⟨its,r,⟨o,n,e,_,_,d⟩,_⟩:=I.list h;obtain⟨its',r',⟨o',n',e',_,_,d'⟩,_⟩:=I.list h';rw[e]at e';cases e';rw[d]at d';injection d' with d1 _
 have:its=its':=by simpa using congrArg Array.toList d1
 subst this;exact r.inj r'
def Inv.pX(I:Inv X pins σ H s)(h:SqT X.K H a xs)(h':SqT X.K H a ys):xs=ys:=by
 obtain⟨its,r,⟨o,e,_,n,d⟩,_⟩:=I.tuple h;obtain⟨its',r',⟨o',e',_,n',d'⟩,_⟩:=I.tuple h';rw[e]at e';cases e';rw[d]at d';injection d' with d1 _
 have:its=its':=by simpa using congrArg Array.toList d1
 subst this;exact r.inj r'
end
@[reducible]noncomputable def Cx.fg(X:Cx)(E:Value->Shared->Prop):Cx:={ X with xe:=E }
@[reducible]noncomputable def Cx.nox(X:Cx):Cx:=X.fg fun _ _=>False
def Cx.Ok.fg{X:Cx}(ok:X.Ok)(E:Value->Shared->Prop):(X.fg E).Ok :=
 ⟨ok.mod,ok.kind,ok.glob,ok.blt,ok.above,ok.inj,ok.has,ok.cab,ok.hd,ok.frames,ok.stk,ok.exf,ok.bs,ok.bsz,ok.kB,ok.lL,ok.eA,ok.frf⟩
def Cx.Ok.dC{X:Cx}(ok:(X.fg E).Ok):X.Ok :=
 ⟨ok.mod,ok.kind,ok.glob,ok.blt,ok.above,ok.inj,ok.has,ok.cab,ok.hd,ok.frames,ok.stk,ok.exf,ok.bs,ok.bsz,ok.kB,ok.lL,ok.eA,ok.frf⟩
section
variable{X:Cx}{pins:List (Addr × Obj)}{σ:St}{H:Hp}{s:Shared}{E:Value->Shared->Prop}
def Inv.fg(I:Inv X pins σ H s)(E:Value->Shared->Prop):Inv (X.fg E) pins σ H s:=⟨I.ok.fg E,I.os,I.bare,I.base,I.loc,I.cell,I.free,I.de,I.pin,I.hok,I.len⟩
def Inv.dC(I:Inv (X.fg E) pins σ H s):Inv X pins σ H s:=⟨I.ok.dC,I.os,I.bare,I.base,I.loc,I.cell,I.free,I.de,I.pin,I.hok,I.len⟩
def SP.dC(h:SP (X.fg E) pins D f s'):SP X pins D f s':=by
 cases f with
 | next=>obtain⟨σ',H',I,q⟩:=h;exact⟨σ',H',I.dC,q⟩
 | brk=>obtain⟨σ',H',I,q⟩:=h;exact⟨σ',H',I.dC,q⟩
 | cont=>obtain⟨σ',H',I,q⟩:=h;exact⟨σ',H',I.dC,q⟩
 | ret u=>obtain⟨v,σ',H',I,r,q⟩:=h;exact⟨v,σ',H',I.dC,r,q⟩
def PSs.nox{st:List Stmt}(h:PSs X.nox st t):PSs X st t:=fun pins s σ H D I hw =>
 wpAny_mono (h pins s σ H D (I.fg _) hw) (fun _ _ q=>q.dC) fun _ _ z=>False.elim z
end
section
variable{X:Cx}{st:Stmt}{rest:List Stmt}{t u:TS}{e:Expr}{te:TE}{pos:Pos}
abbrev yz:TS:=fun D σ H=>D.nx σ H
abbrev zg(t u:TS):TS:=fun D σ H=>t { D with nx:=u D } σ H
def uL:PSs X [] yz:=fun _ _ σ H _ I h=>wpAny_execs_nil ⟨σ,H,I,h⟩
def kL(h1:PS X st t)(h2:PSs X rest u):PSs X (st::rest) (zg t u):=by
 intro pins s σ H D I h;refine wpAny_execs_cons (thn (h1 pins s σ H { D with nx:=u D } I h) fun f s1 q=>?_)
 cases f with
 |next=>
  obtain⟨σ',H',I',q⟩:=q;exact h2 pins s1 σ' H' D I' q
 | ret v=>exact q
 | brk=>exact q
 | cont=>exact q
def tu(h1:PS X st t):PSs X [st] t:=by
 intro pins s σ H D I h;refine wpAny_execs_cons (thn (h1 pins s σ H D I h) fun f s1 q=>?_)
 cases f with
 | next=>exact wpAny_execs_nil q
 | ret v=>exact q
 | brk=>exact q
 | cont=>exact q
def Inv.quiet(I:Inv X pins σ H s):interactive X.env=false:=by simp[interactive,I.ok.kind]
abbrev k5(te:TE):TS:=fun D σ H=>te σ H fun _ H1=>D.nx σ H1
def j1(he:PE X e te)(hs:swapsWith e none pos.line X.env=pure false):PS X (.Expr e pos) (k5 te):=by
 intro pins s σ H D I h;exact wpAny_Expr_any (thn (he pins s σ H _ I h) fun v s1 ⟨x,H1,I1,r1,q1⟩=>⟨σ,H1,I1,q1⟩) I.quiet hs
abbrev zj(te:TE):TS:=fun D σ H=>te σ H D.rt
def l3(he:PE X e te):PS X (.Return (some e) pos) (zj te):=by
 intro pins s σ H D I h;exact wpAny_Return_some (thn (he pins s σ H _ I h) fun v s1 ⟨x,H1,I1,r1,q1⟩=>⟨x,σ,H1,I1,r1,q1⟩)
abbrev zk(c:TT)(t u:TS):TS:=fun D σ H=>c σ H fun b H1=>if b=true then t D σ H1 else u D σ H1
def yQ(hc:PT X c tc)(ha:PSs X a t)(hb:PSs X b u):PS X (.If c a b pos) (zk tc t u):=by
 intro pins s σ H D I h;refine wpAny_If (thn (hc pins s σ H _ I h) fun d s1 ⟨H1,I1,q1⟩=>?_)
 cases d with
 | true=>exact ha pins s1 σ H1 D I1 q1
 | false=>exact hb pins s1 σ H1 D I1 q1
abbrev wL:TS:=fun _ _ _=>False
def rP:PS X st wL:=fun _ _ _ _ _ _ h=>h.elim
end
@[reducible]noncomputable def TG:=V->St->Hp->(St->Hp->Prop)->Prop
@[reducible]noncomputable def TGs:=List V->St->Hp->(St->Hp->Prop)->Prop
abbrev PG(X:Cx)(target:Expr)(t:TG):Prop :=
 ∀ (pins:List (Addr × Obj)) (s:Shared) (σ:St) (H:Hp) (v:V) (u:Value) (Q:St->Hp->Prop),Inv X pins σ H s->RelV v u->t v σ H Q ->
  wpAny (model X.prog X.w) X.A (assign target X.env u) (fun _ s'=>∃ σ' H',Inv X pins σ' H' s'/\Q σ' H') X.xe s
abbrev PGs(X:Cx)(ts:List Expr)(t:TGs):Prop :=
 ∀ (pins:List (Addr × Obj)) (s:Shared) (σ:St) (H:Hp) (vs:List V) (us:List Value) (Q:St->Hp->Prop),Inv X pins σ H s->Vals vs us->t vs σ H Q ->
  wpAny (model X.prog X.w) X.A (assignInOrder ((assignEach ts X.env).map (·.2)) us) (fun _ s'=>∃ σ' H',Inv X pins σ' H' s'/\Q σ' H') X.xe s
@[reducible]noncomputable def vH:=V->V->V->Hp->(Hp->Prop)->Prop
abbrev vQ(X:Cx)(t:vH):Prop :=
 ∀ (pins:List (Addr × Obj)) (s:Shared) (σ:St) (H:Hp) (o i v:V) (ov iv u:Value) (Q:Hp->Prop),Inv X pins σ H s->RelV o ov->RelV i iv->RelV v u->t o i v H Q ->
  wpAny (model X.prog X.w) X.A (setItem ov iv u) (fun _ s'=>∃ H',Inv X pins σ H' s'/\Q H') X.xe s
@[reducible]noncomputable def TIp:=V->V->Hp->VK->Prop
abbrev PIp(X:Cx)(op:Operator)(t:TIp):Prop :=
 ∀ (pins:List (Addr × Obj)) (s:Shared) (σ:St) (H:Hp) (x y:V) (v u:Value) (Q:VK),Inv X pins σ H s->RelV x v->RelV y u->t x y H Q ->
  wpAny (model X.prog X.w) X.A (inplaceOp op v u) (EP X pins σ Q) X.xe s
section
variable{X:Cx}{pos:Pos}
abbrev gR(i:Nat):TG:=fun v σ H Q=>Q (σ.set i (some v)) H
def gI(hN:X.N.Nodup)(hi:X.N[i]?=some x)(hx:Loc X.env.scope x)(hf:X.fn x=true\/X.env.scope.names.lookup x=some .local):PG X (.Name x pos) (gR i):=by
 intro pins s σ H v u Q I r h;exact wpAny_assign_Name (eu I hN hi hx r (fun s' I'=>⟨_,H,I',h⟩) hf)
abbrev wq:TGs:=fun vs σ H Q=>vs=[]/\Q σ H
abbrev sI(t:TG)(u:TGs):TGs:=fun vs σ H Q=>∃ v r,vs=v::r/\t v σ H fun σ' H'=>u r σ' H' Q
def uF:PGs X [] wq:=by
 intro pins s σ H vs us Q I r h;obtain⟨e,h⟩:=h;subst e;cases r;exact assignInOrder_nil ⟨σ,H,I,h⟩
def rJ(h1:PG X e t)(h2:PGs X es u)
 (hs:(assignEach (e::es) X.env).map (·.2)=assign e X.env::(assignEach es X.env).map (·.2)):PGs X (e::es) (sI t u):=by
 intro pins s σ H vs us Q I r h;obtain⟨v,vr,e1,h⟩:=h;subst e1
 cases r with
 |cons r rr=>
  rw[hs];refine assignInOrder_cons (thn (h1 pins s σ H _ _ _ I r h) fun _ s1 ⟨σ1,H1,I1,q1⟩=>?_);exact h2 pins s1 σ1 H1 _ _ Q I1 rr q1
abbrev ji(K:PySem.W.Frag)(n:Nat)(t:TGs):TG:=fun v σ H Q=>∃ a xs,v=.ref a/\SqT K H a xs/\xs.length=n/\t xs σ H Q
def oE(hc:X.calm=true)(h:PGs X es t)
 (hn:(assignEach es X.env).length=n)(hst:(assignEach es X.env).findIdx? (·.1)=none):PG X (.Tuple es k pos) (ji X.K n t):=by
 intro pins s σ H v u Q I r hw;obtain⟨a,xs,e1,hq,hl,hw⟩:=hw;subst e1;cases r;obtain⟨its,rv,ht,hz⟩:=I.tuple hq;refine assign_Tuple_tuple (I.ok.hd.1 hc) ht (by simp[hn,<-hl,rv.length]) hst fun h' hx=>?_;have I1:Inv X pins σ H { s with heap:=h' }:=I.kept (t':=s.toks) fun b o e=>hx b o (Nat.ne_of_lt (Heap.lt_size e)) e;exact h pins _ σ H xs _ Q I1 (by simpa using rv) hw
abbrev rd(to ti:TE)(t:vH):TG:=fun v σ H Q=>to σ H fun o H1=>ti σ H1 fun i H2=>t o i v H2 fun H3=>Q σ H3
def xO(ho:PE X o to)(hi:PE X i ti)(hs:vQ X t)
 (ha:∀ v,assign (.Subscript o i pos) X.env v=(do
   let ov <- holding [v] (eval o X.env)
   let iv <- holding [v,ov] (eval i X.env)
   standAt pos
   holding [v,ov,iv] (setItem ov iv v)
   release [v,ov,iv] []):=by intro _;rfl):PG X (.Subscript o i pos) (rd to ti t):=by
 intro pins s σ H v u Q I r h;rw[ha];refine wpAny_bind (wpAny_holding (thn (ho pins s σ H _ I h) fun ov s1 ⟨x,H1,I1,r1,q1⟩=>?_));refine wpAny_bind (wpAny_holding (thn (hi pins s1 σ H1 _ I1 q1) fun iv s2 ⟨y,H2,I2,r2,q2⟩=>?_));refine wpAny_bind (wpAny_standAt (wpAny_bind (wpAny_holding (thn (hs pins s2 σ H2 x y v ov iv u _ I2 r1 r2 r q2) fun _ s3 ⟨H3,I3,q3⟩=>?_))));exact wpAny_release ⟨σ,H3,I3,q3⟩
abbrev j4(te:TE)(g:TG):TS:=fun D σ H=>te σ H fun x H1=>g x σ H1 D.nx
def lU(he:PE X e te)(hg:PG X tg g)(hs:swapsWithSole [tg] e pos.line X.env=pure false)(hw:swappedStores [tg] e X.env=pure none)
 (h1:(assignEach [tg] X.env).map (·.2)=[assign tg X.env]):PS X (.Assign [tg] e pos) (j4 te g):=by
 intro pins s σ H D I h;refine wpAny_Assign_stores (thn (he pins s σ H _ I h) fun v s1 ⟨x,H1,I1,r1,q1⟩=>?_) hs hw;rw[h1];exact thn (hg pins s1 σ H1 x v _ I1 r1 q1) fun _ s2 q=>q
def qh(hN:X.N.Nodup)(hi:X.N[i]?=some x)(hx:Loc X.env.scope x)(he:PE X e te)(hs:swapsWith e (some (.Name x pos')) pos.line X.env=pure false)(hf:X.fn x=true\/X.env.scope.names.lookup x=some .local) :
  PS X (.Assign [.Name x pos'] e pos) (j4 te (gR i)):=by
 intro pins s σ H D I h;refine wpAny_Assign_Name (thn (he pins s σ H _ I h) fun v s1 ⟨y,H1,I1,r1,q1⟩=>?_) hs;exact eu I1 hN hi hx r1 (fun s2 I2=>⟨_,H1,I2,q1⟩) hf
abbrev qG(i j:Nat)(ta:TA):TS:=fun D σ H=>ta σ H fun vs H1=>∃ v w,vs=[v,w]/\D.nx ((σ.set i (some v)).set j (some w)) H1
def oN(hc:X.calm=true)(hN:X.N.Nodup)(hi:X.N[i]?=some x)(hj:X.N[j]?=some y)(hij:i≠j)
 (hx:X.env.scope.names.lookup x=some .local)(hy:X.env.scope.names.lookup y=some .local)(ha:PA X [a,b] ta)
 (hw:swappedStores [.Tuple [.Name x px,.Name y py] kt pt] (.Tuple [a,b] k2 pt2) X.env=pure (some [x,y]))
 (hs:swapsWithSole [.Tuple [.Name x px,.Name y py] kt pt] (.Tuple [a,b] k2 pt2) pos.line X.env=pure false) :
  PS X (.Assign [.Tuple [.Name x px,.Name y py] kt pt] (.Tuple [a,b] k2 pt2) pos) (qG i j ta):=by
 intro pins s σ H D I h;rw[exec_Assign_arm];refine wpAny_bind (wpAny_standAt ?_);rw[hs];refine wpAny_bind (wpAny_pure ?_);rw[if_neg (by decide)];refine wpAny_bind (Tuple_ (thn (ha _ pins s σ H _ I h) fun us s1 ⟨vs,H1,I1,r1,q1⟩=>?_));obtain⟨v,w,e1,q1⟩:=q1;subst e1
 obtain⟨u1,u2,rfl,rv,rw'⟩:∃ u1 u2,us=[u1,u2]/\RelV v u1/\RelV w u2:=by
  cases r1 with
  |cons p q=>
   cases q with
   |cons p' q'=>
    cases q';exact⟨_,_,rfl,p,p'⟩
 refine wpAny_newObj_type ?_ (by show 2<=sizeLine;decide);have I2:Inv X pins σ H1 { s1 with heap:=s1.heap.push { cls:=.type "tuple",data:=.seq [u1,u2].toArray } }:=I1.kept (t':=s1.toks) fun b o e=>Heap.get?_push_of_some _ e;rw[hw];refine wpAny_bind (wpAny_pure ?_);show wpAny (model X.prog X.w) X.A (do rule "assign.swapped-stores";let items <- unpackItems (.ref s1.heap.objs.size) 2 none;assignInOrder [fun v=>bindName X.env y v,fun v=>bindName X.env x v] items.reverse;pure Flow.next) _ _ _;refine wpAny_bind (wpAny_rule (wpAny_bind (unpackItems_tuple (items:=#[u1,u2]) (I.ok.hd.1 hc) (IsTup.new s1.heap _) fun h' hx'=>?_)));have I3:=I2.kept (h':=h') (t':=s1.toks) fun b o e=>hx' b o (Nat.ne_of_lt (Heap.lt_size e)) e;show wpAny _ _ (assignInOrder [fun v=>bindName X.env y v,fun v=>bindName X.env x v] [u2,u1] >>= fun _=>pure Flow.next) _ _ _;refine wpAny_bind (assignInOrder_cons (wpAny_bindName (eu I3 hN hj (.inl hy) rw' (fun s2 I4=>?_) (.inr hy))));refine assignInOrder_cons (wpAny_bindName (eu I4 hN hi (.inl hx) rv (fun s3 I5=>assignInOrder_nil (wpAny_pure ?_)) (.inr hx)));rw[List.set_comm _ _ (Ne.symm hij)]at I5;exact⟨_,H1,I5,q1⟩
abbrev xj(i:Nat)(te:TE)(ti:TIp):TS:=fun D σ H=>∃ x,σ[i]?=some (some x)/\te σ H fun y H1=>ti x y H1 fun z H2=>D.nx (σ.set i (some z)) H2
def xy(hN:X.N.Nodup)(hi:X.N[i]?=some x)(hx:Loc X.env.scope x)(he:PE X e te)(ho:PIp X op ti)(hf:X.fn x=true\/X.env.scope.names.lookup x=some .local) :
  PS X (.AugAssign (.Name x pos') op e pos) (xj i te ti):=by
 intro pins s σ H D I h;obtain⟨v,e1,h⟩:=h;obtain⟨m,hn,hl⟩:=I.loc
 have vis:Vis X.env.scope x:=by rcases hx with k | k;exact .inl k;exact .inr (.inl k)
 obtain⟨u,r,l⟩:=hl i x v hi e1 vis;refine wpAny_AugAssign_Name ?_
 have go:wpAny (model X.prog X.w) X.A (eval e X.env) (fun w s₂=>wpAny (model X.prog X.w) X.A (inplaceOp op u w) (fun r s₃=>wpAny (model X.prog X.w) X.A (storeName X.env x r) (fun _=>SP X pins D .next) X.xe s₃) X.xe s₂) X.xe s:=by
  refine thn (he pins s σ H _ I h) fun w s1 ⟨y,H1,I1,r1,q1⟩=>?_;refine thn (ho pins s1 σ H1 v y u w _ I1 r r1 q1) fun z s2 ⟨zv,H2,I2,r2,q2⟩=>?_;exact eu I2 hN hi hx r2 (fun s3 I3=>⟨_,H2,I3,q2⟩) hf
 rcases l with⟨hk,hm⟩ | ⟨hk,c,hc,hcell⟩
 ·exact wpAny_loadName_local I.ok.kind hk hn hm go
 ·rcases hk with hk | hk
  ·exact wpAny_loadName_cell I.ok.kind hk hc hcell go
  ·rcases hx with k | k
   ·have:X.env.scope.names.lookup x=some .free:=hk;rw[k]at this;cases this
   ·have:X.env.scope.names.lookup x=some .free:=hk;rw[k]at this;cases this
abbrev ipI(f:Int->Int->Int):TIp:=fun x y H Q=>∃ i j,x=.int i/\y=.int j/\Q (.int (f i j)) H
def vh:PIp X .Add (ipI fun i j=>i+j):=by
 intro pins s σ H x y v u Q I r1 r2 h;obtain⟨i,j,e1,e2,q⟩:=h;subst e1;subst e2;obtain⟨t,rfl⟩:=r1;obtain⟨t',rfl⟩:=r2;exact iadd_int ⟨.int _,H,I.tok _,⟨_,rfl⟩,q⟩
end
section
variable{X:Cx}{pos:Pos}
end
structure It where
 go:Nat->Hp->Prop
 yld:Nat->Hp->V->Hp->Prop
 stop:Nat->Hp->Prop
abbrev fW(X:Cx)(pins:List (Addr × Obj))(H:Hp)(b:Addr):Prop :=
 H b=none/\b≠X.env.locals/\b∉X.fs/\(b∈X.ex\/X.s₀.heap.objs.size<=b)/\(∀ x c,X.env.cells.lookup x=some c->c≠b)/\∀ p∈X.pn++pins,p.1≠b
def Inv.lu(I:Inv X pins σ H s)(hb:s.heap.objs.size<=b)(hn:H' b=none):fW X pins H' b:=by
 refine⟨hn,Nat.ne_of_gt (Nat.lt_of_lt_of_le I.lt hb),I.zF hb,.inr (Nat.le_trans I.sz hb),fun x c e z=>?_,fun p hp z=>?_⟩
 ·obtain⟨v,q⟩:=I.cell x c e;exact absurd (Nat.lt_of_lt_of_le q.lt (by rw[z];exact hb)) (Nat.lt_irrefl _)
 ·exact absurd (Nat.lt_of_lt_of_le (Heap.lt_size (I.pin p hp).1) (by rw[z];exact hb)) (Nat.lt_irrefl _)
structure sV(CM:Cx->Prop)(P:Program)(w:World)(K:PySem.W.Frag)(tg:Expr)(J:It)(fp:List Addr)(it:Addr)(tn:Nat->Heap->Prop):Prop where
 mem:it∈fp
 obj:∀ i h,tn i h->∀ b∈fp,∃ o,h.get? b=some o/\∀ v,o.data≠.cell v
 keep:∀ i h h',tn i h->(∀ b∈fp,∀ o,h.get? b=some o->h'.get? b=some o)->tn i h'
 item:∀ (X:Cx),X.prog=P->X.w=w->X.K=K->CM X->∀ (i:Nat) (pins:List (Addr × Obj)) (s:Shared) (σ:St) (H:Hp) (E:Value->Shared->Prop),Inv X pins σ H s->(∀ b∈fp,fW X pins H b)->tn i s.heap->J.go i H ->
  wpAny (model P w) X.A (pyNext (.ref it)) (fun r s1=>∃ u,r=some u /\
   wpAny (model P w) X.A (letOwnedTupleGo tg (.ref it) u) (fun _ s2=>∃ x H',Inv X pins σ H' s2/\RelV x u/\J.yld i H x H'/\tn (i+1) s2.heap/\∀ b∈fp,H' b=none) E s1) E s
 done:∀ (X:Cx),X.prog=P->X.w=w->X.K=K->CM X->∀ (i:Nat) (pins:List (Addr × Obj)) (s:Shared) (σ:St) (H:Hp) (E:Value->Shared->Prop),Inv X pins σ H s->(∀ b∈fp,fW X pins H b)->tn i s.heap->J.stop i H ->
  wpAny (model P w) X.A (pyNext (.ref it)) (fun r s1=>r=none/\Inv X pins σ H s1) E s
 self:∀ (A:Around) (i:Nat) (s:Shared) (Q:Value->Shared->Prop) (E:Value->Shared->Prop),tn i s.heap->Q (.ref it) s->wpAny (model P w) A (pyIter (.ref it)) Q E s
@[reducible]noncomputable def Calm:Cx->Prop:=fun X=>X.calm=true
@[reducible]noncomputable def Turn:=sV Calm
@[reducible]noncomputable def TI:=St->Hp->(It->Hp->Prop)->Prop
abbrev vY(CM:Cx->Prop)(X:Cx)(pins:List (Addr × Obj))(σ:St)(tg:Expr)(R:It->Hp->Prop)(itv:Value)(s2:Shared):Prop :=
 ∃ (it:Addr) (fp:List Addr) (tn:Nat->Heap->Prop) (J:It) (H':Hp),itv=.ref it/\Inv X pins σ H' s2/\sV CM X.prog X.w X.K tg J fp it tn/\tn 0 s2.heap/\(∀ b∈fp,fW X pins H' b)/\R J H'
@[reducible]noncomputable def PIE:=vY Calm
abbrev PI'(CM:Cx->Prop)(X:Cx)(tg iter:Expr)(wi:TI):Prop :=
 ∀ (pins:List (Addr × Obj)) (s:Shared) (σ:St) (H:Hp) (R:It->Hp->Prop),Inv X pins σ H s->wi σ H R ->
  wpAny (model X.prog X.w) X.A (eval iter X.env) (fun v s1=>wpAny (model X.prog X.w) X.A (pyIter v) (vY CM X pins σ tg R) X.xe s1) X.xe s
@[reducible]noncomputable def PI:=PI' Calm
def kq(ho:s.heap.get? it=some o)(hc:o.cls=.type n)(hd:o.data=.fields vs)
 (hn:["enumerate", "zip", "dict_itemiterator", "dict_reverseitemiterator", "odict_iterator", "itertools.zip_longest", "itertools.pairwise"].contains n=false)(hQ:Q () s):wpAny M A (letOwnedTupleGo tg (.ref it) u) Q E s:=by
 unfold letOwnedTupleGo
 cases tg<;>first
  | exact wpAny_pure hQ
  | (cases u<;>first
    | exact wpAny_pure hQ
    | (refine wpAny_bind (wpAny_load ho ?_)
       rw[hc,hd];show wpAny M A (if(["enumerate", "zip", "dict_itemiterator", "dict_reverseitemiterator", "odict_iterator", "itertools.zip_longest", "itertools.pairwise"].contains n&&vs[0]? == some (rawInt _))=true then _ else _) Q E s;rw[if_neg (by intro h;rw[hn,Bool.false_and]at h;cases h)]
       exact wpAny_pure hQ))
abbrev Itl(K:PySem.W.Frag)(a:Addr):It :=
 ⟨fun i H=>∃ xs x,SqL K H a xs/\xs[i]?=some x,fun i H x H'=>H'=H/\∀ xs,SqL K H a xs->xs[i]?=some x,fun i H=>∃ xs,SqL K H a xs/\xs.length<=i⟩
abbrev Itt(K:PySem.W.Frag)(a:Addr):It :=
 ⟨fun i H=>∃ xs x,SqT K H a xs/\xs[i]?=some x,fun i H x H'=>H'=H/\∀ xs,SqT K H a xs->xs[i]?=some x,fun i H=>∃ xs,SqT K H a xs/\xs.length<=i⟩
abbrev Itr(lo:Int)(n:Nat):It:=⟨fun i _=>i<n,fun i H x H'=>H'=H/\x=.int (lo+i),fun i _=>n<=i⟩
def ot{P:Program}{w:World}{K:PySem.W.Frag}(a it:Addr):Turn P w K tg (Itl K a) [it] it (fun i h=>h.IsListIter it a i) where
 mem:=by simp
 obj:=fun i h st b hb=>by
  have e:b=it:=by simpa using hb
  subst e;obtain⟨o,e,c,d⟩:=st;exact⟨o,e,fun v z=>by rw[d]at z;cases z⟩
 keep:=fun i h h' st k=>st.at fun o e=>k it (by simp) o e
 item:=by
  intro X hP hw hK hc i pins s σ H E I hf st hg;subst hP hw hK;obtain⟨xs,x,hq,hx⟩:=hg;obtain⟨its,rv,p,hz⟩:=I.list hq;obtain⟨u,hu,ru⟩:=rv.get hx;obtain⟨f0,f1,f2,f3,f4,f5⟩:=hf it (by simp);refine wpAny_pyNext_list_item st p.isList (x:=u) (by simpa using hu) fun h' st' sb=>?_;have I1:Inv X pins σ H { s with heap:=h' }:=I.turned (t':=s.toks) (fun b o hb e=>(sb.2 b hb).trans e) f0 f1 f3 f4 f5;obtain⟨o,e,c,d⟩:=id st';exact⟨u,rfl,kq (s:={ s with heap:=h' }) e c d (by decide) ⟨x,H,I1,ru,⟨rfl,fun ys hy=>by rw[I.qq hy hq];exact hx⟩,st',fun b hb=>(hf b hb).1⟩⟩
 done:=by
  intro X hP hw hK hc i pins s σ H E I hf st hg;subst hP hw hK;obtain⟨xs,hq,hx⟩:=hg;obtain⟨its,rv,p,hz⟩:=I.list hq;obtain⟨f0,f1,f2,f3,f4,f5⟩:=hf it (by simp);have hl:=rv.length
  exact wpAny_pyNext_list_end (I.ok.hd.1 hc) st p.isList (by simp;omega) fun h' eb=>⟨rfl,I.turned (t':=s.toks) (fun b o hb e=>eb b o hb e) f0 f1 f3 f4 f5⟩
 self:=fun _ _ _ _ _ st h=>wpAny_pyIter_listiter st h
def mU{P:Program}{w:World}{K:PySem.W.Frag}(a it:Addr):Turn P w K tg (Itt K a) [it] it (fun i h=>h.IsTupleIter it a i) where
 mem:=by simp
 obj:=fun i h st b hb=>by
  have e:b=it:=by simpa using hb
  subst e;obtain⟨o,e,c,d⟩:=st;exact⟨o,e,fun v z=>by rw[d]at z;cases z⟩
 keep:=fun i h h' st k=>st.at fun o e=>k it (by simp) o e
 item:=by
  intro X hP hw hK hc i pins s σ H E I hf st hg;subst hP hw hK;obtain⟨xs,x,hq,hx⟩:=hg;obtain⟨its,rv,p,hz⟩:=I.tuple hq;obtain⟨u,hu,ru⟩:=rv.get hx;obtain⟨f0,f1,f2,f3,f4,f5⟩:=hf it (by simp);refine wpAny_pyNext_tuple_item st (show s.heap.IsTuple a its.toArray from p) (x:=u) (by simpa using hu) fun h' st' sb=>?_;have I1:Inv X pins σ H { s with heap:=h' }:=I.turned (t':=s.toks) (fun b o hb e=>(sb.2 b hb).trans e) f0 f1 f3 f4 f5;obtain⟨o,e,c,d⟩:=id st';exact⟨u,rfl,kq (s:={ s with heap:=h' }) e c d (by decide) ⟨x,H,I1,ru,⟨rfl,fun ys hy=>by rw[I.pX hy hq];exact hx⟩,st',fun b hb=>(hf b hb).1⟩⟩
 done:=by
  intro X hP hw hK hc i pins s σ H E I hf st hg;subst hP hw hK;obtain⟨xs,hq,hx⟩:=hg;obtain⟨its,rv,p,hz⟩:=I.tuple hq;obtain⟨f0,f1,f2,f3,f4,f5⟩:=hf it (by simp);have hl:=rv.length
  exact wpAny_pyNext_tuple_end (I.ok.hd.1 hc) st (show s.heap.IsTuple a its.toArray from p) (by simp;omega) fun h' eb=>⟨rfl,I.turned (t':=s.toks) (fun b o hb e=>eb b o hb e) f0 f1 f3 f4 f5⟩
 self:=fun _ _ _ _ _ st h=>wpAny_pyIter_tupleiter st h
def mY{P:Program}{w:World}{K:PySem.W.Frag}(it:Addr)(lo:Int)(n:Nat):Turn P w K tg (Itr lo n) [it] it (fun i h=>IsRangeIter h it (lo+(i:Nat)*1) ((n:Int)-(i:Nat)) 1) where
 mem:=by simp
 obj:=fun i h st b hb=>by
  have e:b=it:=by simpa using hb
  subst e
  exact⟨_,st,fun v z=>by
   have z':Data.fields _=Data.cell v:=z
   cases z'⟩
 keep:=fun i h h' st k=>k it (by simp) _ st
 item:=by
  intro X hP hw hK hc i pins s σ H E I hf st hg;subst hP hw hK;obtain⟨f0,f1,f2,f3,f4,f5⟩:=hf it (by simp);have W:=Walks.range (prog:=X.prog) (w:=X.w) (I.ok.hd.1 hc) it lo 1 n;refine W.item i s _ _ hg st fun v h' tk hv st' kk=>?_;obtain⟨t,rfl⟩:=hv;have I1:Inv X pins σ H { s with heap:=h',toks:=tk }:=I.turned (fun b o hb e=>kk b o (by simpa using hb) e) f0 f1 f3 f4 f5;refine⟨_,rfl,kq (s:={ s with heap:=h',toks:=tk }) (n := "range_iterator") st' rfl rfl (by decide) ⟨.int (lo+i),H,I1,⟨t,?_⟩,⟨rfl,rfl⟩,st',fun b hb=>(hf b hb).1⟩⟩;rw[Int.mul_one]
 done:=by
  intro X hP hw hK hc i pins s σ H E I hf st hg;subst hP hw hK;obtain⟨f0,f1,f2,f3,f4,f5⟩:=hf it (by simp)
  exact wpAny_pyNext_range_end (I.ok.hd.1 hc) st (by have:n<=i:=hg;omega) fun h' eb=>⟨rfl,I.turned (t':=s.toks) (fun b o hb e=>eb b o hb e) f0 f1 f3 f4 f5⟩
 self:=fun _ _ _ _ _ st h=>wpAny_pyIter_rangeiter st h
section
variable{X:Cx}{tg:Expr}
def kY{pins:List (Addr × Obj)}{σ:St}{H:Hp}{s:Shared}{R:It->Hp->Prop}{E:Value->Shared->Prop}{lo hi:Int}{t u v:Tok}{tk:Nat}(I:Inv X pins σ H s)(h1:-(2 ^ 62)<=lo)(h2:lo<2 ^ 62)(h3:-(2 ^ 62)<=hi)(h4:hi<2 ^ 62)
 (q:R (Itr lo (hi-lo).toNat) H):wpAny (model X.prog X.w) X.A (pyIter (.ref s.heap.objs.size)) (PIE X pins σ tg R) E { s with heap:=s.heap.push { cls:=.type "range",data:=.fields #[.int lo t,.int hi u,.int 1 v] },toks:=tk }:=by
 refine wpAny_pyIter_range (IsRange.new ..) (small_one h1 h2 h3 h4) ?_;have I1:Inv X pins σ H { s with heap:=s.heap.push { cls:=.type "range",data:=.fields #[.int lo t,.int hi u,.int 1 v] },toks:=tk }:=I.kept fun b o e=>Heap.get?_push_of_some _ e
 refine⟨(s.heap.push { cls:=.type "range",data:=.fields #[.int lo t,.int hi u,.int 1 v] }).objs.size,[(s.heap.push { cls:=.type "range",data:=.fields #[.int lo t,.int hi u,.int 1 v] }).objs.size],_,_,H,rfl,
  I1.kept (t':=tk) fun b o e=>Heap.get?_push_of_some _ e,mY _ lo (hi-lo).toNat,?_,fun b hb=>?_,q⟩
 ·have e1:lo+((0:Nat):Int)*1=lo:=by simp
  have e2:(((hi-lo).toNat:Nat):Int)-((0:Nat):Int)=Builtin.Range.rangeSize lo hi 1:=by rw[rangeSize_one];split<;>omega
  show IsRangeIter _ _ (lo+((0:Nat):Int)*1) ((((hi-lo).toNat:Nat):Int)-((0:Nat):Int)) 1;rw[e1,e2];exact Heap.get?_push_size _ rfl
 ·have e:b=(s.heap.push { cls:=.type "range",data:=.fields #[.int lo t,.int hi u,.int 1 v] }).objs.size:=by simpa using hb
  subst e;exact I1.lu (Nat.le_refl _) (I1.hok.fresh (Nat.le_refl _))
abbrev yC(ta:TA):TI:=fun σ H R=>ta σ H fun vs H1=>∃ j:Int,vs=[.int j]/\-(2 ^ 62)<=j/\j<2 ^ 62/\R (Itr 0 j.toNat) H1
abbrev yr(ta:TA):TI:=fun σ H R=>ta σ H fun vs H1=>∃ i j:Int,vs=[.int i,.int j]/\(-(2 ^ 62)<=i/\i<2 ^ 62/\-(2 ^ 62)<=j/\j<2 ^ 62)/\R (Itr i (j-i).toNat) H1
def oB{a:Expr}{ta:TA}{p pos:Pos}(hg:Gl X "range")(hm:X.mg "range" = none)(ha:PA X [a] ta)(hs:starEach [a] X.env=[(false,eval a X.env)]):PI X tg (.Call (.Name "range" p) [a] [] pos) (yC ta):=by
 intro pins s σ H R I h;refine Call_ (fu I hg hm boot_range (PyProof.Rows.callWith_type1 (thn (ha pos pins s σ H _ I h) fun us s1 ⟨vs,H1,I1,r1,q1⟩=>?_) hs rfl) (by decide) (by decide));obtain⟨j,e,q1,q2,q⟩:=q1;subst e
 cases r1 with
 |cons r rr=>
  cases rr;obtain⟨t,rfl⟩:=r;exact call_range_1 (kY I1 (by omega) (by omega) q1 q2 (by simpa using q))
def p8(hg:Gl X "range")(hm:X.mg "range" = none)(ha:PA X [a,b] ta)(hs:starEach [a,b] X.env=[(false,eval a X.env),(false,eval b X.env)])(hs2:starEach [b] X.env=[(false,eval b X.env)]) :
  PI X tg (.Call (.Name "range" p) [a,b] [] pos) (yr ta):=by
 intro pins s σ H R I h;refine Call_ (fu I hg hm boot_range (PyProof.Rows.callWith_type1 (thn (ha pos pins s σ H _ I h) fun us s1 ⟨vs,H1,I1,r1,q1⟩=>?_) (by rw[hs,hs2]) (by rw[hs2];rfl)) (by decide) (by decide));obtain⟨i,j,e,⟨q1,q2,q3,q4⟩,q⟩:=q1;subst e
 cases r1 with
 |cons r rr=>
  cases rr with
  |cons r' rr=>
   cases rr;obtain⟨t,rfl⟩:=r;obtain⟨t',rfl⟩:=r';exact call_range_2 (kY I1 q1 q2 q3 q4 q)
abbrev yY(wi:TI)(g:TG)(tb:TS):TS:=fun D σ H=>wi σ H fun J H1=>∃ W:Nat->Nat->St->Hp->Prop,(∃ m,W 0 m σ H1)/\∀ i m σ H,W i m σ H ->
 (J.stop i H/\D.nx σ H)\/(J.go i H/\∃ N:St->Hp->Prop,(∀ σ' H',N σ' H'->∃ m',m'<m/\W (i+1) m' σ' H')/\∀ x H',J.yld i H x H'->g x σ H' fun σ2 H2=>tb { D with nx:=N,ct:=N,bk:=D.nx } σ2 H2)
abbrev gA(fp:List Addr)(h:Heap):List (Addr × Obj):=fp.filterMap fun b=>(h.get? b).map fun o=>(b,o)
def dZ(hb:b∈fp)(e:h.get? b=some o):(b,o)∈gA fp h:=List.mem_filterMap.mpr ⟨b,hb,by rw[e];rfl⟩
def oR(hp:p∈gA fp h):p.1∈fp/\h.get? p.1=some p.2:=by
 obtain⟨b,hb,e⟩:=List.mem_filterMap.mp hp
 cases q:h.get? b with
 | none=>rw[q]at e;cases e
 |some o=>
  rw[q]at e;have e':(b,o)=p:=Option.some.inj e;subst e';exact⟨hb,q⟩
def Inv.pinned(I:Inv X pins σ H s)(hf:∀ b∈fp,fW X pins H b)(ho:∀ b∈fp,∃ o,s.heap.get? b=some o/\∀ v,o.data≠.cell v):Inv X (pins++gA fp s.heap) σ H s :=
 I.mT fun p hp=>(List.mem_append.mp hp).elim (fun z=>I.pin p (List.mem_append_right _ z)) fun z=>by
  obtain⟨hb,e⟩:=oR z;obtain⟨f0,f1,f2,_⟩:=hf p.1 hb;obtain⟨o,e',d⟩:=ho p.1 hb;rw[e]at e';cases e';exact⟨e,f0,f1,f2,d⟩
def Inv.gd(I:Inv X (pins++pl) σ H s):Inv X pins σ H s:=I.mT fun p hp=>I.pin p (List.mem_append_right _ (List.mem_append_left _ hp))
def xo(hp:PassesOwn (model X.prog X.w) X.A X.env X.xe)(hc:X.calm=true)(hi:PI X tg iter wi)(hg:PG X tg g)(hb:PSs X body tb)
 (hs:∀ x,foldedSetIterable iter X.env x=pure x):PS X (.For tg iter body [] pos) (yY wi g tb):=by
 intro pins s σ H D I h;refine wpAny_For (thn (hi pins s σ H _ I h) fun v s1 h1=>thn h1 fun itv s2 h2=>?_) hs;obtain⟨it,fp,tn,J,H2,e,I2,T,st2,f2,W,⟨m0,w0⟩,turn⟩:=h2;subst e
 have stat:∀ {H':Hp},(∀ b∈fp,H' b=none)->∀ b∈fp,fW X pins H' b:=fun hn b hb=>⟨hn b hb,(f2 b hb).2⟩
 refine codeAny_forLoop_any (fun n s'=>∃ i σ' H',Inv X pins σ' H' s'/\tn i s'.heap/\(∀ b∈fp,H' b=none)/\W i n σ' H') ?_ m0 ⟨0,σ,H2,I2,st2,fun b hb=>(f2 b hb).1,w0⟩;rintro n s3 ⟨i,σ3,H3,I3,st3,fr3,w3⟩
 rcases turn i n σ3 H3 w3 with⟨stop,qn⟩ | ⟨go,N,hN,step⟩
 ·refine wpAny_passesOwn hp (thn (T.done X rfl rfl rfl hc i pins s3 σ3 H3 X.xe I3 (stat fr3) st3 stop) fun r s4 ⟨hr,I4⟩=>?_);subst hr;exact wpAny_execs_nil ⟨σ3,H3,I4,qn⟩
 ·refine wpAny_passesOwn hp (thn (T.item X rfl rfl rfl hc i pins s3 σ3 H3 X.xe I3 (stat fr3) st3 go) fun r s4 ⟨u,hr,h4⟩=>?_);subst hr;refine wpAny_passesOwn hp (thn h4 fun _ s5 ⟨x,H5,I5,r5,y5,st5,fr5⟩=>?_);have I5':=I5.pinned (stat fr5) (T.obj _ _ st5);refine wpAny_passesOwn hp (thn (hg _ s5 σ3 H5 x u _ I5' r5 (step x H5 y5)) fun _ s6 ⟨σ6,H6,I6,q6⟩=>?_);refine wpAny_passesOwn hp (thn (hb _ s6 σ6 H6 _ I6 q6) fun f s7 q7=>?_)
  have again:∀ {σ7:St} {H7:Hp},Inv X (pins++gA fp s5.heap) σ7 H7 s7->N σ7 H7->∃ m,m<n/\∃ i σ' H',Inv X pins σ' H' s7/\tn i s7.heap/\(∀ b∈fp,H' b=none)/\W i m σ' H':=fun {σ7 H7} I7 n7=>by
   obtain⟨m',hm,w7⟩:=hN σ7 H7 n7;refine⟨m',hm,i+1,σ7,H7,I7.gd,T.keep _ _ _ st5 fun b hb o e=>(I7.pin (b,o) (List.mem_append_right _ (List.mem_append_right _ (dZ hb e)))).1,fun b hb=>?_,w7⟩;obtain⟨o,e,d⟩:=T.obj _ _ st5 b hb;exact(I7.pin (b,o) (List.mem_append_right _ (List.mem_append_right _ (dZ hb e)))).2.1
  cases f with
  | next=>obtain⟨σ7,H7,I7,n7⟩:=q7;exact again I7 n7
  | cont=>obtain⟨σ7,H7,I7,n7⟩:=q7;exact again I7 n7
  | brk=>obtain⟨σ7,H7,I7,q7⟩:=q7;exact⟨σ7,H7,I7.gd,q7⟩
  | ret v=>obtain⟨x7,σ7,H7,I7,r7,q7⟩:=q7;exact⟨x7,σ7,H7,I7.gd,r7,q7⟩
end
@[reducible]noncomputable def R2:=V->V->Hp->VK->Prop
abbrev OpR(X:Cx)(f:Value->Value->Sem Value)(r:R2):Prop :=
 ∀ (pins:List (Addr × Obj)) (s:Shared) (σ:St) (H:Hp) (x y:V) (v u:Value) (Q:VK),Inv X pins σ H s->RelV x v->RelV y u->r x y H Q ->
  wpAny (model X.prog X.w) X.A (f v u) (EP X pins σ Q) X.xe s
abbrev UnR(X:Cx)(f:Value->Sem Value)(r:V->Hp->VK->Prop):Prop :=
 ∀ (pins:List (Addr × Obj)) (s:Shared) (σ:St) (H:Hp) (x:V) (v:Value) (Q:VK),Inv X pins σ H s->RelV x v->r x H Q ->
  wpAny (model X.prog X.w) X.A (f v) (EP X pins σ Q) X.xe s
abbrev bo(X:Cx)(f:Value)(r:List V->Hp->VK->Prop):Prop :=
 ∀ (pins:List (Addr × Obj)) (s:Shared) (σ:St) (H:Hp) (xs:List V) (us:List Value) (Q:VK),Inv X pins σ H s->Vals xs us->r xs H Q ->
  wpAny (model X.prog X.w) X.A (call f us) (EP X pins σ Q) X.xe s
abbrev zp(X:Cx)(r:V->Hp->(Bool->Hp->Prop)->Prop):Prop :=
 ∀ (pins:List (Addr × Obj)) (s:Shared) (σ:St) (H:Hp) (x:V) (v:Value) (Q:Bool->Hp->Prop),Inv X pins σ H s->RelV x v->r x H Q ->
  wpAny (model X.prog X.w) X.A (truthy v) (TP X pins σ Q) X.xe s
abbrev tOp(r:R2)(ta tb:TE):TE:=fun σ H Q=>ta σ H fun x H1=>tb σ H1 fun y H2=>r x y H2 Q
abbrev tUn(r:V->Hp->VK->Prop)(ta:TE):TE:=fun σ H Q=>ta σ H fun x H1=>r x H1 Q
abbrev rI(C:Int->Int->Prop)(g:Int->Int->V):R2:=fun x y H Q=>∃ i j,x=.int i/\y=.int j/\C i j/\Q (g i j) H
abbrev rI0(g:Int->Int->V):R2:=fun x y H Q=>∃ i j,x=.int i/\y=.int j/\Q (g i j) H
abbrev rU(g:Int->V):V->Hp->VK->Prop:=fun x H Q=>∃ i,x=.int i/\Q (g i) H
section
variable{X:Cx}{a b c:Expr}{ta tb tc:TE}{pos:Pos}
def sf(ha:PE X a ta)(hb:PE X b tb){pins:List (Addr × Obj)}{s:Shared}{σ:St}{H:Hp}{R:V->V->Hp->Prop}(I:Inv X pins σ H s)
 (h:ta σ H fun x H1=>tb σ H1 fun y H2=>R x y H2){Q:Value->Shared->Prop}{f:Value->Value->Sem Value}
 (hf:∀ v u s2 x y H2,Inv X pins σ H2 s2->RelV x v->RelV y u->R x y H2->wpAny (model X.prog X.w) X.A (f v u) Q X.xe s2) :
  wpAny (model X.prog X.w) X.A (eval a X.env) (fun v s₁=>wpAny (model X.prog X.w) X.A (eval b X.env) (fun u s₂=>wpAny (model X.prog X.w) X.A (f v u) Q X.xe s₂) X.xe s₁) X.xe s:=by
 refine thn (ha pins s σ H _ I h) fun v s1 ⟨x,H1,I1,r1,q1⟩=>?_;refine thn (hb pins s1 σ H1 _ I1 q1) fun u s2 ⟨y,H2,I2,r2,q2⟩=>?_;exact hf v u s2 x y H2 I2 r1 r2 q2
def yx{op:Operator}{r:R2}(ho:OpR X (binaryOp op) r)(ha:PE X a ta)(hb:PE X b tb):PE X (.BinOp a op b pos) (tOp r ta tb):=by
 intro pins s σ H Q I h;exact wpAny_BinOp (sf ha hb I h fun v u s2 x y H2 I2 rx ry q=>ho pins s2 σ H2 x y v u Q I2 rx ry q)
def sH(ho:UnR X (unaryOp op) r)(ha:PE X a ta):PE X (.UnaryOp op a pos) (tUn r ta):=by
 intro pins s σ H Q I h;exact UnaryOp_ (thn (ha pins s σ H _ I h) fun v s1 ⟨x,H1,I1,r1,q1⟩=>ho pins s1 σ H1 x v Q I1 r1 q1)
def opI{f:Value->Value->Sem Value}{C:Int->Int->Prop}{g:Int->Int->Int}
 (rule:∀ (i j:Int) (t u:Tok) (s:Shared) (Q:Value->Shared->Prop) (E:Value->Shared->Prop),C i j->Q (.int (g i j) s.toks) { s with toks:=s.toks+1 }->wpAny (model X.prog X.w) X.A (f (.int i t) (.int j u)) Q E s) :
  OpR X f (rI C fun i j=>.int (g i j)):=by
 intro pins s σ H x y v u Q I rx ry h;obtain⟨i,j,rfl,rfl,hc,q⟩:=h;obtain⟨t,rfl⟩:=rx;obtain⟨t',rfl⟩:=ry;exact rule i j t t' s _ _ hc ⟨.int (g i j),H,I.tok _,⟨_,rfl⟩,q⟩
def wu{f:Value->Value->Sem Value}{g:Int->Int->Int}
 (rule:∀ (i j:Int) (t u:Tok) (s:Shared) (Q:Value->Shared->Prop) (E:Value->Shared->Prop),Q (.int (g i j) s.toks) { s with toks:=s.toks+1 }->wpAny (model X.prog X.w) X.A (f (.int i t) (.int j u)) Q E s) :
  OpR X f (rI0 fun i j=>.int (g i j)):=by
 intro pins s σ H x y v u Q I rx ry h;obtain⟨i,j,rfl,rfl,q⟩:=h;obtain⟨t,rfl⟩:=rx;obtain⟨t',rfl⟩:=ry;exact rule i j t t' s _ _ ⟨.int (g i j),H,I.tok _,⟨_,rfl⟩,q⟩
abbrev wQ(i j:Int):Prop:=0<=j/\j<=1000000/\i.natAbs<2 ^ 64
abbrev oa(i j:Int):Prop:=(-(2 ^ 64)<i/\i<2 ^ 64)\/(-(2 ^ 64)<j/\j<2 ^ 64)
def oa.ok(h:oa i j):IntMulOk i j:=by
 rcases h with⟨h1,h2⟩ | ⟨h1,h2⟩
 ·exact .of_left (intBits_le_64 h1 h2)
 ·exact .of_right (intBits_le_64 h1 h2)
def ve:OpR X (binaryOp .Add) (rI0 fun i j=>.int (i+j)):=wu fun _ _ _ _ _ _ _ q=>add_int q
def v7:OpR X (binaryOp .Sub) (rI0 fun i j=>.int (i-j)):=wu fun _ _ _ _ _ _ _ q=>sub_int q
def x8:OpR X (binaryOp .Mult) (rI oa fun i j=>.int (i*j)):=opI fun _ _ _ _ _ _ _ hc q=>mul_int q hc.ok
def vw:OpR X (binaryOp .Mod) (rI (fun _ j=>0<j) fun i j=>.int (i%j)):=opI fun i j _ _ _ _ _ hc q=>by
 have h1:(0:Int)<j:=hc;exact mod_int' (by omega) (by rw[Int.fmod_eq_emod_of_nonneg i (by omega)];exact q)
def vA:OpR X (binaryOp .Pow) (rI wQ fun i j=>.int (i ^ j.toNat)):=opI fun _ _ _ _ _ _ _ hc q=>pow_int_small hc.1 hc.2.1 hc.2.2 q
def unI{f:Value->Sem Value}{g:Int->Int}
 (rule:∀ (i:Int) (t:Tok) (s:Shared) (Q:Value->Shared->Prop) (E:Value->Shared->Prop),Q (.int (g i) s.toks) { s with toks:=s.toks+1 }->wpAny (model X.prog X.w) X.A (f (.int i t)) Q E s) :
  UnR X f (rU fun i=>.int (g i)):=by
 intro pins s σ H x v Q I rx h;obtain⟨i,rfl,q⟩:=h;obtain⟨t,rfl⟩:=rx;exact rule i t s _ _ ⟨.int (g i),H,I.tok _,⟨_,rfl⟩,q⟩
def pj:UnR X (unaryOp .USub) (rU fun i=>.int (-i)):=unI fun _ _ _ _ _ q=>neg_int q
end
section
variable{X:Cx}{a b c:Expr}{ta tb tc:TE}{pos:Pos}
def qi(I:Inv X pins σ H s)(q:Q (.bl k) H)(e:k=k'):EP X pins σ Q (.bool k') s:=by
 subst e;exact⟨.bl k,H,I,rfl,q⟩
def vI:OpR X (compareOp .Is) (fun x y H Q=>y=.non/\Q (.bl (decide (x=.non))) H):=by
 intro pins s σ H x y v u Q I rx ry h;obtain⟨rfl,q⟩:=h;cases ry;refine is_none_gen (qi I q ?_)
 cases x<;>first
  | (cases rx;rfl)
  | (obtain⟨t,rfl⟩:=rx;rfl)
def uP:OpR X (compareOp .IsNot) (fun x y H Q=>y=.non/\Q (.bl (!decide (x=.non))) H):=by
 intro pins s σ H x y v u Q I rx ry h;obtain⟨rfl,q⟩:=h;cases ry;refine isnot_none_gen (qi I q ?_)
 cases x<;>first
  | (cases rx;rfl)
  | (obtain⟨t,rfl⟩:=rx;rfl)
def OpR.or(h:OpR X f r)(h':OpR X f r'):OpR X f (fun x y H Q=>r x y H Q\/r' x y H Q):=by
 intro pins s σ H x y v u Q I rx ry q;rcases q with q | q
 ·exact h pins s σ H x y v u Q I rx ry q
 ·exact h' pins s σ H x y v u Q I rx ry q
def pd(b:Expr)(h:op≠.In)(h2:op≠.NotIn):behindInMarks op b=false:=by
 have e1:(op == CmpOp.In)=false:=by cases op<;>first | rfl | exact absurd rfl h
 have e2:(op == CmpOp.NotIn)=false:=by cases op<;>first | rfl | exact absurd rfl h2
 cases b<;>simp[behindInMarks,e1,e2]
def jz{op:CmpOp}{r:R2}(ho:OpR X (compareOp op) r)(ha:PE X a ta)(hb:PE X b tb)(hm:behindInMarks op b=false):PE X (.Compare a [op] [b] pos) (tOp r ta tb):=by
 intro pins s σ H Q I h;exact wpAny_Compare1 (sf ha hb I h fun v u s2 x y H2 I2 rx ry q=>ho pins s2 σ H2 x y v u Q I2 rx ry q) hm
abbrev sE(t:TE):TT:=fun σ H Q=>t σ H fun x H'=>∃ k,x=.bl k/\Q k H'
def jr(ho:OpR X (compareOp op) r)(ha:PE X a ta)(hb:PE X b tb)(hm:behindInMarks op b=false):PT X (.Compare a [op] [b] pos) (sE (tOp r ta tb)):=by
 intro pins s σ H Q I h
 refine wpAny_isTrue_Compare1 (thn (ha pins s σ H _ I h) fun v s1 ⟨x,H1,I1,r1,q1⟩=>thn (hb pins s1 σ H1 _ I1 q1) fun u s2 ⟨y,H2,I2,r2,q2⟩ =>
  thn (ho pins s2 σ H2 x y v u _ I2 r1 r2 q2) fun c s3 ⟨z,H3,I3,r3,k,e,q3⟩=>?_) hm
 subst e;cases r3;exact wpAny_truthy_bool ⟨H3,I3,q3⟩
abbrev l6(r r':R2)(ta tb tc:TE):TE:=fun σ H Q=>ta σ H fun x H1=>tb σ H1 fun y H2=>r x y H2 fun z H3=>∃ k,z=.bl k /\
 (if k=true then tc σ H3 fun w' H4=>r' y w' H4 Q else Q (.bl false) H3)
def rL(ho:OpR X (compareOp op) r)(ho':OpR X (compareOp op') r')(ha:PE X a ta)(hb:PE X b tb)(hc:PE X c tc)
 (hm:lastMarks [op,op'] [b,c]=false):PE X (.Compare a [op,op'] [b,c] pos) (l6 r r' ta tb tc):=by
 intro pins s σ H Q I h
 refine Compare_chain (thn (ha pins s σ H _ I h) fun v s1 ⟨x,H1,I1,r1,q1⟩=>chain_link (thn (hb pins s1 σ H1 _ I1 q1) fun u s2 ⟨y,H2,I2,r2,q2⟩ =>
  thn (ho pins s2 σ H2 x y v u _ I2 r1 r2 q2) fun d s3 ⟨z,H3,I3,r3,k,e,q3⟩=>?_)) hm
 subst e;cases r3;refine wpAny_truthy_bool ?_
 cases k with
 | false=>exact ite_ff ⟨.bl false,H3,I3,rfl,q3⟩
 | true=>exact ite_tt (chain_last (thn (hc pins s3 σ H3 _ I3 q3) fun w' s4 ⟨z',H4,I4,r4,q4⟩=>ho' pins s4 σ H4 y z' u w' Q I4 r2 r4 q4))
def rf(ho:OpR X (compareOp op) r)(ho':OpR X (compareOp op') r')(ha:PE X a ta)(hb:PE X b tb)(hc:PE X c tc)
 (hm:lastMarks [op,op'] [b,c]=false):PT X (.Compare a [op,op'] [b,c] pos) (sE (l6 r r' ta tb tc)):=by
 intro pins s σ H Q I h
 refine isTrue_chain (thn (ha pins s σ H _ I h) fun v s1 ⟨x,H1,I1,r1,q1⟩=>test_link (thn (hb pins s1 σ H1 _ I1 q1) fun u s2 ⟨y,H2,I2,r2,q2⟩ =>
  thn (ho pins s2 σ H2 x y v u _ I2 r1 r2 q2) fun d s3 ⟨z,H3,I3,r3,k,e,q3⟩=>?_)) hm
 subst e;cases r3;refine wpAny_truthy_bool ?_
 cases k with
 |false=>
  obtain⟨k',e',q'⟩:=q3;cases e';exact ite_ff ⟨H3,I3,q'⟩
 |true=>
  refine ite_tt (test_last (thn (hc pins s3 σ H3 _ I3 q3) fun w' s4 ⟨z',H4,I4,r4,q4⟩=>thn (ho' pins s4 σ H4 y z' u w' _ I4 r2 r4 q4) fun d' s5 ⟨z2,H5,I5,r5,k2,e2,q5⟩=>?_));subst e2;cases r5;exact wpAny_truthy_bool ⟨H5,I5,q5⟩
abbrev nY(K:PySem.W.Frag)(x:V)(H:Hp)(k:Bool):Prop :=
 match x with
 | .non=>k=false
 | .bl b=>k=b
 | .int i=>k=(i != 0)
 | .str y=>y.length<=sizeLine/\k=((y.length:Int) != 0)
 | .byt y=>y.size<=sizeLine/\k=((y.size:Int) != 0)
 | .ref p=>(∃ xs,SqL K H p xs/\k=!xs.isEmpty)\/(∃ xs,SqT K H p xs/\k=!xs.isEmpty)\/∃ kvs,H p=some (.dK kvs)/\k=!kvs.isEmpty
 | _=>False
def nL(r:KV kvs vs):(!vs.isEmpty)=!kvs.isEmpty:=by
 cases r<;>rfl
def iG(r:Vals xs its):(!its.toArray.isEmpty)=!xs.isEmpty:=by
 cases r<;>simp
def f7:(sizeLine:Nat)<2 ^ 63:=by rw[sizeLine_eq];decide
def oA:zp X (fun x H Q=>∃ k,nY X.K x H k/\Q k H):=by
 intro pins s σ H x v Q I rx h;obtain⟨k,e,q⟩:=h;have hl:=f7;have hs:sizeLine=16777216:=sizeLine_eq
 cases x with
 |non=>
  cases rx;have e':k=false:=e;subst e';exact truthy_none ⟨H,I,q⟩
 |bl b=>
  cases rx;have e':k=b:=e;subst e';exact wpAny_truthy_bool ⟨H,I,q⟩
 |int i=>
  obtain⟨t,rfl⟩:=rx;have e':k=(i != 0):=e;subst e';exact PySem.P.truthy_int ⟨H,I,q⟩
 |str y=>
  obtain⟨t,rfl⟩:=rx;obtain⟨hy,e'⟩:y.length<=sizeLine/\k=((y.length:Int) != 0):=e;subst e';exact PySem.P.truthy_str (by omega) ⟨H,I.tok _,q⟩
 |byt y=>
  obtain⟨t,rfl⟩:=rx;obtain⟨hy,e'⟩:y.size<=sizeLine/\k=((y.size:Int) != 0):=e;subst e';exact PySem.W.truthy_bytes (by omega) ⟨H,I.tok _,q⟩
 |ref p=>
  cases rx;have e':(∃ xs,SqL X.K H p xs/\k=!xs.isEmpty)\/(∃ xs,SqT X.K H p xs/\k=!xs.isEmpty)\/∃ kvs,H p=some (.dK kvs)/\k=!kvs.isEmpty:=e
  rcases e' with⟨xs,hx,e'⟩ | ⟨xs,hx,e'⟩ | ⟨kvs,hx,e'⟩
  ·subst e';obtain⟨its,r,pl,hz⟩:=I.list hx;have hlen:=r.length;exact wpAny_truthy_list pl.isList (by simp only[List.size_toArray];omega) ⟨H,I.tok _,by rw[iG r];exact q⟩
  ·subst e';obtain⟨its,r,pl,hz⟩:=I.tuple hx;have hlen:=r.length;exact truthy_tuple pl (by simp only[List.size_toArray];omega) ⟨H,I.tok _,by rw[iG r];exact q⟩
  ·subst e';obtain⟨hz,hS,vs,r,m⟩:kvs.length<=sizeLine/\(p == sysModules)=false/\∃ vs,KV kvs vs/\s.heap.DictOf (aM X.prog X.w) p vs:=I.hok p _ hx;have hlen:kvs.length=vs.length:=Paired.length r;exact wpAny_truthy_dict hS m (by omega) ⟨H,I.tok _,by rw[nL r];exact q⟩
 | _=>exact(show False from e).elim
def rN(ha:PE X a ta)(he:∀ whole,isTrue a X.env whole=(do let v <- whole;standAt a.pos;holding [v] (truthy v))) :
  PT X a (fun σ H Q=>ta σ H fun x H'=>∃ k,nY X.K x H' k/\Q k H'):=by
 intro pins s σ H Q I h;exact isTrue_plain (thn (ha pins s σ H _ I h) fun v s1 ⟨x,H1,I1,r1,q1⟩=>oA pins s1 σ H1 x v Q I1 r1 q1) (he _)
def nV:OpR X (binaryOp .Add) (fun x y H Q=>∃ i j,x=.str i/\y=.str j/\i.length+j.length<=sizeLine/\Q (.str (i++j)) H):=by
 intro pins s σ H x y v u Q I rx ry h;obtain⟨i,j,rfl,rfl,hz,q⟩:=h;obtain⟨t,rfl⟩:=rx;obtain⟨t',rfl⟩:=ry;exact add_str (fun t' tk=>⟨.str (i++j),H,I.tok _,⟨_,rfl⟩,q⟩) hz
def vals1(r:Vals [x] us):∃ u,us=[u]/\RelV x u:=by
 cases r with
 | cons r1 r2=>cases r2;exact⟨_,rfl,r1⟩
def vals2(r:Vals [x,y] us):∃ u w',us=[u,w']/\RelV x u/\RelV y w':=by
 cases r with
 |cons r1 r2=>
  cases r2 with
  | cons r3 r4=>cases r4;exact⟨_,_,rfl,r1,r3⟩
def rj:bo X (.builtin "abs") (fun xs H Q=>∃ i,xs=[.int i]/\Q (.int (if i<0 then -i else i)) H):=by
 intro pins s σ H xs us Q I r h;obtain⟨i,rfl,q⟩:=h;obtain⟨u,rfl,t,rfl⟩:=vals1 r
 exact call_abs_int fun u tk=>⟨.int (if i<0 then -i else i),H,I.tok _,⟨_,rfl⟩,q⟩
def pA(hc:X.calm=true):bo X (.builtin "max") (fun xs H Q=>∃ i j,xs=[.int i,.int j]/\Q (.int (if j > i then j else i)) H):=by
 intro pins s σ H xs us Q I r h;obtain⟨i,j,rfl,q⟩:=h;obtain⟨u,w',rfl,⟨t,rfl⟩,⟨t',rfl⟩⟩:=vals2 r
 refine max_two_ints (I.ok.hd.1 hc) fun h' tk k=>⟨_,H,I.kept k,?_,q⟩
 by_cases hj:j > i
 ·rw[if_pos hj,if_pos hj];exact⟨_,rfl⟩
 ·rw[if_neg hj,if_neg hj];exact⟨_,rfl⟩
def oW(hc:X.calm=true):bo X (.builtin "min") (fun xs H Q=>∃ i j,xs=[.int i,.int j]/\Q (.int (if j<i then j else i)) H):=by
 intro pins s σ H xs us Q I r h;obtain⟨i,j,rfl,q⟩:=h;obtain⟨u,w',rfl,⟨t,rfl⟩,⟨t',rfl⟩⟩:=vals2 r
 refine min_two_ints (I.ok.hd.1 hc) fun h' tk k=>⟨_,H,I.kept k,?_,q⟩
 by_cases hj:j<i
 ·rw[if_pos hj,if_pos hj];exact⟨_,rfl⟩
 ·rw[if_neg hj,if_neg hj];exact⟨_,rfl⟩
def qa:bo X (.type "int") (fun xs H Q=>(∃ i,xs=[.int i]/\Q (.int i) H)\/∃ k,xs=[.bl k]/\Q (.int (if k then 1 else 0)) H):=by
 intro pins s σ H xs us Q I r h
 rcases h with⟨i,rfl,q⟩ | ⟨k,rfl,q⟩
 ·obtain⟨u,rfl,t,rfl⟩:=vals1 r;exact call_int_int ⟨.int i,H,I,⟨_,rfl⟩,q⟩
 ·obtain⟨u,rfl,r1⟩:=vals1 r;cases r1;exact call_int_bool ⟨.int (if k then 1 else 0),H,I.tok _,⟨_,rfl⟩,q⟩
abbrev wD(K:PySem.W.Frag)(x:V)(H:Hp)(n:Nat):Prop :=
 match x with
 | .str y=>y.length<=sizeLine/\n=y.length
 | .byt y=>y.size<=sizeLine/\n=y.size
 | .ref p=>(∃ xs,SqL K H p xs/\n=xs.length)\/∃ xs,SqT K H p xs/\n=xs.length
 | _=>False
def qF:bo X (.builtin "len") (fun xs H Q=>∃ x n,xs=[x]/\wD X.K x H n/\Q (.int n) H):=by
 intro pins s σ H xs us Q I r h;obtain⟨x,n,rfl,e,q⟩:=h;obtain⟨u,rfl,rx⟩:=vals1 r;have hl:=f7;have hs:sizeLine=16777216:=sizeLine_eq
 cases x with
 |str y=>
  obtain⟨t,rfl⟩:=rx;obtain⟨hy,e'⟩:y.length<=sizeLine/\n=y.length:=e;subst e';exact len_str (by omega) ⟨.int _,H,I.tok _,⟨_,rfl⟩,q⟩
 |byt y=>
  obtain⟨t,rfl⟩:=rx;obtain⟨hy,e'⟩:y.size<=sizeLine/\n=y.size:=e;subst e';exact PySem.W.len_bytes (by omega) ⟨.int _,H,I.tok _,⟨_,rfl⟩,q⟩
 |ref p=>
  cases rx;have e':(∃ xs,SqL X.K H p xs/\n=xs.length)\/∃ xs,SqT X.K H p xs/\n=xs.length:=e
  rcases e' with⟨xs,hx,e'⟩ | ⟨xs,hx,e'⟩
  ·subst e';obtain⟨its,r',pl,hz⟩:=I.list hx;have hlen:=r'.length;exact Calls.call_len_list pl.isList (by simp only[List.size_toArray];omega) ⟨.int xs.length,H,I.tok _,⟨_,by simp only[List.size_toArray];rw[hlen]⟩,q⟩
  ·subst e';obtain⟨its,r',pl,hz⟩:=I.tuple hx;have hlen:=r'.length;exact len_tuple pl (by simp only[List.size_toArray];omega) ⟨.int xs.length,H,I.tok _,⟨_,by simp only[List.size_toArray];rw[hlen]⟩,q⟩
 | _=>exact(show False from e).elim
end
structure qM(h:Heap)(x dx C:Addr)(mA:Str->Option Value):Prop where
 obj:h.get? x=some (PySem.W.instObj C dx)
 ns:h.Ns1 dx mA
 ne:dx≠x
def pY{h:Heap}(n:h.Ns1 dx mA):∃ od,h.get? dx=some od/\∀ name,PySem.W.lookIn name od=some (mA name):=by
 obtain⟨o,es,ep,ho,hd,hk,_,hm⟩:=n;refine⟨o,ho,fun name=>?_⟩;have e:=hm name;unfold nsFind findBy at e;rw[<-Array.find?_toList]at e;unfold PySem.W.lookIn;rw[hd];dsimp only;split
 ·rename_i y q;rw[q]at e;exact congrArg some e
 ·rename_i q;rw[q]at e
  have a:es.toList.any (·.refKey)=false:=by
   rw[List.any_eq_false];intro y hy;obtain⟨z,t,hkey⟩:=hk y (Array.mem_toList_iff.mp hy);simp[DictEntry.refKey,hkey]
  have a':¬ es.toList.any (·.refKey)=true:=by rw[a];exact Bool.false_ne_true
  rw[if_neg a'];exact congrArg some e
def qM.look(I:qM h x dx C mA):∃ od,PySem.W.InstAt h x (PySem.W.instObj C dx) C (some od)/\∀ name,PySem.W.lookIn name od=some (mA name) :=
 let ⟨od,ho,hl⟩:=pY I.ns
 ⟨od,⟨I.obj,rfl,rfl,ho⟩,hl⟩
section
variable{prog:Program}{w:World}{A:Around}{E:Value->Shared->Prop}{s:Shared}{K:PySem.W.Frag}{x dx C f:Addr}{mA:Str->Option Value}{name:Str}{v:Value}
end
section
variable{P:Program}{w:World}{H H':Hp}{h h':Heap}{a C dx:Addr}{fs fs':List (Str × V)}
def uz(hok:HOk P w H h)(e:H a=some (.ins C dx fs)):∃ mA,qM h a dx C mA/\(∀ f,j6 (fs.lookup f) (mA f))/\PySem.Within mA (fs.map (·.1))/\fs.length<=1000/\H dx=some (.own a):=by
 obtain⟨d,z,ne,ob,mA,n,r,q⟩:=(show bf P w H h a (.ins C dx fs)from hok a _ e)
 exact⟨mA,⟨ob,n,ne⟩,r,q,z,d⟩
end
structure Cls(K:PySem.W.Frag)(C:Addr):Prop where
 pg:PySem.W.plainGet K C Str.empty=true
 hd:PySem.W.hasDictIn K C=true
 po:PySem.W.plainOver K C=true
 sa:PySem.W.findIn K (.ref C) "__setattr__" = some (some (.builtin "object.__setattr__"))
def Cls.get{K:PySem.W.Frag}(c:Cls K C)(f:Str):PySem.W.plainGet K C f=true:=c.pg
section
variable{X:Cx}{pins:List (Addr × Obj)}{σ:St}{H:Hp}{s:Shared}{a C dx:Addr}{fs:List (Str × V)}{f:Str}{v:V}{A:Around}{E:Value->Shared->Prop}
end
section
variable{X:Cx}{o e value:Expr}{f:Str}{pos pos' tpos:Pos}{ta tv:TE}
end
section
variable{X:Cx}{pins:List (Addr × Obj)}{σ:St}{H:Hp}{s:Shared}{A:Around}{E:Value->Shared->Prop}{Q:Value->Shared->Prop}{c:Value}{b:Bool}
inductive di (K:PySem.W.Frag) (H:Hp):V->Value->Prop where
 | non:di K H .non (.type "NoneType")
 | bl (x:Bool):di K H (.bl x) (.type "bool")
 | int (i:Int):di K H (.int i) (.type "int")
 | str (x:Str):di K H (.str x) (.type "str")
 | flt (x:UInt64):di K H (.flt x) (.type "float")
 | lst {a:Addr} {xs:List V} (e:H a=some (.lst xs)):di K H (.ref a) (.type "list")
 | frz {a:Addr} {o:Obj} {xs:List V} (e:H a=some (.frz o (.lst xs))):di K H (.ref a) (.type "list")
 | tup {a:Addr} {xs:List V} (e:H a=some (.tup xs)):di K H (.ref a) (.type "tuple")
 | dK {a:Addr} {kvs:List (Key × V)} (e:H a=some (.dK kvs)):di K H (.ref a) (.type "dict")
 | dT {a:Addr} {kvs:List (List Key × V)} (e:H a=some (.dT kvs)):di K H (.ref a) (.type "dict")
 | ins {a C dx:Addr} {fs:List (Str × V)} (e:H a=some (.ins C dx fs)) (cl:Cls K C) (ha:PySem.W.findIn K (.ref C) "__class__" = some (some (.builtin "object.__class__")))
   (hn:PySem.W.specialIn K (.builtin "object.__class__") "__get__" = some (some (.builtin "getset_descriptor.__get__"))) (htk:PySem.W.takesIn K (.builtin "object.__class__")=some true)
   (hm:PySem.W.mroIn K C (.type "object")=some true):di K H (.ref a) (.ref C)
def ou(I:Inv X pins σ H s)(rx:RelV x u)(ty:di X.K H x t)(e:PySem.W.kitOne X.K t c=some b)(h:∀ tk,Q (.bool b) { s with toks:=tk }) :
  wpAny (model X.prog X.w) A (call (.builtin "isinstance") [u,c]) Q E s:=by
 cases ty with
 | non=>cases(show u=Value.none from rx);exact PySem.W.kia_one PySem.W.kitx_none I.kIn True.intro e (fun z=>nomatch z) h
 | bl y=>cases(show u=Value.bool y from rx);exact PySem.W.kia_one PySem.W.kitx_bool I.kIn True.intro e (fun z=>nomatch z) h
 | int i=>obtain⟨t,q⟩:=(show ∃ t,u=Value.int i t from rx);cases q;exact PySem.W.kia_one PySem.W.kitx_int I.kIn True.intro e (fun z=>nomatch z) h
 | str y=>obtain⟨t,q⟩:=(show ∃ t,u=Value.str y t from rx);cases q;exact PySem.W.kia_one PySem.W.kitx_str I.kIn True.intro e (fun z=>nomatch z) h
 | flt y=>obtain⟨t,q⟩:=(show ∃ t,u=Value.float y t from rx);cases q;exact PySem.W.kia_one PySem.W.kitx_float I.kIn True.intro e (fun z=>nomatch z) h
 |@lst a xs ea=>
  cases(show u=Value.ref a from rx)
  obtain⟨_,_,n,_,h1⟩:=(show bf X.prog X.w H s.heap a (.lst xs)from I.hok a _ ea)
  exact PySem.W.kia_one PySem.W.kitx_list I.kIn ⟨_,h1,rfl⟩ e (fun z=>nomatch z) h
 |@frz a ob xs ea=>
  cases(show u=Value.ref a from rx)
  obtain⟨_,_,_,n,_,h1⟩:=(show bf X.prog X.w H s.heap a (.frz ob (.lst xs))from I.hok a _ ea)
  exact PySem.W.kia_one PySem.W.kitx_list I.kIn ⟨_,h1,rfl⟩ e (fun z=>nomatch z) h
 |@tup a xs ea=>
  cases(show u=Value.ref a from rx)
  obtain⟨_,_,_,p⟩:=(show bf X.prog X.w H s.heap a (.tup xs)from I.hok a _ ea)
  obtain⟨o,h1,h2,_⟩:=p;exact PySem.W.kia_one PySem.W.kitx_tuple I.kIn ⟨o,h1,h2⟩ e (fun z=>nomatch z) h
 |@dK a kvs ea=>
  cases(show u=Value.ref a from rx)
  obtain⟨_,_,vs,_,p⟩:=(show bf X.prog X.w H s.heap a (.dK kvs)from I.hok a _ ea)
  obtain⟨o,es,ep,h1,h2,_⟩:=p;exact PySem.W.kia_one PySem.W.kitx_dict I.kIn ⟨o,h1,h2.1⟩ e (fun z=>nomatch z) h
 |@dT a kvs ea=>
  cases(show u=Value.ref a from rx)
  obtain⟨_,_,xs,_,o,es,ep,h1,h2,_⟩:=(show bf X.prog X.w H s.heap a (.dT kvs)from I.hok a _ ea)
  exact PySem.W.kia_one PySem.W.kitx_dict I.kIn ⟨o,h1,h2.1⟩ e (fun z=>nomatch z) h
 |@ins a C dx fs ea cl ha hn htk hm=>
  cases(show u=Value.ref a from rx);obtain⟨mA,O,_⟩:=uz I.hok ea;obtain⟨od,J,_⟩:=O.look;exact PySem.W.kia_one (PySem.W.kitx_own (cl.get _) cl.hd ha hn htk hm) I.kIn J e (fun z=>nomatch z) h
end
structure cy(k:Nat)(A:Around):Prop where
 hd:A.handled=none
 dp:A.depth+3*k+5<recursionLimit
 un:A.units+16*k+200<cLine
def cy.deeper(r:cy (k+1) A)(env:Env):cy k (A.deeper env) :=
 ⟨r.hd,by have:=r.dp;show A.depth+1+3*k+5<_;omega,by have:=r.un;show A.units+3+16*k+200<_;omega⟩
def cy.depth(r:cy k A):A.depth<recursionLimit:=by have:=r.dp;omega
abbrev mW:TA:=fun _ H Q=>Q [] H
abbrev iD(ta:TE)(tr:TA):TA:=fun σ H Q=>ta σ H fun x H1=>tr σ H1 fun xs H2=>Q (x::xs) H2
section
variable{X:Cx}{e:Expr}{es:List Expr}{te:TE}{t:TA}{pos:Pos}
def da:PA X [] mW:=fun _ _ _ _ H Q I h=>Calls.spliced_nil ⟨[],H,I,.nil,h⟩
def bK(ha:PE X e te)(hr:PA X es t)(hs:starEach (e::es) X.env=(false,eval e X.env)::starEach es X.env):PA X (e::es) (iD te t):=by
 intro pos pins s σ H Q I h;rw[hs];show wpAny _ _ (spliced ((false,eval e X.env)::backTo pos (starEach es X.env))) _ _ s;refine Calls.spliced_cons (thn (ha pins s σ H _ I h) fun u s1 ⟨x,H1,I1,r1,q1⟩=>?_)
 exact thn (hr pos pins s1 σ H1 _ I1 q1) fun us s2 ⟨xs,H2,I2,r2,q2⟩=>⟨x::xs,H2,I2,.cons r1 r2,q2⟩
abbrev zm(t:TA):TE:=fun σ H Q=>t σ H fun xs H1=>xs.length<=sizeLine/\∀ p,H1 p=none->Q (.ref p) (upd H1 p (.tup xs))
abbrev zy(t:TA):TE:=fun σ H Q=>t σ H fun xs H1=>xs.length<=sizeLine/\∀ p,H1 p=none->Q (.ref p) (upd H1 p (.lst xs))
def xM(h:PA X es t):PE X (.Tuple es x1 pos) (zm t):=by
 intro pins s σ H Q I hq;refine wpAny_Tuple_spliced (thn (h pos pins s σ H _ I hq) fun us s1 ⟨xs,H1,I1,r,z,q⟩=>⟨by rw[<-r.length];exact z,?_⟩);have hf:H1 s1.heap.objs.size=none:=I1.hok.fresh (Nat.le_refl _);refine⟨.ref s1.heap.objs.size,upd H1 s1.heap.objs.size (.tup xs),I1.laid (t':=s1.toks) (fun b u e=>Heap.get?_push_of_some _ e) (Nat.le_refl _) ?_,rfl,q _ hf⟩;exact⟨z,us,r,⟨_,Heap.get?_push_size _ rfl,rfl,_,rfl⟩⟩
def xx(h:PA X es t):PE X (.List es pos) (zy t):=by
 intro pins s σ H Q I hq;refine wpAny_List_spliced (thn (h pos pins s σ H _ I hq) fun us s1 ⟨xs,H1,I1,r,z,q⟩=>⟨by rw[<-r.length];exact z,?_⟩);have hf:H1 s1.heap.objs.size=none:=I1.hok.fresh (Nat.le_refl _);refine⟨.ref s1.heap.objs.size,upd H1 s1.heap.objs.size (.lst xs),I1.laid (t':=s1.toks) (fun b u e=>Heap.get?_push_of_some _ e) (Nat.le_refl _) ?_,rfl,q _ hf⟩;exact⟨z,us,0,r,Heap.get?_push_size _ rfl⟩
end
@[reducible]noncomputable def Sp:=List V->Hp->VK->XK->Prop
@[reducible]noncomputable def CXT:=List Env->Hp->Shared->XK->Value->Shared->Prop
structure nH(P:Program)(w:World)(K:PySem.W.Frag)(mg:Str->Option Value)(base:Heap)(A:Around)(outer:List Env)(s:Shared)(H:Hp):Prop where
 frames:A.frames=some outer
 mod:Mod K mg base
 bs:∀ b o,base.get? b=some o->s.heap.get? b=some o/\H b=none
 bsz:base.objs.size<=s.heap.objs.size
 eA:s.heap.FunFrames base outer
 frf:∀ b∈frs outer,H b=none
 hok:HOk P w H s.heap
 bare:AllBare s.gens
abbrev CE(outer:List Env)(P:Program)(w:World)(H:Hp)(s:Shared)(Q:VK)(u:Value)(s':Shared):Prop :=
 ∃ v H',s'.os=s.os/\AllBare s'.gens/\Un (frs outer) [] H H' s.heap s'.heap/\HOk P w H' s'.heap/\RelV v u/\Q v H'
abbrev CR(CX:CXT)(outer:List Env)(P:Program)(w:World)(H:Hp)(s:Shared)(Q:VK)(E:XK)(r:Result)(s':Shared):Prop :=
 match r with
 | .ok (.ret u)=>CE outer P w H s Q u s'
 | .ok _=>False
 | .error e=>CX outer H s E e s'
structure dJ(P:Program)(w:World)(K:PySem.W.Frag)(mg:Str->Option Value)(base:Heap)(CX:CXT)(k:Nat)(f:Addr)(fd:FuncData)(ps:List Str)(sp:Sp):Prop where
 len:∀ vs H Q E,sp vs H Q E->vs.length=ps.length
 run:∀ (A:Around) (outer:List Env) (s:Shared) (H:Hp) (args:Args) (us:List Value) (vs:List V) (Q:VK) (E:XK),cy k A->nH P w K mg base A outer s H->BindsTo s fd args (ps.zip us)->Vals vs us->sp vs H Q E ->
  codeAny (model P w) A (.call (.ref f) args) (CR CX outer P w H s Q E) s
section
variable{X:Cx}{pins:List (Addr × Obj)}{σ:St}{H:Hp}{s s':Shared}
def Inv.zO(I:Inv X pins σ H s):nH X.prog X.w X.K X.mg X.base X.A X.stack s H :=
 ⟨I.ok.frames,I.ok.mod,I.bs,Nat.le_trans I.ok.bsz I.sz,I.stack,I.mB,I.hok,I.bare⟩
def Inv.after(I:Inv X pins σ H s)(h:CE X.stack X.prog X.w H s Q u s'):EP X pins σ Q u s':=by
 obtain⟨v,H',os,bare,un,hok,r,q⟩:=h;obtain⟨hh,g,d,t,os'⟩:=s';obtain rfl:os'=s.os:=os;exact⟨v,H',I.call (h':=hh) (g':=g) (d':=d) (t':=t) (ch:=[]) un hok bare (fun b z=>absurd z (by simp)),r,q⟩
end
abbrev hE(sp:Sp)(dvs:List V)(E:XK)(t:TA):TE:=fun σ H Q=>t σ H fun vs H1=>sp (vs++dvs) H1 Q E
abbrev Binds(K:PySem.W.Frag)(fd:FuncData)(ps:List Str)(ds:List Value):Prop :=
 ∀ (s:Shared) (us:List Value),K.In s.heap->(us++ds).length=ps.length->BindsTo s fd ⟨us,[]⟩ (ps.zip (us++ds))
def Binds.all{K:PySem.W.Frag}(h:∀ us:List Value,us.length=ps.length->bindArgs fd ⟨us,[]⟩=pure (ps.zip us)):Binds K fd ps []:=fun s us _ hl=>by
 rw[List.append_nil]at hl ⊢;exact .of_eq (h us hl)
abbrev Passes(CX:CXT)(X:Cx)(E:XK):Prop:=∀ (pins:List (Addr × Obj)) (σ:St) (H:Hp) (s:Shared) (e:Value) (s':Shared),Inv X pins σ H s->CX X.stack H s E e s'->X.xe e s'
section
variable{X:Cx}{CX:CXT}{k:Nat}{f C:Addr}{fd:FuncData}{ps:List Str}{sp:Sp}{dvs:List V}{ds:List Value}{E:XK}{x m:Str}{p pos apos:Pos}{e o:Expr}{es:List Expr}{ta:TE}{t:TA}
def oO(F:dJ X.prog X.w X.K X.mg X.base CX k f fd ps sp)(hr:cy k X.A)(hb:Binds X.K fd ps ds)(hd:Vals dvs ds)(hx:Passes CX X E)
 (I:Inv X pins σ H s)(r:Vals vs us)(h:sp (vs++dvs) H Q E):wpAny (model X.prog X.w) X.A (call (.ref f) us) (EP X pins σ Q) X.xe s:=by
 have r2:Vals (vs++dvs) (us++ds):=r.append hd
 have hl:(us++ds).length=ps.length:=by rw[<-r2.length];exact F.len _ _ _ _ h
 refine wpAny_call (codeAny_mono (F.run X.A X.stack s H ⟨us,[]⟩ (us++ds) (vs++dvs) Q E hr I.zO (hb s us I.kIn hl) r2 h) fun r s' hq=>?_)
 cases r with
 | error e=>exact hx pins σ H s e s' I hq
 |ok fl=>
  cases fl with
  | ret u=>exact I.after hq
  | next=>exact False.elim hq
  | brk=>exact False.elim hq
  | cont=>exact False.elim hq
def mI(F:dJ X.prog X.w X.K X.mg X.base CX k f fd ps sp)(hr:cy k X.A)(hg:Gl X x)(hm:X.mg x=some (.ref f))(hk:PySem.W.keepIn X.K (.ref f)=true)(hb:Binds X.K fd ps ds)(hd:Vals dvs ds)(hx:Passes CX X E)
 (ha:PA X (e::es) t)(hdb:(x == ("__debug__" : Str))=false)(he:starEach (e::es) X.env=(false,eval e X.env)::starEach es X.env)(hpl:(backTo pos (starEach es X.env)).any (·.1)=false) :
  PE X (.Call (.Name x p) (e::es) [] pos) (hE sp dvs E t):=by
 intro pins s σ H Q I h;refine wpAny_Call_Name_kw (gN I hg hm ?_ hdb);refine PySem.W.callWith_K (h₀:=X.base) I.ok.mod.kin hk (thn (ha pos pins s σ H _ I h) fun us s1 ⟨vs,H1,I1,r,q⟩=>⟨I1.kIn,?_⟩) he hpl;exact oO F hr hb hd hx I1 r q
end
section
variable{X:Cx}{CX:CXT}{k:Nat}{f C:Addr}{fd:FuncData}{ps ks:List Str}{sp:Sp}{E:XK}{x m:Str}{p pos apos kpos:Pos}{e o:Expr}{es:List Expr}{kws:List Keyword}{te ta:TE}{t tk:TA}{nm:Option Str}
variable{g:List Value->List Value->List Value}{gV:List V->List V->List V}
end
structure gP(N P:List Str)(sc:Scope):Prop where
 kind:sc.kind=.function
 co:sc.isCoroutine=false
 gen:sc.isGenerator=false
 nd:N.Nodup
 pre:N.take P.length=P
 par:∀ x∈P,sc.names.lookup x=some .local\/sc.names.lookup x=some .cell
 wF:∀ y∈sc.names,y.2≠.free
def jJ{kindOf:Str->Option NameKind}:∀ {binds:List (Str × Value)} {m:Str->Option Value},(∀ v,(x,v)∉binds)->bindL kindOf binds m x=m x
 | [],_,_=>rfl
 | (n,v)::r,m,h=>by
  unfold bindL;rw[jJ fun w hw=>h w (List.mem_cons_of_mem _ hw)];split
  ·have:x≠n:=by rintro rfl;exact h v List.mem_cons_self
   simp[this]
  ·rfl
def jI{kindOf:Str->Option NameKind}:∀ {binds:List (Str × Value)} {m:Str->Option Value},(∀ v,(x,v)∉binds)->bindC kindOf binds m x=m x
 | [],_,_=>rfl
 | (n,v)::r,m,h=>by
  unfold bindC;rw[jI fun w hw=>h w (List.mem_cons_of_mem _ hw)];split
  ·rfl
  ·have:x≠n:=by rintro rfl;exact h v List.mem_cons_self
   simp[this]
def ke{kindOf:Str->Option NameKind}:∀ {P:List Str} {vs:List Value} {i:Nat} {m:Str->Option Value},P.Nodup->P[i]?=some x->vs[i]?=some v->kindOf x=some .local ->
  bindL kindOf (P.zip vs) m x=some v
 | [],_,_,_,_,h,_,_=>by simp at h
 | _::_,[],_,_,_,_,h,_=>by simp at h
 | p::P,w::vs,0,m,nd,h1,h2,hk=>by
  simp at h1 h2;subst h1;subst h2;show bindL kindOf ((p,w)::P.zip vs) m p=_;unfold bindL;rw[jJ fun v hv=>(List.nodup_cons.mp nd).1 (List.of_mem_zip hv).1,if_pos hk];simp
 | p::P,w::vs,i+1,m,nd,h1,h2,hk=>by
  show bindL kindOf ((p,w)::P.zip vs) m x=_;unfold bindL;exact ke (i:=i) (List.nodup_cons.mp nd).2 (by simpa using h1) (by simpa using h2) hk
def jO{kindOf:Str->Option NameKind}:∀ {P:List Str} {vs:List Value} {i:Nat} {m:Str->Option Value},P.Nodup->P[i]?=some x->vs[i]?=some v->kindOf x≠some .local ->
  bindC kindOf (P.zip vs) m x=some v
 | [],_,_,_,_,h,_,_=>by simp at h
 | _::_,[],_,_,_,_,h,_=>by simp at h
 | p::P,w::vs,0,m,nd,h1,h2,hk=>by
  simp at h1 h2;subst h1;subst h2;show bindC kindOf ((p,w)::P.zip vs) m p=_;unfold bindC;rw[jI fun v hv=>(List.nodup_cons.mp nd).1 (List.of_mem_zip hv).1,if_neg hk];simp
 | p::P,w::vs,i+1,m,nd,h1,h2,hk=>by
  show bindC kindOf ((p,w)::P.zip vs) m x=_;unfold bindC;exact jO (i:=i) (List.nodup_cons.mp nd).2 (by simpa using h1) (by simpa using h2) hk
abbrev start(N:List Str)(vs:List V):St:=vs.map some++List.replicate (N.length-vs.length) none
abbrev ip(CX:CXT)(P:Program)(w:World)(K:PySem.W.Frag)(mg:Str->Option Value)(base:Heap)(N:List Str)(qual:Str)(scope:Scope)(f:Addr)(cd:Value)(A:Around)(outer:List Env)(s:Shared)(H:Hp)(E:XK):Cx where
 prog:=P
 w:=w
 K:=K
 mg:=mg
 base:=base
 A:=A.deeper (envOfC qual scope s.heap.objs.size f cd)
 N:=N
 s₀:=s
 H₀:=H
 env:=envOfC qual scope s.heap.objs.size f cd
 outer:=outer
 stack:=envOfC qual scope s.heap.objs.size f cd::outer
 ex:=[]
 calm:=true
 fn:=fun _=>true
 pn:=[]
 xe:=fun e s'=>wpAny (model P w) (A.deeper (envOfC qual scope s.heap.objs.size f cd)) (leaving (envOfC qual scope s.heap.objs.size f cd) e) (fun _ s''=>CX outer H s E e s'') (fun e' s''=>CX outer H s E e' s'') s'
def kZ{sc:Scope}(h:sc.names.lookup x=some .cell):∃ c,(cellsFrom n sc.names []).lookup x=some c:=by
 have q:=PySem.W.cellsFrom_some sc.names n [] (.inl h);exact Option.isSome_iff_exists.mp q
def qd{CX:CXT}{P:Program}{w:World}{K:PySem.W.Frag}{mg:Str->Option Value}{base:Heap}{N ps:List Str}{qual:Str}{scope:Scope}{f:Addr}{cd:Value}{A:Around}{outer:List Env}{s s1:Shared}{H:Hp}{E:XK}{us:List Value}{vs:List V}
 (S:gP N ps scope)(hd:A.handled=none)(e0:nH P w K mg base A outer s H)(hl:vs.length=ps.length)(r:Vals vs us)
 (x:InCallC s s.heap.objs.size (bindL (envOfC qual scope s.heap.objs.size f cd).kindOf (ps.zip us) fun _=>none) (cellsFrom (s.heap.objs.size+1) scope.names []) (bindC (envOfC qual scope s.heap.objs.size f cd).kindOf (ps.zip us) fun _=>none) s1) :
  Inv (ip CX P w K mg base N qual scope f cd A outer s H E) [] (start N vs) H s1:=by
 have hpl:ps.length<=N.length:=by have:=congrArg List.length S.pre;rw[List.length_take]at this;omega
 obtain⟨h1,tk,rfl,hk⟩:=x.done;have noA:∀ b:Addr,b∉(ip CX P w K mg base N qual scope f cd A outer s H E).ex:=fun b z=>absurd (show b∈([]:List Addr)from z) (by simp)
 refine⟨⟨e0.mod,S.kind,rfl,rfl,Nat.le_refl _,fun y z c h1 h2=>?_,fun y hy=>?_,fun y c _ h=>?_,⟨fun _=>hd,.inl hd⟩,Around.frames_deeper e0.frames,.inr ⟨rfl,rfl⟩,fun b z=>absurd z (noA b),e0.bs,e0.bsz,fun b _ _=>noA b,fun b z=>absurd z (noA b),e0.eA,e0.frf⟩,
  rfl,e0.bare,Un.kept hk,⟨_,x.toInCall.ns,fun i y v h1 h2 h3=>?_⟩,fun y c h=>⟨_,x.cell y c h⟩,e0.hok.fresh (Nat.le_refl _),fun y c h=>?_,fun p hp=>absurd (show p∈([]:List (Addr × Obj))from hp) (by simp),e0.hok.kept hk,?_⟩
 ·exact name_of_addr x.apart (PySem.mem_of_lookup h1) (PySem.mem_of_lookup h2)
 ·have hy:scope.names.lookup y=some .cell\/scope.names.lookup y=some .free:=hy;rcases hy with hy | hy
  ·exact kZ hy
  ·exact absurd rfl (S.wF _ (PySem.mem_of_lookup hy))
 ·exact Nat.le_of_lt (x.above y c (PySem.mem_of_lookup h))
 ·have hi:i<vs.length:=by
   unfold start at h2;by_cases hi:i<vs.length
   ·exact hi
   ·rw[List.getElem?_append_right (by simpa using hi)]at h2;rw[List.getElem?_replicate]at h2;split at h2<;>cases h2
  have ha:vs[i]?=some v:=by
   unfold start at h2;rw[List.getElem?_append_left (by simpa using hi),List.getElem?_map]at h2
   cases e:vs[i]? with
   | none=>rw[e]at h2;cases h2
   | some a=>rw[e]at h2;cases h2;rfl
  obtain⟨u,hu,rv⟩:=r.get ha
  have hp:ps[i]?=some y:=by
   rw[<-S.pre,List.getElem?_take_of_lt (by omega)];exact h1
  have ndP:ps.Nodup:=by rw[<-S.pre];exact S.nd.sublist (List.take_sublist _ _)
  refine⟨u,rv,?_⟩;rcases S.par y (List.mem_of_getElem? hp)with k | k
  ·exact .inl ⟨k,ke ndP hp hu k⟩
  ·obtain⟨c,e⟩:=kZ (n:=s.heap.objs.size+1) k;refine .inr ⟨.inl k,c,e,?_⟩;have q:=x.cell y c e;rw[jO ndP hp hu (by show scope.names.lookup y≠_;rw[k];decide)]at q;exact q
 ·exact e0.hok.fresh (Nat.le_of_lt (x.above y c (PySem.mem_of_lookup h)))
 ·unfold start;show _=N.length;rw[List.length_append,List.length_map,List.length_replicate];omega
def yO{CX:CXT}{P:Program}{w:World}{K:PySem.W.Frag}{mg:Str->Option Value}{base:Heap}{k:Nat}{f:Addr}{name qual:Str}{params:Arguments}{body:List Stmt}{scope:Scope}{dV kV doc pm cdv ct oc:Value}{an od:Option Addr}
 {osl:Array (Option Value)}{N ps:List Str}{sp:Sp}(lk:K.lookup f=some ⟨oc,od,.func (PySem.W.fnOf name qual params body scope dV kV doc pm an cdv ct),osl⟩)(hcd:PySem.W.codeIn K cdv qual=true)(S:gP N ps scope)
 (len:∀ vs H Q E,sp vs H Q E->vs.length=ps.length)
 (hbody:∀ (A:Around) (outer:List Env) (s:Shared) (H:Hp) (vs:List V) (Q:VK) (E:XK),cy k (A.deeper (envOfC qual scope s.heap.objs.size f cdv))->sp vs H Q E ->
   ∃ t,PSs (ip CX P w K mg base N qual scope f cdv A outer s H E) body t/\t { nx:=fun _ H'=>Q .non H',rt:=Q } (start N vs) H) :
  dJ P w K mg base CX (k+1) f (PySem.W.fnOf name qual params body scope dV kV doc pm an cdv ct) ps sp:=by
 refine⟨len,fun A outer s H args us vs Q E hr e0 hb r hsp=>?_⟩;have hl:=len _ _ _ _ hsp;have KX:K.In s.heap:=e0.mod.kin.keeps fun b o e=>(e0.bs b o e).1;have lim:s.heap.NoLimit:=e0.mod.nolimit.keeps fun b o e=>(e0.bs b o e).1
 have hkind:∀ y∈ps.zip us,scope.names.lookup y.1=some .local\/(scope.names.lookup y.1=some .cell/\((cellsFrom (s.heap.objs.size+1) scope.names []).lookup y.1).isSome=true):=fun⟨n,v⟩ hy=>by
  rcases S.par n (List.of_mem_zip hy).1 with q | q
  ·exact .inl q
  ·exact .inr ⟨q,PySem.W.cellsFrom_some _ _ _ (.inl q)⟩
 refine codeAny_call_function hr.depth (KX _ _ lk) rfl S.co S.gen rfl (PySem.W.codeRec_of KX hcd) (hb _ _ _ _ ?_);refine wpAny_newFunctionEnv_cells S.kind hkind fun env he s1 x=>?_;subst he;refine⟨lim.keeps x.toInCall.keep,codeAny_func ?_⟩;obtain⟨t,ht,hq⟩:=hbody A outer s H vs Q E (hr.deeper _) hsp;have I:Inv (ip CX P w K mg base N qual scope f cdv A outer s H E) [] (start N vs) H s1:=qd S hr.hd e0 hl r x;refine wpAny_mono (ht [] s1 (start N vs) H _ I hq) (fun fl s' hs=>?_) fun e s' hs=>hs
 have fin:∀ {σ':St} {H':Hp} {v:V} {u:Value},Inv (ip CX P w K mg base N qual scope f cdv A outer s H E) [] σ' H' s'->RelV v u->Q v H'->CE outer P w H s Q u s' :=
  fun {σ' H' v u} J rv q=>⟨v,H',J.os,J.bare,J.base,J.hok,rv,q⟩
 cases fl with
 |ret u=>
  obtain⟨v,σ',H',J,rv,q⟩:=hs;exact fin J rv q
 |next=>
  obtain⟨σ',H',J,q⟩:=hs;exact fin (v:=V.non) (u:=Value.none) J rfl q
 |brk=>
  obtain⟨_,_,_,q⟩:=hs;exact False.elim q
 |cont=>
  obtain⟨_,_,_,q⟩:=hs;exact False.elim q
section
variable{X:Cx}{x:Str}{p pos:Pos}{e:Expr}{es:List Expr}{t:TA}{id T:String}{r:List V->Hp->VK->Prop}
abbrev tCB(r:List V->Hp->VK->Prop)(t:TA):TE:=fun σ H Q=>t σ H fun vs H1=>r vs H1 Q
def fY(hc:bo X (.builtin id) r)(hg:Gl X x)(hm:X.mg x=none)(hv:bootBuiltins x=some (.builtin id))(ha:PA X (e::es) t)(hn:x ≠ "__name__")(hdb:(x == ("__debug__" : Str))=false)
 (he:starEach (e::es) X.env=(false,eval e X.env)::starEach es X.env)(hpl:(backTo pos (starEach es X.env)).any (·.1)=false):PE X (.Call (.Name x p) (e::es) [] pos) (tCB r t):=by
 intro pins s σ H Q I h;refine wpAny_Call_Name_kw (fu I hg hm hv ?_ hn hdb);exact PyProof.Rows.callWith_builtin1 (thn (ha pos pins s σ H _ I h) fun us s1 ⟨vs,H1,I1,r1,q1⟩=>hc pins s1 σ H1 vs us Q I1 r1 q1) he hpl
def bZ(hc:bo X (.type T) r)(hg:Gl X x)(hm:X.mg x=none)(hv:bootBuiltins x=some (.type T))(ha:PA X (e::es) t)(hn:x ≠ "__name__")(hdb:(x == ("__debug__" : Str))=false)
 (he:starEach (e::es) X.env=(false,eval e X.env)::starEach es X.env)(hpl:(backTo pos (starEach es X.env)).any (·.1)=false):PE X (.Call (.Name x p) (e::es) [] pos) (tCB r t):=by
 intro pins s σ H Q I h;refine wpAny_Call_Name_kw (fu I hg hm hv ?_ hn hdb);exact PyProof.Rows.callWith_type1 (thn (ha pos pins s σ H _ I h) fun us s1 ⟨vs,H1,I1,r1,q1⟩=>hc pins s1 σ H1 vs us Q I1 r1 q1) he hpl
end
end L2
namespace HT
open PySem PyProof.Rows
section
open PySem.SeqAt
open PySem.AutoSeq1 (wpAny_loadPart')
open PySem.MeetsSeq PySem.MeetsSeq2 PySem.MeetsSeq3
end
section
variable{prog:Program}{w:World}{A:Around}{E:Value->Shared->Prop}{s:Shared}
def uE(ht:IsTup s.heap t vs.toArray)(hb:IsTup s.heap b ws.toArray)(hv:vs≠[])
 (h1:ws=[]->Q (.ref t) s)(h2:ws≠[]->Q (.ref s.heap.objs.size) { s with heap:=s.heap.push { cls:=.type "tuple",data:=.seq (vs++ws).toArray } })
 (hsz:vs.length+ws.length<=sizeLine):wpAny (model prog w) A (binaryOp .Add (.ref t) (.ref b)) Q E s:=by
 obtain⟨⟨cls,dd,data,sl⟩,ho,hc,n,hd⟩:=id ht;obtain⟨⟨cls2,dd2,data2,sl2⟩,ho2,hc2,n2,hd2⟩:=id hb;simp only at hc hd hc2 hd2;subst hc hd hc2 hd2
 have e:vs.toArray++ws.toArray=(vs++ws).toArray:=by simp
 by_cases hw:ws=[]
 ·exact concat_meets ⟨_,ho,rfl⟩ ⟨_,ho2,rfl⟩ noFill_tuple_add seq_tuple_add PySem.F.slot_tuple_add PySem.F.entry_tuple_add (PySem.F.args_tuple_add_2 _ _)
   (tuple_addW1 t b vs.toArray ws.toArray n n2 dd dd2 sl sl2 (by simpa using hv) (by simp[hw])) ⟨ho,ho2,h1 hw⟩
 ·refine concat_meets ⟨_,ho,rfl⟩ ⟨_,ho2,rfl⟩ noFill_tuple_add seq_tuple_add PySem.F.slot_tuple_add PySem.F.entry_tuple_add (PySem.F.args_tuple_add_2 _ _)
   (tuple_addW2 t b vs.toArray ws.toArray n n2 dd dd2 sl sl2 (by simpa using hv) (by simpa using hw) (by rw[List.size_toArray,List.size_toArray];exact hsz)) ⟨ho,ho2,?_⟩
  rw[e];exact h2 hw
abbrev sIx(n d:Nat):Option Int->Nat
 | none=>d
 | some v=>if v<0 then(v+(n:Int)).toNat else min v.toNat n
def kJ(n d:Nat):sIx n d none=d:=rfl
def wa(n d:Nat)(hd:d<=n)(o:Option Int):sIx n d o<=n:=by
 cases o with
 | none=>exact hd
 |some v=>
  show(if v<0 then(v+(n:Int)).toNat else min v.toNat n)<=n;by_cases hv:v<0
  ·rw[if_pos hv];omega
  ·rw[if_neg hv];exact Nat.min_le_right _ _
def er(v:Int)(n d:Nat):(if v<0 then max (v+(n:Int)) 0 else min v (n:Int))=((sIx n d (some v):Nat):Int):=by
 show(if v<0 then max (v+(n:Int)) 0 else min v (n:Int))=(((if v<0 then(v+(n:Int)).toNat else min v.toNat n):Nat):Int);by_cases hv:v<0
 ·simp only[if_pos hv];omega
 ·simp only[if_neg hv];omega
def nD(lo hi:Option Int)(n:Nat):Builtin.Slice.sliceAdjust lo hi 1 (n:Int)=(((sIx n 0 lo:Nat):Int),((sIx n n hi:Nat):Int)):=by
 have h1:¬ ((1:Int)<0):=by omega
 unfold Builtin.Slice.sliceAdjust;simp only[h1,if_false];refine Prod.ext ?_ ?_
 ·cases lo with
  | none=>rfl
  | some v=>exact er v n 0
 ·cases hi with
  | none=>rfl
  | some v=>exact er v n n
def ny(i j:Nat):Builtin.Slice.slicePlaces (i:Int) (j:Int) 1=j-i:=by
 unfold Builtin.Slice.slicePlaces
 have h1:(1:Int) > 0:=by omega
 simp only[h1,if_true,Int.ediv_one];split<;>omega
def iJ(p:IsPart v o)(h:Q o s):wpAny (model prog w) A (Builtin.Slice.slicePartIndex v) Q E s:=by
 cases p with
 | none=>exact slicePart_none h
 | int i t=>exact slicePart_int h
def iu{sl:Addr}{vl vu:Value}{lo hi:Option Int}{n:Nat}{Q:Int × Int × Nat->Shared->Prop}(hs:s.heap.IsSliceOf sl vl vu .none)(pl:IsPart vl lo)(pu:IsPart vu hi)
 (h:Q (((sIx n 0 lo:Nat):Int),1,sIx n n hi-sIx n 0 lo) s):wpAny (model prog w) A (Builtin.Slice.sliceApplied (.ref sl) (pure (n:Int))) Q E s:=by
 obtain⟨os,hos,hcs,hds⟩:=id hs;unfold Builtin.Slice.sliceApplied Builtin.Slice.sliceFields;refine wpAny_bind (wpAny_bind (wpAny_field hos hds (x:=vl) rfl (wpAny_bind (wpAny_field hos hds (x:=vu) rfl (wpAny_bind (wpAny_field hos hds (x:=.none) rfl (wpAny_pure ?_)))))));refine wpAny_bind (slicePart_none ?_);show wpAny _ _ (if((1:Int) == 0)=true then _ else _) _ _ s;rw[if_neg (by decide)];refine wpAny_bind (iJ pl (wpAny_bind (iJ pu (wpAny_bind (wpAny_pure ?_)))));show wpAny _ _ (match Builtin.Slice.sliceAdjust lo hi 1 (n:Int)with | (lo,hi)=>pure (lo,(1:Int),Builtin.Slice.slicePlaces lo hi 1)) _ _ s;rw[nD lo hi n];show wpAny _ _ (pure (((sIx n 0 lo:Nat):Int),(1:Int),Builtin.Slice.slicePlaces ((sIx n 0 lo:Nat):Int) ((sIx n n hi:Nat):Int) 1)) _ _ s;rw[ny];exact wpAny_pure h
def rZ(xs:Array Value)(i k:Nat):((List.range k).filterMap fun(m:Nat)=>xs[((i:Int)+(m:Int)*1).toNat]?).toArray=((xs.toList.drop i).take k).toArray:=by
 have e:(fun(m:Nat)=>xs[((i:Int)+(m:Int)*1).toNat]?)=fun m=>xs[i+m]?:=by
  funext m
  have:((i:Int)+(m:Int)*1).toNat=i+m:=by omega
  rw[this]
 rw[e];have:=pick_run xs i k;rw[List.filterMap_map]at this;have e2:((fun x=>xs[x]?) ∘ fun x=>i+x)=fun m=>xs[i+m]?:=rfl;rw[e2]at this;rw[this]
def ic{t sl:Addr}{items:Array Value}{vl vu:Value}{lo hi:Option Int}{Q:Value->Shared->Prop}(ht:IsTup s.heap t items)(hs:s.heap.IsSliceOf sl vl vu .none)(pl:IsPart vl lo)(pu:IsPart vu hi)
 (hw:¬ (sIx items.size 0 lo=0/\sIx items.size items.size hi=items.size))
 (h:Q (.ref s.heap.objs.size) { s with heap:=s.heap.push { cls:=.type "tuple",data:=.seq ((items.toList.drop (sIx items.size 0 lo)).take (sIx items.size items.size hi-sIx items.size 0 lo)).toArray } })
 (hsz:items.size<=sizeLine):wpAny (model prog w) A (getItem (.ref t) (.ref sl)) Q E s:=by
 have htake:sizeOk (.seq ((items.toList.drop (sIx items.size 0 lo)).take (sIx items.size items.size hi-sIx items.size 0 lo)).toArray):=by
  show((items.toList.drop (sIx items.size 0 lo)).take (sIx items.size items.size hi-sIx items.size 0 lo)).toArray.size<=sizeLine;rw[List.size_toArray,List.length_take,List.length_drop,Array.length_toList];omega
 have hj:sIx items.size items.size hi<=items.size:=wa _ _ (Nat.le_refl _) hi;obtain⟨os,hos,hcs,hds⟩:=id hs
 have hTs:s.TypeIs (.ref sl) "slice" := ⟨os,hos,hcs⟩
 unfold getItem
 try with_reducible refine wpAny_holding ?_
 first | refine wpAny_bind (wpAny_pure ?_) | skip
 refine wpAny_bind (wpAny_sequenceKey ht.typeIs (by decide) ?_)
 refine wpAny_bind (wpAny_callSpecial?_slot (name:=Str.ofString "__getitem__") ht.typeIs PyProof.Rows.slot_tuple_getitem
  (wpAny_call_entry PyProof.Rows.slot_tuple_getitem ht.typeIs entry_tuple_getitem ?_ (args_tuple_getitem _ _)))
 show wpAny _ _ (Builtin.Tuple.tupleItemsOf (.ref t) >>= _) _ _ s;refine wpAny_bind (tupleItemsOf_ ht ?_);refine wpAny_bind (wpAny_typeOf hTs ?_);rw[if_pos (by decide)];refine wpAny_bind (iu hs pl pu ?_)
 have hno:¬ ((((sIx items.size 0 lo:Nat):Int) == 0&&(1:Int) == 1&&(sIx items.size items.size hi-sIx items.size 0 lo) == items.size)=true):=by
  intro q;rw[Bool.and_eq_true,Bool.and_eq_true]at q;have q1:((sIx items.size 0 lo:Nat):Int)=0:=eq_of_beq q.1.1;have q2:sIx items.size items.size hi-sIx items.size 0 lo=items.size:=eq_of_beq q.2;exact hw ⟨by omega,by omega⟩
 show wpAny _ _ (if(((sIx items.size 0 lo:Nat):Int) == 0&&(1:Int) == 1&&(sIx items.size items.size hi-sIx items.size 0 lo) == items.size)=true then _ else _) _ _ s;rw[if_neg hno,rZ]
 first
  | exact wpAny_bind (m:=Builtin.Tuple.tupleExact _) (wpAny_newObj_type (wpAny_pure ⟨_,rfl,wpAny_pure h⟩) htake)
  | exact wpAny_bind (m:=Builtin.Tuple.tupleExact _) (wpAny_newObj_type (wpAny_bind (wpAny_pure (wpAny_pure ⟨_,rfl,wpAny_pure h⟩))) htake)
  | exact wpAny_bind (wpAny_bind (m:=Builtin.Tuple.tupleExact _) (wpAny_newObj_type (wpAny_pure (wpAny_pure ⟨_,rfl,wpAny_pure h⟩)) htake))
  | exact wpAny_bind (wpAny_bind (m:=Builtin.Tuple.tupleExact _) (wpAny_newObj_type (wpAny_pure ⟨_,rfl,wpAny_pure h⟩) htake))
end
end HT
namespace L2
open PySem PySem.Spec PyProof.Rows
@[reducible]noncomputable def TO:=St->Hp->(Option Int->Hp->Prop)->Prop
abbrev PO(X:Cx)(e:Option Expr)(t:TO):Prop :=
 ∀ (pins:List (Addr × Obj)) (s:Shared) (σ:St) (H:Hp) (Q:Option Int->Hp->Prop),Inv X pins σ H s->t σ H Q ->
  wpAny (model X.prog X.w) X.A (evalPart e X.env) (fun u s'=>∃ o H',Inv X pins σ H' s'/\IsPart u o/\Q o H') X.xe s
abbrev uB:TO:=fun _ H Q=>Q none H
abbrev ym(t:TE):TO:=fun σ H Q=>t σ H fun x H1=>∃ i,x=.int i/\Q (some i) H1
section
variable{X:Cx}{e:Expr}{te:TE}{lo hi:Option Expr}{tl th:TO}{pos p2:Pos}
def mq:PO X none uB:=by
 intro pins s σ H Q I h;rw[evalPart_none];exact wpAny_pure ⟨none,H,I,.none,h⟩
def m9(h:PE X e te):PO X (some e) (ym te):=by
 intro pins s σ H Q I hw;rw[evalPart_some];refine thn (h pins s σ H _ I hw) fun u s1 ⟨x,H1,I1,r1,q1⟩=>?_;obtain⟨i,rfl,q⟩:=q1;obtain⟨t,rfl⟩:=r1;exact⟨some i,H1,I1,.int i t,q⟩
abbrev SlR(X:Cx)(r:V->Option Int->Option Int->Hp->VK->Prop):Prop :=
 ∀ (pins:List (Addr × Obj)) (s:Shared) (σ:St) (H:Hp) (x:V) (v vl vu:Value) (lo hi:Option Int) (sl:Addr) (Q:VK),Inv X pins σ H s->RelV x v->s.heap.IsSliceOf sl vl vu .none->IsPart vl lo->IsPart vu hi->r x lo hi H Q ->
  ∃ T id,typeLookup (.type T) "__getitem__" = pure (some (.builtin id))/\s.TypeIs v T/\wpAny (model X.prog X.w) X.A (getItem v (.ref sl)) (EP X pins σ Q) X.xe s
def SlR.or(h:SlR X r)(h':SlR X r'):SlR X (fun x lo hi H Q=>r x lo hi H Q\/r' x lo hi H Q):=by
 intro pins s σ H x v vl vu lo hi sl Q I rx hs pl pu q;rcases q with q | q
 ·exact h pins s σ H x v vl vu lo hi sl Q I rx hs pl pu q
 ·exact h' pins s σ H x v vl vu lo hi sl Q I rx hs pl pu q
abbrev tSl(r:V->Option Int->Option Int->Hp->VK->Prop)(te:TE)(tl th:TO):TE:=fun σ H Q=>te σ H fun x H1=>tl σ H1 fun l H2=>th σ H2 fun u H3=>r x l u H3 Q
def kM(hr:SlR X r)(he:PE X e te)(hl:PO X lo tl)(hu:PO X hi th):PE X (.Subscript e (.Slice lo hi none p2) pos) (tSl r te tl th):=by
 intro pins s σ H Q I h;refine Subscript_ (thn (he pins s σ H _ I h) fun v s1 ⟨x,H1,I1,r1,q1⟩=>?_);refine wpAny_Slice (thn (hl pins s1 σ H1 _ I1 q1) fun vl s2 ⟨l,H2,I2,pl,q2⟩=>thn (hu pins s2 σ H2 _ I2 q2) fun vu s3 ⟨u,H3,I3,pu,q3⟩=>?_);rw[evalPart_none];refine wpAny_pure ?_;have I4:Inv X pins σ H3 { s3 with heap:=s3.heap.push { cls:=.type "slice",data:=.fields #[vl,vu,.none] } }:=I3.kept (t':=s3.toks) fun b ob q=>Heap.get?_push_of_some _ q;obtain⟨T,id,hT,ht,hg⟩:=hr pins { s3 with heap:=s3.heap.push { cls:=.type "slice",data:=.fields #[vl,vu,.none] } } σ H3 x v vl vu l u s3.heap.objs.size Q I4 r1 (Heap.IsSliceOf.new ..) pl pu q3;show wpAny (model X.prog X.w) X.A (subscriptTail e (.Slice lo hi none p2) v (.ref s3.heap.objs.size)) (EP X pins σ Q) X.xe { s3 with heap:=s3.heap.push { cls:=.type "slice",data:=.fields #[vl,vu,.none] } };exact tail_any (ops:=[.ref s3.heap.objs.size,v]) ht hT hg (by with_unfolding_all rfl)
abbrev dk(xs:List V)(lo hi:Option Int):List V:=(xs.drop (HT.sIx xs.length 0 lo)).take (HT.sIx xs.length xs.length hi-HT.sIx xs.length 0 lo)
def ie(xs:List V)(lo hi:Option Int):(dk xs lo hi).length<=xs.length:=by
 unfold dk;rw[List.length_take,List.length_drop];omega
abbrev zH(K:PySem.W.Frag):V->Option Int->Option Int->Hp->VK->Prop:=fun x lo hi H Q=>∃ a xs,x=.ref a/\SqT K H a xs /\
 ¬ (HT.sIx xs.length 0 lo=0/\HT.sIx xs.length xs.length hi=xs.length)/\∀ p,H p=none->Q (.ref p) (upd H p (.tup (dk xs lo hi)))
def oH:SlR X (zH X.K):=by
 intro pins s σ H x v vl vu lo hi sl Q I rx hs pl pu h;obtain⟨a,xs,rfl,hx,hw,q⟩:=h;cases rx;obtain⟨its,r,ht,hz⟩:=I.tuple hx
 have hlen:its.toArray.size=xs.length:=by rw[List.size_toArray];exact r.length.symm
 refine⟨"tuple",_,PyProof.Rows.slot_tuple_getitem.lookup,ht.typeIs,?_⟩;refine HT.ic ht hs pl pu (by rw[hlen];exact hw) ?_ (by rw[hlen];exact hz);rw[hlen];refine⟨.ref s.heap.objs.size,_,I.laid (t':=s.toks) (o:=.tup (dk xs lo hi)) (fun b ob q=>Heap.get?_push_of_some _ q) (Nat.le_refl _) ?_,rfl,q _ (I.hok.fresh (Nat.le_refl _))⟩;exact⟨Nat.le_trans (ie xs lo hi) hz,_,(r.drop (HT.sIx xs.length 0 lo)).take (HT.sIx xs.length xs.length hi-HT.sIx xs.length 0 lo),IsTup.new _ _⟩
abbrev yp(K:PySem.W.Frag):R2:=fun x y H Q=>∃ a b xs ys,x=.ref a/\y=.ref b/\SqT K H a xs/\SqT K H b ys/\xs≠[]/\xs.length+ys.length<=sizeLine /\
 (ys=[]->Q (.ref a) H)/\(ys≠[]->∀ p,H p=none->Q (.ref p) (upd H p (.tup (xs++ys))))
def Vals.jE(r:Vals xs us):us=[]↔xs=[]:=by
 cases r with
 | nil=>simp
 | cons _ _=>simp
def u7:OpR X (binaryOp .Add) (yp X.K):=by
 intro pins s σ H x y v u Q I rx ry h;obtain⟨a,b,xs,ys,rfl,rfl,ha,hb,hx,hz,q1,q2⟩:=h;cases rx;cases ry;obtain⟨its,r1,p1,_⟩:=I.tuple ha;obtain⟨its2,r2,p2,_⟩:=I.tuple hb;refine HT.uE p1 p2 (fun z=>hx (r1.jE.mp z)) (fun z=>⟨.ref a,H,I,rfl,q1 (r2.jE.mp z)⟩) (fun z=>?_) (by rw[<-r1.length,<-r2.length];exact hz);refine⟨.ref s.heap.objs.size,_,I.laid (t':=s.toks) (o:=.tup (xs++ys)) (fun b ob q=>Heap.get?_push_of_some _ q) (Nat.le_refl _) ?_,rfl,q2 (fun w=>z (r2.jE.mpr w)) _ (I.hok.fresh (Nat.le_refl _))⟩;exact⟨by rw[List.length_append];exact hz,_,r1.append r2,IsTup.new _ _⟩
end
abbrev ixN(n:Nat)(i:Int):Option Nat:=if 0<=i then(if i<n then some i.toNat else none)else if -(n:Int)<=i then some (i+n).toNat else none
abbrev atI(xs:List α)(i:Int):Option α:=(ixN xs.length i).bind fun j=>xs[j]?
def mS(h:ixN n i=some j):seqIndex? i n=some j/\j<n/\-(n:Int)<=i/\i<n:=by
 unfold ixN at h;by_cases h0:0<=i
 ·rw[if_pos h0]at h;by_cases h1:i<n
  ·rw[if_pos h1]at h;have e:i.toNat=j:=Option.some.inj h;exact⟨by rw[seqIndex_of h0 h1,e],by omega,by omega,h1⟩
  ·rw[if_neg h1]at h;cases h
 ·rw[if_neg h0]at h;by_cases h1:-(n:Int)<=i
  ·rw[if_pos h1]at h;have e:(i+n).toNat=j:=Option.some.inj h;exact⟨by rw[seqIndex_neg (by omega) h1,e],by omega,h1,by omega⟩
  ·rw[if_neg h1]at h;cases h
def j2(h:atI xs i=some v):∃ j,seqIndex? i xs.length=some j/\xs[j]?=some v/\j<xs.length/\-(xs.length:Int)<=i/\i<xs.length:=by
 unfold atI at h
 cases e:ixN xs.length i with
 | none=>rw[e]at h;cases h
 |some j=>
  rw[e]at h;obtain⟨h1,h2,h3,h4⟩:=mS e;exact⟨j,h1,h,h2,h3,h4⟩
abbrev mE(b:Expr):Prop:=∀ o i,subscripted b false o i=operate [o,i] (getItem o i)
abbrev IxR(X:Cx)(r:R2):Prop :=
 ∀ (value slice:Expr) (pins:List (Addr × Obj)) (s:Shared) (σ:St) (H:Hp) (x y:V) (v u:Value) (Q:VK),Inv X pins σ H s->RelV x v->RelV y u->r x y H Q ->
  subscripted slice false v u=operate [v,u] (getItem v u)->wpAny (model X.prog X.w) X.A (subscriptTail value slice v u) (EP X pins σ Q) X.xe s
abbrev MtR(X:Cx)(id:String)(r:V->List V->Hp->VK->Prop):Prop :=
 ∀ (pins:List (Addr × Obj)) (s:Shared) (σ:St) (H:Hp) (x:V) (xs:List V) (v:Value) (us:List Value) (Q:VK),Inv X pins σ H s->RelV x v->Vals xs us->r x xs H Q ->
  wpAny (model X.prog X.w) X.A (call (.builtin id) (v::us)) (EP X pins σ Q) X.xe s
section
variable{X:Cx}{a b:Expr}{ta tb:TE}{pos:Pos}
def IxR.or(h:IxR X r)(h':IxR X r'):IxR X (fun x y H Q=>r x y H Q\/r' x y H Q):=by
 intro value slice pins s σ H x y v u Q I rx ry q hs;rcases q with q | q
 ·exact h value slice pins s σ H x y v u Q I rx ry q hs
 ·exact h' value slice pins s σ H x y v u Q I rx ry q hs
def yj{r:R2}(hr:IxR X r)(ha:PE X a ta)(hb:PE X b tb)(hs:mE b):PE X (.Subscript a b pos) (tOp r ta tb):=by
 intro pins s σ H Q I h;exact Subscript_ (sf ha hb I h fun v u s2 x y H2 I2 rx ry q=>hr a b pins s2 σ H2 x y v u Q I2 rx ry q (hs _ _))
abbrev v3(K:PySem.W.Frag):R2:=fun x y H Q=>∃ p xs i v,x=.ref p/\y=.int i/\SqL K H p xs/\atI xs i=some v/\Q v H
abbrev vn(K:PySem.W.Frag):R2:=fun x y H Q=>∃ p xs i v,x=.ref p/\y=.int i/\SqT K H p xs/\atI xs i=some v/\Q v H
abbrev vT:R2:=fun x y H Q=>∃ z i c,x=.str z/\y=.int i/\z.length<=sizeLine/\atI z.cps.toList i=some c/\Q (.str ⟨#[c]⟩) H
def uO:IxR X (v3 X.K):=by
 intro value slice pins s σ H x y v u Q I rx ry h hs;obtain⟨p,xs,i,z,rfl,rfl,hq,he,q⟩:=h;cases rx;obtain⟨t,rfl⟩:=ry;obtain⟨its,r,pl,hz⟩:=I.list hq;obtain⟨j,h1,h2,h3,h4,h5⟩:=j2 he;obtain⟨w,ew,rw'⟩:=r.get h2;have hl:=r.length;have hn:=f7
 have fin:EP X pins σ Q w s:=⟨z,H,I,rw',q⟩
 by_cases h0:0<=i
 ·have hj:i.toNat=j:=by
   rw[seqIndex_of h0 h5]at h1;exact Option.some.inj h1
  exact item_listR pl.isList h0 (by omega) (by rw[hj];simpa using ew) fin hs
 ·have hj:(i+(its.toArray.size:Int)).toNat=j:=by
   rw[seqIndex_neg (by omega) h4]at h1;rw[List.size_toArray,<-hl];exact Option.some.inj h1
  exact subscriptTail_builtinR (x:=w) pl.isList.typeIs slot_list_getitem.lookup
   (wpAny_getItem_list_neg (Q:=fun r s'=>r=w/\EP X pins σ Q r s') pl.isList (by omega) (by rw[List.size_toArray]<;>omega) (by omega) (by rw[hj];simpa using ew) ⟨rfl,fin⟩) hs
def vL:IxR X (vn X.K):=by
 intro value slice pins s σ H x y v u Q I rx ry h hs;obtain⟨p,xs,i,z,rfl,rfl,hq,he,q⟩:=h;cases rx;obtain⟨t,rfl⟩:=ry;obtain⟨its,r,pl,hz⟩:=I.tuple hq;obtain⟨j,h1,h2,h3,h4,h5⟩:=j2 he;obtain⟨w,ew,rw'⟩:=r.get h2;have hl:=r.length;have hn:=f7
 have fin:EP X pins σ Q w s:=⟨z,H,I,rw',q⟩
 exact subscriptTail_builtinR (x:=w) pl.typeIs slot_tuple_getitem.lookup
  (getItem_tuple (j:=j) (Q:=fun r s'=>r=w/\EP X pins σ Q r s') pl (by omega) (by omega) (by rw[List.size_toArray,<-hl];exact h1) (by simpa using ew) ⟨rfl,fin⟩) hs
def vX:IxR X vT:=by
 intro value slice pins s σ H x y v u Q I rx ry h hs;obtain⟨z,i,c,rfl,rfl,hz,he,q⟩:=h;obtain⟨t,rfl⟩:=rx;obtain⟨t',rfl⟩:=ry;obtain⟨j,h1,h2,h3,h4,h5⟩:=j2 he
 have hl:z.cps.toList.length=z.length:=by simp[Str.length]
 rw[hl]at h1 h4 h5;have hn:=f7
 exact tail_any (typeIs_str s z t) slot_str_getitem.lookup (getItem_str (c:=c) (by
  have e1:decide (i < -(2 ^ 63:Int))=false:=decide_eq_false (by omega);have e2:decide (i≥2 ^ 63)=false:=decide_eq_false (by omega)
  rw[e1,e2,Bool.or_false]) (by rw[h1];simpa using h2) ⟨.str ⟨#[c]⟩,H,I.tok _,⟨_,rfl⟩,q⟩) hs
abbrev rIx(K:PySem.W.Frag):R2:=fun x y H Q=>v3 K x y H Q\/vn K x y H Q\/vT x y H Q
def xB:IxR X (rIx X.K):=uO.or (vL.or vX)
def nX(its:List Value)(n j:Nat)(u:Value):Obj.mapSeq (·.setIfInBounds j u) { cls:=.type "list",data:=.seq its.toArray n }={ cls:=.type "list",data:=.seq (its.set j u).toArray n }:=by
 simp[Obj.mapSeq]
def Inv.lst{pins:List (Addr × Obj)}{σ:St}{H:Hp}{s:Shared}{p:Addr}{xs:List V}(I:Inv X pins σ H s)(h:H p=some (.lst xs)) :
  ∃ (its:List Value) (n:Nat),Vals xs its/\s.heap.get? p=some { cls:=.type "list",data:=.seq its.toArray n }/\xs.length<=sizeLine:=by
 obtain⟨z,its,n,r,e⟩:=I.hok p _ h;exact⟨its,n,r,e,z⟩
def Inv.vi{pins:List (Addr × Obj)}{σ:St}{H:Hp}{s:Shared}{p:Addr}{xs ys:List V}{its its':List Value}{n n':Nat}{f:Obj->Obj}(I:Inv X pins σ H s)(h:H p=some (.lst xs))
 (ho:s.heap.get? p=some { cls:=.type "list",data:=.seq its.toArray n })(hf:f { cls:=.type "list",data:=.seq its.toArray n }={ cls:=.type "list",data:=.seq its'.toArray n' })(r:Vals ys its')(hz:ys.length<=sizeLine)(t:Nat) :
  Inv X pins σ (upd H p (.lst ys)) { s with heap:=s.heap.update p f,toks:=t }:=by
 have e:(s.heap.update p f).get? p=some { cls:=.type "list",data:=.seq its'.toArray n' }:=by
  rw[Heap.get?_update_self f ho (by rw[hf]<;>rfl),hf]
 refine I.write (x:=p) (e:=p) (by rw[h];trivial) (.inl rfl) (fun b u hb q=>(Heap.get?_update_other _ _ (Ne.symm hb)).trans q) ⟨_,e⟩ ?_;exact⟨hz,its',n',r,e⟩
abbrev nc:V->V->V->Hp->(Hp->Prop)->Prop:=fun o i v H Q=>∃ p xs k j,o=.ref p/\i=.int k/\H p=some (.lst xs)/\ixN xs.length k=some j/\Q (upd H p (.lst (xs.set j v)))
def set_list:vQ X nc:=by
 intro pins s σ H o i v ov iv u Q I ro ri rv h;obtain⟨p,xs,k,j,rfl,rfl,hp,hj,q⟩:=h;cases ro;obtain⟨t,rfl⟩:=ri;obtain⟨its,n,r,ho,hz⟩:=I.lst hp;obtain⟨h1,h2,h3,h4⟩:=mS hj;have hl:=r.length;have hn:=f7
 have I':Inv X pins σ (upd H p (.lst (xs.set j v))) { s with heap:=s.heap.update p (Obj.mapSeq (·.setIfInBounds j u)) } :=
  I.vi hp ho (nX its n j u) (r.set rv j) (by rw[List.length_set];exact hz) s.toks
 by_cases h0:0<=k
 ·have hk:k.toNat=j:=by
   rw[seqIndex_of h0 h4]at h1;exact Option.some.inj h1
  exact PySem.W.ki_setAt ho h0 (by omega) (by rw[List.size_toArray,<-hl];exact h4) (by rw[hk];exact⟨_,I',q⟩)
 ·have hk:(k+(its.toArray.size:Int)).toNat=j:=by
   rw[seqIndex_neg (by omega) h3]at h1;rw[List.size_toArray,<-hl];exact Option.some.inj h1
  exact PySem.W.ki_setBack ho (by omega) (by rw[List.size_toArray,<-hl];exact h3) (by omega) (by rw[hk];exact⟨_,I',q⟩)
def kF(lo hi:Option Int)(n:Nat):(sliceBounds lo hi none n).1=((HT.sIx n 0 lo:Nat):Int)/\(sliceBounds lo hi none n).2.1=((HT.sIx n n hi:Nat):Int)/\(sliceBounds lo hi none n).2.2=1:=by
 refine⟨?_,?_,rfl⟩
 ·cases lo with
  | none=>simp[sliceBounds,HT.sIx]
  |some i=>
   simp only[sliceBounds,HT.sIx,Option.getD_none,show(1:Int) > 0 by decide,if_true];by_cases h:i<0
   ·simp only[h,if_true]<;>omega
   ·simp only[h,if_false]<;>omega
 ·cases hi with
  | none=>simp[sliceBounds,HT.sIx]
  |some i=>
   simp only[sliceBounds,HT.sIx,Option.getD_none,show(1:Int) > 0 by decide,if_true];by_cases h:i<0
   ·simp only[h,if_true]<;>omega
   ·simp only[h,if_false]<;>omega
def kh(its:List Value)(lo hi:Option Int):slicePick its.toArray lo hi none=((its.drop (HT.sIx its.length 0 lo)).take (HT.sIx its.length its.length hi-HT.sIx its.length 0 lo)).toArray:=by
 obtain⟨h1,h2,h3⟩:=kF lo hi its.toArray.size;unfold slicePick;rw[h1,h2,h3];simp only[sliceRange_one,pick_run,List.size_toArray]<;>rfl
abbrev zB(K:PySem.W.Frag):V->Option Int->Option Int->Hp->VK->Prop:=fun x lo hi H Q=>∃ a xs,x=.ref a/\SqL K H a xs/\∀ p,H p=none->Q (.ref p) (upd H p (.lst (dk xs lo hi)))
def mj:SlR X (zB X.K):=by
 intro pins s σ H x v vl vu lo hi sl Q I rx hs pl pu h;obtain⟨a,xs,rfl,hx,q⟩:=h;cases rx;obtain⟨its,r,ht,hz⟩:=I.list hx;have hlen:=r.length;refine⟨"list",_,slot_list_getitem.lookup,ht.isList.typeIs,?_⟩;refine wpAny_getItem_list_slice ht.isList hs pl pu .none (by simp) ?_ (by rw[List.size_toArray]<;>omega);rw[kh,<-hlen];refine⟨.ref s.heap.objs.size,_,I.laid (t':=s.toks) (o:=.lst (dk xs lo hi)) (fun b ob q=>Heap.get?_push_of_some _ q) (Nat.le_refl _) ?_,rfl,q _ (I.hok.fresh (Nat.le_refl _))⟩;exact⟨Nat.le_trans (ie xs lo hi) hz,_,0,(r.drop (HT.sIx xs.length 0 lo)).take (HT.sIx xs.length xs.length hi-HT.sIx xs.length 0 lo),Heap.get?_push_size _ rfl⟩
abbrev d8:V->Bool
 | .non=>true
 | .bl _=>true
 | .int _=>true
 | .str _=>true
 | _=>false
abbrev eqV:V->V->Bool
 | .non,.non=>true
 | .bl a,.bl b=>a == b
 | .bl a,.int b=>(if a then 1 else 0) == b
 | .int a,.bl b=>a == (if b then 1 else 0)
 | .int a,.int b=>a == b
 | .str a,.str b=>a == b
 | _,_=>false
def ya(ry:RelV y u)(rx:RelV x v)(fy:d8 y=true)(fx:d8 x=true):SeqAt.EqAt A s u v (eqV y x):=by
 cases y with
 |non=>
  cases ry
  cases x with
  | non=>cases rx;exact SeqAt.EqAt.same _
  | bl b=>cases rx;exact SeqAt.EqAt.none_bool b
  | int b=>obtain⟨t,rfl⟩:=rx;exact SeqAt.EqAt.none_int b t
  | str b=>obtain⟨t,rfl⟩:=rx;exact SeqAt.EqAt.none_str b t
  | _=>exact absurd (show false=true from fx) Bool.false_ne_true
 |bl a=>
  cases ry
  cases x with
  | non=>cases rx;exact SeqAt.EqAt.bool_none a
  | bl b=>cases rx;exact SeqAt.EqAt.bool_bool a b
  | int b=>obtain⟨t,rfl⟩:=rx;exact SeqAt.EqAt.bool_int a b t
  | str b=>obtain⟨t,rfl⟩:=rx;exact SeqAt.EqAt.bool_str a b t
  | _=>exact absurd (show false=true from fx) Bool.false_ne_true
 |int a=>
  obtain⟨t',rfl⟩:=ry
  cases x with
  | non=>cases rx;exact SeqAt.EqAt.int_none a t'
  | bl b=>cases rx;exact SeqAt.EqAt.int_bool a t' b
  | int b=>obtain⟨t,rfl⟩:=rx;exact SeqAt.EqAt.int_int a t' b t
  | str b=>obtain⟨t,rfl⟩:=rx;exact SeqAt.EqAt.int_str a t' b t
  | _=>exact absurd (show false=true from fx) Bool.false_ne_true
 |str a=>
  obtain⟨t',rfl⟩:=ry
  cases x with
  | non=>cases rx;exact SeqAt.EqAt.str_none a t'
  | bl b=>cases rx;exact SeqAt.EqAt.str_bool a t' b
  | int b=>obtain⟨t,rfl⟩:=rx;exact SeqAt.EqAt.str_int a t' b t
  | str b=>obtain⟨t,rfl⟩:=rx;exact SeqAt.EqAt.str_str a t' b t
  | _=>exact absurd (show false=true from fx) Bool.false_ne_true
 | _=>exact absurd (show false=true from fy) Bool.false_ne_true
abbrev eqU(x:V)(u:Value):Bool:=match u with
 | .none=>eqV .non x
 | .bool b=>eqV (.bl b) x
 | .int i _=>eqV (.int i) x
 | .str z _=>eqV (.str z) x
 | _=>false
def qe(r:RelV y u)(f:d8 y=true):eqU x u=eqV y x:=by
 cases y with
 | non=>cases r;rfl
 | bl b=>cases r;rfl
 | int i=>obtain⟨t,rfl⟩:=r;rfl
 | str z=>obtain⟨t,rfl⟩:=r;rfl
 | _=>exact absurd (show false=true from f) Bool.false_ne_true
def fq:∀ {xs:List V} {us:List Value},Vals xs us->xs.all d8=true->us.any (eqU x)=xs.any fun y=>eqV y x
 | _,_,.nil,_=>rfl
 | y::xs,u::us,.cons r t,f=>by
  rw[List.all_cons,Bool.and_eq_true]at f;rw[List.any_cons,List.any_cons,qe r f.1,fq t f.2]
def eB(rx:RelV x v)(fx:d8 x=true):∀ {xs:List V} {us:List Value},Vals xs us->xs.all d8=true->∀ u∈us,SeqAt.EqAt A s u v (eqU x u)
 | _,_,.nil,_=>fun u hu=>by cases hu
 | y::xs,u::us,.cons r t,f=>fun u' hu=>by
  rw[List.all_cons,Bool.and_eq_true]at f;rcases List.mem_cons.mp hu with rfl | hu
  ·rw[qe r f.1];exact ya r rx f.1 fx
  ·exact eB rx fx t f.2 u' hu
abbrev inV(x:V)(xs:List V):Bool:=xs.any fun y=>eqV y x
abbrev rIn(K:PySem.W.Frag)(neg:Bool):R2:=fun x y H Q=>∃ p xs,y=.ref p/\(SqL K H p xs\/SqT K H p xs)/\d8 x=true/\xs.all d8=true/\Q (.bl (if neg then !inV x xs else inV x xs)) H
def oI:OpR X (compareOp .In) (rIn X.K false):=by
 intro pins s σ H x y v u Q I rx ry h;obtain⟨p,xs,rfl,hq,fx,fs,q⟩:=h;cases ry;rcases hq with hq | hq
 ·obtain⟨its,r,pl,hz⟩:=I.list hq;refine SeqAt.in_listAt (eqU x) pl.isList (fun w hw=>eB rx fx r fs w (by simpa using hw)) ⟨.bl _,H,I,rfl,?_⟩;rw[show its.toArray.any (eqU x)=its.any (eqU x) by simp,fq r fs];exact q
 ·obtain⟨its,r,pl,hz⟩:=I.tuple hq;refine SeqAt.in_tupleAt (eqU x) pl (fun w hw=>eB rx fx r fs w (by simpa using hw)) ⟨.bl _,H,I,rfl,?_⟩;rw[show its.toArray.any (eqU x)=its.any (eqU x) by simp,fq r fs];exact q
def ll:OpR X (compareOp .NotIn) (rIn X.K true):=by
 intro pins s σ H x y v u Q I rx ry h;obtain⟨p,xs,rfl,hq,fx,fs,q⟩:=h;cases ry;rcases hq with hq | hq
 ·obtain⟨its,r,pl,hz⟩:=I.list hq;refine SeqAt.notIn_listAt (eqU x) pl.isList (fun w hw=>eB rx fx r fs w (by simpa using hw)) ⟨.bl _,H,I,rfl,?_⟩;rw[show its.toArray.any (eqU x)=its.any (eqU x) by simp,fq r fs];exact q
 ·obtain⟨its,r,pl,hz⟩:=I.tuple hq;refine SeqAt.notIn_tupleAt (eqU x) pl (fun w hw=>eB rx fx r fs w (by simpa using hw)) ⟨.bl _,H,I,rfl,?_⟩;rw[show its.toArray.any (eqU x)=its.any (eqU x) by simp,fq r fs];exact q
def bo.or(h:bo X f r)(h':bo X f r'):bo X f (fun xs H Q=>r xs H Q\/r' xs H Q):=by
 intro pins s σ H xs us Q I rs q;rcases q with q | q
 ·exact h pins s σ H xs us Q I rs q
 ·exact h' pins s σ H xs us Q I rs q
def lH:bo X (.type "list") (fun xs H Q=>∃ p ys,xs=[.ref p]/\(SqL X.K H p ys\/SqT X.K H p ys)/\∀ l,H l=none->Q (.ref l) (upd H l (.lst ys))):=by
 intro pins s σ H xs us Q I r h;obtain⟨p,ys,rfl,hq,q⟩:=h;obtain⟨u,rfl,rx⟩:=vals1 r;cases rx
 have fin:∀ (its:List Value),Vals ys its->ys.length<=sizeLine->∀ (h':Heap) (c':Nat),(∀ b o',s.heap.get? b=some o'->h'.get? b=some o') ->
   h'.get? s.heap.objs.size=some { cls:=.type "list",dict:=none,data:=.seq its.toArray c',slots:=#[] }->EP X pins σ Q (.ref s.heap.objs.size) { s with heap:=h' }:=fun its r' hz h' c' kp e =>
  ⟨.ref s.heap.objs.size,_,I.laid (t':=s.toks) kp (Nat.le_refl _) (show bf X.prog X.w _ h' _ (.lst ys)from⟨hz,its,c',r',e⟩),rfl,q _ (I.hok.fresh (Nat.le_refl _))⟩
 rcases hq with hq | hq
 ·obtain⟨its,r',pl,hz⟩:=I.list hq;have hlen:=r'.length;obtain⟨o,ho,hc,n,hd⟩:=pl.isList;exact call_list_seq p (.inl rfl) ho hc hd (fun h' c' kp e=>fin its r' hz h' c' kp e) (by simp only[List.size_toArray]<;>omega)
 ·obtain⟨its,r',pl,hz⟩:=I.tuple hq;have hlen:=r'.length;obtain⟨o,ho,hc,n,hd⟩:=pl;exact call_list_seq p (.inr rfl) ho hc hd (fun h' c' kp e=>fin its r' hz h' c' kp e) (by simp only[List.size_toArray]<;>omega)
def ko:bo X (.type "tuple") (fun xs H Q=>∃ p ys,xs=[.ref p]/\((SqL X.K H p ys/\∀ l,H l=none->Q (.ref l) (upd H l (.tup ys)))\/(SqT X.K H p ys/\Q (.ref p) H))):=by
 intro pins s σ H xs us Q I r h;obtain⟨p,ys,rfl,h⟩:=h;obtain⟨u,rfl,rx⟩:=vals1 r;cases rx
 rcases h with⟨hq,q⟩ | ⟨hq,q⟩
 ·obtain⟨its,r',pl,hz⟩:=I.list hq;have hlen:=r'.length;refine call_tuple_list pl.isList (fun h' kp=>?_) (by simp only[List.size_toArray]<;>omega);have I1:Inv X pins σ H { s with heap:=h' }:=I.kept (t':=s.toks) kp
  have I2:Inv X pins σ (upd H h'.objs.size (.tup ys)) { s with heap:=h'.push { cls:=.type "tuple",data:=.seq its.toArray } } :=
   I1.laid (t':=s.toks) (fun b o e=>Heap.get?_push_of_some _ e) (Nat.le_refl _) (show bf X.prog X.w _ _ _ (.tup ys)from⟨hz,its,r',IsTup.new _ _⟩)
  exact⟨.ref h'.objs.size,_,I2,rfl,q _ (I1.hok.fresh (Nat.le_refl _))⟩
 ·obtain⟨its,r',pl,hz⟩:=I.tuple hq;exact call_tuple_same pl ⟨.ref p,H,I,rfl,q⟩
abbrev tyV(K:PySem.W.Frag)(T:String)(x:V)(H:Hp):Prop:=match x with
 | .str _=>T = "str"
 | .int _=>T = "int"
 | .ref p=>(T = "list" /\ ∃ xs,SqL K H p xs)\/(T = "tuple" /\ ∃ o,K.lookup p=some o/\o.cls=.type "tuple" /\ o.dict=none) \/
   (T = "dict" /\ ((∃ kvs,H p=some (.dK kvs))\/∃ kvs,H p=some (.dT kvs)))\/(T = "set" /\ ∃ S n,H p=some (.set S n))
 | _=>False
def vV(I:Inv X pins σ H s)(r:RelV x v)(ty:tyV X.K T x H) :
  s.TypeIs v T/\∀ a,v=.ref a->∃ ob,s.heap.get? a=some ob/\ob.dict=none:=by
 cases x with
 |str z=>
  obtain⟨t,rfl⟩:=r;cases(show T = "str" from ty);exact⟨typeIs_str s z t,fun _ e=>nomatch e⟩
 |int i=>
  obtain⟨t,rfl⟩:=r;cases(show T = "int" from ty);exact⟨typeIs_int s i t,fun _ e=>nomatch e⟩
 |ref p=>
  cases r
  rcases ty with⟨rfl,xs,hq⟩ | ⟨rfl,o,hk,hc,hd⟩ | ⟨rfl,hk⟩ | ⟨rfl,S,n,hk⟩
  ·obtain⟨its,_,pl,_⟩:=I.list hq;refine⟨pl.isList.typeIs,fun a e=>?_⟩;cases e;obtain⟨o,n,e,c,hd,_⟩:=pl;exact⟨o,e,hd⟩
  ·refine⟨⟨o,I.kIn p o hk,hc⟩,fun a e=>?_⟩;cases e;exact⟨o,I.kIn _ o hk,hd⟩
  ·have z:∃ o,s.heap.get? p=some o/\o.ExactDict:=by
    rcases hk with⟨kvs,hk⟩ | ⟨kvs,hk⟩
    ·obtain⟨_,_,_,_,o,_,_,e,ex,_⟩:=I.hok p _ hk;exact⟨o,e,ex⟩
    ·obtain⟨_,_,_,_,o,_,_,e,ex,_⟩:=I.hok p _ hk;exact⟨o,e,ex⟩
   obtain⟨o,e,ex⟩:=z;refine⟨⟨o,e,ex.1⟩,fun a e2=>?_⟩;cases e2;exact⟨o,e,ex.2.1⟩
  ·obtain⟨o,_,_,_,e,ex,_⟩:=I.hok p _ hk;refine⟨⟨o,e,ex.1⟩,fun a e2=>?_⟩;cases e2;exact⟨o,e,ex.2.1⟩
 | _=>exact False.elim ty
abbrev tBM(K:PySem.W.Frag)(T:String)(r:V->List V->Hp->VK->Prop)(to:TE)(t:TA):TE:=fun σ H Q=>to σ H fun x H1=>tyV K T x H1/\t σ H1 fun xs H2=>r x xs H2 Q
variable{o e:Expr}{es:List Expr}{to:TE}{t:TA}{name:Str}{apos cpos:Pos}{T id:String}{r:V->List V->Hp->VK->Prop}
def yT(pa:PlainAttrs T)(slot:Slot T name id)(hty:typeOf (.builtin id)=pure (.type "method_descriptor"))(hm:MtR X id r)(ho:PE X o to)(ha:PA X (e::es) t)
 (hbase:attributeBase o name X.env (eval o X.env)=eval o X.env)
 (hfew:((backTo cpos (starEach (e::es) X.env)).all (fun x=>!x.1)&&(backToKw cpos (keywordEach [] X.env)).all (fun x=>x.1.isSome)
   && decide ((e::es).length+([]:List Keyword).length+(if([]:List Keyword).isEmpty then 0 else 1)<30))=true:=by rfl)
 (hline:(apos.endLine == cpos.line)=true)(hs:starEach (e::es) X.env=(false,eval e X.env)::starEach es X.env)(hplain:(backTo cpos (starEach es X.env)).any (·.1)=false) :
  PE X (.Call (.Attribute o name apos) (e::es) [] cpos) (tBM X.K T r to t):=by
 intro pins s σ H Q I h;refine wpAny_Call_method_late hbase hfew hline rfl (thn (ho pins s σ H _ I h) fun v s1 ⟨x,H1,I1,r1,ty,q1⟩=>?_);obtain⟨h1,h2⟩:=vV I1 r1 ty;refine⟨T,id,pa,slot,hty,h1,h2,?_⟩;have hA:=ha cpos pins s1 σ H1 _ I1 q1;rw[hs]at hA ⊢;refine Calls.callWith_builtin (by show(false || (backTo cpos (starEach es X.env)).any (·.1))=false;rw[hplain]<;>rfl) (Calls.evalArgs_plain ?_);exact thn hA fun us s2 ⟨vs,H2,I2,r2,q2⟩=>hm pins s2 σ H2 x vs v us Q I2 r1 r2 q2
end
abbrev MtM(X:Cx)(id:String)(r:V->List V->Hp->VK->Prop):Prop :=
 ∀ (pins:List (Addr × Obj)) (s:Shared) (σ:St) (H:Hp) (x:V) (xs:List V) (v:Value) (us:List Value) (Q:VK),Inv X pins σ H s->RelV x v->Vals xs us->r x xs H Q ->
  wpAny (model X.prog X.w) X.A (call (.builtin id) (v::us)) (EP X pins σ Q) X.xe s
def Vals.one:∀ {x:V} {us:List Value},Vals [x] us->∃ u,us=[u]/\RelV x u
 | _,_,.cons r .nil=>⟨_,rfl,r⟩
def Vals.rep(h:Vals xs us):∀ k:Nat,Vals (List.replicate k xs).flatten (List.replicate k us).flatten
 | 0=>.nil
 | k+1=>by
  rw[List.replicate_succ,List.replicate_succ,List.flatten_cons,List.flatten_cons];exact Vals.append h (Vals.rep h k)
def foldl_rep(its:List Value):∀ (k:Nat) (acc:List Value),
  List.foldl (fun x1 x2=>x1++x2) acc.toArray (List.replicate k its.toArray)=(acc++(List.replicate k its).flatten).toArray
 | 0,acc=>by simp
 | k+1,acc=>by
  have e:acc.toArray++its.toArray=(acc++its).toArray:=by simp
  have e2:(acc++its)++(List.replicate k its).flatten=acc++(List.replicate (k+1) its).flatten:=by
   rw[List.replicate_succ,List.flatten_cons,List.append_assoc]
  rw[<-e2,<-foldl_rep its k (acc++its),<-e,List.replicate_succ,List.foldl_cons]
section
variable{X:Cx}{pins:List (Addr × Obj)}{σ:St}{H:Hp}{s:Shared}{l b:Addr}{xs ys zs:List V}
def Inv.zo{its its':List Value}{n:Nat}{f:Array Value->Array Value}{t':Nat}(I:Inv X pins σ H s)(hH:H l=some (.lst xs))
 (e:s.heap.get? l=some { cls:=.type "list",data:=.seq its.toArray n })(hf:f its.toArray=its'.toArray)(hv:Vals ys its')(hz:ys.length<=sizeLine) :
  Inv X pins σ (upd H l (.lst ys)) { s with heap:=s.heap.update l (Obj.mapSeq f),toks:=t' }:=by
 have q:=PySem.IsL.update e f;rw[hf]at q;refine I.write (x:=l) (e:=l) (by rw[hH];exact trivial) (.inl rfl) (fun b' u hb hu=>(Heap.get?_update_other s.heap (Obj.mapSeq f) (Ne.symm hb)).trans hu) ⟨_,q⟩ ?_;exact⟨hz,its',_,hv,q⟩
def Inv.rB(I:Inv X pins σ H s)(hv:Vals ys its)(hz:ys.length<=sizeLine) :
  Inv X pins σ (upd H s.heap.objs.size (.lst ys)) { s with heap:=s.heap.push { cls:=.type "list",data:=.seq its.toArray },toks:=t' } :=
 I.laid (fun _ _ q=>Heap.get?_push_of_some _ q) (Nat.le_refl _) ⟨hz,its,0,hv,Heap.get?_push_size _ rfl⟩
def Inv.fresh(I:Inv X pins σ H s):H s.heap.objs.size=none:=I.hok.fresh (Nat.le_refl _)
def Inv.mV(I:Inv X pins σ H s)(hH:H l=some (.lst xs)):xs.length<=sizeLine/\∃ (its:List Value) (n:Nat),Vals xs its/\xs.length=its.length/\s.heap.get? l=some { cls:=.type "list",data:=.seq its.toArray n }:=by
 obtain⟨z,its,n,r,e⟩:=I.hok l _ hH;exact⟨z,its,n,r,r.length,e⟩
def qt(h:n<=sizeLine):Builtin.List.listTooLong n=false:=by
 unfold Builtin.List.listTooLong;exact decide_eq_false (by omega)
end
section
variable{X:Cx}
abbrev mG:V->List V->Hp->VK->Prop:=fun x vs H Q=>∃ l xs y,x=.ref l/\vs=[y]/\H l=some (.lst xs)/\xs.length<sizeLine/\Q .non (upd H l (.lst (xs++[y])))
def jQ:MtM X "list.append" mG:=by
 intro pins s σ H x vs v us Q I rx rv h;obtain⟨l,xs,y,rfl,rfl,hH,hz,q⟩:=h;cases rx;obtain⟨u,rfl,ru⟩:=rv.one;obtain⟨z,its,n,r,hl,e⟩:=I.mV hH;refine call_meets F.slot_list_append ⟨_,e,rfl⟩ F.entry_list_append (F.args_list_append_2 _ _) (PySem.list_append l its.toArray n u (by rw[List.size_toArray];omega)) ⟨e,?_⟩;refine⟨.non,_,I.zo (its':=its++[u]) hH e (by simp) (r.append (.cons ru .nil)) ?_,rfl,q⟩;rw[List.length_append,List.length_singleton];omega
abbrev zh:R2:=fun x y H Q=>∃ l b xs zs,x=.ref l/\y=.ref b/\H l=some (.lst xs)/\H b=some (.lst zs)/\xs.length+zs.length<=sizeLine/\∀ p,H p=none->Q (.ref p) (upd H p (.lst (xs++zs)))
def xE:OpR X (binaryOp .Add) zh:=by
 intro pins s σ H x y v u Q I rx ry h;obtain⟨l,b,xs,zs,rfl,rfl,hH,hB,hz,q⟩:=h;cases rx;cases ry;obtain⟨z,its,n,r,hl,e⟩:=I.mV hH;obtain⟨z2,its2,n2,r2,hl2,e2⟩:=I.mV hB;refine PySem.P.add_list e e2 ?_ (by rw[List.size_toArray,List.size_toArray];omega)
 have ea:its.toArray++its2.toArray=(its++its2).toArray:=by simp
 rw[ea];exact⟨.ref _,_,I.rB (t':=s.toks) (r.append r2) (by rw[List.length_append];omega),rfl,q _ I.fresh⟩
abbrev zL:R2:=fun x y H Q=>∃ l k xs,x=.ref l/\y=.int k/\H l=some (.lst xs)/\-(2 ^ 63)<=k/\k<2 ^ 63/\xs.length*k.toNat<=sizeLine /\
 ∀ p,H p=none->Q (.ref p) (upd H p (.lst (List.replicate k.toNat xs).flatten))
def len_rep(xs:List α)(k:Nat):(List.replicate k xs).flatten.length=k*xs.length:=by
 induction k with
 | zero=>simp
 | succ k ih=>rw[List.replicate_succ,List.flatten_cons,List.length_append,ih,Nat.succ_mul,Nat.add_comm]
def wg:OpR X (binaryOp .Mult) zL:=by
 intro pins s σ H x y v u Q I rx ry h;obtain⟨l,k,xs,rfl,rfl,hH,h1,h2,hz,q⟩:=h;cases rx;obtain⟨t,rfl⟩:=ry;obtain⟨z,its,n,r,hl,e⟩:=I.mV hH
 have hlen:its.toArray.size*k.toNat<=sizeLine:=by rw[List.size_toArray,<-hl];exact hz
 have hcap:¬ its.toArray.size*k.toNat > (2 ^ 63-1) / 8:=by
  have:(sizeLine:Nat)<=(2 ^ 63-1) / 8:=by decide
  omega
 have hfit:¬ (!Builtin.List.listFitsIndex k)=true:=by
  rw[fitsIndex_both h1 h2];exact Bool.false_ne_true
 have hlong:¬ Builtin.List.listTooLong (its.toArray.size*k.toNat)=true:=by
  rw[qt hlen];exact Bool.false_ne_true
 have hnew:List.foldl (fun x1 x2=>x1++x2) #[] (List.replicate (if its.toArray.isEmpty=true then 0 else k.toNat) its.toArray)=(List.replicate k.toNat its).flatten.toArray:=by
  have f0:∀ m:Nat,List.foldl (fun x1 x2=>x1++x2) #[] (List.replicate m its.toArray)=(List.replicate m its).flatten.toArray:=fun m=>by
   have:=foldl_rep its m [];rw[List.nil_append]at this;exact this
  rw[f0]
  cases its with
  | nil=>simp
  | cons a r'=>rw[if_neg (by simp)]
 refine wpAny_binaryOp_repeat_ref (T := "list") (U := "int") (by decide) ⟨_,e,rfl⟩ (fun s'=>typeIs_int s' k t) noFill_list_mul F.fills_int_mul F.slot_int_rmul repeat_list F.slot_int_index.lookup
  (call_meets F.slot_int_rmul (typeIs_int s k t) F.entry_int_rmul (F.args_int_rmul_2 _ _) (int___rmul___int_list k t l its.toArray n)
   ⟨e,rfl,⟨_,e,rfl⟩,call_meets F.slot_list_mul ⟨_,e,rfl⟩ F.entry_list_mul (F.args_list_mul_2 _ _) (AutoListH.list___mul___list_int_3 l its.toArray n k t hfit hcap hlong) ⟨e,?_⟩⟩)
 rw[hnew];exact⟨.ref _,_,I.rB (t':=s.toks) (r.rep k.toNat) (by rw[len_rep,Nat.mul_comm];exact hz),rfl,q _ I.fresh⟩
end
section
variable{prog:Program}{w:World}{A:Around}{E:Value->Shared->Prop}{s:Shared}
end
section
variable{X:Cx}
end
section
variable{κ:Type} [DecidableEq κ]
abbrev i8(kvs:List (κ × V))(k:κ):Option V:=(kvs.find? fun kv=>decide (kv.1=k)).map (·.2)
abbrev putK(kvs:List (κ × V))(k:κ)(v:V):List (κ × V) :=
 if(kvs.any fun kv=>decide (kv.1=k))=true then kvs.map (fun kv=>if kv.1=k then(kv.1,v)else kv)else kvs++[(k,v)]
def lT{p:κ × V}{r:List (κ × V)}{k:κ}(e:p.1=k):i8 (p::r) k=some p.2:=by simp[i8,List.find?_cons,e]
def lj{p:κ × V}{r:List (κ × V)}{k:κ}(e:¬ p.1=k):i8 (p::r) k=i8 r k:=by simp[i8,List.find?_cons,e]
def l4(k:κ):∀ kvs:List (κ × V),(kvs.any fun kv=>decide (kv.1=k))=(i8 kvs k).isSome
 | []=>rfl
 | p::r=>by
  rw[List.any_cons];by_cases e:p.1=k
  ·simp only[lT e,decide_eq_true e,Bool.true_or,Option.isSome_some]
  ·rw[lj e,decide_eq_false e,Bool.false_or];exact l4 k r
def ik(kvs:List (κ × V))(k:κ)(v:V):(putK kvs k v).length<=kvs.length+1:=by
 unfold putK;split
 ·rw[List.length_map];omega
 ·rw[List.length_append,List.length_cons,List.length_nil];omega
def j6.pq(r:j6 o u):o.isSome=u.isSome:=by
 cases o with
 | none=>cases u with
  | none=>rfl
  | some _=>exact(show False from r).elim
 | some _=>cases u with
  | none=>exact(show False from r).elim
  | some _=>rfl
def KV.any(r:KV kvs vs)(k:κ):(kvs.any fun kv=>decide (kv.1=k))=vs.any fun kv=>decide (kv.1=k):=by
 unfold KV at r
 induction r with
 | nil=>rfl
 | cons h t ih=>rw[List.any_cons,List.any_cons,ih,h.1]
def KV.r9(r:KV kvs vs)(k:κ)(ry:RelV y u) :
  KV (kvs.map fun kv=>if kv.1=k then(kv.1,y)else kv) (vs.map fun kv=>if kv.1=k then(kv.1,u)else kv):=by
 unfold KV at r ⊢
 induction r with
 | nil=>exact .nil
 |@cons p q ps qs h t ih=>
  rw[List.map_cons,List.map_cons];refine .cons ?_ ih;obtain⟨h1,h2⟩:=h;by_cases e:p.1=k
  ·rw[if_pos e,if_pos (h1.symm.trans e)];exact⟨h1,ry⟩
  ·rw[if_neg e,if_neg (fun z=>e (h1.trans z))];exact⟨h1,h2⟩
def KV.put(r:KV kvs vs)(k:κ)(ry:RelV y u):KV (putK kvs k y) (stored vs k u):=by
 unfold putK stored;rw[r.any k];by_cases e:(vs.any fun kv=>decide (kv.1=k))=true
 ·rw[if_pos e,if_pos e];exact r.r9 k ry
 ·rw[if_neg e,if_neg e];exact Paired.snoc r ⟨rfl,ry⟩
def KV.length(r:KV kvs vs):kvs.length=vs.length:=Paired.length r
end
def k6(r:RelV (kV k) u):(aM P w).is k u=true:=by
 cases k with
 | inl i=>obtain⟨t,e⟩:=(show ∃ t,u=Value.int i t from r);subst e;exact mh P w i t
 | inr x=>obtain⟨t,e⟩:=(show ∃ t,u=Value.str x t from r);subst e;exact ij P w x t
def kf:∀ {ks:List Key} {us:List Value},Vals (ks.map kV) us->ItemsAre (aM P w) ks us
 | [],_,r=>by rw[List.map_nil]at r;cases r;exact .nil
 | k::ks,_,r=>by
  rw[List.map_cons]at r
  cases r with
  | cons h t=>exact .cons (k6 h) (kf t)
@[reducible]noncomputable def KT(H:Hp):List (List Key × V)->List (List Key × Addr × Value)->Prop:=Paired fun p q=>p.1=q.1/\H q.2.1=some (.tup (p.1.map kV))/\RelV p.2 q.2.2
def KT.val{H:Hp}{kvs:List (List Key × V)}{xs:List (List Key × Addr × Value)}(r:KT H kvs xs)(k:List Key):j6 (i8 kvs k) ((atKey xs k).map (·.2)):=by
 induction r with
 | nil=>exact True.intro
 |@cons p q ps qs h t ih=>
  obtain⟨h1,_,h2⟩:=h;by_cases e:p.1=k
  ·have e':q.1=k:=h1.symm.trans e
   have b:atKey (q::qs) k=some q.2:=by simp[atKey,List.find?_cons,e']
   rw[lT e,b];exact h2
  ·have e':¬ q.1=k:=fun z=>e (h1.trans z)
   have b:atKey (q::qs) k=atKey qs k:=by simp[atKey,List.find?_cons,e']
   rw[lj e,b];exact ih
def KT.r9(r:KT H kvs xs)(k:List Key)(ry:RelV y u) :
  KT H (kvs.map fun kv=>if kv.1=k then(kv.1,y)else kv) (xs.map (putAt k u)):=by
 induction r with
 | nil=>exact .nil
 |@cons p q ps qs h t ih=>
  rw[List.map_cons,List.map_cons];refine .cons ?_ ih;obtain⟨h1,h2,h3⟩:=h;unfold putAt;by_cases e:p.1=k
  ·rw[if_pos e,if_pos (h1.symm.trans e)];exact⟨h1,h2,ry⟩
  ·rw[if_neg e,if_neg (fun z=>e (h1.trans z))];exact⟨h1,h2,h3⟩
def KT.put(r:KT H kvs xs)(k:List Key)(hb:H b=some (.tup (k.map kV)))(ry:RelV y u) :
  KT H (putK kvs k y) (storedH xs k b u):=by
 have e:(kvs.any fun kv=>decide (kv.1=k))=(atKey xs k).isSome:=by
  rw[l4,(r.val k).pq,Option.isSome_map]
 unfold putK storedH;rw[e];by_cases q:(atKey xs k).isSome=true
 ·rw[if_pos q,if_pos q];exact r.r9 k ry
 ·rw[if_neg q,if_neg q];exact Paired.snoc r ⟨rfl,hb,ry⟩
def KT.keeps(r:KT H kvs xs)(ht:∀ b ys,H b=some (.tup ys)->H' b=some (.tup ys)):KT H' kvs xs :=
 Paired.qC r fun _ _ z=>⟨z.1,ht _ _ z.2.1,z.2.2⟩
section
variable{P:Program}{w:World}{H:Hp}{h:Heap}{a:Addr}
def sX(ok:HOk P w H h)(e:Rd H a u):bf P w H h a u:=e.ok ok
def sA(ok:HOk P w H h)(e:Rd H a (.dK kvs)):kvs.length<=sizeLine/\(a == sysModules)=false/\∃ vs,KV kvs vs/\h.DictOf (aM P w) a vs :=
 show bf P w H h a (.dK kvs)from sX ok e
def yy(ok:HOk P w H h)(e:H a=some (.dK kvs)):kvs.length<=sizeLine/\(a == sysModules)=false/\∃ vs,KV kvs vs/\h.DictOf (aM P w) a vs:=sA ok (.inl e)
def oX(ok:HOk P w H h)(e:H a=some (.tup (ks.map kV))):(tupleKind (aM P w)).is h ks a:=by
 obtain⟨_,its,r,o,h1,h2,n,h3⟩:=(show bf P w H h a (.tup (ks.map kV))from ok a _ e)
 exact⟨o,its.toArray,n,h1,h2,h3,by simpa using kf r⟩
def yN(ok:HOk P w H h)(e:Rd H a (.dT kvs)):kvs.length<=sizeLine/\(a == sysModules)=false /\
  ∃ xs,KT H kvs xs/\h.DictOfH (tupleKind (aM P w)) a xs:=by
 obtain⟨z,y,xs,r,o,es,ep,h1,h2,h3,h4,h5⟩:=(show bf P w H h a (.dT kvs)from sX ok e)
 refine⟨z,y,xs,r,o,es,ep,h1,h2,h3,h4,fun x hx=>?_,h5⟩
 have all:∀ {l:List (List Key × V)} {m:List (List Key × Addr × Value)},KT H l m->∀ x∈m,(tupleKind (aM P w)).is h x.1 x.2.1:=by
  intro l m q
  induction q with
  | nil=>intro x hx;exact nomatch hx
  |@cons p q ps qs hq t ih=>
   intro x hx;rcases List.mem_cons.mp hx with e | hx
   ·subst e;exact oX ok (by rw[<-hq.1];exact hq.2.1)
   ·exact ih x hx
 exact all r x hx
def sO(ok:HOk P w H h)(e:H a=some (.dT kvs)):kvs.length<=sizeLine/\(a == sysModules)=false /\
  ∃ xs,KT H kvs xs/\h.DictOfH (tupleKind (aM P w)) a xs:=yN ok (.inl e)
end
abbrev gw(H:Hp)(a:Addr)(y v:V)(H':Hp):Prop :=
 (∃ kvs k,H a=some (.dK kvs)/\y=kV k/\kvs.length<sizeLine/\H'=upd H a (.dK (putK kvs k v))) \/
 ∃ kvs k b,H a=some (.dT kvs)/\y=.ref b/\H b=some (.tup (k.map kV))/\kvs.length<sizeLine/\H'=upd H a (.dT (putK kvs k v))
def gw.k{H:Hp}{a:Addr}{kvs:List (Key × V)}{k:Key}{v:V}(e:H a=some (.dK kvs))(hl:kvs.length<sizeLine):gw H a (kV k) v (upd H a (.dK (putK kvs k v))):=.inl ⟨kvs,k,e,rfl,hl,rfl⟩
def gw.t{H:Hp}{a b:Addr}{kvs:List (List Key × V)}{k:List Key}{v:V}(e:H a=some (.dT kvs))(eb:H b=some (.tup (k.map kV)))(hl:kvs.length<sizeLine) :
  gw H a (.ref b) v (upd H a (.dT (putK kvs k v))):=.inr ⟨kvs,k,b,e,rfl,eb,hl,rfl⟩
section
variable{X:Cx}{pins:List (Addr × Obj)}{σ:St}{H:Hp}{s:Shared}{a:Addr}{y v:V}{u r:Value}{o:Option V}{A:Around}{E:Value->Shared->Prop}
def mr(I:Inv X pins σ H s)(mu:Mut (H a))(hs:Heap.SameBut a s.heap h')(he:∃ q,h'.get? a=some q)(new:bf X.prog X.w (upd H a ob) h' a ob) :
  Inv X pins σ (upd H a ob) { s with heap:=h',toks:=t' } :=
 I.write (x:=a) (e:=a) mu (.inl rfl) (fun b q hb z=>(hs.2 b hb).trans z) he new
def xg(z:kvs.length<=sizeLine)(hd:(a == sysModules)=false)(rel:KV kvs vs)(dd:h'.DictOf (aM P w) a vs) :
  bf P w H' h' a (.dK kvs):=⟨z,hd,vs,rel,dd⟩
def pC(hu:A.units+1<cLine)(I:Inv X pins σ H s)(g:gw H a y v H')(ry:RelV y u)(rv:RelV v r)(h:∀ s',Inv X pins σ H' s'->Q () s') :
  wpAny (model X.prog X.w) A (setItem (.ref a) u r) Q E s:=by
 rcases g with⟨kvs,k,e,ey,l,eH⟩ | ⟨kvs,k,b,e,ey,eb,l,eH⟩
 ·subst ey eH;obtain⟨z,hd,vs,rel,dd⟩:=yy I.hok e
  have hz:vs.length<=sizeLine:=by rw[<-rel.length];exact z
  have hl:(putK kvs k v).length<=sizeLine:=by have:=ik kvs k v;omega
  refine wpAny_setItem_pairs (hsz:=hz) (k6 ry) dd fun h' dd' hs=>h _ ?_;have he:∃ q,h'.get? a=some q:=let ⟨q,_,_,hq,_⟩:=dd';⟨q,hq⟩;exact mr I (by rw[e];exact True.intro) hs he (xg hl hd (rel.put k rv) dd')
 ·subst ey eH;cases(show u=Value.ref b from ry);obtain⟨z,hd,xs,rel,dd⟩:=sO I.hok e
  have hz:xs.length<=sizeLine:=by rw[<-Paired.length rel];exact z
  have hl:(putK kvs k v).length<=sizeLine:=by have:=ik kvs k v;omega
  refine wpAny_setItem_heap (hsz:=hz) (tupleKind_room_in1 hu) (oX I.hok eb) dd fun h' dd' hs=>h _ ?_;obtain⟨q,es,ep,hq,h2,h3,h4,_,h5⟩:=dd';refine mr I (by rw[e];exact True.intro) hs ⟨q,hq⟩ ⟨hl,hd,_,(rel.put k eb rv).keeps fun c ys ec=>?_,q,es,ep,hq,h2,h3,h4,h5⟩;rw[aE (hZ ec e (fun z=>nomatch z))];exact ec
end
section
variable{X:Cx}{pins:List (Addr × Obj)}{σ:St}{H:Hp}{s:Shared}{a:Addr}{kvs:List (Key × V)}{k:Key}{u:Value}{A:Around}{E:Value->Shared->Prop}
def yS(I:Inv X pins σ H s)(e:Rd H a (.dK kvs))(h:∀ t s',Inv X pins σ H s'->Q (.int kvs.length t) s'):wpAny (model X.prog X.w) A (call (.builtin "len") [.ref a]) Q E s:=by
 obtain⟨z,hd,vs,rel,dd⟩:=sA I.hok e;refine call_len_dict hd dd (by rw[<-rel.length];rw[sizeLine_eq]at z;omega) ?_;rw[<-rel.length];exact h _ _ (I.tok _)
end
abbrev nZ(i:Expr):Prop:=∀ ov iv,subscripted i false ov iv=operate [ov,iv] (getItem ov iv)
def um{prog:Program}{w:World}{A:Around}{E:Value->Shared->Prop}{s:Shared}{env:Env}{value slice:Expr}{pos:Pos}{T id:String}{Q:Value->Shared->Prop}
 (hl:typeLookup (.type T) "__getitem__" = pure (some (.builtin id)))(hs:nZ slice)
 (h:wpAny (model prog w) A (eval value env) (fun o s₁=>wpAny (model prog w) A (eval slice env) (fun i s₂=>s₂.TypeIs o T/\wpAny (model prog w) A (getItem o i) Q E s₂) E s₁) E s) :
  wpAny (model prog w) A (eval (.Subscript value slice pos) env) Q E s:=by
 refine Subscript_ (wpAny_mono h (fun o s₁ h₁=>wpAny_mono h₁ (fun i s₂ h₂=>?_) fun _ _ x=>x) fun _ _ x=>x);obtain⟨hT,h₂⟩:=h₂;unfold subscriptTail;refine wpAny_bind ?_;rw[getitemInPython_of_ne hT.not_modules];refine wpAny_bind (wpAny_specialOf hT hl ?_)
 have fin:wpAny (model prog w) A (subscripted slice false o i) (fun r s₃=>wpAny (model prog w) A (letTemporaryGo value o r >>= fun _=>pure r) Q E s₃) E s₂:=by
  rw[hs o i];exact wpAny_operating (wpAny_mono h₂ (fun r s₃ h₃=>wpAny_bind (wpAny_letTemporaryGo (wpAny_pure h₃))) fun _ _ x=>x)
 first
  | exact wpAny_pure (wpAny_bind fin)
  | exact wpAny_bind (wpAny_pure (wpAny_bind fin))
  | exact wpAny_bind fin
abbrev nU(td ty tv:TE):TS:=fun D σ H=>tv σ H fun v H1=>td σ H1 fun x H2=>ty σ H2 fun y H3=>∃ a H4,x=.ref a/\gw H3 a y v H4/\D.nx σ H4
section
variable{X:Cx}{o i e value:Expr}{pos pos' tpos:Pos}{td ty tv:TE}
def uj(hu:X.A.units+1<cLine)(ho:PE X o td)(hi:PE X i ty)(hv:PE X value tv)(hs:swapsWith value (some (.Subscript o i pos')) pos.line X.env=pure false) :
  PS X (.Assign [.Subscript o i pos'] value pos) (nU td ty tv):=by
 intro pins s σ H D I h;refine wpAny_Assign_Subscript (thn (hv pins s σ H _ I h) fun r s1 ⟨v,H1,I1,rv,q1⟩=>thn (ho pins s1 σ H1 _ I1 q1) fun u s2 ⟨x,H2,I2,rx,q2⟩=>thn (hi pins s2 σ H2 _ I2 q2) fun iv s3 ⟨y,H3,I3,ry,a,H4,ex,g,q3⟩=>?_) hs;subst ex;obtain rfl:u=Value.ref a:=rx
 exact pC hu I3 g ry rv fun s4 I4=>⟨σ,H4,I4,q3⟩
end
section
variable{X:Cx}{pos:Pos}
end
section
variable{X:Cx}{pins:List (Addr × Obj)}{σ:St}{H:Hp}{s:Shared}{a:Addr}{y d:V}{u r:Value}{o:Option V}{A:Around}{E:Value->Shared->Prop}
end
section
variable{X:Cx}{o e f:Expr}{apos cpos:Pos}{td ty tx:TE}
end
section
variable{X:Cx}{pins:List (Addr × Obj)}{σ:St}{H:Hp}{s:Shared}{a:Addr}{kvs:List (Key × V)}{A:Around}{E:Value->Shared->Prop}
end
section
variable{X:Cx}{pins:List (Addr × Obj)}{σ:St}{H:Hp}{s:Shared}{a:Addr}{y:V}{u:Value}{A:Around}{E:Value->Shared->Prop}
end
end L2
namespace Att
open PySem PySem.W PySem.Calls PyProof.Rows
def iN:∀ (ns:List Int) (vs:List Value),WellAll P h vs (ns.map WData.int)->IntsAre vs ns:=by
 intro ns
 induction ns with
 |nil=>
  intro vs w;rw[List.map_nil]at w;cases w;exact .nil
 |cons n ns ih=>
  intro vs w;rw[List.map_cons]at w
  cases w with
  |cons a b=>
   cases a;exact .cons _ _ (ih _ b)
def oZ{l:OpenLaw}{n:Nat}(hn:l.most=some n){P:Params}{h:Heap}{args:List WData}{vals:List Value}
 (hpre:l.row.toRowW.claim.pre args=true)(hwl:WellAll P h vals args) :
  ∃ a vs ns,vals=[Value.ref a]/\args=[WData.list (ns.map WData.int)]/\h.get? a=some { cls:=.type "list",data:=.seq vs.toArray }/\IntsAre vs ns/\ns.length<=n:=by
 have hsh:WShape.hasAll [] args [.list .int]=true:=(pre_splitW hpre).1;have hc:l.pre.holds [] { args:=args }=true:=(pre_splitW hpre).2;obtain⟨d,r,rfl,h1,h2⟩:=hasAllW_cons hsh;obtain rfl:=hasAllW_nil h2;obtain⟨xs,rfl,h3⟩:=hasW_list h1;obtain⟨ns,rfl⟩:=items_int h3
 have hlen:ns.length<=n:=by
  unfold OpenLaw.pre at hc
  have h4:(WTm.not (.lt (.lit (.int (n:Int))) (.len (.arg 0)))).holds [] { args:=[.list (ns.map .int)] }=true:=by
   have h4:=(holds_andW hc).1;rw[hn]at h4;exact h4
  have h5:=condW_of h4 (w_not (w_lt w_lit (w_len_list (w_arg rfl))));rw[List.length_map]at h5;refine Nat.le_of_not_lt fun q=>?_
  have q':(n:Int)<((ns.length:Nat):Int):=by omega
  first
   | (rw[decide_eq_true q']at h5;exact absurd h5 (by decide))
   | (simp at h5;omega)
 cases hwl with
 |cons w1 w2=>
  cases w2
  cases w1 with
  | list ho hall=>exact⟨_,_,ns,rfl,rfl,ho,iN ns _ hall,hlen⟩
def pQ(l:OpenLaw)(args:List WData):l.row.toRowW.claim.post args (.bool true) args=true :=
 postW_of (r:=l.row.toRowW) (X:=(true == true))
  (show WShape.has [] (.bool true) .bool=true by first | rfl | decide | simp[WShape.has,WShape.arms,WShape.armsAll])
  (show(WTm.eq .res (.lit (.bool true))).value [] { args:=args,res:=some (.bool true),after:=args }=some (.bool (true == true))from w_eq_bool (w_res rfl) w_lit) rfl
def me{l:OpenLaw}{n:Nat}{q:Program}{loose:List Str}{XP:(Str->Option Value)->Heap->Prop}{YP:World->Heap->Prop}{d:DefRec}
 (hn:l.most=some n)(hdf:d.params.defaults=[])
 (call:∀ (w:World) (s₀ s₁:Shared) (mg mb:Str->Option Value) (fa:Addr) (o:Obj) (pm cd doc:Value) (a:Addr) (vs:List Value) (ns:List Int),
   Ground q loose [] XP w s₀ mg mb s₁.heap->YP w s₁.heap ->
   s₁.heap.get? fa=some o->o.data=.func (docDef d.name d.params d.body d.scope pm cd doc)->s₁.heap.CodeRec cd d.name->mg d.name=some (.ref fa) ->
   s₁.heap.get? a=some { cls:=.type "list",data:=.seq vs.toArray }->IntsAre vs ns->ns.length<=n->s₁.gens=#[] ->
   codeAny (model l.prog w) callerA (.call (.ref fa) ⟨[.ref a],[]⟩) (fun r s'=>r=.ok (.ret (.bool true))/\OldK s₁.heap s'.heap/\s'.os=s₁.os/\AllBare s'.gens) s₁) :
  WalkO q loose XP YP l.row.toRowW d [] (fun f vs=>PySem.call f vs):=by
 intro w s₀ s₁ mg mb G Y fa o pm cd doc dV kV ho hd hcd hD hmg hg args vals as hpre hlay hrd hwl hlo;obtain rfl:dV=.none:=Dflts.none hD hdf;obtain rfl:kV=.none:=Dflts.noKw hD;obtain⟨a,vs,ns,rfl,rfl,hobj,hints,hlen⟩:=oZ hn hpre hwl;refine enter_call (codeAny_mono (call w s₀ s₁ mg mb fa o pm cd doc a vs ns G Y ho (fd_plain hd) hcd hmg hobj hints hlen hg) fun r s' hq=>?_);obtain⟨rfl,h2,h3,h4⟩:=hq;exact⟨.inl ⟨.bool true,.bool true,[],rfl,fun _=>rfl,.bool true,pQ l _,fun _=>⟨List.Pairwise.nil,fun _ hm=>(nomatch hm)⟩⟩,h2,h3,h4⟩
section
variable{prog:Program}{w:World}{A:Around}{E:Value->Shared->Prop}{s:Shared}{K:Frag}
end
end Att
namespace L2
open PySem PySem.Spec PyProof.Rows
def jM:∀ {vs:List Value} {ns:List Int},IntsAre vs ns->Vals (ns.map V.int) vs
 | _,_,.nil=>.nil
 | _,_,.cons n t h=>.cons ⟨t,rfl⟩ (jM h)
abbrev lB(H:Hp):Prop:=∀ b,H b=none\/∃ o xs,H b=some (.frz o (.lst xs))
def rT{P:Program}{w:World}{K:PySem.W.Frag}{mg mb:Str->Option Value}{CX:CXT}{k:Nat}{fa a:Addr}{fd:FuncData}{x:Str}{sp:Sp}{s₁:Shared}{vs:List Value}{ns:List Int}
 (KX:K.In s₁.heap)(hns:s₁.heap.Ns mainGlobals mg)(hb:s₁.heap.Ns builtinsNs mb)(hbb:∀ x:Str,x ≠ "__name__" -> mb x=bootBuiltins x)(hlim:s₁.heap.NoLimit)(hg:s₁.gens=#[])
 (ha:s₁.heap.get? a=some { cls:=.type "list",data:=.seq vs.toArray })(hi:IntsAre vs ns)(hl:ns.length<=sizeLine)(hr:cy k callerA)
 (F:∀ base:Heap,K.In base->base.Ns mainGlobals mg->dJ P w K mg base CX k fa fd [x] sp)(hbind:∀ (s:Shared) (u:Value),BindsTo s fd ⟨[u],[]⟩ [(x,u)])
 (hsp:∀ H:Hp,lB H->SqL K H a (ns.map V.int)->sp [.ref a] H (fun v _=>v=.bl true) fun _ _ _=>False)
 (hCX:∀ H e s',CX [] H s₁ (fun _ _ _=>False) e s'->False) :
  codeAny (model P w) callerA (.call (.ref fa) ⟨[.ref a],[]⟩) (fun r s'=>r=.ok (.ret (.bool true))/\OldK s₁.heap s'.heap/\s'.os=s₁.os/\AllBare s'.gens) s₁:=by
 have rv:=jM hi;have lenV:=hi.length
 have core:∀ H:Hp,lB H->SqL K H a (ns.map V.int)->HOk P w H s₁.heap->(∀ b,H b≠none->b=a)->(H a≠none->K.lookup a=none) ->
   codeAny (model P w) callerA (.call (.ref fa) ⟨[.ref a],[]⟩) (fun r s'=>r=.ok (.ret (.bool true))/\OldK s₁.heap s'.heap/\s'.os=s₁.os/\AllBare s'.gens) s₁:=by
  intro H hO hS hok hA hK;have base_of:∀ {b:Addr} {o:Obj},s₁.heap.get? b=some o->H b=none->(fN s₁.heap H).get? b=some o:=fun e n=>qL e n
  have noA:∀ {b:Addr} {o:Obj} {es:Array DictEntry} {ep:Nat},s₁.heap.get? b=some o->o.data=.dict es ep->H b=none:=fun {b o es ep} e d=>by
   cases q:H b with
   | none=>rfl
   |some u=>
    have e':b=a:=hA b (by rw[q];simp);subst e';rw[ha]at e;cases e;have d':Data.seq vs.toArray _=Data.dict es ep:=d;cases d'
  have nsK:∀ {b:Addr} {m:Str->Option Value},s₁.heap.Ns b m->(fN s₁.heap H).Ns b m:=fun {b m} ⟨o,es,ep,e,d,r⟩=>⟨o,es,ep,base_of e (noA e d),d,r⟩
  have hKb:K.In (fN s₁.heap H):=fun b o e=>base_of (KX b o e) (by
   cases q:H b with
   | none=>rfl
   |some u=>
    have e':b=a:=hA b (by rw[q];simp);subst e'
    rw[hK (by rw[q];simp)]at e;cases e)
  have hM:Mod K mg (fN s₁.heap H):=⟨hKb,nsK hns,⟨mb,nsK hb,hbb⟩,let ⟨mc,h1,h2⟩:=hlim;⟨mc,nsK h1,h2⟩⟩
  have e0:nH P w K mg (fN s₁.heap H) callerA [] s₁ H:=⟨rfl,hM,fun b o e=>tP e,Nat.le_of_eq (pO _ _),trivial,fun b hb=>absurd (show b∈([]:List Addr)from hb) (by simp),hok,.of_eq hg⟩
  refine codeAny_mono ((F _ hKb (nsK hns)).run callerA [] s₁ H ⟨[.ref a],[]⟩ [.ref a] [.ref a] _ _ hr e0 (hbind s₁ (.ref a)) (.cons rfl .nil) (hsp H hO hS)) fun r s' h=>?_
  cases r with
  | error e=>exact(hCX H e s' h).elim
  |ok fl=>
   cases fl with
   | next=>exact False.elim h
   | brk=>exact False.elim h
   | cont=>exact False.elim h
   |ret u=>
    obtain⟨v,H',os,bare,un,hok',r',q⟩:=h;have q':v=.bl true:=q;subst q';obtain rfl:u=Value.bool true:=r';refine⟨rfl,OldK.of_keep fun b o e=>?_,os,bare⟩
    cases q:H b with
    | none=>exact un.keep b o e q (by intro z;exact absurd (show b∈([]:List Addr)from z) (by simp)) (by simp)
    |some u=>
     rcases hO b with z | ⟨ob,xs,z⟩
     ·rw[q]at z;cases z
     ·have z2:=un.eZ b ob _ z;obtain⟨e1,_⟩:=hok b _ z;obtain⟨e2,_⟩:=hok' b _ z2;rw[e]at e1;cases e1;exact e2
 cases hk:K.lookup a with
 |some o=>
  have e:=KX a o hk;rw[ha]at e;cases e;refine core (fun _=>none) (fun _=>.inl rfl) (.inr ⟨_,vs.toArray,_,hk,rfl,rfl,rfl,by rw[List.size_toArray,lenV];exact hl,by simpa using rv⟩) (fun b u z=>by have z':(none:Option HO)=some u:=z;cases z') (fun b z=>absurd rfl z) fun z=>absurd rfl z
 |none=>
  refine core (fun b=>if b=a then some (.frz { cls:=.type "list",data:=.seq vs.toArray } (.lst (ns.map V.int)))else none) (fun b=>?_) (.inl (.inr ⟨{ cls:=.type "list",data:=.seq vs.toArray },if_pos rfl⟩)) (fun b u z=>?_) (fun b z=>?_) fun _=>hk
  ·by_cases hb:b=a
   ·exact .inr ⟨_,_,if_pos hb⟩
   ·exact .inl (if_neg hb)
  ·by_cases hb:b=a
   ·have z':=(if_pos hb).symm.trans z;cases z';subst hb;exact⟨ha,by rw[List.length_map];exact hl,vs,_,rv,ha⟩
   ·have z':=(if_neg hb).symm.trans z;cases z'
  ·by_cases hb:b=a
   ·exact hb
   ·exact absurd (if_neg hb) z
@[reducible]noncomputable def KOf{K:PySem.W.Frag}{h:Heap}(_:K.In h):PySem.W.Frag:=K
def mm{l:PySem.W.OpenLaw}{n k:Nat}{q:Program}{loose:List Str}{XP:(Str->Option Value)->Heap->Prop}{YP:World->Heap->Prop}{d:DefRec}{K:Params->PySem.W.Frag}{CX:World->CXT}{sp:World->Sp}{x:Str}
 (hn:l.most=some n)(hn2:n<=sizeLine)(hdf:d.params.defaults=[])(hr:cy k callerA)
 (hY:∀ (w:World) (h:Heap),YP w h->(K w.params).In h)
 (F:∀ (w:World) (mg:Str->Option Value) (fa:Addr) (h:Heap),(K w.params).In h->h.Ns mainGlobals mg->mg d.name=some (.ref fa) ->
   ∃ fd:FuncData,(∀ (s:Shared) (u:Value),BindsTo s fd ⟨[u],[]⟩ [(x,u)]) /\
    ∀ base:Heap,(K w.params).In base->base.Ns mainGlobals mg->dJ l.prog w (K w.params) mg base (CX w) k fa fd [x] (sp w))
 (hsp:∀ (w:World) (H:Hp) (a:Addr) (ns:List Int),ns.length<=n->lB H->SqL (K w.params) H a (ns.map V.int)->sp w [.ref a] H (fun v _=>v=.bl true) fun _ _ _=>False)
 (hCX:∀ (w:World) (H:Hp) (s:Shared) (e:Value) (s':Shared),CX w [] H s (fun _ _ _=>False) e s'->False) :
  PySem.W.WalkO q loose XP YP l.row.toRowW d [] (fun f vs=>PySem.call f vs):=by
 refine Att.me hn hdf fun w s₀ s₁ mg mb fa o pm cd doc a vs ns G Y ho hd hcd hmg hobj hints hlen hg=>?_;have KX:=hY w _ Y;obtain⟨fd,hb,hF⟩:=F w mg fa _ KX G.T.g hmg;exact rT KX G.T.g G.T.b G.T.builtins G.T.nolimit hg hobj hints (Nat.le_trans hlen hn2) hr hF hb (fun H hO hS=>hsp w H a ns hlen hO hS) fun H e s'=>hCX w H s₁ e s'
def sd{l:PySem.W.OpenLaw}{n k:Nat}{q:Program}{loose:List Str}{XP:(Str->Option Value)->Heap->Prop}{YP:World->Heap->Prop}{d:DefRec}{K:Params->PySem.W.Frag}{CX:CXT}{sp:PySem.W.Frag->Sp}{x:Str}
 (hn:l.most=some n)(hn2:n<=sizeLine)(hdf:d.params.defaults=[])(hr:cy k callerA)
 (hY:∀ (w:World) (h:Heap),YP w h->(K w.params).In h)
 (F:∀ (w:World) (mg:Str->Option Value) (fa:Addr) (h:Heap),(K w.params).In h->h.Ns mainGlobals mg->mg d.name=some (.ref fa) ->
   ∃ fd:FuncData,(∀ (s:Shared) (u:Value),BindsTo s fd ⟨[u],[]⟩ [(x,u)]) /\
    ∀ base:Heap,(K w.params).In base->base.Ns mainGlobals mg->dJ l.prog w (K w.params) mg base CX k fa fd [x] (sp (K w.params)))
 (hsp:∀ (K:PySem.W.Frag) (H:Hp) (a:Addr) (ns:List Int),ns.length<=n->lB H->SqL K H a (ns.map V.int)->sp K [.ref a] H (fun v _=>v=.bl true) fun _ _ _=>False)
 (hCX:∀ (H:Hp) (s:Shared) (e:Value) (s':Shared),CX [] H s (fun _ _ _=>False) e s'->False) :
  PySem.W.WalkO q loose XP YP l.row.toRowW d [] (fun f vs=>PySem.call f vs) :=
 mm (K:=K) (CX:=fun _=>CX) (sp:=fun w=>sp (K w.params)) hn hn2 hdf hr hY F (fun w H a ns h1 h2 h3=>hsp (K w.params) H a ns h1 h2 h3) fun _ H s e s'=>hCX H s e s'
abbrev eo(s:Stmt):Arguments:=match s with
 | .FunctionDef _ a _ _ _ _ _ _ _ _=>a
 | _=>{ posonlyargs:=[],args:=[],vararg:=none,kwonlyargs:=[],kw_defaults:=[],kwarg:=none,defaults:=[] }
abbrev cP(s:Stmt):List Stmt:=match s with
 | .FunctionDef _ _ b _ _ _ _ _ _ _=>b
 | _=>[]
abbrev bH(s:Stmt):Scope:=match s with
 | .FunctionDef _ _ _ _ _ _ sc _ _ _=>sc
 | _=>{ kind:=.function,names:=[],isGenerator:=false,isCoroutine:=false }
@[reducible]noncomputable def CX0:CXT:=fun _ _ _ _ _ _=>False
@[reducible]noncomputable def E0:XK:=fun _ _ _=>False
def oh:Passes CX0 X E0:=fun _ _ _ _ _ _ _ h=>h.elim
structure Fun(K:PySem.W.Frag)(x qual:Str)(st:Stmt)(f:Addr)(fd:FuncData):Prop where
 ex:∃ (oc:Value) (od:Option Addr) (kV doc pm:Value) (an:Option Addr) (cdv ct:Value) (osl:Array (Option Value)),
  fd=PySem.W.fnOf x qual (eo st) (cP st) (bH st) .none kV doc pm an cdv ct/\K.lookup f=some ⟨oc,od,.func fd,osl⟩/\PySem.W.codeIn K cdv qual=true
 kp:PySem.W.keepIn K (.ref f)=true
section
variable{P:Program}{w:World}{K:PySem.W.Frag}{mg:Str->Option Value}{base:Heap}
def Fun.ok{x qual:Str}{st:Stmt}{f:Addr}{fd:FuncData}{N ps:List Str}{k:Nat}{sp:Sp}(F:Fun K x qual st f fd)(S:gP N ps (bH st))(len:∀ vs H Q E,sp vs H Q E->vs.length=ps.length)
 (hbody:∀ (cdv:Value) (A:Around) (outer:List Env) (s:Shared) (H:Hp) (vs:List V) (Q:VK) (E:XK),cy k (A.deeper (envOfC qual (bH st) s.heap.objs.size f cdv))->sp vs H Q E ->
   ∃ t,PSs (ip CX0 P w K mg base N qual (bH st) f cdv A outer s H E).nox (cP st) t/\t { nx:=fun _ H'=>Q .non H',rt:=Q } (start N vs) H):dJ P w K mg base CX0 (k+1) f fd ps sp:=by
 obtain⟨oc,od,kV,doc,pm,an,cdv,ct,osl,rfl,lk,hcd⟩:=F.ex;refine yO lk hcd S len fun A outer s H vs Q E hr hsp=>?_;obtain⟨t,h,q⟩:=hbody cdv A outer s H vs Q E hr hsp;exact⟨t,h.nox,q⟩
def Fun.binds{x qual:Str}{st:Stmt}{f:Addr}{fd:FuncData}{ps:List Str}(F:Fun K x qual st f fd)
 (h:∀ (kV doc pm:Value) (an:Option Addr) (cdv ct:Value) (us:List Value),us.length=ps.length->bindArgs (PySem.W.fnOf x qual (eo st) (cP st) (bH st) .none kV doc pm an cdv ct) ⟨us,[]⟩=pure (ps.zip us)):Binds K fd ps []:=by
 obtain⟨oc,od,kV,doc,pm,an,cdv,ct,osl,rfl,lk,hcd⟩:=F.ex;exact .all (h kV doc pm an cdv ct)
def pT{x qual:Str}{st:Stmt}{f:Addr}{oc:Value}{od an:Option Addr}{osl:Array (Option Value)}{kV doc pm cdv ct:Value}(l:K.lookup f=some ⟨oc,od,.func (PySem.W.fnOf x qual (eo st) (cP st) (bH st) .none kV doc pm an cdv ct),osl⟩)
 (c:PySem.W.codeIn K cdv qual=true)(k:PySem.W.keepIn K (.ref f)=true):Fun K x qual st f (PySem.W.fnOf x qual (eo st) (cP st) (bH st) .none kV doc pm an cdv ct):=⟨⟨oc,od,kV,doc,pm,an,cdv,ct,osl,rfl,l,c⟩,k⟩
end
def jZ(h:n<=1000):n<sizeLine:=Nat.lt_of_le_of_lt h (by decide)
section
variable{X:Cx}
end
def fb{A B:Prop}(h:B):if false=true then A else B:=by
 rw[if_neg Bool.false_ne_true];exact h
def e8{A B:Prop}(h:A):if true=true then A else B:=by
 rw[if_pos rfl];exact h
abbrev ay(H H':Hp):Prop:=∀ b o,H b=some o->H' b=some o
def ay.refl(H:Hp):ay H H:=fun _ _ h=>h
def ay.trans(a:ay H H1)(b:ay H1 H2):ay H H2:=fun c o h=>b c o (a c o h)
def ay.free(e:ay H H')(h:H' l=Option.none):H l=Option.none:=by
 cases q:H l with
 | none=>rfl
 |some o=>
  rw[e l o q]at h;cases h
section
variable{X:Cx}
def oS:bo X (.builtin "len") (fun xs H Q=>∃ a kvs,xs=[V.ref a]/\H a=some (.dK kvs)/\Q (.int kvs.length) H):=by
 intro pins s σ H xs us Q I r h;obtain⟨a,kvs,rfl,ha,q⟩:=h;obtain⟨u,rfl,ru⟩:=vals1 r;cases ru
 exact yS I (.inl ha) fun t s' I'=>⟨.int kvs.length,H,I',⟨t,rfl⟩,q⟩
end
section
variable{κ:Type} [DecidableEq κ]
end
end L2
namespace RS
open PySem PySem.Spec PyProof.Rows L2
@[reducible]def VE:List Value:=[.type "ValueError",.type "Exception",.type "BaseException",.type "object"]
abbrev rY:List Str:=["RibbonError", "BadPegs", "BadFrame", "BadHalf", "BadHook", "BadName", "NoNumber", "NoFrame", "NoStack", "NoPlace", "Taken", "Full", "NothingThere", "BadTrade", "Hangs", "BadPage"]
abbrev wb(f:Option PySem.Builtin.ObjectAttr.Found):Bool:=match f with
 | some (.bind (.builtin a) (.builtin b))=>a == "getset_descriptor.__get__" && b == "object.__class__"
 | _=>false
abbrev yu(K:PySem.W.Frag)(x:Str)(C:Addr):Bool :=
 PySem.W.excIn K C VE "ValueError.__new__" && PySem.W.findIn K (.ref C) "__getattribute__" == some (some (.builtin "BaseException.__getattribute__"))&&PySem.W.findIn K (.ref C) "__getattr__" == some none&&wb (PySem.W.findObj K C none "__class__") &&
 PySem.W.mroIn K C (.type "object") == some true&&PySem.W.subIn K (.ref C) (.type "BaseException") == some true&&(PySem.W.clsIn K C).isSome&&PySem.W.kitOne K (.ref C) (.type "ValueError") == some true &&
 rY.all fun c=>match PySem.W.nsIn K mainGlobals c with
  | some (some (.ref D))=>PySem.W.kitOne K (.ref C) (.ref D) == some (RL.sF x c)&&PySem.W.subIn K (.ref C) (.ref D) == some (RL.sF x c)
  | _=>true
structure Cls(K:PySem.W.Frag)(x:Str)(C:Addr):Prop where
 ns:PySem.W.nsIn K mainGlobals x=some (some (.ref C))
 ok:yu K x C=true
section
variable{K:PySem.W.Frag}
end
abbrev nP:Addr->Prop:=fun _=>False
abbrev gn(K:PySem.W.Frag)(H:Hp)(a:Addr)(xs:List V):Prop:=(∃ o,H a=some (.frz o (.lst xs)))\/SqL K (fun _=>none) a xs
def gn.seq{K:PySem.W.Frag}(h:gn K H a xs):SqL K H a xs:=by
 rcases h with⟨o,h⟩ | (h | ⟨o,h⟩) | h
 ·exact .inl (.inr ⟨o,h⟩)
 ·cases h
 ·cases h
 ·exact .inr h
def gn.same{K:PySem.W.Frag}(e:ay H H')(h:gn K H a xs):gn K H' a xs:=by
 rcases h with⟨o,h⟩ | h
 ·exact .inl ⟨o,e _ _ h⟩
 ·exact .inr h
abbrev ExV(K:PySem.W.Frag)(H:Hp)(c:Str)(v:V):Prop:=∃ a o u D vs,v=.ref a/\H a=some (.frz o u)/\(o.cls=.ref D/\o.dict=none)/\o.data=.fields vs/\vs[2]?=some .none/\Cls K c D
def ExV.keep{K:PySem.W.Frag}(h:ExV K H c v)(k:∀ b o u,H b=some (.frz o u)->H' b=some (.frz o u)):ExV K H' c v :=
 let ⟨a,o,u,D,vs,h1,h2,r⟩:=h;⟨a,o,u,D,vs,h1,k _ _ _ h2,r⟩
mutual
noncomputable def Rep(P:Addr->Prop)(K:PySem.W.Frag)(H:Hp):RL.D->V->Prop
 | .non,v=>v=.non
 | .bl b,v=>v=.bl b
 | .int i,v=>v=.int i
 | .str x,v=>v=.str x
 | .tup ds,v=>∃ a xs,v=.ref a/\H a=some (.tup xs)/\ae P K H ds xs
 | .lst ds,v=>∃ a xs,v=.ref a/\¬ P a/\H a=some (.lst xs)/\ae P K H ds xs
 | .dK ks ds,v=>∃ a xs,v=.ref a/\¬ P a/\H a=some (.dK (ks.zip xs))/\ks.length=ds.length/\ae P K H ds xs
 | .dT ks ds,v=>∃ a xs,v=.ref a/\¬ P a/\H a=some (.dT (ks.zip xs))/\ks.length=ds.length/\ae P K H ds xs
 | .scr ds,v=>∃ a xs,v=.ref a/\gn K H a xs/\ae P K H ds xs
 | .exc c,v=>ExV K H c v
 | .fT ks ds,v=>∃ a o xs,v=.ref a/\H a=some (.frz o (.dT (ks.zip xs)))/\ks.length=ds.length/\ae P K H ds xs
 | .fL ds,v=>∃ a o xs,v=.ref a/\H a=some (.frz o (.lst xs))/\ae P K H ds xs
noncomputable def ae(P:Addr->Prop)(K:PySem.W.Frag)(H:Hp):List RL.D->List V->Prop
 | [],xs=>xs=[]
 | d::r,xs=>∃ x t,xs=x::t/\Rep P K H d x/\ae P K H r t
end
mutual
theorem Rep.same{P:Addr->Prop}{K:PySem.W.Frag}{H H':Hp}(e:ay H H'):∀ {d:RL.D} {v:V},Rep P K H d v->Rep P K H' d v
 | .non,v,h=>by simpa[Rep]using h
 | .bl _,v,h=>by simpa[Rep]using h
 | .int _,v,h=>by simpa[Rep]using h
 | .str _,v,h=>by simpa[Rep]using h
 | .tup ds,v,h=>by
  rw[Rep]at h ⊢;obtain⟨a,xs,e1,e2,e3⟩:=h;exact⟨a,xs,e1,e _ _ e2,ae.same e e3⟩
 | .lst ds,v,h=>by
  rw[Rep]at h ⊢;obtain⟨a,xs,e1,e0,e2,e3⟩:=h;exact⟨a,xs,e1,e0,e _ _ e2,ae.same e e3⟩
 | .dK ks ds,v,h=>by
  rw[Rep]at h ⊢;obtain⟨a,xs,e1,e0,e2,el,e3⟩:=h;exact⟨a,xs,e1,e0,e _ _ e2,el,ae.same e e3⟩
 | .dT ks ds,v,h=>by
  rw[Rep]at h ⊢;obtain⟨a,xs,e1,e0,e2,el,e3⟩:=h;exact⟨a,xs,e1,e0,e _ _ e2,el,ae.same e e3⟩
 | .scr ds,v,h=>by
  rw[Rep]at h ⊢;obtain⟨a,xs,e1,e2,e3⟩:=h;exact⟨a,xs,e1,gn.same e e2,ae.same e e3⟩
 | .exc c,v,h=>by rw[Rep]at h ⊢;exact h.keep fun _ _ _ q=>e _ _ q
 | .fT ks ds,v,h=>by rw[Rep]at h ⊢;obtain⟨a,o,xs,e1,e2,el,e3⟩:=h;exact⟨a,o,xs,e1,e _ _ e2,el,ae.same e e3⟩
 | .fL ds,v,h=>by rw[Rep]at h ⊢;obtain⟨a,o,xs,e1,e2,e3⟩:=h;exact⟨a,o,xs,e1,e _ _ e2,ae.same e e3⟩
theorem ae.same{P:Addr->Prop}{K:PySem.W.Frag}{H H':Hp}(e:ay H H'):∀ {ds:List RL.D} {xs:List V},ae P K H ds xs->ae P K H' ds xs
 | [],xs,h=>by rw[ae]at h ⊢;exact h
 | d::r,xs,h=>by
  rw[ae]at h ⊢;obtain⟨x,t,e1,e2,e3⟩:=h;exact⟨x,t,e1,Rep.same e e2,ae.same e e3⟩
end
mutual
theorem Rep.weak{P P':Addr->Prop}{K:PySem.W.Frag}{H:Hp}(e:∀ a,P' a->P a):∀ {d:RL.D} {v:V},Rep P K H d v->Rep P' K H d v
 | .non,v,h=>by simpa[Rep]using h
 | .bl _,v,h=>by simpa[Rep]using h
 | .int _,v,h=>by simpa[Rep]using h
 | .str _,v,h=>by simpa[Rep]using h
 | .tup ds,v,h=>by
  rw[Rep]at h ⊢;obtain⟨a,xs,e1,e2,e3⟩:=h;exact⟨a,xs,e1,e2,ae.weak e e3⟩
 | .lst ds,v,h=>by
  rw[Rep]at h ⊢;obtain⟨a,xs,e1,e0,e2,e3⟩:=h;exact⟨a,xs,e1,fun z=>e0 (e a z),e2,ae.weak e e3⟩
 | .dK ks ds,v,h=>by
  rw[Rep]at h ⊢;obtain⟨a,xs,e1,e0,e2,el,e3⟩:=h;exact⟨a,xs,e1,fun z=>e0 (e a z),e2,el,ae.weak e e3⟩
 | .dT ks ds,v,h=>by
  rw[Rep]at h ⊢;obtain⟨a,xs,e1,e0,e2,el,e3⟩:=h;exact⟨a,xs,e1,fun z=>e0 (e a z),e2,el,ae.weak e e3⟩
 | .scr ds,v,h=>by
  rw[Rep]at h ⊢;obtain⟨a,xs,e1,e2,e3⟩:=h;exact⟨a,xs,e1,e2,ae.weak e e3⟩
 | .exc c,v,h=>by rw[Rep]at h ⊢;exact h
 | .fT ks ds,v,h=>by rw[Rep]at h ⊢;obtain⟨a,o,xs,e1,e2,el,e3⟩:=h;exact⟨a,o,xs,e1,e2,el,ae.weak e e3⟩
 | .fL ds,v,h=>by rw[Rep]at h ⊢;obtain⟨a,o,xs,e1,e2,e3⟩:=h;exact⟨a,o,xs,e1,e2,ae.weak e e3⟩
theorem ae.weak{P P':Addr->Prop}{K:PySem.W.Frag}{H:Hp}(e:∀ a,P' a->P a):∀ {ds:List RL.D} {xs:List V},ae P K H ds xs->ae P' K H ds xs
 | [],xs,h=>by rw[ae]at h ⊢;exact h
 | d::r,xs,h=>by
  rw[ae]at h ⊢;obtain⟨x,t,e1,e2,e3⟩:=h;exact⟨x,t,e1,Rep.weak e e2,ae.weak e e3⟩
end
def Rep.none{P:Addr->Prop}{K:PySem.W.Frag}(h:Rep P K H d v):Rep nP K H d v:=h.weak fun _ z=>z.elim
mutual
theorem Rep.imm{P P':Addr->Prop}{K:PySem.W.Frag}{H:Hp}:∀ {d:RL.D} {v:V},d.imm=true->Rep P K H d v->Rep P' K H d v
 | .non,v,_,h=>by simpa[Rep]using h
 | .bl _,v,_,h=>by simpa[Rep]using h
 | .int _,v,_,h=>by simpa[Rep]using h
 | .str _,v,_,h=>by simpa[Rep]using h
 | .tup ds,v,i,h=>by
  rw[Rep]at h ⊢;rw[RL.D.imm]at i;obtain⟨a,xs,e1,e2,e3⟩:=h;exact⟨a,xs,e1,e2,ae.imm i e3⟩
 | .lst ds,v,i,h=>by rw[RL.D.imm]at i;cases i
 | .dK ks ds,v,i,h=>by rw[RL.D.imm]at i;cases i
 | .dT ks ds,v,i,h=>by rw[RL.D.imm]at i;cases i
 | .scr ds,v,i,h=>by
  rw[Rep]at h ⊢;rw[RL.D.imm]at i;obtain⟨a,xs,e1,e2,e3⟩:=h;exact⟨a,xs,e1,e2,ae.imm i e3⟩
 | .exc c,v,i,h=>by rw[Rep]at h ⊢;exact h
 | .fT ks ds,v,i,h=>by rw[Rep]at h ⊢;rw[RL.D.imm]at i;obtain⟨a,o,xs,e1,e2,el,e3⟩:=h;exact⟨a,o,xs,e1,e2,el,ae.imm i e3⟩
 | .fL ds,v,i,h=>by rw[Rep]at h ⊢;rw[RL.D.imm]at i;obtain⟨a,o,xs,e1,e2,e3⟩:=h;exact⟨a,o,xs,e1,e2,ae.imm i e3⟩
theorem ae.imm{P P':Addr->Prop}{K:PySem.W.Frag}{H:Hp}:∀ {ds:List RL.D} {xs:List V},RL.ao ds=true->ae P K H ds xs->ae P' K H ds xs
 | [],xs,_,h=>by rw[ae]at h ⊢;exact h
 | d::r,xs,i,h=>by
  rw[ae]at h ⊢;rw[RL.ao,Bool.and_eq_true]at i;obtain⟨x,t,e1,e2,e3⟩:=h;exact⟨x,t,e1,Rep.imm i.1 e2,ae.imm i.2 e3⟩
end
abbrev bX(o:HO):Prop:=(∃ xs,o=.lst xs)\/(∃ kvs,o=.dK kvs)\/(∃ kvs,o=.dT kvs)
mutual
theorem Rep.upd{P:Addr->Prop}{K:PySem.W.Frag}{H:Hp}{a:Addr}{o o':HO}(ha:H a=some o)(m:bX o)(p:P a):∀ {d:RL.D} {v:V},Rep P K H d v->Rep P K (upd H a o') d v
 | .non,v,h=>by simpa[Rep]using h
 | .bl _,v,h=>by simpa[Rep]using h
 | .int _,v,h=>by simpa[Rep]using h
 | .str _,v,h=>by simpa[Rep]using h
 | .tup ds,v,h=>by
  rw[Rep]at h ⊢;obtain⟨b,xs,e1,e2,e3⟩:=h;have n:b≠a:=hZ e2 ha (by rcases m with⟨z,rfl⟩ | ⟨z,rfl⟩ | ⟨z,rfl⟩<;>(intro q;cases q));exact⟨b,xs,e1,by rw[L2.aE n];exact e2,ae.upd ha m p e3⟩
 | .lst ds,v,h=>by
  rw[Rep]at h ⊢;obtain⟨b,xs,e1,e0,e2,e3⟩:=h;have n:b≠a:=fun z=>e0 (z▸p);exact⟨b,xs,e1,e0,by rw[L2.aE n];exact e2,ae.upd ha m p e3⟩
 | .dK ks ds,v,h=>by
  rw[Rep]at h ⊢;obtain⟨b,xs,e1,e0,e2,el,e3⟩:=h;have n:b≠a:=fun z=>e0 (z▸p);exact⟨b,xs,e1,e0,by rw[L2.aE n];exact e2,el,ae.upd ha m p e3⟩
 | .dT ks ds,v,h=>by
  rw[Rep]at h ⊢;obtain⟨b,xs,e1,e0,e2,el,e3⟩:=h;have n:b≠a:=fun z=>e0 (z▸p);exact⟨b,xs,e1,e0,by rw[L2.aE n];exact e2,el,ae.upd ha m p e3⟩
 | .scr ds,v,h=>by
  rw[Rep]at h ⊢;obtain⟨b,xs,e1,e2,e3⟩:=h;refine⟨b,xs,e1,?_,ae.upd ha m p e3⟩;rcases e2 with⟨q,e2⟩ | e2
  ·have n:b≠a:=hZ e2 ha (by rcases m with⟨z,rfl⟩ | ⟨z,rfl⟩ | ⟨z,rfl⟩<;>(intro q;cases q));exact .inl ⟨q,by rw[L2.aE n];exact e2⟩
  ·exact .inr e2
 | .exc c,v,h=>by
  rw[Rep]at h ⊢;refine h.keep fun b ob u q=>?_;have n:b≠a:=hZ q ha (by rcases m with⟨z,rfl⟩ | ⟨z,rfl⟩ | ⟨z,rfl⟩<;>(intro q;cases q));rw[L2.aE n];exact q
 | .fT ks ds,v,h=>by
  rw[Rep]at h ⊢;obtain⟨b,ob,xs,e1,e2,el,e3⟩:=h;have n:b≠a:=hZ e2 ha (by rcases m with⟨z,rfl⟩ | ⟨z,rfl⟩ | ⟨z,rfl⟩<;>(intro q;cases q));exact⟨b,ob,xs,e1,by rw[L2.aE n];exact e2,el,ae.upd ha m p e3⟩
 | .fL ds,v,h=>by
  rw[Rep]at h ⊢;obtain⟨b,ob,xs,e1,e2,e3⟩:=h;have n:b≠a:=hZ e2 ha (by rcases m with⟨z,rfl⟩ | ⟨z,rfl⟩ | ⟨z,rfl⟩<;>(intro q;cases q));exact⟨b,ob,xs,e1,by rw[L2.aE n];exact e2,ae.upd ha m p e3⟩
theorem ae.upd{P:Addr->Prop}{K:PySem.W.Frag}{H:Hp}{a:Addr}{o o':HO}(ha:H a=some o)(m:bX o)(p:P a):∀ {ds:List RL.D} {xs:List V},ae P K H ds xs->ae P K (upd H a o') ds xs
 | [],xs,h=>by rw[ae]at h ⊢;exact h
 | d::r,xs,h=>by
  rw[ae]at h ⊢;obtain⟨x,t,e1,e2,e3⟩:=h;exact⟨x,t,e1,Rep.upd ha m p e2,ae.upd ha m p e3⟩
end
section lists
variable{K:PySem.W.Frag}
def ae.nil:ae P K H [] []:=by rw[ae]
def ae.cons{d:RL.D}{ds:List RL.D}{x:V}{xs:List V}(h:Rep P K H d x)(t:ae P K H ds xs):ae P K H (d::ds) (x::xs):=by rw[ae];exact⟨x,xs,rfl,h,t⟩
def ae.length:∀ {ds:List RL.D} {xs:List V},ae P K H ds xs->ds.length=xs.length
 | [],xs,h=>by rw[ae]at h;rw[h];rfl
 | d::r,xs,h=>by
  rw[ae]at h;obtain⟨x,t,rfl,_,e3⟩:=h;rw[List.length_cons,List.length_cons,ae.length e3]
def ae.append:∀ {ds es:List RL.D} {xs ys:List V},ae P K H ds xs->ae P K H es ys->ae P K H (ds++es) (xs++ys)
 | [],_,xs,_,h,k=>by rw[ae]at h;rw[h];exact k
 | d::r,_,xs,_,h,k=>by
  rw[ae]at h;obtain⟨x,t,rfl,e2,e3⟩:=h;exact ae.cons e2 (ae.append e3 k)
def ae.get:∀ {ds:List RL.D} {xs:List V} {i:Nat} {d:RL.D},ae P K H ds xs->ds[i]?=some d->∃ x,xs[i]?=some x/\Rep P K H d x
 | [],_,i,d,_,e=>by simp at e
 | d::r,xs,0,d',h,e=>by
  rw[ae]at h;obtain⟨x,t,rfl,e2,_⟩:=h;simp at e;subst e;exact⟨x,rfl,e2⟩
 | d::r,xs,i+1,d',h,e=>by
  rw[ae]at h;obtain⟨x,t,rfl,_,e3⟩:=h;obtain⟨y,h1,h2⟩:=ae.get (i:=i) e3 (by simpa using e);exact⟨y,by simpa using h1,h2⟩
def ae.set:∀ {ds:List RL.D} {xs:List V} (i:Nat) {d:RL.D} {x:V},ae P K H ds xs->Rep P K H d x->ae P K H (ds.set i d) (xs.set i x)
 | [],xs,_,_,_,h,_=>by rw[ae]at h;rw[h];exact ae.nil
 | d::r,xs,0,_,_,h,k=>by
  rw[ae]at h;obtain⟨x,t,rfl,_,e3⟩:=h;exact ae.cons k e3
 | d::r,xs,i+1,_,_,h,k=>by
  rw[ae]at h;obtain⟨x,t,rfl,e2,e3⟩:=h;exact ae.cons e2 (ae.set i e3 k)
def ae.take:∀ {ds:List RL.D} {xs:List V} (n:Nat),ae P K H ds xs->ae P K H (ds.take n) (xs.take n)
 | _,_,0,_=>by simpa using ae.nil
 | [],xs,n+1,h=>by rw[ae]at h;rw[h];simpa using ae.nil
 | d::r,xs,n+1,h=>by
  rw[ae]at h;obtain⟨x,t,rfl,e2,e3⟩:=h;exact ae.cons e2 (ae.take n e3)
def ae.drop:∀ {ds:List RL.D} {xs:List V} (n:Nat),ae P K H ds xs->ae P K H (ds.drop n) (xs.drop n)
 | _,_,0,h=>h
 | [],xs,n+1,h=>by rw[ae]at h;rw[h];simpa using ae.nil
 | d::r,xs,n+1,h=>by
  rw[ae]at h;obtain⟨x,t,rfl,_,e3⟩:=h;exact ae.drop n e3
def ae.rep(h:ae P K H ds xs):∀ n:Nat,ae P K H (List.replicate n ds).flatten (List.replicate n xs).flatten
 | 0=>ae.nil
 | n+1=>by
  rw[List.replicate_succ,List.replicate_succ,List.flatten_cons,List.flatten_cons];exact ae.append h (ae.rep h n)
end lists
abbrev RV0(K:PySem.W.Frag)(σD:RL.St)(σ:L2.St)(H:Hp):Prop:=σD.length<=σ.length/\∀ (i:Nat) (d:RL.D),σD[i]?=some (some d)->∃ v,σ[i]?=some (some v)/\Rep nP K H d v
def RV0.same{K:PySem.W.Frag}(h:RV0 K σD σ H)(e:ay H H'):RV0 K σD σ H':=⟨h.1,fun i d q=>by
 obtain⟨v,h1,h2⟩:=h.2 i d q
 exact⟨v,h1,h2.same e⟩⟩
abbrev gC:RL.D->Bool
 | .lst _=>true
 | .dK _ _=>true
 | .dT _ _=>true
 | _=>false
structure Res(K:PySem.W.Frag)(σD:RL.St)(σ:L2.St)(H:Hp)(e:RL.E)(d:RL.D)(v:V)(H':Hp):Prop where
 same:ay H H'
 rep:Rep nP K H' d v
 fresh:RL.a6 e=true->gC d=true->∀ a,v=.ref a->H a=none
 av:∀ M,RL.avE M e=true->∀ P:Addr->Prop,(∀ a,P a->H a≠none)->(∀ (j:Nat) (dj:RL.D) (vj:V),M.contains j=false->σD[j]?=some (some dj)->σ[j]?=some (some vj)->Rep P K H dj vj)->Rep P K H' d v
abbrev tE(K:PySem.W.Frag)(cl:RL.Cl)(e:RL.E):TE:=fun σ H Q=>∃ σD d,RV0 K σD σ H/\RL.ev cl σD e=some d/\∀ v H',Res K σD σ H e d v H'->Q v H'
abbrev SE(X:Cx)(cl:RL.Cl)(e:Expr)(e':RL.E):Prop:=PE X e (tE X.K cl e')
def PE.weak(h:PE X e t)(w:∀ σ H Q,t' σ H Q->t σ H Q):PE X e t':=fun pins s σ H Q I q=>h pins s σ H Q I (w σ H Q q)
abbrev tEs(K:PySem.W.Frag)(cl:RL.Cl)(es:RL.Es):TA:=fun σ H Q=>∃ σD ds,RV0 K σD σ H/\RL.evs cl σD es=some ds/\∀ vs H',ay H H'->ae nP K H' ds vs->Q vs H'
abbrev SEs(X:Cx)(cl:RL.Cl)(es:List Expr)(es':RL.Es):Prop:=PA X es (tEs X.K cl es')
section rules
variable{X:Cx}
def two{σD:RL.St}{σ:L2.St}{H:Hp}{x y:RL.D}{R:V->V->Hp->Prop}(rv:RV0 X.K σD σ H)(ea:RL.ev cl σD a'=some x)(eb:RL.ev cl σD b'=some y)
 (k:∀ v u H1 H2,ay H H1->ay H1 H2->Rep nP X.K H2 x v->Rep nP X.K H2 y u->Res X.K σD σ H a' x v H1->Res X.K σD σ H1 b' y u H2->R v u H2) :
  tE X.K cl a' σ H fun v H1=>tE X.K cl b' σ H1 fun u H2=>R v u H2 :=
 ⟨σD,x,rv,ea,fun v H1 r1=>⟨σD,y,rv.same r1.same,eb,fun u H2 r2=>k v u H1 H2 r1.same r2.same (r1.rep.same r2.same) r2.rep r1 r2⟩⟩
def bind_some(h:o.bind f=some y):∃ x,o=some x/\f x=some y:=by
 cases o with
 | none=>cases h
 | some x=>exact⟨x,rfl,h⟩
def map_some(h:o.map f=some y):∃ x,o=some x/\f x=y:=by
 cases o with
 | none=>cases h
 | some x=>exact⟨x,rfl,Option.some.inj h⟩
def bI:RL.most<=sizeLine:=by decide
def ay.c8(hn:H p=none):ay H (upd H p o):=fun b u e=>by rw[aE (aJ e hn)];exact e
def vO(hN:X.N[i]?=some x)(hv:Vis X.env.scope x)(hd:(x == ("__debug__" : Str))=false)(hcd:(x == ("__classdict__" : Str))=false):SE X cl (.Name x pos) (.var i):=by
 refine PE.weak (fw hN hv hd hcd) fun σ H Q h=>?_;obtain⟨σD,d,rv,e,k⟩:=h
 have e':σD[i]?=some (some d):=by
  obtain⟨o,h1,h2⟩:=bind_some e
  cases o with
  | none=>cases h2
  | some z=>cases h2;exact h1
 obtain⟨v,h1,h2⟩:=rv.2 i d e';refine⟨v,h1,k v H ⟨ay.refl H,h2,fun z=>(by cases z),fun M z P hP av=>?_⟩⟩;rw[RL.xQ]at z;exact av i d v (by simpa using z) e' h1
def iS(h:PE X (.Constant k j pos) (tC v))(r:∀ P H,Rep P X.K H d v)(hm:gC d=false):SE X cl (.Constant k j pos) (.cst d):=by
 refine PE.weak h fun σ H Q q=>?_;obtain⟨σD,d',rv,e,k⟩:=q;cases e;exact k v H ⟨ay.refl H,r _ _,fun z=>(by cases z),fun M z=>nomatch (show false=true from z)⟩
def vf{x:Str}{i:Int}{u:Value}(h:PE X (.Name x pos) (tC (.int i))):SE X cl (.Name x pos) (.glb x i):=by
 refine PE.weak h fun σ H Q q=>?_;obtain⟨σD,d',rv,e,k⟩:=q;cases e;exact k _ H ⟨ay.refl H,(by rw[Rep]),fun z=>(by cases z),fun M z=>nomatch (show false=true from z)⟩
end rules
section rules
variable{X:Cx}
def bM(sm:ay H H')(r:Rep nP X.K H' d v)(im:d.imm=true):Res X.K σD σ H e d v H' where
 same:=sm
 rep:=r
 fresh:=fun _ m=>by
  cases d with
  | lst _=>cases im
  | dK _ _=>cases im
  | dT _ _=>cases im
  | _=>cases m
 av:=fun M _ P _ _=>r.imm im
def qk:OpR X (binaryOp .FloorDiv) (rI (fun _ j=>0<j/\j<2 ^ 200) fun i j=>.int (i / j)):=opI fun i j _ _ _ _ _ hc q=>by
 refine floordiv_int (by lia) ?_ (.inl (PyProof.noPylong_of_log2 ?_))
 ·rw[Int.fdiv_eq_ediv_of_nonneg _ (by lia)];exact q
 ·have h0:j.natAbs≠0:=by lia
  have h1:j.natAbs<2 ^ 200:=by
   have:=hc.2;omega
  have h2:j.natAbs.log2<200:=(Nat.log2_lt h0).mpr h1;lia
def cm(sm:ay H H1)(hn:H1 p=none)(r:ae nP X.K H1 ds xs)(hav:∀ M,RL.avE M e=false):Res X.K σD σ H e (.lst ds) (.ref p) (upd H1 p (.lst xs)) where
 same:=sm.trans (ay.c8 hn)
 rep:=by
  rw[Rep];exact⟨p,xs,rfl,fun z=>z,aV,r.same (ay.c8 hn)⟩
 fresh:=fun _ _ a z=>by
  cases z;exact sm.free hn
 av:=fun M z=>by rw[hav M]at z;cases z
def du(sm:ay H H1)(hn:H1 p=none)(r:ae nP X.K H1 ds xs)(hav:∀ M,RL.avE M e=false):Res X.K σD σ H e (.tup ds) (.ref p) (upd H1 p (.tup xs)) where
 same:=sm.trans (ay.c8 hn)
 rep:=by
  rw[Rep];exact⟨p,xs,rfl,aV,r.same (ay.c8 hn)⟩
 fresh:=fun _ m=>by cases m
 av:=fun M z=>by rw[hav M]at z;cases z
abbrev lN:RL.Bop->Operator
 | .add=>.Add
 | .sub=>.Sub
 | .mul=>.Mult
 | .fdiv=>.FloorDiv
 | .mod=>.Mod
 | .pow=>.Pow
def aK{P:Addr->Prop}{K:PySem.W.Frag}:Rep P K H (.int i) (.int i):=by rw[Rep]
def pf{P:Addr->Prop}{K:PySem.W.Frag}:Rep P K H (.bl i) (.bl i):=by rw[Rep]
def f9{P:Addr->Prop}{K:PySem.W.Frag}:Rep P K H (.str i) (.str i):=by rw[Rep]
def aj{P:Addr->Prop}{K:PySem.W.Frag}(h:Rep P K H (.int i) v):v=.int i:=by rw[Rep]at h;exact h
def aN{P:Addr->Prop}{K:PySem.W.Frag}(h:Rep P K H (.bl i) v):v=.bl i:=by rw[Rep]at h;exact h
def aB{P:Addr->Prop}{K:PySem.W.Frag}(h:Rep P K H (.str i) v):v=.str i:=by rw[Rep]at h;exact h
abbrev jd(X:Cx)(o:RL.Bop)(r:R2):Prop :=
 ∀ (σD:RL.St) (σ:L2.St) (H H2:Hp) (e:RL.E) (x y d:RL.D) (v u:V) (Q:VK),ay H H2->Rep nP X.K H2 x v->Rep nP X.K H2 y u->RL.aI o x y=some d->(∀ M,RL.avE M e=false) ->
  (∀ w H',Res X.K σD σ H e d w H'->Q w H')->r v u H2 Q
def ef(ho:OpR X (binaryOp (lN o)) r)(ok:jd X o r)(ha:SE X cl a a')(hb:SE X cl b b'):SE X cl (.BinOp a (lN o) b pos) (.bin o a' b'):=by
 refine PE.weak (yx ho ha hb) fun σ H Q h=>?_;obtain⟨σD,d,rv,e,k⟩:=h;obtain⟨x,ea,e⟩:=bind_some e;obtain⟨y,eb,e⟩:=bind_some e;refine two rv ea eb fun v u H1 H2 s1 s2 rx ry _ _=>?_;exact ok σD σ H H2 _ x y d v u Q (s1.trans s2) rx ry e (fun _=>rfl) k
end rules
section rules
variable{X:Cx}{cl:RL.Cl}{a b c:Expr}{a' b' c':RL.E}{pos:Pos}
def bz{α:Type}{c:Prop} [Decidable c]{a d:α}(h:(if c then some a else none)=some d):c/\d=a:=by
 by_cases hc:c
 ·rw[if_pos hc]at h;exact⟨hc,(Option.some.inj h).symm⟩
 ·rw[if_neg hc]at h;cases h
def noN{α:Type}{o:Option α}{d:α}{p:Prop}(e:o=none)(h:o=some d):p:=by rw[e]at h;cases h
def qA{x y d:RL.D}(h:RL.aI .add x y=some d):(∃ i j,x=.int i/\y=.int j/\d=.int (i+j))\/(∃ i j:Str,x=.str i/\y=.str j/\i.length+j.length<=RL.most/\d=.str (i++j)) \/
  (∃ i j,x=.lst i/\y=.lst j/\i.length+j.length<=RL.most/\d=.lst (i++j)) \/
  (∃ i j,x=.tup i/\y=.tup j/\(i.length+j.length<=RL.most/\0<i.length)/\d=.tup (i++j)):=by
 cases x with
 | int i=>cases y with
  | int j=>cases h;exact .inl ⟨i,j,rfl,rfl,rfl⟩
  | _=>exact noN rfl h
 | str i=>cases y with
  |str j=>
   obtain⟨hc,e⟩:=bz h;exact .inr (.inl ⟨i,j,rfl,rfl,hc,e⟩)
  | _=>exact noN rfl h
 | lst i=>cases y with
  |lst j=>
   obtain⟨hc,e⟩:=bz h;exact .inr (.inr (.inl ⟨i,j,rfl,rfl,hc,e⟩))
  | _=>exact noN rfl h
 | tup i=>cases y with
  |tup j=>
   obtain⟨hc,e⟩:=bz h;exact .inr (.inr (.inr ⟨i,j,rfl,rfl,hc,e⟩))
  | _=>exact noN rfl h
 | _=>exact noN rfl h
def qV{x y d:RL.D}(h:RL.aI .mul x y=some d):(∃ i j,x=.int i/\y=.int j/\oa i j/\d=.int (i*j)) \/
  (∃ i j,x=.lst i/\y=.int j/\(0<=j/\j<=RL.most/\i.length*j.toNat<=RL.most)/\d=.lst (List.replicate j.toNat i).flatten):=by
 cases x with
 | int i=>cases y with
  |int j=>
   obtain⟨hc,e⟩:=bz h;exact .inl ⟨i,j,rfl,rfl,hc,e⟩
  | _=>exact noN rfl h
 | lst i=>cases y with
  |int j=>
   obtain⟨hc,e⟩:=bz h;exact .inr ⟨i,j,rfl,rfl,hc,e⟩
  | _=>exact noN rfl h
 | _=>exact noN rfl h
def eO{o:RL.Bop}{x y d:RL.D}(h:RL.aI o x y=some d)(ho:o≠.add)(hm:o≠.mul):∃ i j,x=.int i/\y=.int j/\RL.aI o (.int i) (.int j)=some d:=by
 have no:∀ {a b:RL.D},RL.aI .sub a b=none->RL.aI .fdiv a b=none->RL.aI .mod a b=none->RL.aI .pow a b=none->RL.aI o a b=some d->False:=fun e1 e2 e3 e4 h=>by
  cases o with
  | add=>exact ho rfl
  | mul=>exact hm rfl
  | sub=>rw[e1]at h;cases h
  | fdiv=>rw[e2]at h;cases h
  | mod=>rw[e3]at h;cases h
  | pow=>rw[e4]at h;cases h
 cases x with
 | int i=>cases y with
  | int j=>exact⟨i,j,rfl,rfl,h⟩
  | _=>exact(no rfl rfl rfl rfl h).elim
 | _=>exact(no rfl rfl rfl rfl h).elim
def rq{x y d:RL.D}(h:RL.aI .sub x y=some d):∃ i j,x=.int i/\y=.int j/\d=.int (i-j):=by
 obtain⟨i,j,e1,e2,h⟩:=eO h (by decide) (by decide);cases h;exact⟨i,j,e1,e2,rfl⟩
def p4{x y d:RL.D}(h:RL.aI .fdiv x y=some d):∃ i j,x=.int i/\y=.int j/\(0<j/\j<2 ^ 200)/\d=.int (i / j):=by
 obtain⟨i,j,e1,e2,h⟩:=eO h (by decide) (by decide);obtain⟨hc,e⟩:=bz h;exact⟨i,j,e1,e2,hc,e⟩
def qN{x y d:RL.D}(h:RL.aI .mod x y=some d):∃ i j,x=.int i/\y=.int j/\0<j/\d=.int (i%j):=by
 obtain⟨i,j,e1,e2,h⟩:=eO h (by decide) (by decide);obtain⟨hc,e⟩:=bz h;exact⟨i,j,e1,e2,hc,e⟩
def ql{x y d:RL.D}(h:RL.aI .pow x y=some d):∃ i j,x=.int i/\y=.int j/\(0<=j/\j<=1000/\i.natAbs<2 ^ 64)/\d=.int (i ^ j.toNat):=by
 obtain⟨i,j,e1,e2,h⟩:=eO h (by decide) (by decide);obtain⟨hc,e⟩:=bz h;exact⟨i,j,e1,e2,hc,e⟩
def aC{P:Addr->Prop}{K:PySem.W.Frag}{H:Hp}{ds:List RL.D}{v:V}(h:Rep P K H (.lst ds) v):∃ a xs,v=.ref a/\¬ P a/\H a=some (.lst xs)/\ae P K H ds xs:=by rw[Rep]at h;exact h
def aQ{P:Addr->Prop}{K:PySem.W.Frag}{H:Hp}{ds:List RL.D}{v:V}(h:Rep P K H (.tup ds) v):∃ a xs,v=.ref a/\H a=some (.tup xs)/\ae P K H ds xs:=by rw[Rep]at h;exact h
def xb:jd X .sub (rI0 fun i j=>.int (i-j)):=by
 intro σD σ H H2 e x y d v u Q sm rx ry h hav k;obtain⟨i,j,rfl,rfl,rfl⟩:=rq h;exact⟨i,j,aj rx,aj ry,k _ _ (bM sm aK rfl)⟩
def uG:jd X .fdiv (rI (fun _ j=>0<j/\j<2 ^ 200) fun i j=>.int (i / j)):=by
 intro σD σ H H2 e x y d v u Q sm rx ry h hav k;obtain⟨i,j,rfl,rfl,hc,rfl⟩:=p4 h;exact⟨i,j,aj rx,aj ry,hc,k _ _ (bM sm aK rfl)⟩
def xX:jd X .mod (rI (fun _ j=>0<j) fun i j=>.int (i%j)):=by
 intro σD σ H H2 e x y d v u Q sm rx ry h hav k;obtain⟨i,j,rfl,rfl,hc,rfl⟩:=qN h;exact⟨i,j,aj rx,aj ry,hc,k _ _ (bM sm aK rfl)⟩
def xt:jd X .pow (rI wQ fun i j=>.int (i ^ j.toNat)):=by
 intro σD σ H H2 e x y d v u Q sm rx ry h hav k;obtain⟨i,j,rfl,rfl,hc,rfl⟩:=ql h;exact⟨i,j,aj rx,aj ry,⟨hc.1,Int.le_trans hc.2.1 (by decide),hc.2.2⟩,k _ _ (bM sm aK rfl)⟩
def vU(ha:SE X cl a a')(hb:SE X cl b b'):SE X cl (.BinOp a .Add b pos) (.bin .add a' b'):=by
 refine ef (o:=.add) (ve.or (nV.or (xE.or u7))) ?_ ha hb;intro σD σ H H2 e x y d v u Q sm rx ry h hav k
 rcases qA h with⟨i,j,rfl,rfl,rfl⟩ | ⟨i,j,rfl,rfl,hc,rfl⟩ | ⟨i,j,rfl,rfl,hc,rfl⟩ | ⟨i,j,rfl,rfl,⟨hc,ha⟩,rfl⟩
 ·exact .inl ⟨i,j,aj rx,aj ry,k _ _ (bM sm aK rfl)⟩
 ·exact .inr (.inl ⟨i,j,aB rx,aB ry,Nat.le_trans hc bI,k _ _ (bM sm f9 rfl)⟩)
 ·obtain⟨p,xs,e1,_,e2,e3⟩:=aC rx;obtain⟨q,ys,f1,_,f2,f3⟩:=aC ry;refine .inr (.inr (.inl ⟨p,q,xs,ys,e1,f1,e2,f2,?_,fun l hl=>k _ _ (cm sm hl (e3.append f3) hav)⟩));rw[<-e3.length,<-f3.length];exact Nat.le_trans hc bI
 ·obtain⟨p,xs,e1,e2,e3⟩:=aQ rx;obtain⟨q,ys,f1,f2,f3⟩:=aQ ry;refine .inr (.inr (.inr ⟨p,q,xs,ys,e1,f1,SqT.of e2,SqT.of f2,fun z=>?_,?_,fun z=>?_,fun _ l hl=>k _ _ (du sm hl (e3.append f3) hav)⟩))
  ·rw[e3.length,z]at ha;exact absurd ha (by decide)
  ·rw[<-e3.length,<-f3.length];exact Nat.le_trans hc bI
  ·have hj:j=[]:=by
    have:=f3.length;rw[z]at this;exact List.length_eq_zero_iff.mp this
   subst hj;rw[List.append_nil]at k;exact k _ _ ⟨sm,e1▸rx,fun _ m=>(by cases m),fun M z=>by rw[hav M]at z;cases z⟩
def vp(ha:SE X cl a a')(hb:SE X cl b b'):SE X cl (.BinOp a .Mult b pos) (.bin .mul a' b'):=by
 refine ef (o:=.mul) (x8.or wg) ?_ ha hb;intro σD σ H H2 e x y d v u Q sm rx ry h hav k
 rcases qV h with⟨i,j,rfl,rfl,hc,rfl⟩ | ⟨i,j,rfl,rfl,hc,rfl⟩
 ·exact .inl ⟨i,j,aj rx,aj ry,hc,k _ _ (bM sm aK rfl)⟩
 ·obtain⟨p,xs,e1,_,e2,e3⟩:=aC rx;refine .inr ⟨p,j,xs,e1,aj ry,e2,?_,?_,?_,fun l hl=>k _ _ (cm sm hl (e3.rep _) hav)⟩
  ·exact Int.le_trans (by decide) hc.1
  ·exact Int.lt_of_le_of_lt hc.2.1 (by decide)
  ·rw[<-e3.length];exact Nat.le_trans hc.2.2 bI
def xK{o:RL.Bop}(ha:SE X cl a a')(hb:SE X cl b b'):SE X cl (.BinOp a (lN o) b pos) (.bin o a' b'):=by
 cases o with
 | add=>exact vU ha hb
 | mul=>exact vp ha hb
 | sub=>exact ef (o:=.sub) v7 xb ha hb
 | fdiv=>exact ef (o:=.fdiv) qk uG ha hb
 | mod=>exact ef (o:=.mod) vw xX ha hb
 | pow=>exact ef (o:=.pow) vA xt ha hb
def c6{σD:RL.St}{σ:L2.St}{H H':Hp}{e:RL.E}{k:Bool}(sm:ay H H'):Res X.K σD σ H e (.bl k) (.bl k) H':=bM sm pf rfl
def vK{rest:List Expr}(ha:SE X cl a a')(hb:SE X cl (.BoolOp .And (b::rest) pos) b'):SE X cl (.BoolOp .And (a::b::rest) pos) (.and a' b'):=by
 refine PE.weak (x9 ha hb) fun σ H Q h=>?_;obtain⟨σD,d,rv,e,k⟩:=h;obtain⟨x,ea,e⟩:=bind_some e;refine⟨σD,x,rv,ea,fun v H1 r1=>?_⟩
 cases x with
 |bl t=>
  refine⟨t,aN r1.rep,?_⟩
  cases t with
  |true=>
   refine e8 ?_;refine⟨σD,d,rv.same r1.same,e,fun w H2 r2=>k w H2 ?_⟩;exact⟨r1.same.trans r2.same,r2.rep,fun z=>(by cases z),fun M z=>nomatch (show false=true from z)⟩
  |false=>
   refine fb ?_;cases e;exact k _ _ (c6 r1.same)
 | _=>cases e
def yt{rest:List Expr}(ha:SE X cl a a')(hb:SE X cl (.BoolOp .Or (b::rest) pos) b'):SE X cl (.BoolOp .Or (a::b::rest) pos) (.or a' b'):=by
 refine PE.weak (yh ha hb) fun σ H Q h=>?_;obtain⟨σD,d,rv,e,k⟩:=h;obtain⟨x,ea,e⟩:=bind_some e;refine⟨σD,x,rv,ea,fun v H1 r1=>?_⟩
 cases x with
 |bl t=>
  refine⟨t,aN r1.rep,?_⟩
  cases t with
  |false=>
   refine fb ?_;refine⟨σD,d,rv.same r1.same,e,fun w H2 r2=>k w H2 ?_⟩;exact⟨r1.same.trans r2.same,r2.rep,fun z=>(by cases z),fun M z=>nomatch (show false=true from z)⟩
  |true=>
   refine e8 ?_;cases e;exact k _ _ (c6 r1.same)
 | _=>cases e
def oU{op}(ha:SE X cl a a'):SE X cl (.BoolOp op [a] pos) a':=xJ ha
abbrev tT(K:PySem.W.Frag)(cl:RL.Cl)(e:RL.E):TT:=fun σ H Q=>∃ σD k,RV0 K σD σ H/\(RL.ev cl σD e).bind RL.truth=some k/\∀ H',ay H H'->Q k H'
abbrev ST(X:Cx)(cl:RL.Cl)(e:Expr)(e':RL.E):Prop:=PT X e (tT X.K cl e')
abbrev SW(X:Cx)(cl:RL.Cl)(e:Expr)(e':RL.E):Prop:=PW X e (tT X.K cl e')
def PT.weak{e:Expr}{t t':TT}(h:PT X e t)(w:∀ σ H Q,t' σ H Q->t σ H Q):PT X e t':=fun pins s σ H Q I q=>h pins s σ H Q I (w σ H Q q)
def PW.weak{e:Expr}{t t':TT}(h:PW X e t)(w:∀ σ H Q,t' σ H Q->t σ H Q):PW X e t':=fun wh pins s σ H Q I q=>h wh pins s σ H Q I (w σ H Q q)
def ae.isEmpty{P:Addr->Prop}{K:PySem.W.Frag}{H:Hp}{ds:List RL.D}{xs:List V}(h:ae P K H ds xs):ds.isEmpty=xs.isEmpty:=by
 cases ds with
 | nil=>rw[ae]at h;rw[h];rfl
 |cons d r=>
  rw[ae]at h;obtain⟨x,t,rfl,_⟩:=h;rfl
def wK{K:PySem.W.Frag}{H:Hp}{d:RL.D}{v:V}{k:Bool}(r:Rep nP K H d v)(h:RL.truth d=some k):nY K v H k:=by
 cases d<;>simp only[RL.truth]at h<;>first | (cases h;done) | skip
 case bl t=>cases h;rw[aN r];exact rfl
 case int t =>
  cases h;rw[aj r];simp[nY]
 case tup ds =>
  obtain⟨a,xs,rfl,e,rs⟩:=aQ r;cases h;exact .inr (.inl ⟨xs,SqT.of e,by rw[rs.isEmpty]⟩)
 case lst ds =>
  obtain⟨a,xs,rfl,_,e,rs⟩:=aC r;cases h;exact .inl ⟨xs,SqL.of e,by rw[rs.isEmpty]⟩
def rh(ha:SE X cl a a')(he:∀ whole,isTrue a X.env whole=(do let v <- whole;standAt a.pos;holding [v] (truthy v))):ST X cl a a':=by
 refine PT.weak (rN ha he) fun σ H Q h=>?_;obtain⟨σD,k,rv,e,q⟩:=h;obtain⟨d,e1,e2⟩:=bind_some e;exact⟨σD,d,rv,e1,fun v H1 r1=>⟨k,wK r1.rep e2,q H1 r1.same⟩⟩
def oG{op:BoolOp}(ha:ST X cl a a'):SW X cl (.BoolOp op [a] pos) a':=by
 cases op with
 | And=>exact uk ha
 | Or=>exact xP ha
def oM{σD:RL.St}{k:Bool}(h:(RL.ev cl σD (.and a' b')).bind RL.truth=some k):∃ t,(RL.ev cl σD a').bind RL.truth=some t/\(if t=true then(RL.ev cl σD b').bind RL.truth=some k else k=false):=by
 rw[RL.eU]at h
 cases ea:RL.ev cl σD a' with
 | none=>rw[ea]at h;cases h
 |some x=>
  rw[ea]at h
  cases x with
  |bl t=>
   cases t with
   | true=>exact⟨true,rfl,e8 h⟩
   | false=>exact⟨false,rfl,fb (by cases h;rfl)⟩
  | _=>exact noN rfl h
def qS{σD:RL.St}{k:Bool}(h:(RL.ev cl σD (.or a' b')).bind RL.truth=some k):∃ t,(RL.ev cl σD a').bind RL.truth=some t/\(if t=true then k=true else(RL.ev cl σD b').bind RL.truth=some k):=by
 rw[RL.sj]at h
 cases ea:RL.ev cl σD a' with
 | none=>rw[ea]at h;cases h
 |some x=>
  rw[ea]at h
  cases x with
  |bl t=>
   cases t with
   | true=>exact⟨true,rfl,e8 (by cases h;rfl)⟩
   | false=>exact⟨false,rfl,fb h⟩
  | _=>exact noN rfl h
def vF{rest:List Expr}(ha:ST X cl a a')(hb:SW X cl (.BoolOp .And (b::rest) pos) b'):SW X cl (.BoolOp .And (a::b::rest) pos) (.and a' b'):=by
 refine PW.weak (xN ha hb) fun σ H Q h=>?_;obtain⟨σD,k,rv,e,q⟩:=h;obtain⟨t,e1,e2⟩:=oM e;refine⟨σD,t,rv,e1,fun H1 s1=>?_⟩
 cases t with
 | true=>exact e8 ⟨σD,k,rv.same s1,e2,fun H2 s2=>q H2 (s1.trans s2)⟩
 |false=>
  have e2:k=false:=e2;subst e2;exact fb (q H1 s1)
def yn{rest:List Expr}(ha:ST X cl a a')(hb:SW X cl (.BoolOp .Or (b::rest) pos) b'):SW X cl (.BoolOp .Or (a::b::rest) pos) (.or a' b'):=by
 refine PW.weak (yV ha hb) fun σ H Q h=>?_;obtain⟨σD,k,rv,e,q⟩:=h;obtain⟨t,e1,e2⟩:=qS e;refine⟨σD,t,rv,e1,fun H1 s1=>?_⟩
 cases t with
 |true=>
  have e2:k=true:=e2;subst e2;exact e8 (q H1 s1)
 | false=>exact fb ⟨σD,k,rv.same s1,e2,fun H2 s2=>q H2 (s1.trans s2)⟩
def wZ(ha:ST X cl a a'):ST X cl (.UnaryOp .Not a pos) (.not a'):=by
 refine PT.weak (xW ha) fun σ H Q h=>?_;obtain⟨σD,k,rv,e,q⟩:=h;obtain⟨d,e1,e2⟩:=bind_some e;obtain⟨t,e3,e4⟩:=map_some e1;subst e4;cases e2;exact⟨σD,t,rv,e3,fun H1 s1=>q H1 s1⟩
end rules
section rules
variable{X:Cx}
def we(ha:SE X cl a a'):SE X cl (.UnaryOp .Not a pos) (.not a'):=by
 intro pins s σ H Q I h;obtain⟨σD,d,rv,e,k⟩:=h;obtain⟨t,e1,e2⟩:=map_some e;obtain⟨x,e3,e4⟩:=bind_some e1;subst e2;refine UnaryOp_ (thn (ha pins s σ H (fun v H1=>ay H H1/\Rep nP X.K H1 x v) I ⟨σD,x,rv,e3,fun v H1 r1=>⟨r1.same,r1.rep⟩⟩) fun v s1 ⟨y,H1,I1,r1,sm,rp⟩=>?_);refine not_of (thn (oA pins s1 σ H1 y v (fun k H2=>k=t/\H2=H1) I1 r1 ⟨t,wK rp e4,rfl,rfl⟩) fun k2 s2 ⟨H2,I2,q1,q2⟩=>?_);subst q1;subst q2;exact⟨.bl (!k2),H2,I2,rfl,k _ _ (c6 sm)⟩
abbrev noStar:Expr->Bool
 | .Starred _ _=>false
 | _=>true
def a7(es:List Expr)(h:noStar e=true):starEach (e::es) X.env=(false,eval e X.env)::starEach es X.env:=by
 cases e<;>first | rfl | (cases h)
def cg:∀ {es:List Expr} {pos:Pos},es.all noStar=true->(backTo pos (starEach es X.env)).any (·.1)=false
 | [],_,_=>rfl
 | e::es,pos,h=>by
  rw[List.all_cons,Bool.and_eq_true]at h;rw[a7 es h.1];show(false || (backTo pos (starEach es X.env)).any (·.1))=false;rw[cg h.2];rfl
def bW:SEs X cl [] .nil:=by
 intro pos pins s σ H Q I h;obtain⟨σD,ds,rv,e,k⟩:=h;cases e;exact da pos pins s σ H Q I (k [] H (ay.refl H) ae.nil)
def bc(he:SE X cl e e')(hr:SEs X cl es es')(hn:noStar e=true):SEs X cl (e::es) (.cons e' es'):=by
 intro pos pins s σ H Q I h;refine bK he hr (a7 es hn) pos pins s σ H Q I ?_;obtain⟨σD,ds,rv,e,k⟩:=h;obtain⟨d,e1,e2⟩:=bind_some e;obtain⟨r,e3,e4⟩:=map_some e2;subst e4;refine⟨σD,d,rv,e1,fun v H1 r1=>⟨σD,r,rv.same r1.same,e3,fun vs H2 s2 r2=>k (v::vs) H2 (r1.same.trans s2) (ae.cons (r1.rep.same s2) r2)⟩⟩
abbrev cZ:RL.Es->Nat
 | .nil=>0
 | .cons _ r=>cZ r+1
def iw:∀ {es:RL.Es} {ds:List RL.D},RL.evs cl σD es=some ds->ds.length=cZ es
 | .nil,ds,h=>by rw[RL.evs]at h;cases h;rfl
 | .cons e r,ds,h=>by
  obtain⟨d,e1,e2⟩:=bind_some h;obtain⟨t,e3,e4⟩:=map_some e2;subst e4;rw[List.length_cons,iw e3,cZ]
def wt(h:SEs X cl es es')(hl:cZ es'<=1000):SE X cl (.Tuple es x1 pos) (.tup es'):=by
 refine PE.weak (xM h) fun σ H Q q=>?_;obtain⟨σD,d,rv,e,k⟩:=q;obtain⟨ds,e1,e2⟩:=map_some e;subst e2;refine⟨σD,ds,rv,e1,fun vs H1 s1 r1=>⟨?_,fun p hp=>k _ _ (du s1 hp r1 fun _=>rfl)⟩⟩;rw[<-r1.length,iw e1];exact Nat.le_of_lt (jZ hl)
def vD(h:SEs X cl es es')(hl:cZ es'<=1000):SE X cl (.List es pos) (.lst es'):=by
 refine PE.weak (xx h) fun σ H Q q=>?_;obtain⟨σD,d,rv,e,k⟩:=q;obtain⟨ds,e1,e2⟩:=map_some e;subst e2;refine⟨σD,ds,rv,e1,fun vs H1 s1 r1=>⟨?_,fun p hp=>k _ _ (cm s1 hp r1 fun _=>rfl)⟩⟩;rw[<-r1.length,iw e1];exact Nat.le_of_lt (jZ hl)
def gG(h:RL.bq xs i=some x):atI xs i=some x:=by
 unfold RL.bq at h;unfold atI ixN;by_cases h0:0<=i
 ·rw[if_pos h0]at h;rw[if_pos h0];obtain⟨h1,_⟩:=List.getElem?_eq_some_iff.mp h;rw[if_pos (by lia)];exact h
 ·rw[if_neg h0]at h;rw[if_neg h0];by_cases h1:-(xs.length:Int)<=i
  ·rw[if_pos h1]at h;rw[if_pos h1];exact h
  ·rw[if_neg h1]at h;cases h
def dG{P:Addr->Prop}{K:PySem.W.Frag}(r:ae P K H ds xs)(h:RL.bq ds i=some d):∃ x,RL.bq xs i=some x/\Rep P K H d x:=by
 unfold RL.bq at h ⊢;rw[<-r.length];by_cases h0:0<=i
 ·rw[if_pos h0]at h ⊢;exact r.get h
 ·rw[if_neg h0]at h ⊢;by_cases h1:-(ds.length:Int)<=i
  ·rw[if_pos h1]at h ⊢;exact r.get h
  ·rw[if_neg h1]at h;cases h
abbrev iB:Expr->Bool
 | .Slice _ _ _ _=>false
 | _=>true
def u5(h:iB b=true):mE b:=by
 intro o i
 cases b<;>first | rfl | (cases h)
def qv{xs:List RL.D}{i:Int}(im:RL.ao xs=true)(h:RL.bq xs i=some d):d.imm=true:=by
 have mem:d∈xs:=by
  unfold RL.bq at h;split at h
  ·exact List.mem_of_getElem? h
  ·split at h
   ·exact List.mem_of_getElem? h
   ·cases h
 clear h
 induction xs with
 | nil=>cases mem
 |cons a r ih=>
  rw[RL.ao,Bool.and_eq_true]at im;rcases List.mem_cons.mp mem with rfl | m
  ·exact im.1
  ·exact ih im.2 m
def qc(h:RL.ixV x y=some d):(∃ xs i,x=.lst xs/\y=.int i/\RL.bq xs i=some d)\/(∃ xs i,x=.tup xs/\y=.int i/\RL.bq xs i=some d) \/
  (∃ (z:Str) (i:Int) (c:Nat),x=.str z/\y=.int i/\z.length<=RL.most/\RL.bq z.cps.toList i=some c/\d=.str ⟨#[c]⟩)\/(∃ xs i,x=.fL xs/\y=.int i/\RL.ao xs=true/\RL.bq xs i=some d):=by
 have no:∀ {o:Option RL.D},o=none->o=some d->False:=fun e h=>by rw[e]at h;cases h
 cases x with
 | lst xs=>cases y with
  | int i=>exact .inl ⟨xs,i,rfl,rfl,h⟩
  | _=>exact(no rfl h).elim
 | tup xs=>cases y with
  | int i=>exact .inr (.inl ⟨xs,i,rfl,rfl,h⟩)
  | _=>exact(no rfl h).elim
 | str z=>cases y with
  |int i=>
   by_cases hc:z.length<=RL.most
   ·obtain⟨c,e1,e2⟩:=map_some (show(RL.bq z.cps.toList i).map (fun c=>RL.D.str ⟨#[c]⟩)=some d from(if_pos hc).symm.trans h);exact .inr (.inr (.inl ⟨z,i,c,rfl,rfl,hc,e1,e2.symm⟩))
   ·exact(no (if_neg hc) h).elim
  | _=>exact(no rfl h).elim
 | fL xs=>cases y with
  |int i=>
   by_cases hc:RL.ao xs=true
   ·exact .inr (.inr (.inr ⟨xs,i,rfl,rfl,hc,(if_pos hc).symm.trans h⟩))
   ·exact(no (if_neg hc) h).elim
  | _=>exact(no rfl h).elim
 | _=>exact(no rfl h).elim
def yH(ha:SE X cl a a')(hb:SE X cl b b')(hs:iB b=true):SE X cl (.Subscript a b pos) (.ix a' b'):=by
 refine PE.weak (yj xB ha hb (u5 hs)) fun σ H Q h=>?_;obtain⟨σD,d,rv,e,k⟩:=h;obtain⟨x,ea,e⟩:=bind_some e;obtain⟨y,eb,e⟩:=bind_some e;refine two rv ea eb fun v u H1 H2 s1 s2 rx ry ra rb=>?_
 have fin:∀ (w:V),Rep nP X.K H2 d w->(∀ P:Addr->Prop,Rep P X.K H2 x v->Rep P X.K H2 d w)->Res X.K σD σ H (.ix a' b') d w H2:=fun w h1 h2=>{
  same:=s1.trans s2
  rep:=h1
  fresh:=fun z=>by cases z
  av:=fun M z P hP av=>h2 P ((ra.av M z P hP av).same s2) }
 rcases qc e with⟨xs,i,rfl,rfl,hd⟩ | ⟨xs,i,rfl,rfl,hd⟩ | ⟨z,i,c,rfl,rfl,hz,hd,rfl⟩ | ⟨xs,i,rfl,rfl,im,hd⟩
 ·obtain⟨p,ys,rfl,_,e2,e3⟩:=aC rx;obtain⟨w,h1,h2⟩:=dG e3 hd;refine .inl ⟨p,ys,i,w,rfl,aj ry,SqL.of e2,gG h1,k _ _ (fin w h2 fun P rp=>?_)⟩;obtain⟨p',ys',q1,_,q2,q3⟩:=aC rp;cases q1;rw[e2]at q2;cases q2;obtain⟨w',h3,h4⟩:=dG q3 hd;rw[h1]at h3;cases h3;exact h4
 ·obtain⟨p,ys,rfl,e2,e3⟩:=aQ rx;obtain⟨w,h1,h2⟩:=dG e3 hd;refine .inr (.inl ⟨p,ys,i,w,rfl,aj ry,SqT.of e2,gG h1,k _ _ (fin w h2 fun P rp=>?_)⟩);obtain⟨p',ys',q1,q2,q3⟩:=aQ rp;cases q1;rw[e2]at q2;cases q2;obtain⟨w',h3,h4⟩:=dG q3 hd;rw[h1]at h3;cases h3;exact h4
 ·exact .inr (.inr ⟨z,i,c,aB rx,aj ry,Nat.le_trans hz bI,gG hd,k _ _ (fin _ f9 fun P _=>f9)⟩)
 ·rw[Rep]at rx;obtain⟨p,o,ys,rfl,e2,e3⟩:=rx;obtain⟨w,h1,h2⟩:=dG e3 hd;exact .inl ⟨p,ys,i,w,rfl,aj ry,.inl (.inr ⟨o,e2⟩),gG h1,k _ _ (bM (s1.trans s2) h2 (qv im hd))⟩
end rules
section rules
def eh:∀ {as bs:List RL.D} {k:Bool},RL.eqs f as bs=some k ->
  ∃ e:Nat->Bool,k=(List.range (min as.length bs.length)).all e/\∀ j x y,as[j]?=some x->bs[j]?=some y->f x y=some (e j)
 | [],bs,k,h=>by
  have h:some true=some k:=by simpa[RL.eqs]using h
  cases h;exact⟨fun _=>true,by simp,fun j x y h1=>by simp at h1⟩
 | a::r,[],k,h=>by
  have h:some true=some k:=by simpa[RL.eqs]using h
  cases h;exact⟨fun _=>true,by simp,fun j x y h1 h2=>by simp at h2⟩
 | a::r,b::s,k,h=>by
  rw[RL.eqs]at h;obtain⟨e0,h1,h2⟩:=bind_some h;obtain⟨k',h3,h4⟩:=map_some h2;obtain⟨e,h5,h6⟩:=eh h3;refine⟨fun j=>match j with | 0=>e0 | j+1=>e j,?_,fun j x y hx hy=>?_⟩
  ·rw[<-h4,h5,List.length_cons,List.length_cons,Nat.succ_min_succ,List.range_succ_eq_map,List.all_cons,List.all_map];rfl
  ·cases j with
   |zero=>
    simp at hx hy;subst hx hy;exact h1
   | succ j=>exact h6 j x y (by simpa using hx) (by simpa using hy)
def dB(h:RL.eqD n x y=some k):(∃ i j,x=.bl i/\y=.bl j/\(i == j)=k)\/(∃ i j,x=.int i/\y=.int j/\(i == j)=k)\/(∃ i j,x=.str i/\y=.str j/\(i == j)=k) \/
  (∃ m i j,n=m+1/\x=.tup i/\y=.tup j/\Option.map (fun k=>k&&i.length == j.length) (RL.eqs (RL.eqD m) i j)=some k)\/(∃ m i j,n=m+1/\x=.lst i/\y=.lst j/\Option.map (fun k=>k&&i.length == j.length) (RL.eqs (RL.eqD m) i j)=some k):=by
 cases n with
 | zero=>cases x with
  | bl i=>cases y with
   | bl j=>exact .inl ⟨i,j,rfl,rfl,Option.some.inj h⟩
   | _=>exact noN rfl h
  | int i=>cases y with
   | int j=>exact .inr (.inl ⟨i,j,rfl,rfl,Option.some.inj h⟩)
   | _=>exact noN rfl h
  | str i=>cases y with
   | str j=>exact .inr (.inr (.inl ⟨i,j,rfl,rfl,Option.some.inj h⟩))
   | _=>exact noN rfl h
  | _=>exact noN rfl h
 | succ m=>cases x with
  | bl i=>cases y with
   | bl j=>exact .inl ⟨i,j,rfl,rfl,Option.some.inj h⟩
   | _=>exact noN rfl h
  | int i=>cases y with
   | int j=>exact .inr (.inl ⟨i,j,rfl,rfl,Option.some.inj h⟩)
   | _=>exact noN rfl h
  | str i=>cases y with
   | str j=>exact .inr (.inr (.inl ⟨i,j,rfl,rfl,Option.some.inj h⟩))
   | _=>exact noN rfl h
  | tup i=>cases y with
   | tup j=>exact .inr (.inr (.inr (.inl ⟨m,i,j,rfl,rfl,rfl,h⟩)))
   | _=>exact noN rfl h
  | lst i=>cases y with
   | lst j=>exact .inr (.inr (.inr (.inr ⟨m,i,j,rfl,rfl,rfl,h⟩)))
   | _=>exact noN rfl h
  | _=>exact noN rfl h
def jY{K:PySem.W.Frag}:∀ (n:Nat) (x y:RL.D) (v:V) (k:Bool),Rep nP K H x v->Rep nP K H y v->RL.eqD n x y=some k->k=true:=by
 intro n
 induction n with
 |zero=>
  intro x y v k rx ry h
  rcases dB h with⟨i,j,rfl,rfl,rfl⟩ | ⟨i,j,rfl,rfl,rfl⟩ | ⟨i,j,rfl,rfl,rfl⟩ | ⟨m,i,j,hn,hx,hy,h⟩ | ⟨m,i,j,hn,hx,hy,h⟩
  ·have:=aN rx;rw[aN ry]at this;cases this;simp
  ·have:=aj rx;rw[aj ry]at this;cases this;simp
  ·have:=aB rx;rw[aB ry]at this;cases this;simp
  ·cases hn
  ·cases hn
 |succ n ih=>
  intro x y v k rx ry h
  have seq:∀ (i j:List RL.D) (xs:List V) (k:Bool),ae nP K H i xs->ae nP K H j xs->Option.map (fun k=>k&&i.length == j.length) (RL.eqs (RL.eqD n) i j)=some k->k=true:=by
   intro i j xs k e3 f3 h;obtain⟨k',h1,h2⟩:=map_some h;obtain⟨e,h3,h4⟩:=eh h1;have hl:i.length=j.length:=e3.length.trans f3.length.symm
   have hk:k'=true:=by
    rw[h3,List.all_eq_true];intro m hm;rw[List.mem_range]at hm;obtain⟨w,w1,w2⟩:=e3.get (i:=m) (d:=i[m]'(by lia)) (by simp);obtain⟨w',w1',w2'⟩:=f3.get (i:=m) (d:=j[m]'(by lia)) (by simp);rw[w1]at w1';cases w1';exact ih _ _ w (e m) w2 w2' (h4 m _ _ (by simp) (by simp))
   rw[<-h2,hk,hl];simp
  rcases dB h with⟨i,j,rfl,rfl,rfl⟩ | ⟨i,j,rfl,rfl,rfl⟩ | ⟨i,j,rfl,rfl,rfl⟩ | ⟨m,i,j,hn,hx,hy,h⟩ | ⟨m,i,j,hn,hx,hy,h⟩
  ·have:=aN rx;rw[aN ry]at this;cases this;simp
  ·have:=aj rx;rw[aj ry]at this;cases this;simp
  ·have:=aB rx;rw[aB ry]at this;cases this;simp
  ·cases hn;subst hx;subst hy;obtain⟨p,xs,rfl,e2,e3⟩:=aQ rx;obtain⟨q,ys,q1,f2,f3⟩:=aQ ry;cases q1;rw[e2]at f2;cases f2;exact seq i j xs k e3 f3 h
  ·cases hn;subst hx;subst hy;obtain⟨p,xs,rfl,_,e2,e3⟩:=aC rx;obtain⟨q,ys,q1,_,f2,f3⟩:=aC ry;cases q1;rw[e2]at f2;cases f2;exact seq i j xs k e3 f3 h
open SeqAt in
def deep(I:Inv X pins σ H s):∀ (n:Nat) (A:Around) (x y:RL.D) (v u:V) (va ua:Value) (k:Bool),A.units+n<cLine->Rep nP X.K H x v->Rep nP X.K H y u->RelV v va->RelV u ua ->
  RL.eqD n x y=some k->RcAt A s va ua k/\EqAt A s va ua k:=by
 intro n
 induction n with
 |zero=>
  intro A x y v u va ua k hu rx ry qx qy h
  rcases dB h with⟨i,j,rfl,rfl,rfl⟩ | ⟨i,j,rfl,rfl,rfl⟩ | ⟨i,j,rfl,rfl,rfl⟩ | ⟨m,i,j,hn,hx,hy,h⟩ | ⟨m,i,j,hn,hx,hy,h⟩
  ·rw[aN rx]at qx;rw[aN ry]at qy;cases qx;cases qy;exact⟨RcAt.bool_bool i j,EqAt.bool_bool i j⟩
  ·rw[aj rx]at qx;rw[aj ry]at qy;obtain⟨t,rfl⟩:=qx;obtain⟨t',rfl⟩:=qy;exact⟨RcAt.int_int i t j t',EqAt.int_int i t j t'⟩
  ·rw[aB rx]at qx;rw[aB ry]at qy;obtain⟨t,rfl⟩:=qx;obtain⟨t',rfl⟩:=qy;exact⟨RcAt.str_str i t j t',EqAt.str_str i t j t'⟩
  ·cases hn
  ·cases hn
 |succ n ih=>
  intro A x y v u va ua k hu rx ry qx qy h
  rcases dB h with⟨i,j,rfl,rfl,rfl⟩ | ⟨i,j,rfl,rfl,rfl⟩ | ⟨i,j,rfl,rfl,rfl⟩ | ⟨m,i,j,hn,hx,hy,h⟩ | ⟨m,i,j,hn,hx,hy,h⟩
  ·rw[aN rx]at qx;rw[aN ry]at qy;cases qx;cases qy;exact⟨RcAt.bool_bool i j,EqAt.bool_bool i j⟩
  ·rw[aj rx]at qx;rw[aj ry]at qy;obtain⟨t,rfl⟩:=qx;obtain⟨t',rfl⟩:=qy;exact⟨RcAt.int_int i t j t',EqAt.int_int i t j t'⟩
  ·rw[aB rx]at qx;rw[aB ry]at qy;obtain⟨t,rfl⟩:=qx;obtain⟨t',rfl⟩:=qy;exact⟨RcAt.str_str i t j t',EqAt.str_str i t j t'⟩
  ·cases hn;subst hx;subst hy;obtain⟨p,xs,rfl,e2,e3⟩:=aQ rx;obtain⟨q,ys,rfl,f2,f3⟩:=aQ ry;cases qx;cases qy;obtain⟨its,r1,t1,z1⟩:=I.tuple (SqT.of e2);obtain⟨jts,r2,t2,z2⟩:=I.tuple (SqT.of f2);obtain⟨k',h1,h2⟩:=map_some h;obtain⟨e,h3,h4⟩:=eh h1;have l1:i.length=its.length:=e3.length.trans r1.length;have l2:j.length=jts.length:=f3.length.trans r2.length
   have he:∀ m (g1:m<its.toArray.size) (g2:m<jts.toArray.size),EqAt A.in1 s its.toArray[m] jts.toArray[m] (e m):=fun m g1 g2=>by
    rw[List.size_toArray]at g1 g2;obtain⟨w,w1,w2⟩:=e3.get (i:=m) (d:=i[m]'(by lia)) (by simp);obtain⟨w',w1',w2'⟩:=f3.get (i:=m) (d:=j[m]'(by lia)) (by simp);obtain⟨uu,b1,b2⟩:=r1.get w1;obtain⟨uu',b1',b2'⟩:=r2.get w1'
    have c1:its.toArray[m]=uu:=by simpa using(List.getElem?_eq_some_iff.mp b1).2
    have c2:jts.toArray[m]=uu':=by simpa using(List.getElem?_eq_some_iff.mp b1').2
    rw[c1,c2];exact(ih A.in1 _ _ w w' uu uu' (e m) (by show A.units+1+n<cLine;lia) w2 w2' b2 b2' (h4 m _ _ (by simp) (by simp))).2
   have main:RcAt A s (.ref p) (.ref q) k:=by
    have z:=RcAt.tuples (e:=e) t1 t2 (by lia) he;rw[List.size_toArray,List.size_toArray,<-l1,<-l2,<-h3,h2]at z;exact z
   refine⟨main,?_⟩;by_cases z:p=q
   ·subst z;rw[jY (n+1) _ _ _ k rx ry h];exact EqAt.same _
   ·exact EqAt.of_refs z main
  ·cases hn;subst hx;subst hy;obtain⟨p,xs,rfl,_,e2,e3⟩:=aC rx;obtain⟨q,ys,rfl,_,f2,f3⟩:=aC ry;cases qx;cases qy;obtain⟨its,r1,t1,z1⟩:=I.list (SqL.of e2);obtain⟨jts,r2,t2,z2⟩:=I.list (SqL.of f2);obtain⟨k',h1,h2⟩:=map_some h;obtain⟨e,h3,h4⟩:=eh h1;have l1:i.length=its.length:=e3.length.trans r1.length;have l2:j.length=jts.length:=f3.length.trans r2.length
   have he:∀ m (g1:m<its.toArray.size) (g2:m<jts.toArray.size),EqAt A.in1 s its.toArray[m] jts.toArray[m] (e m):=fun m g1 g2=>by
    rw[List.size_toArray]at g1 g2;obtain⟨w,w1,w2⟩:=e3.get (i:=m) (d:=i[m]'(by lia)) (by simp);obtain⟨w',w1',w2'⟩:=f3.get (i:=m) (d:=j[m]'(by lia)) (by simp);obtain⟨uu,b1,b2⟩:=r1.get w1;obtain⟨uu',b1',b2'⟩:=r2.get w1'
    have c1:its.toArray[m]=uu:=by simpa using(List.getElem?_eq_some_iff.mp b1).2
    have c2:jts.toArray[m]=uu':=by simpa using(List.getElem?_eq_some_iff.mp b1').2
    rw[c1,c2];exact(ih A.in1 _ _ w w' uu uu' (e m) (by show A.units+1+n<cLine;lia) w2 w2' b2 b2' (h4 m _ _ (by simp) (by simp))).2
   have main:RcAt A s (.ref p) (.ref q) k:=by
    by_cases hl:its.length=jts.length
    ·have z:=RcAt.lists (e:=e) t1.isList t2.isList (by rw[List.size_toArray,List.size_toArray];exact hl) (by lia) he;rw[List.size_toArray]at z
     have hk:k=(List.range its.length).all e:=by
      rw[<-h2,h3,l1,l2,hl];simp
     rw[hk];exact z
    ·have hk:k=false:=by
      rw[<-h2,l1,l2];simp[hl]
     rw[hk];exact RcAt.lists_lengths t1.isList t2.isList (by rw[List.size_toArray,List.size_toArray];simpa using hl) (by lia)
   refine⟨main,?_⟩;by_cases z:p=q
   ·subst z;rw[jY (n+1) _ _ _ k rx ry h];exact EqAt.same _
   ·exact EqAt.of_refs z main
end rules
section rules
variable{X:Cx}
open SeqAt in
def wR(I:Inv X pins σ H s)(n:Nat)(A:Around)(x y:RL.D)(v u:V)(va ua:Value)(k:Bool)(hu:A.units+n<cLine)(rx:Rep nP X.K H x v)(ry:Rep nP X.K H y u)(qx:RelV v va)(qy:RelV u ua)
 (h:RL.eqD n x y=some k):RcNeAt A s va ua (!k):=by
 rcases dB h with⟨i,j,rfl,rfl,rfl⟩ | ⟨i,j,rfl,rfl,rfl⟩ | ⟨i,j,rfl,rfl,rfl⟩ | ⟨nn,i,j,hn,hx,hy,h⟩ | ⟨nn,i,j,hn,hx,hy,h⟩
 ·rw[aN rx]at qx;rw[aN ry]at qy;cases qx;cases qy;exact RcNeAt.bool_bool i j
 ·rw[aj rx]at qx;rw[aj ry]at qy;obtain⟨t,rfl⟩:=qx;obtain⟨t',rfl⟩:=qy;exact RcNeAt.int_int i t j t'
 ·rw[aB rx]at qx;rw[aB ry]at qy;obtain⟨t,rfl⟩:=qx;obtain⟨t',rfl⟩:=qy;exact RcNeAt.str_str i t j t'
 ·subst hn;subst hx;subst hy;obtain⟨p,xs,rfl,e2,e3⟩:=aQ rx;obtain⟨q,ys,rfl,f2,f3⟩:=aQ ry;cases qx;cases qy;obtain⟨its,r1,t1,z1⟩:=I.tuple (SqT.of e2);obtain⟨jts,r2,t2,z2⟩:=I.tuple (SqT.of f2);obtain⟨k',h1,h2⟩:=map_some h;obtain⟨e,h3,h4⟩:=eh h1;have l1:i.length=its.length:=e3.length.trans r1.length;have l2:j.length=jts.length:=f3.length.trans r2.length
  have he:∀ m (g1:m<its.toArray.size) (g2:m<jts.toArray.size),EqAt A.in1 s its.toArray[m] jts.toArray[m] (e m):=fun m g1 g2=>by
   rw[List.size_toArray]at g1 g2;obtain⟨w,w1,w2⟩:=e3.get (i:=m) (d:=i[m]'(by lia)) (by simp);obtain⟨w',w1',w2'⟩:=f3.get (i:=m) (d:=j[m]'(by lia)) (by simp);obtain⟨uu,b1,b2⟩:=r1.get w1;obtain⟨uu',b1',b2'⟩:=r2.get w1'
   have c1:its.toArray[m]=uu:=by simpa using(List.getElem?_eq_some_iff.mp b1).2
   have c2:jts.toArray[m]=uu':=by simpa using(List.getElem?_eq_some_iff.mp b1').2
   rw[c1,c2];exact(deep I nn A.in1 _ _ w w' uu uu' (e m) (by show A.units+1+nn<cLine;lia) w2 w2' b2 b2' (h4 m _ _ (by simp) (by simp))).2
  have z:=RcNeAt.tuples (e:=e) t1 t2 (by lia) he;rw[List.size_toArray,List.size_toArray,<-l1,<-l2,<-h3,h2]at z;exact z
 ·subst hn;subst hx;subst hy;obtain⟨p,xs,rfl,_,e2,e3⟩:=aC rx;obtain⟨q,ys,rfl,_,f2,f3⟩:=aC ry;cases qx;cases qy;obtain⟨its,r1,t1,z1⟩:=I.list (SqL.of e2);obtain⟨jts,r2,t2,z2⟩:=I.list (SqL.of f2);obtain⟨k',h1,h2⟩:=map_some h;obtain⟨e,h3,h4⟩:=eh h1;have l1:i.length=its.length:=e3.length.trans r1.length;have l2:j.length=jts.length:=f3.length.trans r2.length
  have he:∀ m (g1:m<its.toArray.size) (g2:m<jts.toArray.size),EqAt A.in1 s its.toArray[m] jts.toArray[m] (e m):=fun m g1 g2=>by
   rw[List.size_toArray]at g1 g2;obtain⟨w,w1,w2⟩:=e3.get (i:=m) (d:=i[m]'(by lia)) (by simp);obtain⟨w',w1',w2'⟩:=f3.get (i:=m) (d:=j[m]'(by lia)) (by simp);obtain⟨uu,b1,b2⟩:=r1.get w1;obtain⟨uu',b1',b2'⟩:=r2.get w1'
   have c1:its.toArray[m]=uu:=by simpa using(List.getElem?_eq_some_iff.mp b1).2
   have c2:jts.toArray[m]=uu':=by simpa using(List.getElem?_eq_some_iff.mp b1').2
   rw[c1,c2];exact(deep I nn A.in1 _ _ w w' uu uu' (e m) (by show A.units+1+nn<cLine;lia) w2 w2' b2 b2' (h4 m _ _ (by simp) (by simp))).2
  by_cases hl:its.length=jts.length
  ·have z:=RcNeAt.lists (e:=e) t1.isList t2.isList (by rw[List.size_toArray,List.size_toArray];exact hl) (by lia) he;rw[List.size_toArray]at z
   have hk:k=(List.range its.length).all e:=by
    rw[<-h2,h3,l1,l2,hl];simp
   rw[hk];exact z
  ·have hk:k=false:=by
    rw[<-h2,l1,l2];simp[hl]
   rw[hk];exact RcNeAt.lists_lengths t1.isList t2.isList (by rw[List.size_toArray,List.size_toArray];simpa using hl) (by lia)
abbrev cx:RL.Cop->CmpOp
 | .lt=>.Lt
 | .le=>.LtE
 | .gt=>.Gt
 | .ge=>.GtE
 | .eq=>.Eq
 | .ne=>.NotEq
abbrev nq(K:PySem.W.Frag)(c:RL.Cop):R2:=fun v u H Q=>∃ x y k,Rep nP K H x v/\Rep nP K H y u/\RL.aY c x y=some k/\Q (.bl k) H
def gc{c:RL.Cop}(hc:c≠.eq)(hc2:c≠.ne)(h:RL.aY c x y=some k):∃ i j,x=.int i/\y=.int j:=by
 have no:∀ {a b:RL.D},RL.aY .lt a b=none->RL.aY .le a b=none->RL.aY .gt a b=none->RL.aY .ge a b=none->RL.aY c a b=some k->False:=fun e1 e2 e3 e4 h=>by
  cases c with
  | eq=>exact hc rfl
  | ne=>exact hc2 rfl
  | lt=>rw[e1]at h;cases h
  | le=>rw[e2]at h;cases h
  | gt=>rw[e3]at h;cases h
  | ge=>rw[e4]at h;cases h
 cases x with
 | int i=>cases y with
  | int j=>exact⟨_,_,rfl,rfl⟩
  | _=>exact(no rfl rfl rfl rfl h).elim
 | _=>exact(no rfl rfl rfl rfl h).elim
def fm{c:RL.Cop}(hu:X.A.units+100<cLine):OpR X (compareOp (cx c)) (nq X.K c):=by
 intro pins s σ H x y v u Q I rx ry h;obtain⟨dx,dy,k,ex,ey,e,q⟩:=h
 have fin:EP X pins σ Q (.bool k) s:=⟨.bl k,H,I,rfl,q⟩
 cases c with
 |eq=>
  have e:RL.eqD 8 dx dy=some k:=e;exact(deep I 8 X.A dx dy x y v u k (by lia) ex ey rx ry e).1 X.prog X.w X.xe _ fin
 |ne=>
  obtain⟨k',e1,e2⟩:=map_some (show(RL.eqD 8 dx dy).map not=some k from e);subst e2;exact wR I 8 X.A dx dy x y v u k' (by lia) ex ey rx ry e1 X.prog X.w X.xe _ fin
 |lt=>
  obtain⟨i,j,rfl,rfl⟩:=gc (by decide) (by decide) e;cases e;rw[aj ex]at rx;rw[aj ey]at ry;obtain⟨t,rfl⟩:=rx;obtain⟨t',rfl⟩:=ry;exact lt_int fin
 |le=>
  obtain⟨i,j,rfl,rfl⟩:=gc (by decide) (by decide) e;cases e;rw[aj ex]at rx;rw[aj ey]at ry;obtain⟨t,rfl⟩:=rx;obtain⟨t',rfl⟩:=ry;exact le_int fin
 |gt=>
  obtain⟨i,j,rfl,rfl⟩:=gc (by decide) (by decide) e;cases e;rw[aj ex]at rx;rw[aj ey]at ry;obtain⟨t,rfl⟩:=rx;obtain⟨t',rfl⟩:=ry;exact gt_int fin
 |ge=>
  obtain⟨i,j,rfl,rfl⟩:=gc (by decide) (by decide) e;cases e;rw[aj ex]at rx;rw[aj ey]at ry;obtain⟨t,rfl⟩:=rx;obtain⟨t',rfl⟩:=ry;exact ge_int fin
def fV{c:RL.Cop}(b:Expr):behindInMarks (cx c) b=false:=by cases c<;>exact pd b (by decide) (by decide)
def pN{c:RL.Cop}(h:∃ σD d,RV0 X.K σD σ H/\RL.ev cl σD (.cmp c a' b')=some d/\∀ H',ay H H'->∃ k,d=.bl k/\Q (.bl k) H'):tOp (nq X.K c) (tE X.K cl a') (tE X.K cl b') σ H Q:=by
 obtain⟨σD,d,rv,e,k⟩:=h;obtain⟨x,ea,e⟩:=bind_some e;obtain⟨y,eb,e⟩:=bind_some e;obtain⟨t,e1,e2⟩:=map_some e;refine two rv ea eb fun v u H1 H2 s1 s2 rx ry _ _=>?_;obtain⟨k',h1,h2⟩:=k H2 (s1.trans s2);rw[h1]at e2;cases e2;exact⟨x,y,t,rx,ry,e1,h2⟩
def kc{c:RL.Cop}(e:RL.ev cl σD (.cmp c a' b')=some d):∃ k,d=.bl k:=by
 obtain⟨x,ea,e⟩:=bind_some e;obtain⟨y,eb,e⟩:=bind_some e;obtain⟨t,e1,e2⟩:=map_some e;exact⟨t,e2.symm⟩
def xf{c:RL.Cop}(hu:X.A.units+100<cLine)(ha:SE X cl a a')(hb:SE X cl b b'):SE X cl (.Compare a [cx c] [b] pos) (.cmp c a' b'):=by
 refine PE.weak (jz (fm hu) ha hb (fV b)) fun σ H Q h=>?_;obtain⟨σD,d,rv,e,k⟩:=h;obtain⟨t,rfl⟩:=kc e;exact pN ⟨σD,_,rv,e,fun H' sm=>⟨t,rfl,k _ _ (c6 sm)⟩⟩
def xS{c:RL.Cop}(hu:X.A.units+100<cLine)(ha:SE X cl a a')(hb:SE X cl b b'):ST X cl (.Compare a [cx c] [b] pos) (.cmp c a' b'):=by
 refine PT.weak (jr (fm hu) ha hb (fV b)) fun σ H Q h=>?_;obtain⟨σD,k,rv,e,q⟩:=h;obtain⟨d,e1,e2⟩:=bind_some e;obtain⟨t,rfl⟩:=kc e1;cases e2;exact pN ⟨σD,_,rv,e1,fun H' sm=>⟨k,rfl,k,rfl,q H' sm⟩⟩
def sN{c c':RL.Cop}(b e:Expr):lastMarks [cx c,cx c'] [b,e]=false:=by
 show behindInMarks (cx c') e=false;exact fV e
def il{c c':RL.Cop}(h:RL.ev cl σD (.chain c c' a' b' e')=some d):∃ k,d=.bl k:=by
 obtain⟨x,ea,h⟩:=bind_some h;obtain⟨y,eb,h⟩:=bind_some h;obtain⟨t,e1,h⟩:=bind_some h
 cases t with
 |true=>
  obtain⟨z,ec,h⟩:=bind_some (show(RL.ev cl σD e').bind _=some d from h);obtain⟨t,e1,e2⟩:=map_some h;exact⟨t,e2.symm⟩
 | false=>exact⟨false,(Option.some.inj (show some (RL.D.bl false)=some d from h)).symm⟩
def l8{c c':RL.Cop}(h:∃ σD k,RV0 X.K σD σ H/\RL.ev cl σD (.chain c c' a' b' e')=some (.bl k)/\∀ H',ay H H'->Q (.bl k) H') :
  l6 (nq X.K c) (nq X.K c') (tE X.K cl a') (tE X.K cl b') (tE X.K cl e') σ H Q:=by
 obtain⟨σD,k,rv,h,q⟩:=h;obtain⟨x,ea,h⟩:=bind_some h;obtain⟨y,eb,h⟩:=bind_some h;obtain⟨t,e1,h⟩:=bind_some h;refine two rv ea eb fun v u H1 H2 s1 s2 rx ry _ _=>?_;refine⟨x,y,t,rx,ry,e1,t,rfl,?_⟩;have sm:=s1.trans s2
 cases t with
 |true=>
  rw[if_pos rfl]at h;obtain⟨z,ec,h⟩:=bind_some h;obtain⟨t,e3,e2⟩:=map_some h;cases e2;exact e8 ⟨σD,z,rv.same sm,ec,fun w H3 r3=>⟨y,z,k,ry.same r3.same,r3.rep,e3,q H3 (sm.trans r3.same)⟩⟩
 |false=>
  rw[if_neg (by decide)]at h;cases h;exact fb (q H2 sm)
def rK{c c':RL.Cop}(hu:X.A.units+100<cLine)(ha:SE X cl a a')(hb:SE X cl b b')(he:SE X cl e e'):SE X cl (.Compare a [cx c,cx c'] [b,e] pos) (.chain c c' a' b' e'):=by
 refine PE.weak (rL (fm hu) (fm hu) ha hb he (sN b e)) fun σ H Q h=>?_;obtain⟨σD,d,rv,h,k⟩:=h;obtain⟨t,rfl⟩:=il h;exact l8 ⟨σD,t,rv,h,fun H' sm=>k _ _ (c6 sm)⟩
def qK{c c':RL.Cop}(hu:X.A.units+100<cLine)(ha:SE X cl a a')(hb:SE X cl b b')(he:SE X cl e e'):ST X cl (.Compare a [cx c,cx c'] [b,e] pos) (.chain c c' a' b' e'):=by
 refine PT.weak (rf (fm hu) (fm hu) ha hb he (sN b e)) fun σ H Q h=>?_;obtain⟨σD,k,rv,h,q⟩:=h;obtain⟨d,e1,e2⟩:=bind_some h;obtain⟨t,rfl⟩:=il e1;cases e2;exact l8 ⟨σD,k,rv,e1,fun H' sm=>⟨k,rfl,q H' sm⟩⟩
end rules
section rules
variable{X:Cx}
def kd{neg:Bool}(b:Expr):behindInMarks (if neg then .IsNot else .Is) b=false:=by cases neg<;>exact pd b (by decide) (by decide)
def mw{neg:Bool}:OpR X (compareOp (if neg then .IsNot else .Is)) (fun x y H Q=>y=.non/\Q (.bl (if neg then !decide (x=.non)else decide (x=.non))) H):=by
 cases neg with
 | true=>exact uP
 | false=>exact vI
def pU(h:RL.ev cl σD (.isN neg a')=some d):∃ x,RL.ev cl σD a'=some x/\∀ v (H:Hp),Rep nP X.K H x v->d=.bl (if neg then !decide (v=.non)else decide (v=.non)):=by
 obtain⟨x,ea,h⟩:=bind_some h;refine⟨x,ea,fun v H r=>?_⟩
 cases x with
 | non=>cases h;rw[Rep]at r;subst r;cases neg<;>rfl
 | bl k=>cases h;rw[aN r];cases neg<;>rfl
 | int k=>cases h;rw[aj r];cases neg<;>rfl
 | str k=>cases h;rw[aB r];cases neg<;>rfl
 | tup k=>cases h;obtain⟨p,xs,rfl,_⟩:=aQ r;cases neg<;>rfl
 | lst k=>cases h;obtain⟨p,xs,rfl,_⟩:=aC r;cases neg<;>rfl
 | scr k=>cases h;rw[Rep]at r;obtain⟨p,xs,rfl,_⟩:=r;cases neg<;>rfl
 | exc k=>cases h;rw[Rep]at r;obtain⟨p,_,_,_,_,rfl,_⟩:=r;cases neg<;>rfl
 | dK _ _=>cases h
 | dT _ _=>cases h
 | fT _ _=>cases h
 | fL k=>cases h;rw[Rep]at r;obtain⟨p,o,xs,rfl,_⟩:=r;cases neg<;>rfl
def vv(ha:SE X cl a a'):SE X cl (.Compare a [if neg then .IsNot else .Is] [.Constant .none j p] pos) (.isN neg a'):=by
 refine PE.weak (jz mw ha lz (kd _)) fun σ H Q h=>?_;obtain⟨σD,d,rv,e,q⟩:=h;obtain⟨x,ea,hx⟩:=pU (X:=X) e;refine⟨σD,_,rv,ea,fun v H1 r1=>⟨rfl,?_⟩⟩;have hd:=hx v H1 r1.rep;subst hd;exact q _ _ (c6 r1.same)
def vd(ha:SE X cl a a'):ST X cl (.Compare a [if neg then .IsNot else .Is] [.Constant .none j p] pos) (.isN neg a'):=by
 refine PT.weak (jr mw ha lz (kd _)) fun σ H Q h=>?_;obtain⟨σD,k,rv,e,q⟩:=h;obtain⟨d,e1,e2⟩:=bind_some e;obtain⟨x,ea,hx⟩:=pU (X:=X) e1;refine⟨σD,_,rv,ea,fun v H1 r1=>⟨rfl,?_⟩⟩;have hd:=hx v H1 r1.rep;subst hd;cases e2;exact⟨_,rfl,q _ r1.same⟩
def dm{P:Addr->Prop}{K:PySem.W.Frag}(h:RL.items d=some ds)(r:Rep P K H d v):∃ p xs,v=.ref p/\((H p=some (.lst xs)/\d=.lst ds)\/(H p=some (.tup xs)/\d=.tup ds)\/((∃ o,H p=some (.frz o (.lst xs)))/\d=.fL ds))/\ae P K H ds xs:=by
 cases d<;>simp only[RL.items]at h<;>first | (cases h;done) | skip
 case lst ys=>cases h;obtain⟨p,xs,e1,_,e2,e3⟩:=aC r;exact⟨p,xs,e1,.inl ⟨e2,rfl⟩,e3⟩
 case tup ys=>cases h;obtain⟨p,xs,e1,e2,e3⟩:=aQ r;exact⟨p,xs,e1,.inr (.inl ⟨e2,rfl⟩),e3⟩
 case fL ys=>cases h;rw[Rep]at r;obtain⟨p,o,xs,e1,e2,e3⟩:=r;exact⟨p,xs,e1,.inr (.inr ⟨⟨o,e2⟩,rfl⟩),e3⟩
def mJ{P:Addr->Prop}{K:PySem.W.Frag}(h:RL.flat d=true)(r:Rep P K H d v):d8 v=true/\∀ d' v',RL.flat d'=true->Rep P K H d' v'->RL.eqF d d'=eqV v v':=by
 cases d<;>simp only[RL.flat]at h<;>first | (cases h;done) | skip
 case int i =>
  rw[aj r];refine⟨rfl,fun d' v' h' r'=>?_⟩
  cases d'<;>simp only[RL.flat]at h'<;>first | (cases h';done) | skip
  case int j=>rw[aj r'];simp[RL.eqF,eqV]
  case str j=>rw[aB r'];simp[RL.eqF,eqV]
 case str i =>
  rw[aB r];refine⟨rfl,fun d' v' h' r'=>?_⟩
  cases d'<;>simp only[RL.flat]at h'<;>first | (cases h';done) | skip
  case int j=>rw[aj r'];simp[RL.eqF,eqV]
  case str j=>rw[aB r'];simp[RL.eqF,eqV]
def kS{P:Addr->Prop}{K:PySem.W.Frag}(hf:RL.flat d=true)(r:Rep P K H d v):∀ {ds:List RL.D} {xs:List V},ds.all RL.flat=true->ae P K H ds xs->xs.all d8=true/\(ds.any fun x=>RL.eqF x d)=inV v xs
 | [],xs,_,h=>by rw[ae]at h;subst h;exact⟨rfl,rfl⟩
 | e::t,xs,ha,h=>by
  rw[ae]at h;obtain⟨x,ys,rfl,e2,e3⟩:=h;rw[List.all_cons,Bool.and_eq_true]at ha;obtain⟨h1,h2⟩:=kS hf r ha.2 e3;obtain⟨h3,h4⟩:=mJ ha.1 e2;refine⟨by rw[List.all_cons,h3,h1];rfl,?_⟩;rw[List.any_cons,h2,h4 d v hf r];rfl
def pe:OpR X (compareOp (if neg then .NotIn else .In)) (rIn X.K neg):=by
 cases neg with
 | true=>exact ll
 | false=>exact oI
def p5(rv:RV0 X.K σD σ H)(e:RL.ev cl σD (.inn neg a' b')=some d)(k:∀ t H',d=.bl t->ay H H'->Q (.bl t) H'):tOp (rIn X.K neg) (tE X.K cl a') (tE X.K cl b') σ H Q:=by
 obtain⟨x,ea,e⟩:=bind_some e;obtain⟨y,eb,e⟩:=bind_some e;obtain⟨t,e1,e2⟩:=map_some e;unfold RL.inV at e1;obtain⟨ds,e3,e4⟩:=bind_some e1;by_cases hc:(RL.flat x&&ds.all RL.flat)=true
 ·rw[if_pos hc]at e4;cases e4;rw[Bool.and_eq_true]at hc;refine two rv ea eb fun v u H1 H2 s1 s2 rx ry _ _=>?_;obtain⟨p,xs,rfl,hp,rs⟩:=dm e3 ry;obtain⟨h1,h2⟩:=kS hc.1 rx hc.2 rs;refine⟨p,xs,rfl,?_,(mJ hc.1 rx).1,h1,?_⟩
  ·rcases hp with⟨z,_⟩ | ⟨z,_⟩ | ⟨⟨o,z⟩,_⟩
   ·exact .inl (SqL.of z)
   ·exact .inr (SqT.of z)
   ·exact .inl (.inl (.inr ⟨o,z⟩))
  ·refine k _ _ ?_ (s1.trans s2);rw[<-e2,h2]
 ·rw[if_neg hc]at e4;cases e4
abbrev nW:Expr->Bool
 | .Set _ _ _=>false
 | _=>true
def eS(h:nW b=true):behindInMarks op b=false:=by
 cases b<;>first | rfl | (cases h)
def wy(ha:SE X cl a a')(hb:SE X cl b b')(hm:nW b=true):SE X cl (.Compare a [if neg then .NotIn else .In] [b] pos) (.inn neg a' b'):=by
 refine PE.weak (jz pe ha hb (eS hm)) fun σ H Q h=>?_;obtain⟨σD,d,rv,e,q⟩:=h
 exact p5 rv e fun t H' hd sm=>by subst hd;exact q _ _ (c6 sm)
def xI(ha:SE X cl a a')(hb:SE X cl b b')(hm:nW b=true):ST X cl (.Compare a [if neg then .NotIn else .In] [b] pos) (.inn neg a' b'):=by
 refine PT.weak (jr pe ha hb (eS hm)) fun σ H Q h=>?_;obtain⟨σD,k,rv,e,q⟩:=h;obtain⟨d,e1,e2⟩:=bind_some e;refine p5 rv e1 fun t H' hd sm=>?_;subst hd;cases e2;exact⟨_,rfl,q _ sm⟩
abbrev spF(K:PySem.W.Frag)(cl:RL.Cl)(f:Nat):Sp:=fun vs H Q _=>∃ ds d,ae nP K H ds vs/\cl f ds=some d/\∀ v H',ay H H'->Rep (fun p=>H p≠none) K H' d v->Q v H'
def t5(F:dJ X.prog X.w X.K X.mg X.base CX0 k fa fd ps (spF X.K cl f))(hr:cy k X.A)(hg:Gl X x)
 (hm:X.mg x=some (.ref fa))(hk:PySem.W.keepIn X.K (.ref fa)=true)(hb:Binds X.K fd ps [])(he:SEs X cl (e::es) (.cons e' es'))(hdb:(x == ("__debug__" : Str))=false)(hn:noStar e=true)(hns:es.all noStar=true) :
  SE X cl (.Call (.Name x p) (e::es) [] pos) (.call f (.cons e' es')):=by
 refine PE.weak (mI F hr hg hm hk hb .nil oh he hdb (a7 es hn) (cg hns)) fun σ H Q h=>?_;obtain⟨σD,d,rv,ev,q⟩:=h;obtain⟨ds,e1,e2⟩:=bind_some ev;refine⟨σD,ds,rv,e1,fun vs H1 s1 r1=>?_⟩;show spF X.K cl f (vs++[]) H1 Q E0;rw[List.append_nil];refine⟨ds,d,r1,e2,fun v H2 s2 r2=>q v H2 ⟨s1.trans s2,r2.none,fun _ m a z=>?_,fun M _ P hP _=>?_⟩⟩
 ·subst z
  have hh:H1 a=none:=by
   cases d with
   | lst ds=>obtain⟨p,xs,e1,e2,_⟩:=aC r2;cases e1;exact Classical.byContradiction e2
   | dK ks ds=>rw[Rep]at r2;obtain⟨p,xs,e1,e2,_⟩:=r2;cases e1;exact Classical.byContradiction e2
   | dT ks ds=>rw[Rep]at r2;obtain⟨p,xs,e1,e2,_⟩:=r2;cases e1;exact Classical.byContradiction e2
   | _=>cases m
  exact s1.free hh
 ·refine r2.weak fun a z=>?_;obtain⟨o,ho⟩:=Option.ne_none_iff_exists'.mp (hP a z);rw[s1 _ _ ho]
  exact fun q=>nomatch q
end rules
abbrev Off(P:Addr->Prop)(H H':Hp):Prop:=∀ b o,¬ P b->H b=some o->H' b=some o
def Off.same{H H':Hp}(h:ay H H'){P:Addr->Prop}:Off P H H':=fun b o _ e=>h b o e
mutual
theorem Rep.off{P:Addr->Prop}{K:PySem.W.Frag}{H H':Hp}(hm:∀ b o,P b->H b=some o->bX o)(k:Off P H H'):∀ {d:RL.D} {v:V},Rep P K H d v->Rep P K H' d v
 | .non,v,h=>by simpa[Rep]using h
 | .bl _,v,h=>by simpa[Rep]using h
 | .int _,v,h=>by simpa[Rep]using h
 | .str _,v,h=>by simpa[Rep]using h
 | .tup ds,v,h=>by
  rw[Rep]at h ⊢;obtain⟨b,xs,e1,e2,e3⟩:=h
  have n:¬ P b:=fun p=>by rcases hm b _ p e2 with⟨z,q⟩ | ⟨z,q⟩ | ⟨z,q⟩<;>cases q
  exact⟨b,xs,e1,k _ _ n e2,ae.off hm k e3⟩
 | .lst ds,v,h=>by
  rw[Rep]at h ⊢;obtain⟨b,xs,e1,e0,e2,e3⟩:=h;exact⟨b,xs,e1,e0,k _ _ e0 e2,ae.off hm k e3⟩
 | .dK ks ds,v,h=>by
  rw[Rep]at h ⊢;obtain⟨b,xs,e1,e0,e2,el,e3⟩:=h;exact⟨b,xs,e1,e0,k _ _ e0 e2,el,ae.off hm k e3⟩
 | .dT ks ds,v,h=>by
  rw[Rep]at h ⊢;obtain⟨b,xs,e1,e0,e2,el,e3⟩:=h;exact⟨b,xs,e1,e0,k _ _ e0 e2,el,ae.off hm k e3⟩
 | .scr ds,v,h=>by
  rw[Rep]at h ⊢;obtain⟨b,xs,e1,e2,e3⟩:=h;refine⟨b,xs,e1,?_,ae.off hm k e3⟩;rcases e2 with⟨q,e2⟩ | e2
  ·have n:¬ P b:=fun p=>by rcases hm b _ p e2 with⟨z,q⟩ | ⟨z,q⟩ | ⟨z,q⟩<;>cases q
   exact .inl ⟨q,k _ _ n e2⟩
  ·exact .inr e2
 | .exc c,v,h=>by
  rw[Rep]at h ⊢;exact h.keep fun b ob u q=>k _ _ (fun p=>by rcases hm b _ p q with⟨z,y⟩ | ⟨z,y⟩ | ⟨z,y⟩<;>cases y) q
 | .fT ks ds,v,h=>by
  rw[Rep]at h ⊢;obtain⟨b,ob,xs,e1,e2,el,e3⟩:=h;exact⟨b,ob,xs,e1,k _ _ (fun p=>by rcases hm b _ p e2 with⟨z,y⟩ | ⟨z,y⟩ | ⟨z,y⟩<;>cases y) e2,el,ae.off hm k e3⟩
 | .fL ds,v,h=>by
  rw[Rep]at h ⊢;obtain⟨b,ob,xs,e1,e2,e3⟩:=h;exact⟨b,ob,xs,e1,k _ _ (fun p=>by rcases hm b _ p e2 with⟨z,y⟩ | ⟨z,y⟩ | ⟨z,y⟩<;>cases y) e2,ae.off hm k e3⟩
theorem ae.off{P:Addr->Prop}{K:PySem.W.Frag}{H H':Hp}(hm:∀ b o,P b->H b=some o->bX o)(k:Off P H H'):∀ {ds:List RL.D} {xs:List V},ae P K H ds xs->ae P K H' ds xs
 | [],xs,h=>by rw[ae]at h ⊢;exact h
 | d::r,xs,h=>by
  rw[ae]at h ⊢;obtain⟨x,t,e1,e2,e3⟩:=h;exact⟨x,t,e1,Rep.off hm k e2,ae.off hm k e3⟩
end
structure fX(K:PySem.W.Frag)(J:L2.It)(ds:List RL.D)(P:Addr->Prop)(H:Hp):Prop where
 go:∀ H' i,Off P H H'->i<ds.length->J.go i H'
 stop:∀ H',Off P H H'->J.stop ds.length H'
 yld:∀ H' i d x H2,Off P H H'->ds[i]?=some d->J.yld i H' x H2->ay H' H2/\(d.imm=true\/ay H H'->Rep nP K H2 d x)
abbrev sG(K:PySem.W.Frag)(σD:RL.St)(σ:L2.St)(H:Hp)(it:RL.It)(J:L2.It)(ds:List RL.D)(H1:Hp):Prop :=
 fX K J ds nP H1/\∀ (M:List Nat) (P:Addr->Prop),RL.rX M it=true->(∀ b,P b->∃ o,H b=some o/\bX o)->(∀ (j:Nat) (dj:RL.D) (vj:V),M.contains j=false->σD[j]?=some (some dj)->σ[j]?=some (some vj)->Rep P K H dj vj)->fX K J ds P H1
abbrev tI(K:PySem.W.Frag)(cl:RL.Cl)(it:RL.It):TI:=fun σ H R=>∃ σD ds,RV0 K σD σ H/\RL.bN cl σD it=some ds/\∀ J H1,ay H H1->sG K σD σ H it J ds H1->R J H1
abbrev SI(X:Cx)(cl:RL.Cl)(tg iter:Expr)(it:RL.It):Prop:=PI X tg iter (tI X.K cl it)
def PI.weak{X:Cx}{tg iter:Expr}{t t':TI}(h:PI X tg iter t)(w:∀ σ H R,t' σ H R->t σ H R):PI X tg iter t':=fun pins s σ H R I q=>h pins s σ H R I (w σ H R q)
def fI{K:PySem.W.Frag}{P:Addr->Prop}{H H':Hp}{d:RL.D}{v:V}(hm:∀ b o,P b->H b=some o->bX o)(k:Off P H H')(r:Rep nP K H d v)(i:d.imm=true):Rep nP K H' d v :=
 ((r.imm i).off hm k).imm i
def mP{K:PySem.W.Frag}{H:Hp}{a:Addr}{ds:List RL.D}{xs:List V}{P:Addr->Prop}(h:H a=some (.lst xs))(r:ae nP K H ds xs)(hp:¬ P a)(hm:∀ b o,P b->H b=some o->bX o):fX K (Itl K a) ds P H where
 go:=fun H' i k hi=>by
  obtain⟨x,e,_⟩:=r.get (i:=i) (d:=ds[i]) (by simp[hi]);exact⟨xs,x,SqL.of (k _ _ hp h),e⟩
 stop:=fun H' k=>⟨xs,SqL.of (k _ _ hp h),by rw[r.length];exact Nat.le_refl _⟩
 yld:=fun H' i d x H2 k e y=>by
  obtain⟨z,y⟩:=y;subst z;have hx:=y xs (SqL.of (k _ _ hp h));obtain⟨x',e1,e2⟩:=r.get e;rw[hx]at e1;cases e1;refine⟨ay.refl _,fun q=>?_⟩;rcases q with q | q
  ·exact fI hm k e2 q
  ·exact e2.same q
def oq{K:PySem.W.Frag}{H:Hp}{a:Addr}{ds:List RL.D}{xs:List V}{P:Addr->Prop}(h:H a=some (.frz o (.lst xs)))(r:ae nP K H ds xs)(hm:∀ b o,P b->H b=some o->bX o):fX K (Itl K a) ds P H:=by
 have kp:∀ H',Off P H H'->SqL K H' a xs:=fun H' k=>by
  exact .inl (.inr ⟨o,k _ _ (fun p=>by rcases hm a _ p h with⟨z,q⟩ | ⟨z,q⟩ | ⟨z,q⟩<;>cases q) h⟩)
 exact {
  go:=fun H' i k hi=>by
   obtain⟨x,e,_⟩:=r.get (i:=i) (d:=ds[i]) (by simp[hi]);exact⟨xs,x,kp _ k,e⟩
  stop:=fun H' k=>⟨xs,kp _ k,by rw[r.length];exact Nat.le_refl _⟩
  yld:=fun H' i d x H2 k e y=>by
   obtain⟨z,y⟩:=y;subst z;have hx:=y xs (kp _ k);obtain⟨x',e1,e2⟩:=r.get e;rw[hx]at e1;cases e1;refine⟨ay.refl _,fun q=>?_⟩;rcases q with q | q
   ·exact fI hm k e2 q
   ·exact e2.same q }
def p9{K:PySem.W.Frag}{H:Hp}{a:Addr}{ds:List RL.D}{xs:List V}{P:Addr->Prop}(h:H a=some (.tup xs))(r:ae nP K H ds xs)(hm:∀ b o,P b->H b=some o->bX o):fX K (Itt K a) ds P H:=by
 have hp:¬ P a:=fun p=>by rcases hm a _ p h with⟨z,q⟩ | ⟨z,q⟩ | ⟨z,q⟩<;>cases q
 exact {
  go:=fun H' i k hi=>by
   obtain⟨x,e,_⟩:=r.get (i:=i) (d:=ds[i]) (by simp[hi]);exact⟨xs,x,SqT.of (k _ _ hp h),e⟩
  stop:=fun H' k=>⟨xs,SqT.of (k _ _ hp h),by rw[r.length];exact Nat.le_refl _⟩
  yld:=fun H' i d x H2 k e y=>by
   obtain⟨z,y⟩:=y;subst z;have hx:=y xs (SqT.of (k _ _ hp h));obtain⟨x',e1,e2⟩:=r.get e;rw[hx]at e1;cases e1;refine⟨ay.refl _,fun q=>?_⟩;rcases q with q | q
   ·exact fI hm k e2 q
   ·exact e2.same q }
def iM:∀ (n:Nat) (lo:Int) (i:Nat) (d:RL.D),(RL.bx lo n)[i]?=some d->d=.int (lo+i)
 | 0,lo,i,d,h=>by simp[RL.bx]at h
 | n+1,lo,0,d,h=>by simp[RL.bx]at h;simp[h]
 | n+1,lo,i+1,d,h=>by
  rw[RL.bx,List.getElem?_cons_succ]at h;rw[iM n (lo+1) i d h];congr 1;lia
def fR:∀ (n:Nat) (lo:Int),(RL.bx lo n).length=n
 | 0,_=>rfl
 | n+1,lo=>by rw[RL.bx,List.length_cons,fR n]
def iT{K:PySem.W.Frag}{H:Hp}{lo:Int}{n:Nat}{P:Addr->Prop}:fX K (Itr lo n) (RL.bx lo n) P H where
 go:=fun H' i k hi=>by rw[fR]at hi;exact hi
 stop:=fun H' k=>by rw[fR];exact Nat.le_refl _
 yld:=fun H' i d x H2 k e y=>by
  obtain⟨z,y⟩:=y;subst z;refine⟨ay.refl _,fun _=>?_⟩;rw[iM n lo i d e,y];exact aK
section rules
variable{X:Cx}{cl:RL.Cl}{tg a b l:Expr}{a' b' e':RL.E}{pos p:Pos}
def yL{t t':TE}{l:Expr}(hl:PE X l t):PI X tg l (fun σ H R=>t σ H fun x H1=>(∃ a,x=.ref a/\(∃ xs,SqL X.K H1 a xs)/\R (Itl X.K a) H1)\/(∃ a,x=.ref a/\(∃ xs,SqT X.K H1 a xs)/\R (Itt X.K a) H1)):=by
 intro pins s σ H R I h;refine thn (hl pins s σ H _ I h) fun v s1 ⟨x,H1,I1,r1,q1⟩=>?_
 rcases q1 with⟨a,e,⟨xs,hq⟩,q⟩ | ⟨a,e,⟨xs,hq⟩,q⟩
 ·subst e;cases r1;obtain⟨its,rv,p,hz⟩:=I1.list hq;refine wpAny_pyIter_list p.isList ⟨s1.heap.objs.size,[s1.heap.objs.size],_,_,H1,rfl,I1.kept (t':=s1.toks) fun b o e=>Heap.get?_push_of_some _ e,ot a _,⟨_,Heap.get?_push_size _ rfl,rfl,rfl⟩,fun b hb=>?_,q⟩;rw[show b=s1.heap.objs.size by simpa using hb];exact I1.lu (Nat.le_refl _) (I1.hok.fresh (Nat.le_refl _))
 ·subst e;cases r1;obtain⟨its,rv,p,hz⟩:=I1.tuple hq;refine wpAny_pyIter_tuple (show s1.heap.IsTuple a its.toArray from p) ⟨s1.heap.objs.size,[s1.heap.objs.size],_,_,H1,rfl,I1.kept (t':=s1.toks) fun b o e=>Heap.get?_push_of_some _ e,mU a _,⟨_,Heap.get?_push_size _ rfl,rfl,rfl⟩,fun b hb=>?_,q⟩;rw[show b=s1.heap.objs.size by simpa using hb];exact I1.lu (Nat.le_refl _) (I1.hok.fresh (Nat.le_refl _))
def pW{σD:RL.St}{σ:L2.St}{H H1:Hp}{d:RL.D}{v:V}{M:List Nat}{P:Addr->Prop}(r1:Res X.K σD σ H e' d v H1)(z:(RL.avE M e' || RL.a6 e')=true)(hP:∀ b,P b->∃ o,H b=some o/\bX o)
 (av:∀ (j:Nat) (dj:RL.D) (vj:V),M.contains j=false->σD[j]?=some (some dj)->σ[j]?=some (some vj)->Rep P X.K H dj vj):∀ ds a,d=.lst ds->v=.ref a->¬ P a:=by
 intro ds a hd hv;subst hd hv;rw[Bool.or_eq_true]at z;rcases z with z | z
 ·obtain⟨p,xs,e1,e2,_⟩:=aC (r1.av M z P (fun b q=>by obtain⟨o,ho,_⟩:=hP b q;rw[ho];exact fun z=>nomatch z) av);cases e1;exact e2
 ·intro q;obtain⟨o,ho,_⟩:=hP a q;rw[r1.fresh z rfl a rfl]at ho;cases ho
def cK{P:Addr->Prop}{H H1:Hp}(s:ay H H1)(hP:∀ b,P b->∃ o,H b=some o/\bX o):∀ b o,P b->H1 b=some o->bX o:=fun b o q e=>by
 obtain⟨o',ho,m⟩:=hP b q;rw[s _ _ ho]at e;cases e;exact m
def eC{H1:Hp}:∀ b o,nP b->H1 b=some o->bX o:=fun b o q=>q.elim
def vS(hl:SE X cl l e')(hs:True):PI X tg l (fun σ H R=>∃ σD d ds,RV0 X.K σD σ H/\RL.ev cl σD e'=some d/\RL.gy d=some ds/\∀ J H1,ay H H1->sG X.K σD σ H (.seq e') J ds H1->R J H1):=by
 refine PI.weak (yL (t':=tE X.K cl e') hl) fun σ H R h=>?_;obtain⟨σD,d,ds,rv,e,ei,k⟩:=h;refine⟨σD,d,rv,e,fun v H1 r1=>?_⟩
 cases d with
 |fL es=>
  cases ei;have r:=r1.rep;rw[Rep]at r;obtain⟨p,ob,xs,rfl,hp,rs⟩:=r;exact .inl ⟨p,rfl,⟨xs,.inl (.inr ⟨ob,hp⟩)⟩,k _ _ r1.same ⟨oq hp rs eC,fun M P z hP av=>oq hp rs (cK r1.same hP)⟩⟩
 |lst es=>
  obtain⟨p,xs,rfl,hp,rs⟩:=dm (show RL.items (.lst es)=some ds from ei) r1.rep
  rcases hp with⟨hp,e9⟩ | ⟨hp,e9⟩ | ⟨hp,e9⟩
  ·cases e9;exact .inl ⟨p,rfl,⟨xs,SqL.of hp⟩,k _ _ r1.same ⟨mP hp rs (fun z=>z) eC,fun M P z hP av=>mP hp rs (pW r1 z hP av _ _ rfl rfl) (cK r1.same hP)⟩⟩
  ·cases e9
  ·cases e9
 |tup es=>
  obtain⟨p,xs,rfl,hp,rs⟩:=dm (show RL.items (.tup es)=some ds from ei) r1.rep
  rcases hp with⟨hp,e9⟩ | ⟨hp,e9⟩ | ⟨hp,e9⟩
  ·cases e9
  ·exact .inr ⟨p,rfl,⟨xs,SqT.of hp⟩,k _ _ r1.same ⟨p9 hp rs eC,fun M P z hP av=>p9 hp rs (cK r1.same hP)⟩⟩
  ·cases e9
 | _=>cases ei
def iH{x y:RL.D}{ds:List RL.D}(h:RL.cw x y=some ds):∃ i j:Int,x=.int i/\y=.int j/\(-(2 ^ 62)<=i/\i<2 ^ 62/\-(2 ^ 62)<=j/\j<2 ^ 62)/\(j-i).toNat<=RL.most/\ds=RL.bx i (j-i).toNat:=by
 have no:∀ {o:Option (List RL.D)},o=none->o=some ds->False:=fun e h=>by rw[e]at h;cases h
 cases x with
 | int i=>cases y with
  |int j=>
   obtain⟨hc,e⟩:=bz h
   have lo:-(2 ^ 62:Int)<=-(2 ^ 60):=by decide
   have hi:(2 ^ 60:Int)<2 ^ 62:=by decide
   exact⟨i,j,rfl,rfl,⟨Int.le_trans lo hc.2.1,Int.lt_trans hc.2.2.1 hi,Int.le_trans lo hc.2.2.2.1,Int.lt_trans hc.2.2.2.2 hi⟩,hc.1,e⟩
  | _=>exact(no rfl h).elim
 | _=>exact(no rfl h).elim
def tO(hg:Gl X "range")(hm:X.mg "range" = none)(ha:SE X cl a a')(hn:noStar a=true):SI X cl tg (.Call (.Name "range" p) [a] [] pos) (.rng1 a'):=by
 refine PI.weak (oB hg hm (bc (cl:=cl) ha bW hn) (a7 [] hn)) fun σ H R h=>?_;obtain⟨σD,ds,rv,e,k⟩:=h;obtain⟨x,ea,e⟩:=bind_some e;obtain⟨i,j,e1,rfl,hb,_,rfl⟩:=iH e;cases e1;refine⟨σD,[.int j],rv,by rw[RL.evs,ea];rfl,fun vs H1 s1 r1=>?_⟩;rw[ae]at r1;obtain⟨v,t,rfl,r2,r3⟩:=r1;rw[ae]at r3;subst r3;refine⟨j,by rw[aj r2],hb.2.2.1,hb.2.2.2,?_⟩
 have hz:(j-0).toNat=j.toNat:=by simp
 rw[hz]at k;exact k _ _ s1 ⟨iT,fun _ _ _ _ _=>iT⟩
def tY(hg:Gl X "range")(hm:X.mg "range" = none)(ha:SE X cl a a')(hb:SE X cl b b')(hn:noStar a=true)(hn2:noStar b=true):SI X cl tg (.Call (.Name "range" p) [a,b] [] pos) (.rng2 a' b'):=by
 refine PI.weak (p8 hg hm (bc (cl:=cl) ha (bc hb bW hn2) hn) (by rw[a7 _ hn,a7 _ hn2];rfl) (a7 [] hn2)) fun σ H R h=>?_;obtain⟨σD,ds,rv,e,k⟩:=h;obtain⟨x,ea,e⟩:=bind_some e;obtain⟨y,eb,e⟩:=bind_some e;obtain⟨i,j,rfl,rfl,hb,_,rfl⟩:=iH e;refine⟨σD,[.int i,.int j],rv,by rw[RL.evs,ea,RL.evs,eb];rfl,fun vs H1 s1 r1=>?_⟩;rw[ae]at r1;obtain⟨v,t,rfl,r2,r3⟩:=r1;rw[ae]at r3;obtain⟨u,t,rfl,r4,r5⟩:=r3;rw[ae]at r5;subst r5;exact⟨i,j,by rw[aj r2,aj r4],hb,k _ _ s1 ⟨iT,fun _ _ _ _ _=>iT⟩⟩
end rules
end RS
namespace L2
open PySem PySem.Spec PyProof.Rows
abbrev eI(ifs:List Expr)(env:Env):Sem Bool:=forIn ifs true fun c r=>if r=true then do let ok <- isTrue c env (eval c env);pure (ForInStep.yield ok)else pure (ForInStep.yield r)
section
def vo(h:wpAny M A m P (fun _ _=>False) s):wpAny M A m P E s :=
 wpAny_mono h (fun _ _ q=>q) fun _ _ z=>z.elim
def cn(h:wpAny M A m (fun a s1=>wpAny M A (k a) P E s1) (fun _ _=>False) s):wpAny M A (m >>= k) P E s:=wpAny_bind (vo h)
end
section
abbrev jV(prog:Program)(w:World)(A:Around)(elt tg:Expr)(ifs:List Expr)(it acc:Value)(env:Env)(stop next:Shared->Prop)(s:Shared):Prop :=
 wpAny (model prog w) A (pyNext it) (fun r s1=>match r with
  | none=>stop s1
  | some v=>wpAny (model prog w) A (letOwnedTupleGo tg it v) (fun _ s2=>wpAny (model prog w) A (assign tg env v) (fun _ s3=>wpAny (model prog w) A (eI ifs env) (fun ok s4 =>
     if ok=true then wpAny (model prog w) A (eval elt env) (fun x s5=>wpAny (model prog w) A (call (.builtin "list.append") [acc,x]) (fun _ s6=>next s6) (fun _ _=>False) s5) (fun _ _=>False) s4
     else next s4) (fun _ _=>False) s3) (fun _ _=>False) s2) (fun _ _=>False) s1) (fun _ _=>False) s
def sg(h:jV prog w A elt tg ifs it acc env stop next s) :
  wpAny (model prog w) A (compTurn (.ListComp elt [⟨tg,iter,ifs,0⟩] scope pos) 0 it acc env) (fun fin s'=>match fin with
   | .done f=>f=.next/\stop s'
   | .again c=>c=.compLoop (.ListComp elt [⟨tg,iter,ifs,0⟩] scope pos) 0 it acc env/\next s') E s:=by
 rw[compTurn_list];apply wpAny_bind;apply wpAny_standAt;apply cn;refine thn h fun r s1 h1=>?_
 cases r with
 |none=>
  apply wpAny_pure;exact⟨rfl,h1⟩
 |some v=>
  apply cn;refine thn h1 fun _ s2 h2=>?_;apply cn;refine thn h2 fun _ s3 h3=>?_;apply cn;refine thn h3 fun ok s4 h4=>?_;cases ok
  ·apply wpAny_pure;exact⟨rfl,h4⟩
  ·apply wpAny_bind;apply cn;refine thn h4 fun x s5 h5=>?_;apply cn;refine thn h5 fun _ s6 h6=>?_;apply wpAny_pure;apply wpAny_pure;exact⟨rfl,h6⟩
def pK(I:Nat->Shared->Prop)(turn:∀ n s,I n s->jV prog w A elt tg ifs it acc env (R (.ok .next)) (fun s'=>∃ m,m<n/\I m s') s)
 (n:Nat)(h:I n s):codeAny (model prog w) A (.compLoop (.ListComp elt [⟨tg,iter,ifs,0⟩] scope pos) 0 it acc env) R s :=
 codeAny_loop (M:=model prog w) rfl I (fun n s hI=>wpAny_noted (thn (sg (turn n s hI)) fun fin s' q=>by
  cases fin with
  |done f=>
   obtain⟨rfl,q⟩:=q;exact q
  | again c=>exact q)) n h
end
def gJ:∀ (names:List (Str × NameKind)) (n:Nat) (acc:List (Str × Addr)) (x:Str) (c:Addr),(cellsFrom n names acc).lookup x=some c->(acc.lookup x=some c/\(x,NameKind.cell)∉names)\/(n<=c/\(x,NameKind.cell)∈names)
 | [],n,acc,x,c,h=>.inl ⟨h,by simp⟩
 | (nm,k)::r,n,acc,x,c,h=>by
  unfold cellsFrom at h;by_cases hk:(k == NameKind.cell)=true
  ·rw[if_pos hk]at h
   have ek:k=.cell:=by simpa using hk
   subst ek
   rcases gJ r (n+1) ((nm,n)::acc) x c h with⟨a,b⟩ | ⟨a,b⟩
   ·rw[List.lookup_cons]at a
    cases hx:x == nm with
    |true=>
     rw[hx]at a;cases a
     have:x=nm:=by simpa using hx
     subst this;exact .inr ⟨Nat.le_refl _,List.mem_cons_self ..⟩
    |false=>
     rw[hx]at a;refine .inl ⟨a,fun z=>?_⟩;rcases List.mem_cons.mp z with z | z
     ·cases z;simp at hx
     ·exact b z
   ·exact .inr ⟨Nat.le_of_succ_le a,List.mem_cons_of_mem _ b⟩
  ·rw[if_neg hk]at h
   rcases gJ r n acc x c h with⟨a,b⟩ | ⟨a,b⟩
   ·refine .inl ⟨a,fun z=>?_⟩;rcases List.mem_cons.mp z with z | z
    ·cases z;exact hk (by simp)
    ·exact b z
   ·exact .inr ⟨a,List.mem_cons_of_mem _ b⟩
def jy:∀ (names:List (Str × NameKind)) (n:Nat) (acc:List (Str × Addr)) (x:Str),(x,NameKind.cell)∉names->(cellsFrom n names acc).lookup x=acc.lookup x
 | [],n,acc,x,_=>rfl
 | (nm,k)::r,n,acc,x,h=>by
  have hr:(x,NameKind.cell)∉r:=fun z=>h (List.mem_cons_of_mem _ z);unfold cellsFrom;by_cases hk:(k == NameKind.cell)=true
  ·rw[if_pos hk,jy r (n+1) _ x hr,List.lookup_cons]
   have ek:k=.cell:=by simpa using hk
   subst ek
   have:(x == nm)=false:=by
    rw[beq_eq_false_iff_ne];intro z;subst z;exact h (List.mem_cons_self ..)
   rw[this]
  ·rw[if_neg hk];exact jy r n acc x hr
def kO:∀ (names:List (Str × NameKind)) (n:Nat) (acc:List (Str × Addr)),(∀ x c,acc.lookup x=some c->c<n)->(∀ x y c,acc.lookup x=some c->acc.lookup y=some c->x=y)->∀ x y c,(cellsFrom n names acc).lookup x=some c->(cellsFrom n names acc).lookup y=some c->x=y
 | [],n,acc,_,hi,x,y,c,h1,h2=>hi x y c h1 h2
 | (nm,k)::r,n,acc,hl,hi,x,y,c,h1,h2=>by
  unfold cellsFrom at h1 h2;by_cases hk:(k == NameKind.cell)=true
  ·rw[if_pos hk]at h1 h2;refine kO r (n+1) ((nm,n)::acc) (fun x c e=>?_) (fun x y c e1 e2=>?_) x y c h1 h2
   ·rw[List.lookup_cons]at e
    cases hx:x == nm with
    | true=>rw[hx]at e;cases e;exact Nat.lt_succ_self _
    | false=>rw[hx]at e;exact Nat.lt_succ_of_lt (hl x c e)
   ·rw[List.lookup_cons]at e1 e2
    cases hx:x == nm with
    |true=>
     rw[hx]at e1;cases e1
     cases hy:y == nm with
     |true=>
      have a:x=nm:=by simpa using hx
      have b:y=nm:=by simpa using hy
      rw[a,b]
     |false=>
      rw[hy]at e2;exact absurd (hl y n e2) (Nat.lt_irrefl _)
    |false=>
     rw[hx]at e1
     cases hy:y == nm with
     |true=>
      rw[hy]at e2;cases e2;exact absurd (hl x n e1) (Nat.lt_irrefl _)
     |false=>
      rw[hy]at e2;exact hi x y c e1 e2
  ·rw[if_neg hk]at h1 h2;exact kO r n acc hl hi x y c h1 h2
def jA:∀ (names:List (Str × NameKind)) (h:Heap) (acc:List (Str × Addr)) (x:Str) (c:Addr),(cellsFrom h.objs.size names acc).lookup x=some c->acc.lookup x=some c\/(pushCells h names).IsCell c none
 | [],h,acc,x,c,e=>.inl e
 | (nm,k)::r,h,acc,x,c,e=>by
  unfold cellsFrom at e;unfold pushCells;by_cases hk:(k == NameKind.cell)=true
  ·rw[if_pos hk]at e ⊢
   have e':(cellsFrom (h.push { cls:=.type "cell",data:=.cell none }).objs.size r ((nm,h.objs.size)::acc)).lookup x=some c:=by rw[Heap.size_push];exact e
   rcases jA r (h.push { cls:=.type "cell",data:=.cell none }) ((nm,h.objs.size)::acc) x c e' with a | a
   ·rw[List.lookup_cons]at a
    cases hx:x == nm with
    |true=>
     rw[hx]at a;cases a;exact .inr ⟨_,pushCells_keeps r _ _ _ (Heap.get?_push_size _ rfl),rfl⟩
    |false=>
     rw[hx]at a;exact .inl a
   ·exact .inr a
  ·rw[if_neg hk]at e ⊢;exact jA r h acc x c e
def uA{M:Model}{A:Around}{E:Value->Shared->Prop}{s:Shared}{scope:Scope}{globals:Addr}{closure:List (Str × Addr)}{qual:Str}{func:Option Addr}{code:Value}{outer:Env}{builtins:Addr}{Q:Env->Shared->Prop}
 (hQ:Q (newEnv scope s.heap.objs.size globals (cellsFrom (s.heap.objs.size+1) scope.names closure) qual func code (some outer) builtins) { s with heap:=pushCells (s.heap.push { cls:=.type "dict",data:=.dict #[] }) scope.names }) :
  wpAny M A (newFunctionEnv scope globals closure [] qual func code (some outer) builtins) Q E s:=by
 simp only[newFunctionEnv,Option.isSome_some,if_true];refine wpAny_bind (wpAny_alloc ?_);refine wpAny_bind (wpAny_layCells _ (fun name kind cells=>by cases hkc:kind == NameKind.cell<;>simp[hkc]) _ _ _ _ ?_);rw[show({ s with heap:=s.heap.push { cls:=.type "dict",data:=.dict #[] } }:Shared).heap.objs.size=s.heap.objs.size+1 from Heap.size_push ..];refine wpAny_bind ?_;rw[List.forIn_nil];exact wpAny_pure (wpAny_pure hQ)
abbrev blk(X:Cx)(scope:Scope)(cls:List (Str × Addr))(C:Addr)(fp:List Addr)(s:Shared)(H:Hp):Cx where
 prog:=X.prog
 w:=X.w
 K:=X.K
 mg:=X.mg
 base:=X.base
 A:=X.A
 N:=X.N
 s₀:=s
 H₀:=H
 env:=compEnvC scope cls C X.env
 outer:=X.stack
 stack:=X.stack
 ex:=fp
 fn:=fun x=>scope.names.lookup x == some .cell
 calm:=X.calm
 pn:=[]
 xe:=fun _ _=>False
structure dE(scope:Scope)(sc:Scope)(cls:List (Str × Addr))(cells:List (Str × Addr)):Prop where
 kind:scope.kind=.function
 own:∀ x∈scope.names,x.2=.cell->scope.names.lookup x.1=some .cell
 loc:∀ x∈scope.names,x.2=.local->scope.names.lookup x.1=some .local
 sub:∀ x c,cls.lookup x=some c->cells.lookup x=some c
 has:∀ x,scope.names.lookup x=some .free->∃ c,cls.lookup x=some c
 vis:∀ x,scope.names.lookup x=some .free->sc.names.lookup x=some .cell\/sc.names.lookup x=some .free
def b8{env:Env}:∀ {names:List (Str × NameKind)} {x:Str} {k:NameKind},
  (names.map fun(n,k)=>if(k == NameKind.free&&env.scope.kind == .function&&env.kindOf n == some .cell)then(n,NameKind.cell)else(n,k)).lookup x=some k ->
  names.lookup x=some k\/(k=.cell/\names.lookup x=some .free/\env.kindOf x=some .cell)
 | [],x,k,h=>by simp at h
 | (n,k')::r,x,k,h=>by
  have ih:=@b8 env r x k;rw[List.map_cons]at h
  cases hx:x == n with
  |true=>
   have en:x=n:=by simpa using hx
   subst en;by_cases hc:(k' == NameKind.free&&env.scope.kind == .function&&env.kindOf x == some .cell)=true
   ·simp only[hc,if_true]at h;rw[List.lookup_cons,hx]at h;cases h;simp only[Bool.and_eq_true,beq_iff_eq]at hc;refine .inr ⟨rfl,?_,hc.2⟩;rw[List.lookup_cons,hx,hc.1.1]
   ·simp only[Bool.not_eq_true]at hc;simp only[hc,Bool.false_eq_true,if_false]at h;rw[List.lookup_cons,hx]at h;cases h;exact .inl (by rw[List.lookup_cons,hx])
  |false=>
   have h':(r.map fun(n,k)=>if(k == NameKind.free&&env.scope.kind == .function&&env.kindOf n == some .cell)then(n,NameKind.cell)else(n,k)).lookup x=some k:=by
    by_cases hc:(k' == NameKind.free&&env.scope.kind == .function&&env.kindOf n == some .cell)=true
    ·simp only[hc,if_true]at h;rw[List.lookup_cons,hx]at h;exact h
    ·simp only[Bool.not_eq_true]at hc;simp only[hc,Bool.false_eq_true,if_false]at h;rw[List.lookup_cons,hx]at h;exact h
   rcases ih h' with q | ⟨q1,q2,q3⟩
   ·exact .inl (by rw[List.lookup_cons,hx];exact q)
   ·exact .inr ⟨q1,by rw[List.lookup_cons,hx];exact q2,q3⟩
abbrev sS(X:Cx)(scope:Scope)(σ σB:St):Prop:=σB.length=σ.length/\∀ (i:Nat) (x:Str) (v:V),X.N[i]?=some x->σB[i]?=some (some v)->σ[i]?=some (some v)/\scope.names.lookup x≠some .local/\scope.names.lookup x≠some .cell
section
def Inv.hxb(I:Inv X pins σ H s):HX (blk X scope cls C fp s H):=by
 rcases I.ok.hd.2 with z | ⟨h,o,u,vs,h1,h2,h3⟩
 ·exact .inl z
 ·exact .inr ⟨h,o,u,vs,h1,I.base.eZ _ _ _ h2,h3⟩
def tN(I:Inv X pins σ H s)(S:dE scope X.env.scope cls X.env.cells)(hf:∀ b∈fp,fW X pins H b/\b<s.heap.objs.size)(ho:sS X scope σ σB)
 (hns:h'.Ns s.heap.objs.size (fun _=>none))(hk:∀ b o,s.heap.get? b=some o->h'.get? b=some o)(hcl:∀ x c,(cellsFrom (s.heap.objs.size+1) scope.names cls).lookup x=some c->cls.lookup x=some c\/h'.IsCell c none) :
  Inv (blk X scope (cellsFrom (s.heap.objs.size+1) scope.names cls) s.heap.objs.size fp s H) [] σB H { s with heap:=h',toks:=t }:=by
 have hC:H s.heap.objs.size=none:=I.hok.fresh (Nat.le_refl _)
 have clt:∀ x c,cls.lookup x=some c->c<s.heap.objs.size:=fun x c e=>by
  obtain⟨v,q⟩:=I.cell x c (S.sub x c e);exact q.lt
 have cas:∀ x c,(cellsFrom (s.heap.objs.size+1) scope.names cls).lookup x=some c->(X.env.cells.lookup x=some c/\c<s.heap.objs.size)\/(s.heap.objs.size+1<=c/\scope.names.lookup x=some .cell):=fun x c e=>by
  rcases gJ _ _ _ _ _ e with⟨a,_⟩ | ⟨a,b⟩
  ·exact .inl ⟨S.sub x c a,clt x c a⟩
  ·exact .inr ⟨a,S.own _ b rfl⟩
 have fre:∀ x c,cls.lookup x=some c->scope.names.lookup x=some .free->(cellsFrom (s.heap.objs.size+1) scope.names cls).lookup x=some c:=fun x c e f=>by
  rw[jy _ _ _ _ fun z=>by rw[S.own _ z rfl]at f;cases f];exact e
 refine⟨⟨I.ok.mod,?_,I.ok.glob,I.ok.blt,Nat.le_refl _,fun x y c h1 h2=>kO _ _ _ (fun x c e=>Nat.lt_succ_of_lt (clt x c e)) (fun x y c e1 e2=>I.ok.inj x y c (S.sub x c e1) (S.sub y c e2)) x y c h1 h2,fun x hx=>?_,fun x c z e=>?_,⟨I.ok.hd.1,I.hxb⟩,I.ok.frames,.inl rfl,fun b hb=>?_,fun b o e=>I.bs b o e,Nat.le_trans I.ok.bsz I.sz,fun b o e hb=>?_,fun b hb=>?_,I.stack,I.mB⟩,
  rfl,I.bare,Un.kept hk,⟨_,hns,fun i x v h1 h2 h3=>?_⟩,fun x c e=>?_,hC,fun x c e=>?_,fun p hp=>absurd hp (by simp[blk]),I.hok.kept hk,ho.1.trans I.len⟩
 ·exact S.kind
 ·have hx:(relabel scope X.env).names.lookup x=some .cell\/(relabel scope X.env).names.lookup x=some .free:=hx
  have key:scope.names.lookup x=some .cell\/scope.names.lookup x=some .free:=by
   rcases hx with hx | hx
   ·rcases b8 hx with q | ⟨_,q,_⟩
    ·exact .inl q
    ·exact .inr q
   ·rcases b8 hx with q | ⟨q,_⟩
    ·exact .inr q
    ·cases q
  rcases key with q | q
  ·have:=PySem.W.cellsFrom_some scope.names (s.heap.objs.size+1) cls (.inl q);exact Option.isSome_iff_exists.mp this
  ·obtain⟨c,hc⟩:=S.has x q;exact⟨c,fre x c hc q⟩
 ·have z:(scope.names.lookup x == some .cell)=true:=z
  rcases gJ _ _ _ _ _ (show(cellsFrom (s.heap.objs.size+1) scope.names cls).lookup x=some c from e)with⟨_,b⟩ | ⟨b,_⟩
  ·exact absurd (PySem.mem_of_lookup (by simpa using z)) b
  ·exact Nat.le_of_succ_le b
 ·obtain⟨⟨f0,f1,f2,f3,f4,f5⟩,f6⟩:=hf b hb;refine⟨Nat.ne_of_lt f6,fun x c e=>?_⟩
  rcases cas x c e with⟨a,_⟩ | ⟨a,_⟩
  ·exact f4 x c a
  ·exact Nat.ne_of_gt (Nat.lt_trans f6 a)
 ·obtain⟨⟨f0,f1,f2,f3,f4,f5⟩,f6⟩:=hf b hb;rcases f3 with z | z
  ·exact I.ok.kB b o e z
  ·exact absurd (Nat.lt_of_lt_of_le (Heap.lt_size e) I.ok.bsz) (Nat.not_lt.mpr z)
 ·obtain⟨⟨f0,f1,f2,f3,f4,f5⟩,f6⟩:=hf b hb;intro z;rcases List.mem_cons.mp (I.kQ b z)with e | e
  ·exact f1 e
  ·exact f2 e
 ·obtain⟨h4,h5,h6⟩:=ho.2 i x v h1 h2;have h3:(relabel scope X.env).names.lookup x=some .local\/(relabel scope X.env).names.lookup x=some .cell\/(relabel scope X.env).names.lookup x=some .free:=h3
  have key:scope.names.lookup x=some .free:=by
   rcases h3 with z | z | z
   ·rcases b8 z with q | ⟨q,_⟩
    ·exact absurd q h5
    ·cases q
   ·rcases b8 z with q | ⟨_,q,_⟩
    ·exact absurd q h6
    ·exact q
   ·rcases b8 z with q | ⟨q,_⟩
    ·exact q
    ·cases q
  obtain⟨c,hc⟩:=S.has x key;have hcx:=S.sub x c hc;obtain⟨m,hn,hl⟩:=I.loc;have hv:Vis X.env.scope x:=.inr (S.vis x key);obtain⟨u,ru,lk⟩:=hl i x v h1 h4 hv;refine⟨u,ru,.inr ⟨?_,c,fre x c hc key,?_⟩⟩
  ·rcases h3 with z | z
   ·rcases b8 z with q | ⟨q,_⟩
    ·exact absurd q h5
    ·cases q
   ·exact z
  ·rcases lk with⟨z,_⟩ | ⟨_,c',e',q⟩
   ·have z:X.env.scope.names.lookup x=some .local:=z;rcases S.vis x key with z' | z'<;>(rw[z]at z';cases z')
   ·rw[hcx]at e';cases e';obtain⟨o,g1,g2⟩:=q;exact⟨o,hk _ _ g1,g2⟩
 ·rcases hcl x c e with a | a
  ·obtain⟨v,q⟩:=I.cell x c (S.sub x c a);obtain⟨o,h1,h2⟩:=q;exact⟨v,o,hk _ _ h1,h2⟩
  ·exact⟨none,a⟩
 ·rcases cas x c e with⟨a,_⟩ | ⟨a,_⟩
  ·exact I.de x c a
  ·exact I.hok.fresh (Nat.le_of_succ_le a)
abbrev fA(wi:TI)(clr:St->St)(g:TG)(tc:TT)(te:TE):TE:=fun σ H Q=>wi σ H fun J H1=>∀ l,H1 l=none->∃ W:Nat->Nat->List V->Hp->Prop,(∃ m,W 0 m [] (upd H1 l (.lst []))) /\
 ∀ i m ys H2,W i m ys H2->H2 l=some (.lst ys)/\((J.stop i H2/\Q (.ref l) H2)\/(J.go i H2/\∀ x H3,J.yld i H2 x H3->g x (clr σ) H3 fun σ4 H4=>tc σ4 H4 fun k H5 =>
  if k=true then te σ4 H5 fun y H6=>H6 l=some (.lst ys)/\ys.length<sizeLine/\∃ m',m'<m/\W (i+1) m' (ys++[y]) (upd H6 l (.lst (ys++[y])))else ∃ m',m'<m/\W (i+1) m' ys H5))
structure k0(X:Cx)(scope:Scope)(tg:Expr)(ifs:List Expr)(elt:Expr)(clr:St->St)(g:TG)(tc:TT)(te:TE):Prop where
 htg:∀ cls C fp s H,PG (blk X scope cls C fp s H) tg g
 htc:∀ cls C fp s H pins s' σ H' Q,Inv (blk X scope cls C fp s H) pins σ H' s'->tc σ H' Q->wpAny (model X.prog X.w) X.A (eI ifs (compEnvC scope cls C X.env)) (TP (blk X scope cls C fp s H) pins σ Q) (fun _ _=>False) s'
 hte:∀ cls C fp s H,PE (blk X scope cls C fp s H) elt te
 xG:∀ σ:St,σ.length=X.N.length->sS X scope σ (clr σ)
 sD:∀ (x:V) (σ:St) (H:Hp) (Q:St->Hp->Prop),g x (clr σ) H Q->g x (clr σ) H fun σ2 H2=>Q σ2 H2/\(clr σ).length=σ2.length/\∀ (i:Nat) v,(clr σ)[i]?=some (some v)->σ2[i]?=some (some v)
def jR{elt tg iter:Expr}{ifs:List Expr}{pos:Pos}{wi:TI}{clr:St->St}{g:TG}{tc:TT}{te:TE}{Q:VK}{RR:Value->Addr->Result->Shared->Prop}{CM:Cx->Prop}(hc:∀ {pins:List (Addr × Obj)} {σ:St} {H:Hp} {s:Shared} (cls:List (Str × Addr)) (C:Addr) (fp:List Addr),Inv X pins σ H s->CM (blk X scope cls C fp s H))(S:dE scope X.env.scope cls X.env.cells)
 (hi:PI' CM X tg iter wi)(B:k0 X scope tg ifs elt clr g tc te)(I:Inv X pins σ H s)(h:fA wi clr g tc te σ H Q)
 (hRR:∀ l C H' s',Inv X pins σ H' s'->(∃ m,s'.heap.Ns C m)->H' C=none->C≠X.env.locals->X.s₀.heap.objs.size<=C->(∀ x c,X.env.cells.lookup x=some c->c≠C)->(∀ p∈X.pn++pins,p.1≠C)->Q (.ref l) H'->RR (.ref l) C (.ok .next) s') :
  wpAny (model X.prog X.w) X.A (eval iter X.env) (fun x s1=>wpAny (model X.prog X.w) X.A (pyIter x) (fun it s2=>wpAny (model X.prog X.w) X.A (newList []) (fun acc s3 =>
   wpAny (model X.prog X.w) X.A (newFunctionEnv scope X.env.globals cls [] X.env.qual none .none (some X.env)) (fun cenv s4 =>
    codeAny (model X.prog X.w) X.A (.compStart (.ListComp elt [⟨tg,iter,ifs,0⟩] scope pos) 0 it acc { cenv with scope:=relabel scope X.env }) (RR acc cenv.locals) s4) X.xe s3) X.xe s2) X.xe s1) X.xe s:=by
 refine thn (hi pins s σ H _ I h) fun x s1 h1=>thn h1 fun itv s2 h2=>?_;obtain⟨it,fp,tn,J,H2,e,I2,T,st2,f2,h3⟩:=h2;subst e
 have flt:∀ b∈fp,b<s2.heap.objs.size:=fun b hb=>by
  obtain⟨o,e,_⟩:=T.obj _ _ st2 b hb;exact Heap.lt_size e
 refine wpAny_newObj_type ?_
 have I3:Inv X pins σ (upd H2 s2.heap.objs.size (.lst [])) { s2 with heap:=s2.heap.push { cls:=.type "list",dict:=none,data:=.seq ([]:List Value).toArray } } :=
  I2.laid (t':=s2.toks) (fun b u e=>Heap.get?_push_of_some _ e) (Nat.le_refl _) ⟨Nat.zero_le _,[],0,.nil,Heap.get?_push_size _ rfl⟩
 have hl2:H2 s2.heap.objs.size=none:=I2.hok.fresh (Nat.le_refl _);obtain⟨W,⟨m0,w0⟩,turn⟩:=h3 s2.heap.objs.size hl2
 have f3:∀ b∈fp,fW X pins (upd H2 s2.heap.objs.size (.lst [])) b/\b<(s2.heap.push { cls:=.type "list",dict:=none,data:=.seq ([]:List Value).toArray }).objs.size:=fun b hb=>by
  obtain⟨z0,z⟩:=f2 b hb;refine⟨⟨?_,z⟩,?_⟩
  ·rw[aE (Nat.ne_of_lt (flt b hb))];exact z0
  ·rw[Heap.size_push];exact Nat.lt_succ_of_lt (flt b hb)
 generalize hs3:({ s2 with heap:=s2.heap.push { cls:=.type "list",dict:=none,data:=.seq ([]:List Value).toArray } }:Shared)=s3 at I3
 have hs3h:s3.heap=s2.heap.push { cls:=.type "list",dict:=none,data:=.seq ([]:List Value).toArray }:=by rw[<-hs3]
 rw[<-hs3h]at f3
 have st3:tn 0 s3.heap:=T.keep _ _ _ st2 fun b hb o e=>by rw[hs3h];exact Heap.get?_push_of_some _ e
 refine uA ?_;have k4:∀ b o,s3.heap.get? b=some o->(pushCells (s3.heap.push { cls:=.type "dict",data:=.dict #[] }) scope.names).get? b=some o:=fun b o e=>pushCells_keeps _ _ b o (Heap.get?_push_of_some _ e);have hns4:(pushCells (s3.heap.push { cls:=.type "dict",data:=.dict #[] }) scope.names).Ns s3.heap.objs.size (fun _=>none):=(Heap.Ns.new s3.heap (.type "dict")).keeps (pushCells_keeps _ _);have hcl4:∀ x c,(cellsFrom (s3.heap.objs.size+1) scope.names cls).lookup x=some c->cls.lookup x=some c\/(pushCells (s3.heap.push { cls:=.type "dict",data:=.dict #[] }) scope.names).IsCell c none:=fun x c e=>jA scope.names (s3.heap.push { cls:=.type "dict",data:=.dict #[] }) cls x c (by rw[Heap.size_push];exact e);generalize pushCells (s3.heap.push { cls:=.type "dict",data:=.dict #[] }) scope.names=h4 at k4 hns4 hcl4
 have I4:Inv (blk X scope (cellsFrom (s3.heap.objs.size+1) scope.names cls) s3.heap.objs.size fp s3 (upd H2 s2.heap.objs.size (.lst []))) [] (clr σ) (upd H2 s2.heap.objs.size (.lst [])) { s3 with heap:=h4 } :=
  tN (t:=s3.toks) I3 S f3 (B.xG σ I.len) hns4 k4 hcl4
 generalize hs4:({ s3 with heap:=h4 }:Shared)=s4 at I4
 have hs4h:s4.heap=h4:=by rw[<-hs4]
 generalize hH3:upd H2 s2.heap.objs.size (.lst [])=H3 at I3 I4 w0
 have st4:tn 0 s4.heap:=T.keep _ _ _ st3 fun b hb o e=>by rw[hs4h];exact k4 b o e
 have fn4:∀ b∈fp,H3 b=none:=fun b hb=>by rw[<-hH3];exact(f3 b hb).1.1
 have stat:∀ {H':Hp} {σ':St} {s':Shared},Inv (blk X scope (cellsFrom (s3.heap.objs.size+1) scope.names cls) s3.heap.objs.size fp s3 H3) [] σ' H' s'->(∀ b∈fp,H' b=none)->∀ b∈fp,fW (blk X scope (cellsFrom (s3.heap.objs.size+1) scope.names cls) s3.heap.objs.size fp s3 H3) [] H' b :=
  fun {H' σ' s'} J hn b hb=>⟨hn b hb,(J.ok.exf b hb).1,J.ok.lL b hb,.inl hb,(J.ok.exf b hb).2,fun p hp=>absurd hp (by simp[blk])⟩
 have fin:∀ {H':Hp} {s':Shared},Inv (blk X scope (cellsFrom (s3.heap.objs.size+1) scope.names cls) s3.heap.objs.size fp s3 H3) [] (clr σ) H' s'->Q (.ref s2.heap.objs.size) H'->RR (.ref s2.heap.objs.size) s3.heap.objs.size (.ok .next) s':=fun {H' s'} J q=>by
  obtain⟨m,hn,_⟩:=J.loc
  have J1:Inv X pins σ H' s':=I3.sr (s':=s') (ch:=fp) (J.os.trans rfl) J.base J.hok J.bare fun b hb=>by
   obtain⟨⟨g0,g1,g2,g3,g4,g5⟩,_⟩:=f3 b hb;exact⟨g3,g1,g4,g5⟩
  refine hRR _ _ H' s' J1 ⟨m,hn⟩ J.free (Nat.ne_of_gt I3.lt) I3.sz (fun x c e=>?_) (fun p hp=>?_) q
  ·obtain⟨v,z⟩:=I3.cell x c e;exact Nat.ne_of_lt z.lt
  ·exact Nat.ne_of_lt (Heap.lt_size (I3.pin p hp).1)
 have loop:codeAny (model X.prog X.w) X.A (.compLoop (.ListComp elt [⟨tg,iter,ifs,0⟩] scope pos) 0 (.ref it) (.ref s2.heap.objs.size) (compEnvC scope (cellsFrom (s3.heap.objs.size+1) scope.names cls) s3.heap.objs.size X.env))
   (RR (.ref s2.heap.objs.size) s3.heap.objs.size) s4:=by
  refine pK (fun n s'=>∃ i ys H',Inv (blk X scope (cellsFrom (s3.heap.objs.size+1) scope.names cls) s3.heap.objs.size fp s3 H3) [] (clr σ) H' s'/\tn i s'.heap/\(∀ b∈fp,H' b=none)/\W i n ys H') ?_ m0 ⟨0,[],H3,I4,st4,fn4,w0⟩;rintro n s5 ⟨i,ys,H5,I5,st5,fr5,w5⟩;obtain⟨hl5,tr⟩:=turn i n ys H5 w5
  rcases tr with⟨stop,qn⟩ | ⟨go,step⟩
  ·refine thn (T.done (blk X scope (cellsFrom (s3.heap.objs.size+1) scope.names cls) s3.heap.objs.size fp s3 H3) rfl rfl rfl (hc _ _ _ I3) i [] s5 (clr σ) H5 (fun _ _=>False) I5 (stat I5 fr5) st5 stop) fun r s6 ⟨hr,I6⟩=>?_;subst hr;exact fin I6 qn
  ·refine thn (T.item (blk X scope (cellsFrom (s3.heap.objs.size+1) scope.names cls) s3.heap.objs.size fp s3 H3) rfl rfl rfl (hc _ _ _ I3) i [] s5 (clr σ) H5 (fun _ _=>False) I5 (stat I5 fr5) st5 go) fun r s6 ⟨u,hr,h6⟩=>?_;subst hr;refine thn h6 fun _ s7 ⟨x,H7,I7,r7,y7,st7,fr7⟩=>?_;have I7':=I7.pinned (stat I7 fr7) (T.obj _ _ st7)
   have back:∀ {σ':St} {H':Hp} {s':Shared},Inv (blk X scope (cellsFrom (s3.heap.objs.size+1) scope.names cls) s3.heap.objs.size fp s3 H3) ([]++gA fp s7.heap) σ' H' s'->(clr σ).length=σ'.length->(∀ (i:Nat) v,(clr σ)[i]?=some (some v)->σ'[i]?=some (some v))->(∃ m ys',m<n/\W (i+1) m ys' H') ->
     ∃ m,m<n/\∃ i ys H',Inv (blk X scope (cellsFrom (s3.heap.objs.size+1) scope.names cls) s3.heap.objs.size fp s3 H3) [] (clr σ) H' s'/\tn i s'.heap/\(∀ b∈fp,H' b=none)/\W i m ys H':=fun {σ' H' s'} J el ew hw=>by
    obtain⟨m,ys',hm,w8⟩:=hw;refine⟨m,hm,i+1,ys',H',J.gd.weak el ew,T.keep _ _ _ st7 fun b hb o e=>(J.pin (b,o) (List.mem_append_right _ (List.mem_append_right _ (dZ hb e)))).1,fun b hb=>?_,w8⟩;obtain⟨o,e,d⟩:=T.obj _ _ st7 b hb;exact(J.pin (b,o) (List.mem_append_right _ (List.mem_append_right _ (dZ hb e)))).2.1
   refine thn (B.htg _ s3.heap.objs.size fp s3 H3 _ s7 (clr σ) H7 x u _ I7' r7 (B.sD x σ H7 _ (step x H7 y7))) fun _ s8 ⟨σ8,H8,I8,q8,el8,ew8⟩=>?_;refine thn (B.htc _ s3.heap.objs.size fp s3 H3 _ s8 σ8 H8 _ I8 q8) fun ok s9 ⟨H9,I9,q9⟩=>?_
   cases ok with
   |false=>
    have q9:∃ m',m'<n/\W (i+1) m' ys H9:=q9;obtain⟨m',hm,w9⟩:=q9;exact back I9 el8 ew8 ⟨m',ys,hm,w9⟩
   |true=>
    refine thn (B.hte _ s3.heap.objs.size fp s3 H3 _ s9 σ8 H9 _ I9 q9) fun v s10 ⟨y,H10,I10,r10,hl10,hz,m',hm,w10⟩=>?_;refine thn (jQ (X:=blk X scope (cellsFrom (s3.heap.objs.size+1) scope.names cls) s3.heap.objs.size fp s3 H3) _ s10 σ8 H10 (.ref s2.heap.objs.size) [y] (.ref s2.heap.objs.size) [v] (fun _ H'=>H'=upd H10 s2.heap.objs.size (.lst (ys++[y]))) I10 rfl (.cons r10 .nil) ⟨_,ys,y,rfl,rfl,hl10,hz,rfl⟩) fun _ s11 ⟨_,H11,I11,_,e11⟩=>?_;subst e11;exact back I11 el8 ew8 ⟨m',_,hm,w10⟩
 exact codeAny_compStart_list loop (T.self _ 0 _ _ _ st4 loop)
def mn{elt tg iter:Expr}{ifs:List Expr}{pos:Pos}{wi:TI}{clr:St->St}{g:TG}{tc:TT}{te:TE}{CM:Cx->Prop}(hc:∀ {pins:List (Addr × Obj)} {σ:St} {H:Hp} {s:Shared} (cls:List (Str × Addr)) (C:Addr) (fp:List Addr),Inv X pins σ H s->CM (blk X scope cls C fp s H))(S:dE scope X.env.scope cls X.env.cells)(hclos:closureFor scope X.env=pure cls)
 (hi:PI' CM X tg iter wi)(B:k0 X scope tg ifs elt clr g tc te)(hs:∀ x,foldedSetIterable iter X.env x=pure x):PE X (.ListComp elt [⟨tg,iter,ifs,0⟩] scope pos) (fA wi clr g tc te):=by
 intro pins s σ H Q I h;rw[eval_ListComp];refine wpAny_comprehension_free (use:=none) rfl hs hclos S.kind S.loc (jR (RR:=fun acc C=>compPost (model X.prog X.w) X.A X.xe none (EP X pins σ Q) acc C) hc S hi B I h ?_);intro l C H' s' J hn c0 c1 c2 c3 c4 q;obtain⟨m,hn⟩:=hn;exact⟨m,hn,fun h' sb=>⟨.ref l,H',J.turned (it:=C) (h':=h') (t':=s'.toks) (fun b o hb e=>(sb.2 b hb).trans e) c0 (Ne.symm (Ne.symm c1)) (.inr c2) c3 c4,rfl,q⟩⟩
abbrev yJ(i:Nat)(t:TE):TS:=fun D σ H=>t σ H fun v H1=>D.nx (σ.set i (some v)) H1
def mH(hc:X.calm=true)(hN:X.N.Nodup)(hiy:X.N[i]?=some y)(hy:X.env.scope.names.lookup y=some .local)
 (S:dE scope X.env.scope cls X.env.cells)(hclos:closureFor scope X.env=pure cls)
 (hi:PI X tg iter wi)(B:k0 X scope tg ifs elt clr g tc te)(hs:∀ x,foldedSetIterable iter X.env x=pure x)
 (hsw:swapsWith (.ListComp elt [⟨tg,iter,ifs,0⟩] scope pos) (some (.Name y py)) spos.line X.env=pure true) :
  PS X (.Assign [.Name y py] (.ListComp elt [⟨tg,iter,ifs,0⟩] scope pos) spos) (yJ i (fA wi clr g tc te)):=by
 intro pins s σ H D I h
 have back:∀ (l C:Addr) (H':Hp) (s':Shared),Inv X pins σ H' s'->(∃ m,s'.heap.Ns C m)->H' C=none->C≠X.env.locals->X.s₀.heap.objs.size<=C->(∀ x c,X.env.cells.lookup x=some c->c≠C)->(∀ p∈X.pn++pins,p.1≠C)->D.nx (σ.set i (some (.ref l))) H' ->
   compPost (model X.prog X.w) X.A X.xe (some (assign (.Name y py) X.env)) (fun _ s'=>SP X pins D .next s') (.ref l) C (.ok .next) s':=by
  intro l C H' s' J hn c0 c1 c2 c3 c4 q;obtain⟨m,hn⟩:=hn;show wpAny _ X.A (assign (.Name y py) X.env (.ref l)) _ _ s';refine wpAny_assign_Name (jX (v:=.ref l) J hN hiy (.inl hy) rfl (fun s2 J2 ⟨a,sb,ha⟩=>?_) (.inr hy))
  have hne:C≠a:=by
   rcases ha with z | z
   ·rw[z];exact c1
   ·exact(c3 _ _ z).symm
  exact⟨m,hn.sameBut sb hne,fun h' sb'=>⟨σ.set i (some (.ref l)),H',J2.turned (it:=C) (h':=h') (t':=s2.toks) (fun b o hb e=>(sb'.2 b hb).trans e) c0 c1 (.inr c2) c3 c4,q⟩⟩
 have core:=jR (RR:=fun acc C=>compPost (model X.prog X.w) X.A X.xe (some (assign (.Name y py) X.env)) (fun _ s'=>SP X pins D .next s') acc C) (pos:=pos) (fun _ _ _ _=>hc) S hi B I h back;have whole:=wpAny_comprehension_free (e:=.ListComp elt [⟨tg,iter,ifs,0⟩] scope pos) (newAcc:=newList []) (use:=some (assign (.Name y py) X.env)) (Q:=fun _ s'=>SP X pins D .next s') (pos:=iter.pos) rfl hs hclos S.kind S.loc core;rw[exec_Assign_Name_used (hs:=hsw)];apply wpAny_bind;apply wpAny_standAt;apply wpAny_bind;apply wpAny_bind;refine thn whole fun _ s' hq=>?_;apply wpAny_pure;apply wpAny_pure;exact hq
end
end L2
namespace RS
open PySem PySem.Spec PyProof.Rows L2
def fM:∀ (names:List (Str × NameKind)) (acc:List (Str × Addr)),(∀ x,(x,NameKind.free)∈names->∃ c,env.cells.lookup x=some c)->(∀ x c,acc.lookup x=some c->env.cells.lookup x=some c) ->
  ∃ cls,(forIn names acc fun(p:Str × NameKind) cs=>match p with | (name,kind)=>if(kind == NameKind.free)=true then do let c <- cellOf env name;pure (ForInStep.yield ((name,c)::cs))else pure (ForInStep.yield cs):Sem (List (Str × Addr)))=pure cls /\
   (∀ x c,cls.lookup x=some c->env.cells.lookup x=some c)/\(∀ x,(acc.lookup x).isSome=true\/(x,NameKind.free)∈names->∃ c,cls.lookup x=some c)
 | [],acc,_,ha=>⟨acc,rfl,ha,fun x hx=>by
   rcases hx with h | h
   ·exact Option.isSome_iff_exists.mp h
   ·simp at h⟩
 | (n,k)::r,acc,hn,ha=>by
  by_cases hk:k=.free
  ·subst hk;obtain⟨c,hc⟩:=hn n List.mem_cons_self
   have ha':∀ x c',((n,c)::acc).lookup x=some c'->env.cells.lookup x=some c':=fun x c' e=>by
    rw[List.lookup_cons]at e
    cases hx:x == n with
    |true=>
     rw[hx]at e;cases e;rw[show x=n by simpa using hx];exact hc
    |false=>
     rw[hx]at e;exact ha x c' e
   obtain⟨cls,h1,h2,h3⟩:=fM r ((n,c)::acc) (fun x hx=>hn x (List.mem_cons_of_mem _ hx)) ha';refine⟨cls,?_,h2,fun x hx=>h3 x ?_⟩
   ·rw[List.forIn_cons]
    have hcell:cellOf env n=pure c:=by unfold cellOf;rw[hc]
    simp only[beq_self_eq_true,if_true,hcell];exact h1
   ·rcases hx with h | h
    ·left;rw[List.lookup_cons];split<;>simp_all
    ·rcases List.mem_cons.mp h with e | e
     ·cases e;left;simp[List.lookup_cons]
     ·exact .inr e
  ·obtain⟨cls,h1,h2,h3⟩:=fM r acc (fun x hx=>hn x (List.mem_cons_of_mem _ hx)) ha;refine⟨cls,?_,h2,fun x hx=>h3 x ?_⟩
   ·rw[List.forIn_cons]
    have:(k == NameKind.free)=false:=by simpa using hk
    simp only[this,Bool.false_eq_true,if_false];exact h1
   ·rcases hx with h | h
    ·exact .inl h
    ·rcases List.mem_cons.mp h with e | e
     ·cases e;exact absurd rfl hk
     ·exact .inr e
def nG(h:∀ x,(x,NameKind.free)∈scope.names->∃ c,env.cells.lookup x=some c) :
  ∃ cls,closureFor scope env=pure cls/\(∀ x c,cls.lookup x=some c->env.cells.lookup x=some c)/\(∀ x,scope.names.lookup x=some .free->∃ c,cls.lookup x=some c):=by
 obtain⟨cls,h1,h2,h3⟩:=fM (env:=env) scope.names [] h (fun x c e=>by simp at e);refine⟨cls,?_,h2,fun x hx=>h3 x (.inr (PySem.mem_of_lookup hx))⟩;unfold closureFor;simp only[bind_pure_comp]at h1 ⊢;rw[h1];rfl
section
abbrev jn(K:PySem.W.Frag)(n:Nat)(t:TGs):TG:=fun v σ H Q=>∃ a xs,v=.ref a/\SqL K H a xs/\xs.length=n/\t xs σ H Q
def oz(hc:X.calm=true)(h:PGs X es t)(hn:(assignEach es X.env).length=n)(hst:(assignEach es X.env).findIdx? (·.1)=none):PG X (.Tuple es k pos) (jn X.K n t):=by
 intro pins s σ H v u Q I r hw;obtain⟨a,xs,e1,hq,hl,hw⟩:=hw;subst e1;cases r;obtain⟨its,rv,ht,hz⟩:=I.list hq
 have hsz:(assignEach es X.env).length=its.toArray.size:=by rw[hn,<-hl,rv.length,List.size_toArray]
 rw[PyProof.Rows.assign_Tuple];refine wpAny_bind (wpAny_standAt ?_);unfold unpack;rw[hsz,hst];refine wpAny_bind (wpAny_holding (PySem.W.kun_itemsOf (I.ok.hd.1 hc) ht.isList fun h' hx=>?_));have I1:Inv X pins σ H { s with heap:=h' }:=I.kept (t':=s.toks) fun b o e=>hx b o (Nat.ne_of_lt (Heap.lt_size e)) e;exact h pins _ σ H xs _ Q I1 (by simpa using rv) hw
end
section
def pF(h:PG X tgE t)(h':PG X tgE t'):PG X tgE (fun v σ H Q=>t v σ H Q\/t' v σ H Q):=by
 intro pins s σ H v u Q I r hw;rcases hw with q | q
 ·exact h pins s σ H v u Q I r q
 ·exact h' pins s σ H v u Q I r q
end
abbrev gs:List Nat->TGs
 | []=>wq
 | i::r=>sI (gR i) (gs r)
abbrev gT(K:PySem.W.Frag):List Nat->TG
 | [i]=>gR i
 | is=>fun v σ H Q=>ji K is.length (gs is) v σ H Q\/jn K is.length (gs is) v σ H Q
abbrev cj:List Nat->List V->L2.St->L2.St
 | i::is,v::vs,σ=>cj is vs (σ.set i (some v))
 | _,_,σ=>σ
abbrev cJ:List Nat->List RL.D->RL.St->RL.St
 | i::is,d::ds,σ=>cJ is ds (σ.set i (some d))
 | _,_,σ=>σ
def dD:∀ {is:List Nat} {ds:List RL.D} {σ σ1:RL.St},RL.ba is ds σ=some σ1->is.length=ds.length/\σ1=cJ is ds σ
 | [],[],σ,σ1,h=>by cases h;exact⟨rfl,rfl⟩
 | [],d::ds,σ,σ1,h=>by cases h
 | i::is,[],σ,σ1,h=>by cases h
 | i::is,d::ds,σ,σ1,h=>by
  obtain⟨h1,h2⟩:=dD (is:=is) (ds:=ds) (σ:=σ.set i (some d)) h;exact⟨by simp[h1],h2⟩
def eV:∀ {is:List Nat} {vs:List V} {σ:L2.St} {H:Hp} {Q:L2.St->Hp->Prop},is.length=vs.length->Q (cj is vs σ) H->gs is vs σ H Q
 | [],[],σ,H,Q,_,q=>⟨rfl,q⟩
 | [],_::_,_,_,_,h,_=>by simp at h
 | _::_,[],_,_,_,h,_=>by simp at h
 | i::is,v::vs,σ,H,Q,h,q=>⟨v,vs,rfl,eV (is:=is) (by simpa using h) q⟩
def sq{K:PySem.W.Frag}(h:RL.bP tg d σD=some σD1)(r:Rep nP K H d v) :
  ∃ ds vs,σD1=cJ tg ds σD/\tg.length=ds.length/\ae nP K H ds vs/\(d.imm=true->RL.ao ds=true)/\∀ (σ:L2.St) (Q:L2.St->Hp->Prop),Q (cj tg vs σ) H->gT K tg v σ H Q:=by
 unfold RL.bP at h;split at h
 ·rename_i i;cases h;exact⟨[d],[v],rfl,rfl,ae.cons r ae.nil,fun z=>by simp[RL.ao,z],fun σ Q q=>q⟩
 ·rename_i hne
  have key:gT K tg=fun v σ H Q=>ji K tg.length (gs tg) v σ H Q\/jn K tg.length (gs tg) v σ H Q:=by
   unfold gT;split
   ·rename_i i;exact absurd rfl (hne i)
   ·rfl
  rw[key];split at h
  ·rename_i ds;obtain⟨h1,h2⟩:=dD h;obtain⟨p,xs,rfl,e2,e3⟩:=aQ r;exact⟨ds,xs,h2,h1,e3,fun z=>by rw[RL.D.imm]at z;exact z,fun σ Q q=>.inl ⟨p,xs,rfl,SqT.of e2,by rw[<-e3.length,h1],eV (h1.trans e3.length) q⟩⟩
  ·rename_i ds;obtain⟨h1,h2⟩:=dD h;obtain⟨p,xs,rfl,_,e2,e3⟩:=aC r;exact⟨ds,xs,h2,h1,e3,fun z=>(by cases z),fun σ Q q=>.inr ⟨p,xs,rfl,SqL.of e2,by rw[<-e3.length,h1],eV (h1.trans e3.length) q⟩⟩
  ·cases h
def kP:∀ (is:List Nat) (vs:List V) (σ:L2.St),(cj is vs σ).length=σ.length
 | [],_,_=>rfl
 | _::_,[],_=>rfl
 | i::is,v::vs,σ=>by rw[cj,kP is vs,List.length_set]
def jl:∀ (is:List Nat) (vs:List V) (σ:L2.St) (j:Nat),is.contains j=false->(cj is vs σ)[j]?=σ[j]?
 | [],_,_,_,_=>rfl
 | _::_,[],_,_,_=>rfl
 | i::is,v::vs,σ,j,h=>by
  rw[List.contains_cons,Bool.or_eq_false_iff]at h;rw[cj,jl is vs _ j h.2,List.getElem?_set_ne (by intro e;subst e;simp at h)]
def iz:∀ (is:List Nat) (vs:List RL.D) (σ:RL.St),(cJ is vs σ).length=σ.length
 | [],_,_=>rfl
 | _::_,[],_=>rfl
 | i::is,v::vs,σ=>by rw[cJ,iz is vs,List.length_set]
def gK:∀ (is:List Nat) (vs:List RL.D) (σ:RL.St) (j:Nat),is.contains j=false->(cJ is vs σ)[j]?=σ[j]?
 | [],_,_,_,_=>rfl
 | _::_,[],_,_,_=>rfl
 | i::is,v::vs,σ,j,h=>by
  rw[List.contains_cons,Bool.or_eq_false_iff]at h;rw[cJ,gK is vs _ j h.2,List.getElem?_set_ne (by intro e;subst e;simp at h)]
abbrev RVx(T:List Nat)(K:PySem.W.Frag)(σD:RL.St)(σ:L2.St)(H:Hp):Prop:=σD.length<=σ.length/\∀ (i:Nat) (d:RL.D),T.contains i=false->σD[i]?=some (some d)->∃ v,σ[i]?=some (some v)/\Rep nP K H d v
def RVx.set{K:PySem.W.Frag}(h:RVx (i::T) K σD σ H)(r:Rep nP K H d v):RVx T K (σD.set i (some d)) (σ.set i (some v)) H:=⟨by simpa using h.1,fun j dj hT e=>by
 by_cases hj:j=i
 ·subst hj
  have hlt:j<σD.length:=by
   have:=(List.getElem?_eq_some_iff.mp e).1;simpa using this
  rw[List.getElem?_set_self hlt]at e;cases e;exact⟨v,by rw[List.getElem?_set_self (Nat.lt_of_lt_of_le hlt h.1)],r⟩
 ·rw[List.getElem?_set_ne (Ne.symm hj)]at e ⊢
  exact h.2 j dj (by rw[List.contains_cons,hT,Bool.or_false];simpa using hj) e⟩
def RVx.ba{K:PySem.W.Frag}:∀ {is:List Nat} {ds:List RL.D} {vs:List V} {σD:RL.St} {σ:L2.St},RVx is K σD σ H->is.length=ds.length->ae nP K H ds vs->RV0 K (cJ is ds σD) (cj is vs σ) H
 | [],_,_,_,_,h,_,_=>⟨h.1,fun i d e=>h.2 i d rfl e⟩
 | i::is,[],_,_,_,_,hl,_=>by simp at hl
 | i::is,d::ds,vs,σD,σ,h,hl,r=>by
  rw[ae]at r;obtain⟨v,t,rfl,r1,r2⟩:=r;rw[cJ,cj];exact RVx.ba (h.set r1) (by simpa using hl) r2
def wJ{K:PySem.W.Frag}(h:gT K tg v σ H Q):∃ vs,tg.length=vs.length/\Q (cj tg vs σ) H/\∀ Q':L2.St->Hp->Prop,Q' (cj tg vs σ) H->gT K tg v σ H Q':=by
 have inv:∀ (is:List Nat) (xs:List V) (σ:L2.St) (Q:L2.St->Hp->Prop),gs is xs σ H Q->is.length=xs.length/\Q (cj is xs σ) H:=by
  intro is
  induction is with
  | nil=>intro xs σ Q h;obtain⟨rfl,q⟩:=h;exact⟨rfl,q⟩
  |cons i r ih=>
   intro xs σ Q h;obtain⟨v,t,rfl,q⟩:=h;obtain⟨h1,h2⟩:=ih t _ Q q;exact⟨by simp[h1],h2⟩
 unfold gT at h;split at h
 ·rename_i i;exact⟨[v],rfl,h,fun Q' q=>q⟩
 ·rename_i hne
  have key:gT K tg=fun v σ H Q=>ji K tg.length (gs tg) v σ H Q\/jn K tg.length (gs tg) v σ H Q:=by
   unfold gT;split
   ·rename_i i;exact absurd rfl (hne i)
   ·rfl
  rw[key]
  rcases h with⟨a,xs,rfl,hq,hl,hg⟩ | ⟨a,xs,rfl,hq,hl,hg⟩
  ·obtain⟨h1,h2⟩:=inv _ _ _ _ hg;exact⟨xs,h1,h2,fun Q' q=>.inl ⟨a,xs,rfl,hq,hl,eV h1 q⟩⟩
  ·obtain⟨h1,h2⟩:=inv _ _ _ _ hg;exact⟨xs,h1,h2,fun Q' q=>.inr ⟨a,xs,rfl,hq,hl,eV h1 q⟩⟩
abbrev dP(tg:List Nat)(σ:L2.St):L2.St:=σ.mapIdx fun i o=>if tg.contains i then none else o
def lx(tg:List Nat)(σ:L2.St):(dP tg σ).length=σ.length:=by simp[dP]
def mD(h:tg.contains i=false):(dP tg σ)[i]?=σ[i]?:=by
 unfold dP;rw[List.getElem?_mapIdx]
 cases σ[i]? with
 | none=>rfl
 | some o=>simp only[Option.map_some,h,Bool.false_eq_true,if_false]
def mN(h:tg.contains i=true):(dP tg σ)[i]?≠some (some v):=by
 unfold dP;rw[List.getElem?_mapIdx]
 cases σ[i]? with
 | none=>simp
 | some o=>simp only[Option.map_some,h,if_true];intro z;cases z
section comp
variable{X:Cx}
structure hV(X:Cx)(cl:RL.Cl)(scope:Scope)(tgE:Expr)(tg:List Nat)(elt:Expr)(e':RL.E)(tcs:TT)(ifs:List Expr):Prop where
 htg:∀ cls C fp s H,PG (blk X scope cls C fp s H) tgE (gT X.K tg)
 htc:∀ cls C fp s H pins s' σ H' Q,Inv (blk X scope cls C fp s H) pins σ H' s'->tcs σ H' Q->wpAny (model X.prog X.w) X.A (eI ifs (compEnvC scope cls C X.env)) (TP (blk X scope cls C fp s H) pins σ Q) (fun _ _=>False) s'
 hte:∀ cls C fp s H,SE (blk X scope cls C fp s H) cl elt e'
 cover:∀ (i:Nat) (x:Str),X.N[i]?=some x->scope.names.lookup x=some .local\/scope.names.lookup x=some .cell->tg.contains i=true
def hV.blk{tcs:TT}(B:hV X cl scope tgE tg elt e' tcs ifs):k0 X scope tgE ifs elt (dP tg) (gT X.K tg) tcs (tE X.K cl e') where
 htg:=B.htg
 htc:=B.htc
 hte:=B.hte
 xG:=fun σ hl=>⟨lx tg σ,fun i x v h1 h2=>by
  by_cases hc:tg.contains i=true
  ·exact absurd h2 (mN hc)
  ·simp only[Bool.not_eq_true]at hc;rw[mD hc]at h2;refine⟨h2,fun z=>?_,fun z=>?_⟩
   ·rw[B.cover i x h1 (.inl z)]at hc;cases hc
   ·rw[B.cover i x h1 (.inr z)]at hc
    cases hc⟩
 sD:=fun x σ H Q h=>by
  obtain⟨vs,h1,h2,h3⟩:=wJ h;refine h3 _ ⟨h2,(kP _ _ _).symm,fun i v e=>?_⟩;by_cases hc:tg.contains i=true
  ·exact absurd e (mN hc)
  ·simp only[Bool.not_eq_true]at hc;rw[jl _ _ _ _ hc];exact e
def oQ(h:RL.cu f tg σ (d::r)=some ys):∃ σ1 y ys',RL.bP tg d σ=some σ1/\f σ1=some y/\RL.cu f tg σ r=some ys'/\RL.kI y ys'=some ys:=by
 rw[RL.cu]at h;obtain⟨σ1,h1,h⟩:=bind_some h;obtain⟨y,h2,h⟩:=bind_some h;obtain⟨ys',h3,h⟩:=bind_some h;exact⟨σ1,y,ys',h1,h2,h3,h⟩
def mO(rv:RV0 X.K σD σ H)(ei:RL.bN cl σD it=some ds)(hz:ds.length<=RL.most)(hm:RL.cu f tg σD ds=some total)
 (ht:∀ σ1 σV H y (Q:Bool->Hp->Prop),RV0 X.K σ1 σV H->f σ1=some y->(∀ k H',ay H H'->(if k=true then ∃ d,y=some d/\RL.ev cl σ1 e'=some d else y=none)->Q k H')->tcs σV H Q)
 (k:∀ l H',ay H H'->H l=none->(∃ xs,H' l=some (.lst xs)/\ae nP X.K H' total xs)->Q (.ref l) H'):fA (tI X.K cl it) (dP tg) (gT X.K tg) tcs (tE X.K cl e') σ H Q:=by
 refine⟨σD,ds,rv,ei,fun J H1 s1 src l hl=>?_⟩;obtain⟨ok,_⟩:=src
 refine⟨fun i m xs H2=>∃ don rest,m=ds.length-i/\i<=ds.length/\ay H1 H2/\H2 l=some (.lst xs)/\ae (fun p=>p=l) X.K H2 don xs/\RL.cu f tg σD (ds.drop i)=some rest/\don++rest=total/\don.length<=i,
  ⟨_,[],total,rfl,Nat.zero_le _,ay.c8 hl,aV,ae.nil,hm,rfl,Nat.le_refl _⟩,?_⟩
 rintro i m xs H2 ⟨don,rest,rfl,hi,s2,hl2,rs,hr,htot,hdn⟩;refine⟨hl2,?_⟩;have off:Off nP H1 H2:=Off.same s2;by_cases hlt:i<ds.length
 ·refine .inr ⟨ok.go H2 i off hlt,fun x H3 y=>?_⟩
  have hd:ds[i]?=some ds[i]:=by simp[hlt]
  obtain⟨s3,rp⟩:=ok.yld H2 i ds[i] x H3 off hd y;have rp:=rp (.inr s2);rw[List.drop_eq_getElem_cons hlt]at hr;obtain⟨σ1,y1,ys',h1,h2,h3,h4⟩:=oQ hr;obtain⟨dv,vs,e1,e2,e3,_,e5⟩:=sq h1 rp;refine e5 _ _ ?_;have rv3:RV0 X.K σD σ H3:=rv.same ((s1.trans s2).trans s3)
  have rvx:RVx tg X.K σD (dP tg σ) H3:=⟨by rw[lx];exact rv3.1,fun j d hT e=>by rw[mD hT];exact rv3.2 j d e⟩
  have rv1:RV0 X.K σ1 (cj tg vs (dP tg σ)) H3:=by rw[e1];exact rvx.ba e2 e3
  refine ht σ1 _ H3 y1 _ rv1 h2 fun t H5 s5 hy=>?_;have hl5:H5 l=some (.lst xs):=s5 _ _ (s3 _ _ hl2);have rs5:ae (fun p=>p=l) X.K H5 don xs:=(rs.same s3).same s5
  cases t with
  |true=>
   obtain⟨d,rfl,hv⟩:=(show ∃ d,y1=some d/\RL.ev cl σ1 e'=some d from hy)
   have him:d.imm=true/\rest=d::ys':=by
    unfold RL.kI at h4;dsimp only at h4;split at h4
    ·rename_i hh;cases h4;exact⟨hh,rfl⟩
    ·cases h4
   refine e8 ⟨σ1,d,rv1.same s5,hv,fun v H6 r6=>⟨r6.same _ _ hl5,?_,ds.length-(i+1),by lia,don++[d],ys',rfl,hlt,?_,aV,?_,h3,?_,?_⟩⟩
   ·rw[<-rs.length];exact Nat.lt_of_lt_of_le (Nat.lt_of_le_of_lt hdn (Nat.lt_of_lt_of_le hlt hz)) (Nat.le_of_lt (by decide))
   ·intro b o e;have hb:b≠l:=aJ e hl;rw[aE hb];exact r6.same _ _ (s5 _ _ (s3 _ _ (s2 _ _ e)))
   ·exact ae.upd (P:=fun p=>p=l) (r6.same _ _ hl5) (.inl ⟨_,rfl⟩) rfl (ae.append (rs5.same r6.same) (ae.cons (r6.rep.imm him.1) ae.nil))
   ·rw[<-htot,him.2,List.append_assoc];rfl
   ·rw[List.length_append,List.length_singleton];lia
  |false=>
   have hy:y1=none:=hy;subst hy
   have hr2:rest=ys':=by
    unfold RL.kI at h4;dsimp only at h4;cases h4;rfl
   refine fb ⟨ds.length-(i+1),by lia,don,ys',rfl,hlt,(s2.trans s3).trans s5,hl5,rs5,h3,by rw[<-htot,hr2],by lia⟩
 ·have e:i=ds.length:=by lia
  subst e;refine .inl ⟨ok.stop H2 off,k l H2 (s1.trans s2) (s1.free hl) ⟨xs,hl2,?_⟩⟩;rw[List.drop_length,RL.cu]at hr;cases hr;rw[List.append_nil]at htot;rw[<-htot];exact ae.weak (fun _ z=>z.elim) rs
end comp
section comp
variable{X:Cx}
structure jC(scope sc:Scope):Prop where
 kind:scope.kind=.function
 own:∀ x∈scope.names,x.2=.cell->scope.names.lookup x.1=some .cell
 loc:∀ x∈scope.names,x.2=.local->scope.names.lookup x.1=some .local
 vis:∀ x∈scope.names,x.2=.free->sc.names.lookup x.1=some .cell\/sc.names.lookup x.1=some .free
def dY(S:jC scope X.env.scope)(I:Inv X pins σ H s):∃ cls,closureFor scope X.env=pure cls/\dE scope X.env.scope cls X.env.cells:=by
 obtain⟨cls,h1,h2,h3⟩:=nG (env:=X.env) (scope:=scope) fun x hx=>I.ok.has x (S.vis _ hx rfl);exact⟨cls,h1,S.kind,S.own,S.loc,h2,h3,fun x hx=>S.vis _ (PySem.mem_of_lookup hx) rfl⟩
def kC(sm:ay H H')(hl:H l=none)(h:∃ xs,H' l=some (.lst xs)/\ae nP X.K H' total xs)(hav:∀ M,RL.avE M e=false):Res X.K σD σ H e (.lst total) (.ref l) H' where
 same:=sm
 rep:=by
  obtain⟨xs,h1,h2⟩:=h;rw[Rep];exact⟨l,xs,rfl,fun z=>z,h1,h2⟩
 fresh:=fun _ _ a z=>by cases z;exact hl
 av:=fun M z=>by rw[hav M]at z;cases z
abbrev iV:TT:=fun _ H Q=>Q true H
def kN(h:tE X.K cl (.compA e' tg it) σ H Q):fA (tI X.K cl it) (dP tg) (gT X.K tg) iV (tE X.K cl e') σ H Q:=by
 obtain⟨σD,d,rv,e,k⟩:=h;obtain⟨ds,e1,e⟩:=bind_some e;obtain⟨ds',e2,e⟩:=bind_some e;obtain⟨total,e3,e4⟩:=map_some e;unfold RL.fits at e2;split at e2
 ·rename_i hz;cases e2;subst e4;refine mO (f:=fun σ1=>(RL.ev cl σ1 e').map some) rv e1 hz e3 (fun σ1 σV H y Q rv1 hy q=>?_) fun l H' sm hl hx=>k _ _ (kC sm hl hx fun _=>rfl);obtain⟨d,h1,h2⟩:=map_some hy;exact q true H (ay.refl H) (e8 ⟨d,h2.symm,h1⟩)
 ·cases e2
def lg(h:tE X.K cl (.comp e' tg it c') σ H Q):fA (tI X.K cl it) (dP tg) (gT X.K tg) (tT X.K cl c') (tE X.K cl e') σ H Q:=by
 obtain⟨σD,d,rv,e,k⟩:=h;obtain⟨ds,e1,e⟩:=bind_some e;obtain⟨ds',e2,e⟩:=bind_some e;obtain⟨total,e3,e4⟩:=map_some e;unfold RL.fits at e2;split at e2
 ·rename_i hz;cases e2;subst e4;refine mO rv e1 hz e3 (fun σ1 σV H y Q rv1 hy q=>?_) fun l H' sm hl hx=>k _ _ (kC sm hl hx fun _=>rfl);obtain⟨t,h1,h2⟩:=bind_some hy;refine⟨σ1,t,rv1,h1,fun H' sm=>q t H' sm ?_⟩
  cases t with
  |true=>
   obtain⟨d,h3,h4⟩:=map_some (show(RL.ev cl σ1 e').map some=some y from h2);exact e8 ⟨d,h4.symm,h3⟩
  |false=>
   cases(show(some none:Option (Option RL.D))=some y from h2);exact fb rfl
 ·cases e2
def qu(hc:X.calm=true)(S:jC scope X.env.scope)(hi:SI X cl tgE iter it)(B:hV X cl scope tgE tg elt e' iV [])(hs:∀ x,foldedSetIterable iter X.env x=pure x):SE X cl (.ListComp elt [⟨tgE,iter,[],0⟩] scope pos) (.compA e' tg it):=by
 intro pins s σ H Q I h;obtain⟨cls,h1,h2⟩:=dY S I;exact mn (fun _ _ _ _=>hc) h2 h1 hi B.blk hs pins s σ H Q I (kN h)
def r8(hc:∀ {pins:List (Addr × Obj)} {σ:L2.St} {H:Hp} {s:Shared} (cls:List (Str × Addr)) (C:Addr) (fp:List Addr),Inv X pins σ H s->CM (blk X scope cls C fp s H))(S:jC scope X.env.scope)(hi:PI' CM X tgE iter (tI X.K cl it))(B:hV X cl scope tgE tg elt e' (tT X.K cl c') [c])(hs:∀ x,foldedSetIterable iter X.env x=pure x):SE X cl (.ListComp elt [⟨tgE,iter,[c],0⟩] scope pos) (.comp e' tg it c'):=by
 intro pins s σ H Q I h;obtain⟨cls,h1,h2⟩:=dY S I;exact mn hc h2 h1 hi B.blk hs pins s σ H Q I (lg h)
abbrev SA(X:Cx)(cl:RL.Cl)(st:Stmt)(i:Nat)(e':RL.E):Prop:=PS X st (fun D σ H=>tE X.K cl e' σ H fun v H1=>D.nx (σ.set i (some v)) H1)
def PS.weak{st:Stmt}(h:PS X st t)(w:∀ D σ H,t' D σ H->t D σ H):PS X st t':=fun pins s σ H D I q=>h pins s σ H D I (w D σ H q)
def PSs.weak{st:List Stmt}(h:PSs X st t)(w:∀ D σ H,t' D σ H->t D σ H):PSs X st t':=fun pins s σ H D I q=>h pins s σ H D I (w D σ H q)
def qr(hc:X.calm=true)(hN:X.N.Nodup)(hiy:X.N[i]?=some y)(hy:X.env.scope.names.lookup y=some .local)(S:jC scope X.env.scope)(hi:SI X cl tgE iter it)(B:hV X cl scope tgE tg elt e' iV [])(hs:∀ x,foldedSetIterable iter X.env x=pure x)
 (hsw:swapsWith (.ListComp elt [⟨tgE,iter,[],0⟩] scope pos) (some (.Name y py)) spos.line X.env=pure true):SA X cl (.Assign [.Name y py] (.ListComp elt [⟨tgE,iter,[],0⟩] scope pos) spos) i (.compA e' tg it):=by
 intro pins s σ H D I h;obtain⟨cls,h1,h2⟩:=dY S I;exact mH hc hN hiy hy h2 h1 hi B.blk hs hsw pins s σ H D I (kN h)
def rQ(hc:X.calm=true)(hN:X.N.Nodup)(hiy:X.N[i]?=some y)(hy:X.env.scope.names.lookup y=some .local)(S:jC scope X.env.scope)(hi:SI X cl tgE iter it)(B:hV X cl scope tgE tg elt e' (tT X.K cl c') [c])(hs:∀ x,foldedSetIterable iter X.env x=pure x)
 (hsw:swapsWith (.ListComp elt [⟨tgE,iter,[c],0⟩] scope pos) (some (.Name y py)) spos.line X.env=pure true):SA X cl (.Assign [.Name y py] (.ListComp elt [⟨tgE,iter,[c],0⟩] scope pos) spos) i (.comp e' tg it c'):=by
 intro pins s σ H D I h;obtain⟨cls,h1,h2⟩:=dY S I;exact mH hc hN hiy hy h2 h1 hi B.blk hs hsw pins s σ H D I (lg h)
def qQ(hN:X.N.Nodup)(hiy:X.N[i]?=some y)(hx:Loc X.env.scope y)(he:SE X cl e e')(hf:X.fn y=true\/X.env.scope.names.lookup y=some .local)(hs:swapsWith e (some (.Name y py)) spos.line X.env=pure false)(hf2:True):SA X cl (.Assign [.Name y py] e spos) i e':=by
 exact qh hN hiy hx he hs hf
end comp
abbrev aW(M:List Nat)(σ:L2.St):Addr->Prop:=fun a=>∃ i,M.contains i=true/\σ[i]?=some (some (.ref a))
abbrev Own(K:PySem.W.Frag)(H:Hp)(d:RL.D)(v:V):Prop:=gC d=true/\RL.aH d=true/\Rep nP K H d v
structure RVm(K:PySem.W.Frag)(M:List Nat)(σD:RL.St)(σ:L2.St)(H:Hp):Prop where
 len:σD.length=σ.length
 val:∀ (i:Nat) (d:RL.D),σD[i]?=some (some d)->∃ v,σ[i]?=some (some v)/\(if M.contains i=true then Own K H d v else Rep (aW M σ) K H d v)
 non:∀ (i:Nat) (v:V),σ[i]?=some (some v)->∃ d,σD[i]?=some (some d)
 sep:∀ (i j:Nat) (a:Addr),M.contains i=true->M.contains j=true->σ[i]?=some (some (.ref a))->σ[j]?=some (some (.ref a))->i=j
abbrev Fr'(M:List Nat)(σ:L2.St)(H:Hp)(σ':L2.St)(H':Hp):Prop:=(∀ b o,H b=some o->¬ aW M σ b->H' b=some o/\¬ aW M σ' b)/\∀ j,2<=M.count j->σ'[j]?=σ[j]?
def Fr'.trans(a:Fr' M σ H σ1 H1)(b:Fr' M σ1 H1 σ2 H2):Fr' M σ H σ2 H2:=⟨fun c o e n=>b.1 c o (a.1 c o e n).1 (a.1 c o e n).2,fun j hj=>(b.2 j hj).trans (a.2 j hj)⟩
def Fr'.same(s:ay H H1):Fr' M σ H σ H1:=⟨fun c o e n=>⟨s _ _ e,n⟩,fun _ _=>rfl⟩
def gY{M:List Nat}(h:2<=M.count j):M.contains j=true:=by
 have:0<M.count j:=by lia
 simpa using List.count_pos_iff.mp this
section st
variable{K:PySem.W.Frag}
def Own.ref(h:Own K H d v):∃ a o,v=.ref a/\H a=some o/\bX o:=by
 obtain⟨m,_,r⟩:=h
 cases d with
 | lst ds=>obtain⟨a,xs,e1,_,e2,_⟩:=aC r;exact⟨a,_,e1,e2,.inl ⟨_,rfl⟩⟩
 | dK ks ds=>rw[Rep]at r;obtain⟨a,xs,e1,_,e2,_⟩:=r;exact⟨a,_,e1,e2,.inr (.inl ⟨_,rfl⟩)⟩
 | dT ks ds=>rw[Rep]at r;obtain⟨a,xs,e1,_,e2,_⟩:=r;exact⟨a,_,e1,e2,.inr (.inr ⟨_,rfl⟩)⟩
 | _=>cases m
def RVm.rv0(h:RVm K M σD σ H):RV0 K σD σ H:=⟨Nat.le_of_eq h.len,fun i d e=>by
 obtain⟨v,h1,h2⟩:=h.val i d e;refine⟨v,h1,?_⟩;by_cases hm:M.contains i=true
 ·rw[if_pos hm]at h2;exact h2.2.2
 ·rw[if_neg hm]at h2
  exact h2.none⟩
def RVm.rO(h:RVm K M σD σ H):∀ a,aW M σ a->∃ o,H a=some o/\bX o:=fun a ⟨i,hi,e⟩=>by
 obtain⟨d,hd⟩:=h.non i _ e;obtain⟨v,h1,h2⟩:=h.val i d hd;rw[if_pos hi]at h2;obtain⟨b,o,e1,e2,e3⟩:=h2.ref;rw[e]at h1;cases h1;cases e1;exact⟨o,e2,e3⟩
def RVm.j5(h:RVm K M σD σ H):∀ a,aW M σ a->H a≠none:=fun a p=>by
 obtain⟨o,e,_⟩:=h.rO a p;rw[e]
 exact fun z=>nomatch z
def Own.same(h:Own K H d v)(s:ay H H1):Own K H1 d v:=⟨h.1,h.2.1,h.2.2.same s⟩
def RVm.same(h:RVm K M σD σ H)(s:ay H H1):RVm K M σD σ H1:=⟨h.len,fun i d e=>by
 obtain⟨v,h1,h2⟩:=h.val i d e;refine⟨v,h1,?_⟩;by_cases hm:M.contains i=true
 ·rw[if_pos hm]at h2 ⊢;exact h2.same s
 ·rw[if_neg hm]at h2 ⊢
  exact h2.same s,h.non,h.sep⟩
def aW.set(hi:M.contains i=false):aW M (σ.set i (some v))=aW M σ:=by
 funext a;apply propext;constructor
 ·rintro⟨j,hj,e⟩
  have hne:i≠j:=fun z=>by subst z;rw[hi]at hj;cases hj
  rw[List.getElem?_set_ne hne]at e;exact⟨j,hj,e⟩
 ·rintro⟨j,hj,e⟩
  have hne:i≠j:=fun z=>by subst z;rw[hi]at hj;cases hj
  exact⟨j,hj,by rw[List.getElem?_set_ne hne];exact e⟩
def RVm.bind(h:RVm K M σD σ H)(hi:M.contains i=false)(r:Rep (aW M σ) K H d v):RVm K M (σD.set i (some d)) (σ.set i (some v)) H where
 len:=by simpa using h.len
 val:=fun j dj e=>by
  rw[aW.set hi];by_cases hj:j=i
  ·subst hj
   have hlt:j<σD.length:=by
    have:=(List.getElem?_eq_some_iff.mp e).1;simpa using this
   rw[List.getElem?_set_self hlt]at e;cases e;refine⟨v,by rw[List.getElem?_set_self (by rw[<-h.len];exact hlt)],?_⟩;rw[if_neg (by rw[hi];decide)];exact r
  ·rw[List.getElem?_set_ne (Ne.symm hj)]at e ⊢;exact h.val j dj e
 non:=fun j w e=>by
  by_cases hj:j=i
  ·subst hj
   have hlt:j<σ.length:=by
    have:=(List.getElem?_eq_some_iff.mp e).1;simpa using this
   exact⟨d,by rw[List.getElem?_set_self (by rw[h.len];exact hlt)]⟩
  ·rw[List.getElem?_set_ne (Ne.symm hj)]at e ⊢;exact h.non j w e
 sep:=fun j k a hj hk e1 e2=>by
  have n1:i≠j:=fun z=>by subst z;rw[hi]at hj;cases hj
  have n2:i≠k:=fun z=>by subst z;rw[hi]at hk;cases hk
  rw[List.getElem?_set_ne n1]at e1;rw[List.getElem?_set_ne n2]at e2;exact h.sep j k a hj hk e1 e2
def Fr'.bind{i:Nat}(hi:M.contains i=false)(s:ay H H1):Fr' M σ H (σ.set i (some v)) H1:=⟨fun b o e n=>⟨s _ _ e,by rw[aW.set hi];exact n⟩,fun j hj=>List.getElem?_set_ne (fun z=>by subst z;rw[gY hj]at hi;cases hi)⟩
end st
mutual
theorem Rep.cz{P:Addr->Prop}{K:PySem.W.Frag}{H:Hp}{a:Addr}(ha:H a=none):∀ {d:RL.D} {v:V},Rep P K H d v->Rep (fun p=>P p\/p=a) K H d v
 | .non,v,h=>by simpa[Rep]using h
 | .bl _,v,h=>by simpa[Rep]using h
 | .int _,v,h=>by simpa[Rep]using h
 | .str _,v,h=>by simpa[Rep]using h
 | .tup ds,v,h=>by
  rw[Rep]at h ⊢;obtain⟨b,xs,e1,e2,e3⟩:=h;exact⟨b,xs,e1,e2,ae.cz ha e3⟩
 | .lst ds,v,h=>by
  rw[Rep]at h ⊢;obtain⟨b,xs,e1,e0,e2,e3⟩:=h;exact⟨b,xs,e1,fun z=>z.elim e0 (fun q=>aJ e2 ha q),e2,ae.cz ha e3⟩
 | .dK ks ds,v,h=>by
  rw[Rep]at h ⊢;obtain⟨b,xs,e1,e0,e2,el,e3⟩:=h;exact⟨b,xs,e1,fun z=>z.elim e0 (fun q=>aJ e2 ha q),e2,el,ae.cz ha e3⟩
 | .dT ks ds,v,h=>by
  rw[Rep]at h ⊢;obtain⟨b,xs,e1,e0,e2,el,e3⟩:=h;exact⟨b,xs,e1,fun z=>z.elim e0 (fun q=>aJ e2 ha q),e2,el,ae.cz ha e3⟩
 | .scr ds,v,h=>by
  rw[Rep]at h ⊢;obtain⟨b,xs,e1,e2,e3⟩:=h;exact⟨b,xs,e1,e2,ae.cz ha e3⟩
 | .exc c,v,h=>by rw[Rep]at h ⊢;exact h
 | .fT ks ds,v,h=>by rw[Rep]at h ⊢;obtain⟨b,o,xs,e1,e2,el,e3⟩:=h;exact⟨b,o,xs,e1,e2,el,ae.cz ha e3⟩
 | .fL ds,v,h=>by rw[Rep]at h ⊢;obtain⟨b,o,xs,e1,e2,e3⟩:=h;exact⟨b,o,xs,e1,e2,ae.cz ha e3⟩
theorem ae.cz{P:Addr->Prop}{K:PySem.W.Frag}{H:Hp}{a:Addr}(ha:H a=none):∀ {ds:List RL.D} {xs:List V},ae P K H ds xs->ae (fun p=>P p\/p=a) K H ds xs
 | [],xs,h=>by rw[ae]at h ⊢;exact h
 | d::r,xs,h=>by
  rw[ae]at h ⊢;obtain⟨x,t,e1,e2,e3⟩:=h;exact⟨x,t,e1,Rep.cz ha e2,ae.cz ha e3⟩
end
section st
variable{K:PySem.W.Frag}
def RVm.own(h:RVm K M σD σ H)(s:ay H H1)(hi:M.contains i=true)(hi2:M.count i<2)(ha:H a=none)(r:Own K H1 d (.ref a)):RVm K M (σD.set i (some d)) (σ.set i (some (.ref a))) H1/\Fr' M σ H (σ.set i (some (.ref a))) H1:=by
 have sub:∀ b,aW M (σ.set i (some (.ref a))) b->aW M σ b\/b=a:=fun b ⟨j,hj,e⟩=>by
  by_cases hji:j=i
  ·subst hji
   have hlt:j<σ.length:=by
    have:=(List.getElem?_eq_some_iff.mp e).1;simpa using this
   rw[List.getElem?_set_self hlt]at e;cases e;exact .inr rfl
  ·rw[List.getElem?_set_ne (Ne.symm hji)]at e;exact .inl ⟨j,hj,e⟩
 have old:∀ b,aW M σ b->b≠a:=fun b p z=>h.j5 b p (z▸ha);refine⟨⟨by simpa using h.len,fun j dj e=>?_,fun j w e=>?_,fun j k b hj hk e1 e2=>?_⟩,⟨fun b o e n=>⟨s _ _ e,fun z=>(sub b z).elim n fun q=>aJ e ha q⟩,fun j hj=>List.getElem?_set_ne (fun z=>by subst z;lia)⟩⟩
 ·by_cases hj:j=i
  ·subst hj
   have hlt:j<σD.length:=by
    have:=(List.getElem?_eq_some_iff.mp e).1;simpa using this
   rw[List.getElem?_set_self hlt]at e;cases e;refine⟨.ref a,by rw[List.getElem?_set_self (by rw[<-h.len];exact hlt)],?_⟩;rw[if_pos hi];exact r
  ·rw[List.getElem?_set_ne (Ne.symm hj)]at e ⊢;obtain⟨v,h1,h2⟩:=h.val j dj e;refine⟨v,h1,?_⟩;by_cases hm:M.contains j=true
   ·rw[if_pos hm]at h2 ⊢;exact h2.same s
   ·rw[if_neg hm]at h2 ⊢;exact((h2.cz ha).weak sub).same s
 ·by_cases hj:j=i
  ·subst hj
   have hlt:j<σ.length:=by
    have:=(List.getElem?_eq_some_iff.mp e).1;simpa using this
   exact⟨d,by rw[List.getElem?_set_self (by rw[h.len];exact hlt)]⟩
  ·rw[List.getElem?_set_ne (Ne.symm hj)]at e ⊢;exact h.non j w e
 ·by_cases h1:j=i
  ·by_cases h2:k=i
   ·rw[h1,h2]
   ·subst h1
    have hlt:j<σ.length:=by
     have:=(List.getElem?_eq_some_iff.mp e1).1;simpa using this
    rw[List.getElem?_set_self hlt]at e1;rw[List.getElem?_set_ne (Ne.symm h2)]at e2;cases e1;exact absurd rfl (old _ ⟨k,hk,e2⟩)
  ·rw[List.getElem?_set_ne (Ne.symm h1)]at e1;by_cases h2:k=i
   ·subst h2
    have hlt:k<σ.length:=by
     have:=(List.getElem?_eq_some_iff.mp e2).1;simpa using this
    rw[List.getElem?_set_self hlt]at e2;cases e2;exact absurd rfl (old _ ⟨j,hj,e1⟩)
   ·rw[List.getElem?_set_ne (Ne.symm h2)]at e2;exact h.sep j k b hj hk e1 e2
def RVm.iW(h:RVm K M σD σ H)(hi:M.contains i=true)(e:σ[i]?=some (some (.ref a)))(ha:H a=some o)(m:bX o)(r:Own K (upd H a o') d' (.ref a)):RVm K M (σD.set i (some d')) σ (upd H a o')/\Fr' M σ H σ (upd H a o'):=by
 have pa:aW M σ a:=⟨i,hi,e⟩
 refine⟨⟨by simpa using h.len,fun j dj e'=>?_,fun j w e'=>?_,h.sep⟩,⟨fun b u eb n=>⟨?_,n⟩,fun _ _=>rfl⟩⟩
 ·by_cases hj:j=i
  ·subst hj
   have hlt:j<σD.length:=by
    have:=(List.getElem?_eq_some_iff.mp e').1;simpa using this
   rw[List.getElem?_set_self hlt]at e';cases e';refine⟨.ref a,e,?_⟩;rw[if_pos hi];exact r
  ·rw[List.getElem?_set_ne (Ne.symm hj)]at e';obtain⟨v,h1,h2⟩:=h.val j dj e';refine⟨v,h1,?_⟩;by_cases hm:M.contains j=true
   ·rw[if_pos hm]at h2 ⊢;obtain⟨b,ob,rfl,hb,_⟩:=h2.ref
    have hne:b≠a:=fun z=>by subst z;exact hj (h.sep j i b hm hi h1 e)
    obtain⟨q1,q2,q3⟩:=h2;refine⟨q1,q2,?_⟩;have im:∀ {ds:List RL.D} {xs:List V},RL.ao ds=true->ae nP K H ds xs->ae nP K (L2.upd H a o') ds xs:=fun hi r=>(ae.upd (P:=fun p=>p=a) ha m rfl (r.imm hi)).imm hi
    cases dj with
    | lst ds=>obtain⟨b',xs,e1,e0,e2,e3⟩:=aC q3;cases e1;rw[Rep];exact⟨b,xs,rfl,fun z=>z,by rw[L2.aE hne];exact e2,im q2 e3⟩
    | dK ks ds=>rw[Rep]at q3 ⊢;obtain⟨b',xs,e1,e0,e2,el,e3⟩:=q3;cases e1;exact⟨b,xs,rfl,fun z=>z,by rw[L2.aE hne];exact e2,el,im q2 e3⟩
    | dT ks ds=>rw[Rep]at q3 ⊢;obtain⟨b',xs,e1,e0,e2,el,e3⟩:=q3;cases e1;exact⟨b,xs,rfl,fun z=>z,by rw[L2.aE hne];exact e2,el,im q2 e3⟩
    | _=>cases q1
   ·rw[if_neg hm]at h2 ⊢;exact Rep.upd ha m pa h2
 ·obtain⟨dj,hd⟩:=h.non j w e';by_cases hj:j=i
  ·subst hj;have hlt:=(List.getElem?_eq_some_iff.mp hd).1;exact⟨d',by rw[List.getElem?_set_self hlt]⟩
  ·exact⟨dj,by rw[List.getElem?_set_ne (Ne.symm hj)];exact hd⟩
 ·have hb:b≠a:=fun z=>n (z▸pa);rw[L2.aE hb];exact eb
end st
abbrev nI(K:PySem.W.Frag)(M:List Nat)(D:Ends)(σ:L2.St)(H:Hp):RL.Out->RL.St->Prop
 | .nx,σD'=>∀ σ' H',RVm K M σD' σ' H'->Fr' M σ H σ' H'->D.nx σ' H'
 | .rt d,σD'=>∀ σ1 H1 v H',RVm K M σD' σ1 H1->Fr' M σ H σ1 H1->ay H1 H'->(∀ P:Addr->Prop,(∀ p,P p->H1 p≠none/\¬ aW M σ1 p)->Rep P K H' d v)->D.rt v H'
def nI.from{K:PySem.W.Frag}(h:nI K M D σ H r σD')(f:Fr' M σ H σ1 H1):nI K M D σ1 H1 r σD':=by
 cases r with
 | nx=>exact fun σ2 H2 rv2 fr2=>h σ2 H2 rv2 (f.trans fr2)
 | rt d=>exact fun σ1 H1 v H2 rv2 fr2 sm rp=>h σ1 H1 v H2 rv2 (f.trans fr2) sm rp
abbrev tS(K:PySem.W.Frag)(M:List Nat)(f:RL.St->Option (RL.Out × RL.St)):TS:=fun D σ H=>∃ σD r σD',RVm K M σD σ H/\f σD=some (r,σD')/\nI K M D σ H r σD'
abbrev SS(X:Cx)(cl:RL.Cl)(M:List Nat)(st:Stmt)(s:RL.S):Prop:=PS X st (tS X.K M (RL.evS cl M s))
abbrev SSs(X:Cx)(cl:RL.Cl)(M:List Nat)(st:List Stmt)(s:RL.Ss):Prop:=PSs X st (tS X.K M (RL.aw cl M s))
section rules
variable{st:Stmt}{i j:Nat}
def uy:SSs X cl M [] .nil:=by
 refine PSs.weak uL fun D σ H h=>?_;obtain⟨σD,r,σD',rv,e,k⟩:=h;rw[RL.aw]at e;cases e;exact k σ H rv (Fr'.same (ay.refl H))
def rC(h1:SS X cl M st s)(h2:SSs X cl M sts r):SSs X cl M (st::sts) (.cons s r):=by
 refine PSs.weak (kL h1 h2) fun D σ H h=>?_;obtain⟨σD,o,σD',rv,e,k⟩:=h;rw[RL.aw]at e;obtain⟨p,e1,e2⟩:=bind_some e;obtain⟨o1,σ1⟩:=p;refine⟨σD,o1,σ1,rv,e1,?_⟩
 cases o1 with
 |rt d=>
  cases e2;exact k
 |nx=>
  exact fun σ' H' rv' fr'=>⟨σ1,o,σD',rv',e2,k.from fr'⟩
def qU:SS X cl M st .never:=by
 refine PS.weak rP fun D σ H h=>?_;obtain⟨σD,o,σD',rv,e,k⟩:=h;cases e
def wH(h:SA X cl st i e')(hi:M.contains i=false):SS X cl M st (.asg i e'):=by
 refine PS.weak h fun D σ H h=>?_;obtain⟨σD,o,σD',rv,e,k⟩:=h;obtain⟨d,e1,e2⟩:=bind_some e;split at e2
 ·rename_i ok;cases e2;refine⟨σD,d,rv.rv0,e1,fun v H1 r1=>k _ _ ?_ (Fr'.bind hi r1.same)⟩;refine(rv.same r1.same).bind hi ?_;unfold RL.aU at ok;rw[Bool.or_eq_true,Bool.or_eq_true,Bool.and_eq_true]at ok;rcases ok with(q | ⟨q1,q2⟩) | q
  ·exact r1.rep.imm q
  ·have rp:=r1.rep;have fr:gC d=true->∀ a,v=.ref a->¬ aW M σ a:=fun m a z p=>rv.j5 a p (r1.fresh q2 m a z)
   cases d with
   | lst ds=>obtain⟨a,xs,e1,e0,e2,e3⟩:=aC rp;rw[Rep];exact⟨a,xs,e1,fr rfl a e1,e2,e3.imm q1⟩
   | dK ks ds=>rw[Rep]at rp ⊢;obtain⟨a,xs,e1,e0,e2,el,e3⟩:=rp;exact⟨a,xs,e1,fr rfl a e1,e2,el,e3.imm q1⟩
   | dT ks ds=>rw[Rep]at rp ⊢;obtain⟨a,xs,e1,e0,e2,el,e3⟩:=rp;exact⟨a,xs,e1,fr rfl a e1,e2,el,e3.imm q1⟩
   | _=>cases q1
  ·refine r1.av M q _ rv.j5 fun j dj vj hj h1 h2=>?_;obtain⟨v',h3,h4⟩:=rv.val j dj h1;rw[h2]at h3;cases h3;rw[if_neg (by rw[hj];decide)]at h4;exact h4
 ·cases e2
def wM(h:SA X cl st i e')(hi:M.contains i=true)(hi2:M.count i<2):SS X cl M st (.own i e'):=by
 refine PS.weak h fun D σ H h=>?_;obtain⟨σD,o,σD',rv,e,k⟩:=h;obtain⟨d,e1,e2⟩:=bind_some e;split at e2
 ·rename_i ok;cases e2;rw[Bool.and_eq_true]at ok;refine⟨σD,d,rv.rv0,e1,fun v H1 r1=>?_⟩
  have m:gC d=true:=by
   cases d with
   | lst _=>rfl
   | dK _ _=>rfl
   | dT _ _=>rfl
   | _=>cases ok.1
  have ow:Own X.K H1 d v:=⟨m,ok.1,r1.rep⟩
  obtain⟨a,ob,rfl,_,_⟩:=ow.ref;obtain⟨h1,h2⟩:=rv.own r1.same hi hi2 (r1.fresh ok.2 m a rfl) ow;exact k _ _ h1 h2
 ·cases e2
def yE{c:Expr}(hc:ST X cl c c')(ha:SSs X cl M a a')(hb:SSs X cl M b b'):SS X cl M (.If c a b pos) (.ife c' a' b'):=by
 refine PS.weak (yQ hc ha hb) fun D σ H h=>?_;obtain⟨σD,o,σD',rv,e,k⟩:=h;obtain⟨t,e1,e2⟩:=bind_some e;refine⟨σD,t,rv.rv0,e1,fun H1 s1=>?_⟩;have k1:=k.from (Fr'.same (σ:=σ) s1)
 cases t with
 | true=>exact e8 ⟨σD,o,σD',rv.same s1,e2,k1⟩
 | false=>exact fb ⟨σD,o,σD',rv.same s1,e2,k1⟩
def xm(he:SE X cl e e')(hv:∀ i,e'=.var i->M.contains i=false):SS X cl M (.Return (some e) pos) (.ret e'):=by
 refine PS.weak (l3 he) fun D σ H h=>?_;obtain⟨σD,o,σD',rv,ev,k⟩:=h;obtain⟨d,e1,e2⟩:=bind_some ev;split at e2
 ·rename_i ok;cases e2;refine⟨σD,d,rv.rv0,e1,fun v H1 r1=>k σ H v H1 rv (Fr'.same (ay.refl H)) r1.same fun P hP=>?_⟩;unfold RL.bD at ok;rw[Bool.or_eq_true,Bool.and_eq_true,Bool.or_eq_true]at ok
  rcases ok with q | ⟨q1,q2⟩
  ·exact r1.rep.imm q
  ·have rp:=r1.rep
   have fr:gC d=true->∀ a,v=.ref a->¬ P a:=fun m a z p=>by
    rcases q2 with q | q
    ·exact(hP a p).1 (r1.fresh q m a z)
    ·cases e' with
     |var i=>
      have hi:M.contains i=true:=q;rw[hv i rfl]at hi;cases hi
     | _=>cases q
   cases d with
   | lst ds=>obtain⟨a,xs,e1,e0,e2,e3⟩:=aC rp;rw[Rep];exact⟨a,xs,e1,fr rfl a e1,e2,e3.imm q1⟩
   | dK ks ds=>rw[Rep]at rp ⊢;obtain⟨a,xs,e1,e0,e2,el,e3⟩:=rp;exact⟨a,xs,e1,fr rfl a e1,e2,el,e3.imm q1⟩
   | dT ks ds=>rw[Rep]at rp ⊢;obtain⟨a,xs,e1,e0,e2,el,e3⟩:=rp;exact⟨a,xs,e1,fr rfl a e1,e2,el,e3.imm q1⟩
   | _=>cases q1
 ·cases e2
def uM(hN:X.N[i]?=some x)(hv:Vis X.env.scope x)(hd:(x == ("__debug__" : Str))=false)(hcd:(x == ("__classdict__" : Str))=false)(hi:M.contains i=true):SS X cl M (.Return (some (.Name x p)) pos) (.ret (.var i)):=by
 refine PS.weak (l3 (fw hN hv hd hcd)) fun D σ H h=>?_;obtain⟨σD,o,σD',rv,e,k⟩:=h;obtain⟨d,e1,e2⟩:=bind_some e;split at e2
 ·cases e2
  have e3:σD[i]?=some (some d):=by
   obtain⟨o,h1,h2⟩:=bind_some e1
   cases o with
   | none=>cases h2
   | some z=>cases h2;exact h1
  obtain⟨v,h1,h2⟩:=rv.val i d e3;rw[if_pos hi]at h2;refine⟨v,h1,k σ H v H rv (Fr'.same (ay.refl H)) (ay.refl H) fun P hP=>?_⟩;obtain⟨a,o,rfl,_,_⟩:=h2.ref;have np:¬ P a:=fun p=>(hP a p).2 ⟨i,hi,h1⟩;obtain⟨q1,q2,q3⟩:=h2
  cases d with
  | lst ds=>obtain⟨b,xs,e1,e0,e2,e3⟩:=aC q3;cases e1;rw[Rep];exact⟨a,xs,rfl,np,e2,e3.imm q2⟩
  | dK ks ds=>rw[Rep]at q3 ⊢;obtain⟨b,xs,e1,e0,e2,el,e3⟩:=q3;cases e1;exact⟨a,xs,rfl,np,e2,el,e3.imm q2⟩
  | dT ks ds=>rw[Rep]at q3 ⊢;obtain⟨b,xs,e1,e0,e2,el,e3⟩:=q3;cases e1;exact⟨a,xs,rfl,np,e2,el,e3.imm q2⟩
  | _=>cases q1
 ·cases e2
def slot_get{σD:RL.St}(h:(σD[i]?).bind id=some d):σD[i]?=some (some d):=by
 obtain⟨o,h1,h2⟩:=bind_some h
 cases o with
 | none=>cases h2
 | some z=>cases h2;exact h1
def x6(h:PS X st (k5 (tBM X.K "list" mG (i3 i) (tEs X.K cl (.cons e' .nil)))))(hi:M.contains i=true):SS X cl M st (.app i e'):=by
 refine PS.weak h fun D σ H h=>?_;obtain⟨σD,o,σD',rv,e,k⟩:=h;obtain⟨d,e1,e2⟩:=bind_some e;obtain⟨l,e3,e4⟩:=bind_some e2
 cases l with
 |lst ds=>
  dsimp only at e4;split at e4
  ·rename_i ok;cases e4;rw[Bool.and_eq_true,decide_eq_true_eq]at ok;obtain⟨v,h1,h2⟩:=rv.val i _ (slot_get e3);rw[if_pos hi]at h2;obtain⟨q1,q2,q3⟩:=h2;obtain⟨a,xs,rfl,_,f2,f3⟩:=aC q3;refine⟨.ref a,h1,.inl ⟨rfl,xs,SqL.of f2⟩,σD,[d],rv.rv0,by rw[RL.evs,e1];rfl,fun vs H1 s1 r1=>?_⟩;rw[ae]at r1;obtain⟨y,t,rfl,r2,r3⟩:=r1;rw[ae]at r3;subst r3
   have hl:xs.length<sizeLine:=by rw[<-f3.length];exact Nat.lt_of_lt_of_le ok.2 bI
   refine⟨a,xs,y,rfl,rfl,s1 _ _ f2,hl,?_⟩
   have im:RL.ao (ds++[d])=true:=by
    have:∀ l:List RL.D,RL.ao l=true->RL.ao (l++[d])=true:=fun l=>by
     induction l with
     | nil=>intro _;simp[RL.ao,ok.1]
     | cons z r ih=>intro h;rw[RL.ao,Bool.and_eq_true]at h;rw[List.cons_append,RL.ao,h.1,ih h.2];rfl
    exact this ds q2
   have rs:ae nP X.K (upd H1 a (.lst (xs++[y]))) (ds++[d]) (xs++[y]):=(ae.upd (P:=fun p=>p=a) (s1 _ _ f2) (.inl ⟨_,rfl⟩) rfl ((ae.append (f3.same s1) (ae.cons r2 ae.nil)).imm im)).imm im;obtain⟨g1,g2⟩:=(rv.same s1).iW (d':=.lst (ds++[d])) (o':=.lst (xs++[y])) hi h1 (s1 _ _ f2) (.inl ⟨_,rfl⟩) ⟨rfl,im,by rw[Rep];exact⟨a,_,rfl,fun z=>z,aV,rs⟩⟩;exact k _ _ g1 ((Fr'.same s1).trans g2)
  ·cases e4
 | _=>cases e4
end rules
def RVm.ba{K:PySem.W.Frag}{M:List Nat}{H:Hp}:∀ {tg:List Nat} {ds:List RL.D} {vs:List V} {σD:RL.St} {σ:L2.St},RVm K M σD σ H->(∀ i∈tg,M.contains i=false)->tg.length=ds.length->RL.ao ds=true->ae nP K H ds vs ->
  RVm K M (cJ tg ds σD) (cj tg vs σ) H/\aW M (cj tg vs σ)=aW M σ
 | [],_,_,_,_,h,_,_,_,_=>⟨h,rfl⟩
 | i::is,[],_,_,_,_,_,hl,_,_=>by simp at hl
 | i::is,d::ds,vs,σD,σ,h,hM,hl,him,r=>by
  rw[ae]at r;obtain⟨v,t,rfl,r1,r2⟩:=r;rw[RL.ao,Bool.and_eq_true]at him;rw[cJ,cj];have hi:=hM i List.mem_cons_self;obtain⟨g1,g2⟩:=RVm.ba (h.bind hi (r1.imm him.1)) (fun j hj=>hM j (List.mem_cons_of_mem _ hj)) (by simpa using hl) him.2 r2;exact⟨g1,g2.trans (aW.set hi)⟩
def lS{M tg:List Nat}{vs:List V}{σ:L2.St}{j:Nat}(hM:∀ i∈tg,M.contains i=false)(hj:2<=M.count j):(cj tg vs σ)[j]?=σ[j]?:=by
 refine jl tg vs σ j ?_
 cases hc:tg.contains j with
 | false=>rfl
 |true=>
  have:=hM j (by simpa using hc);rw[gY hj]at this;cases this
section rules
variable{X:Cx}{cl:RL.Cl}{M:List Nat}{st:Stmt}{tgE iter:Expr}{body:List Stmt}{b:RL.Ss}{it:RL.It}{tg:List Nat}{e' k' a' b':RL.E}{i j:Nat}{pos:Pos}
def n9{f:RL.St->Option (RL.Out × RL.St)}{d:RL.D}{ds:List RL.D}{σ:RL.St}{p:RL.Out × RL.St}(h:RL.bG f tg (d::ds) σ=some p):d.imm=true/\∃ σ1 o σ2,RL.bP tg d σ=some σ1/\f σ1=some (o,σ2) /\
  (match o with | .nx=>RL.bG f tg ds σ2=some p | .rt d=>p=(.rt d,σ2)):=by
 rw[RL.bG]at h;split at h
 ·rename_i him;obtain⟨σ1,h1,h⟩:=bind_some h;obtain⟨⟨o,σ2⟩,h2,h⟩:=bind_some h;refine⟨him,σ1,o,σ2,h1,h2,?_⟩
  cases o with
  | nx=>exact h
  | rt d=>exact(Option.some.inj h).symm
 ·cases h
def xY(hx:X.xe=fun _ _=>False)(hc:X.calm=true)(hi:SI X cl tgE iter it)(hg:PG X tgE (gT X.K tg))(hb:SSs X cl M body b)(hs:∀ x,foldedSetIterable iter X.env x=pure x)(hav:RL.rX M it=true)(hM:∀ i∈tg,M.contains i=false) :
  SS X cl M (.For tgE iter body [] pos) (.forr tg it b):=by
 refine PS.weak (xo (by rw[hx];exact PassesOwn.never) hc hi hg hb hs) fun D σ H h=>?_;obtain⟨σD,r,σD',rv,e,k⟩:=h;obtain⟨ds,e1,e2⟩:=bind_some e;refine⟨σD,ds,rv.rv0,e1,fun J H1 s1 src=>?_⟩
 have ok:fX X.K J ds (aW M σ) H1:=src.2 M (aW M σ) hav rv.rO fun j dj vj hj h1 h2=>by
  obtain⟨v',h3,h4⟩:=rv.val j dj h1;rw[h2]at h3;cases h3;rw[if_neg (by rw[hj];decide)]at h4;exact h4
 have k1:=k.from (Fr'.same (σ:=σ) s1);refine⟨fun i m σ2 H2=>∃ σD2,m=ds.length-i/\i<=ds.length/\RVm X.K M σD2 σ2 H2/\Fr' M σ H1 σ2 H2/\RL.bG (RL.aw cl M b) tg (ds.drop i) σD2=some (r,σD'),⟨_,σD,rfl,Nat.zero_le _,rv.same s1,Fr'.same (ay.refl _),e2⟩,?_⟩;rintro i m σ2 H2 ⟨σD2,rfl,hi2,rv2,fr2,hl⟩;have off:Off (aW M σ) H1 H2:=fun b o n e=>(fr2.1 b o e n).1;by_cases hlt:i<ds.length
 ·refine .inr ⟨ok.go H2 i off hlt,fun σ' H'=>∃ m',m'<ds.length-i/\∃ σD2,m'=ds.length-(i+1)/\i+1<=ds.length/\RVm X.K M σD2 σ' H'/\Fr' M σ H1 σ' H'/\RL.bG (RL.aw cl M b) tg (ds.drop (i+1)) σD2=some (r,σD'),fun σ' H' z=>z,fun x H3 y=>?_⟩;rw[List.drop_eq_getElem_cons hlt]at hl;obtain⟨him,σ3,o,σ4,h1,h2,h3⟩:=n9 hl;obtain⟨s3,rp⟩:=ok.yld H2 i ds[i] x H3 off (by simp[hlt]) y;obtain⟨dv,vs,q1,q2,q3,q4,q5⟩:=sq h1 (rp (.inl him));refine q5 _ _ ?_;obtain⟨rv3,as3⟩:=(rv2.same s3).ba hM q2 (q4 him) q3
  have fr3:Fr' M σ H1 (cj tg vs σ2) H3:=⟨fun b o e n=>⟨s3 _ _ (fr2.1 b o e n).1,by rw[as3];exact(fr2.1 b o e n).2⟩,fun j hj=>(lS hM hj).trans (fr2.2 j hj)⟩
  refine⟨σ3,o,σ4,by rw[q1];exact rv3,h2,?_⟩
  cases o with
  | nx=>exact fun σ' H' rv' fr'=>⟨_,by lia,σ4,rfl,hlt,rv',fr3.trans fr',h3⟩
  |rt d=>
   cases h3;exact fun σ' H' v H4 rv' fr' sm rp=>k1 σ' H' v H4 rv' (fr3.trans fr') sm rp
 ·have e:i=ds.length:=by lia
  subst e;rw[List.drop_length,RL.bG]at hl;cases hl;exact .inl ⟨ok.stop H2 off,k1 σ2 H2 rv2 fr2⟩
def rA{n:Nat}{k:Int}{j:Nat}(h:RL.lP n k=some j):ixN n k=some j:=h
def pL:∀ {ds:List RL.D} {d:RL.D} (j:Nat),RL.ao ds=true->d.imm=true->RL.ao (ds.set j d)=true
 | [],d,j,_,_=>by simp[RL.ao]
 | x::r,d,0,h,hd=>by rw[RL.ao,Bool.and_eq_true]at h;rw[List.set_cons_zero,RL.ao,hd,h.2];rfl
 | x::r,d,j+1,h,hd=>by rw[RL.ao,Bool.and_eq_true]at h;rw[List.set_cons_succ,RL.ao,h.1,pL j h.2 hd];rfl
def tW{H:Hp}{a:Addr}{ds:List RL.D}{xs ys:List V}{ds':List RL.D}(f2:H a=some (.lst xs))(im:RL.ao ds'=true)(rs:ae nP X.K H ds' ys):Own X.K (upd H a (.lst ys)) (.lst ds') (.ref a) :=
 ⟨rfl,im,by rw[Rep];exact⟨a,_,rfl,fun z=>z,aV,(ae.upd (P:=fun p=>p=a) f2 (.inl ⟨_,rfl⟩) rfl (rs.imm im)).imm im⟩⟩
def xu(h:PS X st (j4 (tE X.K cl e') (rd (i3 i) (tE X.K cl k') nc)))(hi:M.contains i=true)(hl:True):PS X st (tS X.K M fun σD=>(RL.ev cl σD e').bind fun d=>(RL.ev cl σD k').bind fun kk=>((σD[i]?).bind id).bind fun l=>match l with
  | .lst _=>if d.imm then(RL.kH l kk d).map fun l'=>(.nx,σD.set i (some l'))else none
  | _=>none):=by
 refine PS.weak h fun D σ H h=>?_;obtain⟨σD,o,σD',rv,e,k⟩:=h;obtain⟨d,e1,e⟩:=bind_some e;obtain⟨kk,e2,e⟩:=bind_some e;obtain⟨l,e3,e⟩:=bind_some e
 cases l with
 |lst ds=>
  dsimp only at e;split at e
  ·rename_i him;obtain⟨l',e4,e5⟩:=map_some e;cases e5;obtain⟨v,h1,h2⟩:=rv.val i _ (slot_get e3);rw[if_pos hi]at h2;obtain⟨q1,q2,q3⟩:=h2;obtain⟨a,xs,rfl,_,f2,f3⟩:=aC q3
   cases kk with
   |int kk=>
    obtain⟨jx,e6,e7⟩:=map_some (show(RL.lP ds.length kk).map (fun j=>RL.D.lst (ds.set j d))=some l' from e4);subst e7;refine⟨σD,d,rv.rv0,e1,fun y H1 r1=>⟨.ref a,h1,σD,.int kk,rv.rv0.same r1.same,e2,fun z H2 r2=>?_⟩⟩;have sm:=r1.same.trans r2.same;refine⟨a,xs,kk,jx,rfl,aj r2.rep,sm _ _ f2,?_,?_⟩
    ·rw[<-f3.length];exact rA e6
    ·have im:=pL jx q2 him;obtain⟨g1,g2⟩:=(rv.same sm).iW (d':=.lst (ds.set jx d)) (o':=.lst (xs.set jx y)) hi h1 (sm _ _ f2) (.inl ⟨_,rfl⟩) (tW (ds:=ds) (sm _ _ f2) im (ae.set jx (f3.same sm) (r1.rep.same r2.same)));exact k _ _ g1 ((Fr'.same sm).trans g2)
   | _=>cases e4
  ·cases e
 | _=>cases e
def xD(h:PS X st (qG i j (tEs X.K cl (.cons a' (.cons b' .nil)))))(hi:M.contains i=false)(hj:M.contains j=false):SS X cl M st (.par i j a' b'):=by
 refine PS.weak h fun D σ H h=>?_;obtain⟨σD,o,σD',rv,e,k⟩:=h;obtain⟨x,e1,e⟩:=bind_some e;obtain⟨y,e2,e⟩:=bind_some e;split at e
 ·rename_i him;cases e;rw[Bool.and_eq_true]at him;refine⟨σD,[x,y],rv.rv0,by rw[RL.evs,e1,RL.evs,e2];rfl,fun vs H1 s1 r1=>?_⟩;rw[ae]at r1;obtain⟨v,t,rfl,r2,r3⟩:=r1;rw[ae]at r3;obtain⟨u,t,rfl,r4,r5⟩:=r3;rw[ae]at r5;subst r5;refine⟨v,u,rfl,k _ _ ?_ ?_⟩
  ·refine((rv.same s1).bind hi (r2.imm him.1)).bind hj (r4.imm him.2)
  ·exact(Fr'.bind hi s1).trans (Fr'.bind hj (ay.refl _))
 ·cases e
def wd(h:PS X st (k5 (tE X.K cl e'))):SS X cl M st (.exc e'):=by
 refine PS.weak h fun D σ H h=>?_;obtain⟨σD,o,σD',rv,e,k⟩:=h;obtain⟨d,e1,e2⟩:=map_some e;cases e2;exact⟨σD,d,rv.rv0,e1,fun v H1 r1=>k _ _ (rv.same r1.same) (Fr'.same r1.same)⟩
end rules
section rules
variable{st:Stmt}
def tU(h:PS X st (j4 (tE X.K cl e') (fun v σ H Q=>ji X.K is.length (gs is) v σ H Q\/jn X.K is.length (gs is) v σ H Q)))(hM:∀ i∈is,M.contains i=false):SS X cl M st (.unp is e'):=by
 refine PS.weak h fun D σ H h=>?_;obtain⟨σD,o,σD',rv,e,k⟩:=h;obtain⟨d,e1,e⟩:=bind_some e;obtain⟨ds,e2,e⟩:=bind_some e;split at e
 ·rename_i him;obtain⟨σ1,e3,e4⟩:=map_some e;cases e4;obtain⟨q1,q2⟩:=dD e3;refine⟨σD,d,rv.rv0,e1,fun v H1 r1=>?_⟩;obtain⟨p,xs,rfl,hp,rs⟩:=dm e2 r1.rep;obtain⟨g1,g2⟩:=(rv.same r1.same).ba (vs:=xs) hM q1 him rs;have fin:D.nx (cj is xs σ) H1:=k _ _ (by rw[q2];exact g1) ⟨fun b o e n=>⟨r1.same _ _ e,by rw[g2];exact n⟩,fun j hj=>lS hM hj⟩
  have hl:xs.length=is.length:=by rw[<-rs.length,q1]
  rcases hp with⟨hp,_⟩ | ⟨hp,_⟩ | ⟨⟨o,hp⟩,_⟩
  ·exact .inr ⟨p,xs,rfl,SqL.of hp,hl,eV hl.symm fin⟩
  ·exact .inl ⟨p,xs,rfl,SqT.of hp,hl,eV hl.symm fin⟩
  ·exact .inr ⟨p,xs,rfl,.inl (.inr ⟨o,hp⟩),hl,eV hl.symm fin⟩
 ·cases e
def fP(xs:List α)(k:Int):(xs.drop (HT.sIx xs.length 0 none)).take (HT.sIx xs.length xs.length (some k)-HT.sIx xs.length 0 none)=xs.take (RL.cutAt xs.length k):=by
 rw[HT.kJ,List.drop_zero,Nat.sub_zero];congr 1;have h:=HT.er k xs.length xs.length;unfold RL.cutAt;split at h
 ·rename_i h0;rw[if_neg (by lia)];lia
 ·rename_i h0;rw[if_pos (by lia)];lia
def iq(xs:List α)(k:Int):(xs.drop (HT.sIx xs.length 0 (some k))).take (HT.sIx xs.length xs.length none-HT.sIx xs.length 0 (some k))=xs.drop (RL.cutAt xs.length k):=by
 have e:HT.sIx xs.length 0 (some k)=RL.cutAt xs.length k:=by
  have h:=HT.er k xs.length 0;unfold RL.cutAt;split at h
  ·rename_i h0;rw[if_neg (by lia)];lia
  ·rename_i h0;rw[if_pos (by lia)];lia
 rw[e,HT.kJ];exact List.take_of_length_le (by rw[List.length_drop];exact Nat.le_refl _)
end rules
section rules
variable{X:Cx}
def one(rv:RV0 X.K σD σ H)(ea:RL.ev cl σD a'=some d)(k:∀ v H1,ay H H1->Rep nP X.K H1 d v->R [v] H1):tEs X.K cl (.cons a' .nil) σ H R :=
 ⟨σD,[d],rv,by rw[RL.evs,ea];rfl,fun vs H1 s1 r1=>by
  rw[ae]at r1;obtain⟨v,t,rfl,r2,r3⟩:=r1;rw[ae]at r3;subst r3
  exact k v H1 s1 r2⟩
def pair(rv:RV0 X.K σD σ H)(ea:RL.ev cl σD a'=some d)(eb:RL.ev cl σD b'=some d')(k:∀ v u H1,ay H H1->Rep nP X.K H1 d v->Rep nP X.K H1 d' u->R [v,u] H1):tEs X.K cl (.cons a' (.cons b' .nil)) σ H R :=
 ⟨σD,[d,d'],rv,by rw[RL.evs,ea,RL.evs,eb];rfl,fun vs H1 s1 r1=>by
  rw[ae]at r1;obtain⟨v,t,rfl,r2,r3⟩:=r1;rw[ae]at r3;obtain⟨u,t,rfl,r4,r5⟩:=r3;rw[ae]at r5;subst r5
  exact k v u H1 s1 r2 r4⟩
def jN{id:String}{r:List V->Hp->VK->Prop}{b:RL.Bi}(hc:bo X (.builtin id) r)(hg:Gl X x)(hm:X.mg x=none)(hv:bootBuiltins x=some (.builtin id))(ha:SE X cl a a')(hn:noStar a=true)(h1:x ≠ "__name__")(h2:(x == ("__debug__" : Str))=false)
 (ok:∀ (σD:RL.St) (σ:L2.St) (H H1:Hp) (y d:RL.D) (v:V) (Q:VK),RL.biV b y=some d->ay H H1->Rep nP X.K H1 y v->(∀ w H',Res X.K σD σ H (.bi b a') d w H'->Q w H')->r [v] H1 Q):SE X cl (.Call (.Name x p) [a] [] pos) (.bi b a'):=by
 refine PE.weak (fY hc hg hm hv (bc (cl:=cl) ha bW hn) h1 h2 (a7 [] hn) rfl) fun σ H Q h=>?_;obtain⟨σD,d,rv,e,k⟩:=h;obtain⟨y,ea,e⟩:=bind_some e;exact one rv ea fun v H1 s1 r1=>ok σD σ H H1 y d v Q e s1 r1 k
def gv{T:String}{r:List V->Hp->VK->Prop}{b:RL.Bi}(hc:bo X (.type T) r)(hg:Gl X x)(hm:X.mg x=none)(hv:bootBuiltins x=some (.type T))(ha:SE X cl a a')(hn:noStar a=true)(h1:x ≠ "__name__")(h2:(x == ("__debug__" : Str))=false)
 (ok:∀ (σD:RL.St) (σ:L2.St) (H H1:Hp) (y d:RL.D) (v:V) (Q:VK),RL.biV b y=some d->ay H H1->Rep nP X.K H1 y v->(∀ w H',Res X.K σD σ H (.bi b a') d w H'->Q w H')->r [v] H1 Q):SE X cl (.Call (.Name x p) [a] [] pos) (.bi b a'):=by
 refine PE.weak (bZ hc hg hm hv (bc (cl:=cl) ha bW hn) h1 h2 (a7 [] hn) rfl) fun σ H Q h=>?_;obtain⟨σD,d,rv,e,k⟩:=h;obtain⟨y,ea,e⟩:=bind_some e;exact one rv ea fun v H1 s1 r1=>ok σD σ H H1 y d v Q e s1 r1 k
def uV(hg:Gl X "list")(hm:X.mg "list" = none)(ha:SE X cl a a')(hn:noStar a=true):SE X cl (.Call (.Name "list" p) [a] [] pos) (.bi .list a'):=by
 refine gv lH hg hm (by decide +kernel) ha hn (by decide) (by decide) fun σD σ H H1 y d v Q e s1 r1 k=>?_;obtain⟨ds,e1,e2⟩:=map_some (show(RL.items y).map RL.D.lst=some d from e);subst e2;obtain⟨q,xs,rfl,hp,rs⟩:=dm e1 r1;refine⟨q,xs,rfl,?_,fun l hl=>k _ _ (cm s1 hl rs fun _=>rfl)⟩
 rcases hp with⟨z,_⟩ | ⟨z,_⟩ | ⟨⟨o,z⟩,_⟩
 ·exact .inl (SqL.of z)
 ·exact .inr (SqT.of z)
 ·exact .inl (.inl (.inr ⟨o,z⟩))
def qw(hg:Gl X "tuple")(hm:X.mg "tuple" = none)(ha:SE X cl a a')(hn:noStar a=true):SE X cl (.Call (.Name "tuple" p) [a] [] pos) (.bi .tuple a'):=by
 refine gv ko hg hm (by decide +kernel) ha hn (by decide) (by decide) fun σD σ H H1 y d v Q e s1 r1 k=>?_;obtain⟨ds,e1,e2⟩:=map_some (show(RL.items y).map RL.D.tup=some d from e);subst e2;obtain⟨q,xs,rfl,hp,rs⟩:=dm e1 r1
 rcases hp with⟨z,_⟩ | ⟨z,_⟩ | ⟨⟨o,z⟩,_⟩
 ·exact⟨q,xs,rfl,.inl ⟨SqL.of z,fun l hl=>k _ _ (du s1 hl rs fun _=>rfl)⟩⟩
 ·refine⟨q,xs,rfl,.inr ⟨SqT.of z,k _ _ ⟨s1,?_,fun _ m=>(by cases m),fun M z=>nomatch (show false=true from z)⟩⟩⟩;rw[Rep];exact⟨q,xs,rfl,z,rs⟩
 ·exact⟨q,xs,rfl,.inl ⟨.inl (.inr ⟨o,z⟩),fun l hl=>k _ _ (du s1 hl rs fun _=>rfl)⟩⟩
def wo(hg:Gl X "int")(hm:X.mg "int" = none)(ha:SE X cl a a')(hn:noStar a=true):SE X cl (.Call (.Name "int" p) [a] [] pos) (.bi .int a'):=by
 refine gv qa hg hm (by decide +kernel) ha hn (by decide) (by decide) fun σD σ H H1 y d v Q e s1 r1 k=>?_
 cases y<;>first | (cases e;done) | skip
 case bl t=>cases e;exact .inr ⟨t,by rw[aN r1],k _ _ (bM s1 aK rfl)⟩
 case int t=>cases e;exact .inl ⟨t,by rw[aj r1],k _ _ (bM s1 aK rfl)⟩
def xC{prog:Program}{w:World}{d:Addr}(hd:(d == sysModules)=false) :
  MeetsIn prog w (Builtin.«dict.__len__» ⟨[.ref d],[]⟩) (fun _ R s=>∃ o es ep,s.heap.get? d=some o/\o.data=.dict es ep/\R (.ok (.ret (.int es.size s.toks))) { s with toks:=s.toks+1 }) :=
 .of_wp fun A R s ⟨o,es,ep,ho,hdat,h⟩=>by
  show wpAny _ _ (dictSize d >>= _) _ _ s;unfold dictSize;refine wpAny_bind (wpAny_bind (wpAny_dictEntries ho hdat (wpAny_pure ?_)));show wpAny _ _ (Builtin.Dict.pendingCount d >>= _) _ _ s;refine wpAny_bind (wpAny_pendingCount_other hd ?_);refine wpAny_ret_mkInt ?_;rw[Nat.add_zero];exact h
def nR{prog:Program}{w:World}{K:Type} [DecidableEq K]{knd:HeapKind prog w K}(hd:(d == sysModules)=false) :
  MeetsIn prog w (Builtin.«dict.__len__» ⟨[.ref d],[]⟩) (fun _ R s=>∃ xs,s.heap.DictOfH knd d xs/\R (.ok (.ret (.int xs.length s.toks))) { s with toks:=s.toks+1 }) :=
 .of_wp fun A R s ⟨xs,hm,h⟩=>by
  obtain⟨o,es,ep,ho,hc,hdat,hk,_,_⟩:=hm;show wpAny _ _ (dictSize d >>= _) _ _ s;unfold dictSize;refine wpAny_bind (wpAny_bind (wpAny_dictEntries ho hdat (wpAny_pure ?_)));show wpAny _ _ (Builtin.Dict.pendingCount d >>= _) _ _ s;refine wpAny_bind (wpAny_pendingCount_other hd ?_);refine wpAny_ret_mkInt ?_;rw[Nat.add_zero,size_of_entries hk];exact h
def j3{prog:Program}{w:World}{K:Type} [DecidableEq K]{knd:HeapKind prog w K}{A:Around}{E:Value->Shared->Prop}{s:Shared}{d:Addr}{xs:List (K × Addr × Value)}{Q:Value->Shared->Prop}(hd:(d == sysModules)=false)(hm:s.heap.DictOfH knd d xs)(hfit:(xs.length:Int)<2 ^ 63)
 (h:Q (.int xs.length (s.toks+1)) { s with toks:=s.toks+1+1 }):wpAny (model prog w) A (call (.builtin "len") [.ref d]) Q E s:=by
 refine Calls.call_function_entry kind_len plain_len entry_len (args_len1 _) ?_;unfold Builtin.«len»;refine wpAny_bind (m:=oneArg "len" _) (wpAny_pure ?_)
 refine wpAny_bind (m:=callSpecial? (.ref d) (Str.ofString "__len__")) (wpAny_callSpecial?_slot (name:=Str.ofString "__len__") hm.typeIs F.slot_dict_len
  (call_meetsIn F.slot_dict_len hm.typeIs F.entry_dict_len (F.args_dict_len_1 _) (nR hd) ⟨xs,hm,?_⟩))
 show wpAny _ _ _ _ _ { s with toks:=s.toks+1 };refine wpAny_bind (wpAny_holding (wpAny_pure ?_));refine wpAny_bind (wpAny_letGo ?_);show wpAny _ _ (if((xs.length:Nat):Int)<0 then _ else _) _ _ _;rw[if_neg (by omega)];show wpAny _ _ (if((xs.length:Nat):Int)≥2 ^ 63 then _ else _) _ _ _;rw[if_neg (by omega)];exact wpAny_bind (wpAny_mkInt (wpAny_pure ⟨_,rfl,h⟩))
def pS:bo X (.builtin "len") (fun xs H Q=>∃ a kvs,xs=[V.ref a]/\H a=some (.dT kvs)/\Q (.int kvs.length) H):=by
 intro pins s σ H xs us Q I r h;obtain⟨a,kvs,rfl,ha,q⟩:=h;obtain⟨u,rfl,ru⟩:=vals1 r;cases ru;obtain⟨z,hd,xs,rel,dd⟩:=sO I.hok ha;have hl:kvs.length=xs.length:=Paired.length rel;refine j3 hd dd (by rw[<-hl];rw[sizeLine_eq]at z;omega) ?_;rw[<-hl];exact⟨.int kvs.length,H,I.tok _,⟨_,rfl⟩,q⟩
def ox:bo X (.builtin "len") (fun xs H Q=>∃ a o kvs,xs=[V.ref a]/\H a=some (.frz o (.dT kvs))/\Q (.int kvs.length) H):=by
 intro pins s σ H xs us Q I r h;obtain⟨a,o,kvs,rfl,ha,q⟩:=h;obtain⟨u,rfl,ru⟩:=vals1 r;cases ru;obtain⟨_,z,hd,xs,rel,ob,es,ep,g,ex,hdat,he,nd⟩:=I.hok a _ ha;have hl:kvs.length=xs.length:=Paired.length rel;refine Calls.call_function_entry kind_len plain_len entry_len (args_len1 _) ?_;unfold Builtin.«len»;refine wpAny_bind (m:=oneArg "len" _) (wpAny_pure ?_)
 refine wpAny_bind (m:=callSpecial? (.ref a) (Str.ofString "__len__")) (wpAny_callSpecial?_slot (name:=Str.ofString "__len__") ⟨ob,g,ex.1⟩ F.slot_dict_len
  (call_meetsIn F.slot_dict_len ⟨ob,g,ex.1⟩ F.entry_dict_len (F.args_dict_len_1 _) (xC hd) ⟨ob,es,ep,g,hdat,?_⟩))
 show wpAny _ _ _ _ _ { s with toks:=s.toks+1 }
 have hs:es.size=kvs.length:=by rw[<-Array.length_toList,he,List.length_map,hl]
 rw[sizeLine_eq]at z;refine wpAny_bind (wpAny_holding (wpAny_pure ?_));refine wpAny_bind (wpAny_letGo ?_);show wpAny _ _ (if((es.size:Nat):Int)<0 then _ else _) _ _ _;rw[if_neg (by omega)];show wpAny _ _ (if((es.size:Nat):Int)≥2 ^ 63 then _ else _) _ _ _;rw[if_neg (by omega)];exact wpAny_bind (wpAny_mkInt (wpAny_pure ⟨_,rfl,⟨.int kvs.length,H,I.tok _,⟨_,by rw[hs]⟩,q⟩⟩))
def oJ:bo X (.builtin "len") (fun xs H Q=>(∃ y n,xs=[y]/\wD X.K y H n/\Q (.int n) H)\/(∃ q kvs,xs=[V.ref q]/\H q=some (.dK kvs)/\Q (.int kvs.length) H)\/(∃ q kvs,xs=[V.ref q]/\H q=some (.dT kvs)/\Q (.int kvs.length) H)\/∃ q o kvs,xs=[V.ref q]/\H q=some (.frz o (.dT kvs))/\Q (.int kvs.length) H):=bo.or qF (bo.or oS (bo.or pS ox))
def vy(hg:Gl X "len")(hm:X.mg "len" = none)(ha:SE X cl a a')(hn:noStar a=true):SE X cl (.Call (.Name "len" p) [a] [] pos) (.bi .len a'):=by
 refine jN oJ hg hm PySem.boot_len ha hn (by decide) (by decide) fun σD σ H H1 y d v Q e s1 r1 k=>?_
 cases y<;>first | (cases e;done) | skip
 case str t =>
  rw[RL.yI]at e;split at e
  ·rename_i hz;cases e;rw[aB r1];exact .inl ⟨_,_,rfl,⟨Nat.le_trans hz bI,rfl⟩,k _ _ (bM s1 aK rfl)⟩
  ·cases e
 case tup t =>
  cases e;obtain⟨q,xs,rfl,f2,f3⟩:=aQ r1;dsimp only at k;rw[f3.length]at k;exact .inl ⟨_,_,rfl,.inr ⟨xs,SqT.of f2,rfl⟩,k _ _ (bM s1 aK rfl)⟩
 case lst t =>
  cases e;obtain⟨q,xs,rfl,_,f2,f3⟩:=aC r1;dsimp only at k;rw[f3.length]at k;exact .inl ⟨_,_,rfl,.inl ⟨xs,SqL.of f2,rfl⟩,k _ _ (bM s1 aK rfl)⟩
 case fL t =>
  cases e;rw[Rep]at r1;obtain⟨q,o,xs,rfl,f2,f3⟩:=r1;dsimp only at k;rw[f3.length]at k;exact .inl ⟨_,_,rfl,.inl ⟨xs,.inl (.inr ⟨o,f2⟩),rfl⟩,k _ _ (bM s1 aK rfl)⟩
 case dK ks t =>
  cases e;rw[Rep]at r1;obtain⟨q,xs,rfl,_,f2,fl,f3⟩:=r1;refine .inr (.inl ⟨q,_,rfl,f2,?_⟩)
  have:(ks.zip xs).length=ks.length:=by rw[List.length_zip,<-f3.length,fl,Nat.min_self]
  rw[this];exact k _ _ (bM s1 aK rfl)
 case dT ks t =>
  cases e;rw[Rep]at r1;obtain⟨q,xs,rfl,_,f2,fl,f3⟩:=r1;refine .inr (.inr (.inl ⟨q,_,rfl,f2,?_⟩))
  have:(ks.zip xs).length=ks.length:=by rw[List.length_zip,<-f3.length,fl,Nat.min_self]
  rw[this];exact k _ _ (bM s1 aK rfl)
 case fT ks t =>
  cases e;rw[Rep]at r1;obtain⟨q,o,xs,rfl,f2,fl,f3⟩:=r1;refine .inr (.inr (.inr ⟨q,o,_,rfl,f2,?_⟩))
  have:(ks.zip xs).length=ks.length:=by rw[List.length_zip,<-f3.length,fl,Nat.min_self]
  rw[this];exact k _ _ (bM s1 aK rfl)
def xw(hc:X.calm=true)(hg:Gl X "max")(hm:X.mg "max" = none)(ha:SE X cl a a')(hb:SE X cl b b')(hn:noStar a=true)(hn2:noStar b=true):SE X cl (.Call (.Name "max" p) [a,b] [] pos) (.max a' b'):=by
 refine PE.weak (fY (pA hc) hg hm (by decide +kernel) (bc (cl:=cl) ha (bc hb bW hn2) hn) (by decide) (by decide) (a7 _ hn) (cg (by simp[hn2]))) fun σ H Q h=>?_;obtain⟨σD,d,rv,e,k⟩:=h;obtain⟨u,ea,e⟩:=bind_some e;obtain⟨v,eb,e⟩:=bind_some e
 cases u with
 |int i=>
  cases v with
  |int j=>
   cases e
   exact pair rv ea eb fun v u H1 s1 r1 r2=>⟨i,j,by rw[aj r1,aj r2],k _ _ (bM s1 aK rfl)⟩
  | _=>cases e
 | _=>cases e
abbrev tyN:RL.Ty->String
 | .int => "int"
 | .bool => "bool"
 | .list => "list"
 | .tuple => "tuple"
 | .str => "str"
def rG:bo X (.builtin "isinstance") (fun xs H Q=>∃ y t T k,xs=[y,.ty T]/\di X.K H y t/\PySem.W.kitOne X.K t (.type T)=some k/\Q (.bl k) H):=by
 intro pins s σ H xs us Q I r h;obtain⟨y,t,T,k,rfl,ty,e,q⟩:=h;obtain⟨u,w,rfl,r1,r2⟩:=vals2 r;cases r2
 exact ou I r1 ty e fun tk=>⟨.bl k,H,I.tok tk,rfl,q⟩
def vJ(h:RL.vG t d=some k)(r:Rep nP X.K H d v):∃ ty,di X.K H v ty/\PySem.W.kitOne X.K ty (.type (tyN t))=some k:=by
 cases d with
 | non=>rw[Rep]at r;subst r;refine⟨_,.non,?_⟩;cases t<;>(cases h;rfl)
 | bl i=>rw[aN r];refine⟨_,.bl i,?_⟩;cases t<;>(cases h;rfl)
 | int i=>rw[aj r];refine⟨_,.int i,?_⟩;cases t<;>(cases h;rfl)
 | str i=>rw[aB r];refine⟨_,.str i,?_⟩;cases t<;>(cases h;rfl)
 | tup i=>obtain⟨q,xs,rfl,f2,f3⟩:=aQ r;refine⟨_,.tup f2,?_⟩;cases t<;>(cases h;rfl)
 | lst i=>obtain⟨q,xs,rfl,_,f2,f3⟩:=aC r;refine⟨_,.lst f2,?_⟩;cases t<;>(cases h;rfl)
 | fL i=>rw[Rep]at r;obtain⟨q,o,xs,rfl,f2,f3⟩:=r;refine⟨_,.frz f2,?_⟩;cases t<;>(cases h;rfl)
 | _=>cases t<;>cases h
def xq(hg:Gl X "isinstance")(hm:X.mg "isinstance" = none)(hgy:Gl X y)(hmy:X.mg y=none)(hy:bootBuiltins y=some (.type (tyN t)))(hy1:y ≠ "__name__")(hy2:(y == ("__debug__" : Str))=false)(ha:SE X cl a a')(hn:noStar a=true) :
  SE X cl (.Call (.Name "isinstance" p) [a,.Name y p2] [] pos) (.isi a' t):=by
 have hty:PE X (.Name y p2) (tC (.ty (tyN t))):=uQ hgy hmy hy rfl hy1 hy2;refine PE.weak (fY rG hg hm (by decide +kernel) (bK ha (bK hty da rfl) (a7 _ hn)) (by decide) (by decide) (a7 _ hn) rfl) fun σ H Q h=>?_;obtain⟨σD,d,rv,e,k⟩:=h;obtain⟨u,ea,e⟩:=bind_some e;obtain⟨t',e1,e2⟩:=map_some e;subst e2;refine⟨σD,u,rv,ea,fun v H1 r1=>?_⟩;obtain⟨ty,h1,h2⟩:=vJ e1 r1.rep;exact⟨v,ty,_,t',rfl,h1,h2,k _ _ (c6 r1.same)⟩
end rules
end RS
namespace L2
open PySem PySem.Spec PyProof.Rows
structure gO(prog:Program)(w:World):Prop where
 draws:∀ {A:Around},A.handled=none->∀ (ti tp:Addr),tp≠ti->∀ its:Array Value,Draws prog w A ti [ti,tp] its.size (fun i v=>its[i]?=some v) (fun i h=>h.IsTupleIter ti tp i/\h.IsTuple tp its)
 call:∀ {A:Around} {E:Value->Shared->Prop} {z:Shared} {tp:Addr} {its:Array Value} {Q:Value->Shared->Prop},z.heap.IsTuple tp its ->
  (∀ g,IsEnum g (z.heap.objs.size+1) z.heap.objs.size 0 .none->g.IsTupleIter z.heap.objs.size tp 0->(∀ b o,z.heap.get? b=some o->g.get? b=some o)->Q (.ref (z.heap.objs.size+1)) { z with heap:=g })->wpAny (model prog w) A (call (.type "enumerate") [.ref tp]) Q E z
section
def Inv.uw{h':Heap}{t':Nat}{fp:List Addr}(I:Inv X pins σ H s)(k:∀ b o,b∉fp->s.heap.get? b=some o->h'.get? b=some o)(hf:∀ b∈fp,H b=none/\(b∈X.ex\/X.s₀.heap.objs.size<=b)/\b≠X.env.locals/\(∀ x c,X.env.cells.lookup x=some c->c≠b)/\∀ p∈X.pn++pins,p.1≠b) :
  Inv X pins σ H { s with heap:=h',toks:=t' }:=by
 have nf:∀ b u,H b=some u->b∉fp:=fun b u e z=>by rw[(hf b z).1]at e;cases e
 refine I.sr (s':={ s with heap:=h',toks:=t' }) (ch:=fp) rfl ⟨fun b o e _ _ hx=>k b o hx e,fun b o e _ _ hx=>⟨o.slots,k b o hx e⟩,fun _ _ _ n _=>n,fun b o e hx=>⟨o,k b o hx e⟩,fun _ _ e=>e,fun _ _ _ e=>e,fun b ps e=>⟨#[],by rw[e];simp⟩⟩ (fun b u e=>?_) I.bare fun b hb=>(hf b hb).2;refine(I.hok b u e).js (fun c v hc q=>k c v ?_ q) (fun _ q=>q) fun _ _ q=>q;rcases hc with z | z
 ·rw[z];exact nf b u e
 ·exact nf c _ z
end
abbrev Ite(cont:Hp->List V->Prop):It :=
 ⟨fun i H=>∃ xs x,cont H xs/\xs[i]?=some x,fun i H v H'=>∃ p x,H p=none/\v=.ref p/\H'=upd H p (.tup [.int i,x])/\∀ xs,cont H xs->xs[i]?=some x,fun i H=>∃ xs,cont H xs/\xs.length=i⟩
structure Src(P:Program)(w:World)(K:PySem.W.Frag)(e it:Addr)(cont:Hp->List V->Prop)(ia:Nat->Heap->Prop):Prop where
 obj:∀ i h,ia i h->∃ o,h.get? it=some o/\∀ v,o.data≠.cell v
 keep:∀ i h h',ia i h->(∀ o,h.get? it=some o->h'.get? it=some o)->ia i h'
 inj:∀ (H:Hp) xs ys,cont H xs->cont H ys->xs=ys
 dr:∀ (X:Cx),X.prog=P->X.w=w->X.K=K->X.calm=true->∀ (pins:List (Addr × Obj)) (s:Shared) (σ:St) (H:Hp) (xs:List V),Inv X pins σ H s->H e=none->H it=none->cont H xs ->
  ∃ (fp:List Addr) (Pv:Nat->Value->Prop) (St:Nat->Heap->Prop),Draws P w X.A.in1 it fp xs.length Pv St/\e∉fp/\(∀ i,ia i s.heap->St i s.heap)/\(∀ i h,St i h->ia i h)/\∀ i v,Pv i v->∃ x,xs[i]?=some x/\RelV x v
def oD{P:Program}{w:World}{K:PySem.W.Frag}(hei:e≠it)(S:Src P w K e it cont ia) :
  Turn P w K (.Tuple elts kx tp) (Ite cont) [e,it] e (fun i h=>(∃ old,IsEnum h e it i old)/\ia i h) where
 mem:=by simp
 obj:=fun i h st b hb=>by
  rcases List.mem_cons.mp hb with rfl | hb
  ·obtain⟨⟨old,he⟩,_⟩:=st;exact⟨_,he,fun v z=>by cases z⟩
  ·rw[List.mem_singleton.mp hb];exact S.obj i h st.2
 keep:=fun i h h' st k=>by
  obtain⟨⟨old,he⟩,hi⟩:=st;exact⟨⟨old,k e (by simp) _ he⟩,S.keep i h h' hi fun o q=>k it (by simp) o q⟩
 item:=by
  intro X hP hw hK hc i pins s σ H E I hf st hg;subst hP hw hK;obtain⟨⟨old,he⟩,hi⟩:=st;obtain⟨xs,x,hq,hx⟩:=hg;have fe:=hf e (by simp);have fi:=hf it (by simp);obtain⟨fp,Pv,St,D,hef,h1,h2,h3⟩:=S.dr X rfl rfl rfl hc pins s σ H xs I fe.1 fi.1 hq;have hlt:i<xs.length:=(List.getElem?_eq_some_iff.mp hx).1;refine wpAny_pyNext_enum_itemD D he (h1 i hi) hlt hei hef fun v h' tk hP ho hs' hT hsz hk=>?_;obtain⟨x',hx',rx⟩:=h3 i v hP;rw[hx]at hx';cases hx';refine⟨.ref s.heap.objs.size,rfl,wpAny_letOwnedTupleGo_enum ho fun h'' he' hs''=>?_⟩;have hn:H s.heap.objs.size=none:=I.hok.fresh (Nat.le_refl _)
  have I1:Inv X pins σ (upd H s.heap.objs.size (.tup [.int i,x])) { s with heap:=s.heap.push { cls:=.type "tuple",data:=.seq #[.int i tk,v] },toks:=tk+1 } :=
   I.laid (t':=tk+1) (fun b u q=>Heap.get?_push_of_some _ q) (Nat.le_refl _) ⟨by show 2<=sizeLine;decide,[.int i tk,v],.cons ⟨tk,rfl⟩ (.cons rx .nil),⟨_,Heap.get?_push_size _ rfl,rfl,_,rfl⟩⟩
  have hes:e<s.heap.objs.size:=Heap.lt_size he
  have hit:it<s.heap.objs.size:=by obtain⟨o,q,_⟩:=S.obj i _ hi;exact Heap.lt_size q
  have stat:∀ b∈[e,it],upd H s.heap.objs.size (.tup [.int i,x]) b=none/\(b∈X.ex\/X.s₀.heap.objs.size<=b)/\b≠X.env.locals/\(∀ x c,X.env.cells.lookup x=some c->c≠b)/\∀ p∈X.pn++pins,p.1≠b:=fun b hb=>by
   obtain⟨f0,f1,f2,f3,f4,f5⟩:=hf b hb
   have hb':b≠s.heap.objs.size:=by
    rcases List.mem_cons.mp hb with rfl | hb
    ·exact Nat.ne_of_lt hes
    ·rw[List.mem_singleton.mp hb];exact Nat.ne_of_lt hit
   exact⟨by rw[aE hb'];exact f0,f3,f1,f4,f5⟩
  have I2:Inv X pins σ (upd H s.heap.objs.size (.tup [.int i,x])) { s with heap:=h'',toks:=tk+1 }:=by
   refine Inv.uw (s:={ s with heap:=s.heap.push { cls:=.type "tuple",data:=.seq #[.int i tk,v] },toks:=tk+1 }) (h':=h'') (t':=tk+1) (fp:=[e,it]) I1 (fun b o hb q=>?_) stat;have b1:b≠e:=fun z=>hb (by simp[z]);have b2:b≠it:=fun z=>hb (by simp[z]);refine hs''.extBut b o b1 ?_;by_cases hbT:b=s.heap.objs.size
   ·subst hbT;have q':(s.heap.push { cls:=.type "tuple",data:=.seq #[.int i tk,v] }).get? s.heap.objs.size=some o:=q;rw[Heap.get?_push_size _ rfl]at q';cases q';exact hT
   ·have q':s.heap.get? b=some o:=(Heap.get?_push_ne _ _ _ hbT).symm.trans q;exact hk b o b1 b2 q'
  refine⟨.ref s.heap.objs.size,_,I2,rfl,⟨s.heap.objs.size,x,hn,rfl,rfl,fun ys hy=>by rw[S.inj H ys xs hy hq];exact hx⟩,⟨⟨v,by simpa using he'⟩,S.keep _ h' h'' (h2 _ _ hs') fun o q=>hs''.extBut _ _ (Ne.symm hei) q⟩,fun b hb=>(stat b hb).1⟩
 done:=by
  intro X hP hw hK hc i pins s σ H E I hf st hg;subst hP hw hK;obtain⟨⟨old,he⟩,hi⟩:=st;obtain⟨xs,hq,hx⟩:=hg;have fe:=hf e (by simp);have fi:=hf it (by simp);obtain⟨fp,Pv,St,D,hef,h1,h2,h3⟩:=S.dr X rfl rfl rfl hc pins s σ H xs I fe.1 fi.1 hq;subst hx
  refine wpAny_pyNext_enum_endD D he (h1 _ hi) fun h' eb=>⟨rfl,?_⟩
  obtain⟨f0,f1,f2,f3,f4,f5⟩:=fi;exact I.turned (it:=it) (h':=h') (t':=s.toks) (fun b o hb q=>eb b o hb q) f0 f1 f3 f4 f5
 self:=fun A i s Q E st h=>by
  obtain⟨⟨old,he⟩,hi⟩:=st;exact wpAny_pyIter_enum he h
def src_list{P:Program}{w:World}{K:PySem.W.Frag}(hei:e≠it):Src P w K e it (fun H xs=>H l=some (.lst xs)) (fun i h=>h.IsListIter it l i) where
 obj:=fun i h st=>let ⟨o,ho,_,hd⟩:=st;⟨o,ho,fun v q=>by rw[hd]at q;cases q⟩
 keep:=fun i h h' st k=>st.at fun o q=>k o q
 inj:=fun H xs ys h1 h2=>by rw[h1]at h2;cases h2;rfl
 dr:=by
  intro X hP hw hK hc pins s σ H xs I he hi hx;subst hP hw hK;obtain⟨its,rv,p,hz⟩:=I.list (SqL.of hx)
  have hl:its.toArray.size=xs.length:=by rw[List.size_toArray,rv.length]
  have hh:X.A.in1.handled=none:=I.ok.hd.1 hc;have D:=Draws.list (prog:=X.prog) (w:=X.w) (A:=X.A.in1) hh it l (aJ hx hi) its.toArray;rw[hl]at D;refine⟨_,_,_,D,?_,fun i st=>⟨st,p.isList⟩,fun i h st=>st.1,fun i v hv=>?_⟩
  ·intro m;rcases List.mem_cons.mp m with q | m
   ·exact hei q
   ·exact(aJ hx he).symm (List.mem_singleton.mp m)
  ·have hv:its[i]?=some v:=by simpa using hv
   have hlt:i<xs.length:=by rw[rv.length];exact(List.getElem?_eq_some_iff.mp hv).1
   obtain⟨u,h1,h2⟩:=rv.get (i:=i) (x:=xs[i]) (by simp[hlt]);rw[hv]at h1;cases h1;exact⟨xs[i],by simp[hlt],h2⟩
def uJ{P:Program}{w:World}{K:PySem.W.Frag}(TE:gO P w)(hei:e≠it):Src P w K e it (fun H xs=>H l=some (.tup xs)) (fun i h=>h.IsTupleIter it l i) where
 obj:=fun i h st=>let ⟨o,ho,_,hd⟩:=st;⟨o,ho,fun v q=>by rw[hd]at q;cases q⟩
 keep:=fun i h h' st k=>let ⟨o,ho,r⟩:=st;⟨o,k o ho,r⟩
 inj:=fun H xs ys h1 h2=>by rw[h1]at h2;cases h2;rfl
 dr:=by
  intro X hP hw hK hc pins s σ H xs I he hi hx;subst hP hw hK;obtain⟨its,rv,p,hz⟩:=I.tuple (SqT.of hx)
  have hl:its.toArray.size=xs.length:=by rw[List.size_toArray,rv.length]
  have hh:X.A.in1.handled=none:=I.ok.hd.1 hc;have D:=TE.draws (A:=X.A.in1) hh it l (aJ hx hi) its.toArray;rw[hl]at D;refine⟨_,_,_,D,?_,fun i st=>⟨st,p⟩,fun i h st=>st.1,fun i v hv=>?_⟩
  ·intro m;rcases List.mem_cons.mp m with q | m
   ·exact hei q
   ·exact(aJ hx he).symm (List.mem_singleton.mp m)
  ·have hv:its[i]?=some v:=by simpa using hv
   have hlt:i<xs.length:=by rw[rv.length];exact(List.getElem?_eq_some_iff.mp hv).1
   obtain⟨u,h1,h2⟩:=rv.get (i:=i) (x:=xs[i]) (by simp[hlt]);rw[hv]at h1;cases h1;exact⟨xs[i],by simp[hlt],h2⟩
abbrev fo(x:Str):List V:=x.cps.toList.map fun c=>.str ⟨#[c]⟩
def t7{P:Program}{w:World}{K:PySem.W.Frag}(hei:e≠it):Src P w K e it (fun _ xs=>xs=fo x) (fun i h=>h.IsStrIter it (strIterType x) x t i) where
 obj:=fun i h st=>let ⟨o,ho,_,hd⟩:=st;⟨o,ho,fun v q=>by rw[hd]at q;cases q⟩
 keep:=fun i h h' st k=>let ⟨o,ho,r⟩:=st;⟨o,k o ho,r⟩
 inj:=fun H xs ys h1 h2=>by rw[h1,h2]
 dr:=by
  intro X hP hw hK hc pins s σ H xs I he hi hx;subst hP hw hK hx;have hh:X.A.in1.handled=none:=I.ok.hd.1 hc
  have hl:x.cps.size=(fo x).length:=by simp[fo]
  have pv:∀ (i:Nat) (v:Value),(∃ c u,x.cps[i]?=some c/\v=Value.str ⟨#[c]⟩ u)->∃ y,(fo x)[i]?=some y/\RelV y v:=fun i v hv=>by
   obtain⟨c,u,h1,h2⟩:=hv;exact⟨.str ⟨#[c]⟩,by simp[fo,h1],u,h2⟩
  have ni:e∉[it]:=fun m=>hei (List.mem_singleton.mp m)
  cases ha:x.cps.all (·<128)with
  |true=>
   have ht:strIterType x = "str_ascii_iterator" := by simp[strIterType,ha]
   have D:=Draws.strAscii (prog:=X.prog) (w:=X.w) (A:=X.A.in1) hh it x t;rw[hl]at D;exact⟨_,_,_,D,ni,fun i st=>by rw[ht]at st;exact st,fun i h st=>by rw[ht];exact st,pv⟩
  |false=>
   have ht:strIterType x = "str_iterator" := by simp[strIterType,ha]
   have D:=Draws.strWide (prog:=X.prog) (w:=X.w) (A:=X.A.in1) hh it x t;rw[hl]at D;exact⟨_,_,_,D,ni,fun i st=>by rw[ht]at st;exact st,fun i h st=>by rw[ht];exact st,pv⟩
section
abbrev yo(ta:TA):TI:=fun σ H R=>ta σ H fun vs H1=>(∃ l xs,vs=[.ref l]/\H1 l=some (.lst xs)/\R (Ite fun H xs=>H l=some (.lst xs)) H1)\/(∃ l xs,vs=[.ref l]/\H1 l=some (.tup xs)/\R (Ite fun H xs=>H l=some (.tup xs)) H1) \/
 (∃ x,vs=[.str x]/\R (Ite fun _ xs=>xs=fo x) H1)
def i4(I:Inv X pins σ H s)(S:Src X.prog X.w X.K (s.heap.objs.size+1) s.heap.objs.size cont ia)
 (he:IsEnum g (s.heap.objs.size+1) s.heap.objs.size 0 .none)(hi:ia 0 g)(hk:∀ b o,s.heap.get? b=some o->g.get? b=some o)(q:R (Ite cont) H) :
  wpAny (model X.prog X.w) X.A (pyIter (.ref (s.heap.objs.size+1))) (PIE X pins σ (.Tuple elts kx tp) R) E { s with heap:=g }:=by
 refine wpAny_pyIter_enum he ⟨s.heap.objs.size+1,[s.heap.objs.size+1,s.heap.objs.size],_,_,H,rfl,I.kept (t':=s.toks) hk,oD (Nat.succ_ne_self _) S,⟨⟨.none,he⟩,hi⟩,fun b hb=>?_,q⟩
 have hb':s.heap.objs.size<=b:=by
  rcases List.mem_cons.mp hb with z | z
  ·rw[z];exact Nat.le_succ _
  ·rw[List.mem_singleton.mp z];exact Nat.le_refl _
 exact I.lu hb' (I.hok.fresh hb')
def uY(TE:gO X.prog X.w)(hg:Gl X "enumerate")(hm:X.mg "enumerate" = none)(ha:PA X [a] ta)(hs:starEach [a] X.env=[(false,eval a X.env)]):PI X (.Tuple elts kx tp) (.Call (.Name "enumerate" p) [a] [] pos) (yo ta):=by
 intro pins s σ H R I h;refine Call_ (fu I hg hm boot_enumerate (PyProof.Rows.callWith_type1 (thn (ha pos pins s σ H _ I h) fun us s1 ⟨vs,H1,I1,r1,q1⟩=>?_) hs rfl) (by decide) (by decide))
 rcases q1 with⟨l,xs,rfl,hx,q⟩ | ⟨l,xs,rfl,hx,q⟩ | ⟨x,rfl,q⟩
 ·obtain⟨u,rfl,ru⟩:=vals1 r1;cases ru;obtain⟨its,rv,pl,hz⟩:=I1.list (SqL.of hx);exact call_enumerate_list pl.isList fun g he hi hsz hk=>i4 I1 (src_list (Nat.succ_ne_self _)) he hi hk q
 ·obtain⟨u,rfl,ru⟩:=vals1 r1;cases ru;obtain⟨its,rv,pl,hz⟩:=I1.tuple (SqT.of hx);exact TE.call pl fun g he hi hk=>i4 I1 (uJ TE (Nat.succ_ne_self _)) he hi hk q
 ·obtain⟨u,rfl,ru⟩:=vals1 r1;obtain⟨t,rfl⟩:=ru;exact call_enumerate_str fun g he hi hsz hk=>i4 I1 (t7 (Nat.succ_ne_self _)) he hi hk q
end
end L2
namespace RS
open PySem PySem.Spec PyProof.Rows L2
def gq:∀ (ds:List RL.D) (k:Int),(RL.cS k ds).length=ds.length
 | [],_=>rfl
 | d::r,k=>by rw[RL.cS,List.length_cons,List.length_cons,gq r]
def jT:∀ (ds:List RL.D) (k:Int) (i:Nat) (d:RL.D),(RL.cS k ds)[i]?=some d->∃ e,ds[i]?=some e/\d=.tup [.int (k+i),e]
 | [],k,i,d,h=>by simp[RL.cS]at h
 | e::r,k,0,d,h=>by simp[RL.cS]at h;exact⟨e,rfl,by simp[h]⟩
 | e::r,k,i+1,d,h=>by
  rw[RL.cS,List.getElem?_cons_succ]at h;obtain⟨e',h1,h2⟩:=jT r (k+1) i d h;refine⟨e',by simpa using h1,?_⟩;rw[h2];congr 3;lia
def eg{K:PySem.W.Frag}(hc:∀ H',Off P H H'->cont H' xs)(hj:∀ H' ys,cont H' xs->cont H' ys->ys=xs)(r:ae nP K H ds xs)(hm:∀ b o,P b->H b=some o->bX o):fX K (Ite cont) (RL.cS 0 ds) P H where
 go:=fun H' i k hi=>by
  rw[gq]at hi;obtain⟨x,e,_⟩:=r.get (i:=i) (d:=ds[i]) (by simp[hi]);exact⟨xs,x,hc H' k,e⟩
 stop:=fun H' k=>⟨xs,hc H' k,by rw[gq,r.length]⟩
 yld:=fun H' i d v H2 k e y=>by
  obtain⟨p,x,hp,rfl,rfl,hx⟩:=y;obtain⟨e',h1,rfl⟩:=jT ds 0 i d e;obtain⟨x',h2,h3⟩:=r.get h1;rw[hx xs (hc H' k)]at h2;cases h2;refine⟨ay.c8 hp,fun q=>?_⟩
  have re:Rep nP K H' e' x:=by
   rcases q with q | q
   ·have q:(true&&(e'.imm&&true))=true:=q;simp only[Bool.true_and,Bool.and_true]at q;exact fI hm k h3 q
   ·exact h3.same q
  rw[Rep];refine⟨p,[.int i,x],rfl,aV,ae.cons ?_ (ae.cons (re.same (ay.c8 hp)) ae.nil)⟩;simpa using(aK (P:=nP) (K:=K) (H:=upd H' p (.tup [.int i,x])) (i:=(i:Int)))
def oP{P:Addr->Prop}{K:PySem.W.Frag}(h:RL.iZ d=some ds)(r:Rep P K H d v):(∃ p xs,v=.ref p/\H p=some (.lst xs)/\d=.lst ds/\ae P K H ds xs)\/(∃ p xs,v=.ref p/\H p=some (.tup xs)/\d=.tup ds/\ae P K H ds xs) \/
  (∃ x,v=.str x/\d=.str x/\ds=x.cps.toList.map fun c=>.str ⟨#[c]⟩):=by
 cases d<;>simp only[RL.iZ]at h<;>first | (cases h;done) | skip
 case lst ys=>cases h;obtain⟨p,xs,e1,_,e2,e3⟩:=aC r;exact .inl ⟨p,xs,e1,e2,rfl,e3⟩
 case tup ys=>cases h;obtain⟨p,xs,e1,e2,e3⟩:=aQ r;exact .inr (.inl ⟨p,xs,e1,e2,rfl,e3⟩)
 case str x=>cases h;exact .inr (.inr ⟨x,aB r,rfl,rfl⟩)
def fO{P:Addr->Prop}{K:PySem.W.Frag}:∀ (cs:List Nat),ae P K H (cs.map fun c=>RL.D.str ⟨#[c]⟩) (cs.map fun c=>V.str ⟨#[c]⟩)
 | []=>ae.nil
 | c::r=>ae.cons f9 (fO r)
section rules
def wW(TE:gO X.prog X.w)(hg:Gl X "enumerate")(hm:X.mg "enumerate" = none)(ha:SE X cl a a')(hn:noStar a=true):SI X cl (.Tuple elts kx tp) (.Call (.Name "enumerate" p) [a] [] pos) (.enm a'):=by
 intro pins s σ H R I h;obtain⟨σD,ds,rv,e,k⟩:=h;obtain⟨d,e1,e2⟩:=bind_some e;obtain⟨es,e3,e4⟩:=map_some e2;subst e4;have hpa:PA X [a] (iD (tE X.K cl a') mW):=bK ha da (a7 [] hn);refine uY TE hg hm hpa (a7 [] hn) pins s σ H R I ⟨σD,d,rv,e1,fun v H1 r1=>?_⟩
 rcases oP e3 r1.rep with⟨l,xs,rfl,hx,rfl,rs⟩ | ⟨l,xs,rfl,hx,rfl,rs⟩ | ⟨x,rfl,rfl,rfl⟩
 ·refine .inl ⟨l,xs,rfl,hx,k _ _ r1.same ⟨eg (fun H' o=>o _ _ (fun z=>z) hx) (fun H' ys h1 h2=>by rw[h1]at h2;cases h2;rfl) rs eC,fun M P z hP av=>?_⟩⟩;exact eg (fun H' o=>o _ _ (pW r1 z hP av _ _ rfl rfl) hx) (fun H' ys h1 h2=>by rw[h1]at h2;cases h2;rfl) rs (cK r1.same hP)
 ·have np:∀ P:Addr->Prop,(∀ b o,P b->H1 b=some o->bX o)->¬ P l:=fun P hP q=>by rcases hP l _ q hx with⟨z,q⟩ | ⟨z,q⟩ | ⟨z,q⟩<;>cases q
  exact .inr (.inl ⟨l,xs,rfl,hx,k _ _ r1.same ⟨eg (fun H' o=>o _ _ (np _ eC) hx) (fun H' ys h1 h2=>by rw[h1]at h2;cases h2;rfl) rs eC,fun M P z hP av=>eg (fun H' o=>o _ _ (np P (cK r1.same hP)) hx) (fun H' ys h1 h2=>by rw[h1]at h2;cases h2;rfl) rs (cK r1.same hP)⟩⟩)
 ·exact .inr (.inr ⟨x,rfl,k _ _ r1.same ⟨eg (fun H' o=>rfl) (fun H' ys h1 h2=>h2) (fO _) eC,fun M P z hP av=>eg (fun H' o=>rfl) (fun H' ys h1 h2=>h2) (fO _) (cK r1.same hP)⟩⟩)
end rules
section rules
variable{X:Cx}
def ui{P:Addr->Prop}{K:PySem.W.Frag}(h:Rep P K H (.scr ds) v):∃ a xs,v=.ref a/\gn K H a xs/\ae P K H ds xs:=by rw[Rep]at h;exact h
def qb(n:Nat)(k:Int):HT.sIx n n (some k)=RL.cutAt n k:=by
 have h:=HT.er k n n;unfold RL.cutAt;split at h
 ·rw[if_neg (by lia)];lia
 ·rw[if_pos (by lia)];lia
def nS(n:Nat)(k:Int):HT.sIx n 0 (some k)=RL.cutAt n k:=by
 have h:=HT.er k n 0;unfold RL.cutAt;split at h
 ·rw[if_neg (by lia)];lia
 ·rw[if_pos (by lia)];lia
def ye(ha:SE X cl a a')(hb:SE X cl b b'):SE X cl (.Subscript a (.Slice none (some b) none p2) pos) (.slT a' b'):=by
 refine PE.weak (kM (SlR.or mj oH) ha mq (m9 hb)) fun σ H Q h=>?_;obtain⟨σD,d,rv,e,k⟩:=h;obtain⟨x,ea,e⟩:=bind_some e;obtain⟨y,eb,e⟩:=bind_some e;refine⟨σD,x,rv,ea,fun v H1 r1=>⟨σD,y,rv.same r1.same,eb,fun u H2 r2=>?_⟩⟩;have rx:=r1.rep.same r2.same;have sm:=r1.same.trans r2.same
 cases y with
 |int n=>
  refine⟨n,aj r2.rep,?_⟩
  cases x with
  |lst xs=>
   cases e;obtain⟨q,ys,rfl,_,f2,f3⟩:=aC rx;refine .inl ⟨q,ys,rfl,SqL.of f2,fun l hl=>?_⟩;unfold dk;rw[fP,<-f3.length];exact k _ _ (cm sm hl (f3.take _) fun _=>rfl)
  |scr xs=>
   cases e;obtain⟨q,ys,rfl,f2,f3⟩:=ui rx;refine .inl ⟨q,ys,rfl,f2.seq,fun l hl=>?_⟩;unfold dk;rw[fP,<-f3.length];exact k _ _ (cm sm hl (f3.take _) fun _=>rfl)
  |fL xs=>
   cases e;rw[Rep]at rx;obtain⟨q,o,ys,rfl,f2,f3⟩:=rx;refine .inl ⟨q,ys,rfl,.inl (.inr ⟨o,f2⟩),fun l hl=>?_⟩;unfold dk;rw[fP,<-f3.length];exact k _ _ (cm sm hl (f3.take _) fun _=>rfl)
  |tup xs=>
   simp only[RL.fS]at e;split at e
   ·rename_i hz;cases e;obtain⟨q,ys,rfl,f2,f3⟩:=aQ rx;refine .inr ⟨q,ys,rfl,SqT.of f2,fun z=>?_,fun l hl=>?_⟩
    ·rw[qb,<-f3.length]at z;lia
    ·unfold dk;rw[fP,<-f3.length];exact k _ _ (du sm hl (f3.take _) fun _=>rfl)
   ·cases e
  | _=>cases e
 | _=>cases x<;>cases e
def wI(ha:SE X cl a a')(hb:SE X cl b b'):SE X cl (.Subscript a (.Slice (some b) none none p2) pos) (.slF a' b'):=by
 refine PE.weak (kM (SlR.or mj oH) ha (m9 hb) mq) fun σ H Q h=>?_;obtain⟨σD,d,rv,e,k⟩:=h;obtain⟨x,ea,e⟩:=bind_some e;obtain⟨y,eb,e⟩:=bind_some e;refine⟨σD,x,rv,ea,fun v H1 r1=>⟨σD,y,rv.same r1.same,eb,fun u H2 r2=>?_⟩⟩;have rx:=r1.rep.same r2.same;have sm:=r1.same.trans r2.same
 cases y with
 |int n=>
  refine⟨n,aj r2.rep,?_⟩
  cases x with
  |lst xs=>
   cases e;obtain⟨q,ys,rfl,_,f2,f3⟩:=aC rx;refine .inl ⟨q,ys,rfl,SqL.of f2,fun l hl=>?_⟩;unfold dk;rw[iq,<-f3.length];exact k _ _ (cm sm hl (f3.drop _) fun _=>rfl)
  |fL xs=>
   cases e;rw[Rep]at rx;obtain⟨q,o,ys,rfl,f2,f3⟩:=rx;refine .inl ⟨q,ys,rfl,.inl (.inr ⟨o,f2⟩),fun l hl=>?_⟩;unfold dk;rw[iq,<-f3.length];exact k _ _ (cm sm hl (f3.drop _) fun _=>rfl)
  |tup xs=>
   simp only[RL.cW]at e;split at e
   ·rename_i hz;cases e;obtain⟨q,ys,rfl,f2,f3⟩:=aQ rx;refine .inr ⟨q,ys,rfl,SqT.of f2,fun z=>?_,fun l hl=>?_⟩
    ·rw[nS,<-f3.length]at z;lia
    ·unfold dk;rw[iq,<-f3.length];exact k _ _ (du sm hl (f3.drop _) fun _=>rfl)
   ·cases e
  | _=>cases e
 | _=>cases x<;>cases e
def kA{P:Addr->Prop}{K:PySem.W.Frag}(h:RL.keyOf d=some k)(r:Rep P K H d v):v=kV k:=by
 cases d<;>simp only[RL.keyOf]at h<;>first | (cases h;done) | skip
 case int i=>cases h;exact aj r
 case str i=>cases h;exact aB r
def jP{P:Addr->Prop}{K:PySem.W.Frag}:∀ {ds:List RL.D} {k:List RL.Ky} {xs:List V},RL.keysOf ds=some k->ae P K H ds xs->xs=k.map kV
 | [],k,xs,h,r=>by cases h;rw[ae]at r;exact r
 | d::ds,k,xs,h,r=>by
  rw[RL.keysOf]at h;obtain⟨k1,h1,h⟩:=bind_some h;obtain⟨k2,h2,h3⟩:=map_some h;subst h3;rw[ae]at r;obtain⟨v,t,rfl,r1,r2⟩:=r;rw[kA h1 r1,jP h2 r2];rfl
end rules
section rules
variable{X:Cx}{st:Stmt}
def mR{κ:Type} [DecidableEq κ]{x:κ}{d:RL.D}{v:V}{P:Addr->Prop}{K:PySem.W.Frag}{H:Hp}{ks:List κ}{ds:List RL.D}{xs:List V}(hl:ks.length=ds.length)(r:ae P K H ds xs)(rv:Rep P K H d v) :
  ∃ ys,putK (ks.zip xs) x v=(RL.putD ks ds x d).1.zip ys/\(RL.putD ks ds x d).1.length=(RL.putD ks ds x d).2.length/\ae P K H (RL.putD ks ds x d).2 ys:=by
 have hx:ks.length=xs.length:=hl.trans r.length
 have any:∀ (ks:List κ) (xs:List V),ks.length=xs.length->((ks.zip xs).any fun kv=>decide (kv.1=x))=decide (x∈ks):=by
  intro ks
  induction ks with
  | nil=>intro xs _;simp
  |cons k r ih=>
   intro xs h
   cases xs with
   | nil=>simp at h
   |cons y t=>
    rw[List.zip_cons_cons,List.any_cons,ih t (by simpa using h)];by_cases hk:k=x
    ·simp[hk]
    ·simp[hk,Ne.symm hk]
 unfold putK RL.putD;rw[any ks xs hx];by_cases hm:x∈ks
 ·rw[if_pos (by simpa using hm),if_pos hm];refine⟨List.zipWith (fun k w=>if k=x then v else w) ks xs,?_,?_,?_⟩
  ·clear any hm hl r
   induction ks generalizing xs with
   | nil=>simp
   |cons k t ih=>
    cases xs with
    | nil=>simp at hx
    |cons y t'=>
     rw[List.zip_cons_cons,List.map_cons,List.zipWith_cons_cons,List.zip_cons_cons,ih (by simpa using hx)];by_cases hk:k=x<;>simp[hk]
  ·rw[List.length_zipWith,hl,Nat.min_self]
  ·clear any hm hx
   induction ks generalizing ds xs with
   | nil=>simpa using ae.nil
   |cons k t ih=>
    cases ds with
    | nil=>simp at hl
    |cons d0 ds=>
     rw[ae]at r;obtain⟨y,t',rfl,r1,r2⟩:=r;rw[List.zipWith_cons_cons,List.zipWith_cons_cons];refine ae.cons ?_ (ih (by simpa using hl) r2);by_cases hk:k=x
     ·rw[if_pos hk,if_pos hk];exact rv
     ·rw[if_neg hk,if_neg hk];exact r1
 ·rw[if_neg (by simpa using hm),if_neg hm];refine⟨xs++[v],?_,by simp[hl],ae.append r (ae.cons rv ae.nil)⟩;rw[List.zip_append hx];rfl
def pJ [DecidableEq κ](hd:d.imm=true):∀ {ks:List κ} {ds:List RL.D},RL.ao ds=true->RL.ao (RL.putD ks ds x d).2=true:=by
 have app:∀ l:List RL.D,RL.ao l=true->RL.ao (l++[d])=true:=fun l=>by
  induction l with
  | nil=>intro _;simp[RL.ao,hd]
  | cons z r ih=>intro h;rw[RL.ao,Bool.and_eq_true]at h;rw[List.cons_append,RL.ao,h.1,ih h.2];rfl
 have zw:∀ (ks:List κ) (ds:List RL.D),RL.ao ds=true->RL.ao (List.zipWith (fun k w=>if k=x then d else w) ks ds)=true:=fun ks=>by
  induction ks with
  | nil=>intro ds _;simp[RL.ao]
  |cons k r ih=>
   intro ds h
   cases ds with
   | nil=>simp[RL.ao]
   |cons y t=>
    rw[RL.ao,Bool.and_eq_true]at h;rw[List.zipWith_cons_cons,RL.ao,ih t h.2,Bool.and_true];by_cases hk:k=x
    ·rw[if_pos hk];exact hd
    ·rw[if_neg hk];exact h.1
 intro ks ds h;unfold RL.putD;split
 ·exact zw ks ds h
 ·exact app ds h
def u0(h:PS X st (nU (i3 i) (tE X.K cl k') (tE X.K cl e')))(hi:M.contains i=true):PS X st (tS X.K M fun σD=>(RL.ev cl σD e').bind fun d=>(RL.ev cl σD k').bind fun kk=>((σD[i]?).bind id).bind fun l=>match l with
  | .lst _=>none
  | _=>if d.imm then(RL.kH l kk d).map fun l'=>(.nx,σD.set i (some l'))else none):=by
 refine PS.weak h fun D σ H h=>?_;obtain⟨σD,o,σD',rv,e,k⟩:=h;obtain⟨d,e1,e⟩:=bind_some e;obtain⟨kk,e2,e⟩:=bind_some e;obtain⟨l,e3,e⟩:=bind_some e;obtain⟨v,h1,h2⟩:=rv.val i _ (slot_get e3);rw[if_pos hi]at h2;obtain⟨q1,q2,q3⟩:=h2
 cases l with
 |dK ks ds=>
  dsimp only at e;split at e
  ·rename_i him;obtain⟨l',e4,e5⟩:=map_some e;cases e5;obtain⟨kx,e6,e7⟩:=bind_some (show(RL.keyOf kk).bind _=some l' from e4);split at e7
   ·rename_i hz;cases e7;rw[Rep]at q3;obtain⟨q,xs,rfl,_,f2,fl,f3⟩:=q3;refine⟨σD,d,rv.rv0,e1,fun y H1 r1=>⟨.ref q,h1,σD,kk,rv.rv0.same r1.same,e2,fun u H2 r2=>?_⟩⟩;have sm:=r1.same.trans r2.same;obtain⟨ys,p1,p2,p3⟩:=mR (x:=kx) fl (f3.same sm) (r1.rep.same r2.same)
    have hlen:(ks.zip xs).length<sizeLine:=by
     rw[List.length_zip,<-f3.length,fl,Nat.min_self,<-fl];exact Nat.lt_of_lt_of_le hz bI
    refine⟨q,_,rfl,by rw[kA e6 r2.rep];exact gw.k (sm _ _ f2) hlen,?_⟩;have im:=pJ (x:=kx) him (ks:=ks) q2
    obtain⟨g1,g2⟩:=(rv.same sm).iW (d':=.dK (RL.putD ks ds kx d).1 (RL.putD ks ds kx d).2) (o':=.dK (putK (ks.zip xs) kx y)) hi h1 (sm _ _ f2) (.inr (.inl ⟨_,rfl⟩)) ⟨rfl,im,by
     rw[Rep]
     exact⟨q,ys,rfl,fun z=>z,by rw[aV,p1],p2,(ae.upd (P:=fun p=>p=q) (sm _ _ f2) (.inr (.inl ⟨_,rfl⟩)) rfl (p3.imm im)).imm im⟩⟩
    exact k _ _ g1 ((Fr'.same sm).trans g2)
   ·cases e7
  ·cases e
 |dT ks ds=>
  dsimp only at e;split at e
  ·rename_i him;obtain⟨l',e4,e5⟩:=map_some e;cases e5
   cases kk with
   |tup kt=>
    obtain⟨kx,e6,e7⟩:=bind_some (show(RL.keysOf kt).bind _=some l' from e4);split at e7
    ·rename_i hz;cases e7;rw[Rep]at q3;obtain⟨q,xs,rfl,_,f2,fl,f3⟩:=q3;refine⟨σD,d,rv.rv0,e1,fun y H1 r1=>⟨.ref q,h1,σD,.tup kt,rv.rv0.same r1.same,e2,fun u H2 r2=>?_⟩⟩;have sm:=r1.same.trans r2.same;obtain⟨ys,p1,p2,p3⟩:=mR (x:=kx) fl (f3.same sm) (r1.rep.same r2.same)
     have hlen:(ks.zip xs).length<sizeLine:=by
      rw[List.length_zip,<-f3.length,fl,Nat.min_self,<-fl];exact Nat.lt_of_lt_of_le hz bI
     obtain⟨b,ws,rfl,g2,g3⟩:=aQ r2.rep;rw[jP e6 g3]at g2;refine⟨q,_,rfl,gw.t (sm _ _ f2) g2 hlen,?_⟩;have im:=pJ (x:=kx) him (ks:=ks) q2
     obtain⟨g1,g2⟩:=(rv.same sm).iW (d':=.dT (RL.putD ks ds kx d).1 (RL.putD ks ds kx d).2) (o':=.dT (putK (ks.zip xs) kx y)) hi h1 (sm _ _ f2) (.inr (.inr ⟨_,rfl⟩)) ⟨rfl,im,by
      rw[Rep]
      exact⟨q,ys,rfl,fun z=>z,by rw[aV,p1],p2,(ae.upd (P:=fun p=>p=q) (sm _ _ f2) (.inr (.inr ⟨_,rfl⟩)) rfl (p3.imm im)).imm im⟩⟩
     exact k _ _ g1 ((Fr'.same sm).trans g2)
    ·cases e7
   | _=>cases e4
  ·cases e
 | lst _=>cases e
 | _=>cases q1
end rules
end RS
namespace L2
open PySem PySem.Spec PyProof.Rows
abbrev Its(c lo:Int)(n:Nat):It:=⟨fun i _=>i<n,fun i H x H'=>H'=H/\x=.int (lo+i*c),fun i _=>n<=i⟩
def pZ{P:Program}{w:World}{K:PySem.W.Frag}(it:Addr)(c lo:Int)(n:Nat):Turn P w K tg (Its c lo n) [it] it (fun i h=>IsRangeIter h it (lo+(i:Nat)*c) ((n:Int)-(i:Nat)) c) where
 mem:=by simp
 obj:=fun i h st b hb=>by
  rw[show b=it by simpa using hb];exact⟨_,st,fun v z=>by cases(show Data.fields _=Data.cell v from z)⟩
 keep:=fun i h h' st k=>k it (by simp) _ st
 item:=by
  intro X hP hw hK hc i pins s σ H E I hf st hg;subst hP hw hK;obtain⟨f0,f1,f2,f3,f4,f5⟩:=hf it (by simp);have W:=Walks.range (prog:=X.prog) (w:=X.w) (I.ok.hd.1 hc) it lo c n;refine W.item i s _ _ hg st fun v h' tk hv st' kk=>?_;obtain⟨t,rfl⟩:=hv;have I1:Inv X pins σ H { s with heap:=h',toks:=tk }:=I.turned (fun b o hb e=>kk b o (by simpa using hb) e) f0 f1 f3 f4 f5;exact⟨_,rfl,kq (s:={ s with heap:=h',toks:=tk }) (n := "range_iterator") st' rfl rfl (by decide) ⟨.int (lo+i*c),H,I1,⟨t,rfl⟩,⟨rfl,rfl⟩,st',fun b hb=>(hf b hb).1⟩⟩
 done:=by
  intro X hP hw hK hc i pins s σ H E I hf st hg;subst hP hw hK;obtain⟨f0,f1,f2,f3,f4,f5⟩:=hf it (by simp)
  exact wpAny_pyNext_range_end (I.ok.hd.1 hc) st (by have:n<=i:=hg;lia) fun h' eb=>⟨rfl,I.turned (t':=s.toks) (fun b o hb e=>eb b o hb e) f0 f1 f3 f4 f5⟩
 self:=fun _ _ _ _ _ st h=>wpAny_pyIter_rangeiter st h
end L2
namespace RS
open PySem PySem.Spec PyProof.Rows L2
def jc(c:Int):∀ (n:Nat) (lo:Int) (i:Nat) (d:RL.D),(RL.bB c lo n)[i]?=some d->d=.int (lo+i*c)
 | 0,lo,i,d,h=>by simp[RL.bB]at h
 | n+1,lo,0,d,h=>by simp[RL.bB]at h;simp[h]
 | n+1,lo,i+1,d,h=>by
  rw[RL.bB,List.getElem?_cons_succ]at h;rw[jc c n (lo+c) i d h];congr 1;rw[show((i+1:Nat):Int)=(i:Int)+1 by lia,Int.add_mul];lia
def fQ(c:Int):∀ (n:Nat) (lo:Int),(RL.bB c lo n).length=n
 | 0,_=>rfl
 | n+1,lo=>by rw[RL.bB,List.length_cons,fQ c n]
def mC{K:PySem.W.Frag}{H:Hp}{c lo:Int}:fX K (Its c lo n) (RL.bB c lo n) P H where
 go:=fun H' i k hi=>by rw[fQ]at hi;exact hi
 stop:=fun H' k=>by rw[fQ];exact Nat.le_refl _
 yld:=fun H' i d x H2 k e y=>by
  obtain⟨z,y⟩:=y;subst z;refine⟨ay.refl _,fun _=>?_⟩;rw[jc c n lo i d e,y];exact aK
section rules
variable{st:Stmt}
end rules
abbrev jw(p:Addr)(a b c:Int):HO:=.ext fun h=>∃ t u v,IsRange h p a b c t u v
def kD(a b c:Int):0<=Builtin.Range.rangeSize a b c:=by
 unfold Builtin.Range.rangeSize;split
 ·split
  ·have:=Int.ediv_nonneg (a:=b-a-1) (b:=c) (by lia) (by lia);omega
  ·lia
 ·split
  ·by_cases h0:c=0
   ·subst h0;simp
   ·have:=Int.ediv_nonneg (a:=a-b-1) (b:=-c) (by lia) (by lia);omega
  ·lia
def qo(a b c:Int):Builtin.Range.rangeSize a b c<=(if a<b then b-a else a-b)+1:=by
 unfold Builtin.Range.rangeSize;split
 ·split
  ·have:=Int.ediv_le_self (a:=b-a-1) c (by lia);lia
  ·lia
 ·split
  ·have:=Int.ediv_le_self (a:=a-b-1) (-c) (by lia);split<;>omega
  ·split<;>lia
def gf(a b c:Int):(RL.aZ c a b:Int)=Builtin.Range.rangeSize a b c:=Int.toNat_of_nonneg (kD a b c)
def gg(ha:-(2 ^ 60)<=a)(ha':a<2 ^ 60)(hb:-(2 ^ 60)<=b)(hb':b<2 ^ 60)(hc:-(2 ^ 60)<=c)(hc':c<2 ^ 60):Builtin.Range.small a b c=true:=by
 have h1:=kD a b c;have h2:=qo a b c;unfold Builtin.Range.small;simp only[Builtin.Range.rangeFitsLong,Bool.and_eq_true,Bool.or_eq_true,decide_eq_true_eq,beq_iff_eq];refine⟨⟨⟨⟨?_,?_⟩,?_⟩,?_⟩,.inr ?_⟩
 ·lia
 ·lia
 ·lia
 ·split at h2<;>lia
 ·split<;>(rw[Bool.and_eq_true,decide_eq_true_eq,decide_eq_true_eq];lia)
section
variable{X:Cx}
abbrev lb(xs:List V)(a b c:Int):Prop:=(xs=[.int b]/\a=0/\c=1)\/(xs=[.int a,.int b]/\c=1)\/(xs=[.int a,.int b,.int c]/\c≠0/\c.natAbs<2 ^ 60)
def i7{pins:List (Addr × Obj)}{σ:L2.St}{H:Hp}{s:Shared}{a b c:Int}{t u v:Tok}{tk:Nat}(I:Inv X pins σ H s):Inv X pins σ (upd H s.heap.objs.size (jw s.heap.objs.size a b c)) { s with heap:=s.heap.push { cls:=.type "range",data:=.fields #[.int a t,.int b u,.int c v] },toks:=tk } :=
 I.laid (fun b u e=>Heap.get?_push_of_some _ e) (Nat.le_refl _) ⟨⟨t,u,v,IsRange.new _ a b c t u v⟩,⟨_,Heap.get?_push_size _ rfl⟩,fun h1 h2 ⟨t,u,v,e⟩ k=>⟨t,u,v,k _ e⟩⟩
def fK:bo X (.type "range") (fun xs H Q=>∃ a b c,lb xs a b c/\∀ p,H p=none->Q (.ref p) (upd H p (jw p a b c))):=by
 intro pins s σ H xs us Q I r h;obtain⟨a,b,c,ha,q⟩:=h;have hf:H s.heap.objs.size=none:=I.hok.fresh (Nat.le_refl _)
 rcases ha with⟨rfl,rfl,rfl⟩ | ⟨rfl,rfl⟩ | ⟨rfl,hc,hc2⟩
 ·cases r with
  |cons r rr=>
   cases rr;obtain⟨t,rfl⟩:=r;exact call_range_1 ⟨.ref _,_,i7 I,rfl,q _ hf⟩
 ·cases r with
  |cons r rr=>
   cases rr with
   |cons r2 rr=>
    cases rr;obtain⟨t,rfl⟩:=r;obtain⟨t2,rfl⟩:=r2;exact call_range_2 ⟨.ref _,_,i7 I,rfl,q _ hf⟩
 ·cases r with
  |cons r rr=>
   cases rr with
   |cons r2 rr=>
    cases rr with
    |cons r3 rr=>
     cases rr;obtain⟨t,rfl⟩:=r;obtain⟨t2,rfl⟩:=r2;obtain⟨t3,rfl⟩:=r3;refine call_range_3 hc ⟨.ref _,_,i7 I,rfl,q _ hf⟩ (.inl (PyProof.noPylong_of_log2 ?_));have:c.natAbs.log2<60:=(Nat.log2_lt (by lia)).mpr hc2;lia
abbrev ck(a c:Int)(n:Nat):List V:=(List.range n).map fun(i:Nat)=>V.int (a+(i:Int)*c)
def tG{a c:Int}{n:Nat}{acc:Array Value}(hI:ItemsOf (fun i v=>∃ t,v=.int (a+i*c) t) acc n):Vals (ck a c n) acc.toList:=by
 have len:(ck a c (n)).length=acc.toList.length:=by
  simp only[ck,List.length_map,List.length_range,Array.length_toList,hI.1]
 have gen:∀ (xs:List V) (us:List Value),xs.length=us.length->(∀ (i:Nat) u,us[i]?=some u->∃ x,xs[i]?=some x/\RelV x u)->Vals xs us:=by
  intro xs
  induction xs with
  | nil=>intro us h _;cases us with
   | nil=>exact .nil
   | cons _ _=>cases h
  | cons x r ih=>intro us h g;cases us with
   | nil=>cases h
   |cons u us=>
    obtain⟨x',e1,e2⟩:=g 0 u rfl;cases e1
    exact .cons e2 (ih us (by simpa using h) fun i u hu=>by
     obtain⟨y,e3,e4⟩:=g (i+1) u (by simpa using hu)
     exact⟨y,by simpa using e3,e4⟩)
 refine gen _ _ len fun i u hu=>?_
 have hu':acc[i]?=some u:=by simpa using hu
 obtain⟨tk,rfl⟩:=hI.2 i u hu'
 have hi:i<n:=by
  have:=(Array.getElem?_eq_some_iff.mp hu').1;rw[hI.1]at this;exact this
 exact⟨.int (a+(i:Int)*c),by simp[ck,hi],tk,rfl⟩
def dN(hc:X.calm=true):bo X (.type "list") (fun xs H Q=>∃ p a b c,xs=[.ref p]/\H p=some (jw p a b c)/\Builtin.Range.small a b c=true/\RL.aZ c a b<=RL.most /\
  ∀ l,H l=none->Q (.ref l) (upd H l (.lst (ck a c (RL.aZ c a b))))):=by
 intro pins s σ H xs us Q I r h;obtain⟨p,a,b,c,rfl,hp,hs,hn,q⟩:=h
 cases r with
 |cons r rr=>
  cases rr;cases r;obtain⟨⟨t,u,v,hR⟩,_,_⟩:=I.hok p _ hp;refine call_list_range (I.ok.hd.1 hc) hR hs (gf a b c).symm (Nat.le_trans hn (by decide)) fun h' tk acc c' hk hS hI=>?_;have hf:H s.heap.objs.size=none:=I.hok.fresh (Nat.le_refl _);refine⟨.ref s.heap.objs.size,upd H s.heap.objs.size (.lst (ck a c (RL.aZ c a b))),I.laid hk (Nat.le_refl _) (show _/\_ from⟨?_,acc.toList,c',?_,?_⟩),rfl,q _ hf⟩
  ·simp only[ck,List.length_map,List.length_range];exact Nat.le_trans hn bI
  ·exact tG hI
  ·rw[Array.toArray_toList];exact hS
def jK{P:Addr->Prop}{K:PySem.W.Frag}:∀ (n:Nat) (a c:Int),ae P K H (RL.bB c a n) (ck a c n)
 | 0,a,c=>ae.nil
 | n+1,a,c=>by
  have e:ck a c (n+1)=V.int a::ck (a+c) c n:=by
   simp only[ck,List.range_succ_eq_map,List.map_cons,List.map_map];congr 1
   ·simp
   ·apply List.map_congr_left;intro i _;show V.int (a+((i+1:Nat):Int)*c)=V.int (a+c+(i:Int)*c);congr 1;rw[show((i+1:Nat):Int)=(i:Int)+1 by lia,Int.add_mul];lia
  rw[RL.bB,e];exact ae.cons aK (jK n (a+c) c)
def i9:∀ (n:Nat) (a:Int),RL.bx a n=RL.bB 1 a n
 | 0,_=>rfl
 | n+1,a=>by rw[RL.bx,RL.bB,i9 n]
def dW(a b:Int):RL.aZ 1 a b=(b-a).toNat:=by
 have h:=gf a b 1;rw[rangeSize_one]at h;split at h<;>lia
def kG{σD:RL.St}{σ:L2.St}{H H1:Hp}{e:RL.E}{Q:VK}{vs:List V}{a b c:Int}{ds:List RL.D}(hv:lb vs a b c)(hd:ds=RL.bB c a (RL.aZ c a b))(hn:RL.aZ c a b<=RL.most)(hs:Builtin.Range.small a b c=true)(sm:ay H H1)
 (hav:∀ M,RL.avE M e=false)(k:∀ v H',Res X.K σD σ H e (.lst ds) v H'->Q v H') :
  ∃ a b c,lb vs a b c/\∀ p,H1 p=none->(fun xs H Q=>∃ p a b c,xs=[V.ref p]/\H p=some (jw p a b c)/\Builtin.Range.small a b c=true/\RL.aZ c a b<=RL.most/\∀ l,H l=none->Q (.ref l) (upd H l (.lst (ck a c (RL.aZ c a b))))) [.ref p] (upd H1 p (jw p a b c)) Q:=by
 refine⟨a,b,c,hv,fun p hp=>⟨p,a,b,c,rfl,aV,hs,hn,fun l hl=>k _ _ ?_⟩⟩;subst hd;exact cm (sm.trans (ay.c8 hp)) hl (jK _ _ _) hav
def uU(hc:X.calm=true)(hgl:Gl X "list")(hml:X.mg "list" = none)(hg:Gl X "range")(hm:X.mg "range" = none)(ha:SE X cl a a')(hn:noStar a=true){p2 pos2:Pos}:SE X cl (.Call (.Name "list" p2) [.Call (.Name "range" p) [a] [] pos] [] pos2) (.rng1 a'):=by
 refine PE.weak (bZ (dN hc) hgl hml (by decide +kernel) (bK (bZ fK hg hm boot_range (bc (cl:=cl) ha bW hn) (by decide) (by decide) (a7 [] hn) rfl) da rfl) (by decide) (by decide) rfl rfl) fun σ H Q h=>?_;obtain⟨σD,d,rv,e,k⟩:=h;obtain⟨x,ea,e⟩:=bind_some e;obtain⟨ds,e1,e2⟩:=map_some e;subst e2;obtain⟨i,j,e3,rfl,hb,hm2,rfl⟩:=iH e1;cases e3
 have hb2:-(2 ^ 60)<=j/\j<2 ^ 60:=by
  simp only[RL.cw]at e1;split at e1
  ·lia
  ·cases e1
 refine one rv ea fun v H1 s1 r1=>?_;exact kG (a:=0) (b:=j) (c:=1) (.inl ⟨by rw[aj r1],rfl,rfl⟩) (by rw[i9,dW]) (by rw[dW];exact hm2) (gg (by decide) (by decide) hb2.1 hb2.2 (by decide) (by decide)) s1 (fun _=>rfl) k
def uK(hc:X.calm=true)(hgl:Gl X "list")(hml:X.mg "list" = none)(hg:Gl X "range")(hm:X.mg "range" = none)(ha:SE X cl a a')(hb:SE X cl b b')(hn:noStar a=true)(hn2:noStar b=true){p2 pos2:Pos}:SE X cl (.Call (.Name "list" p2) [.Call (.Name "range" p) [a,b] [] pos] [] pos2) (.rng2 a' b'):=by
 refine PE.weak (bZ (dN hc) hgl hml (by decide +kernel) (bK (bZ fK hg hm boot_range (bc (cl:=cl) ha (bc hb bW hn2) hn) (by decide) (by decide) (a7 _ hn) (cg (by simp[hn2]))) da rfl) (by decide) (by decide) rfl rfl) fun σ H Q h=>?_;obtain⟨σD,d,rv,e,k⟩:=h;obtain⟨x,ea,e⟩:=bind_some e;obtain⟨y,eb,e⟩:=bind_some e;obtain⟨ds,e1,e2⟩:=map_some e;subst e2;obtain⟨i,j,rfl,rfl,hb,hm2,rfl⟩:=iH e1
 have hb2:(-(2 ^ 60)<=i/\i<2 ^ 60)/\-(2 ^ 60)<=j/\j<2 ^ 60:=by
  simp only[RL.cw]at e1;split at e1
  ·lia
  ·cases e1
 refine pair rv ea eb fun v u H1 s1 r1 r2=>?_;exact kG (a:=i) (b:=j) (c:=1) (.inr (.inl ⟨by rw[aj r1,aj r2],rfl⟩)) (by rw[i9,dW]) (by rw[dW];exact hm2) (gg hb2.1.1 hb2.1.2 hb2.2.1 hb2.2.2 (by decide) (by decide)) s1 (fun _=>rfl) k
abbrev dU(c:Int):Expr->Bool
 | .Constant (.int i) _ _=>i == c
 | .UnaryOp .USub (.Constant (.int i) _ _) _=>-i == c
 | _=>false
def gS(h:dU c e=true):PE X e (tC (.int c))/\noStar e=true:=by
 unfold dU at h;split at h
 ·rw[beq_iff_eq]at h;subst h;exact⟨lC,rfl⟩
 ·rw[beq_iff_eq]at h;subst h;exact⟨PE.weak (sH pj lC) fun σ H Q q=>⟨_,rfl,q⟩,rfl⟩
 ·cases h
def mz(h:RL.gM c x y=some ds):∃ i j:Int,x=.int i/\y=.int j/\c≠0/\c.natAbs<2 ^ 60/\Builtin.Range.small i j c=true/\RL.aZ c i j<=RL.most/\ds=RL.bB c i (RL.aZ c i j):=by
 cases x<;>cases y<;>simp only[RL.gM]at h<;>first
  | (cases h;done)
  | (split at h
     ·rename_i i j hc;cases h;exact⟨i,j,rfl,rfl,hc.1,by omega,gg hc.2.2.2.2.1 hc.2.2.2.2.2.1 hc.2.2.2.2.2.2.1 hc.2.2.2.2.2.2.2 (by omega) hc.2.2.1,hc.2.2.2.1,rfl⟩
     ·cases h)
def m7(ha:SE X cl a a')(hb:SE X cl b b')(hn:noStar a=true)(hn2:noStar b=true)(h3:dU c e3=true):PA X [a,b,e3] (fun σ H R=>tE X.K cl a' σ H fun v H1=>tE X.K cl b' σ H1 fun u H2=>R [v,u,.int c] H2) :=
 bK ha (bK hb (bK (gS h3).1 da (a7 [] (gS (X:=X) h3).2)) (a7 _ hn2)) (a7 _ hn)
def uS{c:Int}{e3:Expr}(hc:X.calm=true)(hgl:Gl X "list")(hml:X.mg "list" = none)(hg:Gl X "range")(hm:X.mg "range" = none)(ha:SE X cl a a')(hb:SE X cl b b')(hn:noStar a=true)(hn2:noStar b=true)(h3:dU c e3=true){p2 pos2:Pos} :
  SE X cl (.Call (.Name "list" p2) [.Call (.Name "range" p) [a,b,e3] [] pos] [] pos2) (.rng3 c a' b'):=by
 refine PE.weak (bZ (dN hc) hgl hml (by decide +kernel) (bK (bZ fK hg hm boot_range (m7 (cl:=cl) ha hb hn hn2 h3) (by decide) (by decide) (a7 _ hn) (cg (by simp[hn2,(gS (X:=X) h3).2]))) da rfl) (by decide) (by decide) rfl rfl) fun σ H Q h=>?_;obtain⟨σD,d,rv,e,k⟩:=h;obtain⟨x,ea,e⟩:=bind_some e;obtain⟨y,eb,e⟩:=bind_some e;obtain⟨ds,e1,e2⟩:=map_some e;subst e2;obtain⟨i,j,rfl,rfl,h0,h1,h2,h3,rfl⟩:=mz e1;refine two rv ea eb fun v u H1 H2 s1 s2 rx ry _ _=>?_;exact kG (a:=i) (b:=j) (c:=c) (.inr (.inr ⟨by rw[aj rx,aj ry],h0,h1⟩)) rfl h3 h2 (s1.trans s2) (fun _=>rfl) k
def uc(hg:Gl X "range")(hm:X.mg "range" = none)(ha:SE X cl a a')(hb:SE X cl b b')(hn:noStar a=true)(hn2:noStar b=true)(h3:dU c e3=true) :
  SI X cl tg (.Call (.Name "range" p) [a,b,e3] [] pos) (.rng3 c a' b'):=by
 intro pins s σ H R I h;obtain⟨σD,ds,rv,e,k⟩:=h;obtain⟨x,ea,e⟩:=bind_some e;obtain⟨y,eb,e⟩:=bind_some e;obtain⟨i,j,rfl,rfl,h0,h1,hs,hl,rfl⟩:=mz e;refine thn (bZ fK hg hm boot_range (m7 (cl:=cl) ha hb hn hn2 h3) (by decide) (by decide) (a7 _ hn) (cg (by simp[hn2,(gS (X:=X) h3).2])) pins s σ H (fun x H2=>∃ p,x=.ref p/\H2 p=some (jw p i j c)/\ay H H2) I ?_) ?_
 ·exact two rv ea eb fun v u H1 H2 s1 s2 rx ry _ _=>⟨i,j,c,.inr (.inr ⟨by rw[aj rx,aj ry],h0,h1⟩),fun p hp=>⟨p,rfl,aV,(s1.trans s2).trans (ay.c8 hp)⟩⟩
 ·rintro v s1 ⟨x,H1,I1,r1,q,rfl,hq,sm⟩;cases r1;obtain⟨⟨t,u,v,hR⟩,_,_⟩:=I1.hok q _ hq;refine wpAny_pyIter_range hR hs ⟨s1.heap.objs.size,[s1.heap.objs.size],_,Its c i (RL.aZ c i j),H1,rfl,I1.kept (t':=s1.toks) fun b o e=>Heap.get?_push_of_some _ e,pZ _ c i _,?_,fun b hb=>?_,k _ _ sm ⟨mC,fun _ _ _ _ _=>mC⟩⟩
  ·have e1:i+((0:Nat):Int)*c=i:=by simp
   have e2:((RL.aZ c i j:Nat):Int)-((0:Nat):Int)=Builtin.Range.rangeSize i j c:=by rw[gf];simp
   show IsRangeIter _ _ (i+((0:Nat):Int)*c) (((RL.aZ c i j:Nat):Int)-((0:Nat):Int)) c;rw[e1,e2];exact Heap.get?_push_size _ rfl
  ·rw[show b=s1.heap.objs.size by simpa using hb];exact I1.lu (Nat.le_refl _) (I1.hok.fresh (Nat.le_refl _))
def tQ(hl:SE X cl l e'):SI X cl tg l (.seq e'):=by
 refine PI.weak (vS (cl:=cl) hl trivial) fun σ H R h=>?_;obtain⟨σD,ds,rv,e,k⟩:=h;obtain⟨d,e1,e2⟩:=bind_some e;exact⟨σD,d,ds,rv,e1,e2,k⟩
def wN(ha:SE X cl a a'):SE X cl (.UnaryOp .USub a pos) (.neg a'):=by
 refine PE.weak (sH pj ha) fun σ H Q h=>?_;obtain⟨σD,d,rv,e,k⟩:=h;obtain⟨x,ea,e⟩:=bind_some e
 cases x with
 | int i=>cases e;exact⟨σD,_,rv,ea,fun v H1 r1=>⟨i,aj r1.rep,k _ _ (bM r1.same aK rfl)⟩⟩
 | _=>cases e
def wC(hg:Gl X "abs")(hm:X.mg "abs" = none)(ha:SE X cl a a')(hn:noStar a=true):SE X cl (.Call (.Name "abs" p) [a] [] pos) (.bi .abs a'):=by
 refine jN rj hg hm (by decide +kernel) ha hn (by decide) (by decide) fun σD σ H H1 y d v Q e s1 r1 k=>?_
 cases y<;>first | (cases e;done) | skip
 case int i=>cases e;exact⟨i,by rw[aj r1],k _ _ (bM s1 aK rfl)⟩
def wA(hc:X.calm=true)(hg:Gl X "min")(hm:X.mg "min" = none)(ha:SE X cl a a')(hb:SE X cl b b')(hn:noStar a=true)(hn2:noStar b=true):SE X cl (.Call (.Name "min" p) [a,b] [] pos) (.min a' b'):=by
 refine PE.weak (fY (oW hc) hg hm (by decide +kernel) (bc (cl:=cl) ha (bc hb bW hn2) hn) (by decide) (by decide) (a7 _ hn) (cg (by simp[hn2]))) fun σ H Q h=>?_;obtain⟨σD,d,rv,e,k⟩:=h;obtain⟨u,ea,e⟩:=bind_some e;obtain⟨v,eb,e⟩:=bind_some e
 cases u with
 |int i=>
  cases v with
  |int j=>
   cases e
   exact pair rv ea eb fun v u H1 s1 r1 r2=>⟨i,j,by rw[aj r1,aj r2],k _ _ (bM s1 aK rfl)⟩
  | _=>cases e
 | _=>cases e
end
abbrev mAt(mp:List Nat)(vs:List V):Addr->Prop:=fun a=>∃ p,p∈mp/\vs[p]?=some (.ref a)
structure xR(K:PySem.W.Frag)(mp:List Nat)(ds:List RL.D)(vs:List V)(H:Hp):Prop where
 jh:ae nP K H ds vs
 own:∀ p∈mp,∃ d a,ds[p]?=some d/\vs[p]?=some (.ref a)/\Own K H d (.ref a)
 sep:∀ p∈mp,∀ q∈mp,∀ a,vs[p]?=some (.ref a)->vs[q]?=some (.ref a)->p=q
 oth:∀ (q:Nat) d v,q∉mp->ds[q]?=some d->vs[q]?=some v->Rep (mAt mp vs) K H d v
structure zf(K:PySem.W.Frag)(mp:List Nat)(outs:List RL.D)(vs:List V)(H:Hp):Prop where
 len:outs.length=mp.length
 own:∀ (k p:Nat) o,mp[k]?=some p->outs[k]?=some o->∃ a,vs[p]?=some (.ref a)/\Own K H o (.ref a)
abbrev spM(K:PySem.W.Frag)(cl:RL.Cl)(mp:List Nat)(f:Nat):Sp:=fun vs H Q _=>∃ ds d outs,cl f ds=some (.tup (d::outs))/\xR K mp ds vs H/\∀ v H',Off (mAt mp vs) H H'->Rep nP K H' d v->d.imm=true->zf K mp outs vs H'->Q v H'
abbrev lV(K:PySem.W.Frag)(cl:RL.Cl):RL.E->TE
 | .var j=>i3 j
 | e=>tE K cl e
abbrev eT(K:PySem.W.Frag)(cl:RL.Cl):RL.Es->TA
 | .nil=>mW
 | .cons e es=>iD (lV K cl e) (eT K cl es)
abbrev bQ(K:PySem.W.Frag)(M:List Nat)(σ:L2.St)(ps:List Nat)(H:Hp):Nat->RL.Es->List RL.D->List V->Prop
 | _,.nil,[],[]=>True
 | q,.cons e es,d::ds,v::vs=>Rep nP K H d v/\(if ps.contains q=true then ∃ j,e=.var j/\σ[j]?=some (some v)else Rep (aW M σ) K H d v)/\bQ K M σ ps H (q+1) es ds vs
 | _,_,_,_=>False
section
variable{K:PySem.W.Frag}
def pb(e:RL.ev cl σD (.var j)=some d):σD[j]?=some (some d):=by
 exact slot_get e
def xU(rv:RVm K M σD σ H)(r1:Res K σD σ H e' d v H1)(ok:RL.aU M e' d=true):Rep (aW M σ) K H1 d v:=by
 unfold RL.aU at ok;rw[Bool.or_eq_true,Bool.or_eq_true,Bool.and_eq_true]at ok;rcases ok with(q | ⟨q1,q2⟩) | q
 ·exact r1.rep.imm q
 ·have rp:=r1.rep;have fr:gC d=true->∀ a,v=.ref a->¬ aW M σ a:=fun m a z p=>rv.j5 a p (r1.fresh q2 m a z)
  cases d with
  | lst ds=>obtain⟨a,xs,e1,e0,e2,e3⟩:=aC rp;rw[Rep];exact⟨a,xs,e1,fr rfl a e1,e2,e3.imm q1⟩
  | dK ks ds=>rw[Rep]at rp ⊢;obtain⟨a,xs,e1,e0,e2,el,e3⟩:=rp;exact⟨a,xs,e1,fr rfl a e1,e2,el,e3.imm q1⟩
  | dT ks ds=>rw[Rep]at rp ⊢;obtain⟨a,xs,e1,e0,e2,el,e3⟩:=rp;exact⟨a,xs,e1,fr rfl a e1,e2,el,e3.imm q1⟩
  | _=>cases q1
 ·refine r1.av M q _ rv.j5 fun j dj vj hj h1 h2=>?_;obtain⟨v',h3,h4⟩:=rv.val j dj h1;rw[h2]at h3;cases h3;rw[if_neg (by rw[hj];decide)]at h4;exact h4
def tw{e:RL.E}{d:RL.D}{ps:List Nat}(rv:RVm K M σD σ H)(he:RL.ev cl σD e=some d)(ok:(if ps.contains q=true then RL.isVar e else RL.aU M e d)=true)
 (k:∀ v H1,ay H H1->Rep nP K H1 d v->(if ps.contains q=true then ∃ j,e=.var j/\σ[j]?=some (some v)else Rep (aW M σ) K H1 d v)->R v H1):lV K cl e σ H R:=by
 have other:lV K cl e=tE K cl e->ps.contains q=false->lV K cl e σ H R:=fun z hq=>by
  rw[z];rw[if_neg (by rw[hq];decide)]at ok;refine⟨σD,d,rv.rv0,he,fun v H1 r1=>k v H1 r1.same r1.rep ?_⟩;rw[if_neg (by rw[hq];decide)];exact xU rv r1 ok
 cases e with
 |var j=>
  have hj:=pb he;obtain⟨v,h1,h2⟩:=rv.val j d hj;refine⟨v,h1,k v H (ay.refl H) ?_ ?_⟩
  ·obtain⟨v',h3,h4⟩:=rv.rv0.2 j d hj;rw[h1]at h3;cases h3;exact h4
  ·by_cases hq:ps.contains q=true
   ·rw[if_pos hq];exact⟨j,rfl,h1⟩
   ·rw[if_neg hq]at ok ⊢;by_cases hm:M.contains j=true
    ·rw[if_pos hm]at h2
     have im:d.imm=true:=by
      unfold RL.aU at ok;rw[Bool.or_eq_true,Bool.or_eq_true,Bool.and_eq_true]at ok;rcases ok with(z | ⟨_,z⟩) | z
      ·exact z
      ·cases z
      ·rw[RL.xQ,hm]at z;cases z
     exact h2.2.2.imm im
    ·rw[if_neg hm]at h2;exact h2
 |_=>
  refine other rfl ?_
  cases hq:ps.contains q with
  | false=>rfl
  |true=>
   rw[if_pos hq]at ok;cases ok
def kW:∀ {es:RL.Es} {q:Nat} {ds:List RL.D} {H:Hp} {R:List V->Hp->Prop},RVm K M σD σ H->RL.evs cl σD es=some ds->RL.cE M ps q es ds=true ->
  (∀ vs H1,ay H H1->bQ K M σ ps H1 q es ds vs->R vs H1)->eT K cl es σ H R
 | .nil,q,ds,H,R,rv,he,ok,k=>by
  cases he;exact k [] H (ay.refl H) (by rw[bQ];trivial)
 | .cons e es,q,ds,H,R,rv,he,ok,k=>by
  obtain⟨d,e1,he⟩:=bind_some he;obtain⟨ds',e2,e3⟩:=map_some he;subst e3;rw[RL.cE,Bool.and_eq_true]at ok;refine tw rv e1 ok.1 fun v H1 s1 r1 x1=>?_;refine kW (rv.same s1) e2 ok.2 fun vs H2 s2 r2=>k (v::vs) H2 (s1.trans s2) ?_;rw[bQ];refine⟨r1.same s2,?_,r2⟩;by_cases hq:ps.contains q=true
  ·rw[if_pos hq]at x1 ⊢;exact x1
  ·rw[if_neg hq]at x1 ⊢;exact x1.same s2
abbrev gL:RL.Es->Nat->Option RL.E
 | .nil,_=>none
 | .cons e _,0=>some e
 | .cons _ es,n+1=>gL es n
def bQ.jh:∀ {q:Nat} {es:RL.Es} {ds:List RL.D} {vs:List V},bQ K M σ ps H q es ds vs->ae nP K H ds vs
 | _,.nil,[],[],h=>ae.nil
 | q,.cons e es,d::ds,v::vs,h=>by
  rw[bQ]at h;exact ae.cons h.1 (bQ.jh h.2.2)
 | _,.nil,_::_,_,h=>by simp[bQ]at h
 | _,.nil,[],_::_,h=>by simp[bQ]at h
 | _,.cons _ _,[],_,h=>by simp[bQ]at h
 | _,.cons _ _,_::_,[],h=>by simp[bQ]at h
def bQ.get:∀ {q:Nat} {es:RL.Es} {ds:List RL.D} {vs:List V} (n:Nat) {d:RL.D} {v:V},bQ K M σ ps H q es ds vs->ds[n]?=some d->vs[n]?=some v ->
  Rep nP K H d v/\(if ps.contains (q+n)=true then ∃ j,gL es n=some (.var j)/\σ[j]?=some (some v)else Rep (aW M σ) K H d v)
 | _,.nil,[],[],n,_,_,h,e,_=>by simp at e
 | q,.cons e es,d::ds,v::vs,0,_,_,h,e1,e2=>by
  simp at e1 e2;subst e1 e2;rw[bQ]at h;refine⟨h.1,?_⟩;have h2:=h.2.1;rw[Nat.add_zero];by_cases hq:ps.contains q=true
  ·rw[if_pos hq]at h2 ⊢;obtain⟨j,z,y⟩:=h2;subst z;exact⟨j,rfl,y⟩
  ·rw[if_neg hq]at h2 ⊢;exact h2
 | q,.cons e es,d::ds,v::vs,n+1,_,_,h,e1,e2=>by
  rw[bQ]at h;have:=bQ.get n h.2.2 (by simpa using e1) (by simpa using e2);rw[show q+1+n=q+(n+1) by lia]at this;exact this
 | _,.nil,_::_,_,_,_,_,h,_,_=>by simp[bQ]at h
 | _,.nil,[],_::_,_,_,_,h,_,_=>by simp[bQ]at h
 | _,.cons _ _,[],_,_,_,_,h,_,_=>by simp[bQ]at h
 | _,.cons _ _,_::_,[],_,_,_,h,_,_=>by simp[bQ]at h
def Own.off(h:Own K H d (.ref a))(hm:∀ b o,P b->H b=some o->bX o)(k:Off P H H1)(n:¬ P a):Own K H1 d (.ref a):=by
 obtain⟨q1,q2,q3⟩:=h;refine⟨q1,q2,?_⟩;have im:∀ {ds:List RL.D} {xs:List V},RL.ao ds=true->ae nP K H ds xs->ae nP K H1 ds xs:=fun hi r=>((r.imm hi).off hm k).imm hi
 cases d with
 | lst ds=>obtain⟨b',xs,e1,e0,e2,e3⟩:=aC q3;cases e1;rw[Rep];exact⟨a,xs,rfl,fun z=>z,k _ _ n e2,im q2 e3⟩
 | dK ks ds=>rw[Rep]at q3 ⊢;obtain⟨b',xs,e1,e0,e2,el,e3⟩:=q3;cases e1;exact⟨a,xs,rfl,fun z=>z,k _ _ n e2,el,im q2 e3⟩
 | dT ks ds=>rw[Rep]at q3 ⊢;obtain⟨b',xs,e1,e0,e2,el,e3⟩:=q3;cases e1;exact⟨a,xs,rfl,fun z=>z,k _ _ n e2,el,im q2 e3⟩
 | _=>cases q1
def jF:∀ {ms:List Nat} {outs:List RL.D} {σD:RL.St} {k i:Nat} {o:RL.D},ms.Nodup->ms[k]?=some i->outs[k]?=some o->i<σD.length->(cJ ms outs σD)[i]?=some (some o)
 | [],_,_,_,_,_,_,e,_,_=>by simp at e
 | m::ms,[],_,_,_,_,_,_,e,_=>by simp at e
 | m::ms,d::ds,σD,0,i,o,nd,e1,e2,hl=>by
  simp at e1 e2;subst e1 e2;rw[cJ,gK _ _ _ _ (by simpa using(List.nodup_cons.mp nd).1),List.getElem?_set_self hl]
 | m::ms,d::ds,σD,k+1,i,o,nd,e1,e2,hl=>by
  rw[cJ];exact jF (List.nodup_cons.mp nd).2 (by simpa using e1) (by simpa using e2) (by simpa using hl)
def RVm.changed(h:RVm K M σD σ H)(hms:∀ i∈ms,M.contains i=true)(nd:ms.Nodup)(len:ms.length=outs.length)(k:Off (fun a=>∃ i∈ms,σ[i]?=some (some (.ref a))) H H1)
 (ow:∀ (k i:Nat) o,ms[k]?=some i->outs[k]?=some o->∃ a,σ[i]?=some (some (.ref a))/\Own K H1 o (.ref a)):RVm K M (cJ ms outs σD) σ H1/\Fr' M σ H σ H1:=by
 have sub:∀ a,(∃ i∈ms,σ[i]?=some (some (.ref a)))->aW M σ a:=fun a ⟨i,hi,e⟩=>⟨i,hms i hi,e⟩
 have offA:Off (aW M σ) H H1:=fun b o n e=>k b o (fun z=>n (sub b z)) e
 have hmA:∀ b o,aW M σ b->H b=some o->bX o:=fun b o p e=>by
  obtain⟨o',e',m⟩:=h.rO b p;rw[e]at e';cases e';exact m
 have at_:∀ i,i∈ms->∃ (kk:Nat) (o:RL.D),ms[kk]?=some i/\outs[kk]?=some o:=fun i hi=>by
  obtain⟨kk,hk,e⟩:=List.getElem_of_mem hi;exact⟨kk,outs[kk]'(by lia),by simp[hk,e],by simp⟩
 refine⟨⟨by rw[iz];exact h.len,fun i d e=>?_,fun i v e=>?_,h.sep⟩,⟨fun b o e n=>⟨offA b o n e,n⟩,fun _ _=>rfl⟩⟩
 ·by_cases hi:i∈ms
  ·obtain⟨kk,o,e1,e2⟩:=at_ i hi
   have hl:i<σD.length:=by
    have:=(List.getElem?_eq_some_iff.mp e).1;rw[iz]at this;exact this
   rw[jF nd e1 e2 hl]at e;cases e;obtain⟨a,q1,q2⟩:=ow kk i _ e1 e2;exact⟨.ref a,q1,by rw[if_pos (hms i hi)];exact q2⟩
  ·rw[gK _ _ _ _ (by simpa using hi)]at e;obtain⟨v,h1,h2⟩:=h.val i d e;refine⟨v,h1,?_⟩;by_cases hm:M.contains i=true
   ·rw[if_pos hm]at h2 ⊢;obtain⟨a,o,rfl,_,_⟩:=h2.ref;refine h2.off (fun b o p e=>hmA b o (sub b p) e) k fun⟨j,hj,ej⟩=>?_;exact hi (h.sep i j a hm (hms j hj) h1 ej▸hj)
   ·rw[if_neg hm]at h2 ⊢;exact h2.off hmA offA
 ·obtain⟨d,hd⟩:=h.non i v e;by_cases hi:i∈ms
  ·obtain⟨kk,o,e1,e2⟩:=at_ i hi;exact⟨o,jF nd e1 e2 (List.getElem?_eq_some_iff.mp hd).1⟩
  ·exact⟨d,by rw[gK _ _ _ _ (by simpa using hi)];exact hd⟩
end
section rules
variable{X:Cx}{st:Stmt}
abbrev bF(es:RL.Es):List Nat->List Nat->Bool
 | [],[]=>true
 | p::ps,m::ms=>(match gL es p with | some (.var j)=>j == m | _=>false)&&bF es ps ms
 | _,_=>false
def ig:∀ {ps ms:List Nat} {k p:Nat},bF es ps ms=true->ps[k]?=some p->∃ m,ms[k]?=some m/\gL es p=some (.var m)
 | [],_,_,_,_,e=>by simp at e
 | _::_,[],_,_,h,_=>by simp[bF]at h
 | p::ps,m::ms,0,q,h,e=>by
  rw[bF,Bool.and_eq_true]at h;simp at e;subst e;have h1:=h.1;split at h1
  ·rename_i j hj;rw[beq_iff_eq]at h1;subst h1;exact⟨j,rfl,hj⟩
  ·cases h1
 | p::ps,m::ms,k+1,q,h,e=>by
  rw[bF,Bool.and_eq_true]at h;obtain⟨m',h1,h2⟩:=ig (k:=k) h.2 (by simpa using e);exact⟨m',by simpa using h1,h2⟩
def eX:∀ {ps ms:List Nat},bF es ps ms=true->ps.length=ms.length
 | [],[],_=>rfl
 | [],_::_,h=>by simp[bF]at h
 | _::_,[],h=>by simp[bF]at h
 | p::ps,m::ms,h=>by
  rw[bF,Bool.and_eq_true]at h;rw[List.length_cons,List.length_cons,eX h.2]
def kR(rv:RVm X.K M σD σ H)(he:RL.evs cl σD es=some ds)(ok:RL.cE M ps 0 es ds=true)(hc:cl f ds=some (.tup (d::outs)))
 (hs:bF es ps ms=true)(hms:∀ i∈ms,M.contains i=true)(nd:ms.Nodup)(ndp:ps.Nodup)(hset:RL.ba ms outs σD=some σ1)
 (k:∀ v H',Rep nP X.K H' d v->d.imm=true->RVm X.K M σ1 σ H'->Fr' M σ H σ H'->Q v H'):hE (spM X.K cl ps f) [] E0 (eT X.K cl es) σ H Q:=by
 refine kW rv he ok fun vs H1 s1 ar=>?_;show spM X.K cl ps f (vs++[]) H1 Q E0;rw[List.append_nil];have rv1:=rv.same s1;have rps:=ar.jh;obtain⟨hlen,hσ1⟩:=dD hset;subst hσ1
 have adr:∀ (k p:Nat),ps[k]?=some p->∃ m a d',ms[k]?=some m/\σ[m]?=some (some (.ref a))/\vs[p]?=some (.ref a)/\ds[p]?=some d'/\Own X.K H1 d' (.ref a)/\gL es p=some (.var m):=by
  intro k p hk;obtain⟨m,h1,h2⟩:=ig hs hk
  have evg:∀ (es:RL.Es) (ds:List RL.D) (n:Nat) (e:RL.E),RL.evs cl σD es=some ds->gL es n=some e->∃ d',ds[n]?=some d'/\RL.ev cl σD e=some d':=by
   intro es
   induction es using RL.Es.rec (motive_1:=fun _=>True) (motive_3:=fun _=>True)with
   | nil=>intro ds n e _ z;cases z
   |cons e0 es0 _ ih=>
    intro ds n e h z;obtain⟨d0,y1,h⟩:=bind_some h;obtain⟨ds0,y2,y3⟩:=map_some h;subst y3
    cases n with
    | zero=>cases z;exact⟨d0,rfl,y1⟩
    | succ n=>exact ih ds0 n e y2 z
   | _=>trivial
  obtain⟨d',g1,g2⟩:=evg es ds p _ he h2;obtain⟨v,g3,g4⟩:=rps.get g1
  have hpc:ps.contains (0+p)=true:=by
   rw[Nat.zero_add];simpa using List.mem_of_getElem? hk
  have g5:=(ar.get p g1 g3).2;rw[if_pos hpc]at g5;obtain⟨j,z1,z2⟩:=g5;rw[h2]at z1;cases z1;have hm:M.contains m=true:=hms m (List.mem_of_getElem? h1);obtain⟨v',z3,z4⟩:=rv1.val m d' (pb g2);rw[z2]at z3;cases z3;rw[if_pos hm]at z4;obtain⟨a,o,rfl,_,_⟩:=z4.ref;exact⟨m,a,d',h1,z2,g3,g1,z4,h2⟩
 have adr':∀ a,mAt ps vs a->∃ i∈ms,σ[i]?=some (some (.ref a)):=fun a ⟨p,hp,e⟩=>by
  obtain⟨k,hk,z⟩:=List.getElem_of_mem hp;obtain⟨m,a',d',h1,h2,h3,_⟩:=adr k p (by simp[hk,z]);rw[e]at h3;cases h3;exact⟨m,List.mem_of_getElem? h1,h2⟩
 refine⟨ds,d,outs,hc,⟨rps,fun p hp=>?_,fun p hp q hq a e1 e2=>?_,fun q dq v hq e1 e2=>?_⟩,fun v H' off rp im mo=>?_⟩
 ·obtain⟨k,hk,z⟩:=List.getElem_of_mem hp;obtain⟨m,a',d',h1,h2,h3,h4,h5,_⟩:=adr k p (by simp[hk,z]);exact⟨d',a',h4,h3,h5⟩
 ·obtain⟨k,hk,z⟩:=List.getElem_of_mem hp;obtain⟨l,hl,y⟩:=List.getElem_of_mem hq
  have gk:ps[k]?=some p:=by simp[hk,z]
  have gl:ps[l]?=some q:=by simp[hl,y]
  obtain⟨m,a1,d1,h1,h2,h3,_⟩:=adr k p gk;obtain⟨m',a2,d2,h1',h2',h3',_⟩:=adr l q gl;rw[e1]at h3;cases h3;rw[e2]at h3';cases h3';have hmm:=rv1.sep m m' a (hms m (List.mem_of_getElem? h1)) (hms m' (List.mem_of_getElem? h1')) h2 h2';subst hmm;have hkl:k=l:=(List.getElem?_inj (by rw[<-eX hs];exact hk) nd).mp (by rw[h1,h1']);subst hkl;rw[gk]at gl;exact Option.some.inj gl
 ·have hpc:ps.contains (0+q)=false:=by
   rw[Nat.zero_add];simpa using hq
  have g5:=(ar.get q e1 e2).2;rw[if_neg (by rw[hpc];decide)]at g5
  exact g5.weak fun a ha=>by
   obtain⟨i,hi,e⟩:=adr' a ha;exact⟨i,hms i hi,e⟩
 ·obtain⟨g1,g2⟩:=rv1.changed (outs:=outs) (H1:=H') hms nd hlen (fun b o n e=>off b o (fun z=>n (adr' b z)) e) fun k i o hk ho=>by
   have hkl:k<ps.length:=by
    rw[eX hs];exact(List.getElem?_eq_some_iff.mp hk).1
   obtain⟨m,a1,d1,h1,h2,h3,_⟩:=adr k ps[k] (by simp[hkl]);rw[hk]at h1;cases h1;obtain⟨a,q1,q2⟩:=mo.own k ps[k] o (by simp[hkl]) ho;rw[q1]at h3;cases h3;exact⟨_,h2,q2⟩
  exact k v H' rp im g1 ((Fr'.same s1).trans g2)
def t9(h:PS X st (k5 (hE (spM X.K cl ps f) [] E0 (eT X.K cl es))))(hs:bF es ps ms=true)(hms:∀ i∈ms,M.contains i=true)(nd:ms.Nodup)(ndp:ps.Nodup):SS X cl M st (.mexc f es ps ms):=by
 refine PS.weak h fun D σ H h=>?_;obtain⟨σD,o,σD',rv,e,k⟩:=h;obtain⟨ds,e1,e⟩:=bind_some e;split at e
 ·rename_i ok;obtain⟨r,e2,e⟩:=bind_some e;split at e
  ·rename_i d outs;obtain⟨σ1,e3,e4⟩:=map_some e;cases e4;exact kR rv e1 ok e2 hs hms nd ndp e3 fun v H' _ _ rv' fr'=>k _ _ rv' fr'
  ·cases e
 ·cases e
def ue(h:PS X st (xj i (hE (spM X.K cl ps f) [] E0 (eT X.K cl es)) (ipI fun a b=>a+b)))(hi:M.contains i=false)(hs:bF es ps ms=true)(hms:∀ i∈ms,M.contains i=true)(nd:ms.Nodup)(ndp:ps.Nodup):SS X cl M st (.maug i f es ps ms):=by
 refine PS.weak h fun D σ H h=>?_;obtain⟨σD,o,σD',rv,e,k⟩:=h;obtain⟨x,e0,e⟩:=bind_some e;obtain⟨ds,e1,e⟩:=bind_some e;split at e
 ·rename_i ok;obtain⟨r,e2,e⟩:=bind_some e;split at e
  ·rename_i y outs
   cases x with
   |int a=>
     cases y with
     |int b=>
    obtain⟨σ1,e3,e4⟩:=map_some e;cases e4;obtain⟨v,h1,h2⟩:=rv.val i _ (slot_get e0);rw[if_neg (by rw[hi];decide)]at h2;refine⟨v,h1,kR rv e1 ok e2 hs hms nd ndp e3 fun u H' rp _ rv' fr'=>⟨a,b,aj h2,aj rp,?_⟩⟩
    exact k _ _ (rv'.bind hi aK) (fr'.trans (Fr'.bind hi (ay.refl _)))
     | _=>cases e
   | _=>cases e
  ·cases e
 ·cases e
end rules
end RS
namespace L2
open PySem PySem.Spec PyProof.Rows
abbrev je(A:Around)(h:Heap):Prop:=A.handled=none\/∃ x o vs,A.handled=some (.ref x)/\h.get? x=some o/\o.data=.fields vs/\vs[2]?=some .none
def je.keeps(x:je A h)(k:∀ b o vs,h.get? b=some o->o.data=.fields vs->A.handled=some (.ref b)->h'.get? b=some o):je A h':=by
 rcases x with z | ⟨y,o,vs,h1,h2,h3,h4⟩
 ·exact .inl z
 ·exact .inr ⟨y,o,vs,h1,k _ _ _ h2 h3 h1,h3,h4⟩
section
def ki:entryFor table "proto.unchain" = some Builtin.«proto.unchain»:=entryFor_of_tree (by kernel_rfl)
def qO(hd:je A s.heap)(he:s.heap.get? e=some oe)(hf:oe.data=.fields vs)(hz:2<vs.size)(ne:A.handled≠some (.ref e))
 (k:∀ h',Heap.SameBut e s.heap h'->(∃ o,h'.get? e=some o/\o.cls=oe.cls)->E (.ref e) { s with heap:=h' }):wpAny (model prog w) A (raiseNew (.ref e):Sem α) Q E s:=by
 unfold raiseNew;refine wpAny_bind (wpAny_handled ?_)
 rcases hd with z | ⟨x,o,ws,h1,h2,h3,h4⟩
 ·rw[z];exact wpAny_bind (wpAny_pure (wpAny_throw (k s.heap (.refl ..) ⟨oe,he,rfl⟩)))
 ·rw[h1]
  have nx:(Value.ref x != Value.ref e)=true:=by
   rw[bne_iff_ne];intro q;exact ne (by rw[h1,q])
  dsimp only;rw[if_pos nx];refine wpAny_bind (wpAny_holding (wpAny_runValue (codeAny_builtin ki ?_)));unfold Builtin.«proto.unchain»;refine wpAny_bind (wpAny_field h2 h3 h4 ?_);rw[if_pos (by decide)];refine wpAny_bind (wpAny_pure (wpAny_pure ?_));show wpAny _ _ _ _ _ _;refine wpAny_bind ?_;show wpAny _ _ (setField (.ref e) 2 (.ref x)) _ _ _;refine wpAny_setField he hf hz (wpAny_throw (k _ (.update ..) ⟨_,Heap.get?_update_self _ he (Obj.isFreed_of_fields (Obj.data_mapFields hf _)),Obj.cls_mapFields ..⟩))
def uq(hd:je A s.heap)(k:∀ h' e,(∀ b o,s.heap.get? b=some o->h'.get? b=some o)->(∃ o,h'.get? e=some o/\o.cls=.type "StopIteration")->E (.ref e) { s with heap:=h' }) :
  wpAny (model prog w) A (newExc (.type "StopIteration") []) (fun e s'=>wpAny (model prog w) A (raiseNew e:Sem α) Q E s') E s:=by
 simp only[newExc,newTuple];apply wpAny_bind;refine wpAny_newObj_type ?_ (by size_fits);apply wpAny_bind (m:=firstArgMember _ _);refine wpAny_of_eq (a:=Value.none) (by first | rfl | (simp only[firstArgMember];rfl)) ?_;refine wpAny_newObj_type ?_ (by size_fits);have hs:∀ b o,s.heap.get? b=some o->b≠(s.heap.push { cls:=.type "tuple",data:=.seq ([]:List Value).toArray }).objs.size:=fun b o e=>Nat.ne_of_lt (by rw[Heap.size_push];exact Nat.lt_succ_of_lt (Heap.lt_size e));refine qO (hd.keeps fun b o vs e _ _=>Heap.get?_push_of_some _ (Heap.get?_push_of_some _ e)) (Heap.get?_push_size _ rfl) rfl (Nat.lt_of_lt_of_le (by decide:2<6) (by simp)) (fun q=>?_) fun h' sb ho=>k h' _ (fun b o e=>(sb.2 b (hs b o e)).trans (Heap.get?_push_of_some _ (Heap.get?_push_of_some _ e))) ho
 rcases hd with z | ⟨x,o,ws,h1,h2,_,_⟩
 ·rw[z]at q;cases q
 ·rw[h1]at q;cases q;exact hs _ _ h2 rfl
end
section
def rD(hi:z.heap.IsTupleIter ti tp i)(ht:z.heap.IsTuple tp its)(hx:its[i]?=some x)
 (k:∀ g,g.IsTupleIter ti tp (i+1)->Heap.SameBut ti z.heap g->Q x { z with heap:=g }):wpAny (model prog w) A (Builtin.SmallTypes.nextOf (.ref ti)) Q E z:=by
 have hty:=hi.typeIs;obtain⟨⟨c1,d1,f1,s1⟩,g1,c1',f1'⟩:=hi;obtain⟨⟨c2,d2,f2,s2⟩,g2,c2',n2,f2'⟩:=ht;dsimp only at c1' f1' c2' f2';subst c1' f1' c2' f2';obtain⟨hp,g,d,tk,os⟩:=z;unfold Builtin.SmallTypes.nextOf;refine wpAny_bind (wpAny_callSpecial?_slot (name:=Str.ofString "__next__") hty F.slot_tuple_iterator_next (wpAny_call_entry F.slot_tuple_iterator_next hty F.entry_tuple_iterator_next ?_ (F.args_tuple_iterator_next_1 _)));unfold Builtin.«tuple_iterator.__next__»
 wp_walk using AutoSeq1.wpAny_loadPart' g1,AutoSeq1.wpAny_loadPart' g2
 have e:its[((i:Nat):Int).toNat]?=some x:=hx;rw[e];dsimp only;apply wpAny_bind;apply wpAny_setField g1 rfl (by simp);apply wpAny_pure;refine⟨x,rfl,?_⟩;apply wpAny_pure;apply k
 ·exact⟨_,Heap.get?_update_self _ g1 rfl,rfl,by simp[Obj.mapFields,rawInt]⟩
 ·exact Heap.SameBut.update ..
def ub(hd:je A z.heap)(ni:A.handled≠some (.ref ti))(hi:z.heap.IsTupleIter ti tp i)(ht:z.heap.IsTuple tp its)(hx:its[i]?=none)
 (k:∀ g e,Heap.ExtBut ti z.heap g->(∃ o,g.get? e=some o/\o.cls=.type "StopIteration")->E (.ref e) { z with heap:=g }):wpAny (model prog w) A (Builtin.SmallTypes.nextOf (.ref ti)) Q E z:=by
 have hty:=hi.typeIs;obtain⟨⟨c1,d1,f1,s1⟩,g1,c1',f1'⟩:=hi;obtain⟨⟨c2,d2,f2,s2⟩,g2,c2',n2,f2'⟩:=ht;dsimp only at c1' f1' c2' f2';subst c1' f1' c2' f2';obtain⟨hp,g,d,tk,os⟩:=z;unfold Builtin.SmallTypes.nextOf;refine wpAny_bind (wpAny_callSpecial?_slot (name:=Str.ofString "__next__") hty F.slot_tuple_iterator_next (wpAny_call_entry F.slot_tuple_iterator_next hty F.entry_tuple_iterator_next ?_ (F.args_tuple_iterator_next_1 _)));unfold Builtin.«tuple_iterator.__next__»
 wp_walk using AutoSeq1.wpAny_loadPart' g1,AutoSeq1.wpAny_loadPart' g2
 have e:its[((i:Nat):Int).toNat]?=none:=hx;rw[e];dsimp only;apply wpAny_bind;apply wpAny_rule;apply wpAny_bind;apply wpAny_setField g1 rfl (by simp);unfold Builtin.SmallTypes.stopIteration;apply wpAny_bind;refine uq (hd.keeps fun b u vs e _ hb=>(Heap.SameBut.update ..).extBut b u (fun z=>ni (z▸hb)) e) fun g e kp hc=>k g e (fun b o hb q=>kp b o ?_) hc;exact(Heap.SameBut.update ..).extBut b o hb q
def tm(h:wpAny (model prog w) A m S (fun _ _=>False) z)(k:∀ a z1,S a z1->Q a z1):wpAny (model prog w) A m Q E z:=wpAny_mono h k fun _ _ f=>f.elim
def oF(h:∀ b,Q b z):wpAny (model prog w) A (pure b) Q E z:=wpAny_pure (h b)
def qH{x:Value}{S:Addr->Shared->Prop}(hx:∀ A:Around,wpAny (model prog w) A (pyIter x) (fun v z1=>∃ it,v=.ref it/\S it z1) (fun _ _=>False) z)
 (k:∀ it z1,S it z1->Q (.ref z1.heap.objs.size) { z1 with heap:=z1.heap.push { cls:=.type "enumerate",data:=.fields #[.none,.bool false,.ref it,rawInt 0,.none,.none] } }):wpAny (model prog w) A (call (.type "enumerate") [x]) Q E z:=by
 have body:MeetsIn prog w (Builtin.«enumerate.__new__» ⟨[.type "enumerate",x],[]⟩) (fun A R s=>s=z/\∀ it z1,S it z1->R (.ok (.ret (.ref z1.heap.objs.size))) { z1 with heap:=z1.heap.push { cls:=.type "enumerate",data:=.fields #[.none,.bool false,.ref it,rawInt 0,.none,.none] } }):=by
  rintro A R s ⟨rfl,hR⟩;have hsub:=sub_enumerate;have iter:=hx A.in1;obtain⟨hp,g,d,tk,os⟩:=s
  wp_walk
  refine wpAny_stack_any fun st=>oF fun b=>?_
  have done:∀ it z1,S it z1->wpAny (model prog w) A.in1 (do let r <- Builtin.SmallTypes.newRecord (.type "enumerate") (Builtin.SmallTypes.ownedTupleFields++[.ref it,rawInt 0,.none,.none]);ret r)
    (fun fin s'=>match fin with | .done f=>R (.ok f) s' | .again c'=>c'.quiet=true/\codeAny (model prog w) A c' R s') (fun e s'=>R (.error e) s') z1:=by
   intro it z1 h1;have:=hR it z1 h1;obtain⟨hp1,gg1,dd1,tk1,os1⟩:=z1
   wp_walk
   exact this
  cases b
  ·wp_walk using tm iter
   rintro _ z1 ⟨it,rfl,h1⟩;exact done it z1 h1
  ·wp_walk using tm iter
   rintro _ z1 ⟨it,rfl,h1⟩;exact done it z1 h1
 refine callType_newIn F.called_enumerate (by decide) (F.typeCall_enumerate_1 _) (F.newCall_enumerate_1 _) (fun obj=>F.args_object_init_2 obj _) F.entry_enumerate_new body ⟨rfl,fun it z1 h=>?_⟩;exact⟨⟨_,Heap.get?_push_size _ rfl,rfl⟩,k it z1 h⟩
def rR:gO prog w where
 draws:=fun hh ti tp hne its=>{
  live:=fun i h st=>let ⟨o,e,_⟩:=st.1;⟨o,e⟩
  frame:=fun i h h' st kp=>by
   obtain⟨⟨o1,e1,r1⟩,⟨o2,e2,r2⟩⟩:=st;exact⟨⟨o1,kp ti (by simp) _ e1,r1⟩,⟨o2,kp tp (by simp) _ e2,r2⟩⟩
  item:=fun i s Q E hi st k=>by
   refine rD st.1 st.2 (x:=its[i]) (by simp[hi]) fun g h1 h2=>k its[i] g s.toks (by simp[hi]) ⟨h1,st.2.extBut h2.extBut hne⟩ h2
  done:=fun s Q E st k=>ub (.inl hh) (by rw[hh];exact fun z=>nomatch z) st.1 st.2 (by simp) fun g e h1 h2=>k g e h1 h2 }
 call:=fun {A E z tp its Q} ht k=>by
  refine qH (S:=fun it z1=>it=z.heap.objs.size/\z1={ z with heap:=z.heap.push { cls:=.type "tuple_iterator",data:=.fields #[.ref tp,rawInt 0] } }) (fun A=>wpAny_pyIter_tuple ht ⟨_,rfl,rfl,rfl⟩) ?_;rintro it z1 ⟨rfl,rfl⟩;have hz:(z.heap.push { cls:=.type "tuple_iterator",data:=.fields #[.ref tp,rawInt 0] }).objs.size=z.heap.objs.size+1:=Heap.size_push ..;dsimp only;rw[hz];refine k _ ?_ ⟨_,Heap.get?_push_of_some _ (Heap.get?_push_size _ rfl),rfl,rfl⟩ fun b o e=>Heap.get?_push_of_some _ (Heap.get?_push_of_some _ e);have:=Heap.get?_push_size (z.heap.push { cls:=.type "tuple_iterator",data:=.fields #[.ref tp,rawInt 0] }) (o:={ cls:=.type "enumerate",data:=.fields #[.none,.bool false,.ref z.heap.objs.size,rawInt 0,.none,.none] }) rfl;rw[hz]at this;exact this
end
end L2
namespace RS
open PySem PySem.Spec PyProof.Rows L2
section
variable{X:Cx}
def ud(hg:Gl X "enumerate")(hm:X.mg "enumerate" = none)(ha:SE X cl a a')(hn:noStar a=true):SI X cl (.Tuple elts kx tp) (.Call (.Name "enumerate" p) [a] [] pos) (.enm a'):=wW rR hg hm ha hn
end
end RS
namespace L2
open PySem PySem.Spec PyProof.Rows
section
variable{prog:Program}{w:World}{A:Around}{E:Value->Shared->Prop}
end
section
variable{prog:Program}{w:World}{A:Around}{E:Value->Shared->Prop}{z TI TO i1 i2:Addr}{fp1 fp2:List Addr}{n1 n2 k:Nat}{P1 P2:Nat->Value->Prop}{S1 S2:Nat->Heap->Prop}{a b:Value}{s:Shared}
end
section
variable{s:Shared}
end
section
end
section
end
end L2
namespace RS
open PySem PySem.Spec PyProof.Rows L2
section rules
end rules
end RS
namespace L2
open PySem PySem.Spec PyProof.Rows
section
end
end L2
namespace RS
open PySem PySem.Spec PyProof.Rows L2
section
end
end RS
namespace L2
open PySem PySem.Spec PyProof.Rows
section
end
section
end
end L2
namespace RS
open PySem PySem.Spec PyProof.Rows L2
section
end
section
variable{st:Stmt}
end
section
variable{X:Cx}
end
end RS
namespace L2
open PySem PySem.Spec PyProof.Rows
end L2
namespace RS
open PySem PySem.Spec PyProof.Rows L2
end RS
namespace L2
open PySem PySem.Spec PyProof.Rows
section
variable{prog:Program}{w:World}{A:Around}{E:Value->Shared->Prop}{s:Shared}
end
end L2
namespace RS
open PySem PySem.Spec PyProof.Rows L2
end RS
namespace L2
open PySem PySem.Spec PyProof.Rows
end L2
namespace RS
open PySem PySem.Spec PyProof.Rows L2
end RS
namespace L2
open PySem PySem.Spec PyProof.Rows
end L2
namespace RS
open PySem PySem.Spec PyProof.Rows L2
section
open PySem.Builtin.Str
end
section
variable{X:Cx}{cl:RL.Cl}{a b:Expr}{a' b' e':RL.E}{pos p2:Pos}{M:List Nat}{st:Stmt}{i:Nat}
end
section
variable{X:Cx}{cl:RL.Cl}{a b c d:Expr}{a' b' c' d':RL.E}{pos apos p p2 p3:Pos}
end
section
open PySem.W
variable{prog:Program}{w:World}{A:Around}{E:Value->Shared->Prop}{s:Shared}
variable{vs:List Value}{xs:List Str}
end
variable{X:Cx}
section
variable{K:PySem.W.Frag}
end
section
variable{X:Cx}{M N1:List Nat}{st:Stmt}{sts:List Stmt}{j:Nat}
end
section
variable{X:Cx}
variable{M:List Nat}{st:Stmt}{i:Nat}{cl:RL.Cl}
end
section
variable{bt:Bool}{t:SetTable}{m:Nat}
end
section
variable{prog:Program}{w:World}{A:Around}{E:Value->Shared->Prop}{s:Shared}
end
section
variable{prog:Program}{w:World}{A:Around}{E:Value->Shared->Prop}{s:Shared}
variable{R:Result->Shared->Prop}{I:Addr}{fp wr:List Addr}{G:Array GenState->Array GenState->Prop}{n:Nat}{P:Nat->Value->Prop}{St:Nat->Shared->Prop}
end
section
variable{prog:Program}{w:World}{A:Around}{E:Value->Shared->Prop}{s:Shared}{S I:Addr}{o:Obj}{es:Array (Int × Value)}{ep m i j:Nat}{t:SetTable}
end
section
variable{prog:Program}{w:World}{A:Around}{E:Value->Shared->Prop}{s:Shared}{S I:Addr}{o:Obj}{es:Array (Int × Value)}{ep m i j:Nat}{t:SetTable}
end
section
variable{X:Cx}
end
open Sem (wp)
section
variable{prog:Program}{w:World}{A:Around}{E:Value->Shared->Prop}{s:Shared}{it d:Addr}{es:Array DictEntry}{ep i:Nat}
end
end RS
namespace L2
open PySem PySem.Spec PyProof.Rows
end L2
namespace RS
open PySem PySem.Spec PyProof.Rows L2
end RS
namespace L2
open PySem PySem.Spec PyProof.Rows
section
variable{X:Cx}
def vg{e:Expr}{t t':TE}(h:PE X e t')(w:∀ σ H Q,t σ H Q->t' σ H fun v H1=>∃ p xs,v=.ref p/\H1 p=some (.lst xs)/\∀ o,Q (.ref p) (upd H1 p (.frz o (.lst xs)))):PE X e t:=by
 intro pins s σ H Q I q;refine thn (h pins s σ H _ I (w σ H Q q)) fun v s1 ⟨x,H1,I1,r1,p,xs,e1,hH,k⟩=>?_;subst e1;obtain⟨z,its,n,r,g⟩:=I1.hok p _ hH;have I':Inv X pins σ (upd H1 p (.frz _ (.lst xs))) { s1 with heap:=s1.heap,toks:=s1.toks }:=I1.write (x:=p) (e:=p) (h':=s1.heap) (t':=s1.toks) (by rw[hH];trivial) (.inl rfl) (fun b u _ e=>e) ⟨_,g⟩ ⟨g,z,its,n,r,g⟩;exact⟨.ref p,_,I',r1,k _⟩
end
end L2
namespace RS
open PySem PySem.Spec PyProof.Rows L2
section
variable{X:Cx}{cl:RL.Cl}{a b:Expr}{a' b':RL.E}
def wU(ha:SE X cl a a'):SE X cl a (.frz a'):=by
 refine vg ha fun σ H Q h=>?_;obtain⟨σD,d,rv,e,k⟩:=h;obtain⟨x,ea,e⟩:=bind_some (show(RL.ev cl σD a').bind _=some d from e);refine⟨σD,x,rv,ea,fun v H1 r1=>?_⟩;by_cases tf:RL.a6 a'=true
 ·rw[if_pos tf]at e
  cases x with
  |lst ds=>
   obtain⟨im,rfl⟩:=bz (show(if RL.ao ds=true then some (RL.D.fL ds)else none)=some d from e);obtain⟨p,xs,rfl,_,hH,rs⟩:=aC r1.rep;have fr:=r1.fresh tf rfl p rfl;refine⟨p,xs,rfl,hH,fun o=>k _ _ (bM ?_ ?_ im)⟩
   ·intro b ob eb;rw[aE (aJ eb fr)];exact r1.same _ _ eb
   ·rw[Rep];exact⟨p,o,xs,rfl,aV,(ae.upd (P:=fun q=>q=p) hH (.inl ⟨_,rfl⟩) rfl (rs.imm im)).imm im⟩
  | _=>cases e
 ·rw[if_neg tf]at e;cases e
end
section
variable{prog:Program}{w:World}{A:Around}{R:Result->Shared->Prop}{I S:Addr}{fp wr:List Addr}{n:Nat}{P:Nat->Value->Prop}{St:Nat->Heap->Prop}{Ok:Heap->Prop}{bt:Nat->Nat->Bool}
end
section
variable{prog:Program}{w:World}{A:Around}{E:Value->Shared->Prop}{s:Shared}
end
end RS
namespace L2
open PySem PySem.Spec PyProof.Rows
section
variable{X:Cx}
end
end L2
namespace RS
open PySem PySem.Spec PyProof.Rows L2
section
variable{X:Cx}{cl:RL.Cl}{a b:Expr}{a' b':RL.E}{p pos:Pos}
end
section
variable{prog:Program}{w:World}{A:Around}{E:Value->Shared->Prop}{s:Shared}{I t:Addr}{items:Array Value}
def nF(hh:A.handled=none)(hne:t≠I):Walks prog w A I [I,t] [I] (items.size-1) (fun i v=>items[i+1]?=some v) (fun i h=>IsTupIter h I t (i+1)/\IsTup h t items) where
 sub:=fun b hb=>by simp at hb;simp[hb]
 frame:=fun i h h' ⟨⟨o,a1,a2⟩,o',b1,b2⟩ hk=>⟨⟨o,hk I (by simp) _ a1,a2⟩,o',hk t (by simp) _ b1,b2⟩
 item:=fun i s Q E hi st hQ=>by
  have hl:i+1<items.size:=by omega
  refine next_tuple_item st.1 st.2 (x:=items[i+1]) (by simp[hl]) fun h' it' hs=>?_;obtain⟨o',b1,b2⟩:=st.2;exact hQ _ h' s.toks (by simp[hl]) ⟨it',o',hs.extBut t _ hne b1,b2⟩ fun b o hb e=>hs.extBut b o (fun z=>hb (by simp[z])) e
 done:=fun s Q E st hQ=>next_tuple_end hh st.1 st.2 (by rw[Array.getElem?_eq_none_iff];omega) fun h' he=>hQ h' s.toks fun b o hb e=>he b o (fun z=>hb (by simp[z])) e
 self:=fun i s Q E st hQ=>by
  obtain⟨o,a1,a2,a3⟩:=st.1;exact wpAny_pyIter_tupleiter (t:=t) (i:=i+1) ⟨o,a1,a2,a3⟩ hQ
def mi{Q:List Value->Shared->Prop}(hh:A.handled=none)(ht:IsTup s.heap t items)(h0:0<items.size)(hz:items.size<=sizeLine)
 (hQ:∀ (g:Heap) (tk:Nat),(∀ b o,s.heap.get? b=some o->g.get? b=some o)->Q [items[0],.ref g.objs.size] { s with heap:=g.push { cls:=.type "list",data:=.seq (items.toList.drop 1).toArray },toks:=tk }) :
  wpAny (model prog w) A (unpackItems (.ref t) 2 (some 1)) Q E s:=by
 have hlt:t<s.heap.objs.size:=by obtain⟨o,ho,_⟩:=ht;exact Heap.lt_size ho
 unfold unpackItems;refine wpAny_bind ?_;unfold notIterableAtAll;refine wpAny_bind (wpAny_specialOf ht.typeIs slot_tuple_iter.lookup (wpAny_pure ?_));rw[if_neg (by simp)];refine wpAny_bind (wpAny_holding (iter_tuple ht (wpAny_bind (wpAny_holding (draw_tuple (Nat.ne_of_lt hlt) 1 0 _ _ ⟨_,Heap.get?_push_size _ rfl,rfl,rfl⟩ (ht.push _) (by omega) fun h1 it1 hs1=>?_)))))
 have e1:List.take 1 (List.drop 0 items.toList)=[items[0]]:=by
  rw[List.drop_zero,List.take_one,List.head?_eq_getElem?,Array.getElem?_toList];simp[h0]
 rw[e1,if_neg (by simp)];have ht1:IsTup h1 t items:=(ht.push _).extBut hs1.extBut (Nat.ne_of_lt hlt);refine wpAny_bind (wpAny_holding (wpAny_collect_iter (T := "tuple_iterator") (.inr (.inr (.inr rfl))) (nF (A:=A.in1) (I:=s.heap.objs.size) (items:=items) hh (Nat.ne_of_lt hlt)).toS (fun i s st=>?_) ⟨it1,ht1⟩ (fun b hb=>?_) (by simp) (fun s' acc mv hI=>?_) (by omega)))
 ·obtain⟨o,a1,a2,_⟩:=st.1;exact⟨o,a1,a2⟩
 ·obtain⟨o,a1,_⟩:=it1;have:=Heap.lt_size a1;simp at hb;rcases hb with rfl | rfl
  ·exact this
  ·exact Nat.lt_trans hlt this
 ·have ea:acc.toList=items.toList.drop 1:=by
   apply List.ext_getElem?;intro i;rw[Array.getElem?_toList,List.getElem?_drop,Array.getElem?_toList,Nat.add_comm 1 i]
   cases e:acc[i]? with
   |none=>
    rw[Array.getElem?_eq_none_iff,hI.1]at e;symm;rw[Array.getElem?_eq_none_iff];omega
   | some v=>exact(hI.2 i v e).symm
  rw[ea];show wpAny _ _ (if(items.toList.drop 1).length<0 then _ else _) _ _ _;rw[if_neg (Nat.not_lt_zero _)];refine wpAny_bind (wpAny_newObj_type (wpAny_pure ?_) ?_)
  ·have e2:(items.toList.drop 1).drop ((items.toList.drop 1).length-0)=[]:=by rw[Nat.sub_zero,List.drop_length]
   have e3:(items.toList.drop 1).take ((items.toList.drop 1).length-0)=items.toList.drop 1:=by rw[Nat.sub_zero,List.take_length]
   show Q ([items[0]]++[.ref s'.heap.objs.size]++(items.toList.drop 1).drop ((items.toList.drop 1).length-0)) _;rw[e2,e3];have q:=hQ s'.heap s'.toks (fun b o e=>mv.heap b o (fun z=>by have z:=List.mem_singleton.mp z;have:=Heap.lt_size e;rw[z]at this;exact Nat.lt_irrefl _ this) (hs1.extBut b o (Nat.ne_of_lt (Heap.lt_size e)) (Heap.get?_push_of_some _ e)));obtain⟨hp,g,d,tk,os⟩:=s';have m1:g=s.gens:=mv.gens;have m2:d=s.drawn:=mv.drawn;have m3:os=s.os:=mv.os;subst m1 m2 m3;exact q
  ·show((items.toList.drop 1).take ((items.toList.drop 1).length-0)).length<=sizeLine;rw[Nat.sub_zero,List.take_length,List.length_drop,Array.length_toList];omega
end
end RS
namespace L2
open PySem PySem.Spec PyProof.Rows
section
variable{X:Cx}
abbrev sW(K:PySem.W.Frag)(i j:Nat):TG:=fun v σ H Q=>∃ a z zs,v=.ref a/\SqT K H a (z::zs)/\∀ l o,H l=none->Q ((σ.set i (some z)).set j (some (.ref l))) (upd (upd H l (.lst zs)) l (.frz o (.lst zs)))
def tH{x y:Str}{px py q pos:Pos}{kt:Nat}(hc:X.calm=true)(h1:PG X (.Name x px) (gR i))(h2:PG X (.Name y py) (gR j)):PG X (.Tuple [.Name x px,.Starred (.Name y py) q] kt pos) (sW X.K i j):=by
 intro pins s σ H v u Q I r h;obtain⟨a,z,zs,rfl,hq,k⟩:=h;cases r;obtain⟨its,rv,ht,hz⟩:=I.tuple hq
 cases rv with
 |@cons _ it _ its rz rzs=>
  rw[assign_Tuple];refine wpAny_bind (wpAny_standAt ?_);unfold unpack;refine wpAny_bind (wpAny_holding (RS.mi (items:=(it::its).toArray) (I.ok.hd.1 hc) ht (by simp) (by simpa[<-rzs.length]using hz) fun g tk kp=>?_));have I1:Inv X pins σ H { s with heap:=g,toks:=tk }:=I.kept (t':=tk) kp;have I2:Inv X pins σ (upd H g.objs.size (.lst zs)) { s with heap:=g.push { cls:=.type "list",data:=.seq its.toArray },toks:=tk }:=I1.rB (t':=tk) rzs (by have:zs.length+1<=sizeLine:=hz;omega);obtain⟨z1,its1,n1,r1,g1⟩:=I2.hok g.objs.size _ aV;have I3:Inv X pins σ (upd (upd H g.objs.size (.lst zs)) g.objs.size (.frz _ (.lst zs))) { s with heap:=g.push { cls:=.type "list",data:=.seq its.toArray },toks:=tk }:=I2.write (x:=g.objs.size) (e:=g.objs.size) (h':=g.push { cls:=.type "list",data:=.seq its.toArray }) (t':=tk) (by rw[aV];trivial) (.inl rfl) (fun b u _ e=>e) ⟨_,g1⟩ ⟨g1,z1,its1,n1,r1,g1⟩;have hf:H g.objs.size=none:=I1.hok.fresh (Nat.le_refl _);refine assignInOrder_cons (thn (h1 pins _ σ _ z it (fun σ' H'=>σ'=σ.set i (some z)/\H'=upd (upd H g.objs.size (.lst zs)) g.objs.size (.frz { cls:=Value.type "list",data:=Data.seq its1.toArray n1 } (.lst zs))) I3 rz ⟨rfl,rfl⟩) fun _ s1 ⟨σ1,H1,J1,e1,e2⟩=>?_);subst e1 e2;refine assignInOrder_cons (thn (h2 pins s1 _ _ (.ref g.objs.size) (.ref g.objs.size) (fun σ' H'=>σ'=(σ.set i (some z)).set j (some (.ref g.objs.size))/\H'=upd (upd H g.objs.size (.lst zs)) g.objs.size (.frz { cls:=Value.type "list",data:=Data.seq its1.toArray n1 } (.lst zs))) J1 rfl ⟨rfl,rfl⟩) fun _ s2 ⟨σ2,H2,J2,e1,e2⟩=>?_);subst e1 e2;exact assignInOrder_nil ⟨_,_,J2,k _ _ hf⟩
abbrev GDc(X:Cx)(d:Addr)(kvs:List (Str × Addr)):Prop:=(d == sysModules)=false/\∀ h:Heap,X.K.In h->h.DictOf (aM X.prog X.w) d (kvs.map fun q=>((Sum.inr q.1:Key),Value.ref q.2))
def sQ(kvs:List (Str × Addr))(x:Str):valueAt (kvs.map fun q=>((Sum.inr q.1:Key),Value.ref q.2)) (Sum.inr x)=(kvs.find? fun q=>decide (q.1=x)).map fun q=>Value.ref q.2:=by
 unfold valueAt
 induction kvs with
 | nil=>rfl
 |cons q r ih=>
  rw[List.map_cons,List.find?_cons,List.find?_cons];have e:decide ((Sum.inr q.1:Key)=Sum.inr x)=decide (q.1=x):=p7 q.1 x;rw[e]
  cases decide (q.1=x)with
  | true=>rfl
  | false=>exact ih
def pD{a:Expr}{ta:TE}{g:Str}{p:Pos}{kvs:List (Str × Addr)}(ha:PE X a ta)(hg:Gl X g)(hm:X.mg g=some (.ref d))(hdb:(g == ("__debug__" : Str))=false)(G:GDc X d kvs) :
  PC X .In a (.Name g p) (fun σ H Q=>ta σ H fun y H1=>∃ x,y=.str x/\Q (.bl (kvs.find? fun q=>decide (q.1=x)).isSome) H1):=by
 intro pins s σ H Q I h;refine thn (ha pins s σ H _ I h) fun u s1 ⟨y,H1,I1,r1,x,e,q⟩=>gN I1 hg hm ?_ hdb;subst e;refine wpAny_in_of (k:=(Sum.inr x:Key)) (k6 r1) G.1 (G.2 _ I1.kIn).mapOf ?_;rw[sQ,Option.isSome_map];exact⟨.bl _,H1,I1.tok _,rfl,q⟩
def tD{b:Expr}{tb:TE}{g:Str}{p pos:Pos}{kvs:List (Str × Addr)}(hb:PE X b tb)(hg:Gl X g)(hm:X.mg g=some (.ref d))(hdb:(g == ("__debug__" : Str))=false)(G:GDc X d kvs)(hs:nZ b) :
  PE X (.Subscript (.Name g p) b pos) (fun σ H Q=>tb σ H fun y H1=>∃ x q,y=.str x/\(kvs.find? fun q=>decide (q.1=x))=some q/\Q (.ref q.2) H1):=by
 intro pins s σ H Q I h;refine um PySem.F.slot_dict_getitem.lookup hs (gN I hg hm ?_ hdb);refine thn (hb pins s σ H _ I h) fun u s1 ⟨y,H1,I1,r1,x,q,e,f,k⟩=>?_;subst e;have dd:=G.2 _ I1.kIn;refine⟨dd.typeIs,wpAny_getItem_of (k:=(Sum.inr x:Key)) (k6 r1) dd.mapOf (v:=Value.ref q.2) (by rw[sQ,f];rfl) ⟨.ref q.2,H1,I1.tok _,rfl,k⟩⟩
def si{i:Nat}{e:Expr}{es:List Expr}{t:TA}{p pos:Pos}{x:Str}(hN:X.N[i]?=some x)(hv:Vis X.env.scope x)(hd:(x == ("__debug__" : Str))=false)(hcd:(x == ("__classdict__" : Str))=false)(ha:PA X (e::es) t)
 (he:starEach (e::es) X.env=(false,eval e X.env)::starEach es X.env)(hpl:(backTo pos (starEach es X.env)).any (·.1)=false) :
  PE X (.Call (.Name x p) (e::es) [] pos) (fun σ H Q=>∃ k f fd ps sp,∃ σ0:St,σ=σ0.set i (some (.ref f))/\dJ X.prog X.w X.K X.mg X.base CX0 k f fd ps sp/\cy k X.A/\PySem.W.keepIn X.K (.ref f)=true/\Binds X.K fd ps []/\hE sp [] E0 t σ H Q):=by
 intro pins s σ H Q I h;obtain⟨k,f,fd,ps,sp,σ0,h0,F,hr,hk,hb,h⟩:=h
 have h1:σ[i]?=some (some (.ref f)):=by
  have l:=I.len;have n:=(List.getElem?_eq_some_iff.mp hN).1;subst h0;rw[List.length_set]at l;rw[List.getElem?_set_self (by omega)]
 refine wpAny_Call_Name_kw (thn (fw (pos:=p) hN hv hd hcd pins s σ H (fun v H1=>v=.ref f/\H1=H) I ⟨_,h1,rfl,rfl⟩) fun u s1 ⟨v,H1,I1,r1,e1,e2⟩=>?_);subst e1 e2;cases r1;refine PySem.W.callWith_K (h₀:=X.base) I1.ok.mod.kin hk (thn (ha pos pins s1 σ H1 _ I1 h) fun us s2 ⟨vs,H2,I2,r,q⟩=>⟨I2.kIn,?_⟩) he hpl;exact oO F hr hb .nil oh I2 r q
end
end L2
namespace RS
open PySem PySem.Spec PyProof.Rows L2
section
variable{X:Cx}{cl:RL.Cl}{a b e:Expr}{a' b' e':RL.E}{p pos:Pos}{M:List Nat}{st:Stmt}{i j:Nat}
def rF(kvs:List (Str × Addr))(x:Str):(kvs.find? fun q=>decide (q.1=x)).isSome=(kvs.map (·.1)).any fun k=>decide (k=x):=by
 induction kvs with
 | nil=>rfl
 |cons q r ih=>
  rw[List.find?_cons,List.map_cons,List.any_cons]
  cases decide (q.1=x)with
  | true=>rfl
  | false=>rw[Bool.false_or];exact ih
def pH{Q:VK}{kvs:List (Str × Addr)}{ks:List Str}(hk:kvs.map (·.1)=ks)(rv:RV0 X.K σD σ H)(h:RL.ev cl σD (.inG g ks a')=some d)(k:∀ t H',d=.bl t->ay H H'->Q (.bl t) H') :
  tE X.K cl a' σ H fun y H1=>∃ x,y=.str x/\Q (.bl (kvs.find? fun q=>decide (q.1=x)).isSome) H1:=by
 obtain⟨x,ea,e⟩:=bind_some (show(RL.ev cl σD a').bind _=some d from h);refine⟨σD,x,rv,ea,fun v H1 r1=>?_⟩
 cases x with
 |str x=>
  cases e;refine⟨x,aB r1.rep,?_⟩;have q:=rF kvs x;rw[hk]at q;rw[q];exact k _ _ rfl r1.same
 | _=>cases e
def xc{kvs:List (Str × Addr)}{ks:List Str}(ha:SE X cl a a')(hg:Gl X g)(hm:X.mg g=some (.ref d))(hdb:(g == ("__debug__" : Str))=false)(G:GDc X d kvs)(hk:kvs.map (·.1)=ks):SE X cl (.Compare a [.In] [.Name g p] pos) (.inG g ks a'):=by
 refine PE.weak (vm (pD ha hg hm hdb G) (eS rfl)) fun σ H Q h=>?_;obtain⟨σD,d,rv,e,q⟩:=h
 exact pH hk rv e fun t H' hd sm=>by subst hd;exact q _ _ (c6 sm)
def wj{kvs:List (Str × Addr)}{ks:List Str}(ha:SE X cl a a')(hg:Gl X g)(hm:X.mg g=some (.ref d))(hdb:(g == ("__debug__" : Str))=false)(G:GDc X d kvs)(hk:kvs.map (·.1)=ks):ST X cl (.Compare a [.In] [.Name g p] pos) (.inG g ks a'):=by
 refine PT.weak (v9 (pD ha hg hm hdb G) (eS rfl)) fun σ H Q h=>?_;obtain⟨σD,k,rv,e,q⟩:=h;obtain⟨d,e1,e2⟩:=bind_some e;refine pH (Q:=fun v H1=>∃ c,v=.bl c/\Q c H1) hk rv e1 fun t H' hd sm=>?_;subst hd;cases e2;exact⟨_,rfl,q _ sm⟩
def uC(h:PS X st (qG i j (iD (tE X.K cl a') (iD (tE X.K cl b') mW))))(hi:M.contains i=false)(hj:M.contains j=false):SS X cl M st (.parL i j a' b'):=by
 refine PS.weak h fun D σ H h=>?_;obtain⟨σD,o,σD',rv,e,k⟩:=h;obtain⟨x,e1,e⟩:=bind_some e;obtain⟨y,e2,e⟩:=bind_some e;obtain⟨him,e⟩:=bz e;cases e;rw[Bool.and_eq_true,Bool.and_eq_true]at him;obtain⟨im,q1,q2⟩:=him;refine⟨σD,x,rv.rv0,e1,fun v H1 r1=>⟨σD,y,rv.rv0.same r1.same,e2,fun u H2 r2=>⟨v,u,rfl,k _ _ ?_ ?_⟩⟩⟩
 ·have rv1:=(rv.same r1.same).bind hi (r1.rep.imm im);refine(rv1.same r2.same).bind hj ?_;have rp:=r2.rep;have fr:gC y=true->∀ a,u=.ref a->¬ aW M (σ.set i (some v)) a:=fun m a z p=>rv1.j5 a p (r2.fresh q2 m a z)
  cases y with
  | lst ds=>obtain⟨a,xs,e1,e0,e2,e3⟩:=aC rp;rw[Rep];exact⟨a,xs,e1,fr rfl a e1,e2,e3.imm q1⟩
  | dK ks ds=>rw[Rep]at rp ⊢;obtain⟨a,xs,e1,e0,e2,el,e3⟩:=rp;exact⟨a,xs,e1,fr rfl a e1,e2,el,e3.imm q1⟩
  | dT ks ds=>rw[Rep]at rp ⊢;obtain⟨a,xs,e1,e0,e2,el,e3⟩:=rp;exact⟨a,xs,e1,fr rfl a e1,e2,el,e3.imm q1⟩
  | _=>cases q1
 ·exact(Fr'.bind hi r1.same).trans (Fr'.bind hj r2.same)
def tX(h:PS X st (j4 (tE X.K cl e') (sW X.K i j)))(hi:M.contains i=false)(hj:M.contains j=false):SS X cl M st (.star i j e'):=by
 refine PS.weak h fun D σ H h=>?_;obtain⟨σD,o,σD',rv,e,k⟩:=h;obtain⟨q,e1,e⟩:=map_some (show((RL.ev cl σD e').bind RL.k8).map _=_ from e);cases e;obtain⟨x,ex,e1⟩:=bind_some e1;refine⟨σD,x,rv.rv0,ex,fun v H1 r1=>?_⟩
 cases x with
 |tup ds=>
  cases ds with
  | nil=>cases e1
  |cons d r=>
   obtain⟨im,e1⟩:=bz (show(if(d.imm&&RL.ao r)=true then some (d,RL.D.fL r)else none)=some q from e1);cases e1;rw[Bool.and_eq_true]at im;obtain⟨t,ws,rfl,g2,g3⟩:=aQ r1.rep;rw[ae]at g3;obtain⟨z,zs,rfl,g4,g5⟩:=g3;refine⟨t,z,zs,rfl,SqT.of g2,fun l o hl=>k _ _ ?_ ?_⟩
   ·have s2:ay H1 (upd (upd H1 l (.lst zs)) l (.frz o (.lst zs))):=fun b ob eb=>by
     have n:=aJ eb hl;rw[aE n,aE n];exact eb
    refine(((rv.same r1.same).bind hi (g4.imm im.1)).same s2).bind hj ?_;rw[Rep];exact⟨l,o,zs,rfl,aV,(g5.same s2).imm im.2⟩
   ·exact(Fr'.bind hi r1.same).trans (Fr'.bind hj fun b ob eb=>by
     have n:=aJ eb hl;rw[aE n,aE n]
     exact eb)
 | _=>cases e1
def ux{tbl:List (Str × Nat)}{kvs:List (Str × Addr)}{n g:Str}{e:Expr}{es:List Expr}{es':RL.Es}{np gp sp cp cpos rpos:Pos}(hN:X.N.Nodup)(hi:X.N[i]?=some n)(hl:Loc X.env.scope n)(hv:Vis X.env.scope n)(hd:(n == ("__debug__" : Str))=false)(hcd:(n == ("__classdict__" : Str))=false)
 (hf:X.fn n=true\/X.env.scope.names.lookup n=some .local)(ha:SE X cl a a')(hs:nZ a)(hg:Gl X g)(hm:X.mg g=some (.ref d))(hdb:(g == ("__debug__" : Str))=false)(G:GDc X d kvs)
 (hk:∀ x m,RL.fj tbl (.str x)=some m->∃ q k fd ps,(kvs.find? fun q=>decide (q.1=x))=some q/\dJ X.prog X.w X.K X.mg X.base CX0 k q.2 fd ps (spF X.K cl m)/\cy k X.A/\PySem.W.keepIn X.K (.ref q.2)=true/\Binds X.K fd ps [])
 (he:SEs X cl (e::es) es')(hn:noStar e=true)(hns:es.all noStar=true)(hsw:swapsWith (.Subscript (.Name g gp) a sp) (some (.Name n np)) pos.line X.env=pure false) :
  SSs X cl M [.Assign [.Name n np] (.Subscript (.Name g gp) a sp) pos,.Return (some (.Call (.Name n cp) (e::es) [] cpos)) rpos] (.act i g tbl a' es'):=by
 intro pins s σ H D I h;refine kL (qh hN hi hl (tD ha hg hm hdb G hs) hsw hf) (tu (l3 (si hi hv hd hcd he (a7 es hn) (cg hns)))) pins s σ H D I ?_;obtain⟨σD,o,σD',rv,ev,post⟩:=h;obtain⟨m,e1,ev⟩:=bind_some (show((RL.ev cl σD a').bind (RL.fj tbl)).bind _=_ from ev);obtain⟨x,ea,e1⟩:=bind_some e1;obtain⟨ds,e2,ev⟩:=bind_some ev;obtain⟨r,e3,ev⟩:=bind_some ev;obtain⟨im,ev⟩:=bz ev;cases ev;refine⟨σD,x,rv.rv0,ea,fun v H1 r1=>?_⟩
 cases x with
 |str x=>
  obtain⟨q,k,fd,ps,f1,F,hr,hkp,hb⟩:=hk x m e1;refine⟨x,q,aB r1.rep,f1,k,q.2,fd,ps,_,σ,rfl,F,hr,hkp,hb,σD.set i none,ds,⟨by simpa using Nat.le_of_eq rv.len,fun j dj hj=>?_⟩,e2,fun vs H2 s2 r2=>?_⟩
  ·by_cases hij:i=j
   ·subst hij;rw[List.getElem?_set]at hj;split at hj
    ·split at hj<;>cases hj
    ·exact absurd rfl ‹_›
   ·rw[List.getElem?_set_ne hij]at hj ⊢;exact(rv.rv0.same r1.same).2 j dj hj
  ·show spF X.K cl m (vs++[]) H2 _ E0;rw[List.append_nil];exact⟨ds,r,r2,e3,fun v H3 s3 r3=>post σ H v H3 rv (Fr'.same (ay.refl H)) ((r1.same.trans s2).trans s3) fun P hP=>r3.imm im⟩
 | _=>cases e1
end
inductive Ent (w:World):List DictEntry->List (Str × Addr)->Prop
 | nil:Ent w [] []
 | cons {e:DictEntry} {x:Str} {a:Addr} {t:Tok} {es:List DictEntry} {kvs:List (Str × Addr)}:e.key=.str x t->e.val=.ref a->e.hash=hashStr w x->Ent w es kvs->Ent w (e::es) ((x,a)::kvs)
def Ent.pairs{w:World}{P:Program}:∀ {es:List DictEntry} {kvs:List (Str × Addr)},Ent w es kvs->Pairs (aM P w) es (kvs.map fun q=>((Sum.inr q.1:Key),Value.ref q.2))/\∀ e∈es,∃ k,(aM P w).is k e.key=true/\e.hash=(aM P w).hash k
 | _,_,.nil=>⟨.nil,fun e he=>by cases he⟩
 | _,_,.cons (x:=x) (t:=t) h1 h2 h3 r=>by
  obtain⟨a,b⟩:=Ent.pairs (P:=P) r;have k:(aM P w).is (.inr x) (.str x t)=true:=ij P w x t;rw[<-h1]at k;refine⟨.cons k h2 a,fun e he=>?_⟩;rcases List.mem_cons.mp he with rfl | he
  ·exact⟨.inr x,k,h3⟩
  ·exact b e he
def wX:∀ {kvs:List (Str × Addr)},(kvs.map (·.1)).Nodup->((kvs.map fun q=>((Sum.inr q.1:Key),Value.ref q.2)).map (·.1)).Nodup:=fun {kvs} h=>by
 rw[List.map_map]
 induction kvs with
 | nil=>exact List.nodup_nil
 |cons q r ih=>
  rw[List.map_cons,List.nodup_cons]at h ⊢;refine⟨fun z=>h.1 ?_,ih h.2⟩;obtain⟨y,hy,e⟩:=List.mem_map.mp z;injection e with e;rw[<-e];exact List.mem_map.mpr ⟨y,hy,rfl⟩
def yW{K:PySem.W.Frag}{w:World}{es:List DictEntry}{kvs:List (Str × Addr)}{ep:Nat}(l:K.lookup d=some ⟨.type "dict",none,.dict es.toArray ep,#[]⟩)(E:Ent w es kvs)(hn:(kvs.map (·.1)).Nodup)(P:Program)(h:Heap)(X:K.In h) :
  h.DictOf (aM P w) d (kvs.map fun q=>((Sum.inr q.1:Key),Value.ref q.2)):=by
 obtain⟨a,b⟩:=E.pairs (P:=P);exact⟨_,es.toArray,ep,X _ _ l,⟨rfl,rfl,rfl⟩,rfl,fun e he=>b e (by simpa using he),by simpa using a,wX hn⟩
inductive Fz (mg:Str->Option Value) (F:List (Str × List Nat)):List (Str × Addr)->List (Str × Nat)->Prop
 | nil:Fz mg F [] []
 | cons {x nm:Str} {a:Addr} {m:Nat} {r:List (Str × Addr)} {t:List (Str × Nat)}:F[m]?=some (nm,[])->mg nm=some (.ref a)->Fz mg F r t->Fz mg F ((x,a)::r) ((x,m)::t)
def Fz.keys{mg:Str->Option Value}:∀ {r:List (Str × Addr)} {t:List (Str × Nat)},Fz mg F r t->r.map (·.1)=t.map (·.1)
 | _,_,.nil=>rfl
 | _,_,.cons _ _ h=>by rw[List.map_cons,List.map_cons,h.keys]
def Fz.act{mg:Str->Option Value}:∀ {r:List (Str × Addr)} {t:List (Str × Nat)},Fz mg F r t->∀ y m,RL.fj t (.str y)=some m->∃ q nm,(r.find? fun q=>decide (q.1=y))=some q/\F[m]?=some (nm,[])/\mg nm=some (.ref q.2)
 | _,_,.nil,y,m,e=>by cases e
 | _,_,.cons (x:=x) (nm:=nm) (a:=a) (m:=k) (t:=t) h1 h2 h,y,m,e=>by
  have e:(((x,k)::t).find? fun q=>decide (q.1=y)).map (·.2)=some m:=e;rw[List.find?_cons]at e ⊢
  cases hd:decide (x=y)with
  | true=>rw[hd]at e;cases e;exact⟨_,nm,rfl,h1,h2⟩
  | false=>rw[hd]at e;exact h.act y m e
def tM{K:PySem.W.Frag}{w:World}{g:Str}{tbl:List (Str × Nat)}{kvs:List (Str × Addr)}{mg:Str->Option Value}(a:mg g=some (.ref d))(hd:(d == sysModules)=false)(D:∀ (P:Program) (h:Heap),K.In h->h.DictOf (aM P w) d (kvs.map fun q=>((Sum.inr q.1:Key),Value.ref q.2)))
 (z:Fz mg F kvs tbl):∀ x t,[(g,tbl)].lookup x=some t->∃ (d:Addr) (kvs:List (Str × Addr)),mg x=some (.ref d)/\((d == sysModules)=false/\∀ (P:Program) (h:Heap),K.In h->h.DictOf (aM P w) d (kvs.map fun q=>((Sum.inr q.1:Key),Value.ref q.2)))/\kvs.map (·.1)=t.map (·.1)/\∀ y m,RL.fj t (.str y)=some m->∃ q nm,(kvs.find? fun q=>decide (q.1=y))=some q/\F[m]?=some (nm,[])/\mg nm=some (.ref q.2):=fun x t e=>by
 rw[List.lookup_cons]at e
 cases hb:x == g with
 | false=>rw[hb]at e;cases e
 |true=>
  rw[hb]at e;cases e;rw[eq_of_beq hb];exact⟨d,kvs,a,⟨hd,D⟩,z.keys,z.act⟩
def nos{α:Type}{P:Prop}{x:α}(h:(none:Option α)=some x):P:=by cases h
def au{α:Type}{o:Option α}{f:α->Bool}(h:o.any f=true):∃ x,o=some x/\f x=true:=by
 cases o with
 | none=>cases h
 | some x=>exact⟨x,rfl,h⟩
def ah{a b:Bool}(h:(a&&b)=true):a=true/\b=true:=by rw[Bool.and_eq_true]at h;exact h
abbrev cU:Expr->Option Str
 | .Name x _=>some x
 | _=>none
def cb{e:Expr}{x:Str}(h:cU e=some x):∃ p,e=.Name x p:=by
 cases e
 case Name=>cases h;exact⟨_,rfl⟩
 all_goals exact nos h
abbrev rW:Expr->Option Const
 | .Constant k _ _=>some k
 | _=>none
def ml{e:Expr}{k:Const}(h:rW e=some k):∃ j p,e=.Constant k j p:=by
 cases e
 case Constant=>cases h;exact⟨_,_,rfl⟩
 all_goals exact nos h
abbrev rH:Expr->Option (Expr × Operator × Expr)
 | .BinOp l o r _=>some (l,o,r)
 | _=>none
def uI{e:Expr}{l r:Expr}{o:Operator}(h:rH e=some (l,o,r)):∃ p,e=.BinOp l o r p:=by
 cases e
 case BinOp=>cases h;exact⟨_,rfl⟩
 all_goals exact nos h
abbrev vUn:Expr->Option (UnaryOp × Expr)
 | .UnaryOp o x _=>some (o,x)
 | _=>none
def l9{e x:Expr}{o:UnaryOp}(h:vUn e=some (o,x)):∃ p,e=.UnaryOp o x p:=by
 cases e
 case UnaryOp=>cases h;exact⟨_,rfl⟩
 all_goals exact nos h
abbrev jt:Expr->Option (Expr × List CmpOp × List Expr)
 | .Compare l o r _=>some (l,o,r)
 | _=>none
def fC{e l:Expr}{r:List Expr}{o:List CmpOp}(h:jt e=some (l,o,r)):∃ p,e=.Compare l o r p:=by
 cases e
 case Compare=>cases h;exact⟨_,rfl⟩
 all_goals exact nos h
abbrev vBool:Expr->Option (BoolOp × List Expr × Pos)
 | .BoolOp o es p=>some (o,es,p)
 | _=>none
def fZ{e:Expr}{es:List Expr}{o:BoolOp}{p:Pos}(h:vBool e=some (o,es,p)):e=.BoolOp o es p:=by
 cases e
 case BoolOp=>cases h;exact rfl
 all_goals exact nos h
abbrev eY:Expr->Option (List Expr)
 | .Tuple es _ _=>some es
 | _=>none
def c7{e:Expr}{es:List Expr}(h:eY e=some es):∃ k p,e=.Tuple es k p:=by
 cases e
 case Tuple=>cases h;exact⟨_,_,rfl⟩
 all_goals exact nos h
abbrev qR:Expr->Option (List Expr)
 | .List es _=>some es
 | _=>none
def tZ{e:Expr}{es:List Expr}(h:qR e=some es):∃ p,e=.List es p:=by
 cases e
 case List=>cases h;exact⟨_,rfl⟩
 all_goals exact nos h
abbrev jD:Expr->Option (Expr × Expr)
 | .Subscript a b _=>some (a,b)
 | _=>none
def fB{e a b:Expr}(h:jD e=some (a,b)):∃ p,e=.Subscript a b p:=by
 cases e
 case Subscript=>cases h;exact⟨_,rfl⟩
 all_goals exact nos h
abbrev vSl:Expr->Option (Option Expr × Option Expr × Option Expr)
 | .Slice a b c _=>some (a,b,c)
 | _=>none
def pG{e:Expr}{a b c:Option Expr}(h:vSl e=some (a,b,c)):∃ p,e=.Slice a b c p:=by
 cases e
 case Slice=>cases h;exact⟨_,rfl⟩
 all_goals exact nos h
abbrev fU:Expr->Option (Expr × List Expr × List Keyword × Pos)
 | .Call f as ks p=>some (f,as,ks,p)
 | _=>none
def eL{e f:Expr}{as:List Expr}{ks:List Keyword}{p:Pos}(h:fU e=some (f,as,ks,p)):e=.Call f as ks p:=by
 cases e
 case Call=>cases h;exact rfl
 all_goals exact nos h
abbrev sC:Expr->Option (Expr × Str × Pos)
 | .Attribute o x p=>some (o,x,p)
 | _=>none
def qJ{e o:Expr}{x:Str}{p:Pos}(h:sC e=some (o,x,p)):e=.Attribute o x p:=by
 cases e
 case Attribute=>cases h;exact rfl
 all_goals exact nos h
abbrev n8:Expr->Option (Expr × List Comprehension × Scope × Pos)
 | .ListComp e gs sc p=>some (e,gs,sc,p)
 | _=>none
def lF{e x:Expr}{gs:List Comprehension}{sc:Scope}{p:Pos}(h:n8 e=some (x,gs,sc,p)):e=.ListComp x gs sc p:=by
 cases e
 case ListComp=>cases h;exact rfl
 all_goals exact nos h
abbrev sv:Expr->Option Expr
 | .Starred e _=>some e
 | _=>none
def rn{e x:Expr}(h:sv e=some x):∃ p,e=.Starred x p:=by
 cases e
 case Starred=>cases h;exact⟨_,rfl⟩
 all_goals exact nos h
abbrev of1{α:Type}(xs:List α)(f:α->Bool):Bool:=match xs with
 | [a]=>f a
 | _=>false
abbrev of2{α:Type}(xs:List α)(f:α->α->Bool):Bool:=match xs with
 | [a,b]=>f a b
 | _=>false
abbrev of3{α:Type}(xs:List α)(f:α->α->α->Bool):Bool:=match xs with
 | [a,b,c]=>f a b c
 | _=>false
def aL{α:Type}:∀ {xs:List α} {f:α->Bool},of1 xs f=true->∃ a,xs=[a]/\f a=true
 | [a],_,h=>⟨a,rfl,h⟩
def bV{α:Type}:∀ {xs:List α} {f:α->α->Bool},of2 xs f=true->∃ a b,xs=[a,b]/\f a b=true
 | [a,b],_,h=>⟨a,b,rfl,h⟩
def pP{α:Type}:∀ {xs:List α} {f:α->α->α->Bool},of3 xs f=true->∃ a b c,xs=[a,b,c]/\f a b c=true
 | [a,b,c],_,h=>⟨a,b,c,rfl,h⟩
abbrev ofM{α:Type}(xs:List α)(f:α->α->List α->Bool):Bool:=match xs with
 | a::b::r=>f a b r
 | _=>false
def iF{α:Type}:∀ {xs:List α} {f:α->α->List α->Bool},ofM xs f=true->∃ a b r,xs=a::b::r/\f a b r=true
 | a::b::r,_,h=>⟨a,b,r,rfl,h⟩
abbrev fJ:Stmt->Option (List Expr × Expr)
 | .Assign ts e _=>some (ts,e)
 | _=>none
def cO{st:Stmt}{ts:List Expr}{e:Expr}(h:fJ st=some (ts,e)):∃ p,st=.Assign ts e p:=by
 cases st
 case Assign=>cases h;exact⟨_,rfl⟩
 all_goals exact nos h
abbrev xa:Stmt->Option (Expr × Operator × Expr)
 | .AugAssign t o e _=>some (t,o,e)
 | _=>none
def tV{st:Stmt}{t e:Expr}{o:Operator}(h:xa st=some (t,o,e)):∃ p,st=.AugAssign t o e p:=by
 cases st
 case AugAssign=>cases h;exact⟨_,rfl⟩
 all_goals exact nos h
abbrev nh:Stmt->Option Expr
 | .Expr e _=>some e
 | _=>none
def ju{st:Stmt}{e:Expr}(h:nh st=some e):∃ p,st=.Expr e p:=by
 cases st
 case Expr=>cases h;exact⟨_,rfl⟩
 all_goals exact nos h
abbrev wIf:Stmt->Option (Expr × List Stmt × List Stmt)
 | .If c a b _=>some (c,a,b)
 | _=>none
def wB{st:Stmt}{c:Expr}{a b:List Stmt}(h:wIf st=some (c,a,b)):∃ p,st=.If c a b p:=by
 cases st
 case If=>cases h;exact⟨_,rfl⟩
 all_goals exact nos h
abbrev vP:Stmt->Option (Expr × Expr × List Stmt × List Stmt)
 | .For t i b o _=>some (t,i,b,o)
 | _=>none
def u9{st:Stmt}{t i:Expr}{b o:List Stmt}(h:vP st=some (t,i,b,o)):∃ p,st=.For t i b o p:=by
 cases st
 case For=>cases h;exact⟨_,rfl⟩
 all_goals exact nos h
abbrev se:Stmt->Option (Option Expr)
 | .Return e _=>some e
 | _=>none
def mF{st:Stmt}{e:Option Expr}(h:se st=some e):∃ p,st=.Return e p:=by
 cases st
 case Return=>cases h;exact⟨_,rfl⟩
 all_goals exact nos h
structure CC where
 N:List Str
 sc:Scope
 B:List Str
 G:List (Str × Int)
 F:List (Str × List Nat)
 W:List (Str × List (Str × Nat))
abbrev wz(scope sc:Scope):Scope:={ scope with names:=scope.names.map fun(n,k)=>if(k == NameKind.free&&sc.kind == .function&&sc.names.lookup n == some .cell)then(n,NameKind.cell)else(n,k) }
abbrev CC.inner(C:CC)(scope:Scope):CC:={ C with sc:=wz scope C.sc }
abbrev fv(x:Str):Bool:=!(x == ("__debug__" : Str)) && !(x == ("__classdict__" : Str))
abbrev rV(C:CC)(x:Str):Bool:=C.sc.names.lookup x == some .local || C.sc.names.lookup x == some .cell
abbrev rS(C:CC)(x:Str):Bool:=C.sc.names.lookup x == some .local || C.sc.names.lookup x == some .cell || C.sc.names.lookup x == some .free
abbrev glB(C:CC)(x:Str):Bool:=C.sc.names.lookup x == some .globalImplicit&&fv x
abbrev lA(C:CC)(x:Str):Bool:=glB C x&&C.B.contains x
abbrev nmB(C:CC)(i:Nat)(x:Str):Bool:=C.N[i]? == some x&&fv x
structure XOk(C:CC)(X:Cx)(cl:RL.Cl):Prop where
 scope:X.env.scope=C.sc
 names:X.N=C.N
 nd:C.N.Nodup
 calm:X.calm=true
 xe:X.xe=fun _ _=>False
 hu:X.A.units+100<cLine
 blt:∀ x∈C.B,X.mg x=none
 glb:∀ x i,C.G.lookup x=some i->∃ u,X.mg x=some u/\RelV (.int i) u
 fns:∀ (f:Nat) (x:Str) (mp:List Nat),C.F[f]?=some (x,mp)->∃ k fa fd ps,dJ X.prog X.w X.K X.mg X.base CX0 k fa fd ps (if mp=[]then spF X.K cl f else spM X.K cl mp f)/\cy k X.A/\X.mg x=some (.ref fa)/\PySem.W.keepIn X.K (.ref fa)=true/\Binds X.K fd ps []
 gds:∀ x tbl,C.W.lookup x=some tbl->∃ d kvs,X.mg x=some (.ref d)/\GDc X d kvs/\kvs.map (·.1)=tbl.map (·.1)/\∀ y m,RL.fj tbl (.str y)=some m->∃ q nm,(kvs.find? fun q=>decide (q.1=y))=some q/\C.F[m]?=some (nm,[])/\X.mg nm=some (.ref q.2)
section
variable{C:CC}{X:Cx}{cl:RL.Cl}{e:Expr}
def XOk.vis(h:XOk C X cl){x:Str}(v:rS C x=true):Vis X.env.scope x:=by
 unfold rS at v;rw[<-h.scope,Bool.or_eq_true,Bool.or_eq_true,beq_iff_eq,beq_iff_eq,beq_iff_eq]at v;rcases v with(v | v) | v
 ·exact .inl v
 ·exact .inr (.inl v)
 ·exact .inr (.inr v)
def XOk.loc(h:XOk C X cl){x:Str}(v:rV C x=true):Loc X.env.scope x:=by
 unfold rV at v;rw[<-h.scope,Bool.or_eq_true,beq_iff_eq,beq_iff_eq]at v;exact v
def bO{x:Str}(h:fv x=true):(x == ("__debug__" : Str))=false/\(x == ("__classdict__" : Str))=false:=by
 unfold fv at h;rw[Bool.and_eq_true,Bool.not_eq_true',Bool.not_eq_true']at h;exact h
def XOk.gl(h:XOk C X cl){x:Str}(v:glB C x=true):Gl X x/\fv x=true:=by
 unfold glB at v;rw[<-h.scope,Bool.and_eq_true,beq_iff_eq]at v;exact v
def XOk.bl(h:XOk C X cl){x:Str}(v:lA C x=true):Gl X x/\X.mg x=none:=by
 unfold lA at v;rw[Bool.and_eq_true]at v;exact⟨(h.gl v.1).1,h.blt x (by simpa using v.2)⟩
def XOk.nm(h:XOk C X cl){i:Nat}{x:Str}(v:nmB C i x=true):X.N[i]?=some x/\fv x=true:=by
 unfold nmB at v;rw[<-h.names,Bool.and_eq_true,beq_iff_eq]at v;exact v
def XOk.ndX(h:XOk C X cl):X.N.Nodup:=by rw[h.names];exact h.nd
def XOk.blk(h:XOk C X cl){scope:Scope}(cls:List (Str × Addr))(Ca:Addr)(fp:List Addr)(s:Shared)(H:Hp):XOk (C.inner scope) (L2.blk X scope cls Ca fp s H) cl where
 scope:=by
  show relabel scope X.env=wz scope C.sc;rw[<-h.scope];rfl
 names:=h.names
 nd:=h.nd
 calm:=h.calm
 xe:=rfl
 hu:=h.hu
 blt:=h.blt
 glb:=h.glb
 fns:=h.fns
 gds:=h.gds
abbrev gH:RL.D->Const->Bool
 | .int i,.int j=>i == j
 | .bl i,.bool j=>i == j
 | .non,.none=>true
 | .str x,.str y=>x == y
 | _,_=>false
abbrev plainT:Expr->Bool
 | .UnaryOp .Not _ _=>false
 | .BoolOp _ _ _=>false
 | .IfExp _ _ _ _=>false
 | .Compare _ _ _ _=>false
 | _=>true
abbrev lM:Expr->Bool
 | .BoolOp _ _ _=>true
 | _=>false
abbrev iP:Expr->Bool
 | .Set _ _ _=>false
 | _=>true
abbrev nj:RL.Bi->Option Str
 | .len=>some "len"
 | .list=>some "list"
 | .tuple=>some "tuple"
 | .int=>some "int"
 | .abs=>some "abs"
 | _=>none
abbrev lJ:RL.Ty->Str
 | .int => "int"
 | .bool => "bool"
 | .list => "list"
 | .tuple => "tuple"
 | .str => "str"
abbrev zb(neg:Bool):CmpOp:=if neg then .IsNot else .Is
abbrev zN(neg:Bool):CmpOp:=if neg then .NotIn else .In
abbrev gZ(C:CC)(i:Nat)(e:Expr):Bool:=(cU e).any fun x=>nmB C i x&&rS C x
abbrev d5(C:CC)(i:Nat)(e:Expr):Bool:=(cU e).any fun x=>nmB C i x&&rV C x
abbrev hU(C:CC):List Nat->List Expr->Bool
 | [],es=>es.isEmpty
 | i::is,es=>match es with
  | e::es=>d5 C i e&&hU C is es
  | []=>false
abbrev jf(C:CC)(tg:List Nat)(e:Expr):Bool :=
 match tg with
 | [i]=>d5 C i e
 | tg=>(eY e).any fun es=>hU C tg es
abbrev ja(C:CC)(scope:Scope)(tg:List Nat):Bool:=tg.all fun i=>match C.N[i]? with
 | some x=>scope.names.lookup x == some .local || scope.names.lookup x == some .cell
 | none=>false
abbrev iE(C:CC)(scope:Scope)(tg:List Nat):Bool:=(List.range C.N.length).all fun i=>match C.N[i]? with
 | some x=>!(scope.names.lookup x == some .local || scope.names.lookup x == some .cell) || tg.contains i
 | none=>true
abbrev scB(scope sc:Scope):Bool:=scope.kind == .function&&scope.names.all (fun x=>(!(x.2 == .cell) || scope.names.lookup x.1 == some .cell)&&(!(x.2 == .local) || scope.names.lookup x.1 == some .local)&&(!(x.2 == .free) || sc.names.lookup x.1 == some .cell || sc.names.lookup x.1 == some .free))
abbrev aT(C:CC)(e:Expr)(nm:Str)(f:List Expr->Bool):Bool:=(fU e).any fun q=>(cU q.1).any (fun x=>x == nm&&lA C x)&&q.2.2.1.isEmpty&&q.2.1.all noStar&&f q.2.1
def br{nm:Str}{f:List Expr->Bool}(h:XOk C X cl)(z:aT C e nm f=true):∃ p as pos,e=.Call (.Name nm p) as [] pos/\Gl X nm/\X.mg nm=none/\as.all noStar=true/\f as=true:=by
 unfold aT at z;obtain⟨⟨g,as,ks,pos⟩,z0,z⟩:=au z;have e0:=eL z0;subst e0;obtain⟨z,z4⟩:=ah z;obtain⟨z,z3⟩:=ah z;obtain⟨z1,z2⟩:=ah z;obtain⟨x,y0,z1⟩:=au z1;obtain⟨p,rfl⟩:=cb y0;obtain⟨y1,y2⟩:=ah z1;rw[beq_iff_eq]at y1;subst y1;obtain⟨b1,b2⟩:=h.bl y2;rw[List.isEmpty_iff]at z2;subst z2;exact⟨p,as,pos,rfl,b1,b2,z3,z4⟩
def all1{a:Expr}(h:[a].all noStar=true):noStar a=true:=by simpa using h
def all2{a b:Expr}(h:[a,b].all noStar=true):noStar a=true/\noStar b=true:=by simpa using h
def jo{a b c:Expr}(h:[a,b,c].all noStar=true):noStar a=true/\noStar b=true/\noStar c=true:=by simpa using h
end
mutual
noncomputable def chk(C:CC)(t:Bool):RL.E->Expr->Bool
 | .var i=>fun e=>gZ C i e
 | .cst d=>fun e=>(rW e).any fun k=>gH d k
 | .glb y i=>fun e=>(cU e).any fun x=>x == y&&glB C x&&C.G.lookup x == some i
 | .bin o a b=>fun e=>(rH e).any fun q=>q.2.1 == lN o&&chk C false a q.1&&chk C false b q.2.2
 | .neg a=>fun e=>(vUn e).any fun q=>q.1 == .USub&&chk C false a q.2
 | .cmp c a b=>fun e=>(jt e).any fun q=>of1 q.2.1 fun op=>of1 q.2.2 fun r=>op == cx c&&chk C false a q.1&&chk C false b r
 | .chain c c' a b d=>fun e=>(jt e).any fun q=>of2 q.2.1 fun op op'=>of2 q.2.2 fun r s=>op == cx c&&op' == cx c'&&chk C false a q.1&&chk C false b r&&chk C false d s
 | .isN neg a=>fun e=>(jt e).any fun q=>of1 q.2.1 fun op=>of1 q.2.2 fun r=>op == zb neg&&(rW r).any (fun k=>gH .non k)&&chk C false a q.1
 | .inn neg a b=>fun e=>(jt e).any fun q=>of1 q.2.1 fun op=>of1 q.2.2 fun r=>op == zN neg&&nW r&&chk C false a q.1&&chk C false b r
 | .and a b=>fun e=>(vBool e).any fun q=>ofM q.2.1 fun l r rest=>q.1 == .And&&chk C t a l&&(if rest.isEmpty then chk C t b r else chk C t b (.BoolOp .And (r::rest) q.2.2))
 | .or a b=>fun e=>(vBool e).any fun q=>ofM q.2.1 fun l r rest=>q.1 == .Or&&chk C t a l&&(if rest.isEmpty then chk C t b r else chk C t b (.BoolOp .Or (r::rest) q.2.2))
 | .not a=>fun e=>(vUn e).any fun q=>q.1 == .Not&&chk C t a q.2
 | .tup es=>fun e=>(eY e).any fun xs=>gF C es xs&&decide (cZ es<=1000)
 | .lst es=>fun e=>(qR e).any fun xs=>gF C es xs&&decide (cZ es<=1000)
 | .ix a b=>fun e=>(jD e).any fun q=>iB q.2&&chk C false a q.1&&chk C false b q.2
 | .slT a b=>fun e=>(jD e).any fun q=>chk C false a q.1&&(vSl q.2).any fun s=>s.1.isNone&&s.2.2.isNone&&s.2.1.any fun r=>chk C false b r
 | .slF a b=>fun e=>(jD e).any fun q=>chk C false a q.1&&(vSl q.2).any fun s=>s.2.1.isNone&&s.2.2.isNone&&s.1.any fun r=>chk C false b r
 | .call f es=>fun e=>(fU e).any fun q=>(cU q.1).any (fun x=>glB C x&&C.F[f]? == some (x,[]))&&q.2.2.1.isEmpty && !q.2.1.isEmpty&&gF C es q.2.1
 | .bi b a=>fun e=>match b with
  | .lenSet=>false
  | b=>(nj b).any fun x=>aT C e x fun ys=>of1 ys fun y=>chk C false a y
 | .max a b=>fun e=>aT C e "max" fun ys=>of2 ys fun y z=>chk C false a y&&chk C false b z
 | .min a b=>fun e=>aT C e "min" fun ys=>of2 ys fun y z=>chk C false a y&&chk C false b z
 | .isi a ty=>fun e=>aT C e "isinstance" fun ys=>of2 ys fun y z=>(cU z).any (fun x=>x == lJ ty&&lA C x)&&chk C false a y
 | .rng1 a=>fun e=>aT C e "list" fun ys=>of1 ys fun y=>aT C y "range" fun zs=>of1 zs fun z=>chk C false a z
 | .rng2 a b=>fun e=>aT C e "list" fun ys=>of1 ys fun y=>aT C y "range" fun zs=>of2 zs fun z u=>chk C false a z&&chk C false b u
 | .rng3 c a b=>fun e=>aT C e "list" fun ys=>of1 ys fun y=>aT C y "range" fun zs=>of3 zs fun z u q=>dU c q&&chk C false a z&&chk C false b u
 | .comp d tg it c=>fun e=>(n8 e).any fun q=>of1 q.2.1 fun g=>of1 g.ifs fun w=>g.is_async == 0&&scB q.2.2.1 C.sc&&iE C q.2.2.1 tg&&iP g.iter&&jf (C.inner q.2.2.1) tg g.target&&ja C q.2.2.1 tg&&nC C it g.target g.iter&&chk (C.inner q.2.2.1) false d q.1&&chk (C.inner q.2.2.1) true c w
 | .compA d tg it=>fun e=>(n8 e).any fun q=>of1 q.2.1 fun g=>g.ifs.isEmpty&&g.is_async == 0&&scB q.2.2.1 C.sc&&iE C q.2.2.1 tg&&iP g.iter&&jf (C.inner q.2.2.1) tg g.target&&ja C q.2.2.1 tg&&nC C it g.target g.iter&&chk (C.inner q.2.2.1) false d q.1
 | .frz a=>fun e=>((qR e).isSome || (rH e).isSome || (fU e).isSome)&&chk C false a e
 | .inG g ks a=>fun e=>(jt e).any fun q=>of1 q.2.1 fun op=>of1 q.2.2 fun r=>op == .In&&(cU r).any (fun x=>x == g&&glB C x&&(C.W.lookup x).any fun tbl=>tbl.map (·.1) == ks)&&chk C false a q.1
noncomputable def gF(C:CC):RL.Es->List Expr->Bool
 | .nil=>fun xs=>xs.isEmpty
 | .cons e es=>fun xs=>match xs with
  | x::xs=>noStar x&&chk C false e x&&gF C es xs
  | []=>false
noncomputable def nC(C:CC):RL.It->Expr->Expr->Bool
 | .seq a=>fun _ e=>chk C false a e
 | .rng1 a=>fun _ e=>aT C e "range" fun ys=>of1 ys fun y=>chk C false a y
 | .rng2 a b=>fun _ e=>aT C e "range" fun ys=>of2 ys fun y z=>chk C false a y&&chk C false b z
 | .rng3 c a b=>fun _ e=>aT C e "range" fun ys=>of3 ys fun y z q=>dU c q&&chk C false a y&&chk C false b z
 | .enm a=>fun tg e=>(eY tg).isSome&&aT C e "enumerate" fun ys=>of1 ys fun y=>chk C false a y
end
abbrev lO(X:Cx)(cl:RL.Cl)(e:Expr)(e':RL.E)(b b':Bool):Prop:=(b=true->SE X cl e e')/\(b'=true->ST X cl e e'/\(lM e=true->SW X cl e e'))
section
variable{C:CC}{X:Cx}{cl:RL.Cl}{e:Expr}{e':RL.E}{b:Bool}
def nr{env:Env}(h:plainT e=true)(whole:Sem Value):isTrue e env whole=(do let v <- whole;standAt e.pos;holding [v] (truthy v)):=by
 cases e<;>first
  | rfl
  | (cases h;done)
  | (rename_i op _ _;cases op<;>first | rfl | (cases h;done))
def aF(h:b=true->SE X cl e e'/\plainT e=true):lO X cl e e' b b :=
 ⟨fun z=>(h z).1,fun z=>⟨rh (h z).1 (nr (h z).2),fun q=>by
  have:=(h z).2
  cases e<;>first | (cases q;done) | (cases this;done)⟩⟩
def eF(h:b=true->SE X cl e e'/\ST X cl e e'/\lM e=false):lO X cl e e' b b :=
 ⟨fun z=>(h z).1,fun z=>⟨(h z).2.1,fun q=>by rw[(h z).2.2]at q;cases q⟩⟩
def y8(h:b=false){b':Bool}(h':b'=false):lO X cl e e' b b':=⟨fun z=>(by rw[h]at z;cases z),fun z=>(by rw[h']at z;cases z)⟩
def xi{d:RL.D}{k:Const}{j:Nat}{pos:Pos}(h:gH d k=true):SE X cl (.Constant k j pos) (.cst d):=by
 cases d<;>cases k<;>simp only[gH]at h<;>first | (cases h;done) | skip
 case non.none=>exact iS lz (fun P H=>by rw[Rep]) rfl
 case bl.bool i j=>rw[beq_iff_eq]at h;subst h;exact iS yD (fun P H=>pf) rfl
 case int.int i j=>rw[beq_iff_eq]at h;subst h;exact iS lC (fun P H=>aK) rfl
 case str.str i j=>rw[beq_iff_eq]at h;subst h;exact iS vR (fun P H=>f9) rfl
def uo{k:Const}(h:gH .non k=true):k=.none:=by
 cases k<;>simp only[gH]at h<;>first | (cases h;done) | rfl
def qg(t:RL.Ty):bootBuiltins (lJ t)=some (.type (tyN t))/\lJ t ≠ "__name__" /\ (lJ t == ("__debug__" : Str))=false:=by
 cases t<;>exact⟨by decide +kernel,by decide +kernel,by decide +kernel⟩
def dA(h:iP e=true)(env:Env)(x:Value):foldedSetIterable e env x=pure x:=by
 cases e<;>first | rfl | (cases h;done)
def yw(hcalm:X.calm=true){o:RL.Bi}{x:Str}{p pos:Pos}{y:Expr}{a':RL.E}(hx:nj o=some x)(hb:Gl X x)(hb2:X.mg x=none)(ha:SE X cl y a')(hn:noStar y=true):SE X cl (.Call (.Name x p) [y] [] pos) (.bi o a'):=by
 cases o<;>simp only[nj]at hx<;>first | (cases hx;done) | skip
 case len=>cases hx;exact vy hb hb2 ha hn
 case list=>cases hx;exact uV hb hb2 ha hn
 case tuple=>cases hx;exact qw hb hb2 ha hn
 case int=>cases hx;exact wo hb hb2 ha hn
 case abs=>cases hx;exact wC hb hb2 ha hn
def oK{r:Expr}(h:iB r=true):nZ r:=by
 cases r<;>first | (cases h;done) | (intro a b;rfl) | skip
def dn{i:Nat}(h:XOk C X cl)(z:gZ C i e=true):∃ x p,e=.Name x p/\X.N[i]?=some x/\Vis X.env.scope x/\(x == ("__debug__" : Str))=false/\(x == ("__classdict__" : Str))=false:=by
 obtain⟨x,z0,z⟩:=au z;obtain⟨p,rfl⟩:=cb z0;obtain⟨z1,z2⟩:=ah z;obtain⟨g1,g2⟩:=h.nm z1;exact⟨x,p,rfl,g1,h.vis z2,(bO g2).1,(bO g2).2⟩
def cL{i:Nat}(h:XOk C X cl)(z:d5 C i e=true):∃ x p,e=.Name x p/\X.N[i]?=some x/\Loc X.env.scope x:=by
 obtain⟨x,z0,z⟩:=au z;obtain⟨p,rfl⟩:=cb z0;obtain⟨z1,z2⟩:=ah z;exact⟨x,p,rfl,(h.nm z1).1,h.loc z2⟩
def jj(h:XOk C X cl){T:List Nat}(hf:∀ i x,i∈T->X.N[i]?=some x->X.fn x=true\/X.env.scope.names.lookup x=some .local):∀ {is:List Nat} {es:List Expr},(∀ i∈is,i∈T)->hU C is es=true->PGs X es (gs is)/\(assignEach es X.env).length=is.length/\(assignEach es X.env).findIdx? (·.1)=none
 | [],es,_,z=>by
  rw[hU,List.isEmpty_iff]at z;subst z;exact⟨uF,rfl,rfl⟩
 | i::is,[],_,z=>by cases z
 | i::is,e::es,hs,z=>by
  rw[hU]at z;obtain⟨z1,z2⟩:=ah z;obtain⟨x,p,rfl,g1,g2⟩:=cL h z1;obtain⟨h1,h2,h3⟩:=jj h hf (fun j hj=>hs j (List.mem_cons_of_mem _ hj)) z2;refine⟨rJ (gI h.ndX g1 g2 (hf i x (hs i List.mem_cons_self) g1)) h1 rfl,?_,?_⟩
  ·show(assignEach es X.env).length+1=is.length+1;rw[h2]
  ·show List.findIdx? (·.1) ((false,assign (.Name x p) X.env)::assignEach es X.env)=none;rw[List.findIdx?_cons];simp only[Bool.false_eq_true,if_false,h3,Option.map_none]
def qf{tg:List Nat}{tgE:Expr}(h:XOk C X cl)(hf:∀ i x,i∈tg->X.N[i]?=some x->X.fn x=true\/X.env.scope.names.lookup x=some .local)(hc:jf C tg tgE=true):PG X tgE (gT X.K tg):=by
 unfold jf at hc;split at hc
 ·obtain⟨x,p,rfl,g1,g2⟩:=cL h hc;exact gI h.ndX g1 g2 (hf _ x (by simp) g1)
 ·rename_i hne;obtain⟨es,z0,z⟩:=au hc;obtain⟨k,p,rfl⟩:=c7 z0;obtain⟨h1,h2,h3⟩:=jj h hf (fun i hi=>hi) z
  have e:gT X.K tg=fun v σ H Q=>ji X.K tg.length (gs tg) v σ H Q\/jn X.K tg.length (gs tg) v σ H Q:=by
   unfold gT;split
   ·rename_i i;exact absurd rfl (hne i)
   ·rfl
  rw[e];exact pF (oE h.calm h1 h2 h3) (oz h.calm h1 h2 h3)
def xn{x:Str}{i:Int}{pos:Pos}(h:XOk C X cl)(hg:glB C x=true)(hl:C.G.lookup x=some i):SE X cl (.Name x pos) (.glb x i):=by
 obtain⟨u,h1,h2⟩:=h.glb x i hl;obtain⟨g1,g2⟩:=h.gl hg;exact vf (u:=u) (uv g1 h1 h2 (bO g2).1)
def tF{x:Str}{f:Nat}{p pos:Pos}{y:Expr}{ys:List Expr}{es:RL.Es}(h:XOk C X cl)(hg:glB C x=true)(hf:C.F[f]?=some (x,[]))(he:SEs X cl (y::ys) es)(hl:cZ es=ys.length+1)(hn:noStar y=true)(hns:ys.all noStar=true) :
  SE X cl (.Call (.Name x p) (y::ys) [] pos) (.call f es):=by
 obtain⟨k,fa,fd,ps,F,hr,hm,hk,hb⟩:=h.fns f x [] hf;obtain⟨g1,g2⟩:=h.gl hg;rw[if_pos rfl]at F
 cases es with
 | nil=>simp[cZ]at hl
 | cons e' es'=>exact t5 F hr g1 hm hk hb he (bO g2).1 hn hns
def k7{scope sc:Scope}(h:scB scope sc=true):jC scope sc:=by
 unfold scB at h;obtain⟨h1,h2⟩:=ah h;rw[List.all_eq_true]at h2;refine⟨by simpa using h1,fun x hx z=>?_,fun x hx z=>?_,fun x hx z=>?_⟩
 ·have:=h2 x hx;rw[z]at this;simpa using this
 ·have:=h2 x hx;rw[z]at this;simpa using this
 ·have:=h2 x hx;rw[z]at this;simpa using this
def fF{scope:Scope}{tg:List Nat}(h:iE C scope tg=true)(i:Nat)(x:Str)(hx:C.N[i]?=some x)(hl:scope.names.lookup x=some .local\/scope.names.lookup x=some .cell):tg.contains i=true:=by
 unfold iE at h;rw[List.all_eq_true]at h;have:=h i (List.mem_range.mpr (List.getElem?_eq_some_iff.mp hx).1);rw[hx]at this;rcases hl with hl | hl
 ·simp only[hl,beq_self_eq_true,Bool.true_or,Bool.not_true,Bool.false_or]at this;exact this
 ·simp only[hl,beq_self_eq_true,Bool.or_true,Bool.not_true,Bool.false_or]at this;exact this
def jL{X:Cx}{cls:List (Str × Addr)}{scope:Scope}{Ca:Addr}{fp:List Addr}{s:Shared}{H:Hp}{pins:List (Addr × Obj)}{s':Shared}{σ:L2.St}{H':Hp}{Q:Bool->Hp->Prop}(I:Inv (L2.blk X scope cls Ca fp s H) pins σ H' s')(q:iV σ H' Q) :
  wpAny (model X.prog X.w) X.A (eI [] (compEnvC scope cls Ca X.env)) (TP (L2.blk X scope cls Ca fp s H) pins σ Q) (fun _ _=>False) s':=by
 unfold eI;exact wpAny_pure ⟨H',I,q⟩
def jG{X:Cx}{cls:List (Str × Addr)}{scope:Scope}{Ca:Addr}{fp:List Addr}{s:Shared}{H:Hp}{pins:List (Addr × Obj)}{s':Shared}{σ:L2.St}{H':Hp}{Q:Bool->Hp->Prop}{c:Expr}{t:TT}(hc:PT (L2.blk X scope cls Ca fp s H) c t)(I:Inv (L2.blk X scope cls Ca fp s H) pins σ H' s')(q:t σ H' Q) :
  wpAny (model X.prog X.w) X.A (eI [c] (compEnvC scope cls Ca X.env)) (TP (L2.blk X scope cls Ca fp s H) pins σ Q) (fun _ _=>False) s':=by
 have h:=hc pins s' σ H' Q I q;unfold eI;simp only[List.forIn_cons,List.forIn_nil,if_true];refine wpAny_bind (wpAny_bind (thn h fun b s1 hb=>wpAny_pure ?_));exact wpAny_pure hb
def iO(h:XOk C X cl){scope:Scope}{cls:List (Str × Addr)}{Ca:Addr}{fp:List Addr}{s:Shared}{H:Hp}{tg:List Nat}(ha:ja C scope tg=true){tgE:Expr}(hc:jf (C.inner scope) tg tgE=true):PG (L2.blk X scope cls Ca fp s H) tgE (gT X.K tg):=by
 have hb:=h.blk (scope:=scope) cls Ca fp s H;unfold ja at ha;rw[List.all_eq_true]at ha;refine qf hb (fun i x hi hx=>?_) hc;have:=ha i hi;have hx:X.N[i]?=some x:=hx;rw[h.names]at hx;rw[hx]at this;simp only[Bool.or_eq_true,beq_iff_eq]at this;rcases this with z | z
 ·exact .inr (lookup_relabel_local z)
 ·exact .inl (by show(scope.names.lookup x == some .cell)=true;rw[z];rfl)
def ib{α:Type}{o:Option α}(h:o.isNone=true):o=none:=by
 cases o with
 | none=>rfl
 | some _=>cases h
end
mutual
theorem ak{cl:RL.Cl}:∀ (e':RL.E) {C:CC} {X:Cx} (h:XOk C X cl) (e:Expr),lO X cl e e' (chk C false e' e) (chk C true e' e)
 | .var i,C,X,h,e=>aF (b:=chk C false (.var i) e) fun z=>by
  obtain⟨x,p,rfl,g1,g2,g3,g4⟩:=dn h z;exact⟨vO g1 g2 g3 g4,rfl⟩
 | .cst d,C,X,h,e=>aF (b:=chk C false (.cst d) e) fun z=>by
  obtain⟨k,z0,z⟩:=au z;obtain⟨j,p,rfl⟩:=ml z0;exact⟨xi z,rfl⟩
 | .glb y i,C,X,h,e=>aF (b:=chk C false (.glb y i) e) fun z=>by
  obtain⟨x,z0,z⟩:=au z;obtain⟨p,rfl⟩:=cb z0;obtain⟨z,z3⟩:=ah z;obtain⟨z1,z2⟩:=ah z;rw[beq_iff_eq]at z1 z3;subst z1;exact⟨xn h z2 z3,rfl⟩
 | .bin o a b,C,X,h,e=>aF (b:=chk C false (.bin o a b) e) fun z=>by
  obtain⟨⟨l,op,r⟩,z0,z⟩:=au z;obtain⟨p,rfl⟩:=uI z0;obtain⟨z,z3⟩:=ah z;obtain⟨z1,z2⟩:=ah z;rw[beq_iff_eq]at z1;have z1:op=lN o:=z1;subst z1;exact⟨xK ((ak a h l).1 z2) ((ak b h r).1 z3),rfl⟩
 | .neg a,C,X,h,e=>aF (b:=chk C false (.neg a) e) fun z=>by
  obtain⟨⟨op,x⟩,z0,z⟩:=au z;obtain⟨p,rfl⟩:=l9 z0;obtain⟨z1,z2⟩:=ah z;rw[beq_iff_eq]at z1;have z1:op=.USub:=z1;subst z1;exact⟨wN ((ak a h x).1 z2),rfl⟩
 | .cmp c a b,C,X,h,e=>eF (b:=chk C false (.cmp c a b) e) fun z=>by
  obtain⟨⟨l,os,rs⟩,z0,z⟩:=au z;obtain⟨p,rfl⟩:=fC z0;obtain⟨op,y1,z⟩:=aL z;obtain⟨r,y2,z⟩:=aL z;have y1:os=[op]:=y1;have y2:rs=[r]:=y2;subst y1 y2;obtain⟨z,z3⟩:=ah z;obtain⟨z1,z2⟩:=ah z;rw[beq_iff_eq]at z1;subst z1;exact⟨xf h.hu ((ak a h l).1 z2) ((ak b h r).1 z3),xS h.hu ((ak a h l).1 z2) ((ak b h r).1 z3),rfl⟩
 | .chain c c' a b d,C,X,h,e=>eF (b:=chk C false (.chain c c' a b d) e) fun z=>by
  obtain⟨⟨l,os,rs⟩,z0,z⟩:=au z;obtain⟨p,rfl⟩:=fC z0;obtain⟨op,op',y1,z⟩:=bV z;obtain⟨r,s,y2,z⟩:=bV z;have y1:os=[op,op']:=y1;have y2:rs=[r,s]:=y2;subst y1 y2;obtain⟨z,z5⟩:=ah z;obtain⟨z,z4⟩:=ah z;obtain⟨z,z3⟩:=ah z;obtain⟨z1,z2⟩:=ah z;rw[beq_iff_eq]at z1 z2;subst z1 z2;exact⟨rK h.hu ((ak a h l).1 z3) ((ak b h r).1 z4) ((ak d h s).1 z5),qK h.hu ((ak a h l).1 z3) ((ak b h r).1 z4) ((ak d h s).1 z5),rfl⟩
 | .isN neg a,C,X,h,e=>eF (b:=chk C false (.isN neg a) e) fun z=>by
  obtain⟨⟨l,os,rs⟩,z0,z⟩:=au z;obtain⟨p,rfl⟩:=fC z0;obtain⟨op,y1,z⟩:=aL z;obtain⟨r,y2,z⟩:=aL z;have y1:os=[op]:=y1;have y2:rs=[r]:=y2;subst y1 y2;obtain⟨z,z3⟩:=ah z;obtain⟨z1,z2⟩:=ah z;rw[beq_iff_eq]at z1;subst z1;obtain⟨k,w0,w⟩:=au z2;obtain⟨j,q,rfl⟩:=ml w0;have w:=uo w;subst w;exact⟨vv ((ak a h l).1 z3),vd ((ak a h l).1 z3),rfl⟩
 | .inn neg a b,C,X,h,e=>eF (b:=chk C false (.inn neg a b) e) fun z=>by
  obtain⟨⟨l,os,rs⟩,z0,z⟩:=au z;obtain⟨p,rfl⟩:=fC z0;obtain⟨op,y1,z⟩:=aL z;obtain⟨r,y2,z⟩:=aL z;have y1:os=[op]:=y1;have y2:rs=[r]:=y2;subst y1 y2;obtain⟨z,z4⟩:=ah z;obtain⟨z,z3⟩:=ah z;obtain⟨z1,z2⟩:=ah z;rw[beq_iff_eq]at z1;subst z1;exact⟨wy ((ak a h l).1 z3) ((ak b h r).1 z4) z2,xI ((ak a h l).1 z3) ((ak b h r).1 z4) z2,rfl⟩
 | .inG g ks a,C,X,h,e=>eF (b:=chk C false (.inG g ks a) e) fun z=>by
  obtain⟨⟨l,os,rs⟩,z0,z⟩:=au z;obtain⟨p,rfl⟩:=fC z0;obtain⟨op,y1,z⟩:=aL z;obtain⟨r,y2,z⟩:=aL z;have y1:os=[op]:=y1;have y2:rs=[r]:=y2;subst y1 y2;obtain⟨z,z3⟩:=ah z;obtain⟨z1,z2⟩:=ah z;rw[beq_iff_eq]at z1;obtain⟨x,w0,w⟩:=au z2;obtain⟨q,rfl⟩:=cb w0;obtain⟨w,w3⟩:=ah w;obtain⟨w1,w2⟩:=ah w;obtain⟨tbl,w4,w5⟩:=au w3;rw[beq_iff_eq]at w1 w5;subst z1 w1;obtain⟨d,kvs,d1,d2,d3,_⟩:=h.gds x tbl w4;obtain⟨g1,g2⟩:=h.gl w2;rw[<-w5];exact⟨xc ((ak a h l).1 z3) g1 d1 (bO g2).1 d2 d3,wj ((ak a h l).1 z3) g1 d1 (bO g2).1 d2 d3,rfl⟩
 | .and a b,C,X,h,e=>⟨(fun z=>by
   obtain⟨⟨op,es,p⟩,z0,z⟩:=au z;obtain⟨l,r,rest,y1,z⟩:=iF z;have e0:=fZ z0;have y1:es=l::r::rest:=y1;obtain⟨z,z3⟩:=ah z;obtain⟨z1,z2⟩:=ah z;rw[beq_iff_eq]at z1;have z1:op=.And:=z1;subst y1 z1 e0;refine vK ((ak a h l).1 z2) ?_;split at z3
   ·rename_i hr;rw[List.isEmpty_iff]at hr;subst hr;exact oU ((ak b h r).1 z3)
   ·exact(ak b h _).1 z3),(fun z=>by
   obtain⟨⟨op,es,p⟩,z0,z⟩:=au z;obtain⟨l,r,rest,y1,z⟩:=iF z;have e0:=fZ z0;have y1:es=l::r::rest:=y1;obtain⟨z,z3⟩:=ah z;obtain⟨z1,z2⟩:=ah z;rw[beq_iff_eq]at z1;have z1:op=.And:=z1;subst y1 z1 e0
   have w:SW X cl (.BoolOp .And (l::r::rest) p) (.and a b):=by
    refine vF ((ak a h l).2 z2).1 ?_;split at z3
    ·rename_i hr;rw[List.isEmpty_iff]at hr;subst hr;exact oG ((ak b h r).2 z3).1
    ·exact((ak b h _).2 z3).2 rfl
   exact⟨w.pt,fun _=>w⟩)⟩
 | .or a b,C,X,h,e=>⟨(fun z=>by
   obtain⟨⟨op,es,p⟩,z0,z⟩:=au z;obtain⟨l,r,rest,y1,z⟩:=iF z;have e0:=fZ z0;have y1:es=l::r::rest:=y1;obtain⟨z,z3⟩:=ah z;obtain⟨z1,z2⟩:=ah z;rw[beq_iff_eq]at z1;have z1:op=.Or:=z1;subst y1 z1 e0;refine yt ((ak a h l).1 z2) ?_;split at z3
   ·rename_i hr;rw[List.isEmpty_iff]at hr;subst hr;exact oU ((ak b h r).1 z3)
   ·exact(ak b h _).1 z3),(fun z=>by
   obtain⟨⟨op,es,p⟩,z0,z⟩:=au z;obtain⟨l,r,rest,y1,z⟩:=iF z;have e0:=fZ z0;have y1:es=l::r::rest:=y1;obtain⟨z,z3⟩:=ah z;obtain⟨z1,z2⟩:=ah z;rw[beq_iff_eq]at z1;have z1:op=.Or:=z1;subst y1 z1 e0
   have w:SW X cl (.BoolOp .Or (l::r::rest) p) (.or a b):=by
    refine yn ((ak a h l).2 z2).1 ?_;split at z3
    ·rename_i hr;rw[List.isEmpty_iff]at hr;subst hr;exact oG ((ak b h r).2 z3).1
    ·exact((ak b h _).2 z3).2 rfl
   exact⟨w.pt,fun _=>w⟩)⟩
 | .not a,C,X,h,e=>⟨(fun z=>by
   obtain⟨⟨op,x⟩,z0,z⟩:=au z;obtain⟨p,rfl⟩:=l9 z0;obtain⟨z1,z2⟩:=ah z;rw[beq_iff_eq]at z1;have z1:op=.Not:=z1;subst z1
   exact we ((ak a h x).1 z2)),(fun z=>by
   obtain⟨⟨op,x⟩,z0,z⟩:=au z;obtain⟨p,rfl⟩:=l9 z0;obtain⟨z1,z2⟩:=ah z;rw[beq_iff_eq]at z1;have z1:op=.Not:=z1;subst z1
   exact⟨wZ ((ak a h x).2 z2).1,fun q=>by cases q⟩)⟩
 | .tup es,C,X,h,e=>aF (b:=chk C false (.tup es) e) fun z=>by
  obtain⟨xs,z0,z⟩:=au z;obtain⟨k,p,rfl⟩:=c7 z0;obtain⟨z1,z2⟩:=ah z;exact⟨wt (ez es h _ z1).1 (by simpa using z2),rfl⟩
 | .lst es,C,X,h,e=>aF (b:=chk C false (.lst es) e) fun z=>by
  obtain⟨xs,z0,z⟩:=au z;obtain⟨p,rfl⟩:=tZ z0;obtain⟨z1,z2⟩:=ah z;exact⟨vD (ez es h _ z1).1 (by simpa using z2),rfl⟩
 | .ix a b,C,X,h,e=>aF (b:=chk C false (.ix a b) e) fun z=>by
  obtain⟨⟨l,r⟩,z0,z⟩:=au z;obtain⟨p,rfl⟩:=fB z0;obtain⟨z,z3⟩:=ah z;obtain⟨z1,z2⟩:=ah z;exact⟨yH ((ak a h l).1 z2) ((ak b h r).1 z3) z1,rfl⟩
 | .slT a b,C,X,h,e=>aF (b:=chk C false (.slT a b) e) fun z=>by
  obtain⟨⟨l,s⟩,z0,z⟩:=au z;obtain⟨p,rfl⟩:=fB z0;obtain⟨z1,z⟩:=ah z;obtain⟨⟨s1,s2,s3⟩,z0,z⟩:=au z;obtain⟨q,e0⟩:=pG z0;have e0:s=.Slice s1 s2 s3 q:=e0;obtain⟨z,z4⟩:=ah z;obtain⟨z2,z3⟩:=ah z;have w2:s1=none:=ib z2;have w3:s3=none:=ib z3;obtain⟨r,y0,z4⟩:=au z4;have y1:s2=some r:=y0;rw[w2,w3,y1]at e0;subst e0;exact⟨ye ((ak a h l).1 z1) ((ak b h r).1 z4),rfl⟩
 | .slF a b,C,X,h,e=>aF (b:=chk C false (.slF a b) e) fun z=>by
  obtain⟨⟨l,s⟩,z0,z⟩:=au z;obtain⟨p,rfl⟩:=fB z0;obtain⟨z1,z⟩:=ah z;obtain⟨⟨s1,s2,s3⟩,z0,z⟩:=au z;obtain⟨q,e0⟩:=pG z0;have e0:s=.Slice s1 s2 s3 q:=e0;obtain⟨z,z4⟩:=ah z;obtain⟨z2,z3⟩:=ah z;have w2:s2=none:=ib z2;have w3:s3=none:=ib z3;obtain⟨r,y0,z4⟩:=au z4;have y1:s1=some r:=y0;rw[w2,w3,y1]at e0;subst e0;exact⟨wI ((ak a h l).1 z1) ((ak b h r).1 z4),rfl⟩
 | .call f es,C,X,h,e=>aF (b:=chk C false (.call f es) e) fun z=>by
  obtain⟨⟨g,as,ks,p⟩,z0,z⟩:=au z;have z0:=eL z0;subst z0;obtain⟨z,z4⟩:=ah z;obtain⟨z,z3⟩:=ah z;obtain⟨z1,z2⟩:=ah z;obtain⟨x,y0,z1⟩:=au z1;obtain⟨q,e0⟩:=cb y0;have e0:g=.Name x q:=e0;obtain⟨y1,y2⟩:=ah z1;rw[beq_iff_eq]at y2
  have w2:ks=[]:=by rw[List.isEmpty_iff]at z2;exact z2
  subst e0 w2;obtain⟨q1,q2,q3⟩:=ez es h _ z4;dsimp only at z3 q1 q2 q3
  cases as with
  | nil=>cases z3
  |cons y ys=>
   rw[List.all_cons]at q3;exact⟨tF h y1 y2 q1 q2 (ah q3).1 (ah q3).2,rfl⟩
 | .bi o a,C,X,h,e=>by
  have gen:(∀ t,chk C t (.bi o a) e=((nj o).any fun x=>aT C e x fun ys=>of1 ys fun y=>chk C false a y))->lO X cl e (.bi o a) (chk C false (.bi o a) e) (chk C true (.bi o a) e):=fun heq=>by
   rw[heq,heq];refine aF fun z=>?_;obtain⟨x,y0,z⟩:=au z;obtain⟨p,as,pos,rfl,b1,b2,z3,z4⟩:=br h z;obtain⟨y,rfl,z4⟩:=aL z4;exact⟨yw h.calm y0 b1 b2 ((ak a h y).1 z4) (all1 z3),rfl⟩
  cases o
  case lenSet=>exact y8 rfl rfl
  all_goals exact gen fun t=>rfl
 | .max a b,C,X,h,e=>aF (b:=chk C false (.max a b) e) fun z=>by
  have z:(aT C e "max" fun ys=>of2 ys fun y z=>chk C false a y&&chk C false b z)=true:=z;obtain⟨p,as,pos,rfl,b1,b2,z3,z4⟩:=br h z;obtain⟨y,u,rfl,z4⟩:=bV z4;exact⟨xw h.calm b1 b2 ((ak a h y).1 (ah z4).1) ((ak b h u).1 (ah z4).2) (all2 z3).1 (all2 z3).2,rfl⟩
 | .min a b,C,X,h,e=>aF (b:=chk C false (.min a b) e) fun z=>by
  have z:(aT C e "min" fun ys=>of2 ys fun y z=>chk C false a y&&chk C false b z)=true:=z;obtain⟨p,as,pos,rfl,b1,b2,z3,z4⟩:=br h z;obtain⟨y,u,rfl,z4⟩:=bV z4;exact⟨wA h.calm b1 b2 ((ak a h y).1 (ah z4).1) ((ak b h u).1 (ah z4).2) (all2 z3).1 (all2 z3).2,rfl⟩
 | .isi a ty,C,X,h,e=>aF (b:=chk C false (.isi a ty) e) fun z=>by
  have z:(aT C e "isinstance" fun ys=>of2 ys fun y z=>(cU z).any (fun x=>x == lJ ty&&lA C x)&&chk C false a y)=true:=z;obtain⟨p,as,pos,rfl,b1,b2,z3,z4⟩:=br h z;obtain⟨y,u,rfl,z4⟩:=bV z4;obtain⟨z5,z6⟩:=ah z4;obtain⟨x,w0,w⟩:=au z5;obtain⟨q,rfl⟩:=cb w0;obtain⟨w1,w2⟩:=ah w;rw[beq_iff_eq]at w1;subst w1;obtain⟨t1,t2,t3⟩:=qg ty;exact⟨xq b1 b2 (h.bl w2).1 (h.bl w2).2 t1 t2 t3 ((ak a h y).1 z6) (all2 z3).1,rfl⟩
 | .rng1 a,C,X,h,e=>aF (b:=chk C false (.rng1 a) e) fun z=>by
  have z:(aT C e "list" fun ys=>of1 ys fun y=>aT C y "range" fun zs=>of1 zs fun z=>chk C false a z)=true:=z;obtain⟨p,as,pos,rfl,b1,b2,z3,z4⟩:=br h z;obtain⟨y,rfl,z5⟩:=aL z4;obtain⟨p',as',pos',rfl,b1',b2',z3',z6⟩:=br h z5;obtain⟨y,rfl,z7⟩:=aL z6;exact⟨uU h.calm b1 b2 b1' b2' ((ak a h y).1 z7) (all1 z3'),rfl⟩
 | .rng2 a b,C,X,h,e=>aF (b:=chk C false (.rng2 a b) e) fun z=>by
  have z:(aT C e "list" fun ys=>of1 ys fun y=>aT C y "range" fun zs=>of2 zs fun z u=>chk C false a z&&chk C false b u)=true:=z;obtain⟨p,as,pos,rfl,b1,b2,z3,z4⟩:=br h z;obtain⟨y,rfl,z5⟩:=aL z4;obtain⟨p',as',pos',rfl,b1',b2',z3',z6⟩:=br h z5;obtain⟨y,u,rfl,z7⟩:=bV z6;exact⟨uK h.calm b1 b2 b1' b2' ((ak a h y).1 (ah z7).1) ((ak b h u).1 (ah z7).2) (all2 z3').1 (all2 z3').2,rfl⟩
 | .rng3 c a b,C,X,h,e=>aF (b:=chk C false (.rng3 c a b) e) fun z=>by
  have z:(aT C e "list" fun ys=>of1 ys fun y=>aT C y "range" fun zs=>of3 zs fun z u q=>dU c q&&chk C false a z&&chk C false b u)=true:=z;obtain⟨p,as,pos,rfl,b1,b2,z3,z4⟩:=br h z;obtain⟨y,rfl,z5⟩:=aL z4;obtain⟨p',as',pos',rfl,b1',b2',z3',z6⟩:=br h z5;obtain⟨y,u,q,rfl,z7⟩:=pP z6;obtain⟨z7,z9⟩:=ah z7;obtain⟨z7,z8⟩:=ah z7;exact⟨uS h.calm b1 b2 b1' b2' ((ak a h y).1 z8) ((ak b h u).1 z9) (jo z3').1 (jo z3').2.1 z7,rfl⟩
 | .comp d tg it c,C,X,h,e=>aF (b:=chk C false (.comp d tg it c) e) fun z=>by
  obtain⟨⟨elt,gens,scope,p⟩,z0,z⟩:=au z;have z0:=lF z0;subst z0;obtain⟨⟨tgE,iter,ifs,asy⟩,y1,z⟩:=aL z;have y1:gens=[⟨tgE,iter,ifs,asy⟩]:=y1;obtain⟨w,y2,z⟩:=aL z;have y2:ifs=[w]:=y2;obtain⟨z,z8⟩:=ah z;obtain⟨z,z7⟩:=ah z;obtain⟨z,z6⟩:=ah z;obtain⟨z,z5⟩:=ah z;obtain⟨z,z4⟩:=ah z;obtain⟨z,z3⟩:=ah z;obtain⟨z,z2⟩:=ah z;obtain⟨z0,z1⟩:=ah z;rw[beq_iff_eq]at z0;have w0:asy=0:=z0;subst y1 w0;subst y2;refine⟨r8 (fun _ _ _ _=>h.calm) (by rw[h.scope];exact k7 z1) (fk it h _ _ z6) ?_ (dA z3 _),rfl⟩;exact⟨fun cls Ca fp s H=>iO h z5 z4,fun cls Ca fp s H pins s' σ H' Q I q=>jG ((ak c (h.blk cls Ca fp s H) _).2 z8).1 I q,fun cls Ca fp s H=>(ak d (h.blk cls Ca fp s H) _).1 z7,fun i x hx hl=>fF z2 i x (by rw[<-h.names];exact hx) hl⟩
 | .compA d tg it,C,X,h,e=>aF (b:=chk C false (.compA d tg it) e) fun z=>by
  obtain⟨⟨elt,gens,scope,p⟩,z0,z⟩:=au z;have z0:=lF z0;subst z0;obtain⟨⟨tgE,iter,ifs,asy⟩,y1,z⟩:=aL z;have y1:gens=[⟨tgE,iter,ifs,asy⟩]:=y1;obtain⟨z,z7⟩:=ah z;obtain⟨z,z6⟩:=ah z;obtain⟨z,z5⟩:=ah z;obtain⟨z,z4⟩:=ah z;obtain⟨z,z3⟩:=ah z;obtain⟨z,z2⟩:=ah z;obtain⟨z,z1⟩:=ah z;obtain⟨y2,z0⟩:=ah z;rw[beq_iff_eq]at z0;have w0:asy=0:=z0
  have w2:ifs=[]:=by rw[List.isEmpty_iff]at y2;exact y2
  subst y1 w0;subst w2;refine⟨qu h.calm (by rw[h.scope];exact k7 z1) (fk it h _ _ z6) ?_ (dA z3 _),rfl⟩;exact⟨fun cls Ca fp s H=>iO h z5 z4,fun cls Ca fp s H pins s' σ H' Q I q=>jL I q,fun cls Ca fp s H=>(ak d (h.blk cls Ca fp s H) _).1 z7,fun i x hx hl=>fF z2 i x (by rw[<-h.names];exact hx) hl⟩
 | .frz a,C,X,h,e=>aF (b:=chk C false (.frz a) e) fun z=>by
  obtain⟨z1,z2⟩:=ah z;exact⟨wU ((ak a h e).1 z2),by cases e<;>first | rfl | exact Bool.noConfusion z1⟩
theorem ez{cl:RL.Cl}:∀ (es':RL.Es) {C:CC} {X:Cx} (h:XOk C X cl) (es:List Expr),gF C es' es=true->SEs X cl es es'/\cZ es'=es.length/\es.all noStar=true
 | .nil,C,X,h,es,z=>by
  have z:es=[]:=List.isEmpty_iff.mp z;subst z;exact⟨bW,rfl,rfl⟩
 | .cons e' es',C,X,h,es,z=>by
  cases es with
  | nil=>cases z
  |cons e es=>
   obtain⟨z,z3⟩:=ah z;obtain⟨z1,z2⟩:=ah z;obtain⟨q1,q2,q3⟩:=ez es' h es z3;exact⟨bc ((ak e' h e).1 z2) q1 z1,by rw[cZ,q2,List.length_cons],by rw[List.all_cons,z1,q3];rfl⟩
theorem fk{cl:RL.Cl}:∀ (it:RL.It) {C:CC} {X:Cx} (h:XOk C X cl) (tg e:Expr),nC C it tg e=true->SI X cl tg e it
 | .seq a,C,X,h,tg,e,z=>tQ ((ak a h e).1 z)
 | .rng1 a,C,X,h,tg,e,z=>by
  have z:(aT C e "range" fun ys=>of1 ys fun y=>chk C false a y)=true:=z;obtain⟨p,as,pos,rfl,b1,b2,z3,z4⟩:=br h z;obtain⟨y,rfl,z4⟩:=aL z4;exact tO b1 b2 ((ak a h y).1 z4) (all1 z3)
 | .rng2 a b,C,X,h,tg,e,z=>by
  have z:(aT C e "range" fun ys=>of2 ys fun y z=>chk C false a y&&chk C false b z)=true:=z;obtain⟨p,as,pos,rfl,b1,b2,z3,z4⟩:=br h z;obtain⟨y,u,rfl,z4⟩:=bV z4;exact tY b1 b2 ((ak a h y).1 (ah z4).1) ((ak b h u).1 (ah z4).2) (all2 z3).1 (all2 z3).2
 | .rng3 c a b,C,X,h,tg,e,z=>by
  have z:(aT C e "range" fun ys=>of3 ys fun y z q=>dU c q&&chk C false a y&&chk C false b z)=true:=z;obtain⟨p,as,pos,rfl,b1,b2,z3,z4⟩:=br h z;obtain⟨y,u,q,rfl,z4⟩:=pP z4;obtain⟨z4,z6⟩:=ah z4;obtain⟨z4,z5⟩:=ah z4;exact uc b1 b2 ((ak a h y).1 z5) ((ak b h u).1 z6) (jo z3).1 (jo z3).2.1 z4
 | .enm a,C,X,h,tg,e,z=>by
  obtain⟨z0,zz⟩:=ah z;obtain⟨ts,z0⟩:=Option.isSome_iff_exists.mp z0;obtain⟨k,tp,rfl⟩:=c7 z0;obtain⟨p,as,pos,rfl,b1,b2,z3,z4⟩:=br h zz;obtain⟨y,rfl,z4⟩:=aL z4;exact ud b1 b2 ((ak a h y).1 z4) (all1 z3)
end
abbrev fD:Expr->Bool
 | .ListComp _ _ _ _=>false
 | .SetComp _ _ _ _=>false
 | .DictComp _ _ _ _ _=>false
 | _=>true
abbrev l7:Expr->Bool
 | .Tuple vs _ _=>vs.all (foldedForSure 8)
 | _=>true
abbrev qE(e:Expr):Bool:=match e with
 | .SetComp _ _ _ _=>false
 | .DictComp _ _ _ _ _=>false
 | _=>true
abbrev nN(C:CC)(x y:Str)(px py:Pos)(a b:Expr):Bool :=
 C.sc.kind == .function&&C.sc.names.lookup x == some .local&&C.sc.names.lookup y == some .local&&px.line == py.line && !(x == y)&&noStar a&&noStar b && !(foldedForSure 8 a&&foldedForSure 8 b) && !(constantsAlone 8 a&&constantsAlone 8 b)
abbrev m8(M:List Nat):RL.E->Bool
 | .var i=>M.contains i
 | _=>false
abbrev ng(C:CC):RL.Es->List Expr->Bool
 | .nil=>fun xs=>xs.isEmpty
 | .cons e es=>fun xs=>match xs with
  | x::xs=>noStar x&&chk C false e x&&ng C es xs
  | []=>false
abbrev gr:Expr->Option (Str × Pos)
 | .Name x p=>some (x,p)
 | _=>none
def eN{e:Expr}{x:Str}{p:Pos}(h:gr e=some (x,p)):e=.Name x p:=by
 cases e
 case Name=>cases h;rfl
 all_goals exact nos h
abbrev nK(C:CC)(i:Nat)(nm:Str)(e:Expr)(f:List Expr->Bool):Bool:=(fU e).any fun q=>(sC q.1).any (fun a=>gZ C i a.1&&a.2.1 == nm&&a.2.2.endLine == q.2.2.2.line)&&q.2.2.1.isEmpty&&f q.2.1
abbrev iK(C:CC)(M:List Nat)(f:Nat)(es:RL.Es)(ps ms:List Nat)(e:Expr):Bool:=(fU e).any fun q=>(cU q.1).any (fun x=>glB C x&&C.F[f]? == some (x,ps))&&q.2.2.1.isEmpty && !q.2.1.isEmpty && !ps.isEmpty&&ng C es q.2.1&&bF es ps ms&&ms.all (fun i=>M.contains i)&&decide ms.Nodup&&decide ps.Nodup
mutual
noncomputable def wc(C:CC)(M:List Nat):RL.S->Stmt->Bool
 | .asg i e'=>fun st=>(fJ st).any fun q=>of1 q.1 fun t=>d5 C i t && !M.contains i&&qE q.2&&chk C false e' q.2
 | .own i e'=>fun st=>(fJ st).any fun q=>of1 q.1 fun t=>d5 C i t&&M.contains i&&decide (M.count i<2)&&qE q.2&&chk C false e' q.2
 | .unp is e'=>fun st=>(fJ st).any fun q=>of1 q.1 fun t=>(eY t).any fun ts=>hU C is ts&&is.all (fun i=>!M.contains i)&&l7 q.2&&chk C false e' q.2
 | .par i j a' b'=>fun st=>(fJ st).any fun q=>of1 q.1 fun t=>(eY t).any fun ts=>of2 ts fun s u=>(gr s).any fun x=>(gr u).any fun y=>(eY q.2).any fun vs=>of2 vs fun a b=>nmB C i x.1&&nmB C j y.1 && !(i == j) && !M.contains i && !M.contains j&&nN C x.1 y.1 x.2 y.2 a b&&chk C false a' a&&chk C false b' b
 | .parL i j a' b'=>fun st=>(fJ st).any fun q=>of1 q.1 fun t=>(eY t).any fun ts=>of2 ts fun s u=>(gr s).any fun x=>(gr u).any fun y=>(eY q.2).any fun vs=>of2 vs fun a b=>nmB C i x.1&&nmB C j y.1 && !(i == j) && !M.contains i && !M.contains j&&nN C x.1 y.1 x.2 y.2 a b&&chk C false a' a&&chk C false b' b
 | .star i j e'=>fun st=>(fJ st).any fun q=>of1 q.1 fun t=>(eY t).any fun ts=>of2 ts fun s u=>(sv u).any fun y=>d5 C i s&&d5 C j y && !M.contains i && !M.contains j&&l7 q.2&&chk C false e' q.2
 | .app i e'=>fun st=>(nh st).any fun e=>nK C i "append" e fun as=>of1 as fun y=>M.contains i&&noStar y&&chk C false e' y
 | .put i k' e'=>fun st=>(fJ st).any fun q=>of1 q.1 fun t=>(jD t).any fun u=>gZ C i u.1&&M.contains i&&iB u.2&&fD q.2&&chk C false k' u.2&&chk C false e' q.2
 | .ife c' a' b'=>fun st=>(wIf st).any fun q=>chk C true c' q.1&&gW C M a' q.2.1&&gW C M b' q.2.2
 | .forr tg it b'=>fun st=>(vP st).any fun q=>q.2.2.2.isEmpty&&nC C it q.1 q.2.1&&jf C tg q.1&&iP q.2.1&&RL.rX M it&&tg.all (fun i=>!M.contains i)&&gW C M b' q.2.2.1
 | .mexc f es ps ms=>fun st=>(nh st).any fun e=>iK C M f es ps ms e
 | .maug i f es ps ms=>fun st=>(xa st).any fun q=>d5 C i q.1 && !M.contains i&&q.2.1 == .Add&&iK C M f es ps ms q.2.2
 | .ret e'=>fun st=>(se st).any fun o=>o.any fun e=>chk C false e' e
 | .exc e'=>fun st=>(nh st).any fun e=>fD e&&chk C false e' e
 | .never=>fun _=>true
 | .rais _ _=>fun _=>true
noncomputable def gW(C:CC)(M:List Nat):RL.Ss->List Stmt->Bool
 | .nil=>fun xs=>xs.isEmpty
 | .cons s r=>fun xs=>match xs with
  | x::xs=>wc C M s x&&gW C M r xs
  | []=>false
 | .act i g tbl a' es=>fun xs=>of2 xs fun s1 s2=>(fJ s1).any fun q=>of1 q.1 (fun t=>d5 C i t&&gZ C i t)&&(jD q.2).any (fun u=>(cU u.1).any (fun x=>x == g&&glB C x&&C.W.lookup x == some tbl)&&iB u.2&&chk C false a' u.2)&&(se s2).any fun o=>o.any fun e=>(fU e).any fun c=>gZ C i c.1&&c.2.2.1.isEmpty && !c.2.1.isEmpty&&gF C es c.2.1
 | .opn _ _ _=>fun _=>false
end
structure YOk(C:CC)(X:Cx)(cl:RL.Cl):Prop extends XOk C X cl where
 fn:∀ x,X.fn x=true
section
variable{C:CC}{X:Cx}{cl:RL.Cl}{M:List Nat}{st:Stmt}{e:Expr}{e' k':RL.E}{i:Nat}
def dt{t:Option Expr}{l:Nat}{env:Env}(h:fD e=true):swapsWith e t l env=pure false:=by
 cases e<;>first | rfl | (cases h;done)
def sM{t:Expr}{spos:Pos}(h:YOk C X cl)(hn:d5 C i t=true)(ha:qE e=true)(hc:chk C false e' e=true):SA X cl (.Assign [t] e spos) i e':=by
 obtain⟨y,py,rfl,hN,hl⟩:=cL h.toXOk hn
 have plain:swapsWith e (some (.Name y py)) spos.line X.env=pure false->SA X cl (.Assign [.Name y py] e spos) i e':=fun z =>
  qQ h.ndX hN hl ((ak e' h.toXOk e).1 hc) (.inl (h.fn y)) z trivial
 by_cases hcomp:fD e=true
 ·exact plain (dt hcomp)
 ·have:∃ elt gens scope p,e=.ListComp elt gens scope p:=by
   cases e<;>first | exact absurd rfl hcomp | exact Bool.noConfusion ha | exact⟨_,_,_,_,rfl⟩
  obtain⟨elt,gens,scope,p,rfl⟩:=this;have hsw:swapsWith (.ListComp elt gens scope p) (some (.Name y py)) spos.line X.env=pure (X.env.blockKind == .function&&X.env.kindOf y == some .local&&py.line == p.line && !(scope.names.any fun(n,k)=>n == y&&(k == .local || k == .cell))):=rfl;by_cases hb:(X.env.blockKind == .function&&X.env.kindOf y == some .local&&py.line == p.line && !(scope.names.any fun(n,k)=>n == y&&(k == .local || k == .cell)))=true
  ·have hy:X.env.scope.names.lookup y=some .local:=by
    obtain⟨q,_⟩:=ah (ah hb).1;have q2:=(ah q).2;rw[beq_iff_eq]at q2;exact q2
   rw[hb]at hsw;by_cases hk:∃ d tg it c,e'=.comp d tg it c
   ·obtain⟨d,tg,it,c,rfl⟩:=hk;obtain⟨⟨tgE,iter,ifs,asy⟩,y1,z⟩:=aL hc;have y1:gens=[⟨tgE,iter,ifs,asy⟩]:=y1;obtain⟨w,y2,z⟩:=aL z;have y2:ifs=[w]:=y2;obtain⟨z,z8⟩:=ah z;obtain⟨z,z7⟩:=ah z;obtain⟨z,z6⟩:=ah z;obtain⟨z,z5⟩:=ah z;obtain⟨z,z4⟩:=ah z;obtain⟨z,z3⟩:=ah z;obtain⟨z,z2⟩:=ah z;obtain⟨z0,z1⟩:=ah z;rw[beq_iff_eq]at z0;have w0:asy=0:=z0;subst y1 w0;subst y2;refine rQ h.calm h.ndX hN hy (by rw[h.scope];exact k7 z1) (fk it h.toXOk _ _ z6) ?_ (dA z3 _) hsw;exact⟨fun cls Ca fp s H=>iO h.toXOk z5 z4,fun cls Ca fp s H pins s' σ H' Q I q=>jG ((ak c (h.toXOk.blk cls Ca fp s H) _).2 z8).1 I q,fun cls Ca fp s H=>(ak d (h.toXOk.blk cls Ca fp s H) _).1 z7,fun i x hx hl=>fF z2 i x (by rw[<-h.names];exact hx) hl⟩
   ·by_cases hk2:∃ d tg it,e'=.compA d tg it
    ·obtain⟨d,tg,it,rfl⟩:=hk2;obtain⟨⟨tgE,iter,ifs,asy⟩,y1,z⟩:=aL hc;have y1:gens=[⟨tgE,iter,ifs,asy⟩]:=y1;obtain⟨z,z7⟩:=ah z;obtain⟨z,z6⟩:=ah z;obtain⟨z,z5⟩:=ah z;obtain⟨z,z4⟩:=ah z;obtain⟨z,z3⟩:=ah z;obtain⟨z,z2⟩:=ah z;obtain⟨z,z1⟩:=ah z;obtain⟨y2,z0⟩:=ah z;rw[beq_iff_eq]at z0;have w0:asy=0:=z0
     have w2:ifs=[]:=by rw[List.isEmpty_iff]at y2;exact y2
     subst y1 w0;subst w2;refine qr h.calm h.ndX hN hy (by rw[h.scope];exact k7 z1) (fk it h.toXOk _ _ z6) ?_ (dA z3 _) hsw;exact⟨fun cls Ca fp s H=>iO h.toXOk z5 z4,fun cls Ca fp s H pins s' σ H' Q I q=>jL I q,fun cls Ca fp s H=>(ak d (h.toXOk.blk cls Ca fp s H) _).1 z7,fun i x hx hl=>fF z2 i x (by rw[<-h.names];exact hx) hl⟩
    ·cases e'<;>first | exact Bool.noConfusion hc | exact absurd ⟨_,_,_,_,rfl⟩ hk | exact absurd ⟨_,_,_,rfl⟩ hk2 | (rename_i b a;cases b<;>exact Bool.noConfusion hc)
  ·have hb':=Bool.not_eq_true _▸hb;rw[hb']at hsw;exact plain hsw
def lq(h:XOk C X cl):∀ {es':RL.Es} {es:List Expr},ng C es' es=true->PA X es (eT X.K cl es')/\es.all noStar=true
 | .nil,es,z=>by
  have z:es=[]:=List.isEmpty_iff.mp z;subst z;exact⟨da,rfl⟩
 | .cons _ _,[],z=>by cases z
 | .cons e' es',e::es,z=>by
  obtain⟨z,z3⟩:=ah z;obtain⟨z1,z2⟩:=ah z;obtain⟨q1,q2⟩:=lq h z3;refine⟨?_,by rw[List.all_cons,z1,q2];rfl⟩;rw[eT];refine bK ?_ q1 (a7 es z1);by_cases hv:∃ j,e'=.var j
  ·obtain⟨j,rfl⟩:=hv;obtain⟨x,p,rfl,g1,g2,g3,g4⟩:=dn h z2;exact fw g1 g2 g3 g4
  ·have ht:lV X.K cl e'=tE X.K cl e':=by
    cases e'<;>first | rfl | exact absurd ⟨_,rfl⟩ hv
   rw[ht];exact(ak _ h e).1 z2
def m5{is:List Nat}(h:is.all (fun i=>!M.contains i)=true):∀ i∈is,M.contains i=false:=fun i hi=>by
 rw[List.all_eq_true]at h;simpa using h i hi
def wV{is:List Nat}(h:is.all (fun i=>M.contains i)=true):∀ i∈is,M.contains i=true:=fun i hi=>by
 rw[List.all_eq_true]at h;exact h i hi
def dF{b:Bool}(h:(!b)=true):b=false:=by simpa using h
def kK{f:Nat}{ps ms:List Nat}{es:RL.Es}(h:XOk C X cl)(z:iK C M f es ps ms e=true):PE X e (hE (spM X.K cl ps f) [] E0 (eT X.K cl es))/\bF es ps ms=true/\(∀ i∈ms,M.contains i=true)/\ms.Nodup/\ps.Nodup/\fD e=true:=by
 unfold iK at z;obtain⟨⟨g,as,ks,pos⟩,z0,z⟩:=au z;have e0:=eL z0;obtain⟨z,z9⟩:=ah z;obtain⟨z,z8⟩:=ah z;obtain⟨z,z7⟩:=ah z;obtain⟨z,z6⟩:=ah z;obtain⟨z,z5⟩:=ah z;obtain⟨z,z4⟩:=ah z;obtain⟨z,z3⟩:=ah z;obtain⟨z1,z2⟩:=ah z;obtain⟨x,y0,z1⟩:=au z1;obtain⟨p,e1⟩:=cb y0;have e1:g=.Name x p:=e1;obtain⟨y1,y2⟩:=ah z1;rw[beq_iff_eq]at y2
 have w2:ks=[]:=by rw[List.isEmpty_iff]at z2;exact z2
 rw[e1,w2]at e0;subst e0;refine⟨?_,z6,wV z7,by simpa using z8,by simpa using z9,rfl⟩;obtain⟨k,fa,fd,pn,F,hr,hm,hk,hb⟩:=h.fns f x ps y2;rw[if_neg (fun z=>by subst z;cases z4)]at F;obtain⟨q1,q2⟩:=lq h z5;obtain⟨g1,g2⟩:=h.gl y1
 cases as with
 | nil=>cases z3
 |cons y ys=>
  rw[List.all_cons]at q2;exact mI F hr g1 hm hk hb .nil oh q1 (bO g2).1 (a7 ys (ah q2).1) (cg (ah q2).2)
def t8{nm:Str}{f:List Expr->Bool}(h:XOk C X cl)(z:nK C i nm e f=true):∃ x p apos as pos,e=.Call (.Attribute (.Name x p) nm apos) as [] pos/\X.N[i]?=some x/\Vis X.env.scope x/\(x == ("__debug__" : Str))=false/\(x == ("__classdict__" : Str))=false/\(apos.endLine == pos.line)=true/\f as=true:=by
 unfold nK at z;obtain⟨⟨g,as,ks,pos⟩,z0,z⟩:=au z;have e0:=eL z0;obtain⟨z,z3⟩:=ah z;obtain⟨z1,z2⟩:=ah z;obtain⟨⟨o,a,apos⟩,y0,z1⟩:=au z1;have e1:=qJ y0;have e1:g=.Attribute o a apos:=e1;obtain⟨z1,y3⟩:=ah z1;obtain⟨y1,y2⟩:=ah z1;rw[beq_iff_eq]at y2;have y2:a=nm:=y2
 have w2:ks=[]:=by rw[List.isEmpty_iff]at z2;exact z2
 obtain⟨x,p,e2,g1,g2,g3,g4⟩:=dn h y1;have e2:o=.Name x p:=e2;rw[e1,w2,y2,e2]at e0;exact⟨x,p,apos,as,pos,e0,g1,g2,g3,g4,y3,z3⟩
def uh(h1:PS X st (j4 (tE X.K cl e') (rd (i3 i) (tE X.K cl k') nc)))(h2:PS X st (nU (i3 i) (tE X.K cl k') (tE X.K cl e')))(hi:M.contains i=true):SS X cl M st (.put i k' e'):=by
 have a1:=xu h1 hi trivial;have a2:=u0 h2 hi;intro pins s σ H D I h;obtain⟨σD,o,σD',rv,e,k⟩:=h;obtain⟨d,e1,e⟩:=bind_some e;obtain⟨kk,e2,e⟩:=bind_some e;obtain⟨l,e3,e⟩:=bind_some e
 cases l with
 | lst ds=>exact a1 pins s σ H D I ⟨σD,o,σD',rv,by dsimp only;rw[e1];dsimp only[Option.bind_some];rw[e2];dsimp only[Option.bind_some];rw[e3];exact e,k⟩
 | _=>exact a2 pins s σ H D I ⟨σD,o,σD',rv,by dsimp only;rw[e1];dsimp only[Option.bind_some];rw[e2];dsimp only[Option.bind_some];rw[e3];exact e,k⟩
def og{o k:Expr}{pos:Pos}{env:Env}(h:iB k=true)(v:Value):assign (.Subscript o k pos) env v=(do
   let ov <- holding [v] (eval o env)
   let iv <- holding [v,ov] (eval k env)
   standAt pos
   holding [v,ov,iv] (setItem ov iv v)
   release [v,ov,iv] []):=by
 cases k<;>first | rfl | (cases h;done)
def jU{us:List Expr}{kk:Nat}{tp:Pos}{env:Env}(h:l7 e=true):swappedStores [.Tuple us kk tp] e env=pure none:=by
 cases e with
 |Tuple vs k p=>
  have h:vs.all (foldedForSure 8)=true:=h;unfold swappedStores;dsimp only;split
  ·rfl
  ·split
   ·rfl
   ·split
    ·rfl
    ·first | rfl | (rw[if_pos h];rfl)
 | _=>rfl
def oY{x y:Str}{px py pt pt2:Pos}{kt k2:Nat}{a b:Expr}(h:XOk C X cl)(hp:nN C x y px py a b=true):swappedStores [.Tuple [.Name x px,.Name y py] kt pt] (.Tuple [a,b] k2 pt2) X.env=pure (some [x,y]) /\
  X.env.scope.names.lookup x=some .local/\X.env.scope.names.lookup y=some .local/\noStar a=true/\noStar b=true:=by
 unfold nN at hp;obtain⟨hp,h9⟩:=ah hp;obtain⟨hp,h8⟩:=ah hp;obtain⟨hp,h7⟩:=ah hp;obtain⟨hp,h6⟩:=ah hp;obtain⟨hp,h5⟩:=ah hp;obtain⟨hp,h4⟩:=ah hp;obtain⟨hp,h3⟩:=ah hp;obtain⟨h1,h2⟩:=ah hp;rw[beq_iff_eq]at h1 h2 h3 h4;rw[<-h.scope]at h1 h2 h3;refine⟨?_,h2,h3,h6,h7⟩
 have bk:X.env.blockKind=.function:=by
  unfold Env.blockKind;rw[h1];rfl
 have k1:X.env.kindOf x=some .local:=h2;have k2:X.env.kindOf y=some .local:=h3
 have hxy:x≠y:=by simpa using h5
 have fs':foldedForSure 8 a=true->foldedForSure 8 b=false:=fun z=>by simpa[z]using h8
 have ca':constantsAlone 8 a=true->constantsAlone 8 b=false:=fun z=>by simpa[z]using h9
 have ed:[x,y].eraseDups=[x,y]:=by
  rw[List.eraseDups_cons];simp[Ne.symm hxy];rfl
 unfold swappedStores;simp only[bk];simp[show ∀ (x:Str) (p:Pos),(Expr.Name x p).pos=p from fun _ _=>rfl,k1,k2,h4,ed];refine(if_neg ?_).trans ((if_neg ?_).trans (if_neg ?_))
 ·intro hh;rcases hh with hh | hh
  ·cases a<;>first | exact Bool.noConfusion (show false=true from hh) | exact Bool.noConfusion (show false=true from h6)
  ·cases b<;>first | exact Bool.noConfusion (show false=true from hh) | exact Bool.noConfusion (show false=true from h7)
 ·intro hh;have:=fs' hh.1;rw[hh.2]at this;cases this
 ·intro hh;have:=ca' hh.1;rw[hh.2]at this;cases this
end
section
variable{X:Cx}{cl:RL.Cl}
mutual
theorem tK:∀ (s:RL.S) {C:CC} {M:List Nat} (h:YOk C X cl) (st:Stmt),wc C M s st=true->SS X cl M st s
 | .asg i e',C,M,h,st,z=>by
  obtain⟨⟨ts,e⟩,z0,z⟩:=au z;obtain⟨p,rfl⟩:=cO z0;obtain⟨t,y1,z⟩:=aL z;have y1:ts=[t]:=y1;obtain⟨z,z4⟩:=ah z;obtain⟨z,z3⟩:=ah z;obtain⟨z1,z2⟩:=ah z;subst y1;exact wH (sM h z1 z3 z4) (dF z2)
 | .own i e',C,M,h,st,z=>by
  obtain⟨⟨ts,e⟩,z0,z⟩:=au z;obtain⟨p,rfl⟩:=cO z0;obtain⟨t,y1,z⟩:=aL z;have y1:ts=[t]:=y1;obtain⟨z,z5⟩:=ah z;obtain⟨z,z4⟩:=ah z;obtain⟨z,z3⟩:=ah z;obtain⟨z1,z2⟩:=ah z;subst y1;exact wM (sM h z1 z4 z5) z2 (by simpa using z3)
 | .unp is e',C,M,h,st,z=>by
  obtain⟨⟨ts,e⟩,z0,z⟩:=au z;obtain⟨p,rfl⟩:=cO z0;obtain⟨t,y1,z⟩:=aL z;have y1:ts=[t]:=y1;obtain⟨us,y2,z⟩:=au z;obtain⟨k,tp,rfl⟩:=c7 y2;obtain⟨z,z4⟩:=ah z;obtain⟨z,z3⟩:=ah z;obtain⟨z1,z2⟩:=ah z;subst y1;obtain⟨g1,g2,g3⟩:=jj h.toXOk (T:=is) (fun i x _ _=>.inl (h.fn x)) (fun _ h=>h) z1;refine tU (lU ((ak e' h.toXOk e).1 z4) (pF (oE h.calm g1 g2 g3) (oz h.calm g1 g2 g3)) ?_ (jU z3) rfl) (m5 z2);cases e<;>rfl
 | .par i j a' b',C,M,h,st,z=>by
  obtain⟨⟨ts,e⟩,z0,z⟩:=au z;obtain⟨p,rfl⟩:=cO z0;obtain⟨t,y1,z⟩:=aL z;have y1:ts=[t]:=y1;obtain⟨us,y2,z⟩:=au z;obtain⟨k,tp,e2⟩:=c7 y2;obtain⟨s1,s2,y3,z⟩:=bV z;obtain⟨⟨x,px⟩,y4,z⟩:=au z;obtain⟨⟨y,py⟩,y5,z⟩:=au z;obtain⟨vs,y6,z⟩:=au z;obtain⟨k',tp',e6⟩:=c7 y6;have e6:e=.Tuple vs k' tp':=e6;obtain⟨a,b,y7,w⟩:=bV z;rw[eN y4,eN y5]at y3;rw[y3]at e2
  have e7:e=.Tuple [a,b] k' tp':=by rw[<-y7];exact e6
  rw[e2]at y1;subst y1 e7;obtain⟨w,z8⟩:=ah w;obtain⟨w,z7⟩:=ah w;obtain⟨w,z6⟩:=ah w;obtain⟨w,z5⟩:=ah w;obtain⟨w,z4⟩:=ah w;obtain⟨w,z3⟩:=ah w;obtain⟨z1,z2⟩:=ah w;obtain⟨g1,g2,g3,g4,g5⟩:=oY h.toXOk z6;exact xD (oN h.calm h.ndX (h.nm z1).1 (h.nm z2).1 (by simpa using z3) g2 g3 (bc (cl:=cl) ((ak a' h.toXOk a).1 z7) (bc ((ak b' h.toXOk b).1 z8) bW g5) g4) g1 rfl) (dF z4) (dF z5)
 | .parL i j a' b',C,M,h,st,z=>by
  obtain⟨⟨ts,e⟩,z0,z⟩:=au z;obtain⟨p,rfl⟩:=cO z0;obtain⟨t,y1,z⟩:=aL z;have y1:ts=[t]:=y1;obtain⟨us,y2,z⟩:=au z;obtain⟨k,tp,e2⟩:=c7 y2;obtain⟨s1,s2,y3,z⟩:=bV z;obtain⟨⟨x,px⟩,y4,z⟩:=au z;obtain⟨⟨y,py⟩,y5,z⟩:=au z;obtain⟨vs,y6,z⟩:=au z;obtain⟨k',tp',e6⟩:=c7 y6;have e6:e=.Tuple vs k' tp':=e6;obtain⟨a,b,y7,w⟩:=bV z;rw[eN y4,eN y5]at y3;rw[y3]at e2
  have e7:e=.Tuple [a,b] k' tp':=by rw[<-y7];exact e6
  rw[e2]at y1;subst y1 e7;obtain⟨w,z8⟩:=ah w;obtain⟨w,z7⟩:=ah w;obtain⟨w,z6⟩:=ah w;obtain⟨w,z5⟩:=ah w;obtain⟨w,z4⟩:=ah w;obtain⟨w,z3⟩:=ah w;obtain⟨z1,z2⟩:=ah w;obtain⟨g1,g2,g3,g4,g5⟩:=oY h.toXOk z6;exact uC (oN h.calm h.ndX (h.nm z1).1 (h.nm z2).1 (by simpa using z3) g2 g3 (bK ((ak a' h.toXOk a).1 z7) (bK ((ak b' h.toXOk b).1 z8) da (a7 [] g5)) (a7 [b] g4)) g1 rfl) (dF z4) (dF z5)
 | .star i j e',C,M,h,st,z=>by
  obtain⟨⟨ts,e⟩,z0,z⟩:=au z;obtain⟨p,rfl⟩:=cO z0;obtain⟨t,y1,z⟩:=aL z;have y1:ts=[t]:=y1;obtain⟨us,y2,z⟩:=au z;obtain⟨k,tp,e2⟩:=c7 y2;obtain⟨s,u,y3,z⟩:=bV z;obtain⟨y,y4,z⟩:=au z;obtain⟨sp,e4⟩:=rn y4;obtain⟨z,z6⟩:=ah z;obtain⟨z,z5⟩:=ah z;obtain⟨z,z4⟩:=ah z;obtain⟨z,z3⟩:=ah z;obtain⟨z1,z2⟩:=ah z;obtain⟨x1,p1,e5,n1,l1⟩:=cL h.toXOk z1;obtain⟨x2,p2,e6,n2,l2⟩:=cL h.toXOk z2;rw[e4,e5,e6]at y3;rw[y3]at e2;rw[e2]at y1;subst y1;refine tX (lU ((ak e' h.toXOk e).1 z6) (tH h.calm (gI h.ndX n1 l1 (.inl (h.fn x1))) (gI h.ndX n2 l2 (.inl (h.fn x2)))) ?_ (jU z5) rfl) (dF z3) (dF z4);cases e<;>rfl
 | .app i e',C,M,h,st,z=>by
  obtain⟨e,z0,z8⟩:=au z;obtain⟨p0,rfl⟩:=ju z0;obtain⟨x,p,apos,as,pos,rfl,g1,g2,g3,g4,z6,z7⟩:=t8 h.toXOk z8;obtain⟨y,rfl,z9⟩:=aL z7;obtain⟨z9,z7⟩:=ah z9;obtain⟨z4,z5⟩:=ah z9;refine x6 (j1 (yT PySem.F.plainAttrs_list PySem.F.slot_list_append PySem.F.type_list_append jQ (fw g1 g2 g3 g4) (bc (cl:=cl) ((ak e' h.toXOk y).1 z7) bW z5) rfl ?_ z6 (a7 [] z5) rfl) rfl) z4;rw[a7 [] z5];rfl
 | .put i k' e',C,M,h,st,z=>by
  obtain⟨⟨ts,e⟩,z0,z⟩:=au z;obtain⟨p,rfl⟩:=cO z0;obtain⟨t,y1,z⟩:=aL z;have y1:ts=[t]:=y1;obtain⟨⟨o,k⟩,y2,z⟩:=au z;obtain⟨sp,e2⟩:=fB y2;obtain⟨z,z7⟩:=ah z;obtain⟨z,z6⟩:=ah z;obtain⟨z,z5⟩:=ah z;obtain⟨z,z4⟩:=ah z;obtain⟨z1,z3⟩:=ah z;obtain⟨x,px,e3,g1,g2,g3,g4⟩:=dn h.toXOk z1;have e3:o=.Name x px:=e3;rw[e3]at e2;rw[e2]at y1;subst y1;have pv:=fun pos=>fw (X:=X) (pos:=pos) g1 g2 g3 g4;refine uh (lU ((ak e' h.toXOk e).1 z7) (xO (pv _) ((ak k' h.toXOk k).1 z6) set_list (og z4)) ?_ ?_ rfl) (uj (Nat.lt_of_le_of_lt (by lia) h.hu) (pv _) ((ak k' h.toXOk k).1 z6) ((ak e' h.toXOk e).1 z7) (dt z5)) z3
  ·unfold swapsWithSole;exact dt z5
  ·rfl
 | .ife c' a' b',C,M,h,st,z=>by
  obtain⟨⟨c,a,b⟩,z0,z⟩:=au z;obtain⟨p,rfl⟩:=wB z0;obtain⟨z,z3⟩:=ah z;obtain⟨z1,z2⟩:=ah z;exact yE ((ak c' h.toXOk c).2 z1).1 (eJ a' h a z2) (eJ b' h b z3)
 | .forr tg it b',C,M,h,st,z=>by
  obtain⟨⟨t,it',b,o⟩,z0,z⟩:=au z;obtain⟨p,rfl⟩:=u9 z0;obtain⟨z,z7⟩:=ah z;obtain⟨z,z6⟩:=ah z;obtain⟨z,z5⟩:=ah z;obtain⟨z,z4⟩:=ah z;obtain⟨z,z3⟩:=ah z;obtain⟨z1,z2⟩:=ah z;have z1:o=[]:=List.isEmpty_iff.mp z1;subst z1;exact xY h.xe h.calm (fk it h.toXOk t it' z2) (qf h.toXOk (fun i x _ _=>.inl (h.fn x)) z3) (eJ b' h b z7) (dA z4 _) z5 (m5 z6)
 | .mexc f es ps ms,C,M,h,st,z=>by
  obtain⟨e,z0,z⟩:=au z;obtain⟨p0,rfl⟩:=ju z0;obtain⟨g1,g2,g3,g4,g5,g6⟩:=kK h.toXOk z;exact t9 (j1 g1 (dt g6)) g2 g3 g4 g5
 | .maug i f es ps ms,C,M,h,st,z=>by
  obtain⟨⟨t,op,e⟩,z0,z⟩:=au z;obtain⟨p,rfl⟩:=tV z0;obtain⟨z,z4⟩:=ah z;obtain⟨z,z3⟩:=ah z;obtain⟨z1,z2⟩:=ah z;obtain⟨x,px,e1,l1,l2⟩:=cL h.toXOk z1;have e1:t=.Name x px:=e1;rw[beq_iff_eq]at z3;have z3:op=.Add:=z3;subst e1 z3;obtain⟨g1,g2,g3,g4,g5,g6⟩:=kK h.toXOk z4;exact ue (xy h.ndX l1 l2 g1 vh (.inl (h.fn _))) (dF z2) g2 g3 g4 g5
 | .ret e',C,M,h,st,z=>by
  obtain⟨o,z0,z⟩:=au z;obtain⟨p,rfl⟩:=mF z0;obtain⟨e,rfl,zz⟩:=au z;by_cases hv:m8 M e'=true
  ·have:∃ i,e'=.var i:=by
    cases e'<;>first | exact⟨_,rfl⟩ | exact Bool.noConfusion hv
   obtain⟨i,rfl⟩:=this;obtain⟨x,q,rfl,g1,g2,g3,g4⟩:=dn h.toXOk zz;exact uM g1 g2 g3 g4 hv
  ·exact xm ((ak e' h.toXOk e).1 zz) fun i hi=>by
    subst hi;simpa[m8]using hv
 | .exc e',C,M,h,st,z=>by
  obtain⟨e,z0,z⟩:=au z;obtain⟨p0,rfl⟩:=ju z0;obtain⟨z1,z2⟩:=ah z;exact wd (j1 ((ak e' h.toXOk e).1 z2) (dt z1))
 | .never,C,M,h,st,z=>qU
 | .rais _ _,C,M,h,st,z=>fun pins s σ H D I ⟨σD,r,σD',_,e,_⟩=>by
  rw[RL.evS]at e;cases e
theorem eJ:∀ (s:RL.Ss) {C:CC} {M:List Nat} (h:YOk C X cl) (st:List Stmt),gW C M s st=true->SSs X cl M st s
 | .nil,C,M,h,st,z=>by
  have z:st=[]:=List.isEmpty_iff.mp z;subst z;exact uy
 | .cons s r,C,M,h,st,z=>by
  cases st with
  | nil=>cases z
  |cons x xs=>
   obtain⟨z1,z2⟩:=ah z;exact rC (tK s h x z1) (eJ r h xs z2)
 | .act i g tbl a' es,C,M,h,st,z=>by
  obtain⟨s1,s2,rfl,z⟩:=bV z;obtain⟨⟨ts,v⟩,z0,z⟩:=au z;obtain⟨p,rfl⟩:=cO z0;obtain⟨z,z3⟩:=ah z;obtain⟨z1,z2⟩:=ah z;obtain⟨t,y1,z1⟩:=aL z1;have y1:ts=[t]:=y1;subst y1;obtain⟨z1,z1'⟩:=ah z1;obtain⟨n,np,rfl,n1,l1⟩:=cL h.toXOk z1;obtain⟨n',np',e1,m1,m2,m3,m4⟩:=dn h.toXOk z1';cases e1;obtain⟨⟨o,k⟩,y2,z2⟩:=au z2;obtain⟨sp,e2⟩:=fB y2;have e2:v=.Subscript o k sp:=e2;subst e2;obtain⟨z2,w3⟩:=ah z2;obtain⟨w1,w2⟩:=ah z2;obtain⟨x,y3,w1⟩:=au w1;obtain⟨gp,rfl⟩:=cb y3;obtain⟨w1,w6⟩:=ah w1;obtain⟨w4,w5⟩:=ah w1;rw[beq_iff_eq]at w4 w6;subst w4;obtain⟨ro,y4,b1⟩:=au z3;obtain⟨rp,rfl⟩:=mF y4;obtain⟨ce,rfl,b2⟩:=au b1;obtain⟨⟨f,as,ks,cpos⟩,y5,b3⟩:=au b2;have e5:=eL y5;subst e5;obtain⟨b3,u4⟩:=ah b3;obtain⟨b3,u3⟩:=ah b3;obtain⟨u1,u2⟩:=ah b3;obtain⟨n2,cp,e6,k1,k2,k3,k4⟩:=dn h.toXOk u1;have e6:f=.Name n2 cp:=e6;subst e6
  have en:n2=n:=by
   have q:=k1;rw[n1]at q;exact(Option.some.inj q).symm
  subst en
  have e7:ks=[]:=by rw[List.isEmpty_iff]at u2;exact u2
  subst e7
  cases as with
  | nil=>cases u3
  |cons e0 es0=>
   obtain⟨q1,_,q3⟩:=ez es h.toXOk (e0::es0) u4;rw[List.all_cons]at q3;obtain⟨q2,q3⟩:=ah q3;obtain⟨d,kvs,d1,d2,d3,d4⟩:=h.gds x tbl w6;obtain⟨g1,g2⟩:=h.gl w5;refine ux h.ndX n1 l1 k2 k3 k4 (.inl (h.fn _)) ((ak a' h.toXOk k).1 w3) (oK w2) g1 d1 (bO g2).1 d2 (fun y m e=>?_) q1 q2 q3 (dt rfl);obtain⟨q,nm,f1,f2,f3⟩:=d4 y m e;obtain⟨kk,fa,fd,ps,F,hr,hm,hk,hb⟩:=h.fns m nm [] f2;rw[if_pos rfl]at F;rw[f3]at hm;cases hm;exact⟨q,kk,fd,ps,f1,F,hr,hk,hb⟩
 | .opn _ _ _,C,M,h,st,z=>by cases z
end
end
structure fc where
 name:Str
 st:Stmt
 ps:List Str
 N:List Str
structure PT' where
 B:List Str
 G:List (Str × Int)
 Ds:List fc
 T:List RL.Fn
 W:List (Str × List (Str × Nat)):=[]
abbrev PT'.F(p:PT'):List (Str × List Nat):=(p.Ds.zip p.T).map fun q=>(q.1.name,q.2.mp)
abbrev PT'.cc(p:PT')(d:fc):CC:=⟨d.N,bH d.st,p.B,p.G,p.F,p.W⟩
abbrev l0(N ps:List Str)(sc:Scope):Bool :=
 sc.kind == .function && !sc.isCoroutine && !sc.isGenerator&&decide N.Nodup&&N.take ps.length == ps&&ps.all (fun x=>sc.names.lookup x == some .local || sc.names.lookup x == some .cell)&&sc.names.all (fun y=>!(y.2 == .free))
abbrev fnB(p:PT')(d:fc)(fn:RL.Fn):Bool :=
 l0 d.N d.ps (bH d.st)&&fn.ps == d.ps.length&&fn.nn == d.N.length&&decide (d.ps.length<=d.N.length)&&(List.range fn.ps).all (fun i=>!fn.M.contains i || fn.mp.contains i)&&fn.mp.all (fun i=>decide (i<fn.ps)&&decide (2<=fn.M.count i))&&gW (p.cc d) fn.M fn.body (cP d.st)
abbrev PT'.ok(p:PT'):Bool:=p.Ds.length == p.T.length&&(p.Ds.zip p.T).all fun q=>fnB p q.1 q.2
def qB{N ps:List Str}{sc:Scope}(h:l0 N ps sc=true):gP N ps sc:=by
 unfold l0 at h;obtain⟨h,h7⟩:=ah h;obtain⟨h,h6⟩:=ah h;obtain⟨h,h5⟩:=ah h;obtain⟨h,h4⟩:=ah h;obtain⟨h,h3⟩:=ah h;obtain⟨h1,h2⟩:=ah h;refine⟨by simpa using h1,by simpa using h2,by simpa using h3,by simpa using h4,by simpa using h5,fun x hx=>?_,fun y hy=>?_⟩
 ·rw[List.all_eq_true]at h6;have:=h6 x hx;rw[Bool.or_eq_true,beq_iff_eq,beq_iff_eq]at this;exact this
 ·rw[List.all_eq_true]at h7;have:=h7 y hy;intro z;rw[z]at this;simp at this
structure sx(p:PT')(w:World)(K:PySem.W.Frag)(mg:Str->Option Value):Prop where
 defs:∀ (f:Nat) (d:fc),p.Ds[f]?=some d->∃ fa fd,mg d.name=some (.ref fa)/\Fun K d.name d.name d.st fa fd/\PySem.W.keepIn K (.ref fa)=true/\Binds K fd d.ps []
 blt:∀ x∈p.B,mg x=none
 glb:∀ x i,p.G.lookup x=some i->∃ u,mg x=some u/\RelV (.int i) u
 gds:∀ x tbl,p.W.lookup x=some tbl->∃ (d:Addr) (kvs:List (Str × Addr)),mg x=some (.ref d)/\((d == sysModules)=false/\∀ (P:Program) (h:Heap),K.In h->h.DictOf (aM P w) d (kvs.map fun q=>((Sum.inr q.1:Key),Value.ref q.2)))/\kvs.map (·.1)=tbl.map (·.1)/\∀ y m,RL.fj tbl (.str y)=some m->∃ q nm,(kvs.find? fun q=>decide (q.1=y))=some q/\p.F[m]?=some (nm,[])/\mg nm=some (.ref q.2)
section
variable{p:PT'}{K:PySem.W.Frag}{mg:Str->Option Value}{base:Heap}{P:Program}{w:World}
abbrev lW(K:PySem.W.Frag)(cl:RL.Cl)(mp:List Nat)(f:Nat):Sp:=if mp=[]then spF K cl f else spM K cl mp f
def aR{α:Type}(vs:List α)(k:Nat)(i:Nat)(v:α):(vs.map some++List.replicate k none)[i]?=some (some v)↔vs[i]?=some v:=by
 by_cases h:i<vs.length
 ·rw[List.getElem?_append_left (by simpa using h)];simp[h]
 ·rw[List.getElem?_append_right (by simpa using h)];constructor
  ·intro e;rw[List.getElem?_replicate]at e;split at e<;>cases e
  ·intro e;have:=(List.getElem?_eq_some_iff.mp e).1;lia
def uN{ds:List RL.D}{vs:List V}{H:Hp}{M:List Nat}{k n:Nat}(r:ae nP K H ds vs)(hM:∀ i,i<n->M.contains i=false)(hn:ds.length=n):RVm K M (ds.map some++List.replicate k none) (vs.map some++List.replicate k none) H:=by
 have nA:∀ a,¬ aW M (vs.map some++List.replicate k none) a:=fun a ⟨i,hi,e⟩=>by
  rw[aR]at e;have:=(List.getElem?_eq_some_iff.mp e).1;rw[hM i (by rw[<-hn,r.length];exact this)]at hi;cases hi
 refine⟨by simp[r.length],fun i d e=>?_,fun i v e=>?_,fun i j a hi hj e1 e2=>(nA a ⟨i,hi,e1⟩).elim⟩
 ·rw[aR]at e;obtain⟨v,h1,h2⟩:=r.get e;have hl:=(List.getElem?_eq_some_iff.mp e).1;refine⟨v,(aR _ _ _ _).mpr h1,?_⟩;rw[if_neg (by rw[hM i (by lia)];decide)];exact h2.weak fun a ha=>nA a ha
 ·rw[aR]at e;have hl:=(List.getElem?_eq_some_iff.mp e).1;exact⟨ds[i]'(by rw[r.length];exact hl),(aR _ _ _ _).mpr (by simp)⟩
def uf{ds:List RL.D}{vs:List V}{H:Hp}{M mp:List Nat}{k n:Nat}(a:xR K mp ds vs H)(hM:∀ i,i<n->M.contains i=true->i∈mp)(hp:∀ i∈mp,M.contains i=true)(hn:ds.length=n):RVm K M (ds.map some++List.replicate k none) (vs.map some++List.replicate k none) H:=by
 have r:=a.jh
 have inM:∀ i v,(vs.map some++List.replicate k none)[i]?=some (some v)->M.contains i=true->i∈mp/\vs[i]?=some v:=fun i v e hi=>by
  rw[aR]at e;have:=(List.getElem?_eq_some_iff.mp e).1;exact⟨hM i (by rw[<-hn,r.length];exact this) hi,e⟩
 refine⟨by simp[r.length],fun i d e=>?_,fun i v e=>?_,fun i j b hi hj e1 e2=>?_⟩
 ·rw[aR]at e;obtain⟨v,h1,h2⟩:=r.get e;have hl:=(List.getElem?_eq_some_iff.mp e).1;refine⟨v,(aR _ _ _ _).mpr h1,?_⟩;by_cases hm:M.contains i=true
  ·rw[if_pos hm];obtain⟨d',b,g1,g2,g3⟩:=a.own i (hM i (by lia) hm);rw[e]at g1;cases g1;rw[h1]at g2;cases g2;exact g3
  ·rw[if_neg hm];refine(a.oth i d v (fun z=>hm (hp i z)) e h1).weak fun b ⟨j,hj,ej⟩=>?_;obtain⟨q1,q2⟩:=inM j _ ej hj;exact⟨j,q1,q2⟩
 ·rw[aR]at e;have hl:=(List.getElem?_eq_some_iff.mp e).1;exact⟨ds[i]'(by rw[r.length];exact hl),(aR _ _ _ _).mpr (by simp)⟩
 ·obtain⟨q1,q2⟩:=inM i _ e1 hi;obtain⟨q3,q4⟩:=inM j _ e2 hj;exact a.sep i q1 j q3 b q2 q4
def lK{σ:RL.St}:∀ {mp:List Nat} {outs:List RL.D},RL.dh σ mp=some outs->outs.length=mp.length/\∀ (k i:Nat) o,mp[k]?=some i->outs[k]?=some o->σ[i]?=some (some o)
 | [],outs,h=>by
  rw[RL.dh]at h;cases h;exact⟨rfl,fun k i o e=>by simp at e⟩
 | m::mp,outs,h=>by
  rw[RL.dh]at h;obtain⟨d,h1,h⟩:=bind_some h;obtain⟨os,h2,h3⟩:=map_some h;subst h3;obtain⟨g1,g2⟩:=lK h2;refine⟨by simp[g1],fun k i o e1 e2=>?_⟩
  cases k with
  |zero=>
   simp at e1 e2;subst e1 e2;exact slot_get h1
  | succ k=>exact g2 k i o (by simpa using e1) (by simpa using e2)
def pR{fn:RL.Fn}{d r:RL.D}{σ:RL.St}(h:RL.bp fn d σ=some r)(hm:fn.mp=[]):r=d:=by
 unfold RL.bp at h;rw[hm]at h;simpa using h.symm
def vE{fn:RL.Fn}{d r:RL.D}{σ:RL.St}(h:RL.bp fn d σ=some r)(hm:fn.mp≠[]):d.imm=true/\∃ outs,RL.dh σ fn.mp=some outs/\r=.tup (d::outs):=by
 unfold RL.bp at h;rw[if_neg (by simpa using hm)]at h;split at h
 ·rename_i im;obtain⟨os,h1,h2⟩:=map_some h;exact⟨im,os,h1,h2.symm⟩
 ·cases h
def pB(hok:p.ok=true)(tp:sx p w K mg):∀ (n f:Nat) (d:fc) (fn:RL.Fn),p.Ds[f]?=some d->p.T[f]?=some fn->∀ fa fd,Fun K d.name d.name d.st fa fd->dJ P w K mg base CX0 n fa fd d.ps (lW K (RL.a5 p.T n) fn.mp f)
 | 0,f,d,fn,hd,hf,fa,fd,F=>by
  have no:∀ vs H Q E,¬ lW K (RL.a5 p.T 0) fn.mp f vs H Q E:=fun vs H Q E h=>by
   unfold lW at h;split at h
   ·obtain⟨ds,r,_,e,_⟩:=h;cases e
   ·obtain⟨ds,r,o,e,_⟩:=h;cases e
  exact⟨fun vs H Q E h=>(no vs H Q E h).elim,fun A outer s H args us vs Q E _ _ _ _ h=>(no vs H Q E h).elim⟩
 | n+1,f,d,fn,hd,hf,fa,fd,F=>by
  have hok':=hok;unfold PT'.ok at hok';obtain⟨hl,hall⟩:=ah hok';rw[beq_iff_eq]at hl;rw[List.all_eq_true]at hall
  have hz:(p.Ds.zip p.T)[f]?=some (d,fn):=by
   rw[List.getElem?_zip_eq_some];exact⟨hd,hf⟩
  have hB:=hall (d,fn) (List.mem_of_getElem? hz);unfold fnB at hB;dsimp only at hB;obtain⟨hB,b7⟩:=ah hB;obtain⟨hB,b6⟩:=ah hB;obtain⟨hB,b5⟩:=ah hB;obtain⟨hB,b4⟩:=ah hB;obtain⟨hB,b3⟩:=ah hB;obtain⟨b1,b2⟩:=ah hB;rw[beq_iff_eq]at b2 b3;rw[decide_eq_true_eq]at b4;rw[List.all_eq_true]at b5 b6;have S:=qB b1
  have hM:∀ i,i<fn.ps->fn.M.contains i=true->i∈fn.mp:=fun i hi hm=>by
   have:=b5 i (List.mem_range.mpr hi);rw[hm]at this;simpa using this
  have hp2:∀ i∈fn.mp,i<fn.ps/\2<=fn.M.count i:=fun i hi=>by simpa using b6 i hi
  have unf:∀ ds r,RL.a5 p.T (n+1) f ds=some r->ds.length=fn.ps/\∃ o σ',RL.aw (RL.a5 p.T n) fn.M fn.body (ds.map some++List.replicate (fn.nn-fn.ps) none)=some (o,σ')/\(match o with | .nx=>RL.bp fn .non σ' | .rt d=>RL.bp fn d σ')=some r:=by
   intro ds r h;rw[RL.a5,hf]at h;dsimp only[Option.bind_some]at h;split at h
   ·rename_i hlen;obtain⟨⟨o,σ'⟩,h1,h2⟩:=bind_some h;exact⟨hlen,o,σ',h1,h2⟩
   ·cases h
  refine Fun.ok F S (fun vs H Q E h=>?_) fun cdv A outer s H vs Q E hr h=>?_
  ·unfold lW at h;split at h
   ·obtain⟨ds,r,r1,e,_⟩:=h;rw[<-r1.length,(unf ds r e).1,b2]
   ·obtain⟨ds,r,o,e,a,_⟩:=h;rw[<-a.jh.length,(unf ds _ e).1,b2]
  ·-- the body's context
   have Y:YOk (p.cc d) (ip CX0 P w K mg base d.N d.name (bH d.st) fa cdv A outer s H E).nox (RL.a5 p.T n):={
    scope:=rfl
    names:=rfl
    nd:=S.nd
    calm:=rfl
    xe:=rfl
    hu:=by
     have:=hr.un;show(A.deeper _).units+100<cLine;lia
    blt:=tp.blt
    glb:=tp.glb
    gds:=fun x tbl hx=>let ⟨d,kvs,a,b,c⟩:=tp.gds x tbl hx;⟨d,kvs,a,⟨b.1,fun h q=>b.2 _ h q⟩,c⟩
    fns:=fun g x mp hg=>by
     have hg':p.F[g]?=some (x,mp):=hg;unfold PT'.F at hg';rw[List.getElem?_map]at hg';obtain⟨⟨d',fn'⟩,q1,q2⟩:=map_some hg';cases q2;rw[List.getElem?_zip_eq_some]at q1;obtain⟨fa',fd',t1,t2,t3,t4⟩:=tp.defs g d' q1.1;exact⟨n,fa',fd',d'.ps,pB hok tp n g d' fn' q1.1 q1.2 fa' fd' t2,hr,t1,t3,t4⟩
    fn:=fun _=>rfl }
   have body:=eJ fn.body Y (M:=fn.M) _ b7;refine⟨_,body,?_⟩;have hst:start d.N vs=vs.map some++List.replicate (d.N.length-vs.length) none:=rfl;unfold lW at h;split at h
   ·rename_i hmp;obtain⟨ds,r,r1,e,k⟩:=h;obtain⟨hlen,o,σ',e1,e2⟩:=unf ds r e
    have hvl:vs.length=fn.ps:=by rw[<-r1.length];exact hlen
    refine⟨_,o,σ',?_,e1,?_⟩
    ·rw[hst,hvl,<-b3]
     exact uN r1 (fun i hi=>by
      cases hc:fn.M.contains i with
      | false=>rfl
      |true=>
       have:=hM i hi hc;rw[hmp]at this
       cases this) hlen
    ·have noA:∀ a,¬ aW fn.M (start d.N vs) a:=fun a ⟨i,hi,ei⟩=>by
      rw[hst,aR]at ei;have h3:=(List.getElem?_eq_some_iff.mp ei).1;have:=hM i (by lia) hi;rw[hmp]at this;cases this
     cases o with
     |nx=>
      have hr':=pR (d:=.non) e2 hmp;subst hr';intro σ1 H1 rv1 fr1;refine k .non H1 (fun b u eb=>(fr1.1 b u eb (noA b)).1) (by rw[Rep])
     |rt d0=>
      have hr':=pR (d:=d0) e2 hmp;subst hr';intro σ1 H1 v H' rv1 fr1 sm rp;refine k v H' (fun b u eb=>sm _ _ (fr1.1 b u eb (noA b)).1) (rp _ fun q hq=>?_);obtain⟨u,hu⟩:=Option.ne_none_iff_exists'.mp hq;have:=fr1.1 q u hu (noA q);exact⟨(by rw[this.1];exact fun z=>nomatch z),this.2⟩
   ·rename_i hmp;obtain⟨ds,r,outs,e,a,k⟩:=h;obtain⟨hlen,o,σ',e1,e2⟩:=unf ds _ e
    have hvl:vs.length=fn.ps:=by rw[<-a.jh.length];exact hlen
    refine⟨_,o,σ',?_,e1,?_⟩
    ·rw[hst,hvl,<-b3];exact uf a hM (fun i hi=>gY (hp2 i hi).2) hlen
    ·-- the lists behind it
     have fin:∀ (d0:RL.D) (σ1:L2.St) (H1 H':Hp) (v:V),RL.bp fn d0 σ'=some (.tup (r::outs))->RVm K fn.M σ' σ1 H1->Fr' fn.M (start d.N vs) H σ1 H1->ay H1 H'->(d0.imm=true->Rep nP K H' d0 v)->Q v H':=by
      intro d0 σ1 H1 H' v ht rv1 fr1 sm rp;obtain⟨im,os,g1,g2⟩:=vE ht hmp;cases g2;obtain⟨l1,l2⟩:=lK g1;refine k v H' (fun b u nb eb=>sm _ _ (fr1.1 b u eb fun⟨i,hi,ei⟩=>?_).1) (rp im) im ⟨l1,fun kk pp oo hk ho=>?_⟩
      ·rw[hst,aR]at ei;have h3:=(List.getElem?_eq_some_iff.mp ei).1;exact nb ⟨i,hM i (by lia) hi,ei⟩
      ·have hpm:=List.mem_of_getElem? hk;obtain⟨dp,ap,g3,g4,g5⟩:=a.own pp hpm;have g6:=fr1.2 pp (hp2 pp hpm).2
       have g7:(start d.N vs)[pp]?=some (some (.ref ap)):=by rw[hst,aR];exact g4
       rw[g7]at g6;obtain⟨v',g8,g9⟩:=rv1.val pp oo (l2 kk pp oo hk ho);rw[g6]at g8;cases g8;rw[if_pos (gY (hp2 pp hpm).2)]at g9;exact⟨ap,g4,g9.same sm⟩
     cases o with
     |nx=>
      intro σ1 H1 rv1 fr1
      exact fin .non σ1 H1 H1 .non e2 rv1 fr1 (ay.refl _) fun _=>by rw[Rep]
     |rt d0=>
      intro σ1 H1 v H' rv1 fr1 sm rp;exact fin d0 σ1 H1 H' v e2 rv1 fr1 sm fun im=>rp nP fun _ z=>z.elim
end
abbrev spL(n:Nat)(p:PT')(f:Nat)(K:PySem.W.Frag):Sp:=spF K (RL.a5 p.T n) f
def xT{n:Nat}{p:PT'}{f:Nat}{K:PySem.W.Frag}{H:Hp}{a:Addr}{ns:List Int}(hO:lB H)(hS:SqL K H a (ns.map V.int))(h:RL.a5 p.T n f [.scr (ns.map RL.D.int)]=some (.bl true)):spL n p f K [.ref a] H (fun v _=>v=.bl true) fun _ _ _=>False:=by
 refine⟨_,_,?_,h,fun v H' _ r=>aN r⟩;refine ae.cons ?_ ae.nil;rw[Rep];refine⟨a,ns.map V.int,rfl,?_,?_⟩
 ·rcases hS with(z | ⟨o,z⟩) | z
  ·rcases hO a with q | ⟨o,xs,q⟩
   ·rw[q]at z;cases z
   ·rw[q]at z;cases z
  ·exact .inl ⟨o,z⟩
  ·exact .inr (.inr z)
 ·clear hS h
  induction ns with
  | nil=>exact ae.nil
  | cons i r ih=>exact ae.cons aK ih
end RS
namespace K32
open PySem PySem.Spec PyProof.Rows L2
abbrev top(i:Nat):Stmt:=PySem.Challenge.pw_ribbonloft_k32_whole_trades_keep_what_is.main.body.getD i (.Pass ⟨0,0,0,0⟩)
abbrev mkD(x:Str)(i n:Nat)(N:List Str):RS.fc:=⟨x,top i,N.take n,N⟩
abbrev Ds:List RS.fc:=[
 mkD "is_number" 7 1 ["value"],
 mkD "is_peg_count" 8 1 ["value"],
 mkD "check_pegs" 9 1 ["pegs"],
 mkD "tie" 11 3 ["row", "one", "other"],
 mkD "pegs_of" 13 1 ["frame"],
 mkD "plain" 14 1 ["pegs"],
 mkD "made" 16 2 ["pegs", "row", "frame", "rings", "number"],
 mkD "hang_hook" 17 2 ["frame", "number", "left", "right"],
 mkD "is_hook" 18 2 ["pegs", "number"],
 mkD "check_row" 19 2 ["pegs", "row", "number"],
 mkD "traded" 21 4 ["pegs", "rings", "row", "trade"],
 mkD "walked" 22 4 ["pegs", "rings", "row", "trades", "pair", "at", "trade"],
 mkD "swapped" 23 3 ["rings", "row", "at"],
 mkD "dropped" 24 3 ["rings", "row", "at"],
 mkD "doubled" 25 3 ["rings", "row", "at"],
 mkD "shortened" 26 3 ["rings", "row", "at"],
 mkD "grown" 27 5 ["pegs", "rings", "row", "at", "number"],
 mkD "pair_behind" 29 3 ["pegs", "pair", "trade", "rings", "row", "word", "action", "numbers"],
 mkD "has_places" 30 3 ["row", "at", "many"],
 mkD "_law_mix" 32 1 ["_law_seed", "_law_one", "_law_two"],
 mkD "_law_raw" 33 2 ["_law_script", "_law_k", "_law_cell", "_law_found", "_law_turn"],
 mkD "_law_digits" 34 3 ["_law_script", "_law_k", "_law_sizes", "_law_rest", "_law_found", "_law_size"],
 mkD "_law_hooks" 35 4 ["_law_script", "_law_k", "_law_pegs", "_law_size", "_law_found", "_law_start", "_law_steps", "_law_step", "_law_number"],
 mkD "_law_after" 36 3 ["_law_pegs", "_law_pair", "_law_trade", "_law_rings", "_law_line", "_law_word", "_law_at", "_law_here", "_law_rest"],
 mkD "_law_some_trade" 37 4 ["_law_script", "_law_k", "_law_pegs", "_law_pair", "_law_at", "_law_good", "_law_place", "_law_way", "_law_number", "_law_far", "_law_odd", "_law_trade", "_law_word", "_law_step"],
 mkD "law" 38 1 ["_law_script", "_law_pegs", "_law_pair", "_law_step", "_law_rings", "_law_size", "_law_steps", "_law_frame", "_law_fallen", "_law_trade", "_law_there", "_law_more"]]
abbrev p:RS.PT':=⟨["abs", "bool", "enumerate", "int", "isinstance", "len", "list", "max", "min", "range", "tuple"],[("MOST_PEGS",10)],Ds,T,[("TRADES_AT_A_PLACE",[("swap",12),("drop",13),("double",14),("cut",15)])]⟩
def zt:p.ok=true:=by decide +kernel
def all1{P:List Value->Prop}(h:∀ a0,P [a0]):∀ us:List Value,us.length=1->P us
 | [a0],_=>h a0
def all2{P:List Value->Prop}(h:∀ a0 a1,P [a0,a1]):∀ us:List Value,us.length=2->P us
 | [a0,a1],_=>h a0 a1
def jo{P:List Value->Prop}(h:∀ a0 a1 a2,P [a0,a1,a2]):∀ us:List Value,us.length=3->P us
 | [a0,a1,a2],_=>h a0 a1 a2
def zi{P:List Value->Prop}(h:∀ a0 a1 a2 a3,P [a0,a1,a2,a3]):∀ us:List Value,us.length=4->P us
 | [a0,a1,a2,a3],_=>h a0 a1 a2 a3
def zA{P:List Value->Prop}(h:∀ a0 a1 a2 a3 a4,P [a0,a1,a2,a3,a4]):∀ us:List Value,us.length=5->P us
 | [a0,a1,a2,a3,a4],_=>h a0 a1 a2 a3 a4
section
variable{K:PySem.W.Frag}{h:Heap}{mg:Str->Option Value}{x:Str}{st:Stmt}{f:Addr}{oc kV dc pm cd ct:Value}{od an:Option Addr}{sl:Array (Option Value)}{ps:List Str}
abbrev At(K:PySem.W.Frag)(mg:Str->Option Value)(x:Str)(st:Stmt)(ps:List Str):Prop:=∃ f fd,mg x=some (.ref f)/\Fun K x x st f fd/\PySem.W.keepIn K (.ref f)=true/\Binds K fd ps []
def xV(X:K.In h)(G:h.Ns mainGlobals mg)(a:PySem.W.nsIn K mainGlobals x=some (some (.ref f)))(l:K.lookup f=some ⟨oc,od,.func (PySem.W.fnOf x x (eo st) (cP st) (bH st) .none kV dc pm an cd ct),sl⟩)(c:PySem.W.codeIn K cd x=true)(k:PySem.W.keepIn K (.ref f)=true)
 (b:∀ (kV doc pm:Value) (an:Option Addr) (cdv ct:Value) (us:List Value),us.length=ps.length->bindArgs (PySem.W.fnOf x x (eo st) (cP st) (bH st) .none kV doc pm an cdv ct) ⟨us,[]⟩=pure (ps.zip us)):At K mg x st ps :=
 ⟨f,_,PySem.W.mg_of X G a,pT (st:=st) l c k,k,(pT (st:=st) l c k).binds b⟩
abbrev jv(K:PySem.W.Frag)(mg:Str->Option Value):List RS.fc->Prop
 | []=>True
 | d::r=>At K mg d.name d.st d.ps/\jv K mg r
def jv.get:∀ {l:List RS.fc} {f:Nat} {d:RS.fc},jv K mg l->l[f]?=some d->At K mg d.name d.st d.ps
 | [],_,_,_,e=>by cases e
 | _::_,0,_,h,e=>by cases e;exact h.1
 | _::_,f+1,_,h,e=>jv.get (f:=f) h.2 e
abbrev AllP(P:Str->Prop):List Str->Prop
 | []=>True
 | x::r=>P x/\AllP P r
def AllP.get{P:Str->Prop}:∀ {l:List Str},AllP P l->x∈l->P x
 | _::_,h,e=>(List.mem_cons.mp e).elim (fun z=>z▸h.1) fun z=>AllP.get h.2 z
abbrev j0(K:PySem.W.Frag):List (Str × Int)->Prop
 | []=>True
 | q::r=>(∃ t,PySem.W.nsIn K mainGlobals q.1=some (some (.int q.2 t)))/\j0 K r
def j0.get{i:Int}:∀ {l:List (Str × Int)},j0 K l->l.lookup x=some i->∃ t,PySem.W.nsIn K mainGlobals x=some (some (.int i t))
 | [],_,e=>by cases e
 | q::_,h,e=>by
  rw[List.lookup_cons]at e
  cases hb:x == q.1 with
  | true=>rw[hb]at e;cases e;rw[eq_of_beq hb];exact h.1
  | false=>rw[hb]at e;exact j0.get h.2 e
structure Tp(w:World)(K:PySem.W.Frag)(mg:Str->Option Value):Prop where
 t1:jv K mg Ds
 t2:AllP (fun x=>PySem.W.nsIn K mainGlobals x=some none) p.B
 t3:j0 K p.G
 t6:∃ (d a0 a1 a2 a3:Addr) (es:List DictEntry) (ep:Nat),PySem.W.nsIn K mainGlobals "TRADES_AT_A_PLACE" = some (some (.ref d))/\(d == sysModules)=false/\K.lookup d=some ⟨.type "dict",none,.dict es.toArray ep,#[]⟩/\PySem.W.nsIn K mainGlobals "swapped" = some (some (.ref a0))/\PySem.W.nsIn K mainGlobals "dropped" = some (some (.ref a1))/\PySem.W.nsIn K mainGlobals "doubled" = some (some (.ref a2))/\PySem.W.nsIn K mainGlobals "shortened" = some (some (.ref a3))/\RS.Ent w es [("swap",a0),("drop",a1),("double",a2),("cut",a3)]
def wx{w:World}(X:K.In h)(G:h.Ns mainGlobals mg)(A:Tp w K mg):RS.sx p w K mg where
 gds:=by
  obtain⟨d,a0,a1,a2,a3,es,ep,n0,n1,l,b0,b1,b2,b3,E⟩:=A.t6;exact RS.tM (PySem.W.mg_of X G n0) n1 (RS.yW l E (show(["swap", "drop", "double", "cut"]:List Str).Nodup by decide +kernel)) (.cons rfl (PySem.W.mg_of X G b0) (.cons rfl (PySem.W.mg_of X G b1) (.cons rfl (PySem.W.mg_of X G b2) (.cons rfl (PySem.W.mg_of X G b3) .nil))))
 defs:=fun f d e=>A.t1.get e
 blt:=fun x hx=>PySem.W.mg_none_of X G (A.t2.get hx)
 glb:=fun x i hx=>let ⟨t,ht⟩:=A.t3.get hx;⟨_,PySem.W.mg_of X G ht,t,rfl⟩
end
end K32
end
namespace PySem.W.Fast
local macro_rules|`(universe $x*)=>do pure (Lean.mkNullNode (<-x.mapM fun x=>`(theorem $(Lean.mkIdent (.mkSimple s!"tw{x.getId.toString.foldl (fun a c=>52*a+c.toNat-if c.toNat<97 then 65 else 71) 0}")) :True:=trivial)))
universe BIEEFaQMplds BQEzJCPvZqMw taSMTCscJfk CTvJXbbEZvJc CKLUYqSmBzAQ LecBdeNLiqY BoXGPfLMAtkA YRHWkqNaMVd BPEjjHfJNVgR CHOLNlTpnawB BdLarmtsXZvl CXNCWKGFEJKJ WlNObVVrJvl WwsRWllChlt BsThgMVUiNoS cQUeAebPKbG CPKvYIjkXfEC NXCibfQsKpu QsgEFrnKaPW BCZJPuKCeKrG CMSYlZknaJkC BJCsHMPUZBoS BdRmuvpKpAS BkEYdSAVgsYC CFziBEkjZVNu JXigmuZQLdu BljUqeZSSjZe BMTRAngumEoj BqwQEPbbKpAT CSpuQQwgLQLn BwIcafFDwamr BxXBeLtRPdkj BxgmJURHFFYT BgnRHzpyOGoj YxeQgAPBVub BzIpNQznEmLn BfjYhPpoCUeL CMGGphXQWkVg BUMKOWzJrcMU CCxuBdAbVOTo BvEKjJxjyZUk BdxuqQWAuWDo MfudRYFpSqc cIlfgNgkhxA iiHLkXaSuxR BDXuUcfEFFcl CLWXiogVkexx BzBGYmTQWYAl BmcFTzTsefDZ ObZGSlDtoTJ BjIzUrhPKtOd BdGPneqSJyEV BxOsTmJAshNx xPLxgzwqfhB CQDvOyYOPiRx xgRjeWYbjWe BiDmqwonflRi BppfzLpmwNsG BeQegetJRhue BJdlGAJwdUbK BTgvLIAnWRCu cSpTREWeOqf zWtDsutDrZj gRgdVqORFVT BxUavlHMSVsn CUPvvzWPmiXb GFSyxEkzilj BQnxmjNopOYI rQNkMlyFSIo CJILEFTfRnoY BUZeNVedSFUo BCZZHZJSRHSQ ngURDocfOMY CABFIFTpqrvM EYpNFbmxALM BVjDBMqRsiMY BmHesMLSRGg BGduKRPjaEYI BMiojdbRCuuw UhsosXeghWA CVCEzIZYoulE BZQRnfuWGmtF BkqvLrElYlix uJiriDeFkWR CLfhwWPbRtxF BttwpEUkRlvt pXmsFmLhElF ZGdUUgjyZJl BkmLZrWfSTHN BYZckrRsyNTd XhFZWxfekOx wtyoDnNaASC hwyrYiVCUNG BPxsuAhydaHe ByonCkkMvMru VqcIyparhhG BkuhKtnlpgai BTIwGbZbifOi BqRrtImJJXXv BGmWubtNjIOT CBSAtqZKOJfv BbUJDUGEzXMr sTWEAwWdkij CKkXzGUmSBMr CAZTDhtyQMyD BmjlWykaoFfP CSWoCVmBuctn CDNcryzGLyEc BFIKUjqEIiVo duHqXExvKVI VSyyddgLySk BueiJxkOmXjA BQuDxAUVTsiF BgjTBzpBmiFp DcaYQMeErRp BgpdYiroEEIN BPowyvXjdHTh wVqqJebPkQN ioqvKlyiEQN lNgQgDsTALx CHZPJWlfSDZJ lfrESKvKVGF xkKCXcwlCQt jLRsRPtVKdp BVUCLmKGNvDB BaPeyEndhta BGdmvunnWVDi BygFOLiOWwYu UyirCyjnBRK CTdtUymSVGKm BCXCpvNIIqYu CCzQcBNMMdbi BuIeansUrsDS buCbUGtlUtK CASKmwegOYaH BgTEZIlCKWbz BwLejVIwRuan CHAkyTPcGTXT ZmyiaRRfEQP CKgIBQGkWkyn BZjhJRrVGZvz CWrMgmLCatXz EIrvHveOrGn BsCbVuBvNtqX TkUAWXZBLrj BKLCapbukcrz BNnAQwoVnFaX UDuNIvCOXKY cjiuHeAGDJM CPKZQvEBmXgg BguBPHpLhunk bBhvVcTkNeo BsnPIlkUqJBM qcMFRjkIrTl PdWPkeLydCZ BvvshVigNaIR CHPoCFRGYnYB BZCGpRkfajpt BiWIwbukZDOJ yBkOvNOEyNt CCLgmvDMiIQx BxAJVxhwYkrV CBxkmYtpyouZ urlmHDcoJky BaScFSNiQKGa FTmvNdMOWCK BzHSiDKYAEAS bJeKjclgmEi BrGPfYgqJQfn CUGrgWseZlZv BzUVgWZfViGb BXQhSVIISipf COPrwglTffvX EWzpxtGLOSL HqwccDqNfhw BaVwBRJVsMdQ BbBvaPVpzlbI BxFHyenjhrNA agaGVDNRVbI ixiURuCzxzo CMiHJFulUtYk BWkrfrbQkNVg MFyYShENZgk TYSdEXkhIZg BeVHVxAuVTes IIgGaYAabNB BRFYBNuHasDZ TImbJdkUzdh COqjCRBIqeXJ BYFExjEmQzQm NrTMtcOtihi BlpXkQSyWPWu WEXTpGyDbva BDBGWOBesrwG BnmHnSxNxZgm BnzxFLufzkyu BeACxvqEkyO XMmOfHrZFfa BJaKgQBzeCTa yWVFNswJsJC BcCrFzWMflpS zBBdoMEQzQm EYbzDZOGeUm WDRIWoAbOFy RZPWrLiRHgm BULBsiqtxsxj BEzXxWLWrzhT iieuWVynEVT CElLnCOyRalz BkJFvVspJkbb MfSiQoPFTWv BfiDvuoOIckn LPVlsNgCKPr BmxTtFnPFvbr RdFNTIaNwfr BURzDkNdxtLr PiwcKFYxJSg BfhoRwhORdk CGGpAlnsHZRU zQhzZdvAnfc BqXnNOrcAqiQ BigTcszoyqWg BXKRlKivAZmw CWQDCoRSKwbc cqJiGFsnaqQ BisKWbgWaziB BYtebFnIjOR JtRHcqhrWft CPBrcCfabKCx CQVMAIsjugUJ jQQPCFlaQuh BuhHTzldckui Bstbjcsbdure BIpNJOSXtVai BqHhnsltRsGj BxtttsuTetWT CIIutvVtECGD BlTpsEQehMPP ZqtuoVKXNvf BuQwTWjzjrGz SHKbpWGXVxX aYZpEbVejff BFpGEvjyOYvv BMkhZCtzXRmz CVGXmZbQPLqD aSiplOUWVMb BKuGZanrxWnQ pyuGYdjfjak BmKHNvgAkrdo BkPJjWxrckUs wTBdLocGgIc BzyCJyikydzQ BUnZXfwUXZMc qoUdUeskQwc BQAfIBbvzdQt OePSNeMHujh BxmGkeYBeDTR nRpvxcfVZIt BWMPKhmQWRAt BngHbKsYNxIN MFrxEKFbeDi mnJVqXnomJq CDXxAWkmLfam THhqilYvDLS BmkrOYSFnlCG CSHjHbSWeHlq BzBfJkLVKvjy CMTRLGVGzTlK eXwXhUfFccu CPxRUXGAsAdb BxMHEoPnLggf CQUjrScFzbQv BqRsVuEXCZnD CFHEdnPHigf BUaAKZluAHwv CEriLFUmnZCH FikQIxGUcqX mBYcjnTqaHz BxqhsfbgMmeo
end PySem.W.Fast
open PySem PySem.W PyProof.Rows
set_option maxRecDepth 100000 in
set_option maxHeartbeats 0 in
theorem PySem.Challenge.cw_ribbonloft_k32_whole_trades_keep_what_is_holds : PySem.Challenge.rw_ribbonloft_k32_whole_trades_keep_what_is.Holds := by
 w_on;o_law;k_head;(case hw=>w_witness2)
 k_fill
 refine L2.sd (l:=PySem.Challenge.rw_ribbonloft_k32_whole_trades_keep_what_is) (n:=63) (k:=30) (x := "_law_script") (CX:=L2.CX0) (sp:=RS.spL 30 K32.p 25) rfl (by decide) rfl ⟨rfl,by decide,by decide⟩ (fun w h Y=>PySem.W.kIn_of Y) ?F ?S ?C
 case F =>
  intro w mg fa h KX G hmg
  have T:K32.Tp w (L2.KOf KX) mg:=by
   dsimp only[L2.KOf];constructor
   ·dsimp only[K32.jv,K32.Ds,K32.mkD,List.take]
    iterate 26 (refine' ⟨K32.xV KX G ?a ?l ?c ?k ?b,?_⟩;(case a=>k_is);(case l=>k_is);(case c=>k_is);(case k=>k_is);(case b=>first | exact fun _ _ _ _ _ _=>K32.all1 fun _=>rfl | exact fun _ _ _ _ _ _=>K32.all2 fun _ _=>rfl | exact fun _ _ _ _ _ _=>K32.jo fun _ _ _=>rfl | exact fun _ _ _ _ _ _=>K32.zi fun _ _ _ _=>rfl | exact fun _ _ _ _ _ _=>K32.zA fun _ _ _ _ _=>rfl))
    exact True.intro
   ·dsimp only[K32.AllP,K32.p]
    iterate 11 (refine' ⟨?a,?_⟩;(case a=>k_is))
    exact True.intro
   ·dsimp only[K32.j0,K32.p]
    iterate 1 (refine⟨⟨_,by k_is⟩,?_⟩)
    exact True.intro
   ·refine⟨_,_,_,_,_,_,_,by k_is,?d,by k_is,by k_is,by k_is,by k_is,by k_is,?e⟩
    case d=>rfl
    case e=>exact .cons rfl rfl rfl (.cons rfl rfl rfl (.cons rfl rfl rfl (.cons rfl rfl rfl .nil)))
  have tp:=K32.wx KX G T;obtain⟨fa',fd,h1,h2,h3,h4⟩:=tp.defs 25 _ rfl;have e0:=hmg.symm.trans h1;cases e0;refine⟨fd,fun s u=>?_,fun base kb nb=>RS.pB K32.zt tp 30 25 _ _ rfl rfl _ _ h2⟩;obtain⟨oc,od,kV,doc,pm,an,cdv,ct,osl,e9,_,_⟩:=h2.ex;subst e9;exact .of_eq rfl
 case S=>exact fun K H a ns hl hO hS=>RS.xT hO hS (K32.main ns hl)
 case C=>exact fun _ _ _ _ h=>h
