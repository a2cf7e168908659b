import PyProof.Rows.All
import Wide.All
import OpenK.AllK
import Wide.FinOn
import PyProof.EqAt
import PyProof.EqKinds
import PyProof.TupleCall
import PySem.Str
import PyProof.NeKinds
import PyProof.CompMap
import PyProof.CompFree
import PyProof.EnumMake
import PyProof.Draws
import PyProof.ListRange
import PyProof.ConsumeWalk
import PyProof.Rows.SetFrom
import PyProof.SetRoads
import PyProof.ZipIter
import PyProof.Rows.SumAny
import PyProof.Rows.SortWalk
import PyProof.Rows.SeqMore2
import PyProof.ExcAttrAll.ValueError
import PyProof.ExcBaseAll.ValueError
import PyProof.Rows.FStr
import OpenK.KMake
import PyProof.InstStoreFacts
import PyProof.ExcClass3
import PyProof.Rows.SeqMore
import PyProof.StrWalks
import PyProof.SliceStr2
import PyProof.StrBlockI
import PyProof.StrOps2
import PySem.SetOps
import PyProof.SetScanFacts
import KE.KDictSum
import PyProof.DictWalks
import PyProof.DictRoadsH
import PyProof.MeetsSeq3
import PyProof.MinMaxWalk
import PyProof.WalkInts
import PyProof.MeetsIn
import PyProof.Rows.TupDisplay
import PyProof.Rows.TupIter
import PyProof.CollectIter
import PyProof.WalksS
import PyProof.WalksMore
import PyProof.Rows.StrJoin2
import PyProof.TableCode
import PySem.Challenge.RW_ribbonloft_k30_single_trades
set_option Elab.async false
set_option linter.all false
set_option maxRecDepth 100000
set_option maxHeartbeats 4000000
set_option autoImplicit true
set_option relaxedAutoImplicit true
set_option genSizeOf false
set_option genSizeOfSpec false
set_option genInjectivity false
section
local macro_rules
|`(def $d $s:optDeclSig $v:declVal)=>`(theorem $d $(Lean.TSyntax.mk (Lean.mkNode ``Lean.Parser.Command.declSig #[s.raw[0],s.raw[1][0]])):declSig $v:declVal)
|`(abbrev $d $s:optDeclSig $v:declVal)=>`(noncomputable def $d $s:optDeclSig $v:declVal)
namespace RL
open PySem
abbrev mkR(c:Str)(k:Nat):Str:=⟨c.cps.push (1114112+k)⟩
abbrev dE(x:Str):Option Nat:=match x.cps.back? with
 | some n=>if 1114112<=n then some (n-1114112)else none
 | none=>none
abbrev baseOf(x:Str):Str:=if(dE x).isSome then⟨x.cps.pop⟩else x
def uA:dE (mkR c k)=some k:=by
 unfold dE mkR;simp
def yH:baseOf (mkR c k)=c:=by
 unfold baseOf;rw[uA];simp[mkR]
def xY(h:dE x=none):baseOf x=x:=by
 unfold baseOf;rw[h];rfl
open PySem (Str)
@[reducible]noncomputable def Ky:=Sum Int Str
set_option genInjectivity true in
inductive D where
 | non
 | bl (b:Bool)
 | int (i:Int)
 | str (x:Str)
 | tup (xs:List D)
 | lst (xs:List D)
 | dK (ks:List Ky) (vs:List D)
 | dT (ks:List (List Ky)) (vs:List D)
 | scr (xs:List D)
 | exc (c:Str)
 | fT (ks:List (List Ky)) (vs:List D)
 | fL (xs:List D)
 deriving Inhabited
mutual
noncomputable def D.imm:D->Bool
 | .tup xs=>aB xs
 | .lst _=>false
 | .dK _ _=>false
 | .dT _ _=>false
 | .scr xs=>aB xs
 | .fT _ vs=>aB vs
 | .fL xs=>aB xs
 | _=>true
noncomputable def aB:List D->Bool
 | []=>true
 | d::r=>d.imm&&aB r
end
inductive Bop where | add | sub | mul | fdiv | mod | pow
 deriving DecidableEq
inductive Cop where | lt | le | gt | ge | eq | ne
 deriving DecidableEq
inductive Bi where | len | list | tuple | int | all | any | lenSet | sorted | sortedSet | abs | sum | sortedS
 deriving DecidableEq
inductive Ty where | int | bool | list | tuple | str
 deriving DecidableEq
mutual
inductive E where
 | var (i:Nat)
 | cst (d:D)
 | glb (x:Str) (i:Int)
 | bin (o:Bop) (a b:E)
 | cmp (c:Cop) (a b:E)
 | chain (c c':Cop) (a b e:E)
 | isN (neg:Bool) (a:E)
 | inn (neg:Bool) (a b:E)
 | and (a b:E)
 | or (a b:E)
 | not (a:E)
 | tup (es:Es)
 | lst (es:Es)
 | ix (a b:E)
 | slT (a b:E)
 | slF (a b:E)
 | call (f:Nat) (es:Es)
 | bi (b:Bi) (a:E)
 | max (a b:E)
 | min (a b:E)
 | isi (a:E) (t:Ty)
 | rng1 (a:E)
 | rng3 (c:Int) (a b:E)
 | neg (a:E)
 | comp (e:E) (tg:List Nat) (it:It) (c:E)
 | compA (e:E) (tg:List Nat) (it:It)
 | join (a:E)
 | isx (a:E) (c:Str)
 | fld (a:E)
 | frz (a:E)
 | cat (a b:E)
 | inG (g:Str) (ks:List Str) (a:E)
inductive Es where
 | nil
 | cons (e:E) (es:Es)
inductive It where
 | seq (e:E)
 | rng1 (a:E)
 | rng3 (c:Int) (a b:E)
 | enm (e:E)
 | zip (a b:E)
end
mutual
inductive S where
 | asg (i:Nat) (e:E)
 | own (i:Nat) (e:E)
 | unp (is:List Nat) (e:E)
 | par (i j:Nat) (a b:E)
 | parL (i j:Nat) (a b:E)
 | star (i j:Nat) (e:E)
 | app (i:Nat) (e:E)
 | ife (t:E) (a b:Ss)
 | forr (tg:List Nat) (it:It) (b:Ss)
 | ret (e:E)
 | exc (e:E)
 | rais (c:Str) (ps:Es)
 | raiI (c:Str) (e:E)
 | try2 (b:Ss) (c:Str) (i:Nat) (h:Ss) (c2:Str) (h2:Ss)
inductive Ss where
 | nil
 | cons (s:S) (r:Ss)
 | act (i:Nat) (g:Str) (tbl:List (Str × Nat)) (a:E) (es:Es)
 | opn (j:Nat) (e:E) (r:Sq)
inductive Sq where
 | cls (r:Ss)
 | cons (s:S) (r:Sq)
 | opn (j:Nat) (e:E) (r:Sq)
 | frz (j:Nat) (r:Ss)
 | fz (j:Nat) (r:Sq)
end
@[reducible]noncomputable def St:=List (Option D)
@[reducible]noncomputable def Cl:=Nat->List D->Option D
abbrev most:Nat:=100000
abbrev bJ{α:Type}(xs:List α)(i:Int):Option α :=
 if 0<=i then xs[i.toNat]? else if -(xs.length:Int)<=i then xs[(i+xs.length).toNat]? else none
abbrev D5(n:Nat)(i:Int):Option Nat :=
 if 0<=i then(if i<n then some i.toNat else none)else if -(n:Int)<=i then some (i+n).toNat else none
abbrev cutAt(n:Nat)(i:Int):Nat:=if 0<=i then min i.toNat n else(i+n).toNat
abbrev aQ:Bop->D->D->Option D
 | .add,.int a,.int b=>some (.int (a+b))
 | .add,.str a,.str b=>if a.length+b.length<=most then some (.str (a++b))else none
 | .add,.lst a,.lst b=>if a.length+b.length<=most then some (.lst (a++b))else none
 | .add,.tup a,.tup b=>if a.length+b.length<=most/\0<a.length then some (.tup (a++b))else none
 | .sub,.int a,.int b=>some (.int (a-b))
 | .mul,.int a,.int b=>if(-(2 ^ 64)<a/\a<2 ^ 64)\/(-(2 ^ 64)<b/\b<2 ^ 64)then some (.int (a*b))else none
 | .mul,.lst a,.int b=>if 0<=b/\b<=most/\a.length*b.toNat<=most then some (.lst (List.replicate b.toNat a).flatten)else none
 | .fdiv,.int a,.int b=>if 0<b/\b<2 ^ 200 then some (.int (a / b))else none
 | .mod,.int a,.int b=>if 0<b then some (.int (a%b))else none
 | .pow,.int a,.int b=>if 0<=b/\b<=1000/\a.natAbs<2 ^ 64 then some (.int (a ^ b.toNat))else none
 | _,_,_=>none
abbrev eqs(f:D->D->Option Bool):List D->List D->Option Bool
 | a::r,b::s=>(f a b).bind fun e=>(eqs f r s).map fun k=>e&&k
 | _,_=>some true
abbrev eqD:Nat->D->D->Option Bool
 | _,.int a,.int b=>some (a == b)
 | _,.str a,.str b=>some (a == b)
 | _,.bl a,.bl b=>some (a == b)
 | n+1,.tup a,.tup b=>(eqs (eqD n) a b).map fun k=>k&&a.length == b.length
 | n+1,.lst a,.lst b=>(eqs (eqD n) a b).map fun k=>k&&a.length == b.length
 | n+1,.fL a,.fL b=>(eqs (eqD n) a b).map fun k=>k&&a.length == b.length
 | n+1,.lst a,.fL b=>(eqs (eqD n) a b).map fun k=>k&&a.length == b.length
 | n+1,.fL a,.lst b=>(eqs (eqD n) a b).map fun k=>k&&a.length == b.length
 | _,_,_=>none
abbrev bh:Cop->D->D->Option Bool
 | .lt,.int a,.int b=>some (decide (a<b))
 | .le,.int a,.int b=>some (decide (a<=b))
 | .gt,.int a,.int b=>some (decide (b<a))
 | .ge,.int a,.int b=>some (decide (b<=a))
 | .eq,a,b=>eqD 8 a b
 | .ne,a,b=>(eqD 8 a b).map not
 | _,_,_=>none
abbrev truth:D->Option Bool
 | .bl b=>some b
 | .lst xs=>some (!xs.isEmpty)
 | .tup xs=>some (!xs.isEmpty)
 | .int i=>some (i != 0)
 | _=>none
abbrev hZ:List D->Option (List Int)
 | []=>some []
 | .int i::r=>(hZ r).map (i :: ·)
 | _=>none
abbrev ef:List D->Option (List Bool)
 | []=>some []
 | .bl i::r=>(ef r).map (i :: ·)
 | _=>none
abbrev strs?:List D->Option (List Str)
 | []=>some []
 | .str i::r=>(strs? r).map (i :: ·)
 | _=>none
abbrev oY(a:Int):List Int->List Int
 | []=>[a]
 | b::r=>if a<=b then a::b::r else b::oY a r
abbrev sortI:List Int->List Int
 | []=>[]
 | a::r=>oY a (sortI r)
abbrev jK(xs:List Int):List Int:=xs.foldl (fun m k=>if m.any (· == k)then m else m++[k]) []
abbrev items:D->Option (List D)
 | .lst xs=>some xs
 | .tup xs=>some xs
 | .fL xs=>some xs
 | _=>none
abbrev iM:D->Option (List D)
 | .fL xs=>some xs
 | .lst xs=>some xs
 | .tup xs=>some xs
 | _=>none
@[simp] theorem itemsS_lst:iM (.lst xs)=some xs:=rfl
@[simp] theorem itemsS_tup:iM (.tup xs)=some xs:=rfl
abbrev jZ:D->Option (List D)
 | .lst xs=>some xs
 | .tup xs=>some xs
 | .str x=>some (x.cps.toList.map fun c=>.str ⟨#[c]⟩)
 | _=>none
abbrev zT:List Str->Bool
 | a::b::r=>!decide (b.cps.toList<a.cps.toList)&&zT (b::r)
 | _=>true
abbrev biV:Bi->D->Option D
 | .len,.str x=>if x.length<=most then some (.int x.length)else none
 | .len,.dK ks _=>some (.int ks.length)
 | .len,.dT ks _=>some (.int ks.length)
 | .len,.fT ks _=>some (.int ks.length)
 | .len,d=>(items d).map fun xs=>.int xs.length
 | .list,d=>(items d).map .lst
 | .tuple,d=>(items d).map .tup
 | .int,.bl b=>some (.int (if b then 1 else 0))
 | .int,.int i=>some (.int i)
 | .int,_=>none
 | .all,.lst xs=>(ef xs).map fun bs=>.bl (bs.all id)
 | .any,.lst xs=>(ef xs).map fun bs=>.bl (bs.any id)
 | .all,_=>none
 | .any,_=>none
 | .lenSet,.lst xs=>if xs.length<=1000 then(hZ xs).map fun is=>.int (jK is).length else none
 | .lenSet,_=>none
 | .sorted,.lst xs=>if xs.length<64 then(hZ xs).map fun is=>.lst ((sortI is).map .int)else none
 | .sorted,_=>none
 | .sortedSet,.lst xs=>if xs.length<=5 then(hZ xs).map fun is=>.lst ((sortI (jK is)).map .int)else(hZ xs).bind fun is=>if(jK is).length<=4 then some (.lst ((sortI (jK is)).map .int))else none
 | .sortedSet,_=>none
 | .abs,.int i=>some (.int (if i<0 then -i else i))
 | .abs,_=>none
 | .sortedS,.lst xs=>(strs? xs).bind fun ss=>if zT ss then some (.lst xs)else none
 | .sortedS,_=>none
 | .sum,.lst xs=>(hZ xs).map fun is=>.int is.sum
 | .sum,_=>none
abbrev e8:Ty->D->Option Bool
 | .int,.int _=>some true
 | .int,.bl _=>some true
 | .bool,.bl _=>some true
 | .list,.lst _=>some true
 | .list,.fL _=>some true
 | .tuple,.tup _=>some true
 | .str,.str _=>some true
 | _,.non=>some false
 | _,.bl _=>some false
 | _,.int _=>some false
 | _,.str _=>some false
 | _,.tup _=>some false
 | _,.lst _=>some false
 | _,.fL _=>some false
 | _,_=>none
abbrev keyOf:D->Option Ky
 | .int i=>some (.inl i)
 | .str x=>some (.inr x)
 | _=>none
abbrev keysOf:List D->Option (List Ky)
 | []=>some []
 | d::r=>(keyOf d).bind fun k=>(keysOf r).map (k :: ·)
abbrev gg{κ:Type} [DecidableEq κ]:List κ->List D->κ->Option D
 | k::ks,v::vs,x=>if k=x then some v else gg ks vs x
 | _,_,_=>none
abbrev putD{κ:Type} [DecidableEq κ](ks:List κ)(vs:List D)(x:κ)(d:D):List κ × List D :=
 if x∈ks then(ks,List.zipWith (fun k v=>if k=x then d else v) ks vs)else(ks++[x],vs++[d])
abbrev ixV:D->D->Option D
 | .lst xs,.int i=>bJ xs i
 | .tup xs,.int i=>bJ xs i
 | .str x,.int i=>if x.length<=most then(bJ x.cps.toList i).map fun c=>.str ⟨#[c]⟩else none
 | .fL xs,.int i=>if aB xs then bJ xs i else none
 | _,_=>none
abbrev DW:D->D->Option D
 | .dK ks vs,k=>(keyOf k).bind (gg ks vs)
 | .dT ks vs,.tup k=>(keysOf k).bind (gg ks vs)
 | .fT ks vs,.tup k=>(keysOf k).bind (gg ks vs)
 | _,_=>none
abbrev DS:D->D->D->Option D
 | .dK ks vs,k,z=>(keyOf k).map fun q=>(gg ks vs q).getD z
 | .dT ks vs,.tup k,z=>(keysOf k).map fun q=>(gg ks vs q).getD z
 | _,_,_=>none
abbrev DO:D->D->Option Bool
 | .dK ks vs,k=>(keyOf k).map fun k=>(gg ks vs k).isSome
 | .dT ks vs,.tup k=>(keysOf k).map fun k=>(gg ks vs k).isSome
 | .fT ks _,.tup k=>(keysOf k).map fun k=>ks.any fun x=>decide (x=k)
 | _,_=>none
abbrev flat:D->Bool
 | .int _=>true
 | .str _=>true
 | _=>false
abbrev eqF:D->D->Bool
 | .int a,.int b=>a == b
 | .str a,.str b=>a == b
 | _,_=>false
abbrev inV(a b:D):Option Bool :=
 (items b).bind fun xs=>if flat a&&xs.all flat then some (xs.any fun x=>eqF x a)else none
abbrev i6:D->D->Option D
 | .fL xs,.int k=>some (.lst (xs.take (cutAt xs.length k)))
 | .scr xs,.int k=>some (.lst (xs.take (cutAt xs.length k)))
 | .lst xs,.int k=>some (.lst (xs.take (cutAt xs.length k)))
 | .tup xs,.int k=>if cutAt xs.length k<xs.length then some (.tup (xs.take (cutAt xs.length k)))else none
 | _,_=>none
abbrev da:D->D->Option D
 | .fL xs,.int k=>some (.lst (xs.drop (cutAt xs.length k)))
 | .lst xs,.int k=>some (.lst (xs.drop (cutAt xs.length k)))
 | .tup xs,.int k=>if 0<cutAt xs.length k then some (.tup (xs.drop (cutAt xs.length k)))else none
 | _,_=>none
abbrev bO(lo:Int):Nat->List D
 | 0=>[]
 | n+1=>.int lo::bO (lo+1) n
abbrev bV(c lo:Int):Nat->List D
 | 0=>[]
 | n+1=>.int lo::bV c (lo+c) n
abbrev bA(c a b:Int):Nat:=(if c > 0 then(if a<b then(b-a-1) / c+1 else 0)else(if a > b then(a-b-1) / (-c)+1 else 0)).toNat
abbrev iu:D->D->Option (List D)
 | .int a,.int b=>if(b-a).toNat<=most/\-(2 ^ 60)<=a/\a<2 ^ 60/\-(2 ^ 60)<=b/\b<2 ^ 60 then some (bO a (b-a).toNat)else none
 | _,_=>none
abbrev jf(c:Int):D->D->Option (List D)
 | .int a,.int b=>if c≠0/\-(2 ^ 60)<c/\c<2 ^ 60/\bA c a b<=most/\-(2 ^ 60)<=a/\a<2 ^ 60/\-(2 ^ 60)<=b/\b<2 ^ 60 then some (bV c a (bA c a b))else none
 | _,_=>none
abbrev du(i:Int):List D->List D
 | []=>[]
 | d::r=>.tup [.int i,d]::du (i+1) r
abbrev dN:List D->List D->List D
 | a::r,b::s=>.tup [a,b]::dN r s
 | _,_=>[]
abbrev ck:List Nat->List D->St->Option St
 | [],[],σ=>some σ
 | i::is,d::ds,σ=>ck is ds (σ.set i (some d))
 | _,_,_=>none
abbrev bN(tg:List Nat)(d:D)(σ:St):Option St :=
 match tg with
 | [i]=>some (σ.set i (some d))
 | tg=>match d with
  | .tup ds=>ck tg ds σ
  | .lst ds=>ck tg ds σ
  | _=>none
abbrev lj(y:Option D)(ys:List D):Option (List D) :=
 match y with
 | some e=>if e.imm then some (e::ys)else none
 | none=>some ys
abbrev cM(f:St->Option (Option D))(tg:List Nat)(σ:St):List D->Option (List D)
 | []=>some []
 | d::r=>(bN tg d σ).bind fun σ1=>(f σ1).bind fun y=>(cM f tg σ r).bind (lj y)
abbrev aX:D->Bool
 | .lst xs=>aB xs
 | .dK _ vs=>aB vs
 | .dT _ vs=>aB vs
 | _=>false
abbrev CN(f:St->Option D)(fr:Bool)(tg:List Nat)(σ:St):List D->Option (List D)
 | []=>some []
 | d::r=>(bN tg d σ).bind fun σ1=>(f σ1).bind fun y=>if aX y&&fr then(CN f fr tg σ r).map (y :: ·)else none
abbrev fits(xs:List D):Option (List D):=if xs.length<=most then some xs else none
abbrev aG:E->Bool
 | .lst _=>true
 | .tup _=>true
 | .comp _ _ _ _=>true
 | .compA _ _ _=>true
 | .bin _ _ _=>true
 | .cat _ _=>true
 | .slT _ _=>true
 | .slF _ _=>true
 | .call _ _=>true
 | .bi _ _=>true
 | .rng1 _=>true
 | .rng3 _ _ _=>true
 | _=>false
abbrev c7(n c:Str):Bool:=n == c || c == "RibbonError" || c == "ValueError"
abbrev cG(n c:Str):Bool:=c7 (baseOf n) c
abbrev Ac(neg:Bool):D->Option D
 | .non=>some (.bl (!neg))
 | .dK _ _=>none
 | .dT _ _=>none
 | .fT _ _=>none
 | _=>some (.bl neg)
abbrev rm(y:Option D):D->Option D
 | .bl true=>y
 | .bl false=>some (.bl false)
 | _=>none
abbrev orV(y:Option D):D->Option D
 | .bl false=>y
 | .bl true=>some (.bl true)
 | _=>none
abbrev vc:D->Option D
 | .int i=>some (.int (-i))
 | _=>none
abbrev vm:D->D->Option D
 | .int i,.int j=>some (.int (if j > i then j else i))
 | _,_=>none
abbrev uH:D->D->Option D
 | .int i,.int j=>some (.int (if j<i then j else i))
 | _,_=>none
abbrev DL:D->D->Option D
 | .str x,.str y=>match y.cps.toList with
  | [c]=>some (.int (x.cps.toList.count c:Nat))
  | _=>none
 | _,_=>none
abbrev DP:D->D->Option D
 | .str x,.int k=>if 0<=k/\x.length<=most then some (.str ⟨(x.cps.toList.take k.toNat).toArray⟩)else none
 | _,_=>none
abbrev DU:D->D->Option D
 | .str x,.int k=>if 0<=k/\x.length<=most then some (.str ⟨(x.cps.toList.drop k.toNat).toArray⟩)else none
 | _,_=>none
abbrev DV:D->D->D->D->Option D
 | .str x,y,.str z,w=>if x≠z/\y.imm=true/\w.imm=true then some (.dK [.inr x,.inr z] [y,w])else none
 | _,_,_,_=>none
abbrev DJ:D->D->Option D
 | .str x,.int n=>if 1<n/\n<=1000/\0<x.length/\x.length<=100 then some (.str ⟨(List.replicate n.toNat x.cps.toList).flatten.toArray⟩)else none
 | _,_=>none
abbrev BY:D->Option D
 | .lst xs=>(strs? xs).bind fun ss=>if ss.length<=most/\ss.all (fun s=>s.length<=100)then some (.str ⟨(ss.flatMap fun s=>s.cps.toList).toArray⟩)else none
 | _=>none
abbrev Dc(c:Str):D->Option D
 | .exc n=>some (.bl (cG n c))
 | _=>none
abbrev uM:D->Option D
 | .exc n=>(dE n).bind fun k=>some (.int (Int.ofNat k))
 | _=>none
abbrev kyD:Ky->D
 | .inl i=>.int i
 | .inr x=>.str x
abbrev DM:D->Option (List D)
 | .fT ks _=>some (ks.map fun k=>.tup (k.map kyD))
 | _=>none
abbrev DG:D->Option D
 | .lst xs=>if aB xs then some (.fL xs)else none
 | _=>none
abbrev Du:D->D->Option D
 | .fL a,.lst b=>if a.length+b.length<=most then some (.lst (a++b))else none
 | .lst a,.fL b=>if a.length+b.length<=most then some (.lst (a++b))else none
 | _,_=>none
abbrev DR:D->D->Option D
 | .tup k,v=>(keysOf k).bind fun q=>if v.imm then some (.dT [q] [v])else none
 | _,_=>none
abbrev xo:List D->Option (List (List Int))
 | []=>some []
 | .fL ds::r=>(hZ ds).bind fun is=>(xo r).map (is :: ·)
 | _=>none
abbrev ltL:List Int->List Int->Bool
 | [],[]=>false
 | [],_::_=>true
 | _::_,[]=>false
 | a::r,b::s=>if a=b then ltL r s else decide (a<b)
abbrev zk:List Int->List (List Int)->List Int
 | b,[]=>b
 | b,x::r=>zk (if ltL x b then x else b) r
abbrev DH:D->Option D
 | .lst xs=>(xo xs).bind fun rs=>match rs with
  | []=>none
  | x::r=>some (.fL ((zk x r).map .int))
 | _=>none
abbrev D8(ks:List Str):D->Option D
 | .str w=>some (.bl (ks.any fun k=>decide (k=w)))
 | _=>none
abbrev fH(tbl:List (Str × Nat)):D->Option Nat
 | .str w=>(tbl.find? fun q=>decide (q.1=w)).map (·.2)
 | _=>none
abbrev mj:D->Option (D × D)
 | .tup (d::r)=>if d.imm&&aB r then some (d,.fL r)else none
 | _=>none
abbrev A1:D->Option D
 | .dT ks vs=>some (.fT ks vs)
 | _=>none
@[simp] theorem sv_andt {y:Option D}:rm y (.bl true)=y:=rfl
@[simp] theorem sv_andf {y:Option D}:rm y (.bl false)=some (.bl false):=rfl
@[simp] theorem sv_ort {y:Option D}:orV y (.bl true)=some (.bl true):=rfl
@[simp] theorem sv_orf {y:Option D}:orV y (.bl false)=y:=rfl
@[simp] theorem sv_max {i j:Int}:vm (.int i) (.int j)=some (.int (if j > i then j else i)):=rfl
@[simp] theorem sv_min {i j:Int}:uH (.int i) (.int j)=some (.int (if j<i then j else i)):=rfl
@[simp] theorem sv_neg {i:Int}:vc (.int i)=some (.int (-i)):=rfl
mutual
noncomputable def ev(cl:Cl)(σ:St):E->Option D
 | .var i=>(σ[i]?).bind id
 | .cst d=>some d
 | .glb _ i=>some (.int i)
 | .bin o a b=>(ev cl σ a).bind fun x=>(ev cl σ b).bind fun y=>aQ o x y
 | .cmp c a b=>(ev cl σ a).bind fun x=>(ev cl σ b).bind fun y=>(bh c x y).map .bl
 | .chain c c' a b e=>(ev cl σ a).bind fun x=>(ev cl σ b).bind fun y=>(bh c x y).bind fun k=>if k then(ev cl σ e).bind fun z=>(bh c' y z).map .bl else some (.bl false)
 | .isN neg a=>(ev cl σ a).bind (Ac neg)
 | .inn neg a b=>(ev cl σ a).bind fun x=>(ev cl σ b).bind fun y=>(inV x y).map fun k=>.bl (if neg then !k else k)
 | .and a b=>(ev cl σ a).bind (rm (ev cl σ b))
 | .or a b=>(ev cl σ a).bind (orV (ev cl σ b))
 | .not a=>((ev cl σ a).bind truth).map fun k=>.bl (!k)
 | .tup es=>(evs cl σ es).map .tup
 | .lst es=>(evs cl σ es).map .lst
 | .ix a b=>(ev cl σ a).bind fun x=>(ev cl σ b).bind fun y=>ixV x y
 | .slT a b=>(ev cl σ a).bind fun x=>(ev cl σ b).bind fun y=>i6 x y
 | .slF a b=>(ev cl σ a).bind fun x=>(ev cl σ b).bind fun y=>da x y
 | .call f es=>(evs cl σ es).bind fun ds=>cl f ds
 | .bi b a=>(ev cl σ a).bind fun x=>biV b x
 | .max a b=>(ev cl σ a).bind fun x=>(ev cl σ b).bind fun y=>vm x y
 | .min a b=>(ev cl σ a).bind fun x=>(ev cl σ b).bind fun y=>uH x y
 | .isi a t=>(ev cl σ a).bind fun x=>(e8 t x).map .bl
 | .rng1 a=>(ev cl σ a).bind fun x=>(iu (.int 0) x).map .lst
 | .rng3 c a b=>(ev cl σ a).bind fun x=>(ev cl σ b).bind fun y=>(jf c x y).map .lst
 | .neg a=>(ev cl σ a).bind vc
 | .comp e tg it c=>(bU cl σ it).bind fun ds=>(fits ds).bind fun ds=>(cM (fun σ1=>((ev cl σ1 c).bind truth).bind fun k=>if k then(ev cl σ1 e).map some else some none) tg σ ds).map .lst
 | .compA e tg it=>(bU cl σ it).bind fun ds=>(fits ds).bind fun ds=>(cM (fun σ1=>(ev cl σ1 e).map some) tg σ ds).map .lst
 | .join a=>(ev cl σ a).bind BY
 | .isx a c=>(ev cl σ a).bind (Dc c)
 | .fld a=>(ev cl σ a).bind uM
 | .frz a=>(ev cl σ a).bind fun x=>if aG a then DG x else none
 | .cat a b=>(ev cl σ a).bind fun x=>(ev cl σ b).bind fun y=>Du x y
 | .inG _ ks a=>(ev cl σ a).bind (D8 ks)
noncomputable def evs(cl:Cl)(σ:St):Es->Option (List D)
 | .nil=>some []
 | .cons e es=>(ev cl σ e).bind fun d=>(evs cl σ es).map (d :: ·)
noncomputable def bU(cl:Cl)(σ:St):It->Option (List D)
 | .seq e=>(ev cl σ e).bind iM
 | .rng1 a=>(ev cl σ a).bind fun x=>iu (.int 0) x
 | .rng3 c a b=>(ev cl σ a).bind fun x=>(ev cl σ b).bind fun y=>jf c x y
 | .enm e=>(ev cl σ e).bind fun x=>(jZ x).map (du 0)
 | .zip a b=>(ev cl σ a).bind fun x=>(ev cl σ b).bind fun y=>(items x).bind fun xs=>(items y).bind fun ys=>if xs.length=ys.length then some (dN xs ys)else none
end
abbrev clX(cl:Cl)(f:Nat)(ds:List D):Option Str:=(cl (f+1000) ds).bind fun d=>match d with
 | .str x=>some x
 | _=>none
mutual
noncomputable def evX(cl:Cl)(σ:St):E->Option Str
 | .call f es=>match evs cl σ es with
  | some ds=>clX cl f ds
  | none=>kO cl σ es
 | .ix a _=>evX cl σ a
 | _=>none
noncomputable def kO(cl:Cl)(σ:St):Es->Option Str
 | .nil=>none
 | .cons e es=>match ev cl σ e with
  | some _=>kO cl σ es
  | none=>evX cl σ e
end
abbrev written:D->Bool
 | .int i=>decide (i.natAbs<2 ^ 1900)
 | _=>false
abbrev vD(c:Str):D->Option Str
 | .int i=>if 0<=i/\written (.int i)then some (mkR c i.toNat)else none
 | _=>none
inductive Out where
 | nx
 | rt (d:D)
abbrev avE(M:List Nat):E->Bool
 | .var j=>!M.contains j
 | .ix a _=>avE M a
 | .call _ _=>true
 | _=>false
abbrev oy(M:List Nat):It->Bool
 | .seq e=>avE M e || aG e
 | .enm e=>avE M e || aG e
 | .zip a b=>(avE M a || aG a)&&(avE M b || aG b)
 | _=>true
abbrev cq(M:List Nat)(e:E)(d:D):Bool :=
 d.imm || (aX d&&(aG e || match e with | .var i=>M.contains i | _=>false))
abbrev bF(M:List Nat)(e:E)(d:D):Bool:=d.imm || (aX d&&aG e) || avE M e
abbrev isVar:E->Bool
 | .var _=>true
 | _=>false
abbrev zS(M ps:List Nat):Nat->Es->List D->Bool
 | _,.nil,[]=>true
 | q,.cons e es,d::ds=>(if ps.contains q then isVar e else bF M e d)&&zS M ps (q+1) es ds
 | _,_,_=>false
abbrev DN:D->D->D->Option D
 | .lst xs,.int k,d=>(D5 xs.length k).map fun j=>.lst (xs.set j d)
 | .dK ks vs,k,d=>(keyOf k).bind fun k=>if ks.length<most then some (.dK (putD ks vs k d).1 (putD ks vs k d).2)else none
 | .dT ks vs,.tup k,d=>(keysOf k).bind fun k=>if ks.length<most then some (.dT (putD ks vs k d).1 (putD ks vs k d).2)else none
 | _,_,_=>none
abbrev br(f:St->Option (Out × St))(tg:List Nat):List D->St->Option (Out × St)
 | [],σ=>some (.nx,σ)
 | d::r,σ=>if d.imm then(bN tg d σ).bind fun σ1=>(f σ1).bind fun p=>match p.1 with
   | .nx=>br f tg r p.2
   | .rt d=>some (.rt d,p.2)
  else none
abbrev whF(t:St->Option Bool)(f:St->Option (Out × St)):Nat->St->Option (Out × St)
 | 0,_=>none
 | n+1,σ=>(t σ).bind fun k=>if k then(f σ).bind fun p=>match p.1 with
   | .nx=>whF t f n p.2
   | .rt d=>some (.rt d,p.2)
  else some (.nx,σ)
abbrev c8(f:St->Option (Out × St))(fx:St->Option (Str × St))(tg:List Nat):List D->St->Option (Str × St)
 | [],_=>none
 | d::r,σ=>if d.imm then(bN tg d σ).bind fun σ1=>match f σ1 with
   | some p=>match p.1 with
    | .nx=>c8 f fx tg r p.2
    | .rt _=>none
   | none=>fx σ1
  else none
abbrev DT:D->Option (D × D)
 | .lst xs=>(xs[xs.length-1]?).map fun d=>(d,.lst xs.dropLast)
 | _=>none
abbrev DQ:D->Option D
 | .lst xs=>some (.lst xs.reverse)
 | _=>none
abbrev DI(σ:St)(r w:Nat)(l:D):D->Option (Out × St)
 | .tup [_,R]=>some (.nx,(σ.set w (some l)).set r (some R))
 | _=>none
abbrev DK:D->D->Option D
 | .str a,.str b=>if a.length+b.length<=most then some (.str (a++b))else none
 | _,_=>none
mutual
noncomputable def evS(cl:Cl)(M:List Nat):S->St->Option (Out × St)
 | .asg i e,σ=>(ev cl σ e).bind fun d=>if bF M e d then some (.nx,σ.set i (some d))else none
 | .own i e,σ=>(ev cl σ e).bind fun d=>if aX d&&aG e then some (.nx,σ.set i (some d))else none
 | .unp is e,σ=>(ev cl σ e).bind fun d=>(items d).bind fun ds=>if aB ds then(ck is ds σ).map fun σ1=>(.nx,σ1)else none
 | .par i j a b,σ=>(ev cl σ a).bind fun x=>(ev cl σ b).bind fun y=>if x.imm&&y.imm then some (.nx,(σ.set i (some x)).set j (some y))else none
 | .parL i j a b,σ=>(ev cl σ a).bind fun x=>(ev cl σ b).bind fun y=>if x.imm&&(aX y&&aG b)then some (.nx,(σ.set i (some x)).set j (some y))else none
 | .star i j e,σ=>((ev cl σ e).bind mj).map fun q=>(.nx,(σ.set i (some q.1)).set j (some q.2))
 | .app i e,σ=>(ev cl σ e).bind fun d=>((σ[i]?).bind id).bind fun l=>match l with
  | .lst xs=>if d.imm&&decide (xs.length<most)then some (.nx,σ.set i (some (.lst (xs++[d]))))else none
  | _=>none
 | .ife t a b,σ=>((ev cl σ t).bind truth).bind fun k=>if k then aw cl M a σ else aw cl M b σ
 | .forr tg it b,σ=>(bU cl σ it).bind fun ds=>br (aw cl M b) tg ds σ
 | .ret e,σ=>(ev cl σ e).bind fun d=>if cq M e d then some (.rt d,σ)else none
 | .exc e,σ=>(ev cl σ e).map fun _=>(.nx,σ)
 | .rais _ _,_=>none
 | .raiI _ _,_=>none
 | .try2 b c i h c2 h2,σ=>match aw cl M b σ with
  | some p=>some p
  | none=>(bu cl M b σ).bind fun q=>if cG q.1 c then(aw cl M h (q.2.set i (some (.exc q.1)))).map fun r=>(r.1,r.2.set i none)else if cG q.1 c2 then(aw cl M h2 (q.2.set i (some (.exc q.1)))).map fun r=>(r.1,r.2.set i none)else none
noncomputable def aw(cl:Cl)(M:List Nat):Ss->St->Option (Out × St)
 | .nil,σ=>some (.nx,σ)
 | .cons s r,σ=>(evS cl M s σ).bind fun p=>match p.1 with
  | .nx=>aw cl M r p.2
  | .rt d=>some (.rt d,p.2)
 | .opn j e r,σ=>(ev cl σ e).bind fun d=>if aX d&&aG e then qQ cl M (j::M) r (σ.set j (some d))else none
 | .act i _ tbl a es,σ=>((ev cl σ a).bind (fH tbl)).bind fun f=>(evs cl (σ.set i none) es).bind fun ds=>(cl f ds).bind fun d=>if d.imm then some (.rt d,σ)else none
noncomputable def qQ(cl:Cl)(M:List Nat):List Nat->Sq->St->Option (Out × St)
 | _,.cls r,σ=>aw cl M r σ
 | M1,.cons s r,σ=>(evS cl M1 s σ).bind fun p=>match p.1 with
  | .nx=>qQ cl M M1 r p.2
  | .rt _=>none
 | M1,.opn j e r,σ=>(ev cl σ e).bind fun d=>if aX d&&aG e then qQ cl M (j::M1) r (σ.set j (some d))else none
 | _,.frz j r,σ=>(((σ[j]?).bind id).bind A1).bind fun d=>aw cl M r (σ.set j (some d))
 | M1,.fz j r,σ=>(((σ[j]?).bind id).bind A1).bind fun d=>qQ cl M M1.tail r (σ.set j (some d))
noncomputable def iL(cl:Cl)(M:List Nat):S->St->Option (Str × St)
 | .asg _ e,σ=>(evX cl σ e).map fun x=>(x,σ)
 | .own _ e,σ=>(evX cl σ e).map fun x=>(x,σ)
 | .unp _ e,σ=>(evX cl σ e).map fun x=>(x,σ)
 | .exc e,σ=>(evX cl σ e).map fun x=>(x,σ)
 | .ret e,σ=>(evX cl σ e).map fun x=>(x,σ)
 | .ife t a b,σ=>((ev cl σ t).bind truth).bind fun k=>if k then bu cl M a σ else bu cl M b σ
 | .forr tg it b,σ=>(bU cl σ it).bind fun ds=>c8 (aw cl M b) (bu cl M b) tg ds σ
 | .rais c ps,σ=>(evs cl σ ps).bind fun ds=>if ds.all written then some (c,σ)else none
 | .raiI c e,σ=>((ev cl σ e).bind (vD c)).map fun x=>(x,σ)
 | _,_=>none
noncomputable def bu(cl:Cl)(M:List Nat):Ss->St->Option (Str × St)
 | .nil,_=>none
 | .cons s r,σ=>match evS cl M s σ with
  | some p=>match p.1 with
   | .nx=>bu cl M r p.2
   | .rt _=>none
  | none=>iL cl M s σ
 | .opn _ _ _,_=>none
 | .act _ _ _ _ _,_=>none
end
def ee:ev cl σ (.var i)=((σ[i]?).bind id):=rfl
def gc:ev cl σ (.cst d)=(some d):=rfl
def CA:ev cl σ (.glb y1 i)=(some (.int i)):=rfl
def il:ev cl σ (.bin o a b)=((ev cl σ a).bind fun x=>(ev cl σ b).bind fun y=>aQ o x y):=rfl
def mn:ev cl σ (.cmp c a b)=((ev cl σ a).bind fun x=>(ev cl σ b).bind fun y=>(bh c x y).map .bl):=rfl
def ju:ev cl σ (.chain c c' a b e)=((ev cl σ a).bind fun x=>(ev cl σ b).bind fun y=>(bh c x y).bind fun k=>if k then(ev cl σ e).bind fun z=>(bh c' y z).map .bl else some (.bl false)):=rfl
def Cd:ev cl σ (.isN neg a)=((ev cl σ a).bind (Ac neg)):=rfl
def Cy:ev cl σ (.inn neg a b)=((ev cl σ a).bind fun x=>(ev cl σ b).bind fun y=>(inV x y).map fun k=>.bl (if neg then !k else k)):=rfl
def gm:ev cl σ (.and a b)=((ev cl σ a).bind (rm (ev cl σ b))):=rfl
def vN:ev cl σ (.or a b)=((ev cl σ a).bind (orV (ev cl σ b))):=rfl
def wC:ev cl σ (.not a)=(((ev cl σ a).bind truth).map fun k=>.bl (!k)):=rfl
def Cu:ev cl σ (.tup es)=((evs cl σ es).map .tup):=rfl
def iz:ev cl σ (.lst es)=((evs cl σ es).map .lst):=rfl
def rE:ev cl σ (.ix a b)=((ev cl σ a).bind fun x=>(ev cl σ b).bind fun y=>ixV x y):=rfl
def wK:ev cl σ (.slT a b)=((ev cl σ a).bind fun x=>(ev cl σ b).bind fun y=>i6 x y):=rfl
def Cz:ev cl σ (.slF a b)=((ev cl σ a).bind fun x=>(ev cl σ b).bind fun y=>da x y):=rfl
def fO:ev cl σ (.call f es)=((evs cl σ es).bind fun ds=>cl f ds):=rfl
def Dj:ev cl σ (.bi b a)=((ev cl σ a).bind fun x=>biV b x):=rfl
def ri:ev cl σ (.max a b)=((ev cl σ a).bind fun x=>(ev cl σ b).bind fun y=>vm x y):=rfl
def qR:ev cl σ (.min a b)=((ev cl σ a).bind fun x=>(ev cl σ b).bind fun y=>uH x y):=rfl
def CJ:ev cl σ (.isi a t)=((ev cl σ a).bind fun x=>(e8 t x).map .bl):=rfl
def ma:ev cl σ (.neg a)=((ev cl σ a).bind vc):=rfl
def zZ:ev cl σ (.comp e tg it c)=((bU cl σ it).bind fun ds=>(fits ds).bind fun ds=>(cM (fun σ1=>((ev cl σ1 c).bind truth).bind fun k=>if k then(ev cl σ1 e).map some else some none) tg σ ds).map .lst):=rfl
def xO:ev cl σ (.compA e tg it)=((bU cl σ it).bind fun ds=>(fits ds).bind fun ds=>(cM (fun σ1=>(ev cl σ1 e).map some) tg σ ds).map .lst):=rfl
def gz:evS cl M (.asg i e) σ=((ev cl σ e).bind fun d=>if bF M e d then some (.nx,σ.set i (some d))else none):=rfl
def xg:evS cl M (.own i e) σ=((ev cl σ e).bind fun d=>if aX d&&aG e then some (.nx,σ.set i (some d))else none):=rfl
def BU:evS cl M (.unp is e) σ=((ev cl σ e).bind fun d=>(items d).bind fun ds=>if aB ds then(ck is ds σ).map fun σ1=>(.nx,σ1)else none):=rfl
def Ck:evS cl M (.par i j a b) σ=((ev cl σ a).bind fun x=>(ev cl σ b).bind fun y=>if x.imm&&y.imm then some (.nx,(σ.set i (some x)).set j (some y))else none):=rfl
def mf:evS cl M (.app i e) σ=((ev cl σ e).bind fun d=>((σ[i]?).bind id).bind fun l=>match l with
  | .lst xs=>if d.imm&&decide (xs.length<most)then some (.nx,σ.set i (some (.lst (xs++[d]))))else none
  | _=>none):=rfl
def gu:evS cl M (.ife t a b) σ=(((ev cl σ t).bind truth).bind fun k=>if k then aw cl M a σ else aw cl M b σ):=rfl
def iW:evS cl M (.forr tg it b) σ=((bU cl σ it).bind fun ds=>br (aw cl M b) tg ds σ):=rfl
def fv:evS cl M (.ret e) σ=((ev cl σ e).bind fun d=>if cq M e d then some (.rt d,σ)else none):=rfl
def rC:evS cl M (.exc e) σ=((ev cl σ e).map fun _=>(.nx,σ)):=rfl
def rT:evS cl M (.rais y1 y2) σ=(none):=rfl
def zX:evS cl M (.raiI y1 y2) σ=(none):=rfl
def kg:evS cl M (.try2 b c i h c2 h2) σ=(match aw cl M b σ with
  | some p=>some p
  | none=>(bu cl M b σ).bind fun q=>if cG q.1 c then(aw cl M h (q.2.set i (some (.exc q.1)))).map fun r=>(r.1,r.2.set i none)else if cG q.1 c2 then(aw cl M h2 (q.2.set i (some (.exc q.1)))).map fun r=>(r.1,r.2.set i none)else none):=rfl
def vR:aQ .add (.lst a) (.lst b)=(if a.length+b.length<=most then some (.lst (a++b))else none):=rfl
def rB:aQ .mul (.int a) (.int b)=(if(-(2 ^ 64)<a/\a<2 ^ 64)\/(-(2 ^ 64)<b/\b<2 ^ 64)then some (.int (a*b))else none):=rfl
def DE:aQ .fdiv (.int a) (.int b)=(if 0<b/\b<2 ^ 200 then some (.int (a / b))else none):=rfl
def Dx:aQ .mod (.int a) (.int b)=(if 0<b then some (.int (a%b))else none):=rfl
def Dp:ixV (.lst xs) (.int i)=(bJ xs i):=rfl
def iB:bN [i] d σ=some (σ.set i (some d)):=rfl
def Dy:eqD n (.int a) (.int b)=some (a == b):=by cases n<;>rfl
def Ar:biV .all (.lst xs)=(ef xs).map fun bs=>.bl (bs.all id):=rfl
def CF:biV .len (.str x)=if x.length<=most then some (.int x.length)else none:=rfl
def Df:avE M (.var j)=!M.contains j:=rfl
set_option autoImplicit false
structure Fn where
 ps:Nat
 nn:Nat
 M:List Nat
 mp:List Nat
 body:Ss
abbrev gW(σ:St):List Nat->Option (List D)
 | []=>some []
 | i::is=>((σ[i]?).bind id).bind fun d=>(gW σ is).map (d :: ·)
abbrev bK(fn:Fn)(d:D)(σ:St):Option D :=
 if fn.mp.isEmpty then some d else if d.imm then(gW σ fn.mp).map fun os=>.tup (d::os)else none
abbrev ao(T:List Fn):Nat->Cl
 | 0,_,_=>none
 | n+1,f,ds=>match T[f]? with
  | some fn=>if ds.length=fn.ps then(aw (ao T n) fn.M fn.body (ds.map some++List.replicate (fn.nn-fn.ps) none)).bind fun p=>match p.1 with
   | .nx=>bK fn .non p.2
   | .rt d=>bK fn d p.2
   else none
  | none=>(T[f-1000]?).bind fun fn=>if ds.length=fn.ps/\fn.mp=[]then(bu (ao T n) fn.M fn.body (ds.map some++List.replicate (fn.nn-fn.ps) none)).map fun p=>.str p.1 else none
end RL
namespace RT
open RL
abbrev gC:Fn :=
 ⟨1,1,[],[],(.cons (.ret (.and (.isi (.var 0) .int) (.not (.isi (.var 0) .bool)))) .nil)⟩
abbrev dq(f_is_number:Nat):Fn :=
 ⟨1,1,[],[],(.cons (.ret (.and (.call f_is_number (.cons (.var 0) .nil)) (.chain .le .le (.cst (.int 1)) (.var 0) (.glb "MOST_PEGS" 10)))) .nil)⟩
abbrev eg(f_is_peg_count:Nat):Fn :=
 ⟨1,1,[],[],(.cons (.ife (.not (.call f_is_peg_count (.cons (.var 0) .nil))) (.cons (.rais "BadPegs" (.cons (.glb "MOST_PEGS" 10) .nil)) .nil) .nil) .nil)⟩
abbrev gf(f_is_number:Nat):Fn :=
 ⟨2,2,[],[],(.cons (.ret (.and (.call f_is_number (.cons (.var 1) .nil)) (.chain .le .le (.cst (.int 0)) (.var 1) (.bin .sub (.var 0) (.cst (.int 2)))))) .nil)⟩
abbrev di(f_is_hook f_check_pegs:Nat):Ss :=
 (.cons (.ife (.not (.call f_is_hook (.cons (.var 0) (.cons (.var 2) .nil)))) (.cons (.rais "BadHook" (.cons (.var 2) (.cons (.var 0) .nil))) .nil) .nil) .nil)
abbrev dB(f_is_hook f_check_pegs:Nat):Fn :=
 ⟨2,3,[],[],(.cons (.exc (.call f_check_pegs (.cons (.var 0) .nil))) (.cons (.forr [2] (.seq (.var 1)) (di f_is_hook f_check_pegs)) .nil))⟩
abbrev iU:Fn :=
 ⟨1,3,[],[],(.cons (.asg 1 (.bin .mod (.bin .add (.bin .mul (.var 0) (.cst (.int 48271))) (.cst (.int 11))) (.cst (.int 2147483647)))) (.cons (.asg 2 (.bin .mod (.bin .add (.bin .add (.bin .mul (.var 1) (.var 1)) (.bin .mul (.cst (.int 40692)) (.var 1))) (.var 0)) (.cst (.int 2147483399)))) (.cons (.ret (.bin .mod (.bin .add (.bin .add (.bin .mul (.var 2) (.var 2)) (.bin .mul (.cst (.int 69621)) (.var 2))) (.var 1)) (.cst (.int 2147483563)))) .nil)))⟩
abbrev iC(f_law_mix:Nat):Ss :=
 (.cons (.asg 3 (.bin .add (.bin .mul (.var 3) (.cst (.int 2147483563))) (.call f_law_mix (.cons (.bin .add (.bin .add (.var 2) (.bin .mul (.cst (.int 1009)) (.var 1))) (.bin .mul (.cst (.int 7919)) (.var 4))) .nil)))) .nil)
abbrev iJ(f_law_mix:Nat):Fn :=
 ⟨2,5,[],[],(.cons (.asg 2 (.bin .add (.bin .mul (.cst (.int 7)) (.var 1)) (.cst (.int 3)))) (.cons (.ife (.cmp .gt (.bi .len (.var 0)) (.cst (.int 0))) (.cons (.asg 2 (.bin .add (.ix (.var 0) (.bin .mod (.var 1) (.bi .len (.var 0)))) (.bin .mul (.cst (.int 9973)) (.bin .fdiv (.var 1) (.bi .len (.var 0)))))) .nil) .nil) (.cons (.ife (.and (.cmp .lt (.var 1) (.bi .len (.var 0))) (.cmp .ge (.var 2) (.bin .pow (.cst (.int 10)) (.cst (.int 18))))) (.cons (.ret (.bin .sub (.var 2) (.bin .pow (.cst (.int 10)) (.cst (.int 18))))) .nil) .nil) (.cons (.asg 3 (.cst (.int 0))) (.cons (.forr [4] (.rng1 (.cst (.int 40))) (iC f_law_mix)) (.cons (.ret (.var 3)) .nil))))))⟩
abbrev fb(f_law_raw:Nat):Ss :=
 (.cons (.app 4 (.bin .mod (.var 3) (.var 5))) (.cons (.asg 3 (.bin .fdiv (.var 3) (.var 5))) .nil))
abbrev dZ(f_law_raw:Nat):Fn :=
 ⟨3,6,[4],[],(.cons (.asg 3 (.call f_law_raw (.cons (.var 0) (.cons (.var 1) .nil)))) (.cons (.own 4 (.lst .nil)) (.cons (.forr [5] (.seq (.var 2)) (fb f_law_raw)) (.cons (.ret (.var 4)) .nil))))⟩
abbrev cK(f_law_digits:Nat):Ss :=
 (.cons (.ife (.cmp .lt (.var 2) (.cst (.int 2))) (.cons (.ret (.lst .nil)) .nil) .nil) (.cons (.asg 8 (.bin .mod (.var 7) (.bin .sub (.var 2) (.cst (.int 1))))) (.cons (.ife (.and (.cmp .ne (.var 4) (.lst .nil)) (.cmp .eq (.bin .mod (.var 7) (.cst (.int 3))) (.cst (.int 1)))) (.cons (.asg 8 (.min (.bin .sub (.var 2) (.cst (.int 2))) (.max (.cst (.int 0)) (.bin .add (.ix (.var 4) (.neg (.cst (.int 1)))) (.ix (.lst (.cons (.cst (.int 1)) (.cons (.neg (.cst (.int 1))) (.cons (.cst (.int 0)) .nil)))) (.bin .mod (.bin .mod (.var 7) (.cst (.int 7))) (.cst (.int 3)))))))) .nil) .nil) (.cons (.app 4 (.var 8)) .nil))))
abbrev fQ(f_law_digits:Nat):Ss :=
 (.cons (.asg 6 (.call f_law_digits (.cons (.var 0) (.cons (.bin .add (.var 1) (.bin .fdiv (.var 5) (.cst (.int 12)))) (.cons (.bin .mul (.lst (.cons (.cst (.int 97)) .nil)) (.cst (.int 12))) .nil))))) (.cons (.forr [7] (.seq (.slT (.var 6) (.bin .sub (.var 3) (.var 5)))) (cK f_law_digits)) .nil))
abbrev eJ(f_law_digits:Nat):Fn :=
 ⟨4,9,[4],[],(.cons (.own 4 (.lst .nil)) (.cons (.forr [5] (.rng3 (12) (.cst (.int 0)) (.var 3)) (fQ f_law_digits)) (.cons (.ret (.var 4)) .nil)))⟩
abbrev bM(f_law_same:Nat):Fn :=
 ⟨2,4,[],[],(.cons (.ife (.isN false (.var 1)) (.cons (.ret (.isN false (.var 0))) .nil) .nil) (.cons (.ife (.or (.cmp .ne (.isi (.var 0) .bool) (.isi (.var 1) .bool)) (.cmp .ne (.isi (.var 0) .int) (.isi (.var 1) .int))) (.cons (.ret (.cst (.bl false))) .nil) .nil) (.cons (.ife (.or (.cmp .ne (.isi (.var 0) .list) (.isi (.var 1) .list)) (.cmp .ne (.isi (.var 0) .tuple) (.isi (.var 1) .tuple))) (.cons (.ret (.cst (.bl false))) .nil) .nil) (.cons (.ife (.and (.not (.isi (.var 1) .list)) (.not (.isi (.var 1) .tuple))) (.cons (.ret (.and (.cmp .eq (.isi (.var 0) .str) (.isi (.var 1) .str)) (.cmp .eq (.var 0) (.var 1)))) .nil) .nil) (.cons (.ret (.and (.cmp .eq (.bi .len (.var 0)) (.bi .len (.var 1))) (.bi .all (.compA (.call f_law_same (.cons (.var 2) (.cons (.var 3) .nil))) [2,3] (.zip (.var 0) (.var 1)))))) .nil)))))⟩
end RT
namespace M
section
end
end M
namespace RL
abbrev evF(cl:Cl)(fn:Fn)(ds:List D):Option D:=if ds.length=fn.ps then(aw cl fn.M fn.body (ds.map some++List.replicate (fn.nn-fn.ps) none)).bind fun p=>match p.1 with
  | .nx=>bK fn .non p.2
  | .rt d=>bK fn d p.2
  else none
def aA(h:T[f]?=some fn):ao T (n+1) f ds=evF (ao T n) fn ds:=by
 rw[ao,h];rfl
abbrev L(xs:List Nat):List D:=xs.map fun(i:Nat)=>.int (i:Int)
def pJ(I:List D->St->Prop):∀ (ds done:List D) (σ:St),(∀ pre d post σ,done++ds=pre++d::post->I pre σ->d.imm=true/\∃ σ2,(bN tg d σ).bind f=some (.nx,σ2)/\I (pre++[d]) σ2)->I done σ->∃ σ',br f tg ds σ=some (.nx,σ')/\I (done++ds) σ'
 | [],done,σ,_,h=>⟨σ,rfl,by simpa using h⟩
 | d::ds,done,σ,hs,h=>by
  obtain⟨im,σ2,h1,h3⟩:=hs done d ds σ rfl h;obtain⟨σ',h4,h5⟩:=pJ I ds (done++[d]) σ2 (fun pre e post σ he=>hs pre e post σ (by simpa using he)) h3;refine⟨σ',?_,by simpa using h5⟩;rw[br,if_pos im]
  cases hb:bN tg d σ with
  | none=>rw[hb]at h1;cases h1
  |some σ1=>
   rw[hb]at h1;simp only[Option.bind_some]at h1 ⊢;rw[h1];exact h4
def xA(I:List D->St->Prop)(h0:I [] σ)(hs:∀ pre d post σ,ds=pre++d::post->I pre σ->d.imm=true/\∃ σ2,(bN tg d σ).bind f=some (.nx,σ2)/\I (pre++[d]) σ2):∃ σ',br f tg ds σ=some (.nx,σ')/\I ds σ' :=
 pJ I ds [] σ (by simpa using hs) h0
@[simp] theorem tf_lst:aG (.lst a)=true:=rfl
@[simp] theorem tf_tup:aG (.tup a)=true:=rfl
@[simp] theorem tf_comp:aG (.comp a b c d)=true:=rfl
@[simp] theorem tf_compA:aG (.compA a b c)=true:=rfl
@[simp] theorem tf_bin:aG (.bin a b c)=true:=rfl
@[simp] theorem tf_slT:aG (.slT a b)=true:=rfl
@[simp] theorem tf_slF:aG (.slF a b)=true:=rfl
@[simp] theorem tf_call:aG (.call a b)=true:=rfl
@[simp] theorem tf_bi:aG (.bi a b)=true:=rfl
@[simp] theorem tf_rng1:aG (.rng1 a)=true:=rfl
@[simp] theorem tf_rng3:aG (.rng3 a b c)=true:=rfl
end RL
namespace RM
open RL RT
section basics
def kW:bh .lt (.int a) (.int b)=some (decide (a<b)):=rfl
def Bb:bh .le (.int a) (.int b)=some (decide (a<=b)):=rfl
def Bs:bh .gt (.int a) (.int b)=some (decide (b<a)):=rfl
def AR:bh .ge (.int a) (.int b)=some (decide (b<=a)):=rfl
def nU:bh .eq (.int a) (.int b)=some (a == b):=rfl
def DX:bh .ne (.int a) (.int b)=some (!(a == b)):=rfl
def dH:aQ .add (.int a) (.int b)=some (.int (a+b)):=rfl
def jv:aQ .sub (.int a) (.int b)=some (.int (a-b)):=rfl
def dI(h:0<b):aQ .mod (.int a) (.int b)=some (.int (a%b)):=Dx.trans (if_pos h)
def qX(h:0<b)(h':b<2 ^ 200):aQ .fdiv (.int a) (.int b)=some (.int (a / b)):=DE.trans (if_pos ⟨h,h'⟩)
def eU(h1:-(2 ^ 64)<a)(h2:a<2 ^ 64):aQ .mul (.int a) (.int b)=some (.int (a*b)):=rB.trans (if_pos (.inl ⟨h1,h2⟩))
def sJ(h1:-(2 ^ 64)<b)(h2:b<2 ^ 64):aQ .mul (.int a) (.int b)=some (.int (a*b)):=rB.trans (if_pos (.inr ⟨h1,h2⟩))
def vF(k:Bool):truth (.bl k)=some k:=rfl
end basics
def xZ(h:L xs=pre++d::post):∃ p x q,xs=p++x::q/\pre=L p/\d=.int (x:Nat)/\post=L q:=by
 unfold L at h;obtain⟨p,r,rfl,h1,h2⟩:=List.map_eq_append_iff.mp h;obtain⟨x,q,rfl,h3,h4⟩:=List.map_eq_cons_iff.mp h2;exact⟨p,x,q,rfl,h1.symm,h3.symm,h4.symm⟩
def rF:∀ {a b:List Nat},L a=L b->a=b
 | [],[],_=>rfl
 | [],_::_,h=>by simp[L]at h
 | _::_,[],h=>by simp[L]at h
 | x::a,y::b,h=>by
  unfold L at h;rw[List.map_cons,List.map_cons,List.cons.injEq]at h
  have h1:(x:Int)=y:=by injection h.1
  rw[rF (a:=a) (b:=b) h.2,Int.ofNat_inj.mp h1]
def fG(I:List Nat->St->Prop)(h0:I [] σ)(hs:∀ p x q σ,xs=p++x::q->I p σ->∃ σ2,(bN tg (.int (x:Nat)) σ).bind f=some (.nx,σ2)/\I (p++[x]) σ2):∃ σ',br f tg (L xs) σ=some (.nx,σ')/\I xs σ':=by
 obtain⟨σ',e,p,hp,hi⟩:=xA (f:=f) (tg:=tg) (ds:=L xs) (σ:=σ) (fun pre σ=>∃ p,pre=L p/\I p σ) ⟨[],rfl,h0⟩ (by
  rintro pre d post σ hd ⟨p',hp',hi⟩;obtain⟨p,x,q,rfl,rfl,rfl,rfl⟩:=xZ hd;have:=rF hp';subst this;obtain⟨σ2,h1,h2⟩:=hs p x q σ rfl hi
  exact⟨rfl,σ2,h1,p++[x],by simp[L],h2⟩)
 have:=rF hp;subst this;exact⟨σ',e,hi⟩
def dF(xs:List Nat):(L xs).length=xs.length:=by simp[L]
def C4(xs:List Nat)(i:Nat):(L xs)[i]?=(xs[i]?).map fun(i:Nat)=>.int (i:Int):=by simp[L]
def bb:∀ xs:List Nat,aB (L xs)=true
 | []=>rfl
 | x::xs=>by
  show((D.int x).imm&&aB (L xs))=true;rw[bb xs];rfl
def oj(xs ys:List Nat):L (xs++ys)=L xs++L ys:=by simp[L]
def nE(xs:List α)(i:Nat):bJ xs (i:Int)=xs[i]?:=by
 unfold bJ;rw[if_pos (Int.natCast_nonneg i)];rfl
def mQ(a:Nat):∀ n:Nat,bO (a:Int) n=L (List.range' a n)
 | 0=>rfl
 | n+1=>by
  rw[bO,List.range'_succ];have:=mQ (a+1) n;rw[show((a+1:Nat):Int)=(a:Int)+1 by lia]at this;rw[this];rfl
section
def lW(i:Int):evF cl gC [.int i]=some (.bl true):=rfl
def j6(h:∀ i:Int,cl f [.int i]=some (.bl true))(i:Int):evF cl (dq f) [.int i]=some (.bl (decide (1<=i/\i<=10))):=by
 simp[evF,dq,aw,fv,gm,fO,ju,gc,CA,ee,evs,h,Bb,cq,D.imm,bK];by_cases h1:1<=i<;>simp[h1,cq,D.imm,bK]
def kU(h:cl f [.int i]=some (.bl true)):evF cl (eg f) [.int i]=some .non:=by
 simp[evF,eg,aw,gu,rT,fO,wC,ee,evs,h,truth,bK]
def oF(h:∀ i:Int,cl f [.int i]=some (.bl true))(n i:Int):evF cl (gf f) [.int n,.int i]=some (.bl (decide (0<=i/\i<=n-2))):=by
 simp[evF,gf,aw,fv,gm,il,fO,ju,gc,ee,evs,h,Bb,jv];by_cases h1:0<=i<;>simp[h1,cq,D.imm,bK]
end
section
end
end RM
namespace RL
section
def cO:aw cl M .nil σ=some (.nx,σ):=by rw[aw]
def dD(h:evS cl M s σ=some (.nx,σ'))(k:aw cl M r σ'=res):aw cl M (.cons s r) σ=res:=by
 rw[aw,h];exact k
def wI(h:evS cl M s σ=some (.rt d,σ')):aw cl M (.cons s r) σ=some (.rt d,σ'):=by
 rw[aw,h];rfl
def aW(h:ev cl σ e=some d)(ok:bF M e d=true)(k:aw cl M r (σ.set i (some d))=res):aw cl M (.cons (.asg i e) r) σ=res :=
 dD (by rw[gz,h];show(if bF M e d=true then _ else _)=_;rw[if_pos ok]) k
def sj(h:ev cl σ e=some d)(k:aw cl M r σ=res):aw cl M (.cons (.exc e) r) σ=res :=
 dD (by rw[rC,h];rfl) k
def az(h:ev cl σ e=some d)(ok:cq M e d=true):aw cl M (.cons (.ret e) r) σ=some (.rt d,σ) :=
 wI (by rw[fv,h];show(if cq M e d=true then _ else _)=_;rw[if_pos ok])
def tu(h:(ev cl σ t).bind truth=some true)(h1:aw cl M a σ=some (.nx,σ'))(k:aw cl M r σ'=res):aw cl M (.cons (.ife t a b) r) σ=res :=
 dD (by rw[gu,h];exact h1) k
def aK(h:(ev cl σ t).bind truth=some true)(h1:aw cl M a σ=some (.rt d,σ')):aw cl M (.cons (.ife t a b) r) σ=some (.rt d,σ') :=
 wI (by rw[gu,h];exact h1)
def Ag(h:(ev cl σ t).bind truth=some false)(h1:aw cl M b σ=some (.nx,σ'))(k:aw cl M r σ'=res):aw cl M (.cons (.ife t a b) r) σ=res :=
 dD (by rw[gu,h];exact h1) k
def aj(h:(ev cl σ t).bind truth=some false)(k:aw cl M r σ=res):aw cl M (.cons (.ife t a .nil) r) σ=res:=Ag h cO k
def eT(h:ev cl σ e=some d)(hd:items d=some ds)(im:aB ds=true)(hs:ck is ds σ=some σ')(k:aw cl M r σ'=res):aw cl M (.cons (.unp is e) r) σ=res :=
 dD (by rw[BU,h,Option.bind_some,hd];show(if aB ds=true then _ else _)=_;rw[if_pos im,hs];rfl) k
def B0(h:ev cl σ e=some x)(h':ev cl σ e'=some y)(im:(x.imm&&y.imm)=true)(k:aw cl M r ((σ.set i (some x)).set j (some y))=res):aw cl M (.cons (.par i j e e') r) σ=res :=
 dD (by rw[Ck,h,Option.bind_some,h'];show(if(x.imm&&y.imm)=true then _ else _)=_;rw[if_pos im]) k
def iP(h:bU cl σ it=some ds)(h1:br (aw cl M b) tg ds σ=some (.nx,σ'))(k:aw cl M r σ'=res):aw cl M (.cons (.forr tg it b) r) σ=res :=
 dD (by rw[iW,h];exact h1) k
def aa(h:(σ[i]?).bind id=some d):ev cl σ (.var i)=some d:=by rw[ee];exact h
def ae:ev cl σ (.cst d)=some d:=by rw[gc]
def x_call(h:evs cl σ es=some ds)(hc:cl f ds=some d):ev cl σ (.call f es)=some d:=by rw[fO,h];exact hc
def ax:evs cl σ .nil=some []:=by rw[evs]
def ah(h:ev cl σ e=some d)(hr:evs cl σ es=some ds):evs cl σ (.cons e es)=some (d::ds):=by rw[evs,h,Option.bind_some,hr];rfl
def kB(h:ev cl σ e=some d)(hc:cl f [d]=some x):ev cl σ (.call f (.cons e .nil))=some x:=x_call (ah h ax) hc
def fV(h:ev cl σ e=some d)(h':ev cl σ e'=some d')(hc:cl f [d,d']=some x):ev cl σ (.call f (.cons e (.cons e' .nil)))=some x:=x_call (ah h (ah h' ax)) hc
def bZ(h:ev cl σ e=some d)(h':ev cl σ e'=some d')(h'':ev cl σ e''=some d'')(hc:cl f [d,d',d'']=some x):ev cl σ (.call f (.cons e (.cons e' (.cons e'' .nil))))=some x:=x_call (ah h (ah h' (ah h'' ax))) hc
def ak(h:ev cl σ e=some x)(h':ev cl σ e'=some y)(hb:aQ o x y=some d):ev cl σ (.bin o e e')=some d:=by rw[il,h,Option.bind_some,h'];exact hb
def ay(h:ev cl σ e=some x)(h':ev cl σ e'=some y)(hb:bh o x y=some k):ev cl σ (.cmp o e e')=some (.bl k):=by rw[mn,h,Option.bind_some,h',Option.bind_some,hb];rfl
def aO(h:ev cl σ e=some x)(h':ev cl σ e'=some y)(hb:ixV x y=some d):ev cl σ (.ix e e')=some d:=by rw[rE,h,Option.bind_some,h'];exact hb
def aY(h:ev cl σ e=some x)(hb:biV o x=some d):ev cl σ (.bi o e)=some d:=by rw[Dj,h];exact hb
def cI(h:ev cl σ e=some x)(h':ev cl σ e'=some y)(hb:i6 x y=some d):ev cl σ (.slT e e')=some d:=by rw[wK,h,Option.bind_some,h'];exact hb
def d7(h:ev cl σ e=some x)(h':ev cl σ e'=some y)(hb:da x y=some d):ev cl σ (.slF e e')=some d:=by rw[Cz,h,Option.bind_some,h'];exact hb
def gw(h:ev cl σ e=some x)(h':ev cl σ e'=some y)(hb:inV x y=some k):ev cl σ (.inn n e e')=some (.bl (if n then !k else k)):=by rw[Cy,h,Option.bind_some,h',Option.bind_some,hb];rfl
def cE{t:Ty}(h:ev cl σ e=some x)(hb:e8 t x=some k):ev cl σ (.isi e t)=some (.bl k):=by rw[CJ,h,Option.bind_some,hb];rfl
def BR(h:ev cl σ e=some (.int k)):ev cl σ (.neg e)=some (.int (-k)):=by rw[ma,h];rfl
def gH(h:ev cl σ e=some x)(h':ev cl σ e'=some y)(h'':ev cl σ e''=some z)(b1:bh c x y=some true)(b2:bh c' y z=some k):ev cl σ (.chain c c' e e' e'')=some (.bl k):=by rw[ju,h,Option.bind_some,h',Option.bind_some,b1,Option.bind_some,if_pos rfl,h'',Option.bind_some,b2];rfl
def hV(h:ev cl σ e=some x)(h':ev cl σ e'=some y)(b1:bh c x y=some false):ev cl σ (.chain c c' e e' e'')=some (.bl false):=by rw[ju,h,Option.bind_some,h',Option.bind_some,b1];rfl
def bc(h:evs cl σ es=some ds):ev cl σ (.lst es)=some (.lst ds):=by rw[iz,h];rfl
def aR(h:evs cl σ es=some ds):ev cl σ (.tup es)=some (.tup ds):=by rw[Cu,h];rfl
def aU(h:ev cl σ e=some (.bl true))(h':ev cl σ e'=some d):ev cl σ (.and e e')=some d:=by rw[gm,h];exact h'
def bH(h:ev cl σ e=some (.bl false)):ev cl σ (.and e e')=some (.bl false):=by rw[gm,h];rfl
def cm(h:ev cl σ e=some (.bl false))(h':ev cl σ e'=some d):ev cl σ (.or e e')=some d:=by rw[vN,h];exact h'
def fk(h:ev cl σ e=some (.bl true)):ev cl σ (.or e e')=some (.bl true):=by rw[vN,h];rfl
def Ct(h:(ev cl σ e).bind truth=some k):ev cl σ (.not e)=some (.bl (!k)):=by rw[wC,h];rfl
def aT(h:ev cl σ e=some (.bl k)):ev cl σ (.not e)=some (.bl (!k)):=Ct (by rw[h];rfl)
def aH(h:ev cl σ e=some (.bl k)):(ev cl σ e).bind truth=some k:=by rw[h];rfl
def jn(h:bU cl σ it=some ds)(hf:ds.length<=most)(hm:cM (fun σ1=>(ev cl σ1 e).map some) tg σ ds=some ys):ev cl σ (.compA e tg it)=some (.lst ys):=by
 rw[xO,h,Option.bind_some,fits,if_pos hf,Option.bind_some,hm];rfl
def zB(h:bU cl σ it=some ds)(hf:ds.length<=most)(hm:cM (fun σ1=>((ev cl σ1 t).bind truth).bind fun k=>if k then(ev cl σ1 e).map some else some none) tg σ ds=some ys):ev cl σ (.comp e tg it t)=some (.lst ys):=by
 rw[zZ,h,Option.bind_some,fits,if_pos hf,Option.bind_some,hm];rfl
def mE(h:ev cl σ e=some x)(hr:iu (.int 0) x=some ds):bU cl σ (.rng1 e)=some ds:=by rw[bU,h];exact hr
def nj(h:ev cl σ e=some x)(hr:iM x=some ds):bU cl σ (.seq e)=some ds:=by rw[bU,h];exact hr
def qv(h:ev cl σ e=some x)(hr:items x=some ds):bU cl σ (.seq e)=some ds:=nj h (by
 cases x with
 | lst _=>exact hr
 | tup _=>exact hr
 | fL _=>exact hr
 | _=>cases hr)
def wF(h:ev cl σ e=some x)(h':ev cl σ e'=some y)(hx:items x=some xs)(hy:items y=some ys)(hl:xs.length=ys.length):bU cl σ (.zip e e')=some (dN xs ys):=by rw[bU,h,Option.bind_some,h',Option.bind_some,hx,Option.bind_some,hy,Option.bind_some,if_pos hl]
def ig(hk:(match x with | .non=>some (D.bl (!n)) | .dK _ _=>none | .dT _ _=>none | .fT _ _=>none | _=>some (.bl n))=some (D.bl k))(h:ev cl σ e=some x):ev cl σ (.isN n e)=some (.bl k):=by rw[Cd,h];exact hk
def xq(h:ev cl σ e=some x)(hr:jZ x=some ds):bU cl σ (.enm e)=some (du 0 ds):=by rw[bU,h,Option.bind_some,hr];rfl
end
def Bq:br f tg [] σ=some (.nx,σ):=rfl
def yb(im:d.imm=true)(hb:bN tg d σ=some σ1)(h:f σ1=some (.nx,σ2))(k:br f tg r σ2=res):br f tg (d::r) σ=res:=by
 rw[br,if_pos im,hb,Option.bind_some,h];exact k
def aM(hl:ds.length=fn.ps)(hm:fn.mp=[])(h:aw cl fn.M fn.body (ds.map some++List.replicate (fn.nn-fn.ps) none)=some (.rt d,σ')):evF cl fn ds=some d:=by
 unfold evF;rw[if_pos hl,h];show bK fn d σ'=_;unfold bK;rw[hm];rfl
def AE(hl:ds.length=fn.ps)(hm:fn.mp=[])(h:aw cl fn.M fn.body (ds.map some++List.replicate (fn.nn-fn.ps) none)=some (.nx,σ')):evF cl fn ds=some .non:=by
 unfold evF;rw[if_pos hl,h];show bK fn .non σ'=_;unfold bK;rw[hm];rfl
end RL
namespace RM
open RL RT
abbrev LI(xs:List Int):List D:=xs.map D.int
def tJ(xs:List Int):(LI xs).length=xs.length:=by simp[LI]
def uj:∀ xs:List Int,aB (LI xs)=true
 | []=>rfl
 | x::xs=>by
  show((D.int x).imm&&aB (LI xs))=true;rw[uj xs];rfl
section
def mod_lt{a b:Int}(h:0<b):0<=a%b/\a%b<b:=⟨Int.emod_nonneg _ (by lia),Int.emod_lt_of_pos _ h⟩
def yq(s:Int):∃ m:Int,evF cl iU [.int s]=some (.int m):=by
 have a1:=mod_lt (a:=s*48271+11) (b:=2147483647) (by decide);generalize h1:(s*48271+11)%2147483647=one at a1;have a2:=mod_lt (a:=one*one+40692*one+s) (b:=2147483399) (by decide);generalize h2:(one*one+40692*one+s)%2147483399=two at a2
 exact⟨_,aM rfl rfl (aW (d:=.int one) (ak (ak (ak (aa rfl) ae (sJ (by decide) (by decide))) ae dH) ae (by rw[dI (by decide),h1])) rfl
  (aW (d:=.int two) (ak (ak (ak (ak (aa rfl) (aa rfl) (eU (by lia) (by lia))) (ak ae (aa rfl) (eU (by decide) (by decide))) dH) (aa rfl) dH) ae (by rw[dI (by decide),h2])) rfl
  (az (ak (ak (ak (ak (aa rfl) (aa rfl) (eU (by omega) (by omega))) (ak ae (aa rfl) (eU (by decide) (by decide))) dH) (aa rfl) dH) ae (dI (by decide))) rfl)))⟩
def xU{f:Nat}(h:∀ s:Int,∃ m:Int,cl f [.int s]=some (.int m)){ns:List Int}(hl:ns.length<=63){k:Nat}(hk:k<=1000):∃ r:Int,evF cl (iJ f) [.lst (LI ns),.int k]=some (.int r):=by
 have pw:aQ .pow (.int 10) (.int 18)=some (.int 1000000000000000000):=rfl
 have rest:∀ c:Int,∃ r σ',aw cl [] (.cons (.asg 3 (.cst (.int 0))) (.cons (.forr [4] (.rng1 (.cst (.int 40))) (iC f)) (.cons (.ret (.var 3)) .nil))) [some (.lst (LI ns)),some (.int k),some (.int c),none,none]=some (.rt (.int r),σ'):=by
  intro c;have hr:iu (.int 0) (.int 40)=some (L (List.range' 0 40)):=congrArg some (mQ 0 40)
  obtain⟨σ',e,r,o,rfl⟩:=fG (f:=aw cl [] (iC f)) (tg:=[4]) (xs:=List.range' 0 40) (σ:=[some (.lst (LI ns)),some (.int k),some (.int c),some (.int 0),none])
   (fun p σ=>∃ (r:Int) (o:Option D),σ=[some (.lst (LI ns)),some (.int k),some (.int c),some (.int r),o]) ⟨0,none,rfl⟩ (by
    rintro p x q σ hx ⟨r,o,rfl⟩;obtain⟨m,hm⟩:=h (c+1009*k+7919*x)
    exact⟨_,aW (ak (ak (aa rfl) ae (sJ (by decide) (by decide))) (kB (ak (ak (aa rfl) (ak ae (aa rfl) (eU (by decide) (by decide))) dH) (ak ae (aa rfl) (eU (by decide) (by decide))) dH) hm) dH) rfl cO,_,_,rfl⟩)
  exact⟨r,_,aW ae rfl (iP (mE ae hr) e (az (aa rfl) rfl))⟩
 have len:biV .len (.lst (LI ns))=some (.int ns.length):=congrArg (fun n:Nat=>some (D.int n)) (tJ ns)
 have first:ev cl [some (.lst (LI ns)),some (.int k),none,none,none] (.bin .add (.bin .mul (.cst (.int 7)) (.var 1)) (.cst (.int 3)))=some (.int (7*k+3)):=ak (ak ae (aa rfl) (eU (by decide) (by decide))) ae dH
 by_cases h0:0<ns.length
 ·have hmod:=mod_lt (a:=(k:Int)) (b:=(ns.length:Int)) (by lia);obtain⟨j,hj⟩:=Int.eq_ofNat_of_zero_le hmod.1
  have hjl:j<ns.length:=by lia
  have ix:ixV (.lst (LI ns)) (.int ((k:Int)%ns.length))=some (.int ns[j]):=by
   show bJ (LI ns) _=_;rw[hj,nE];simp[LI,hjl]
  obtain⟨r,σ',hr⟩:=rest (ns[j]+9973*((k:Int) / ns.length));generalize hc:ns[j]+9973*((k:Int) / ns.length)=cell at hr
  have cel:∀ {r':Ss} {res:Option (Out × St)},aw cl [] r' [some (.lst (LI ns)),some (.int k),some (.int cell),none,none]=res->aw cl [] (.cons (.asg 2 (.bin .add (.bin .mul (.cst (.int 7)) (.var 1)) (.cst (.int 3)))) (.cons (.ife (.cmp .gt (.bi .len (.var 0)) (.cst (.int 0))) (.cons (.asg 2 (.bin .add (.ix (.var 0) (.bin .mod (.var 1) (.bi .len (.var 0)))) (.bin .mul (.cst (.int 9973)) (.bin .fdiv (.var 1) (.bi .len (.var 0)))))) .nil) .nil) r')) [some (.lst (LI ns)),some (.int k),none,none,none]=res:=fun z =>
   aW first rfl (tu (aH (ay (aY (aa rfl) len) ae (by rw[Bs,decide_eq_true (by lia)]))) (aW (d:=.int cell) (ak (aO (aa rfl) (ak (aa rfl) (aY (aa rfl) len) (dI (by lia))) ix) (ak ae (ak (aa rfl) (aY (aa rfl) len) (qX (by lia) (by lia))) (eU (by decide) (by decide))) (by rw[dH,hc])) rfl cO) z)
  by_cases h1:k<ns.length
  ·have c1:bh .lt (.int (k:Nat)) (.int (ns.length:Nat))=some true:=by rw[kW,decide_eq_true (by lia)]
   by_cases h2:(1000000000000000000:Int)<=cell
   ·exact⟨_,aM rfl rfl (cel (aK (aH (aU (ay (aa rfl) (aY (aa rfl) len) c1) (ay (aa rfl) (ak ae ae pw) (by rw[AR,decide_eq_true h2])))) (az (ak (aa rfl) (ak ae ae pw) jv) rfl)))⟩
   ·exact⟨r,aM rfl rfl (cel (aj (aH (aU (ay (aa rfl) (aY (aa rfl) len) c1) (ay (aa rfl) (ak ae ae pw) (by rw[AR,decide_eq_false h2])))) hr))⟩
  ·exact⟨r,aM rfl rfl (cel (aj (aH (bH (ay (aa rfl) (aY (aa rfl) len) (by rw[kW,decide_eq_false (by lia)])))) hr))⟩
 ·obtain⟨r,σ',hr⟩:=rest (7*k+3);exact⟨r,aM rfl rfl (aW first rfl (aj (aH (ay (aY (aa rfl) len) ae (by rw[Bs,decide_eq_false (by lia)]))) (aj (aH (bH (ay (aa rfl) (aY (aa rfl) len) (by rw[kW,decide_eq_false (by lia)])))) hr)))⟩
end
section
abbrev ja(ds sizes:List Nat):Prop:=ds.length=sizes.length/\∀ (i d s:Nat),ds[i]?=some d->sizes[i]?=some s->d<s
def ja.snoc(h:ja ds sizes)(hd:d<s):ja (ds++[d]) (sizes++[s]):=by
 refine⟨by simp[h.1],fun i x y h1 h2=>?_⟩;by_cases hi:i<ds.length
 ·rw[List.getElem?_append_left hi]at h1;rw[List.getElem?_append_left (by rw[<-h.1];exact hi)]at h2;exact h.2 i x y h1 h2
 ·rw[List.getElem?_append_right (by lia)]at h1;rw[List.getElem?_append_right (by rw[<-h.1];lia)]at h2;rw[h.1]at h1
  cases hk:i-sizes.length with
  | zero=>rw[hk]at h1 h2;simp at h1 h2;lia
  | succ k=>rw[hk]at h1;simp at h1
def qE(h:cl f [scr,.int k]=some (.int r))(hp:∀ s∈sizes,0<s/\s<2 ^ 200)(hlen:sizes.length<=1000):∃ ds:List Nat,ja ds sizes/\evF cl (dZ f) [scr,.int k,.lst (L sizes)]=some (.lst (L ds)):=by
 obtain⟨σ',e,r',ds,o,hds,rfl⟩:=fG (f:=aw cl [4] (fb f)) (tg:=[5]) (xs:=sizes) (σ:=[some scr,some (.int k),some (.lst (L sizes)),some (.int r),some (.lst []),none])
  (fun p σ=>∃ (r:Int) (ds:List Nat) (o:Option D),ja ds p/\σ=[some scr,some (.int k),some (.lst (L sizes)),some (.int r),some (.lst (L ds)),o]) ⟨r,[],none,⟨rfl,by simp⟩,rfl⟩ (by
   rintro p x q σ hx ⟨r,ds,o,hds,rfl⟩;have hx0:=hp x (by rw[hx];simp)
   have hpl:p.length<1000:=by
    have:=congrArg List.length hx;simp at this;lia
   have hx1:(0:Int)<x:=by lia
   have hx2:(x:Int)<2 ^ 200:=by
    have:=hx0.2;lia
   obtain⟨d,hd⟩:=Int.eq_ofNat_of_zero_le (Int.emod_nonneg r (show(x:Int)≠0 by lia))
   have hdx:d<x:=by
    have:=Int.emod_lt_of_pos r hx1;lia
   refine⟨[some scr,some (.int k),some (.lst (L sizes)),some (.int (r / x)),some (.lst (L (ds++[d]))),some (.int x)],?_,_,_,_,hds.snoc hdx,rfl⟩
   have hl:(L ds).length<most:=by
    rw[dF,hds.1];unfold most;lia
   simp[iB,fb,aw,mf,gz,il,ee,dI hx1,qX hx1 hx2,hd,D.imm,hl,bF,oj]
   rfl)
 refine⟨ds,hds,?_⟩;simp[evF,dZ,aw,gz,iW,xg,fv,iz,ee,fO,evs,bU,items,h,bF,D.imm,aX,aB];simp[e,cq,aX,bb,bK]
end
section
def mY(c:Nat):∀ (n a:Nat),bV (c:Int) (a:Int) n=L (List.range' a n c)
 | 0,a=>rfl
 | n+1,a=>by
  rw[bV,List.range'_succ];have:=mY c n (a+c);rw[show((a+c:Nat):Int)=(a:Int)+(c:Int) by lia]at this;rw[this];rfl
def ne_nil(hs:List Nat):bh .ne (.lst (L hs)) (.lst [])=some (!hs.isEmpty):=by
 cases hs with
 | nil=>rfl
 |cons h t=>
  show((eqs (eqD 7) (D.int h::L t) []).map fun k=>k&&(D.int h::L t).length == ([]:List D).length).map not=_;simp[eqs]
def yz(h:hs≠[]):∃ m,m∈hs/\bJ (L hs) (-1)=some (.int (m:Nat)):=by
 have hl:0<hs.length:=List.length_pos_iff.mpr h;refine⟨hs[hs.length-1],List.getElem_mem _,?_⟩;unfold bJ;rw[if_neg (by decide),if_pos (by rw[dF];lia),dF,show((-1:Int)+hs.length).toNat=hs.length-1 by lia,C4,List.getElem?_eq_getElem (by omega)];rfl
def uJ(x:Nat):∃ v:Int,(v=1\/v=-1\/v=0)/\bJ [D.int 1,D.int (-1),D.int 0] ((x:Int)%7%3)=some (.int v):=by
 have h:x%7%3=0\/x%7%3=1\/x%7%3=2:=by lia
 have e:(x:Int)%7%3=((x%7%3:Nat):Int):=by lia
 rw[e,nE];rcases h with h | h | h
 ·exact⟨1,.inl rfl,by rw[h];rfl⟩
 ·exact⟨-1,.inr (.inl rfl),by rw[h];rfl⟩
 ·exact⟨0,.inr (.inr rfl),by rw[h];rfl⟩
def qj(hn:2<=n)(hh:∀ h∈hs,h+1<n)(hl:hs.length<10000):∃ m:Nat,m+1<n /\
  (bN [7] (.int (x:Nat)) [some scr,some (.int k),some (.int n),some (.int size),some (.lst (L hs)),some (.int start),some (.lst (L steps)),o7,o8]).bind (aw cl [4] (cK f)) =
   some (.nx,[some scr,some (.int k),some (.int n),some (.int size),some (.lst (L (hs++[m]))),some (.int start),some (.lst (L steps)),some (.int x),some (.int m)]):=by
 have hlen:(L hs).length<most:=by rw[dF];unfold most;lia
 have c1:¬ (n:Int)<2:=by lia
 have pos1:(0:Int)<(n:Int)-1:=by lia
 have ap:∀ m:Nat,L hs++[D.int m]=L (hs++[m]):=fun m=>by rw[oj];rfl
 obtain⟨m0,hm0⟩:=Int.eq_ofNat_of_zero_le (Int.emod_nonneg (x:Int) (show(n:Int)-1≠0 by lia))
 have hm0':m0+1<n:=by
  have:=Int.emod_lt_of_pos (x:Int) pos1;lia
 by_cases hc:hs.isEmpty=false/\(x:Int)%3=1
 ·have hne:hs≠[]:=by
   intro z;subst z;cases hc.1
  obtain⟨m1,hm1,e1⟩:=yz hne;obtain⟨v,hv,e2⟩:=uJ x;have hm1':=hh m1 hm1
  have fin:∃ m:Nat,(if(if(m1:Int)+v > 0 then(m1:Int)+v else 0)<(n:Int)-2 then(if(m1:Int)+v > 0 then(m1:Int)+v else 0)else(n:Int)-2)=(m:Int)/\m+1<n:=by
   refine⟨(if(if(m1:Int)+v > 0 then(m1:Int)+v else 0)<(n:Int)-2 then(if(m1:Int)+v > 0 then(m1:Int)+v else 0)else(n:Int)-2).toNat,?_,?_⟩<;>rcases hv with rfl | rfl | rfl<;>(repeat' split)<;>lia
  obtain⟨m,em,hm⟩:=fin;refine⟨m,hm,?_⟩;simp only[iB,Option.bind_some,cK,aw,mf,gz,gu,fv,gm,il,mn,gc,rE,iz,ri,qR,ma,ee,sv_andt,sv_andf,sv_max,sv_min,sv_neg,evs,List.set_cons_succ,List.set_cons_zero,List.getElem?_cons_succ,List.getElem?_cons_zero,id,kW,c1,decide_false,Option.map_some,vF,Bool.false_eq_true,if_false,jv,dI pos1,hm0,bF,D.imm,Bool.true_or,if_true,ne_nil,hc.1,Bool.not_false,dI (show(0:Int)<3 by decide),dI (show(0:Int)<7 by decide),hc.2,nU,beq_self_eq_true,Dp,e1,e2,dH,em,Bool.and_eq_true,decide_eq_true_eq,true_and,hlen,ap]
 ·refine⟨m0,hm0',?_⟩;by_cases h1:hs.isEmpty=false
  ·have h2:((x:Int)%3 == 1)=false:=by
    have:¬ (x:Int)%3=1:=fun z=>hc ⟨h1,z⟩;simpa using this
   simp only[iB,Option.bind_some,cK,aw,mf,gz,gu,fv,gm,il,mn,gc,rE,iz,ri,qR,ma,ee,sv_andt,sv_andf,sv_max,sv_min,sv_neg,evs,List.set_cons_succ,List.set_cons_zero,List.getElem?_cons_succ,List.getElem?_cons_zero,id,kW,c1,decide_false,Option.map_some,vF,Bool.false_eq_true,if_false,jv,dI pos1,hm0,bF,D.imm,Bool.true_or,if_true,ne_nil,h1,Bool.not_false,dI (show(0:Int)<3 by decide),nU,h2,Bool.and_eq_true,decide_eq_true_eq,true_and,hlen,ap]
  ·have h1':hs.isEmpty=true:=by
    cases hz:hs.isEmpty with
    | true=>rfl
    | false=>exact absurd hz h1
   simp only[iB,Option.bind_some,cK,aw,mf,gz,gu,fv,gm,il,mn,gc,rE,iz,ri,qR,ma,ee,sv_andt,sv_andf,sv_max,sv_min,sv_neg,evs,List.set_cons_succ,List.set_cons_zero,List.getElem?_cons_succ,List.getElem?_cons_zero,id,kW,c1,decide_false,Option.map_some,vF,Bool.false_eq_true,if_false,jv,dI pos1,hm0,bF,D.imm,Bool.true_or,if_true,ne_nil,h1',Bool.not_true,Bool.and_eq_true,decide_eq_true_eq,true_and,hlen,ap]
def sx(xs:List Nat)(n:Nat):(L xs).take n=L (xs.take n):=by simp[L]
def tP{f:Nat}{scr:D}{k n size:Nat}(hn:2<=n)(hs:size<=100)(hk:k<=900)(h:∀ k:Nat,k<=1000->∃ ds:List Nat,ja ds (List.replicate 12 97)/\cl f [scr,.int k,.lst (L (List.replicate 12 97))]=some (.lst (L ds))) :
  ∃ hs:List Nat,(∀ h∈hs,h+1<n)/\hs.length<=1200/\evF cl (eJ f) [scr,.int k,.int n,.int size]=some (.lst (L hs)):=by
 have cnt:bA 12 0 size<=100:=by
  unfold bA;rw[if_pos (by decide)];split
  ·lia
  ·simp
 have rg:jf 12 (.int 0) (.int size)=some (L (List.range' 0 (bA 12 0 size) 12)):=by
  dsimp only[jf];rw[if_pos ⟨by decide,by decide,by decide,by unfold most;lia,by decide,by decide,by lia,by lia⟩];have:=mY 12 (bA 12 0 size) 0;exact congrArg some this
 have m97:aQ .mul (.lst [.int 97]) (.int 12)=some (.lst (L (List.replicate 12 97))):=rfl
 obtain⟨σ',e,hs',o5,o6,o7,o8,q1,q2,rfl⟩:=fG (f:=aw cl [4] (fQ f)) (tg:=[5]) (xs:=List.range' 0 (bA 12 0 size) 12) (σ:=[some scr,some (.int k),some (.int n),some (.int size),some (.lst []),none,none,none,none])
  (fun p σ=>∃ (hs:List Nat) (o5 o6 o7 o8:Option D),(∀ h∈hs,h+1<n)/\hs.length<=12*p.length/\σ=[some scr,some (.int k),some (.int n),some (.int size),some (.lst (L hs)),o5,o6,o7,o8]) ⟨[],none,none,none,none,by simp,by simp,rfl⟩ (by
   rintro p x q σ hx ⟨hs,o5,o6,o7,o8,q1,q2,rfl⟩
   have hxm:x∈List.range' 0 (bA 12 0 size) 12:=by rw[hx];simp
   have hxb:x<=1200:=by
    obtain⟨i,hi,rfl⟩:=List.mem_range'.mp hxm;lia
   have hpl:p.length<100:=by
    have:=congrArg List.length hx;simp at this;lia
   obtain⟨ds,hds,ed⟩:=h (k+x / 12) (by lia)
   have ek:(k:Int)+(x:Int) / 12=((k+x / 12:Nat):Int):=by lia
   have hdl:ds.length=12:=by rw[hds.1];simp
   obtain⟨σ2,e2,hs2,o7',o8',g1,g2,rfl⟩:=fG (f:=aw cl [4] (cK f)) (tg:=[7]) (xs:=ds.take (cutAt (L ds).length ((size:Int)-(x:Int)))) (σ:=[some scr,some (.int k),some (.int n),some (.int size),some (.lst (L hs)),some (.int x),some (.lst (L ds)),o7,o8])
    (fun p σ=>∃ (hs':List Nat) (o7 o8:Option D),(∀ h∈hs',h+1<n)/\hs'.length<=hs.length+p.length/\σ=[some scr,some (.int k),some (.int n),some (.int size),some (.lst (L hs')),some (.int x),some (.lst (L ds)),o7,o8]) ⟨hs,o7,o8,q1,by simp,rfl⟩ (by
     rintro p' y q' σ hy ⟨hs',o7,o8,g1,g2,rfl⟩
     have hpl':p'.length<12:=by
      have:=congrArg List.length hy;simp at this;lia
     obtain⟨m,hm,em⟩:=qj (cl:=cl) (f:=f) (scr:=scr) (k:=k) (size:=size) (start:=x) (x:=y) (steps:=ds) (o7:=o7) (o8:=o8) hn g1 (by lia);refine⟨_,em,_,_,_,?_,?_,rfl⟩
     ·intro h hh;rcases List.mem_append.mp hh with z | z
      ·exact g1 h z
      ·rw[List.mem_singleton.mp z];exact hm
     ·simp;lia)
   have hcl:(ds.take (cutAt (L ds).length ((size:Int)-(x:Int)))).length<=12:=by
    rw[List.length_take];lia
   refine⟨[some scr,some (.int k),some (.int n),some (.int size),some (.lst (L hs2)),some (.int x),some (.lst (L ds)),o7',o8'],?_,hs2,_,_,_,_,g1,?_,rfl⟩
   ·simp only[iB,Option.bind_some,fQ,aw,gz,iW,il,wK,ee,fO,gc,iz,evs,bU,itemsS_lst,itemsS_tup,List.set_cons_succ,List.set_cons_zero,List.getElem?_cons_succ,List.getElem?_cons_zero,id,Option.map_some,qX (show(0:Int)<12 by decide) (show(12:Int)<2 ^ 200 by decide),dH,ek,m97,ed,bF,D.imm,aX,bb,tf_call,tf_slT,tf_bin,tf_lst,Bool.true_and,Bool.or_true,Bool.true_or,if_true,jv,i6,sx,items,e2]
   ·simp only[List.length_append,List.length_cons,List.length_nil]
    lia)
 refine⟨hs',q1,by rw[List.length_range']at q2;lia,?_⟩;simp[evF,eJ,aw,iW,xg,fv,gc,ee,iz,evs,bU,rg,aX,aB];simp[e,cq,aX,bb,bK]
end
section
end
def wR(k:Nat):∀ xs:List Nat,eqs (eqD k) (L xs) (L xs)=some true
 | []=>rfl
 | x::xs=>by
  show((eqD k (.int x) (.int x)).bind fun e=>(eqs (eqD k) (L xs) (L xs)).map fun k=>e&&k)=_;rw[wR k xs];simp[Dy]
section dicts
variable [DecidableEq κ]
end dicts
section
end
section
end
section
end
section
variable{n:Nat}
end
section
end
section
end
def mC{β:Type}{F:St->Option (Option D)}{tg:List Nat}{σ:St}{h g:β->D}(im:∀ x,(g x).imm=true):∀ xs:List β,(∀ x∈xs,(bN tg (h x) σ).bind F=some (some (g x)))->cM F tg σ (xs.map h)=some (xs.map g)
 | [],_=>rfl
 | x::r,hh=>by
  have a:=hh x (by simp);have b:=mC im r (fun y hy=>hh y (by simp[hy]));rw[List.map_cons,cM]
  cases hb:bN tg (h x) σ with
  | none=>rw[hb]at a;cases a
  |some σ1=>
   rw[hb]at a;simp only[Option.bind_some]at a ⊢;rw[a,b];simp[lj,im]
def mh(x:Bool):bh .ne (.bl x) (.bl x)=some false:=by cases x<;>rfl
def CD(x:Bool):bh .eq (.bl x) (.bl x)=some true:=by cases x<;>rfl
section
def jr(hN:(match d with | .non=>some (D.bl (!false)) | .dK _ _=>none | .dT _ _=>none | .fT _ _=>none | _=>some (.bl false))=some (D.bl false))(hb:e8 .bool d=some kb)(hi:e8 .int d=some ki)(hl:e8 .list d=some kl)(ht:e8 .tuple d=some kt)
 (k:aw cl [] r [some d,some d,none,none]=res):aw cl [] (.cons (.ife (.isN false (.var 1)) (.cons (.ret (.isN false (.var 0))) .nil) .nil) (.cons (.ife (.or (.cmp .ne (.isi (.var 0) .bool) (.isi (.var 1) .bool)) (.cmp .ne (.isi (.var 0) .int) (.isi (.var 1) .int))) (.cons (.ret (.cst (.bl false))) .nil) .nil) (.cons (.ife (.or (.cmp .ne (.isi (.var 0) .list) (.isi (.var 1) .list)) (.cmp .ne (.isi (.var 0) .tuple) (.isi (.var 1) .tuple))) (.cons (.ret (.cst (.bl false))) .nil) .nil) r))) [some d,some d,none,none]=res :=
 aj (aH (ig hN (aa rfl))) (aj (aH (cm (ay (cE (aa rfl) hb) (cE (aa rfl) hb) (mh _)) (ay (cE (aa rfl) hi) (cE (aa rfl) hi) (mh _)))) (aj (aH (cm (ay (cE (aa rfl) hl) (cE (aa rfl) hl) (mh _)) (ay (cE (aa rfl) ht) (cE (aa rfl) ht) (mh _)))) k))
def lr(hN:(match d with | .non=>some (D.bl (!false)) | .dK _ _=>none | .dT _ _=>none | .fT _ _=>none | _=>some (.bl false))=some (D.bl false))(hb:e8 .bool d=some kb)(hi:e8 .int d=some ki)(hl:e8 .list d=some false)(ht:e8 .tuple d=some false)(hs:e8 .str d=some ks)(he:bh .eq d d=some true):evF cl (bM fs) [d,d]=some (.bl true) :=
 aM rfl rfl (jr hN hb hi hl ht (aK (aH (aU (aT (cE (aa rfl) hl)) (aT (cE (aa rfl) ht)))) (az (aU (ay (cE (aa rfl) hs) (cE (aa rfl) hs) (CD _)) (ay (aa rfl) (aa rfl) he)) rfl)))
end
def same_int(a:Int):evF cl (bM fs) [.int a,.int a]=some (.bl true):=lr rfl rfl rfl rfl rfl rfl (by rw[nU,beq_self_eq_true])
def fX:∀ xs:List D,dN xs xs=xs.map fun x=>.tup [x,x]
 | []=>rfl
 | x::r=>by simp[dN,fX r]
def o3:∀ xs:List β,ef (xs.map fun _=>D.bl true)=some (xs.map fun _=>true)
 | []=>rfl
 | x::r=>by simp[ef,o3 r]
def ny{fs:Nat}{d:D}{xs:List D}(hd:d=.tup xs\/d=.lst xs)(hl:xs.length<=1000)(h:∀ x∈xs,cl fs [x,x]=some (.bl true)):evF cl (bM fs) [d,d]=some (.bl true):=by
 have al:biV .all (.lst (xs.map fun _=>.bl true))=some (.bl true):=by
  simp only[Ar,o3];simp
 have mc:=mC (F:=fun σ1=>(ev cl σ1 (.call fs (.cons (.var 2) (.cons (.var 3) .nil)))).map some) (tg:=[2,3]) (σ:=[some d,some d,none,none]) (h:=fun x=>.tup [x,x]) (g:=fun _=>.bl true) (fun _=>rfl) xs (by
  intro x hx;show(ev cl [some d,some d,some x,some x] (.call fs (.cons (.var 2) (.cons (.var 3) .nil)))).map some=_;rw[fV (aa rfl) (aa rfl) (h x hx)]
  rfl)
 have it:items d=some xs:=by rcases hd with rfl | rfl<;>rfl
 have ln:biV .len d=some (.int xs.length):=by rcases hd with rfl | rfl<;>rfl
 have lq:bh .eq (.int (xs.length:Int)) (.int (xs.length:Int))=some true:=by simp[nU]
 have lz:(dN xs xs).length<=most:=by rw[fX,List.length_map];unfold most;lia
 rw[<-fX]at mc;have tl:∀ {res:Option (Out × St)},some (Out.rt (.bl true),[some d,some d,none,none])=res->aw cl [] (.cons (.ret (.and (.cmp .eq (.bi .len (.var 0)) (.bi .len (.var 1))) (.bi .all (.compA (.call fs (.cons (.var 2) (.cons (.var 3) .nil))) [2,3] (.zip (.var 0) (.var 1)))))) .nil) [some d,some d,none,none]=res:=fun e=>(az (aU (ay (aY (aa rfl) ln) (aY (aa rfl) ln) lq) (aY (jn (wF (aa rfl) (aa rfl) it it rfl) lz mc) al)) rfl).trans e;rcases hd with rfl | rfl
 ·exact aM rfl rfl (jr rfl rfl rfl rfl rfl (aj (aH (aU (aT (k:=false) (cE (aa rfl) rfl)) (aT (k:=true) (cE (aa rfl) rfl)))) (tl rfl)))
 ·exact aM rfl rfl (jr rfl rfl rfl rfl rfl (aj (aH (bH (aT (k:=true) (cE (aa rfl) rfl)))) (tl rfl)))
end RM
set_option maxHeartbeats 1000000
namespace RM
open RL RT
section
end
end RM
set_option maxHeartbeats 1000000
namespace RM
open RL RT
section
end
structure Dg(T:List Fn)(mx rw dg:Nat):Prop where
 Dt:T[mx]?=some iU
 D3:T[rw]?=some (iJ mx)
 D6:T[dg]?=some (dZ rw)
def Dg.digits{T:List Fn}{mx rw dg:Nat}(h:Dg T mx rw dg){ns:List Int}(hl:ns.length<=63)(n:Nat){k:Nat}{sizes:List Nat}(hk:k<=1000)(hp:∀ s∈sizes,0<s/\s<2 ^ 200)(hz:sizes.length<=1000) :
  ∃ ds:List Nat,ja ds sizes/\ao T (n+3) dg [.lst (LI ns),.int k,.lst (L sizes)]=some (.lst (L ds)):=by
 obtain⟨r,hr⟩:=xU (cl:=ao T (n+1)) (f:=mx) (fun s=>by
  obtain⟨m,hm⟩:=yq (cl:=ao T n) s
  exact⟨m,(aA h.Dt).trans hm⟩) hl hk
 obtain⟨ds,h1,h2⟩:=qE (cl:=ao T (n+2)) (f:=rw) ((aA h.D3).trans hr) hp hz;exact⟨ds,h1,(aA h.D6).trans h2⟩
section
variable{T:List Fn}{mx rw dg pl hk ci ft tx rg hu ov fr:Nat}
end
section
variable{T:List Fn}{nu pc pa nb un if' cf po rp ir mv:Nat}
end
def same_str{cl:Cl}{fs:Nat}(x:PySem.Str):evF cl (bM fs) [.str x,.str x]=some (.bl true):=lr rfl rfl rfl rfl rfl rfl (show some (x == x)=some true by rw[beq_self_eq_true])
end RM
set_option maxHeartbeats 1000000
namespace K32
open RL RT
abbrev iq(f_walked:Nat):Fn :=
 ⟨4,4,[],[],(.cons (.ret (.call f_walked (.cons (.var 0) (.cons (.var 1) (.cons (.var 2) (.cons (.lst (.cons (.var 3) .nil)) .nil)))))) .nil)⟩
abbrev dR(f_has_places:Nat):Fn :=
 ⟨3,3,[],[],(.cons (.ife (.or (.not (.call f_has_places (.cons (.var 1) (.cons (.var 2) (.cons (.cst (.int 2)) .nil))))) (.cmp .lt (.bi .abs (.bin .sub (.ix (.var 1) (.var 2)) (.ix (.var 1) (.bin .add (.var 2) (.cst (.int 1)))))) (.cst (.int 2)))) (.cons (.ret (.cst .non)) .nil) .nil) (.cons (.ret (.tup (.cons (.var 0) (.cons (.frz (.bin .add (.bin .add (.slT (.var 1) (.var 2)) (.lst (.cons (.ix (.var 1) (.bin .add (.var 2) (.cst (.int 1)))) (.cons (.ix (.var 1) (.var 2)) .nil)))) (.slF (.var 1) (.bin .add (.var 2) (.cst (.int 2)))))) .nil)))) .nil))⟩
abbrev dX(f_has_places:Nat):Fn :=
 ⟨3,3,[],[],(.cons (.ife (.or (.not (.call f_has_places (.cons (.var 1) (.cons (.var 2) (.cons (.cst (.int 2)) .nil))))) (.cmp .ne (.ix (.var 1) (.var 2)) (.ix (.var 1) (.bin .add (.var 2) (.cst (.int 1)))))) (.cons (.ret (.cst .non)) .nil) .nil) (.cons (.ret (.tup (.cons (.bin .add (.var 0) (.cst (.int 1))) (.cons (.frz (.bin .add (.slT (.var 1) (.var 2)) (.slF (.var 1) (.bin .add (.var 2) (.cst (.int 1)))))) .nil)))) .nil))⟩
abbrev dW(f_has_places:Nat):Fn :=
 ⟨3,3,[],[],(.cons (.ife (.or (.not (.call f_has_places (.cons (.var 1) (.cons (.var 2) (.cons (.cst (.int 1)) .nil))))) (.cmp .lt (.var 0) (.cst (.int 1)))) (.cons (.ret (.cst .non)) .nil) .nil) (.cons (.ret (.tup (.cons (.bin .sub (.var 0) (.cst (.int 1))) (.cons (.frz (.bin .add (.bin .add (.slT (.var 1) (.var 2)) (.lst (.cons (.ix (.var 1) (.var 2)) .nil))) (.slF (.var 1) (.var 2)))) .nil)))) .nil))⟩
abbrev cB(f_has_places:Nat):Fn :=
 ⟨3,3,[],[],(.cons (.ife (.or (.not (.call f_has_places (.cons (.var 1) (.cons (.var 2) (.cons (.cst (.int 3)) .nil))))) (.or (.cmp .ne (.ix (.var 1) (.var 2)) (.ix (.var 1) (.bin .add (.var 2) (.cst (.int 2))))) (.cmp .ne (.bi .abs (.bin .sub (.ix (.var 1) (.var 2)) (.ix (.var 1) (.bin .add (.var 2) (.cst (.int 1)))))) (.cst (.int 1))))) (.cons (.ret (.cst .non)) .nil) .nil) (.cons (.ret (.tup (.cons (.var 0) (.cons (.frz (.bin .add (.slT (.var 1) (.bin .add (.var 2) (.cst (.int 1)))) (.slF (.var 1) (.bin .add (.var 2) (.cst (.int 3)))))) .nil)))) .nil))⟩
abbrev eE(f_is_hook f_has_places:Nat):Fn :=
 ⟨5,5,[],[],(.cons (.ife (.or (.not (.call f_has_places (.cons (.var 2) (.cons (.var 3) (.cons (.cst (.int 1)) .nil))))) (.or (.not (.call f_is_hook (.cons (.var 0) (.cons (.var 4) .nil)))) (.cmp .ne (.bi .abs (.bin .sub (.ix (.var 2) (.var 3)) (.var 4))) (.cst (.int 1))))) (.cons (.ret (.cst .non)) .nil) .nil) (.cons (.ret (.tup (.cons (.var 1) (.cons (.frz (.bin .add (.bin .add (.slT (.var 2) (.bin .add (.var 3) (.cst (.int 1)))) (.lst (.cons (.var 4) (.cons (.ix (.var 2) (.var 3)) .nil)))) (.slF (.var 2) (.bin .add (.var 3) (.cst (.int 1)))))) .nil)))) .nil))⟩
abbrev cy(f_swapped f_dropped f_doubled f_shortened f_grown:Nat):Fn :=
 ⟨3,8,[],[],(.cons (.unp [3,4] (.var 1)) (.cons (.star 5 7 (.var 2)) (.cons (.ife (.and (.cmp .eq (.var 5) (.cst (.str "grow"))) (.cmp .eq (.bi .len (.var 7)) (.cst (.int 2)))) (.cons (.ret (.call f_grown (.cons (.var 0) (.cons (.var 3) (.cons (.var 4) (.cons (.ix (.var 7) (.cst (.int 0))) (.cons (.ix (.var 7) (.cst (.int 1))) .nil))))))) .nil) .nil) (.cons (.ife (.and (.inG "TRADES_AT_A_PLACE" ["swap", "drop", "double", "cut"] (.var 5)) (.cmp .eq (.bi .len (.var 7)) (.cst (.int 1)))) (.act 6 "TRADES_AT_A_PLACE" [("swap",f_swapped),("drop",f_dropped),("double",f_doubled),("cut",f_shortened)] (.var 5) (.cons (.var 3) (.cons (.var 4) (.cons (.ix (.var 7) (.cst (.int 0))) .nil)))) .nil) (.cons (.ret (.cst .non)) .nil)))))⟩
abbrev fM(f_is_number:Nat):Fn :=
 ⟨3,3,[],[],(.cons (.ret (.and (.call f_is_number (.cons (.var 1) .nil)) (.chain .le .le (.cst (.int 0)) (.var 1) (.bin .sub (.bi .len (.var 0)) (.var 2))))) .nil)⟩
abbrev aZ:Fn :=
 ⟨3,9,[],[],(.cons (.unp [3,4] (.var 1)) (.cons (.par 5 6 (.ix (.var 2) (.cst (.int 0))) (.ix (.var 2) (.cst (.int 1)))) (.cons (.ife (.or (.not (.chain .le .lt (.cst (.int 0)) (.var 6) (.bi .len (.var 4)))) (.cmp .ne (.bi .len (.var 2)) (.bin .add (.cst (.int 2)) (.bi .int (.cmp .eq (.var 5) (.cst (.str "grow"))))))) (.cons (.ret (.cst .non)) .nil) .nil) (.cons (.parL 7 8 (.ix (.var 4) (.var 6)) (.slF (.var 4) (.bin .add (.var 6) (.cst (.int 1))))) (.cons (.ife (.and (.cmp .eq (.var 5) (.cst (.str "double"))) (.cmp .gt (.var 3) (.cst (.int 0)))) (.cons (.ret (.tup (.cons (.bin .sub (.var 3) (.cst (.int 1))) (.cons (.frz (.bin .add (.bin .add (.slT (.var 4) (.bin .add (.var 6) (.cst (.int 1)))) (.lst (.cons (.var 7) .nil))) (.var 8))) .nil)))) .nil) .nil) (.cons (.ife (.and (.cmp .eq (.var 5) (.cst (.str "grow"))) (.and (.chain .le .lt (.cst (.int 0)) (.ix (.var 2) (.cst (.int 2))) (.bin .sub (.var 0) (.cst (.int 1)))) (.inn false (.ix (.var 2) (.cst (.int 2))) (.tup (.cons (.bin .sub (.var 7) (.cst (.int 1))) (.cons (.bin .add (.var 7) (.cst (.int 1))) .nil)))))) (.cons (.ret (.tup (.cons (.var 3) (.cons (.frz (.bin .add (.bin .add (.slT (.var 4) (.bin .add (.var 6) (.cst (.int 1)))) (.lst (.cons (.ix (.var 2) (.cst (.int 2))) (.cons (.var 7) .nil)))) (.var 8))) .nil)))) .nil) .nil) (.cons (.ife (.and (.cmp .eq (.var 5) (.cst (.str "swap"))) (.and (.cmp .ne (.var 8) (.lst .nil)) (.inn true (.ix (.var 8) (.cst (.int 0))) (.tup (.cons (.bin .sub (.var 7) (.cst (.int 1))) (.cons (.var 7) (.cons (.bin .add (.var 7) (.cst (.int 1))) .nil))))))) (.cons (.ret (.tup (.cons (.var 3) (.cons (.frz (.bin .add (.bin .add (.slT (.var 4) (.var 6)) (.lst (.cons (.ix (.var 8) (.cst (.int 0))) (.cons (.var 7) .nil)))) (.slF (.var 8) (.cst (.int 1))))) .nil)))) .nil) .nil) (.cons (.ife (.and (.cmp .eq (.var 5) (.cst (.str "drop"))) (.and (.cmp .ne (.var 8) (.lst .nil)) (.cmp .eq (.ix (.var 8) (.cst (.int 0))) (.var 7)))) (.cons (.ret (.tup (.cons (.bin .add (.var 3) (.cst (.int 1))) (.cons (.frz (.bin .add (.slT (.var 4) (.bin .add (.var 6) (.cst (.int 1)))) (.slF (.var 8) (.cst (.int 1))))) .nil)))) .nil) .nil) (.cons (.ife (.and (.cmp .eq (.var 5) (.cst (.str "cut"))) (.and (.cmp .gt (.bi .len (.var 8)) (.cst (.int 1))) (.and (.cmp .eq (.ix (.var 8) (.cst (.int 1))) (.var 7)) (.inn false (.ix (.var 8) (.cst (.int 0))) (.tup (.cons (.bin .sub (.var 7) (.cst (.int 1))) (.cons (.bin .add (.var 7) (.cst (.int 1))) .nil))))))) (.cons (.ret (.tup (.cons (.var 3) (.cons (.frz (.bin .add (.slT (.var 4) (.bin .add (.var 6) (.cst (.int 1)))) (.slF (.var 8) (.cst (.int 2))))) .nil)))) .nil) .nil) (.cons (.ret (.cst .non)) .nil))))))))))⟩
abbrev dA(f_law_after f_law_digits:Nat):Ss :=
 (.cons (.asg 5 (.bin .add (.var 5) (.compA (.tup (.cons (.var 12) (.cons (.var 6) .nil))) [12] (.seq (.tup (.cons (.cst (.str "swap")) (.cons (.cst (.str "drop")) (.cons (.cst (.str "cut")) (.cons (.cst (.str "double")) .nil))))))))) (.cons (.asg 5 (.bin .add (.var 5) (.compA (.tup (.cons (.cst (.str "grow")) (.cons (.var 6) (.cons (.bin .add (.ix (.ix (.var 3) (.cst (.int 1))) (.var 6)) (.var 13)) .nil)))) [13] (.seq (.tup (.cons (.neg (.cst (.int 1))) (.cons (.cst (.int 1)) .nil))))))) .nil))
abbrev fS(f_law_after f_law_digits:Nat):Fn :=
 ⟨4,14,[],[],(.cons (.unp [7,4,8,9] (.call f_law_digits (.cons (.var 0) (.cons (.var 1) (.cons (.lst (.cons (.cst (.int 14)) (.cons (.bin .add (.bi .len (.ix (.var 3) (.cst (.int 1)))) (.cst (.int 2))) (.cons (.cst (.int 10)) (.cons (.bin .pow (.cst (.int 10)) (.cst (.int 20))) .nil))))) .nil))))) (.cons (.asg 4 (.bin .sub (.var 4) (.cst (.int 1)))) (.cons (.asg 5 (.lst .nil)) (.cons (.forr [6] (.rng1 (.bi .len (.ix (.var 3) (.cst (.int 1))))) (dA f_law_after f_law_digits)) (.cons (.asg 5 (.comp (.var 11) [11] (.seq (.var 5)) (.isN true (.call f_law_after (.cons (.var 2) (.cons (.var 3) (.cons (.var 11) .nil))))))) (.cons (.ife (.and (.cmp .lt (.var 7) (.cst (.int 9))) (.cmp .ne (.var 5) (.lst .nil))) (.cons (.ret (.ix (.var 5) (.bin .mod (.var 9) (.bi .len (.var 5))))) .nil) .nil) (.cons (.ife (.cmp .eq (.var 7) (.cst (.int 9))) (.cons (.ret (.tup (.cons (.cst (.str "grow")) (.cons (.var 4) (.cons (.ix (.lst (.cons (.bin .sub (.var 8) (.cst (.int 1))) (.cons (.var 9) (.cons (.bin .sub (.cst (.int 0)) (.var 9)) .nil)))) (.bin .mod (.var 9) (.cst (.int 3)))) .nil))))) .nil) .nil) (.cons (.ife (.cmp .eq (.var 7) (.cst (.int 10))) (.cons (.asg 10 (.lst (.cons (.tup (.cons (.cst (.str "grow")) (.cons (.var 4) .nil))) (.cons (.tup (.cons (.cst (.str "swap")) (.cons (.var 4) (.cons (.cst (.int 0)) .nil)))) (.cons (.tup (.cons (.cst (.str "")) (.cons (.var 4) .nil))) (.cons (.tup (.cons (.cst (.str "Swap")) (.cons (.var 4) .nil))) (.cons (.tup (.cons (.cst (.str "drop")) (.cons (.var 9) .nil))) (.cons (.tup (.cons (.cst (.str "cut")) (.cons (.bin .sub (.cst (.int 0)) (.var 9)) .nil))) .nil)))))))) (.cons (.ret (.ix (.bin .add (.var 10) (.lst (.cons (.tup (.cons (.cst (.str "drop")) (.cons (.var 4) (.cons (.cst (.int 0)) .nil)))) (.cons (.tup (.cons (.cst (.str "double")) (.cons (.var 4) (.cons (.cst (.int 0)) .nil)))) (.cons (.tup (.cons (.cst (.str "cut")) (.cons (.var 4) (.cons (.cst (.int 0)) .nil)))) .nil))))) (.bin .mod (.var 9) (.cst (.int 9))))) .nil)) .nil) (.cons (.ret (.tup (.cons (.ix (.lst (.cons (.cst (.str "swap")) (.cons (.cst (.str "drop")) (.cons (.cst (.str "cut")) (.cons (.cst (.str "double")) .nil))))) (.bin .mod (.var 9) (.cst (.int 4)))) (.cons (.var 4) .nil)))) .nil)))))))))⟩
open RM
section
variable{cl:Cl}
def bX(h:ev cl σ a=some (.lst xs))(tf:aG a=true)(im:aB xs=true):ev cl σ (.frz a)=some (.fL xs):=by
 show(ev cl σ a).bind _=_;rw[h,Option.bind_some,if_pos tf];exact if_pos im
def lZ(h:ev cl σ a=some (.str w)):ev cl σ (.inG g ks a)=some (.bl (ks.any fun k=>decide (k=w))):=by
 show(ev cl σ a).bind _=_;rw[h];rfl
def pD(h:ev cl σ e=some x)(h':ev cl σ e'=some y)(ok:(x.imm&&(aX y&&aG e'))=true)(k:aw cl M r ((σ.set i (some x)).set j (some y))=res):aw cl M (.cons (.parL i j e e') r) σ=res :=
 dD (by
  show(ev cl σ e).bind _=_;rw[h,Option.bind_some,h',Option.bind_some]
  exact if_pos ok) k
def gS(h:ev cl σ e=some (.tup (d::ds)))(im:(d.imm&&aB ds)=true)(k:aw cl M r ((σ.set i (some d)).set j (some (.fL ds)))=res):aw cl M (.cons (.star i j e) r) σ=res :=
 dD (by
  show((ev cl σ e).bind mj).map _=_;rw[h,Option.bind_some,show mj (.tup (d::ds))=if(d.imm&&aB ds)=true then some (d,.fL ds)else none from rfl,if_pos im]
  rfl) k
def tN(h:ev cl σ a=some x)(hf:fH tbl x=some f)(he:evs cl (σ.set i none) es=some ds)(hc:cl f ds=some d)(im:d.imm=true):aw cl M (.act i g tbl a es) σ=some (.rt d,σ):=by
 show((ev cl σ a).bind (fH tbl)).bind _=_;rw[h,Option.bind_some,hf,Option.bind_some,he,Option.bind_some,hc,Option.bind_some];exact if_pos im
def weq(x:PySem.Str):bh .eq (.str x) (.str x)=some true:=by
 show some (x == x)=_;rw[beq_self_eq_true]
def wne{x y:PySem.Str}(h:x≠y):bh .eq (.str x) (.str y)=some false:=by
 show some (x == y)=_;rw[beq_eq_false_iff_ne.mpr h]
end
def kv{xs:List Nat}{k x:Nat}(h:xs[k]?=some x):ixV (.fL (L xs)) (.int (k:Nat))=some (.int (x:Nat)):=by
 show(if aB (L xs)=true then bJ (L xs) (k:Nat)else none)=_;rw[if_pos (bb xs)];unfold bJ L;rw[if_pos (Int.natCast_nonneg k),Int.toNat_natCast,List.getElem?_map,h];rfl
def rA{xs:List Nat}{k:Nat}(h:k<=xs.length):cutAt (L xs).length (k:Nat)=k:=by
 unfold cutAt;rw[if_pos (Int.natCast_nonneg k),Int.toNat_natCast,dF];omega
def xl{xs:List Nat}{k:Nat}(h:k<=xs.length):i6 (.fL (L xs)) (.int (k:Nat))=some (.lst (L (xs.take k))):=by
 show some (D.lst ((L xs).take (cutAt (L xs).length (k:Nat))))=_;rw[rA h,sx]
def sA(xs:List Nat)(n:Nat):(L xs).drop n=L (xs.drop n):=by simp[L]
def jq{xs:List Nat}{k:Nat}(h:k<=xs.length):da (.fL (L xs)) (.int (k:Nat))=some (.lst (L (xs.drop k))):=by
 show some (D.lst ((L xs).drop (cutAt (L xs).length (k:Nat))))=_;rw[rA h,sA]
def gZ{xs:List Nat}{k:Nat}(h:k<=xs.length):da (.lst (L xs)) (.int (k:Nat))=some (.lst (L (xs.drop k))):=by
 show some (D.lst ((L xs).drop (cutAt (L xs).length (k:Nat))))=_;rw[rA h,sA]
def bI{a b:List Nat}(h:a.length+b.length<=50000):aQ .add (.lst (L a)) (.lst (L b))=some (.lst (L (a++b))):=by
 rw[vR,if_pos (by rw[dF,dF];unfold most;omega)];simp[L]
def km(xs:List Nat):biV .len (.fL (L xs))=some (.int (xs.length:Nat)):=by
 show some (D.int ((L xs).length:Nat))=_;rw[dF]
def mq(xs:List Nat):biV .len (.lst (L xs))=some (.int (xs.length:Nat)):=by
 show some (D.int ((L xs).length:Nat))=_;rw[dF]
abbrev prF(r:Nat)(row:List Nat):D:=.tup [.int (r:Nat),.fL (L row)]
def cW(r:Nat)(row:List Nat):(prF r row).imm=true:=by simp[prF,D.imm,aB,bb]
inductive Stp (n:Nat):Nat->List Nat->PySem.Str->Int->List Int->Nat->List Nat->Prop
 | swap {r:Nat} {p q:List Nat} {h x:Nat}:(h+1<x\/x+1<h)->Stp n r (p++h::x::q) "swap" (p.length:Nat) [] r (p++x::h::q)
 | drop {r:Nat} {p q:List Nat} {h:Nat}:Stp n r (p++h::h::q) "drop" (p.length:Nat) [] (r+1) (p++h::q)
 | dbl {r:Nat} {p q:List Nat} {h:Nat}:Stp n (r+1) (p++h::q) "double" (p.length:Nat) [] r (p++h::h::q)
 | cut {r:Nat} {p q:List Nat} {h x:Nat}:(x=h+1\/h=x+1)->Stp n r (p++h::x::h::q) "cut" (p.length:Nat) [] r (p++h::q)
 | grow {r:Nat} {p q:List Nat} {h b:Nat}:b+1<n->(b=h+1\/h=b+1)->Stp n r (p++h::q) "grow" (p.length:Nat) [((b:Nat):Int)] r (p++h::b::h::q)
abbrev trD(w:PySem.Str)(a:Int)(bs:List Int):D:=.tup (.str w :: .int a::bs.map .int)
def gJ:∀ (w:PySem.Str) (a:Int) (bs:List Int),(trD w a bs).imm=true:=fun w a bs=>by
 have:∀ bs:List Int,aB (bs.map D.int)=true:=fun bs=>by
  induction bs with
  | nil=>rfl
  | cons b r ih=>rw[List.map_cons,aB,ih];rfl
 simp[trD,D.imm,aB,this]
end K32
set_option maxHeartbeats 1000000
namespace K32
open RL RT RM
section
variable{cl:Cl}{n r:Nat}{row:List Nat}
def pK{a:Int}(h0:0<=a)(h1:a<(row.length:Nat)):∃ p h q,row=p++h::q/\a=((p.length:Nat):Int):=by
 have hk:a.toNat<row.length:=by omega
 refine⟨row.take a.toNat,row[a.toNat],row.drop (a.toNat+1),?_,?_⟩
 ·rw[<-List.drop_eq_getElem_cons hk,List.take_append_drop]
 ·rw[List.length_take];omega
def nO{a:Int}(h:¬ (0<=a/\a<(row.length:Nat)))(h6:(σ[6]?).bind id=some (.int a))(h4:(σ[4]?).bind id=some (.fL (L row))):ev cl σ (.chain .le .lt (.cst (.int 0)) (.var 6) (.bi .len (.var 4)))=some (.bl false):=by
 by_cases h0:0<=a
 ·exact gH ae (aa h6) (aY (aa h4) (km row)) (by show some (decide _)=_;rw[decide_eq_true h0]) (by show some (decide _)=_;rw[decide_eq_false (by omega)])
 ·exact hV ae (aa h6) (by show some (decide _)=_;rw[decide_eq_false h0])
def oU{a:Int}(h:0<=a/\a<(row.length:Nat))(h6:(σ[6]?).bind id=some (.int a))(h4:(σ[4]?).bind id=some (.fL (L row))):ev cl σ (.chain .le .lt (.cst (.int 0)) (.var 6) (.bi .len (.var 4)))=some (.bl true) :=
 gH ae (aa h6) (aY (aa h4) (km row)) (by show some (decide _)=_;rw[decide_eq_true h.1]) (by show some (decide _)=_;rw[decide_eq_true h.2])
def in2(x h:Nat):inV (.int (x:Nat)) (.tup [.int ((h:Int)-1),.int ((h:Int)+1)])=some (decide (x=h+1\/h=x+1)):=by
 show some (((h:Int)-1 == (x:Int)) || (((h:Int)+1 == (x:Int)) || false))=_;congr 1;rw[Bool.eq_iff_iff];simp;omega
def in3(x h:Nat):inV (.int (x:Nat)) (.tup [.int ((h:Int)-1),.int (h:Nat),.int ((h:Int)+1)])=some (!decide (h+1<x\/x+1<h)):=by
 show some (((h:Int)-1 == (x:Int)) || ((((h:Nat):Int) == (x:Int)) || (((h:Int)+1 == (x:Int)) || false)))=_;congr 1;rw[Bool.eq_iff_iff];simp;omega
def r8(b:Int)(h:Nat):inV (.int b) (.tup [.int ((h:Int)-1),.int ((h:Int)+1)])=some (decide (b=h-1\/b=h+1)):=by
 show some (((h:Int)-1 == b) || (((h:Int)+1 == b) || false))=_;congr 1;rw[Bool.eq_iff_iff];simp;omega
abbrev A5:Ss :=
 (.cons (.ife (.and (.cmp .eq (.var 5) (.cst (.str "double"))) (.cmp .gt (.var 3) (.cst (.int 0)))) (.cons (.ret (.tup (.cons (.bin .sub (.var 3) (.cst (.int 1))) (.cons (.frz (.bin .add (.bin .add (.slT (.var 4) (.bin .add (.var 6) (.cst (.int 1)))) (.lst (.cons (.var 7) .nil))) (.var 8))) .nil)))) .nil) .nil) (.cons (.ife (.and (.cmp .eq (.var 5) (.cst (.str "grow"))) (.and (.chain .le .lt (.cst (.int 0)) (.ix (.var 2) (.cst (.int 2))) (.bin .sub (.var 0) (.cst (.int 1)))) (.inn false (.ix (.var 2) (.cst (.int 2))) (.tup (.cons (.bin .sub (.var 7) (.cst (.int 1))) (.cons (.bin .add (.var 7) (.cst (.int 1))) .nil)))))) (.cons (.ret (.tup (.cons (.var 3) (.cons (.frz (.bin .add (.bin .add (.slT (.var 4) (.bin .add (.var 6) (.cst (.int 1)))) (.lst (.cons (.ix (.var 2) (.cst (.int 2))) (.cons (.var 7) .nil)))) (.var 8))) .nil)))) .nil) .nil) (.cons (.ife (.and (.cmp .eq (.var 5) (.cst (.str "swap"))) (.and (.cmp .ne (.var 8) (.lst .nil)) (.inn true (.ix (.var 8) (.cst (.int 0))) (.tup (.cons (.bin .sub (.var 7) (.cst (.int 1))) (.cons (.var 7) (.cons (.bin .add (.var 7) (.cst (.int 1))) .nil))))))) (.cons (.ret (.tup (.cons (.var 3) (.cons (.frz (.bin .add (.bin .add (.slT (.var 4) (.var 6)) (.lst (.cons (.ix (.var 8) (.cst (.int 0))) (.cons (.var 7) .nil)))) (.slF (.var 8) (.cst (.int 1))))) .nil)))) .nil) .nil) (.cons (.ife (.and (.cmp .eq (.var 5) (.cst (.str "drop"))) (.and (.cmp .ne (.var 8) (.lst .nil)) (.cmp .eq (.ix (.var 8) (.cst (.int 0))) (.var 7)))) (.cons (.ret (.tup (.cons (.bin .add (.var 3) (.cst (.int 1))) (.cons (.frz (.bin .add (.slT (.var 4) (.bin .add (.var 6) (.cst (.int 1)))) (.slF (.var 8) (.cst (.int 1))))) .nil)))) .nil) .nil) (.cons (.ife (.and (.cmp .eq (.var 5) (.cst (.str "cut"))) (.and (.cmp .gt (.bi .len (.var 8)) (.cst (.int 1))) (.and (.cmp .eq (.ix (.var 8) (.cst (.int 1))) (.var 7)) (.inn false (.ix (.var 8) (.cst (.int 0))) (.tup (.cons (.bin .sub (.var 7) (.cst (.int 1))) (.cons (.bin .add (.var 7) (.cst (.int 1))) .nil))))))) (.cons (.ret (.tup (.cons (.var 3) (.cons (.frz (.bin .add (.slT (.var 4) (.bin .add (.var 6) (.cst (.int 1)))) (.slF (.var 8) (.cst (.int 2))))) .nil)))) .nil) .nil) (.cons (.ret (.cst .non)) .nil))))))
abbrev s9(n r:Nat)(p:List Nat)(h:Nat)(q:List Nat)(w:PySem.Str)(bs:List Int):St:=[some (.int (n:Nat)),some (prF r (p++h::q)),some (trD w (p.length:Nat) bs),some (.int (r:Nat)),some (.fL (L (p++h::q))),some (.str w),some (.int (p.length:Nat)),some (.int (h:Nat)),some (.lst (L q))]
section
variable{p q:List Nat}{h:Nat}{w:PySem.Str}{bs:List Int}
def b1:aQ .add (.int (p.length:Nat)) (.int 1)=some (.int ((p.length+1:Nat):Int)):=rfl
def tk1:i6 (.fL (L (p++h::q))) (.int ((p.length+1:Nat):Int))=some (.lst (L (p++[h]))):=by
 rw[xl (by simp)]
 have e:(p++h::q).take (p.length+1)=p++[h]:=by
  rw[show p++h::q=(p++[h])++q by simp,List.take_left' (by simp)]
 rw[e]
def tk0:i6 (.fL (L (p++h::q))) (.int (p.length:Nat))=some (.lst (L p)):=by
 rw[xl (by simp),List.take_left' rfl]
def no(x:PySem.Str)(hx:w≠x)(e:E)(σ:St)(h5:(σ[5]?).bind id=some (.str w)):(ev cl σ (.and (.cmp .eq (.var 5) (.cst (.str x))) e)).bind truth=some false:=aH (bH (ay (aa h5) ae (wne hx)))
def no2(x:PySem.Str)(e:E)(σ:St)(h5:(σ[5]?).bind id=some (.str x))(h:ev cl σ e=some (.bl false)):(ev cl σ (.and (.cmp .eq (.var 5) (.cst (.str x))) e)).bind truth=some false:=aH (aU (ay (aa h5) ae (weq x)) h)
def yes(x:PySem.Str)(e:E)(σ:St)(h5:(σ[5]?).bind id=some (.str x))(h:ev cl σ e=some (.bl true)):(ev cl σ (.and (.cmp .eq (.var 5) (.cst (.str x))) e)).bind truth=some true:=aH (aU (ay (aa h5) ae (weq x)) h)
def de{r':Nat}{row':List Nat}{xs:List Nat}(e:xs=row'):D.tup [.int (r':Nat),.fL (L xs)]=prF r' row':=by rw[e];rfl
def rk{e:E}(r':Nat)(xs:List Nat):cq [] e (.tup [.int (r':Nat),.fL (L xs)])=true:=by
 unfold cq;rw[show(D.tup [.int (r':Nat),.fL (L xs)]).imm=true from cW r' xs];rfl
def ff:bh .ne (.lst (L q)) (.lst [])=some (!q.isEmpty):=ne_nil q
def j8(hz:(p++h::q).length<=5000)(hn:1<=n)(b:Int):aw cl [] A5 (s9 n r p h q "grow" [b])=some (.rt .non,s9 n r p h q "grow" [b])\/∃ r' row',Stp n r (p++h::q) "grow" (p.length:Nat) [b] r' row'/\aw cl [] A5 (s9 n r p h q "grow" [b])=some (.rt (prF r' row'),s9 n r p h q "grow" [b]):=by
 have hz:p.length+(q.length+1)<=5000:=by simpa using hz
 have i2:ev cl (s9 n r p h q "grow" [b]) (.ix (.var 2) (.cst (.int 2)))=some (.int b):=aO (aa rfl) ae rfl;have tp:ev cl (s9 n r p h q "grow" [b]) (.tup (.cons (.bin .sub (.var 7) (.cst (.int 1))) (.cons (.bin .add (.var 7) (.cst (.int 1))) .nil)))=some (.tup [.int ((h:Int)-1),.int ((h:Int)+1)]):=aR (ah (ak (aa rfl) ae rfl) (ah (ak (aa rfl) ae rfl) ax));have bn:aQ .sub (.int (n:Nat)) (.int 1)=some (.int ((n:Int)-1)):=rfl
 have c1:ev cl (s9 n r p h q "grow" [b]) (.chain .le .lt (.cst (.int 0)) (.ix (.var 2) (.cst (.int 2))) (.bin .sub (.var 0) (.cst (.int 1))))=some (.bl (decide (0<=b/\b<(n:Int)-1))):=by
  by_cases hb0:0<=b
  ·rw[gH ae i2 (ak (aa rfl) ae bn) (by show some (decide _)=_;rw[decide_eq_true hb0]) (k:=decide (b<(n:Int)-1)) rfl];simp[hb0]
  ·rw[hV ae i2 (by show some (decide _)=_;rw[decide_eq_false hb0])];simp[hb0]
 have n1:=fun e=>no (cl:=cl) (w := "grow") "double" (by decide) e (s9 n r p h q "grow" [b]) rfl;by_cases k1:0<=b/\b<(n:Int)-1
 ·rw[decide_eq_true k1]at c1;by_cases k2:b=h-1\/b=h+1
  ·obtain⟨m,rfl⟩:∃ m:Nat,b=(m:Nat):=⟨b.toNat,by omega⟩
   have c2:=gw (n:=false) i2 tp ((r8 m h).trans (by rw[decide_eq_true k2]));refine .inr ⟨r,p++h::m::h::q,.grow (by omega) (by omega),?_⟩;rw[<-de (xs:=(p++[h])++[m,h]++q) (by simp)];exact aj (n1 _) (aK (yes "grow" _ _ rfl (aU c1 c2)) (az (aR (ah (aa rfl) (ah (bX (ak (ak (cI (aa rfl) (ak (aa rfl) ae b1) tk1) (bc (ah i2 (ah (aa rfl) ax))) (bI (b:=[m,h]) (by simp;omega))) (aa rfl) (bI (by simp;omega))) rfl (bb _)) ax))) (rk _ _)))
  ·have c2:=gw (n:=false) i2 tp ((r8 b h).trans (by rw[decide_eq_false k2]));exact .inl (aj (n1 _) (aj (no2 "grow" _ _ rfl (aU c1 c2)) (aj (no "swap" (by decide) _ _ rfl) (aj (no "drop" (by decide) _ _ rfl) (aj (no "cut" (by decide) _ _ rfl) (az ae rfl))))))
 ·rw[decide_eq_false k1]at c1;exact .inl (aj (n1 _) (aj (no2 "grow" _ _ rfl (bH c1)) (aj (no "swap" (by decide) _ _ rfl) (aj (no "drop" (by decide) _ _ rfl) (aj (no "cut" (by decide) _ _ rfl) (az ae rfl))))))
def kQ(hz:(p++h::q).length<=5000)(hg:w ≠ "grow"):aw cl [] A5 (s9 n r p h q w [])=some (.rt .non,s9 n r p h q w [])\/∃ r' row',Stp n r (p++h::q) w (p.length:Nat) [] r' row'/\aw cl [] A5 (s9 n r p h q w [])=some (.rt (prF r' row'),s9 n r p h q w []):=by
 have hz:p.length+(q.length+1)<=5000:=by simpa using hz
 have nw:∀ (x:PySem.Str),w≠x->∀ e,(ev cl (s9 n r p h q w []) (.and (.cmp .eq (.var 5) (.cst (.str x))) e)).bind truth=some false:=fun x hx e=>no x hx e _ rfl;by_cases w1:w = "double"
 ·subst w1
  cases r with
  |zero=>
   have t:ev cl (s9 n 0 p h q "double" []) (.cmp .gt (.var 3) (.cst (.int 0)))=some (.bl false):=ay (aa rfl) ae rfl;exact .inl (aj (no2 "double" _ _ rfl t) (aj (nw "grow" hg _) (aj (nw "swap" (by decide) _) (aj (nw "drop" (by decide) _) (aj (nw "cut" (by decide) _) (az ae rfl))))))
  |succ r=>
   have t:ev cl (s9 n (r+1) p h q "double" []) (.cmp .gt (.var 3) (.cst (.int 0)))=some (.bl true):=ay (aa rfl) ae (by show some (decide _)=_;rw[decide_eq_true (by omega)])
   have bs:aQ .sub (.int ((r+1:Nat):Int)) (.int 1)=some (.int (r:Nat)):=by show some (D.int _)=_;congr 2;omega
   refine .inr ⟨r,p++h::h::q,.dbl,?_⟩;rw[<-de (xs:=(p++[h])++[h]++q) (by simp)];exact aK (yes "double" _ _ rfl t) (az (aR (ah (ak (aa rfl) ae bs) (ah (bX (ak (ak (cI (aa rfl) (ak (aa rfl) ae b1) tk1) (bc (ah (aa rfl) ax)) (bI (b:=[h]) (by simp;omega))) (aa rfl) (bI (by simp;omega))) rfl (bb _)) ax))) (rk _ _))
 by_cases w2:w = "swap"
 ·subst w2;have fin:∀ {e},ev cl (s9 n r p h q "swap" []) (.and (.cmp .ne (.var 8) (.lst .nil)) e)=some (.bl false)->(ev cl (s9 n r p h q "swap" []) (.and (.cmp .eq (.var 5) (.cst (.str "swap"))) (.and (.cmp .ne (.var 8) (.lst .nil)) e))).bind truth=some false:=fun t=>no2 "swap" _ _ rfl t
  cases q with
  | nil=>exact .inl (aj (nw "double" (by decide) _) (aj (nw "grow" hg _) (aj (fin (bH (ay (aa rfl) (bc ax) ff))) (aj (nw "drop" (by decide) _) (aj (nw "cut" (by decide) _) (az ae rfl))))))
  |cons x q=>
   have i0:ev cl (s9 n r p h (x::q) "swap" []) (.ix (.var 8) (.cst (.int 0)))=some (.int (x:Nat)):=aO (aa rfl) ae rfl;have tp:ev cl (s9 n r p h (x::q) "swap" []) (.tup (.cons (.bin .sub (.var 7) (.cst (.int 1))) (.cons (.var 7) (.cons (.bin .add (.var 7) (.cst (.int 1))) .nil))))=some (.tup [.int ((h:Int)-1),.int (h:Nat),.int ((h:Int)+1)]):=aR (ah (ak (aa rfl) ae rfl) (ah (aa rfl) (ah (ak (aa rfl) ae rfl) ax)));have c:=gw (n:=true) i0 tp (in3 x h);by_cases d:h+1<x\/x+1<h
   ·rw[decide_eq_true d]at c;have s1:da (.lst (L (x::q))) (.int 1)=some (.lst (L q)):=gZ (xs:=x::q) (k:=1) (by simp);refine .inr ⟨r,p++x::h::q,.swap d,?_⟩;rw[<-de (xs:=p++[x,h]++q) (by simp)];exact aj (nw "double" (by decide) _) (aj (nw "grow" hg _) (aK (yes "swap" _ _ rfl (aU (ay (aa rfl) (bc ax) ff) c)) (az (aR (ah (aa rfl) (ah (bX (ak (ak (cI (aa rfl) (aa rfl) tk0) (bc (ah i0 (ah (aa rfl) ax))) (bI (b:=[x,h]) (by simp at hz ⊢;omega))) (d7 (aa rfl) ae s1) (bI (by simp at hz ⊢;omega))) rfl (bb _)) ax))) (rk _ _))))
   ·rw[decide_eq_false d]at c;exact .inl (aj (nw "double" (by decide) _) (aj (nw "grow" hg _) (aj (fin (aU (ay (aa rfl) (bc ax) ff) c)) (aj (nw "drop" (by decide) _) (aj (nw "cut" (by decide) _) (az ae rfl))))))
 by_cases w3:w = "drop"
 ·subst w3
  cases q with
  | nil=>exact .inl (aj (nw "double" (by decide) _) (aj (nw "grow" hg _) (aj (nw "swap" (by decide) _) (aj (no2 "drop" _ _ rfl (bH (ay (aa rfl) (bc ax) ff))) (aj (nw "cut" (by decide) _) (az ae rfl))))))
  |cons x q=>
   have i0:ev cl (s9 n r p h (x::q) "drop" []) (.ix (.var 8) (.cst (.int 0)))=some (.int (x:Nat)):=aO (aa rfl) ae rfl;by_cases d:x=h
   ·subst d;have s1:da (.lst (L (x::q))) (.int 1)=some (.lst (L q)):=gZ (xs:=x::q) (k:=1) (by simp);have bs:aQ .add (.int (r:Nat)) (.int 1)=some (.int ((r+1:Nat):Int)):=rfl;refine .inr ⟨r+1,p++x::q,.drop,?_⟩;rw[<-de (xs:=(p++[x])++q) (by simp)];exact aj (nw "double" (by decide) _) (aj (nw "grow" hg _) (aj (nw "swap" (by decide) _) (aK (yes "drop" _ _ rfl (aU (ay (aa rfl) (bc ax) ff) (ay i0 (aa rfl) (by show some (_ == _)=_;rw[beq_self_eq_true])))) (az (aR (ah (ak (aa rfl) ae bs) (ah (bX (ak (cI (aa rfl) (ak (aa rfl) ae b1) tk1) (d7 (aa rfl) ae s1) (bI (by simp at hz ⊢;omega))) rfl (bb _)) ax))) (rk _ _)))))
   ·exact .inl (aj (nw "double" (by decide) _) (aj (nw "grow" hg _) (aj (nw "swap" (by decide) _) (aj (no2 "drop" _ _ rfl (aU (ay (aa rfl) (bc ax) ff) (ay i0 (aa rfl) (by show some (_ == _)=_;rw[beq_eq_false_iff_ne.mpr (by omega)])))) (aj (nw "cut" (by decide) _) (az ae rfl))))))
 by_cases w4:w = "cut"
 ·subst w4;have hd:∀ {res},aw cl [] (.cons (.ife (.and (.cmp .eq (.var 5) (.cst (.str "cut"))) (.and (.cmp .gt (.bi .len (.var 8)) (.cst (.int 1))) (.and (.cmp .eq (.ix (.var 8) (.cst (.int 1))) (.var 7)) (.inn false (.ix (.var 8) (.cst (.int 0))) (.tup (.cons (.bin .sub (.var 7) (.cst (.int 1))) (.cons (.bin .add (.var 7) (.cst (.int 1))) .nil))))))) (.cons (.ret (.tup (.cons (.var 3) (.cons (.frz (.bin .add (.slT (.var 4) (.bin .add (.var 6) (.cst (.int 1)))) (.slF (.var 8) (.cst (.int 2))))) .nil)))) .nil) .nil) (.cons (.ret (.cst .non)) .nil)) (s9 n r p h q "cut" [])=res->aw cl [] A5 (s9 n r p h q "cut" [])=res:=fun k=>aj (nw "double" (by decide) _) (aj (nw "grow" hg _) (aj (nw "swap" (by decide) _) (aj (nw "drop" (by decide) _) k)));by_cases hl:1<q.length
  ·obtain⟨x,y,q,rfl⟩:∃ x y q',q=x::y::q':=by
    match q,hl with
    | x::y::q',_=>exact⟨x,y,q',rfl⟩
   have t0:ev cl (s9 n r p h (x::y::q) "cut" []) (.cmp .gt (.bi .len (.var 8)) (.cst (.int 1)))=some (.bl true):=ay (aY (aa rfl) (mq _)) ae (by show some (decide _)=_;rw[decide_eq_true (by simp;omega)]);have i1:ev cl (s9 n r p h (x::y::q) "cut" []) (.ix (.var 8) (.cst (.int 1)))=some (.int (y:Nat)):=aO (aa rfl) ae rfl;have i0:ev cl (s9 n r p h (x::y::q) "cut" []) (.ix (.var 8) (.cst (.int 0)))=some (.int (x:Nat)):=aO (aa rfl) ae rfl;by_cases d:y=h
   ·subst d;have t1:ev cl (s9 n r p y (x::y::q) "cut" []) (.cmp .eq (.ix (.var 8) (.cst (.int 1))) (.var 7))=some (.bl true):=ay i1 (aa rfl) (by show some (_ == _)=_;rw[beq_self_eq_true]);have tp:ev cl (s9 n r p y (x::y::q) "cut" []) (.tup (.cons (.bin .sub (.var 7) (.cst (.int 1))) (.cons (.bin .add (.var 7) (.cst (.int 1))) .nil)))=some (.tup [.int ((y:Int)-1),.int ((y:Int)+1)]):=aR (ah (ak (aa rfl) ae rfl) (ah (ak (aa rfl) ae rfl) ax));have c:=gw (n:=false) i0 tp (in2 x y);by_cases e:x=y+1\/y=x+1
    ·rw[decide_eq_true e]at c;have s1:da (.lst (L (x::y::q))) (.int 2)=some (.lst (L q)):=gZ (xs:=x::y::q) (k:=2) (by simp);refine .inr ⟨r,p++y::q,.cut e,?_⟩;rw[<-de (xs:=(p++[y])++q) (by simp)];exact hd (aK (yes "cut" _ _ rfl (aU t0 (aU t1 c))) (az (aR (ah (aa rfl) (ah (bX (ak (cI (aa rfl) (ak (aa rfl) ae b1) tk1) (d7 (aa rfl) ae s1) (bI (by simp at hz ⊢;omega))) rfl (bb _)) ax))) (rk _ _)))
    ·rw[decide_eq_false e]at c;exact .inl (hd (aj (no2 "cut" _ _ rfl (aU t0 (aU t1 c))) (az ae rfl)))
   ·have t1:ev cl (s9 n r p h (x::y::q) "cut" []) (.cmp .eq (.ix (.var 8) (.cst (.int 1))) (.var 7))=some (.bl false):=ay i1 (aa rfl) (by show some (_ == _)=_;rw[beq_eq_false_iff_ne.mpr (by omega)]);exact .inl (hd (aj (no2 "cut" _ _ rfl (aU t0 (bH t1))) (az ae rfl)))
  ·have t0:ev cl (s9 n r p h q "cut" []) (.cmp .gt (.bi .len (.var 8)) (.cst (.int 1)))=some (.bl false):=ay (aY (aa rfl) (mq _)) ae (by show some (decide _)=_;rw[decide_eq_false (by omega)]);exact .inl (hd (aj (no2 "cut" _ _ rfl (bH t0)) (az ae rfl)))
 exact .inl (aj (nw _ w1 _) (aj (nw _ hg _) (aj (nw _ w2 _) (aj (nw _ w3 _) (aj (nw _ w4 _) (az ae rfl))))))
end
end
end K32
set_option maxHeartbeats 1000000
namespace K32
open RL RT RM
section
variable{cl:Cl}{n r:Nat}{row:List Nat}{w:PySem.Str}{bs:List Int}
abbrev A3:Ss:=.cons (.ife (.or (.not (.chain .le .lt (.cst (.int 0)) (.var 6) (.bi .len (.var 4)))) (.cmp .ne (.bi .len (.var 2)) (.bin .add (.cst (.int 2)) (.bi .int (.cmp .eq (.var 5) (.cst (.str "grow"))))))) (.cons (.ret (.cst .non)) .nil) .nil) (.cons (.parL 7 8 (.ix (.var 4) (.var 6)) (.slF (.var 4) (.bin .add (.var 6) (.cst (.int 1))))) A5)
abbrev s7(n r:Nat)(row:List Nat)(w:PySem.Str)(a:Int)(bs:List Int):St:=[some (.int (n:Nat)),some (prF r row),some (trD w a bs),some (.int (r:Nat)),some (.fL (L row)),some (.str w),some (.int a),none,none]
def out{a:Int}{d:D}(k:aw cl [] A3 (s7 n r row w a bs)=some (.rt d,σ')):evF cl aZ [.int (n:Nat),prF r row,trD w a bs]=some d:=by
 have im2:aB [D.int (r:Nat),.fL (L row)]=true:=by simp[aB,D.imm,bb]
 exact aM (fn:=aZ) rfl rfl (eT (aa rfl) rfl im2 rfl (B0 (aO (aa rfl) ae rfl) (aO (aa rfl) ae rfl) rfl k))
def fg{a:Int}{k:Bool}(hk:bh .eq (.str w) (.str "grow")=some k):ev cl (s7 n r row w a bs) (.cmp .ne (.bi .len (.var 2)) (.bin .add (.cst (.int 2)) (.bi .int (.cmp .eq (.var 5) (.cst (.str "grow"))))))=some (.bl (!decide (bs.length=if k then 1 else 0))):=by
 refine ay (aY (aa rfl) (d:=.int ((bs.length+2:Nat):Int)) (by show some (D.int ((D.str w::D.int _::bs.map D.int).length:Nat))=_;rw[List.length_cons,List.length_cons,List.length_map])) (ak ae (aY (ay (aa rfl) ae hk) rfl) rfl) ?_;show some (!(_ == _))=_;congr 2;rw[Bool.eq_iff_iff,beq_iff_eq,decide_eq_true_eq];cases k
 ·show((bs.length+2:Nat):Int)=2+0↔bs.length=0;omega
 ·show((bs.length+2:Nat):Int)=2+1↔bs.length=1;omega
def jd(hz:row.length<=5000)(hn:1<=n)(w:PySem.Str)(a:Int)(bs:List Int)(hb:bs.length<=1) :
  evF cl aZ [.int (n:Nat),prF r row,trD w a bs]=some .non\/∃ r' row',Stp n r row w a bs r' row'/\evF cl aZ [.int (n:Nat),prF r row,trD w a bs]=some (prF r' row'):=by
 by_cases hp:0<=a/\a<(row.length:Nat)
 case neg=>exact .inl (out (aK (aH (fk (aT (nO hp rfl rfl)))) (az ae rfl)))
 have pl:ev cl (s7 n r row w a bs) (.chain .le .lt (.cst (.int 0)) (.var 6) (.bi .len (.var 4)))=some (.bl true):=oU hp rfl rfl;obtain⟨p,h,q,rfl,rfl⟩:=pK hp.1 hp.2;have ixh:ixV (.fL (L (p++h::q))) (.int (p.length:Nat))=some (.int (h:Nat)):=kv (by simp)
 have dr:da (.fL (L (p++h::q))) (.int ((p.length+1:Nat):Int))=some (.lst (L q)):=by
  rw[jq (by simp)];simp
 have on:ev cl (s7 n r (p++h::q) w (p.length:Nat) bs) (.cmp .ne (.bi .len (.var 2)) (.bin .add (.cst (.int 2)) (.bi .int (.cmp .eq (.var 5) (.cst (.str "grow"))))))=some (.bl false)->∀ {d σ'},aw cl [] A5 (s9 n r p h q w bs)=some (.rt d,σ')->evF cl aZ [.int (n:Nat),prF r (p++h::q),trD w (p.length:Nat) bs]=some d:=fun z {d σ'} k =>
  out (aj (aH (cm (aT pl) z)) (pD (aO (aa rfl) (aa rfl) ixh) (d7 (aa rfl) (ak (aa rfl) ae b1) dr) (by simp[D.imm,aX,bb,aG]) k))
 have off:ev cl (s7 n r (p++h::q) w (p.length:Nat) bs) (.cmp .ne (.bi .len (.var 2)) (.bin .add (.cst (.int 2)) (.bi .int (.cmp .eq (.var 5) (.cst (.str "grow"))))))=some (.bl true)->evF cl aZ [.int (n:Nat),prF r (p++h::q),trD w (p.length:Nat) bs]=some .non:=fun z =>
  out (aK (aH (cm (aT pl) z)) (az ae rfl))
 by_cases hg:w = "grow"
 ·subst hg
  match bs,hb with
  | [],_=>exact .inl (off (fg (weq _)))
  |[b],_=>
   rcases j8 (cl:=cl) (n:=n) (r:=r) hz hn b with k | ⟨r',row',S,k⟩
   ·exact .inl (on (fg (weq _)) k)
   ·exact .inr ⟨r',row',S,on (fg (weq _)) k⟩
 ·match bs,hb with
  |[],_=>
   rcases kQ (cl:=cl) (n:=n) (r:=r) hz hg with k | ⟨r',row',S,k⟩
   ·exact .inl (on (fg (wne hg)) k)
   ·exact .inr ⟨r',row',S,on (fg (wne hg)) k⟩
  | [b],_=>exact .inl (off (fg (wne hg)))
end
section
variable{cl:Cl}{n r:Nat}{row:List Nat}
variable{p q:List Nat}{h x:Nat}
def at0:ixV (.fL (L (p++h::q))) (.int (p.length:Nat))=some (.int (h:Nat)):=kv (by simp)
def at1:ixV (.fL (L (p++h::x::q))) (.int ((p.length+1:Nat):Int))=some (.int (x:Nat)):=kv (by simp)
def at2:ixV (.fL (L (p++h::x::y::q))) (.int ((p.length+2:Nat):Int))=some (.int (y:Nat)):=kv (by simp)
def dr0:da (.fL (L (p++h::q))) (.int (p.length:Nat))=some (.lst (L (h::q))):=by rw[jq (by simp)];simp
def dr1:da (.fL (L (p++h::q))) (.int ((p.length+1:Nat):Int))=some (.lst (L q)):=by rw[jq (by simp)];simp
def dr2:da (.fL (L (p++h::x::q))) (.int ((p.length+2:Nat):Int))=some (.lst (L q)):=by rw[jq (by simp)];simp
def dr3:da (.fL (L (p++h::x::y::q))) (.int ((p.length+3:Nat):Int))=some (.lst (L q)):=by rw[jq (by simp)];simp
def m8(a b:Nat):biV .abs (.int ((a:Int)-(b:Nat)))=some (.int ((a:Int)-b).natAbs):=by
 show some (D.int (if(a:Int)-b<0 then -((a:Int)-b)else(a:Int)-b))=_;congr 2;split<;>omega
abbrev b2':aQ .add (.int (p.length:Nat)) (.int 2)=some (.int ((p.length+2:Nat):Int)):=rfl
end
end K32
set_option maxHeartbeats 1000000
namespace RL
open PySem (Str)
abbrev Rx(cl:Cl)(σ:St)(e:E)(c:Str):Prop:=ev cl σ e=none/\evX cl σ e=some c
abbrev Rr(cl:Cl)(M:List Nat)(b:Ss)(σ:St)(c:Str)(σ':St):Prop:=aw cl M b σ=none/\bu cl M b σ=some (c,σ')
abbrev Rc(cl:Cl)(f:Nat)(ds:List D)(c:Str):Prop:=cl f ds=none/\cl (f+1000) ds=some (.str c)
section
def BB(h:evS cl M s σ=some (.nx,σ1))(k:Rr cl M r σ1 c σ'):Rr cl M (.cons s r) σ c σ':=by
 refine⟨?_,?_⟩
 ·rw[aw,h];exact k.1
 ·rw[bu,h];exact k.2
def fR(h:evS cl M s σ=none)(k:iL cl M s σ=some (c,σ')):Rr cl M (.cons s r) σ c σ':=by
 refine⟨?_,?_⟩
 ·rw[aw,h];rfl
 ·rw[bu,h];exact k
def Aj(h:evs cl σ ps=some ds)(w:ds.all written=true):Rr cl M (.cons (.rais c ps) r) σ c σ:=fR (by rw[rT]) (by show(evs cl σ ps).bind _=_;rw[h,Option.bind_some,if_pos w])
def C3(h:Rx cl σ e c):Rr cl M (.cons (.exc e) r) σ c σ:=fR (by rw[rC,h.1];rfl) (by show(evX cl σ e).map _=_;rw[h.2];rfl)
def CH(h:Rx cl σ e c):Rr cl M (.cons (.asg i e) r) σ c σ:=fR (by rw[gz,h.1];rfl) (by show(evX cl σ e).map _=_;rw[h.2];rfl)
def xj(h:Rx cl σ e c):Rr cl M (.cons (.ret e) r) σ c σ:=fR (by rw[fv,h.1];rfl) (by show(evX cl σ e).map _=_;rw[h.2];rfl)
def wB(h:(ev cl σ t).bind truth=some true)(k:Rr cl M a σ c σ'):Rr cl M (.cons (.ife t a b) r) σ c σ':=fR (by rw[gu,h];exact k.1) (by show((ev cl σ t).bind truth).bind _=_;rw[h];exact k.2)
def Ay(h:ev cl σ e=some d)(k:Rr cl M r σ c σ'):Rr cl M (.cons (.exc e) r) σ c σ':=BB (by rw[rC,h];rfl) k
def wZ(h:bU cl σ it=some ds)(k1:br (aw cl M b) tg ds σ=none)(k2:c8 (aw cl M b) (bu cl M b) tg ds σ=some (c,σ')):Rr cl M (.cons (.forr tg it b) r) σ c σ':=fR (by rw[iW,h];exact k1) (by show(bU cl σ it).bind _=_;rw[h];exact k2)
def kd(h:evs cl σ es=some ds)(k:Rc cl f ds c):Rx cl σ (.call f es) c:=by
 refine⟨?_,?_⟩
 ·rw[fO,h];exact k.1
 ·show(match evs cl σ es with | some ds=>clX cl f ds | none=>kO cl σ es)=_;rw[h];show clX cl f ds=_;unfold clX;rw[k.2];rfl
def DF(h:ev cl σ e=some d)(h':ev cl σ e'=some d')(k:Rc cl f [d,d'] c):Rx cl σ (.call f (.cons e (.cons e' .nil))) c:=kd (ah h (ah h' ax)) k
end
def uz(I:St->Prop):∀ (pre:List D) (σ:St),I σ->(∀ x∈pre,x.imm=true)->d.imm=true ->
  (∀ x∈pre,∀ σ,I σ->∃ σ1 σ2,bN tg x σ=some σ1/\f σ1=some (.nx,σ2)/\I σ2) ->
  (∀ σ,I σ->∃ σ1,bN tg d σ=some σ1/\f σ1=none/\∃ σ2,fx σ1=some (c,σ2)/\I σ2) ->
  br f tg (pre++d::post) σ=none/\∃ σ',c8 f fx tg (pre++d::post) σ=some (c,σ')/\I σ'
 | [],σ,hI,_,him,_,hd=>by
  obtain⟨σ1,e1,e2,σ2,e3,i2⟩:=hd σ hI;refine⟨?_,σ2,?_,i2⟩
  ·show br f tg (d::post) σ=none;rw[br,if_pos him,e1,Option.bind_some,e2];rfl
  ·show c8 f fx tg (d::post) σ=_;rw[c8,if_pos him,e1,Option.bind_some,e2];exact e3
 | x::pre,σ,hI,hp,him,ht,hd=>by
  obtain⟨σ1,σ2,e1,e2,i2⟩:=ht x (.head _) σ hI;obtain⟨k1,σ',k2,i3⟩:=uz I pre σ2 i2 (fun y hy=>hp y (.tail _ hy)) him (fun y hy=>ht y (.tail _ hy)) hd;refine⟨?_,σ',?_,i3⟩
  ·show br f tg (x::(pre++d::post)) σ=none;rw[br,if_pos (hp x (.head _)),e1,Option.bind_some,e2];exact k1
  ·show c8 f fx tg (x::(pre++d::post)) σ=_;rw[c8,if_pos (hp x (.head _)),e1,Option.bind_some,e2];exact k2
def kr(h:T[f]?=some fn)(hT:T.length<=1000)(hl:ds.length=fn.ps)(hm:fn.mp=[])(k:Rr (ao T n) fn.M fn.body (ds.map some++List.replicate (fn.nn-fn.ps) none) c σ'):Rc (ao T (n+1)) f ds c:=by
 refine⟨?_,?_⟩
 ·rw[ao,h];show(if ds.length=fn.ps then _ else none)=none;rw[if_pos hl,k.1];rfl
 ·rw[ao,List.getElem?_eq_none (by omega)];show(T[f+1000-1000]?).bind _=_;rw[Nat.add_sub_cancel,h,Option.bind_some,if_pos ⟨hl,hm⟩,k.2];rfl
end RL
namespace RT
open RL
abbrev gy:Fn :=
 ⟨1,5,[1],[],(.cons (.own 1 (.lst (.cons (.isx (.var 0) "BadPegs") (.cons (.isx (.var 0) "BadFrame") (.cons (.isx (.var 0) "BadHalf") (.cons (.isx (.var 0) "BadHook") .nil)))))) (.cons (.own 1 (.bin .add (.var 1) (.lst (.cons (.isx (.var 0) "BadName") (.cons (.isx (.var 0) "NoNumber") (.cons (.isx (.var 0) "NoFrame") (.cons (.isx (.var 0) "NoStack") .nil))))))) (.cons (.own 1 (.bin .add (.var 1) (.lst (.cons (.isx (.var 0) "NoPlace") (.cons (.isx (.var 0) "Taken") (.cons (.isx (.var 0) "Full") (.cons (.isx (.var 0) "NothingThere") .nil))))))) (.cons (.own 1 (.bin .add (.var 1) (.lst (.cons (.isx (.var 0) "BadTrade") (.cons (.isx (.var 0) "Hangs") (.cons (.isx (.var 0) "BadPage") .nil)))))) (.cons (.app 1 (.not (.isx (.var 0) "ValueError"))) (.cons (.asg 2 (.lst (.cons (.cst (.str "BadPegs")) (.cons (.cst (.str "BadFrame")) (.cons (.cst (.str "BadHalf")) (.cons (.cst (.str "BadHook")) (.cons (.cst (.str "BadName")) (.cons (.cst (.str "NoNumber")) (.cons (.cst (.str "NoFrame")) (.cons (.cst (.str "NoStack")) (.cons (.cst (.str "NoPlace")) .nil))))))))))) (.cons (.asg 2 (.bin .add (.var 2) (.lst (.cons (.cst (.str "Taken")) (.cons (.cst (.str "Full")) (.cons (.cst (.str "NothingThere")) (.cons (.cst (.str "BadTrade")) (.cons (.cst (.str "Hangs")) (.cons (.cst (.str "BadPage")) (.cons (.cst (.str "odd")) .nil)))))))))) (.cons (.ret (.join (.comp (.var 3) [3,4] (.zip (.var 2) (.var 1)) (.var 4)))) .nil))))))))⟩
end RT
namespace RM
open RL RT
def Br(h:c∈(["BadPegs", "BadFrame", "BadHalf", "BadHook", "BadName", "NoNumber", "NoFrame", "NoStack"]:List PySem.Str)):evF cl gy [.exc c]=some (.str c):=by
 simp only[List.mem_cons,List.not_mem_nil,or_false]at h;rcases h with rfl | rfl | rfl | rfl | rfl | rfl | rfl | rfl<;>rfl
section
end
section
variable{nu pc pa nb un if' cf po rp ir mv:Nat}
end
end RM
set_option maxHeartbeats 1000000
namespace RT
open RL
end RT
namespace RM
open RL RT
section
end
section
end
section
end
section
variable{cl:Cl}
end
section
end
section
end
section
end
section
end
section
variable{nu pc pa nb un if' cf po rp ir mv rn mk rg jb pu c2 hu:Nat}
end
section
variable{mx rw dg pl hk ci ft tx rg hu ov fr:Nat}
end
section
end
section
end
section
end
section
variable{mx rw dg pl hk ci ft tx rg hu ov fr:Nat}
end
section
end
section
end
section
end
section
end
end RM
set_option maxHeartbeats 1000000
namespace RM
open RL RT
section
end
end RM
set_option maxHeartbeats 1000000
namespace RT
open RL
end RT
namespace RM
open RL RT
section
variable{nu pc pa nb un if' cf po rp ir mv rn mk rg jb pu c2 hu:Nat}
end
end RM
set_option maxHeartbeats 1000000
namespace RM
open RL RT
section
end
end RM
set_option maxHeartbeats 1000000
namespace RT
open RL
end RT
namespace RM
open RL RT
section
end
section
variable{nu pc pa nb un if' cf po rp ir mv:Nat}
end
section
end
section
end
end RM
set_option maxHeartbeats 1000000
namespace RM
open RL RT
section
end
section
variable{nu pc pa nb un if' cf po rp ir mv:Nat}
end
end RM
set_option maxHeartbeats 1000000
namespace RM
open RL RT
section
variable{cl:Cl}
def iR{n:Nat}(h:n<=100):written (.int (n:Nat))=true:=by
 show decide (_<_)=true;rw[decide_eq_true_eq];refine Nat.lt_of_le_of_lt (show((n:Int)).natAbs<=100 by omega) (Nat.lt_of_lt_of_le (show 100<2 ^ 7 by decide) (Nat.pow_le_pow_right (by decide) (by decide)))
end
section
variable{T:List Fn}{nu pc:Nat}
end
end RM
set_option maxHeartbeats 1000000
namespace K30
open RL RT K32
abbrev cP(f_pair_behind f_check_row:Nat):Ss :=
 (.cons (.asg 4 (.call f_pair_behind (.cons (.var 0) (.cons (.var 4) (.cons (.var 6) .nil))))) (.cons (.ife (.isN false (.var 4)) (.cons (.raiI "BadTrade" (.var 5)) .nil) .nil) .nil))
abbrev iG(f_pair_behind f_check_row:Nat):Fn :=
 ⟨4,7,[],[],(.cons (.exc (.call f_check_row (.cons (.var 0) (.cons (.var 2) .nil)))) (.cons (.asg 4 (.tup (.cons (.var 1) (.cons (.frz (.bi .list (.var 2))) .nil)))) (.cons (.forr [5,6] (.enm (.var 3)) (cP f_pair_behind f_check_row)) (.cons (.ret (.var 4)) .nil))))⟩
abbrev fq(f_traded f_law_kin:Nat):Fn :=
 ⟨3,5,[],[],(.cons (.asg 3 (.cst .non)) (.cons (.try2 (.cons (.asg 3 (.call f_traded (.cons (.var 0) (.cons (.ix (.var 1) (.cst (.int 0))) (.cons (.ix (.var 1) (.cst (.int 1))) (.cons (.var 2) .nil)))))) .nil) "BadTrade" 4 (.cons (.asg 3 (.tup (.cons (.call f_law_kin (.cons (.var 4) .nil)) (.cons (.fld (.var 4)) .nil)))) .nil) "RibbonError" (.cons (.asg 3 (.call f_law_kin (.cons (.var 4) .nil))) .nil)) (.cons (.ret (.var 3)) .nil)))⟩
abbrev jW(f_law_word f_law_same f_law_after f_law_some_trade f_law_hooks f_law_digits:Nat):Ss :=
 (.cons (.unp [4,5,10,11] (.call f_law_digits (.cons (.var 0) (.cons (.bin .add (.cst (.int 20)) (.var 1)) (.cons (.lst (.cons (.cst (.int 9)) (.cons (.cst (.int 6)) (.cons (.cst (.int 13)) (.cons (.cst (.int 4)) .nil))))) .nil))))) (.cons (.asg 4 (.bin .add (.cst (.int 2)) (.var 4))) (.cons (.asg 5 (.bin .add (.var 5) (.bin .mul (.bin .pow (.cst (.int 10)) (.cst (.int 28))) (.bi .int (.cmp .eq (.var 11) (.cst (.int 0))))))) (.cons (.asg 6 (.tup (.cons (.var 5) (.cons (.frz (.call f_law_hooks (.cons (.var 0) (.cons (.var 1) (.cons (.var 4) (.cons (.var 10) .nil)))))) .nil)))) (.cons (.asg 7 (.call f_law_some_trade (.cons (.var 0) (.cons (.bin .add (.cst (.int 35)) (.var 1)) (.cons (.var 4) (.cons (.var 6) .nil)))))) (.cons (.asg 8 (.call f_law_after (.cons (.var 4) (.cons (.var 6) (.cons (.var 7) .nil))))) (.cons (.ife (.isN false (.var 8)) (.cons (.asg 8 (.tup (.cons (.cst (.str "BadTrade")) (.cons (.cst (.int 0)) .nil)))) .nil) .nil) (.cons (.asg 9 (.frz (.bi .list (.ix (.var 6) (.cst (.int 1)))))) (.cons (.ife (.or (.not (.call f_law_same (.cons (.call f_law_word (.cons (.var 4) (.cons (.tup (.cons (.var 5) (.cons (.var 9) .nil))) (.cons (.var 7) .nil)))) (.cons (.var 8) .nil)))) (.cmp .ne (.var 9) (.ix (.var 6) (.cst (.int 1))))) (.cons (.ret (.cst (.bl false))) .nil) .nil) (.cons (.ife (.cmp .ne (.call f_law_word (.cons (.var 4) (.cons (.tup (.cons (.var 5) (.cons (.frz (.cat (.var 9) (.lst (.cons (.bin .sub (.var 4) (.cst (.int 1))) .nil)))) .nil))) (.cons (.var 7) .nil)))) (.cst (.str "BadHook"))) (.cons (.ret (.cst (.bl false))) .nil) .nil) .nil))))))))))
abbrev xm(f_law_word f_law_same f_law_after f_law_some_trade f_law_hooks f_law_digits:Nat):Fn :=
 ⟨1,13,[],[],(.cons (.asg 0 (.slT (.var 0) (.cst (.int 63)))) (.cons (.forr [1] (.rng1 (.cst (.int 12))) (jW f_law_word f_law_same f_law_after f_law_some_trade f_law_hooks f_law_digits)) (.cons (.asg 2 (.lst (.cons (.tup (.cons (.cst (.int 5)) (.cons (.frz (.lst (.cons (.cst (.int 2)) (.cons (.cst (.int 2)) (.cons (.cst (.int 2)) .nil))))) .nil))) (.cons (.tup (.cons (.cst (.int 5)) (.cons (.frz (.lst (.cons (.cst (.int 1)) (.cons (.cst (.int 3)) (.cons (.cst (.int 1)) .nil))))) .nil))) (.cons (.tup (.cons (.cst (.int 5)) (.cons (.frz (.lst (.cons (.cst (.int 1)) (.cons (.cst (.int 2)) (.cons (.cst (.int 3)) .nil))))) .nil))) (.cons (.tup (.cons (.cst (.int 3)) (.cons (.frz (.lst (.cons (.cst (.int 0)) (.cons (.cst (.int 1)) .nil)))) .nil))) (.cons (.tup (.cons (.cst (.int 3)) (.cons (.frz (.lst (.cons (.cst (.int 0)) .nil))) .nil))) .nil))))))) (.cons (.asg 3 (.compA (.call f_law_word (.cons (.var 4) (.cons (.tup (.cons (.cst (.int 3)) (.cons (.var 12) .nil))) (.cons (.tup (.cons (.cst (.str "cut")) (.cons (.cst (.int 0)) .nil))) .nil)))) [4,12] (.seq (.var 2)))) (.cons (.ret (.cmp .eq (.bin .add (.var 3) (.lst (.cons (.call f_law_word (.cons (.cst (.int 1)) (.cons (.tup (.cons (.cst (.int 3)) (.cons (.frz (.lst .nil)) .nil))) (.cons (.tup (.cons (.cst (.str "double")) (.cons (.cst (.int 0)) .nil))) .nil)))) .nil))) (.bin .mul (.lst (.cons (.tup (.cons (.cst (.str "BadTrade")) (.cons (.cst (.int 0)) .nil))) .nil)) (.cst (.int 6))))) .nil)))))⟩
abbrev T:List Fn:=[gC,dq 0,eg 1,gf 0,dB 3 2,iq 6,iG 12 4,dR 13,dX 13,dW 13,cB 13,eE 3 13,cy 7 8 9 10 11,fM 0,gy,iU,iJ 15,dZ 16,eJ 17,aZ,fS 19 17,bM 21,fq 5 14,xm 22 21 19 20 18 17]
open RM
inductive Bad (n:Nat):Nat->List Nat->PySem.Str->Int->List Int->Prop
 | out {r:Nat} {row:List Nat} {w:PySem.Str} {a:Int} {bs:List Int}:¬ (0<=a/\a<(row.length:Nat))->bs.length<=1->Bad n r row w a bs
 | grow0 {r:Nat} {row:List Nat} {a:Int}:Bad n r row "grow" a []
 | num {r:Nat} {row:List Nat} {w:PySem.Str} {a b:Int}:w ≠ "grow" -> Bad n r row w a [b]
 | grow {r h:Nat} {p q:List Nat} {b:Int}:¬ ((0<=b/\b<(n:Int)-1)/\(b=h-1\/b=h+1))->Bad n r (p++h::q) "grow" (p.length:Nat) [b]
 | dbl {row:List Nat} {a:Int}:Bad n 0 row "double" a []
 | swap {r h:Nat} {p q:List Nat}:(∀ x q',q=x::q'->¬ (h+1<x\/x+1<h))->Bad n r (p++h::q) "swap" (p.length:Nat) []
 | drop {r h:Nat} {p q:List Nat}:(∀ x q',q=x::q'->¬ x=h)->Bad n r (p++h::q) "drop" (p.length:Nat) []
 | cut {r h:Nat} {p q:List Nat}:(∀ x y q',q=x::y::q'->¬ (y=h/\(x=h+1\/h=x+1)))->Bad n r (p++h::q) "cut" (p.length:Nat) []
 | word {r:Nat} {row:List Nat} {w:PySem.Str} {a:Int}:w ≠ "grow" -> w∉(["swap", "drop", "double", "cut"]:List PySem.Str)->Bad n r row w a []
section
variable{cl:Cl}{n r:Nat}{p q:List Nat}{h:Nat}{w:PySem.Str}{bs:List Int}
def j8(hz:(p++h::q).length<=5000)(hn:1<=n)(b:Int):(Bad n r (p++h::q) "grow" (p.length:Nat) [b]/\aw cl [] A5 (s9 n r p h q "grow" [b])=some (.rt .non,s9 n r p h q "grow" [b]))\/∃ r' row',Stp n r (p++h::q) "grow" (p.length:Nat) [b] r' row'/\aw cl [] A5 (s9 n r p h q "grow" [b])=some (.rt (prF r' row'),s9 n r p h q "grow" [b]):=by
 have hz:p.length+(q.length+1)<=5000:=by simpa using hz
 have i2:ev cl (s9 n r p h q "grow" [b]) (.ix (.var 2) (.cst (.int 2)))=some (.int b):=aO (aa rfl) ae rfl;have tp:ev cl (s9 n r p h q "grow" [b]) (.tup (.cons (.bin .sub (.var 7) (.cst (.int 1))) (.cons (.bin .add (.var 7) (.cst (.int 1))) .nil)))=some (.tup [.int ((h:Int)-1),.int ((h:Int)+1)]):=aR (ah (ak (aa rfl) ae rfl) (ah (ak (aa rfl) ae rfl) ax));have bn:aQ .sub (.int (n:Nat)) (.int 1)=some (.int ((n:Int)-1)):=rfl
 have c1:ev cl (s9 n r p h q "grow" [b]) (.chain .le .lt (.cst (.int 0)) (.ix (.var 2) (.cst (.int 2))) (.bin .sub (.var 0) (.cst (.int 1))))=some (.bl (decide (0<=b/\b<(n:Int)-1))):=by
  by_cases hb0:0<=b
  ·rw[gH ae i2 (ak (aa rfl) ae bn) (by show some (decide _)=_;rw[decide_eq_true hb0]) (k:=decide (b<(n:Int)-1)) rfl];simp[hb0]
  ·rw[hV ae i2 (by show some (decide _)=_;rw[decide_eq_false hb0])];simp[hb0]
 have n1:=fun e=>no (cl:=cl) (w := "grow") "double" (by decide) e (s9 n r p h q "grow" [b]) rfl;by_cases k1:0<=b/\b<(n:Int)-1
 ·rw[decide_eq_true k1]at c1;by_cases k2:b=h-1\/b=h+1
  ·obtain⟨m,rfl⟩:∃ m:Nat,b=(m:Nat):=⟨b.toNat,by omega⟩
   have c2:=gw (n:=false) i2 tp ((r8 m h).trans (by rw[decide_eq_true k2]));refine .inr ⟨r,p++h::m::h::q,.grow (by omega) (by omega),?_⟩;rw[<-de (xs:=(p++[h])++[m,h]++q) (by simp)];exact aj (n1 _) (aK (yes "grow" _ _ rfl (aU c1 c2)) (az (aR (ah (aa rfl) (ah (bX (ak (ak (cI (aa rfl) (ak (aa rfl) ae b1) tk1) (bc (ah i2 (ah (aa rfl) ax))) (bI (b:=[m,h]) (by simp;omega))) (aa rfl) (bI (by simp;omega))) rfl (bb _)) ax))) (rk _ _)))
  ·have c2:=gw (n:=false) i2 tp ((r8 b h).trans (by rw[decide_eq_false k2]));exact .inl ⟨.grow (fun z=>k2 z.2),(aj (n1 _) (aj (no2 "grow" _ _ rfl (aU c1 c2)) (aj (no "swap" (by decide) _ _ rfl) (aj (no "drop" (by decide) _ _ rfl) (aj (no "cut" (by decide) _ _ rfl) (az ae rfl))))))⟩
 ·rw[decide_eq_false k1]at c1;exact .inl ⟨.grow (fun z=>k1 z.1),(aj (n1 _) (aj (no2 "grow" _ _ rfl (bH c1)) (aj (no "swap" (by decide) _ _ rfl) (aj (no "drop" (by decide) _ _ rfl) (aj (no "cut" (by decide) _ _ rfl) (az ae rfl))))))⟩
def kQ(hz:(p++h::q).length<=5000)(hg:w ≠ "grow"):(Bad n r (p++h::q) w (p.length:Nat) []/\aw cl [] A5 (s9 n r p h q w [])=some (.rt .non,s9 n r p h q w []))\/∃ r' row',Stp n r (p++h::q) w (p.length:Nat) [] r' row'/\aw cl [] A5 (s9 n r p h q w [])=some (.rt (prF r' row'),s9 n r p h q w []):=by
 have hz:p.length+(q.length+1)<=5000:=by simpa using hz
 have nw:∀ (x:PySem.Str),w≠x->∀ e,(ev cl (s9 n r p h q w []) (.and (.cmp .eq (.var 5) (.cst (.str x))) e)).bind truth=some false:=fun x hx e=>no x hx e _ rfl;by_cases w1:w = "double"
 ·subst w1
  cases r with
  |zero=>
   have t:ev cl (s9 n 0 p h q "double" []) (.cmp .gt (.var 3) (.cst (.int 0)))=some (.bl false):=ay (aa rfl) ae rfl;exact .inl ⟨.dbl,(aj (no2 "double" _ _ rfl t) (aj (nw "grow" hg _) (aj (nw "swap" (by decide) _) (aj (nw "drop" (by decide) _) (aj (nw "cut" (by decide) _) (az ae rfl))))))⟩
  |succ r=>
   have t:ev cl (s9 n (r+1) p h q "double" []) (.cmp .gt (.var 3) (.cst (.int 0)))=some (.bl true):=ay (aa rfl) ae (by show some (decide _)=_;rw[decide_eq_true (by omega)])
   have bs:aQ .sub (.int ((r+1:Nat):Int)) (.int 1)=some (.int (r:Nat)):=by show some (D.int _)=_;congr 2;omega
   refine .inr ⟨r,p++h::h::q,.dbl,?_⟩;rw[<-de (xs:=(p++[h])++[h]++q) (by simp)];exact aK (yes "double" _ _ rfl t) (az (aR (ah (ak (aa rfl) ae bs) (ah (bX (ak (ak (cI (aa rfl) (ak (aa rfl) ae b1) tk1) (bc (ah (aa rfl) ax)) (bI (b:=[h]) (by simp;omega))) (aa rfl) (bI (by simp;omega))) rfl (bb _)) ax))) (rk _ _))
 by_cases w2:w = "swap"
 ·subst w2;have fin:∀ {e},ev cl (s9 n r p h q "swap" []) (.and (.cmp .ne (.var 8) (.lst .nil)) e)=some (.bl false)->(ev cl (s9 n r p h q "swap" []) (.and (.cmp .eq (.var 5) (.cst (.str "swap"))) (.and (.cmp .ne (.var 8) (.lst .nil)) e))).bind truth=some false:=fun t=>no2 "swap" _ _ rfl t
  cases q with
  | nil=>exact .inl ⟨.swap (fun _ _ e=>nomatch e),(aj (nw "double" (by decide) _) (aj (nw "grow" hg _) (aj (fin (bH (ay (aa rfl) (bc ax) ff))) (aj (nw "drop" (by decide) _) (aj (nw "cut" (by decide) _) (az ae rfl))))))⟩
  |cons x q=>
   have i0:ev cl (s9 n r p h (x::q) "swap" []) (.ix (.var 8) (.cst (.int 0)))=some (.int (x:Nat)):=aO (aa rfl) ae rfl;have tp:ev cl (s9 n r p h (x::q) "swap" []) (.tup (.cons (.bin .sub (.var 7) (.cst (.int 1))) (.cons (.var 7) (.cons (.bin .add (.var 7) (.cst (.int 1))) .nil))))=some (.tup [.int ((h:Int)-1),.int (h:Nat),.int ((h:Int)+1)]):=aR (ah (ak (aa rfl) ae rfl) (ah (aa rfl) (ah (ak (aa rfl) ae rfl) ax)));have c:=gw (n:=true) i0 tp (in3 x h);by_cases d:h+1<x\/x+1<h
   ·rw[decide_eq_true d]at c;have s1:da (.lst (L (x::q))) (.int 1)=some (.lst (L q)):=gZ (xs:=x::q) (k:=1) (by simp);refine .inr ⟨r,p++x::h::q,.swap d,?_⟩;rw[<-de (xs:=p++[x,h]++q) (by simp)];exact aj (nw "double" (by decide) _) (aj (nw "grow" hg _) (aK (yes "swap" _ _ rfl (aU (ay (aa rfl) (bc ax) ff) c)) (az (aR (ah (aa rfl) (ah (bX (ak (ak (cI (aa rfl) (aa rfl) tk0) (bc (ah i0 (ah (aa rfl) ax))) (bI (b:=[x,h]) (by simp at hz ⊢;omega))) (d7 (aa rfl) ae s1) (bI (by simp at hz ⊢;omega))) rfl (bb _)) ax))) (rk _ _))))
   ·rw[decide_eq_false d]at c;exact .inl ⟨.swap (fun _ _ e=>by cases e;exact d),(aj (nw "double" (by decide) _) (aj (nw "grow" hg _) (aj (fin (aU (ay (aa rfl) (bc ax) ff) c)) (aj (nw "drop" (by decide) _) (aj (nw "cut" (by decide) _) (az ae rfl))))))⟩
 by_cases w3:w = "drop"
 ·subst w3
  cases q with
  | nil=>exact .inl ⟨.drop (fun _ _ e=>nomatch e),(aj (nw "double" (by decide) _) (aj (nw "grow" hg _) (aj (nw "swap" (by decide) _) (aj (no2 "drop" _ _ rfl (bH (ay (aa rfl) (bc ax) ff))) (aj (nw "cut" (by decide) _) (az ae rfl))))))⟩
  |cons x q=>
   have i0:ev cl (s9 n r p h (x::q) "drop" []) (.ix (.var 8) (.cst (.int 0)))=some (.int (x:Nat)):=aO (aa rfl) ae rfl;by_cases d:x=h
   ·subst d;have s1:da (.lst (L (x::q))) (.int 1)=some (.lst (L q)):=gZ (xs:=x::q) (k:=1) (by simp);have bs:aQ .add (.int (r:Nat)) (.int 1)=some (.int ((r+1:Nat):Int)):=rfl;refine .inr ⟨r+1,p++x::q,.drop,?_⟩;rw[<-de (xs:=(p++[x])++q) (by simp)];exact aj (nw "double" (by decide) _) (aj (nw "grow" hg _) (aj (nw "swap" (by decide) _) (aK (yes "drop" _ _ rfl (aU (ay (aa rfl) (bc ax) ff) (ay i0 (aa rfl) (by show some (_ == _)=_;rw[beq_self_eq_true])))) (az (aR (ah (ak (aa rfl) ae bs) (ah (bX (ak (cI (aa rfl) (ak (aa rfl) ae b1) tk1) (d7 (aa rfl) ae s1) (bI (by simp at hz ⊢;omega))) rfl (bb _)) ax))) (rk _ _)))))
   ·exact .inl ⟨.drop (fun _ _ e=>by cases e;exact d),(aj (nw "double" (by decide) _) (aj (nw "grow" hg _) (aj (nw "swap" (by decide) _) (aj (no2 "drop" _ _ rfl (aU (ay (aa rfl) (bc ax) ff) (ay i0 (aa rfl) (by show some (_ == _)=_;rw[beq_eq_false_iff_ne.mpr (by omega)])))) (aj (nw "cut" (by decide) _) (az ae rfl))))))⟩
 by_cases w4:w = "cut"
 ·subst w4;have hd:∀ {res},aw cl [] (.cons (.ife (.and (.cmp .eq (.var 5) (.cst (.str "cut"))) (.and (.cmp .gt (.bi .len (.var 8)) (.cst (.int 1))) (.and (.cmp .eq (.ix (.var 8) (.cst (.int 1))) (.var 7)) (.inn false (.ix (.var 8) (.cst (.int 0))) (.tup (.cons (.bin .sub (.var 7) (.cst (.int 1))) (.cons (.bin .add (.var 7) (.cst (.int 1))) .nil))))))) (.cons (.ret (.tup (.cons (.var 3) (.cons (.frz (.bin .add (.slT (.var 4) (.bin .add (.var 6) (.cst (.int 1)))) (.slF (.var 8) (.cst (.int 2))))) .nil)))) .nil) .nil) (.cons (.ret (.cst .non)) .nil)) (s9 n r p h q "cut" [])=res->aw cl [] A5 (s9 n r p h q "cut" [])=res:=fun k=>aj (nw "double" (by decide) _) (aj (nw "grow" hg _) (aj (nw "swap" (by decide) _) (aj (nw "drop" (by decide) _) k)));by_cases hl:1<q.length
  ·obtain⟨x,y,q,rfl⟩:∃ x y q',q=x::y::q':=by
    match q,hl with
    | x::y::q',_=>exact⟨x,y,q',rfl⟩
   have t0:ev cl (s9 n r p h (x::y::q) "cut" []) (.cmp .gt (.bi .len (.var 8)) (.cst (.int 1)))=some (.bl true):=ay (aY (aa rfl) (mq _)) ae (by show some (decide _)=_;rw[decide_eq_true (by simp;omega)]);have i1:ev cl (s9 n r p h (x::y::q) "cut" []) (.ix (.var 8) (.cst (.int 1)))=some (.int (y:Nat)):=aO (aa rfl) ae rfl;have i0:ev cl (s9 n r p h (x::y::q) "cut" []) (.ix (.var 8) (.cst (.int 0)))=some (.int (x:Nat)):=aO (aa rfl) ae rfl;by_cases d:y=h
   ·subst d;have t1:ev cl (s9 n r p y (x::y::q) "cut" []) (.cmp .eq (.ix (.var 8) (.cst (.int 1))) (.var 7))=some (.bl true):=ay i1 (aa rfl) (by show some (_ == _)=_;rw[beq_self_eq_true]);have tp:ev cl (s9 n r p y (x::y::q) "cut" []) (.tup (.cons (.bin .sub (.var 7) (.cst (.int 1))) (.cons (.bin .add (.var 7) (.cst (.int 1))) .nil)))=some (.tup [.int ((y:Int)-1),.int ((y:Int)+1)]):=aR (ah (ak (aa rfl) ae rfl) (ah (ak (aa rfl) ae rfl) ax));have c:=gw (n:=false) i0 tp (in2 x y);by_cases e:x=y+1\/y=x+1
    ·rw[decide_eq_true e]at c;have s1:da (.lst (L (x::y::q))) (.int 2)=some (.lst (L q)):=gZ (xs:=x::y::q) (k:=2) (by simp);refine .inr ⟨r,p++y::q,.cut e,?_⟩;rw[<-de (xs:=(p++[y])++q) (by simp)];exact hd (aK (yes "cut" _ _ rfl (aU t0 (aU t1 c))) (az (aR (ah (aa rfl) (ah (bX (ak (cI (aa rfl) (ak (aa rfl) ae b1) tk1) (d7 (aa rfl) ae s1) (bI (by simp at hz ⊢;omega))) rfl (bb _)) ax))) (rk _ _)))
    ·rw[decide_eq_false e]at c;exact .inl ⟨.cut (fun _ _ _ z=>by cases z;exact fun z=>e z.2),(hd (aj (no2 "cut" _ _ rfl (aU t0 (aU t1 c))) (az ae rfl)))⟩
   ·have t1:ev cl (s9 n r p h (x::y::q) "cut" []) (.cmp .eq (.ix (.var 8) (.cst (.int 1))) (.var 7))=some (.bl false):=ay i1 (aa rfl) (by show some (_ == _)=_;rw[beq_eq_false_iff_ne.mpr (by omega)]);exact .inl ⟨.cut (fun _ _ _ z=>by cases z;exact fun z=>d z.1),(hd (aj (no2 "cut" _ _ rfl (aU t0 (bH t1))) (az ae rfl)))⟩
  ·have t0:ev cl (s9 n r p h q "cut" []) (.cmp .gt (.bi .len (.var 8)) (.cst (.int 1)))=some (.bl false):=ay (aY (aa rfl) (mq _)) ae (by show some (decide _)=_;rw[decide_eq_false (by omega)]);exact .inl ⟨.cut (fun _ _ _ z=>by subst z;simp at hl),(hd (aj (no2 "cut" _ _ rfl (bH t0)) (az ae rfl)))⟩
 exact .inl ⟨.word hg (by simp[w1,w2,w3,w4]),(aj (nw _ w1 _) (aj (nw _ hg _) (aj (nw _ w2 _) (aj (nw _ w3 _) (aj (nw _ w4 _) (az ae rfl))))))⟩
end
section
variable{cl:Cl}{n r:Nat}{row:List Nat}{w:PySem.Str}{bs:List Int}
def jd(hz:row.length<=5000)(hn:1<=n)(w:PySem.Str)(a:Int)(bs:List Int)(hb:bs.length<=1) :
  (Bad n r row w a bs/\evF cl aZ [.int (n:Nat),prF r row,trD w a bs]=some .non)\/∃ r' row',Stp n r row w a bs r' row'/\evF cl aZ [.int (n:Nat),prF r row,trD w a bs]=some (prF r' row'):=by
 by_cases hp:0<=a/\a<(row.length:Nat)
 case neg=>exact .inl ⟨.out hp hb,(out (aK (aH (fk (aT (nO hp rfl rfl)))) (az ae rfl)))⟩
 have pl:ev cl (s7 n r row w a bs) (.chain .le .lt (.cst (.int 0)) (.var 6) (.bi .len (.var 4)))=some (.bl true):=oU hp rfl rfl;obtain⟨p,h,q,rfl,rfl⟩:=pK hp.1 hp.2;have ixh:ixV (.fL (L (p++h::q))) (.int (p.length:Nat))=some (.int (h:Nat)):=kv (by simp)
 have dr:da (.fL (L (p++h::q))) (.int ((p.length+1:Nat):Int))=some (.lst (L q)):=by
  rw[jq (by simp)];simp
 have on:ev cl (s7 n r (p++h::q) w (p.length:Nat) bs) (.cmp .ne (.bi .len (.var 2)) (.bin .add (.cst (.int 2)) (.bi .int (.cmp .eq (.var 5) (.cst (.str "grow"))))))=some (.bl false)->∀ {d σ'},aw cl [] A5 (s9 n r p h q w bs)=some (.rt d,σ')->evF cl aZ [.int (n:Nat),prF r (p++h::q),trD w (p.length:Nat) bs]=some d:=fun z {d σ'} k =>
  out (aj (aH (cm (aT pl) z)) (pD (aO (aa rfl) (aa rfl) ixh) (d7 (aa rfl) (ak (aa rfl) ae b1) dr) (by simp[D.imm,aX,bb,aG]) k))
 have off:ev cl (s7 n r (p++h::q) w (p.length:Nat) bs) (.cmp .ne (.bi .len (.var 2)) (.bin .add (.cst (.int 2)) (.bi .int (.cmp .eq (.var 5) (.cst (.str "grow"))))))=some (.bl true)->evF cl aZ [.int (n:Nat),prF r (p++h::q),trD w (p.length:Nat) bs]=some .non:=fun z =>
  out (aK (aH (cm (aT pl) z)) (az ae rfl))
 by_cases hg:w = "grow"
 ·subst hg
  match bs,hb with
  | [],_=>exact .inl ⟨.grow0,(off (fg (weq _)))⟩
  |[b],_=>
   rcases j8 (cl:=cl) (n:=n) (r:=r) hz hn b with⟨z,k⟩ | ⟨r',row',S,k⟩
   ·exact .inl ⟨z,on (fg (weq _)) k⟩
   ·exact .inr ⟨r',row',S,on (fg (weq _)) k⟩
 ·match bs,hb with
  |[],_=>
   rcases kQ (cl:=cl) (n:=n) (r:=r) hz hg with⟨z,k⟩ | ⟨r',row',S,k⟩
   ·exact .inl ⟨z,on (fg (wne hg)) k⟩
   ·exact .inr ⟨r',row',S,on (fg (wne hg)) k⟩
  | [b],_=>exact .inl ⟨.num hg,off (fg (wne hg))⟩
end
end K30
set_option maxHeartbeats 1000000
namespace K32
open RL RT RM
section
variable{cl:Cl}{n r:Nat}{p q:List Nat}{h x:Nat}
def b3':aQ .add (.int (p.length:Nat)) (.int 3)=some (.int ((p.length+3:Nat):Int)):=rfl
def nne{a b:Nat}(h:a=b):bh .ne (.int (a:Nat)) (.int (b:Nat))=some false:=by
 subst h;show some (!(_ == _))=_;rw[beq_self_eq_true];rfl
end
section
variable{n r r':Nat}{row row':List Nat}
def ln1(xs:List D):biV .len (.fL xs)=some (.int (xs.length:Nat)):=rfl
end
end K32
set_option maxHeartbeats 1000000
namespace K30
open RL RT RM K32
section
variable{cl:Cl}{n r:Nat}{p q:List Nat}{h x:Nat}
def oG(hp:∀ (row:List Nat) (k m:Nat),k+m<=row.length->cl 13 [.fL (L row),.int (k:Nat),.int (m:Nat)]=some (.bl true))(hz:(p++h::x::q).length<=5000)(d:h+1<x\/x+1<h):evF cl (dR 13) [.int (r:Nat),.fL (L (p++h::x::q)),.int (p.length:Nat)]=some (prF r (p++x::h::q)):=by
 have hz:p.length+(q.length+1+1)<=5000:=by simpa using hz
 rw[<-de (xs:=p++[x,h]++q) (by simp)];refine aM (fn:=dR 13) rfl rfl (aj (aH (cm (aT (bZ (aa rfl) (aa rfl) ae (hp _ _ 2 (by simp)))) (ay (aY (ak (aO (aa rfl) (aa rfl) at0) (aO (aa rfl) (ak (aa rfl) ae b1) at1) rfl) (m8 h x)) ae (k:=false) (by show some (decide _)=_;rw[decide_eq_false (by omega)])))) (az (aR (ah (aa rfl) (ah (bX (ak (ak (cI (aa rfl) (aa rfl) tk0) (bc (ah (aO (aa rfl) (ak (aa rfl) ae b1) at1) (ah (aO (aa rfl) (aa rfl) at0) ax))) (bI (b:=[x,h]) (by simp;omega))) (d7 (aa rfl) (ak (aa rfl) ae b2') dr2) (bI (by simp;omega))) rfl (bb _)) ax))) (rk _ _)))
def oJ(hp:∀ (row:List Nat) (k m:Nat),k+m<=row.length->cl 13 [.fL (L row),.int (k:Nat),.int (m:Nat)]=some (.bl true))(hz:(p++h::h::q).length<=5000):evF cl (dX 13) [.int (r:Nat),.fL (L (p++h::h::q)),.int (p.length:Nat)]=some (prF (r+1) (p++h::q)):=by
 have hz:p.length+(q.length+1+1)<=5000:=by simpa using hz
 have bs:aQ .add (.int (r:Nat)) (.int 1)=some (.int ((r+1:Nat):Int)):=rfl;exact aM (fn:=dX 13) rfl rfl (aj (aH (cm (aT (bZ (aa rfl) (aa rfl) ae (hp _ _ 2 (by simp)))) (ay (aO (aa rfl) (aa rfl) at0) (aO (aa rfl) (ak (aa rfl) ae b1) at1) (nne rfl)))) (az (aR (ah (ak (aa rfl) ae bs) (ah (bX (ak (cI (aa rfl) (aa rfl) tk0) (d7 (aa rfl) (ak (aa rfl) ae b1) dr1) (bI (by simp;omega))) rfl (bb _)) ax))) (rk _ _)))
def oK(hp:∀ (row:List Nat) (k m:Nat),k+m<=row.length->cl 13 [.fL (L row),.int (k:Nat),.int (m:Nat)]=some (.bl true))(hz:(p++h::q).length<=5000):evF cl (dW 13) [.int ((r+1:Nat):Int),.fL (L (p++h::q)),.int (p.length:Nat)]=some (prF r (p++h::h::q)):=by
 have hz:p.length+(q.length+1)<=5000:=by simpa using hz
 have bs:aQ .sub (.int ((r+1:Nat):Int)) (.int 1)=some (.int (r:Nat)):=by show some (D.int _)=_;congr 2;omega
 rw[<-de (xs:=p++[h]++(h::q)) (by simp)];exact aM (fn:=dW 13) rfl rfl (aj (aH (cm (aT (bZ (aa rfl) (aa rfl) ae (hp _ _ 1 (by simp)))) (ay (aa rfl) ae (k:=false) (by show some (decide _)=_;rw[decide_eq_false (by omega)])))) (az (aR (ah (ak (aa rfl) ae bs) (ah (bX (ak (ak (cI (aa rfl) (aa rfl) tk0) (bc (ah (aO (aa rfl) (aa rfl) at0) ax)) (bI (b:=[h]) (by simp;omega))) (d7 (aa rfl) (aa rfl) dr0) (bI (by simp;omega))) rfl (bb _)) ax))) (rk _ _)))
def lV(hp:∀ (row:List Nat) (k m:Nat),k+m<=row.length->cl 13 [.fL (L row),.int (k:Nat),.int (m:Nat)]=some (.bl true))(hz:(p++h::x::h::q).length<=5000)(d:x=h+1\/h=x+1):evF cl (cB 13) [.int (r:Nat),.fL (L (p++h::x::h::q)),.int (p.length:Nat)]=some (prF r (p++h::q)):=by
 have hz:p.length+(q.length+1+1+1)<=5000:=by simpa using hz
 have ab:((h:Int)-(x:Int)).natAbs=1:=by omega
 rw[<-de (xs:=(p++[h])++q) (by simp)];exact aM (fn:=cB 13) rfl rfl (aj (aH (cm (aT (bZ (aa rfl) (aa rfl) ae (hp _ _ 3 (by simp)))) (cm (ay (aO (aa rfl) (aa rfl) at0) (aO (aa rfl) (ak (aa rfl) ae b2') at2) (nne rfl)) (ay (aY (ak (aO (aa rfl) (aa rfl) at0) (aO (aa rfl) (ak (aa rfl) ae b1) at1) rfl) ((m8 h x).trans (by rw[ab]))) ae (nne (a:=1) (b:=1) rfl))))) (az (aR (ah (aa rfl) (ah (bX (ak (cI (aa rfl) (ak (aa rfl) ae b1) tk1) (d7 (aa rfl) (ak (aa rfl) ae b3') dr3) (bI (by simp;omega))) rfl (bb _)) ax))) (rk _ _)))
def sZ(hp:∀ (row:List Nat) (k m:Nat),k+m<=row.length->cl 13 [.fL (L row),.int (k:Nat),.int (m:Nat)]=some (.bl true))(hh:cl 3 [.int (n:Nat),.int (x:Nat)]=some (.bl true))(hz:(p++h::q).length<=5000)(d:x=h+1\/h=x+1):evF cl (eE 3 13) [.int (n:Nat),.int (r:Nat),.fL (L (p++h::q)),.int (p.length:Nat),.int (x:Nat)]=some (prF r (p++h::x::h::q)):=by
 have hz:p.length+(q.length+1)<=5000:=by simpa using hz
 have ab:((h:Int)-(x:Int)).natAbs=1:=by omega
 rw[<-de (xs:=(p++[h])++[x,h]++q) (by simp)];exact aM (fn:=eE 3 13) rfl rfl (aj (aH (cm (aT (bZ (aa rfl) (aa rfl) ae (hp _ _ 1 (by simp)))) (cm (aT (fV (aa rfl) (aa rfl) hh)) (ay (aY (ak (aO (aa rfl) (aa rfl) at0) (aa rfl) rfl) ((m8 h x).trans (by rw[ab]))) ae (nne (a:=1) (b:=1) rfl))))) (az (aR (ah (aa rfl) (ah (bX (ak (ak (cI (aa rfl) (ak (aa rfl) ae b1) tk1) (bc (ah (aa rfl) (ah (aO (aa rfl) (aa rfl) at0) ax))) (bI (b:=[x,h]) (by simp;omega))) (d7 (aa rfl) (ak (aa rfl) ae b1) dr1) (bI (by simp;omega))) rfl (bb _)) ax))) (rk _ _)))
end
section
variable{n r r':Nat}{row row':List Nat}
def num(m:Nat)(i:Int):ao T (m+1) 0 [.int i]=some (.bl true):=(aA (fn:=gC) rfl).trans (lW i)
def plc(m:Nat)(row:List Nat)(a:Int)(j:Nat):ao T (m+2) 13 [.fL (L row),.int a,.int (j:Nat)]=some (.bl (decide (0<=a/\a+j<=(row.length:Nat)))):=by
 refine(aA (fn:=fM 0) rfl).trans (aM (fn:=fM 0) rfl rfl (az (aU (kB (aa rfl) (num m a)) ?_) rfl));by_cases h0:0<=a
 ·rw[gH ae (aa rfl) (ak (aY (aa rfl) (km row)) (aa rfl) rfl) (by show some (decide _)=_;rw[decide_eq_true h0]) (k:=decide (a+j<=(row.length:Nat))) (by show some (decide _)=_;congr 1;rw[decide_eq_decide];omega)];simp[h0]
 ·rw[hV ae (aa rfl) (by show some (decide _)=_;rw[decide_eq_false h0])];simp[h0]
def hpl(m:Nat)(row:List Nat)(k j:Nat)(h:k+j<=row.length):ao T (m+2) 13 [.fL (L row),.int (k:Nat),.int (j:Nat)]=some (.bl true):=by
 rw[plc,decide_eq_true (by omega)]
def hpn(m:Nat)(row:List Nat)(a:Int)(j:Nat)(h:¬ (0<=a/\a+j<=(row.length:Nat))):ao T (m+2) 13 [.fL (L row),.int a,.int (j:Nat)]=some (.bl false):=by
 rw[plc,decide_eq_false h]
def mm(m:Nat)(b:Int):ao T (m+2) 3 [.int (n:Nat),.int b]=some (.bl (decide (0<=b/\b<=(n:Int)-2))):=(aA (fn:=gf 0) rfl).trans (oF (num m) n b)
def hook(m:Nat){x:Nat}(h:x+1<n):ao T (m+2) 3 [.int (n:Nat),.int (x:Nat)]=some (.bl true):=by
 rw[mm,decide_eq_true (by omega)]
def sS(S:Stp n r row w a bs r' row')(hz:row.length<=5000):ao T 26 12 [.int (n:Nat),prF r row,trD w a bs]=some (prF r' row'):=by
 have im:∀ row:List Nat,aB [D.int (r:Nat),.fL (L row)]=true:=fun row=>by simp[aB,D.imm,bb]
 have act:∀ {w:PySem.Str} {k f:Nat} {row:List Nat},w ≠ "grow" -> (["swap", "drop", "double", "cut"]:List PySem.Str).any (fun k=>decide (k=w))=true->fH [("swap",7),("drop",8),("double",9),("cut",10)] (.str w)=some f->ao T 25 f [.int (r:Nat),.fL (L row),.int (k:Nat)]=some (prF r' row')->ao T 26 12 [.int (n:Nat),prF r row,trD w (k:Nat) []]=some (prF r' row'):=fun {w k f row} hg hi hf hc=>by
  refine(aA (fn:=cy 7 8 9 10 11) rfl).trans (aM rfl rfl (eT (aa rfl) rfl (im row) rfl (gS (aa rfl) rfl (aj (aH (bH (ay (aa rfl) ae (wne hg)))) (aK (aH (aU ((lZ (aa rfl)).trans (by rw[hi])) (ay (aY (aa rfl) (ln1 _)) ae rfl))) (tN (aa rfl) hf (ah (aa rfl) (ah (aa rfl) (ah (aO (aa rfl) ae rfl) ax))) hc (cW _ _)))))))
 cases S with
 | swap d=>exact act (f:=7) (by decide) (by decide) (by decide) ((aA (fn:=dR 13) rfl).trans (oG (hpl 22) hz d))
 | drop=>exact act (f:=8) (by decide) (by decide) (by decide) ((aA (fn:=dX 13) rfl).trans (oJ (hpl 22) hz))
 | dbl=>exact act (f:=9) (by decide) (by decide) (by decide) ((aA (fn:=dW 13) rfl).trans (oK (hpl 22) hz))
 | cut d=>exact act (f:=10) (by decide) (by decide) (by decide) ((aA (fn:=cB 13) rfl).trans (lV (hpl 22) hz d))
 |grow hb d=>
  exact(aA (fn:=cy 7 8 9 10 11) rfl).trans (aM rfl rfl (eT (aa rfl) rfl (im _) rfl (gS (aa rfl) rfl (aK (aH (aU (ay (aa rfl) ae (weq _)) (ay (aY (aa rfl) (ln1 _)) ae rfl))) (az (x_call (ah (aa rfl) (ah (aa rfl) (ah (aa rfl) (ah (aO (aa rfl) ae rfl) (ah (aO (aa rfl) ae rfl) ax))))) ((aA (fn:=eE 3 13) rfl).trans (sZ (hpl 22) (hook 22 hb) hz d))) (rk _ _))))))
def wO(m:Nat){a:Int}(h:¬ (0<=a/\a+2<=(row.length:Nat))):ao T (m+3) 7 [.int (r:Nat),.fL (L row),.int a]=some .non:=(aA (fn:=dR 13) rfl).trans (aM rfl rfl (aK (aH (fk (aT (bZ (aa rfl) (aa rfl) ae (hpn m row a 2 h))))) (az ae rfl)))
def wM(m:Nat){a:Int}(h:¬ (0<=a/\a+2<=(row.length:Nat))):ao T (m+3) 8 [.int (r:Nat),.fL (L row),.int a]=some .non:=(aA (fn:=dX 13) rfl).trans (aM rfl rfl (aK (aH (fk (aT (bZ (aa rfl) (aa rfl) ae (hpn m row a 2 h))))) (az ae rfl)))
def wz(m:Nat){a:Int}(h:¬ (0<=a/\a+1<=(row.length:Nat))):ao T (m+3) 9 [.int (r:Nat),.fL (L row),.int a]=some .non:=(aA (fn:=dW 13) rfl).trans (aM rfl rfl (aK (aH (fk (aT (bZ (aa rfl) (aa rfl) ae (hpn m row a 1 h))))) (az ae rfl)))
def qT(m:Nat){a:Int}(h:¬ (0<=a/\a+3<=(row.length:Nat))):ao T (m+3) 10 [.int (r:Nat),.fL (L row),.int a]=some .non:=(aA (fn:=cB 13) rfl).trans (aM rfl rfl (aK (aH (fk (aT (bZ (aa rfl) (aa rfl) ae (hpn m row a 3 h))))) (az ae rfl)))
def CB(m:Nat){a b:Int}(h:¬ (0<=a/\a+1<=(row.length:Nat))):ao T (m+3) 11 [.int (n:Nat),.int (r:Nat),.fL (L row),.int a,.int b]=some .non:=(aA (fn:=eE 3 13) rfl).trans (aM rfl rfl (aK (aH (fk (aT (bZ (aa rfl) (aa rfl) ae (hpn m row a 1 h))))) (az ae rfl)))
def zN(m:Nat){a:Int}:ao T (m+3) 9 [.int 0,.fL (L row),.int a]=some .non:=by
 by_cases h:0<=a/\a+1<=(row.length:Nat)
 ·have e:ao T (m+2) 13 [.fL (L row),.int a,.int 1]=some (.bl true):=(plc m row a 1).trans (by rw[decide_eq_true (by omega)]);exact(aA (fn:=dW 13) rfl).trans (aM rfl rfl (aK (aH (cm (aT (bZ (aa rfl) (aa rfl) ae e)) (ay (aa rfl) ae rfl))) (az ae rfl)))
 ·exact wz (r:=0) m h
section
variable{p q:List Nat}{h x:Nat}
def Bh(m:Nat)(d:¬ (h+1<x\/x+1<h)):ao T (m+3) 7 [.int (r:Nat),.fL (L (p++h::x::q)),.int (p.length:Nat)]=some .non :=
 (aA (fn:=dR 13) rfl).trans (aM rfl rfl (aK (aH (cm (aT (bZ (aa rfl) (aa rfl) ae (hpl m _ _ 2 (by simp)))) (ay (aY (ak (aO (aa rfl) (aa rfl) at0) (aO (aa rfl) (ak (aa rfl) ae b1) at1) rfl) (m8 h x)) ae (k:=true) (by show some (decide _)=_;rw[decide_eq_true (by omega)])))) (az ae rfl)))
def qA{a b:Nat}(h:a≠b):bh .ne (.int (a:Nat)) (.int (b:Nat))=some true:=by
 show some (!(_ == _))=_;rw[beq_eq_false_iff_ne.mpr (by omega)];rfl
def zM(m:Nat)(d:¬ x=h):ao T (m+3) 8 [.int (r:Nat),.fL (L (p++h::x::q)),.int (p.length:Nat)]=some .non :=
 (aA (fn:=dX 13) rfl).trans (aM rfl rfl (aK (aH (cm (aT (bZ (aa rfl) (aa rfl) ae (hpl m _ _ 2 (by simp)))) (ay (aO (aa rfl) (aa rfl) at0) (aO (aa rfl) (ak (aa rfl) ae b1) at1) (qA fun z=>d z.symm)))) (az ae rfl)))
def zW(m:Nat)(d:¬ (y=h/\(x=h+1\/h=x+1))):ao T (m+3) 10 [.int (r:Nat),.fL (L (p++h::x::y::q)),.int (p.length:Nat)]=some .non:=by
 have pl:=aT (bZ (cl:=ao T (m+2)) (σ:=[some (.int (r:Nat)),some (.fL (L (p++h::x::y::q))),some (.int (p.length:Nat))]) (e:=.var 1) (e':=.var 2) (aa rfl) (aa rfl) ae (hpl m (p++h::x::y::q) p.length 3 (by simp)));by_cases e:y=h
 ·subst e;refine(aA (fn:=cB 13) rfl).trans (aM rfl rfl (aK (aH (cm pl (cm (ay (aO (aa rfl) (aa rfl) at0) (aO (aa rfl) (ak (aa rfl) ae b2') at2) (nne rfl)) (ay (aY (ak (aO (aa rfl) (aa rfl) at0) (aO (aa rfl) (ak (aa rfl) ae b1) at1) rfl) (m8 y x)) ae (qA (a:=((y:Int)-x).natAbs) (b:=1) (by omega)))))) (az ae rfl)))
 ·exact(aA (fn:=cB 13) rfl).trans (aM rfl rfl (aK (aH (cm pl (fk (ay (aO (aa rfl) (aa rfl) at0) (aO (aa rfl) (ak (aa rfl) ae b2') at2) (qA fun z=>e z.symm))))) (az ae rfl)))
def BM(m:Nat){b:Int}(d:¬ ((0<=b/\b<(n:Int)-1)/\(b=h-1\/b=h+1))):ao T (m+3) 11 [.int (n:Nat),.int (r:Nat),.fL (L (p++h::q)),.int (p.length:Nat),.int b]=some .non:=by
 have pl:=aT (bZ (cl:=ao T (m+2)) (σ:=[some (.int (n:Nat)),some (.int (r:Nat)),some (.fL (L (p++h::q))),some (.int (p.length:Nat)),some (.int b)]) (e:=.var 2) (e':=.var 3) (aa rfl) (aa rfl) ae (hpl m _ _ 1 (by simp)));by_cases e:0<=b/\b<(n:Int)-1
 ·have hk:ao T (m+2) 3 [.int (n:Nat),.int b]=some (.bl true):=(mm m b).trans (by rw[decide_eq_true (by omega)])
  have ab:biV .abs (.int ((h:Int)-b))=some (.int (((h:Int)-b).natAbs:Nat)):=by
   show some (D.int (if(h:Int)-b<0 then -((h:Int)-b)else(h:Int)-b))=_;congr 2;split<;>omega
  exact(aA (fn:=eE 3 13) rfl).trans (aM rfl rfl (aK (aH (cm pl (cm (aT (fV (aa rfl) (aa rfl) hk)) (ay (aY (ak (aO (aa rfl) (aa rfl) at0) (aa rfl) rfl) ab) ae (qA (a:=((h:Int)-b).natAbs) (b:=1) (by omega)))))) (az ae rfl)))
 ·have hk:ao T (m+2) 3 [.int (n:Nat),.int b]=some (.bl false):=(mm m b).trans (by rw[decide_eq_false (by omega)]);exact(aA (fn:=eE 3 13) rfl).trans (aM rfl rfl (aK (aH (cm pl (fk (aT (fV (aa rfl) (aa rfl) hk))))) (az ae rfl)))
end
def act(m:Nat){w:PySem.Str}{f:Nat}{a:Int}{d:D}(hg:w ≠ "grow")(hi:(["swap", "drop", "double", "cut"]:List PySem.Str).any (fun k=>decide (k=w))=true)(hf:fH [("swap",7),("drop",8),("double",9),("cut",10)] (.str w)=some f)(hc:ao T (m+3) f [.int (r:Nat),.fL (L row),.int a]=some d)(im:d.imm=true):ao T (m+4) 12 [.int (n:Nat),prF r row,trD w a []]=some d:=by
 have im2:aB [D.int (r:Nat),.fL (L row)]=true:=by simp[aB,D.imm,bb]
 exact(aA (fn:=cy 7 8 9 10 11) rfl).trans (aM rfl rfl (eT (aa rfl) rfl im2 rfl (gS (aa rfl) rfl (aj (aH (bH (ay (aa rfl) ae (wne hg)))) (aK (aH (aU ((lZ (aa rfl)).trans (by rw[hi])) (ay (aY (aa rfl) (ln1 _)) ae rfl))) (tN (aa rfl) hf (ah (aa rfl) (ah (aa rfl) (ah (aO (aa rfl) ae rfl) ax))) hc im))))))
def Ak(m:Nat){a b:Int}{d:D}(hc:ao T (m+3) 11 [.int (n:Nat),.int (r:Nat),.fL (L row),.int a,.int b]=some d)(im:d.imm=true):ao T (m+4) 12 [.int (n:Nat),prF r row,trD "grow" a [b]]=some d:=by
 have im2:aB [D.int (r:Nat),.fL (L row)]=true:=by simp[aB,D.imm,bb]
 exact(aA (fn:=cy 7 8 9 10 11) rfl).trans (aM rfl rfl (eT (aa rfl) rfl im2 rfl (gS (aa rfl) rfl (aK (aH (aU (ay (aa rfl) ae (weq _)) (ay (aY (aa rfl) (ln1 _)) ae rfl))) (az (x_call (ah (aa rfl) (ah (aa rfl) (ah (aa rfl) (ah (aO (aa rfl) ae rfl) (ah (aO (aa rfl) ae rfl) ax))))) hc) (by unfold cq;rw[im];rfl))))))
def gD(m:Nat){w:PySem.Str}{a:Int}{bs:List Int}(h1:¬ (w = "grow" /\ bs.length=1))(h2:¬ ((["swap", "drop", "double", "cut"]:List PySem.Str).any (fun k=>decide (k=w))=true/\bs.length=0)):ao T (m+4) 12 [.int (n:Nat),prF r row,trD w a bs]=some .non:=by
 have im2:aB [D.int (r:Nat),.fL (L row)]=true:=by simp[aB,D.imm,bb]
 have im3:((D.str w).imm&&aB (.int a::bs.map .int))=true:=by
  have:=gJ w a bs;simpa[trD,D.imm,aB]using this
 have ln:∀ k:Nat,bh .eq (.int ((D.int a::bs.map D.int).length:Nat)) (.int (k:Nat))=some (decide (bs.length+1=k)):=fun k=>by
  show some (_ == _)=_;congr 1;rw[Bool.eq_iff_iff,beq_iff_eq,decide_eq_true_eq,List.length_cons,List.length_map];omega
 refine(aA (fn:=cy 7 8 9 10 11) rfl).trans (aM rfl rfl (eT (aa rfl) rfl im2 rfl (gS (aa rfl) im3 (aj ?_ (aj ?_ (az ae rfl))))))
 ·by_cases hw:w = "grow"
  ·subst hw;exact aH (aU (ay (aa rfl) ae (weq _)) (ay (aY (aa rfl) (ln1 _)) ae ((ln 2).trans (by rw[decide_eq_false fun z=>h1 ⟨rfl,by omega⟩]))))
  ·exact aH (bH (ay (aa rfl) ae (wne hw)))
 ·cases hi:(["swap", "drop", "double", "cut"]:List PySem.Str).any (fun k=>decide (k=w))with
  | true=>exact aH (aU ((lZ (aa rfl)).trans (by rw[hi])) (ay (aY (aa rfl) (ln1 _)) ae ((ln 1).trans (by rw[decide_eq_false fun z=>h2 ⟨hi,by omega⟩]))))
  | false=>exact aH (bH ((lZ (aa rfl)).trans (by rw[hi])))
def sF(m:Nat)(B:Bad n r row w a bs):ao T (m+4) 12 [.int (n:Nat),prF r row,trD w a bs]=some .non:=by
 cases B with
 |out hp hb=>
  match bs,hb with
  |[b],_=>
   by_cases hw:w = "grow"
   ·subst hw;exact Ak m (CB m (by omega)) rfl
   ·exact gD m (fun z=>hw z.1) (fun z=>by cases z.2)
  |[],_=>
   by_cases w1:w = "swap"
   ·subst w1;exact act m (f:=7) (by decide) (by decide) (by decide) (wO m (by omega)) rfl
   by_cases w2:w = "drop"
   ·subst w2;exact act m (f:=8) (by decide) (by decide) (by decide) (wM m (by omega)) rfl
   by_cases w3:w = "double"
   ·subst w3;exact act m (f:=9) (by decide) (by decide) (by decide) (wz m (by omega)) rfl
   by_cases w4:w = "cut"
   ·subst w4;exact act m (f:=10) (by decide) (by decide) (by decide) (qT m (by omega)) rfl
   refine gD m (fun z=>by cases z.2) fun z=>?_;have z:=z.1;simp only[List.any_cons,List.any_nil,Bool.or_false,Bool.or_eq_true,decide_eq_true_eq]at z;rcases z with z | z | z | z
   ·exact w1 z.symm
   ·exact w2 z.symm
   ·exact w3 z.symm
   ·exact w4 z.symm
 | grow0=>exact gD m (fun z=>by cases z.2) (fun z=>by revert z;decide)
 | num hw=>exact gD m (fun z=>hw z.1) (fun z=>by cases z.2)
 | grow d=>exact Ak m (BM m d) rfl
 | dbl=>exact act (r:=0) m (f:=9) (by decide) (by decide) (by decide) (zN m) rfl
 |@swap r h p q d=>
  refine act m (f:=7) (by decide) (by decide) (by decide) ?_ rfl
  cases q with
  | nil=>exact wO m (by simp)
  | cons x q=>exact Bh m (d x q rfl)
 |@drop r h p q d=>
  refine act m (f:=8) (by decide) (by decide) (by decide) ?_ rfl
  cases q with
  | nil=>exact wM m (by simp)
  | cons x q=>exact zM m (d x q rfl)
 |@cut r h p q d=>
  refine act m (f:=10) (by decide) (by decide) (by decide) ?_ rfl
  match q,d with
  | [],_=>exact qT m (by simp)
  | [x],_=>exact qT m (by simp)
  | x::y::q,d=>exact zW m (d x y q rfl)
 |word hg hw=>
  refine gD m (fun z=>hg z.1) fun z=>?_;have z:=z.1;rw[List.any_eq_true]at z;obtain⟨k,hk,z⟩:=z;rw[decide_eq_true_eq]at z;exact hw (z▸hk)
end
end K30
set_option maxHeartbeats 1000000
namespace K32
open RL RT RM
def rI:∀ (n a:Nat),bO (a:Int) n=L (List.range' a n)
 | 0,_=>rfl
 | n+1,a=>by
  rw[bO,List.range'_succ];show D.int (a:Int)::bO ((a:Int)+1) n=D.int (a:Int)::L (List.range' (a+1) n);rw[<-rI n (a+1)];rfl
def Aw{n:Nat}(h:n<=10000):iu (.int 0) (.int n)=some (L (List.range n)):=by
 show(if((n:Int)-0).toNat<=most/\-(2 ^ 60)<=(0:Int)/\(0:Int)<2 ^ 60/\-(2 ^ 60)<=(n:Int)/\(n:Int)<2 ^ 60 then some (bO 0 ((n:Int)-0).toNat)else none)=_
 have q:(2:Int) ^ 60=1152921504606846976:=by decide
 rw[q,if_pos ⟨by unfold most;omega,by omega,by omega,by omega,by omega⟩,show((n:Int)-0).toNat=n by omega,List.range_eq_range'];exact congrArg some (rI n 0)
def CK{ns:List Int}(hl:ns.length<=63):i6 (.scr (LI ns)) (.int 63)=some (.lst (LI ns)):=by
 show some (D.lst ((LI ns).take (cutAt (LI ns).length 63)))=_;rw[List.take_of_length_le];rw[tJ];unfold cutAt;rw[if_pos (by decide)];show ns.length<=min 63 ns.length;omega
def wV(h:ja ds [a,b,c,d]):∃ x y z u,ds=[x,y,z,u]/\x<a/\y<b/\z<c/\u<d:=by
 obtain⟨h1,h2⟩:=h
 match ds,h1 with
 | [x,y,z,u],_=>exact⟨x,y,z,u,rfl,h2 0 x a rfl rfl,h2 1 y b rfl rfl,h2 2 z c rfl rfl,h2 3 u d rfl rfl⟩
abbrev IsT(g:D):Prop:=∃ w a bs,bs.length<=1/\g=trD w a bs
def IsT.imm(h:IsT g):g.imm=true:=by
 obtain⟨w,a,bs,_,rfl⟩:=h;exact gJ w a bs
def t2(w:PySem.Str)(a:Int):IsT (.tup [.str w,.int a]):=⟨w,a,[],by simp,rfl⟩
def t3(w:PySem.Str)(a b:Int):IsT (.tup [.str w,.int a,.int b]):=⟨w,a,[b],by simp,rfl⟩
def jm:∀ {gs:List D},(∀ g∈gs,IsT g)->aB gs=true
 | [],_=>rfl
 | g::r,h=>by rw[aB,(h g (by simp)).imm,jm fun g hg=>h g (by simp[hg])];rfl
section
variable{cl:Cl}{n r:Nat}{row:List Nat}{F:St->Option (Option D)}{σ:St}{i:Nat}
def uC(hf:F (σ.set i (some d))=some (some x))(im:x.imm=true)(hr:cM F [i] σ ds=some ys):cM F [i] σ (d::ds)=some (x::ys):=by
 show(bN [i] d σ).bind _=_;rw[iB,Option.bind_some,hf,Option.bind_some,hr,Option.bind_some];exact if_pos im
def nq:∀ {gs:List D},(∀ g∈gs,IsT g/\∃ b:Bool,F (σ.set i (some g))=some (if b then some g else none))->∃ gs',cM F [i] σ gs=some gs'/\(∀ g∈gs',IsT g)/\gs'.length<=gs.length
 | [],_=>⟨[],rfl,fun g hg=>(by cases hg),Nat.le_refl _⟩
 | g::r,h=>by
  obtain⟨gs',e,h1,h2⟩:=nq (gs:=r) fun g hg=>h g (by simp[hg]);obtain⟨it,b,hb⟩:=h g (by simp)
  have u:cM F [i] σ (g::r)=(F (σ.set i (some g))).bind fun y=>(cM F [i] σ r).bind (lj y):=by
   show(bN [i] g σ).bind _=_;rw[iB];rfl
  cases b with
  |true=>
   refine⟨g::gs',?_,fun x hx=>?_,by simp;omega⟩
   ·rw[u,hb,e];exact if_pos it.imm
   ·rcases List.mem_cons.mp hx with rfl | hx
    ·exact it
    ·exact h1 x hx
  | false=>exact⟨gs',by rw[u,hb,e];rfl,h1,by simp;omega⟩
def pW(gs:List D):bh .ne (.lst gs) (.lst [])=some (!gs.isEmpty):=by
 cases gs<;>rfl
abbrev sT(s:D)(k n r:Nat)(row:List Nat)(a:Int)(gs:List D)(o6:Option D)(way num far:Nat):St:=[some s,some (.int (k:Nat)),some (.int (n:Nat)),some (prF r row),some (.int a),some (.lst gs),o6,some (.int (way:Nat)),some (.int (num:Nat)),some (.int (far:Nat)),none,none,none,none]
def qc{σ:St}(h:(σ[3]?).bind id=some (prF r row)):ev cl σ (.ix (.var 3) (.cst (.int 1)))=some (.fL (L row)):=aO (aa h) ae rfl
def tU(s:D)(k n way num far:Nat)(a:Int)(hz:row.length<=5000):∃ gs o6,(∀ g∈gs,IsT g)/\gs.length<=6*row.length/\br (aw cl [] (dA 23 21)) [6] (L (List.range row.length)) (sT s k n r row a [] none way num far)=some (.nx,sT s k n r row a gs o6 way num far):=by
 obtain⟨σ',e,gs,o6,h1,h2,rfl⟩:=fG (f:=aw cl [] (dA 23 21)) (tg:=[6]) (xs:=List.range row.length) (σ:=sT s k n r row a [] none way num far)
  (fun p σ=>∃ gs o6,(∀ g∈gs,IsT g)/\gs.length<=6*p.length/\σ=sT s k n r row a gs o6 way num far) ⟨[],none,fun g hg=>(by cases hg),by simp,rfl⟩ (by
   rintro p x q σ hx ⟨gs,o6,h1,h2,rfl⟩
   have hxr:x<row.length:=by
    have:x∈List.range row.length:=by rw[hx];simp
    simpa using this
   have pl:p.length<=row.length:=by
    have:=congrArg List.length hx;simp at this;omega
   obtain⟨v,hv⟩:∃ v,row[x]?=some v:=⟨row[x],by simp[hxr]⟩
   let A:List D:=[.tup [.str "swap",.int (x:Nat)],.tup [.str "drop",.int (x:Nat)],.tup [.str "cut",.int (x:Nat)],.tup [.str "double",.int (x:Nat)]]
   let B:List D:=[.tup [.str "grow",.int (x:Nat),.int ((v:Int)+-1)],.tup [.str "grow",.int (x:Nat),.int ((v:Int)+1)]]
   have c1:ev cl (sT s k n r row a gs (some (.int (x:Nat))) way num far) (.compA (.tup (.cons (.var 12) (.cons (.var 6) .nil))) [12] (.seq (.tup (.cons (.cst (.str "swap")) (.cons (.cst (.str "drop")) (.cons (.cst (.str "cut")) (.cons (.cst (.str "double")) .nil)))))))=some (.lst A) :=
    jn (qv (aR (ah ae (ah ae (ah ae (ah ae ax))))) rfl) (by decide) rfl
   have el:∀ (gs:List D) (st:Int),ev cl ((sT s k n r row a gs (some (.int (x:Nat))) way num far).set 13 (some (.int st))) (.tup (.cons (.cst (.str "grow")) (.cons (.var 6) (.cons (.bin .add (.ix (.ix (.var 3) (.cst (.int 1))) (.var 6)) (.var 13)) .nil))))=some (.tup [.str "grow",.int (x:Nat),.int ((v:Int)+st)]):=fun gs st =>
    aR (ah ae (ah (aa rfl) (ah (ak (aO (qc rfl) (aa rfl) (kv hv)) (aa rfl) rfl) ax)))
   have c2:∀ gs:List D,ev cl (sT s k n r row a gs (some (.int (x:Nat))) way num far) (.compA (.tup (.cons (.cst (.str "grow")) (.cons (.var 6) (.cons (.bin .add (.ix (.ix (.var 3) (.cst (.int 1))) (.var 6)) (.var 13)) .nil)))) [13] (.seq (.tup (.cons (.neg (.cst (.int 1))) (.cons (.cst (.int 1)) .nil)))))=some (.lst B):=fun gs =>
    jn (qv (aR (ah (BR ae) (ah ae ax))) rfl) (by decide) (uC (by rw[el];rfl) rfl (uC (by rw[el];rfl) rfl rfl))
   have hA:∀ g∈gs++A,IsT g:=fun g hg=>by
    rcases List.mem_append.mp hg with hg | hg
    ·exact h1 g hg
    ·simp only[A,List.mem_cons,List.not_mem_nil,or_false]at hg;rcases hg with rfl | rfl | rfl | rfl<;>exact t2 _ _
   have hB:∀ g∈gs++A++B,IsT g:=fun g hg=>by
    rcases List.mem_append.mp hg with hg | hg
    ·exact hA g hg
    ·simp only[B,List.mem_cons,List.not_mem_nil,or_false]at hg;rcases hg with rfl | rfl<;>exact t3 _ _ _
   have l1:aQ .add (.lst gs) (.lst A)=some (.lst (gs++A)):=by rw[vR];exact if_pos (by show gs.length+4<=most;unfold most;omega)
   have l2:aQ .add (.lst (gs++A)) (.lst B)=some (.lst (gs++A++B)):=by rw[vR];exact if_pos (by rw[List.length_append];show gs.length+4+2<=most;unfold most;omega)
   refine⟨sT s k n r row a (gs++A++B) (some (.int (x:Nat))) way num far,?_,_,_,hB,?_,rfl⟩
   ·rw[iB,Option.bind_some];exact aW (ak (aa rfl) c1 l1) (by simp[bF,aX,jm hA,aG]) (aW (ak (aa rfl) (c2 _) l2) (by simp only[bF,aX,jm hB,aG];simp) cO)
   ·simp only[List.length_append,List.length_cons,List.length_nil];show gs.length+4+2<=_
    omega)
 exact⟨gs,o6,h1,by simpa using h2,e⟩
def nine(at' far:Int):∀ m:Nat,m<9->∃ g,IsT g/\bJ [D.tup [.str "grow",.int at'],.tup [.str "swap",.int at',.int 0],.tup [.str "",.int at'],.tup [.str "Swap",.int at'],.tup [.str "drop",.int far],.tup [.str "cut",.int (0-far)],.tup [.str "drop",.int at',.int 0],.tup [.str "double",.int at',.int 0],.tup [.str "cut",.int at',.int 0]] (m:Nat)=some g
 | 0,_=>⟨_,t2 _ _,rfl⟩
 | 1,_=>⟨_,t3 _ _ _,rfl⟩
 | 2,_=>⟨_,t2 _ _,rfl⟩
 | 3,_=>⟨_,t2 _ _,rfl⟩
 | 4,_=>⟨_,t2 _ _,rfl⟩
 | 5,_=>⟨_,t2 _ _,rfl⟩
 | 6,_=>⟨_,t3 _ _ _,rfl⟩
 | 7,_=>⟨_,t3 _ _ _,rfl⟩
 | 8,_=>⟨_,t3 _ _ _,rfl⟩
def three(a b c:Int):∀ m:Nat,m<3->∃ v,bJ [D.int a,.int b,.int c] (m:Nat)=some (.int v)
 | 0,_=>⟨_,rfl⟩
 | 1,_=>⟨_,rfl⟩
 | 2,_=>⟨_,rfl⟩
def four:∀ m:Nat,m<4->∃ w:PySem.Str,bJ [D.str "swap",.str "drop",.str "cut",.str "double"] (m:Nat)=some (.str w)
 | 0,_=>⟨_,rfl⟩
 | 1,_=>⟨_,rfl⟩
 | 2,_=>⟨_,rfl⟩
 | 3,_=>⟨_,rfl⟩
def md{b:Nat}(h:0<b)(far:Nat):aQ .mod (.int (far:Nat)) (.int (b:Nat))=some (.int ((far%b:Nat):Int)):=by
 rw[dI (by omega)];rfl
def rIs{M:List Nat}{e:E}(h:IsT g):cq M e g=true:=by unfold cq;rw[h.imm];rfl
end
end K32
set_option maxHeartbeats 1000000
namespace RM
open RL RT
section
variable{n:Nat}{f h a b:List Nat}
end
end RM
set_option maxHeartbeats 1000000
namespace RM
open RL RT
section
end
end RM
set_option maxHeartbeats 1000000
namespace RM
open RL RT
section
variable{n:Nat}{f g A B:List Nat}
end
end RM
set_option maxHeartbeats 1000000
namespace RM
open RL RT
section
variable{cl:Cl}{xs:List Int}
end
end RM
set_option maxHeartbeats 1000000
namespace RT
open RL
end RT
namespace RM
open RL RT
section
variable{cl:Cl}{n:Nat}{h a b:List Nat}
end
end RM
set_option maxHeartbeats 1000000
namespace RM
open RL RT
end RM
set_option maxHeartbeats 1000000
namespace RT
open RL
end RT
namespace RM
open RL RT
section
variable{cl:Cl}
end
end RM
set_option maxHeartbeats 1000000
namespace RM
open RL RT
section
variable{T:List Fn}{hf nf td wy ch:Nat}
end
end RM
set_option maxHeartbeats 1000000
namespace RM
open RL RT
section
variable{T:List Fn}{hf nf td wy ch:Nat}
end
end RM
set_option maxHeartbeats 1000000
namespace RM
open RL RT
section
variable{cl:Cl}{n:Nat}{f h:List Nat}
end
section
variable{T:List Fn}{nu pc pa nb un if' cf po rp ir mv hf nf td wy ch cn ih chf go to hmh ho hnm cp n:Nat}{h:List Nat}
end
end RM
set_option maxHeartbeats 1000000
namespace RT
open RL
end RT
namespace RM
open RL RT
section
variable{cl:Cl}{n:Nat}{a b:List Nat}
def ud{M:List Nat}{σ σ':St}{e:E}{d:D}{i:Nat}{r:Ss}{c:PySem.Str}(h:ev cl σ e=some d)(ok:bF M e d=true)(k:Rr cl M r (σ.set i (some d)) c σ'):Rr cl M (.cons (.asg i e) r) σ c σ':=BB (by
 show(ev cl σ e).bind _=_
 rw[h,Option.bind_some,if_pos ok]) k
end
end RM
set_option maxHeartbeats 1000000
namespace K30
open RL RT RM K32
def dg:Dg T 15 16 17:=⟨rfl,rfl,rfl⟩
section
variable{cl:Cl}{n r:Nat}{row:List Nat}
def vJ{ns:List Int}(hl:ns.length<=63)(hz:row.length<=5000)(hn:1<=n)(k:Nat)(hk:k<=900):∃ w a bs,bs.length<=1/\ao T 29 20 [.lst (LI ns),.int (k:Nat),.int (n:Nat),prF r row]=some (trD w a bs):=by
 suffices h:∃ g,IsT g/\ao T 29 20 [.lst (LI ns),.int (k:Nat),.int (n:Nat),prF r row]=some g by
  obtain⟨g,⟨w,a,bs,hb,rfl⟩,e⟩:=h;exact⟨w,a,bs,hb,e⟩
 obtain⟨ds,hd,e1⟩:=dg.digits hl 25 (k:=k) (sizes:=[14,row.length+2,10,10 ^ 20]) (by omega) (by simp;omega) (by simp);obtain⟨way,at0,nm,far,rfl,hw,ha,hm,hf⟩:=wV hd;have pw:aQ .pow (.int 10) (.int 20)=some (.int ((10 ^ 20:Nat):Int)):=rfl;have l2:aQ .add (.int (row.length:Nat)) (.int 2)=some (.int ((row.length+2:Nat):Int)):=rfl;obtain⟨gs,o6,g1,g2,lp⟩:=tU (cl:=ao T 28) (r:=r) (row:=row) (.lst (LI ns)) k n way nm far ((at0:Int)-1) hz
 have af:∀ g∈gs,IsT g/\∃ b:Bool,(fun σ1=>((ev (ao T 28) σ1 (.isN true (.call 19 (.cons (.var 2) (.cons (.var 3) (.cons (.var 11) .nil)))))).bind truth).bind fun k=>if k then(ev (ao T 28) σ1 (.var 11)).map some else some none) ((sT (.lst (LI ns)) k n r row ((at0:Int)-1) gs o6 way nm far).set 11 (some g))=some (if b then some g else none):=fun g hg=>by
  refine⟨g1 g hg,?_⟩;obtain⟨w,a,bs,hb,rfl⟩:=g1 g hg
  rcases K32.jd (cl:=ao T 27) (r:=r) hz hn w a bs hb with q | ⟨r',row',_,q⟩
  ·have q:ao T 28 19 [.int (n:Nat),prF r row,trD w a bs]=some .non:=(aA (fn:=aZ) rfl).trans q;refine⟨false,?_⟩;show((ev (ao T 28) _ _).bind truth).bind _=_;rw[aH (ig (n:=true) (k:=false) rfl (bZ (aa rfl) (aa rfl) (aa rfl) q))];rfl
  ·have q:ao T 28 19 [.int (n:Nat),prF r row,trD w a bs]=some (prF r' row'):=(aA (fn:=aZ) rfl).trans q;refine⟨true,?_⟩;show((ev (ao T 28) _ _).bind truth).bind _=_;rw[aH (ig (n:=true) (k:=true) rfl (bZ (aa rfl) (aa rfl) (aa rfl) q))];rfl
 obtain⟨hs,m1,m2,m3⟩:=nq (F:=fun σ1=>((ev (ao T 28) σ1 (.isN true (.call 19 (.cons (.var 2) (.cons (.var 3) (.cons (.var 11) .nil)))))).bind truth).bind fun k=>if k then(ev (ao T 28) σ1 (.var 11)).map some else some none) (σ:=sT (.lst (LI ns)) k n r row ((at0:Int)-1) gs o6 way nm far) (i:=11) (gs:=gs) af
 have st:∀ {d σ'},aw (ao T 28) [] (.cons (.ife (.and (.cmp .lt (.var 7) (.cst (.int 9))) (.cmp .ne (.var 5) (.lst .nil))) (.cons (.ret (.ix (.var 5) (.bin .mod (.var 9) (.bi .len (.var 5))))) .nil) .nil) (.cons (.ife (.cmp .eq (.var 7) (.cst (.int 9))) (.cons (.ret (.tup (.cons (.cst (.str "grow")) (.cons (.var 4) (.cons (.ix (.lst (.cons (.bin .sub (.var 8) (.cst (.int 1))) (.cons (.var 9) (.cons (.bin .sub (.cst (.int 0)) (.var 9)) .nil)))) (.bin .mod (.var 9) (.cst (.int 3)))) .nil))))) .nil) .nil) (.cons (.ife (.cmp .eq (.var 7) (.cst (.int 10))) (.cons (.asg 10 (.lst (.cons (.tup (.cons (.cst (.str "grow")) (.cons (.var 4) .nil))) (.cons (.tup (.cons (.cst (.str "swap")) (.cons (.var 4) (.cons (.cst (.int 0)) .nil)))) (.cons (.tup (.cons (.cst (.str "")) (.cons (.var 4) .nil))) (.cons (.tup (.cons (.cst (.str "Swap")) (.cons (.var 4) .nil))) (.cons (.tup (.cons (.cst (.str "drop")) (.cons (.var 9) .nil))) (.cons (.tup (.cons (.cst (.str "cut")) (.cons (.bin .sub (.cst (.int 0)) (.var 9)) .nil))) .nil)))))))) (.cons (.ret (.ix (.bin .add (.var 10) (.lst (.cons (.tup (.cons (.cst (.str "drop")) (.cons (.var 4) (.cons (.cst (.int 0)) .nil)))) (.cons (.tup (.cons (.cst (.str "double")) (.cons (.var 4) (.cons (.cst (.int 0)) .nil)))) (.cons (.tup (.cons (.cst (.str "cut")) (.cons (.var 4) (.cons (.cst (.int 0)) .nil)))) .nil))))) (.bin .mod (.var 9) (.cst (.int 9))))) .nil)) .nil) (.cons (.ret (.tup (.cons (.ix (.lst (.cons (.cst (.str "swap")) (.cons (.cst (.str "drop")) (.cons (.cst (.str "cut")) (.cons (.cst (.str "double")) .nil))))) (.bin .mod (.var 9) (.cst (.int 4)))) (.cons (.var 4) .nil)))) .nil)))) (sT (.lst (LI ns)) k n r row ((at0:Int)-1) hs o6 way nm far)=some (.rt d,σ')->ao T 29 20 [.lst (LI ns),.int (k:Nat),.int (n:Nat),prF r row]=some d:=fun {d σ'} z =>
  (aA (fn:=fS 19 17) rfl).trans (aM rfl rfl (eT (bZ (aa rfl) (aa rfl) (bc (ah ae (ah (ak (aY (qc rfl) (km row)) ae l2) (ah ae (ah (ak ae ae pw) ax))))) e1) rfl rfl rfl
   (aW (ak (aa rfl) ae (d:=.int ((at0:Int)-1)) rfl) rfl (aW (bc ax) rfl (iP (mE (aY (qc rfl) (km row)) (Aw (by omega))) lp
   (aW (zB (qv (aa rfl) rfl) (by show gs.length<=most;unfold most;omega) m1) (by simp[bF,aX,jm m2,aG]) z))))))
 have rest:∀ (h9:¬ way<9\/hs=[]),∃ g,IsT g/\ao T 29 20 [.lst (LI ns),.int (k:Nat),.int (n:Nat),prF r row]=some g:=fun h9=>by
  have no1:(ev (ao T 28) (sT (.lst (LI ns)) k n r row ((at0:Int)-1) hs o6 way nm far) (.and (.cmp .lt (.var 7) (.cst (.int 9))) (.cmp .ne (.var 5) (.lst .nil)))).bind truth=some false:=by
   by_cases hw9:way<9
   ·have e:hs=[]:=h9.resolve_left (by omega);subst e;exact aH (aU (ay (aa rfl) ae (by show some (decide _)=_;rw[decide_eq_true (by omega)])) (ay (aa rfl) (bc ax) (pW _)))
   ·exact aH (bH (ay (aa rfl) ae (by show some (decide _)=_;rw[decide_eq_false (by omega)])))
  by_cases w9:way=9
  ·subst w9;obtain⟨v,hv⟩:=three ((nm:Int)-1) far (0-far) (far%3) (by omega);exact⟨_,t3 "grow" ((at0:Int)-1) v,st (aj no1 (aK (aH (ay (aa rfl) ae rfl)) (az (aR (ah ae (ah (aa rfl) (ah (aO (bc (ah (ak (aa rfl) ae rfl) (ah (aa rfl) (ah (ak ae (aa rfl) rfl) ax)))) (ak (aa rfl) ae (md (b:=3) (by omega) far)) hv) ax)))) (rIs (t3 _ _ _)))))⟩
  ·have no2:(ev (ao T 28) (sT (.lst (LI ns)) k n r row ((at0:Int)-1) hs o6 way nm far) (.cmp .eq (.var 7) (.cst (.int 9)))).bind truth=some false:=aH (ay (aa rfl) ae (by show some (_ == _)=_;rw[beq_eq_false_iff_ne.mpr (by omega)]));by_cases w10:way=10
   ·subst w10;obtain⟨g,hg,hv⟩:=nine ((at0:Int)-1) far (far%9) (by omega)
    exact⟨g,hg,st (aj no1 (aj no2 (aK (aH (ay (aa rfl) ae rfl)) (aW (bc (ah (aR (ah ae (ah (aa rfl) ax))) (ah (aR (ah ae (ah (aa rfl) (ah ae ax)))) (ah (aR (ah ae (ah (aa rfl) ax))) (ah (aR (ah ae (ah (aa rfl) ax))) (ah (aR (ah ae (ah (aa rfl) ax))) (ah (aR (ah ae (ah (ak ae (aa rfl) rfl) ax))) ax))))))) rfl
     (az (aO (ak (aa rfl) (bc (ah (aR (ah ae (ah (aa rfl) (ah ae ax)))) (ah (aR (ah ae (ah (aa rfl) (ah ae ax)))) (ah (aR (ah ae (ah (aa rfl) (ah ae ax)))) ax)))) rfl) (ak (aa rfl) ae (md (b:=9) (by omega) far)) hv) (rIs hg))))))⟩
   ·have no3:(ev (ao T 28) (sT (.lst (LI ns)) k n r row ((at0:Int)-1) hs o6 way nm far) (.cmp .eq (.var 7) (.cst (.int 10)))).bind truth=some false:=aH (ay (aa rfl) ae (by show some (_ == _)=_;rw[beq_eq_false_iff_ne.mpr (by omega)]));obtain⟨w,hv⟩:=four (far%4) (by omega);exact⟨_,t2 w ((at0:Int)-1),st (aj no1 (aj no2 (aj no3 (az (aR (ah (aO (bc (ah ae (ah ae (ah ae (ah ae ax))))) (ak (aa rfl) ae (md (b:=4) (by omega) far)) hv) (ah (aa rfl) ax))) (rIs (t2 _ _))))))⟩
 by_cases hw9:way<9
 ·cases hs with
  | nil=>exact rest (.inr rfl)
  |cons g0 hs=>
   have hi:far%(g0::hs).length<(g0::hs).length:=Nat.mod_lt _ (by simp)
   have hv:bJ (g0::hs) ((far%(g0::hs).length:Nat):Int)=some ((g0::hs)[far%(g0::hs).length]):=by
    unfold bJ;rw[if_pos (Int.natCast_nonneg _),Int.toNat_natCast];exact List.getElem?_eq_getElem hi
   have it:=m2 _ (List.getElem_mem hi);exact⟨_,it,st (aK (aH (aU (ay (aa rfl) ae (by show some (decide _)=_;rw[decide_eq_true (by omega)])) (ay (aa rfl) (bc ax) (pW _)))) (az (aO (aa rfl) (ak (aa rfl) (aY (aa rfl) rfl) (md (by simp) far)) hv) (rIs it)))⟩
 ·exact rest (.inl hw9)
end
section
variable{n r r':Nat}{row row':List Nat}
def AZ(m:Nat)(h1:1<=n)(h2:n<=10):ao T (m+3) 2 [.int (n:Nat)]=some .non:=(aA (fn:=eg 1) rfl).trans (kU ((aA (fn:=dq 0) rfl).trans ((j6 (num m) n).trans (by rw[decide_eq_true (by omega)]))))
def yN{cl:Cl}(h1:cl 2 [.int (n:Nat)]=some .non)(h2:∀ i∈row,cl 3 [.int (n:Nat),.int (i:Nat)]=some (.bl true)):evF cl (dB 3 2) [.int (n:Nat),.fL (L row)]=some .non:=by
 obtain⟨σ',e,o',rfl⟩:=fG (f:=aw cl [] (di 3 2)) (tg:=[2]) (xs:=row) (σ:=[some (.int (n:Nat)),some (.fL (L row)),none]) (fun _ σ=>∃ o,σ=[some (.int (n:Nat)),some (.fL (L row)),o]) ⟨none,rfl⟩ (by
  rintro p x q σ rfl ⟨o,rfl⟩
  exact⟨_,aj (aH (aT (fV (aa rfl) (aa rfl) (h2 x (by simp))))) cO,_,rfl⟩)
 exact AE (fn:=dB 3 2) rfl rfl (sj (kB (aa rfl) h1) (iP (nj (aa rfl) rfl) e cO))
def rows(m:Nat)(h1:1<=n)(h2:n<=10)(hr:∀ i∈row,i+1<n):ao T (m+4) 4 [.int (n:Nat),.fL (L row)]=some .non:=(aA (fn:=dB 3 2) rfl).trans (yN (AZ m h1 h2) fun i hi=>hook (m+1) (hr i hi))
def si(h1:1<=n)(h2:n<=10)(hr:∀ i∈row,i+1<n)(S:Stp n r row w a bs r' row')(hz:row.length<=5000):ao T 28 5 [.int (n:Nat),.int (r:Nat),.fL (L row),trD w a bs]=some (prF r' row'):=by
 have lp:br (aw (ao T 26) [] (cP 12 4)) [5,6] (du 0 [trD w a bs]) [some (.int (n:Nat)),some (.int (r:Nat)),some (.fL (L row)),some (.lst [trD w a bs]),some (prF r row),none,none]=some (.nx,[some (.int (n:Nat)),some (.int (r:Nat)),some (.fL (L row)),some (.lst [trD w a bs]),some (prF r' row'),some (.int 0),some (trD w a bs)]):=by
  refine yb (d:=.tup [.int 0,trD w a bs]) (by show aB [D.int 0,trD w a bs]=true;simp[aB,D.imm,gJ]) rfl (aW (bZ (aa rfl) (aa rfl) (aa rfl) (sS S hz)) (by unfold bF;rw[cW];rfl) (aj (aH (ig (n:=false) (k:=false) rfl (aa rfl))) cO)) Bq
 have wk:ao T 27 6 [.int (n:Nat),.int (r:Nat),.fL (L row),.lst [trD w a bs]]=some (prF r' row'):=(aA (fn:=iG 12 4) rfl).trans (aM rfl rfl (sj (fV (aa rfl) (aa rfl) (rows 22 h1 h2 hr)) (aW (aR (ah (aa rfl) (ah (bX (aY (aa rfl) rfl) rfl (bb _)) ax))) (by unfold bF;rw[show(D.tup [D.int (r:Nat),.fL (L row)]).imm=true from cW r row];rfl) (iP (xq (aa rfl) rfl) lp (az (aa rfl) (by unfold cq;rw[cW];rfl))))));exact(aA (fn:=iq 6) rfl).trans (aM rfl rfl (az (x_call (ah (aa rfl) (ah (aa rfl) (ah (aa rfl) (ah (bc (ah (aa rfl) ax)) ax)))) wk) (by unfold cq;rw[cW];rfl)))
def AL{cl:Cl}{k:Nat}(h:ev cl σ e=some (.int (k:Nat)))(hk:k<=100):Rr cl M (.cons (.raiI c e) rs) σ (mkR c k) σ:=fR (by rw[zX]) (by
 show((ev cl σ e).bind (vD c)).map _=_;rw[h];show(if 0<=((k:Nat):Int)/\written (.int (k:Nat))=true then some (mkR c ((k:Nat):Int).toNat)else none).map _=_;rw[if_pos ⟨Int.natCast_nonneg k,iR hk⟩]
 rfl)
def tY(h1:1<=n)(h2:n<=10)(hr:∀ i∈row,i+1<n)(B:Bad n r row w a bs):Rc (ao T 27) 6 [.int (n:Nat),.int (r:Nat),.fL (L row),.lst [trD w a bs]] (mkR "BadTrade" 0):=by
 have body:Rr (ao T 26) [] (cP 12 4) [some (.int (n:Nat)),some (.int (r:Nat)),some (.fL (L row)),some (.lst [trD w a bs]),some (prF r row),some (.int 0),some (trD w a bs)] (mkR "BadTrade" 0) [some (.int (n:Nat)),some (.int (r:Nat)),some (.fL (L row)),some (.lst [trD w a bs]),some .non,some (.int 0),some (trD w a bs)] :=
  ud (bZ (aa rfl) (aa rfl) (aa rfl) (sF 22 B)) rfl (wB (aH (ig (n:=false) (k:=true) rfl (aa rfl))) (AL (k:=0) (aa rfl) (by omega)))
 have im:(D.tup [.int 0,trD w a bs]).imm=true:=by show aB [D.int 0,trD w a bs]=true;simp[aB,D.imm,gJ]
 have k1:br (aw (ao T 26) [] (cP 12 4)) [5,6] (du 0 [trD w a bs]) [some (.int (n:Nat)),some (.int (r:Nat)),some (.fL (L row)),some (.lst [trD w a bs]),some (prF r row),none,none]=none:=by
  show br _ _ [.tup [.int 0,trD w a bs]] _=_;rw[br,if_pos im];show(aw (ao T 26) [] (cP 12 4) [some (.int (n:Nat)),some (.int (r:Nat)),some (.fL (L row)),some (.lst [trD w a bs]),some (prF r row),some (.int 0),some (trD w a bs)]).bind _=_;rw[body.1];rfl
 have k2:c8 (aw (ao T 26) [] (cP 12 4)) (bu (ao T 26) [] (cP 12 4)) [5,6] (du 0 [trD w a bs]) [some (.int (n:Nat)),some (.int (r:Nat)),some (.fL (L row)),some (.lst [trD w a bs]),some (prF r row),none,none]=some (mkR "BadTrade" 0,[some (.int (n:Nat)),some (.int (r:Nat)),some (.fL (L row)),some (.lst [trD w a bs]),some .non,some (.int 0),some (trD w a bs)]):=by
  show c8 _ _ _ [.tup [.int 0,trD w a bs]] _=_;rw[c8,if_pos im]
  show(match aw (ao T 26) [] (cP 12 4) [some (.int (n:Nat)),some (.int (r:Nat)),some (.fL (L row)),some (.lst [trD w a bs]),some (prF r row),some (.int 0),some (trD w a bs)]with
   | some p=>match p.1 with
    | .nx=>_
    | .rt _=>none
   | none=>_)=_
  rw[body.1];exact body.2
 have ps:(D.tup [D.int (r:Nat),.fL (L row)]).imm=true:=cW r row;exact kr (fn:=iG 12 4) rfl (by decide) rfl rfl (Ay (fV (aa rfl) (aa rfl) (rows 22 h1 h2 hr)) (ud (aR (ah (aa rfl) (ah (bX (aY (aa rfl) rfl) rfl (bb _)) ax))) (by unfold bF;rw[ps];rfl) (wZ (xq (aa rfl) rfl) k1 k2)))
def sP(h1:1<=n)(h2:n<=10)(hr:∀ i∈row,i+1<n)(B:Bad n r row w a bs):Rc (ao T 28) 5 [.int (n:Nat),.int (r:Nat),.fL (L row),trD w a bs] (mkR "BadTrade" 0) :=
 kr (fn:=iq 6) rfl (by decide) rfl rfl (xj (kd (ah (aa rfl) (ah (aa rfl) (ah (aa rfl) (ah (bc (ah (aa rfl) ax)) ax)))) (tY h1 h2 hr B)))
def zP(h1:2<=n)(h2:n<=10)(hr:∀ i∈row,i+1<n):Rc (ao T 26) 4 [.int (n:Nat),.fL (L (row++[n-1]))] "BadHook" := by
 have e:L (row++[n-1])=L row ++ .int ((n-1:Nat):Int)::[]:=by simp[L]
 have nh:ao T 25 3 [.int (n:Nat),.int ((n-1:Nat):Int)]=some (.bl false):=(mm 23 _).trans (by rw[decide_eq_false (by omega)])
 obtain⟨k1,σ',k2,_⟩:=uz (f:=aw (ao T 25) [] (di 3 2)) (fx:=bu (ao T 25) [] (di 3 2)) (tg:=[2]) (c := "BadHook") (post:=[]) (d:=.int ((n-1:Nat):Int)) (fun σ=>∃ o,σ=[some (.int (n:Nat)),some (.fL (L (row++[n-1]))),o]) (L row) [some (.int (n:Nat)),some (.fL (L (row++[n-1]))),none] ⟨none,rfl⟩ (fun x hx=>by
  obtain⟨a,_,rfl⟩:=List.mem_map.mp hx
  rfl) rfl (by
  rintro x hx σ ⟨o,rfl⟩;obtain⟨a,ha,rfl⟩:=List.mem_map.mp hx
  exact⟨_,_,rfl,aj (aH (aT (fV (aa rfl) (aa rfl) (hook 23 (hr a ha))))) cO,⟨_,rfl⟩⟩) (by
  rintro σ ⟨o,rfl⟩
  have q:Rr (ao T 25) [] (di 3 2) [some (.int (n:Nat)),some (.fL (L (row++[n-1]))),some (.int ((n-1:Nat):Int))] "BadHook" _:=wB (aH (aT (fV (aa rfl) (aa rfl) nh))) (Aj (ah (aa rfl) (ah (aa rfl) ax)) (by
   rw[List.all_cons,List.all_cons,iR (show n-1<=100 by omega),iR (show n<=100 by omega)];rfl))
  exact⟨_,rfl,q.1,_,q.2,⟨_,rfl⟩⟩)
 exact kr (fn:=dB 3 2) rfl (by decide) rfl rfl (Ay (kB (aa rfl) (AZ 22 (by omega) h2)) (wZ (nj (aa rfl) (by rw[e];rfl)) k1 k2))
def sf{t:D}(h1:2<=n)(h2:n<=10)(hr:∀ i∈row,i+1<n):Rc (ao T 28) 5 [.int (n:Nat),.int (r:Nat),.fL (L (row++[n-1])),t] "BadHook" :=
 kr (fn:=iq 6) rfl (by decide) rfl rfl (xj (kd (ah (aa rfl) (ah (aa rfl) (ah (aa rfl) (ah (bc (ah (aa rfl) ax)) ax)))) (kr (fn:=iG 12 4) rfl (by decide) rfl rfl (C3 (DF (aa rfl) (aa rfl) (zP h1 h2 hr))))))
def BQ{cl:Cl}(h1:aw cl M b σ=some (.nx,σ1))(k:aw cl M rs σ1=res):aw cl M (.cons (.try2 b c i h c' h') rs) σ=res:=dD (by rw[kg,h1]) k
def Be{cl:Cl}(h1:Rr cl M b σ x σ1)(hs:cG x c=true)(h2:aw cl M h (σ1.set i (some (.exc x)))=some (.nx,σ2))(k:aw cl M rs (σ2.set i none)=res):aw cl M (.cons (.try2 b c i h c' h') rs) σ=res:=dD (by
 rw[kg,h1.1];show(bu cl M b σ).bind _=_;rw[h1.2,Option.bind_some,if_pos hs,h2]
 rfl) k
def Ad{cl:Cl}(h1:Rr cl M b σ x σ1)(hs:cG x c=false)(hs':cG x c'=true)(h2:aw cl M h' (σ1.set i (some (.exc x)))=some (.nx,σ2))(k:aw cl M rs (σ2.set i none)=res):aw cl M (.cons (.try2 b c i h c' h') rs) σ=res:=dD (by
 rw[kg,h1.1];show(bu cl M b σ).bind _=_;rw[h1.2,Option.bind_some,if_neg (by rw[hs];decide),if_pos hs',h2]
 rfl) k
abbrev btD:D:=.tup [.str "BadTrade",.int 0]
def Bp(m:Nat):ao T (m+1) 14 [.exc (mkR "BadTrade" 0)]=some (.str "BadTrade"):=(aA (fn:=gy) rfl).trans rfl
def B8(m:Nat):ao T (m+1) 14 [.exc "BadHook"]=some (.str "BadHook"):=(aA (fn:=gy) rfl).trans (Br (by decide))
def yX{t d:D}(h:ao T 28 5 [.int (n:Nat),.int (r:Nat),.fL (L row),t]=some d)(im:d.imm=true):ao T 29 22 [.int (n:Nat),prF r row,t]=some d :=
 (aA (fn:=fq 5 14) rfl).trans (aM rfl rfl (aW ae rfl (BQ (aW (x_call (ah (aa rfl) (ah (aO (aa rfl) ae rfl) (ah (aO (aa rfl) ae rfl) (ah (aa rfl) ax)))) h) (by unfold bF;rw[im];rfl) cO) (az (aa rfl) (by unfold cq;rw[im];rfl)))))
def pz{t:D}{c:PySem.Str}(h:Rc (ao T 28) 5 [.int (n:Nat),.int (r:Nat),.fL (L row),t] c):Rr (ao T 28) [] (.cons (.asg 3 (.call 5 (.cons (.var 0) (.cons (.ix (.var 1) (.cst (.int 0))) (.cons (.ix (.var 1) (.cst (.int 1))) (.cons (.var 2) .nil)))))) .nil) [some (.int (n:Nat)),some (prF r row),some t,some .non,none] c [some (.int (n:Nat)),some (prF r row),some t,some .non,none] :=
 CH (kd (ah (aa rfl) (ah (aO (aa rfl) ae rfl) (ah (aO (aa rfl) ae rfl) (ah (aa rfl) ax)))) h)
def Ce{cl:Cl}(h:ev cl σ e=some (.exc x))(hf:uM (.exc x)=some d):ev cl σ (.fld e)=some d:=by
 show(ev cl σ e).bind uM=_;rw[h];exact hf
def x8{t:D}(h:Rc (ao T 28) 5 [.int (n:Nat),.int (r:Nat),.fL (L row),t] (mkR "BadTrade" 0)):ao T 29 22 [.int (n:Nat),prF r row,t]=some btD :=
 (aA (fn:=fq 5 14) rfl).trans (aM rfl rfl (aW ae rfl (Be (pz h) rfl (aW (aR (ah (kB (aa rfl) (Bp 27)) (ah (Ce (aa rfl) rfl) ax))) rfl cO) (az (aa rfl) rfl))))
def xH{t:D}(h:Rc (ao T 28) 5 [.int (n:Nat),.int (r:Nat),.fL (L row),t] "BadHook"):ao T 29 22 [.int (n:Nat),prF r row,t]=some (.str "BadHook") :=
 (aA (fn:=fq 5 14) rfl).trans (aM rfl rfl (aW ae rfl (Ad (pz h) rfl rfl (aW (kB (aa rfl) (B8 27)) rfl cO) (az (aa rfl) rfl))))
def yL{cl:Cl}{fs:Nat}{xs:List D}(hl:xs.length<=5000)(h:∀ x∈xs,cl fs [x,x]=some (.bl true)):evF cl (bM fs) [.fL xs,.fL xs]=some (.bl true):=by
 have al:biV .all (.lst (xs.map fun _=>.bl true))=some (.bl true):=by
  simp only[Ar,o3];simp
 have mc:=mC (F:=fun σ1=>(ev cl σ1 (.call fs (.cons (.var 2) (.cons (.var 3) .nil)))).map some) (tg:=[2,3]) (σ:=[some (.fL xs),some (.fL xs),none,none]) (h:=fun x=>.tup [x,x]) (g:=fun _=>.bl true) (fun _=>rfl) xs (by
  intro x hx;show(ev cl [some (.fL xs),some (.fL xs),some x,some x] (.call fs (.cons (.var 2) (.cons (.var 3) .nil)))).map some=_;rw[fV (aa rfl) (aa rfl) (h x hx)]
  rfl)
 have lq:bh .eq (.int (xs.length:Int)) (.int (xs.length:Int))=some true:=by simp[nU]
 have lz:(dN xs xs).length<=most:=by rw[fX,List.length_map];unfold most;lia
 rw[<-fX]at mc;exact aM rfl rfl (jr rfl rfl rfl rfl rfl (aj (aH (bH (aT (k:=true) (cE (aa rfl) rfl)))) (az (aU (ay (aY (aa rfl) rfl) (aY (aa rfl) rfl) lq) (aY (jn (wF (aa rfl) (aa rfl) rfl rfl rfl) lz mc) al)) rfl)))
def mO(m:Nat)(a:Int):ao T (m+1) 21 [.int a,.int a]=some (.bl true):=(aA (fn:=bM 21) rfl).trans (same_int a)
def BW(hz:row.length<=5000):ao T 29 21 [prF r row,prF r row]=some (.bl true):=by
 refine(aA (fn:=bM 21) rfl).trans (ny (.inl rfl) (show 2<=1000 by omega) fun x hx=>?_);simp only[List.mem_cons,List.not_mem_nil,or_false]at hx;rcases hx with rfl | rfl
 ·exact mO 27 _
 ·refine(aA (fn:=bM 21) rfl).trans (yL (by rw[dF];exact hz) fun x hx=>?_);obtain⟨a,_,rfl⟩:=List.mem_map.mp hx;exact mO 26 _
def Co:ao T 29 21 [btD,btD]=some (.bl true):=by
 refine(aA (fn:=bM 21) rfl).trans (ny (.inl rfl) (show 2<=1000 by omega) fun x hx=>?_);simp only[List.mem_cons,List.not_mem_nil,or_false]at hx;rcases hx with rfl | rfl
 ·exact(aA (fn:=bM 21) rfl).trans (same_str _)
 ·exact mO 27 _
def BO(f:List Nat):bh .ne (.fL (L f)) (.fL (L f))=some false:=by
 show(((eqs (eqD 7) (L f) (L f)).map fun k=>k&&(L f).length == (L f).length)).map not=_;rw[wR 7];simp
def zR{cl:Cl}{a b:List Nat}(h:ev cl σ e=some (.fL (L a)))(h':ev cl σ e'=some (.lst (L b)))(hz:a.length+b.length<=50000):ev cl σ (.cat e e')=some (.lst (L (a++b))):=by
 show(ev cl σ e).bind _=_;rw[h,Option.bind_some,h',Option.bind_some];show(if(L a).length+(L b).length<=most then some (D.lst (L a++L b))else none)=_;rw[if_pos (by rw[dF,dF];unfold most;omega)];simp[L]
def vZ{cl:Cl}{r0 way:Nat}(h5:(σ[5]?).bind id=some (.int (r0:Nat)))(h11:(σ[11]?).bind id=some (.int (way:Nat))):∃ r:Nat,ev cl σ (.bin .add (.var 5) (.bin .mul (.bin .pow (.cst (.int 10)) (.cst (.int 28))) (.bi .int (.cmp .eq (.var 11) (.cst (.int 0))))))=some (.int (r:Nat)):=by
 have pw:aQ .pow (.int 10) (.int 28)=some (.int ((10 ^ 28:Nat):Int)):=rfl
 cases way with
 | zero=>exact⟨r0+10 ^ 28,ak (aa h5) (ak (ak ae ae pw) (aY (ay (aa h11) ae rfl) rfl) (d:=.int ((10 ^ 28:Nat):Int)) (by show aQ .mul (.int ((10 ^ 28:Nat):Int)) (.int 1)=_;rw[rB,if_pos (.inr (by decide)),Int.mul_one])) rfl⟩
 |succ w=>
  have c:bh .eq (.int ((w+1:Nat):Int)) (.int 0)=some false:=by
   show some (_ == _)=_;rw[beq_eq_false_iff_ne.mpr (by omega)]
  exact⟨r0,ak (aa h5) (ak (ak ae ae pw) (aY (ay (aa h11) ae c) rfl) (d:=.int 0) (by show aQ .mul (.int ((10 ^ 28:Nat):Int)) (.int 0)=_;rw[rB,if_pos (.inr (by decide)),Int.mul_zero])) (by show some (D.int ((r0:Int)+0))=_;rw[Int.add_zero])⟩
abbrev R9:Ss:=.cons (.asg 9 (.frz (.bi .list (.ix (.var 6) (.cst (.int 1)))))) (.cons (.ife (.or (.not (.call 21 (.cons (.call 22 (.cons (.var 4) (.cons (.tup (.cons (.var 5) (.cons (.var 9) .nil))) (.cons (.var 7) .nil)))) (.cons (.var 8) .nil)))) (.cmp .ne (.var 9) (.ix (.var 6) (.cst (.int 1))))) (.cons (.ret (.cst (.bl false))) .nil) .nil) (.cons (.ife (.cmp .ne (.call 22 (.cons (.var 4) (.cons (.tup (.cons (.var 5) (.cons (.frz (.cat (.var 9) (.lst (.cons (.bin .sub (.var 4) (.cst (.int 1))) .nil)))) .nil))) (.cons (.var 7) .nil)))) (.cst (.str "BadHook"))) (.cons (.ret (.cst (.bl false))) .nil) .nil) .nil))
def yt(S:Stp n r row w a bs r' row')(h:row.length<=1200):row'.length<=5000:=by
 cases S<;>simp at h ⊢<;>omega
def turn{ns:List Int}(hl:ns.length<=63){k:Nat}(hk:k<12)(o4 o5 o6 o7 o8 o9 o10 o11:Option D):∃ σ',(∃ o4 o5 o6 o7 o8 o9 o10 o11,σ'=[some (.lst (LI ns)),some (.int (k:Nat)),none,none,o4,o5,o6,o7,o8,o9,o10,o11,none])/\aw (ao T 29) [] (jW 22 21 19 20 18 17) [some (.lst (LI ns)),some (.int (k:Nat)),none,none,o4,o5,o6,o7,o8,o9,o10,o11,none]=some (.nx,σ'):=by
 obtain⟨ds,hd,e1⟩:=dg.digits hl 26 (k:=20+k) (sizes:=[9,6,13,4]) (by omega) (by simp) (by simp);obtain⟨p,r0,sz,way,rfl,hp,hr0,hsz,hw⟩:=wV hd;have e20:aQ .add (.int 20) (.int (k:Nat))=some (.int ((20+k:Nat):Int)):=rfl;have e35:aQ .add (.int 35) (.int (k:Nat))=some (.int ((35+k:Nat):Int)):=rfl;have e0:aQ .add (.int 2) (.int (p:Nat))=some (.int ((2+p:Nat):Int)):=rfl
 have n2:2<=2+p:=by omega
 have n10:2+p<=10:=by omega
 generalize 2+p=n at *;obtain⟨hs,hh,hsl,ehk⟩:=tP (cl:=ao T 28) (f:=17) (scr:=.lst (LI ns)) (k:=k) (n:=n) (size:=sz) n2 (by omega) (by omega) (fun k hk=>dg.digits hl 25 (k:=k) (sizes:=List.replicate 12 97) hk (by simp) (by simp));have ehk:ao T 29 18 [.lst (LI ns),.int (k:Nat),.int (n:Nat),.int (sz:Nat)]=some (.lst (L hs)):=(aA (fn:=eJ 17) rfl).trans ehk
 have e1n:aQ .sub (.int (n:Nat)) (.int 1)=some (.int ((n-1:Nat):Int)):=by
  show some (D.int _)=_;congr 2;omega
 obtain⟨r,er⟩:=vZ (cl:=ao T 29) (σ:=[some (.lst (LI ns)),some (.int (k:Nat)),none,none,some (.int (n:Nat)),some (.int (r0:Nat)),o6,o7,o8,o9,some (.int (sz:Nat)),some (.int (way:Nat)),none]) (r0:=r0) (way:=way) rfl rfl;obtain⟨w,a,bs,hb,q0⟩:=vJ (r:=r) (row:=hs) (n:=n) hl (by omega) (by omega) (35+k) (by omega);have pI:∀ row:List Nat,(D.tup [D.int (r:Nat),.fL (L row)]).imm=true:=fun row=>cW r row;have wb:=xH (t:=trD w a bs) (sf (r:=r) n2 n10 hh)
 have tail:∀ {due:D},ao T 29 22 [.int (n:Nat),prF r hs,trD w a bs]=some due->ao T 29 21 [due,due]=some (.bl true)->aw (ao T 29) [] R9 [some (.lst (LI ns)),some (.int (k:Nat)),none,none,some (.int (n:Nat)),some (.int (r:Nat)),some (prF r hs),some (trD w a bs),some due,o9,some (.int (sz:Nat)),some (.int (way:Nat)),none]=some (.nx,[some (.lst (LI ns)),some (.int (k:Nat)),none,none,some (.int (n:Nat)),some (.int (r:Nat)),some (prF r hs),some (trD w a bs),some due,some (.fL (L hs)),some (.int (sz:Nat)),some (.int (way:Nat)),none]):=fun {due} h1 h2 =>
  aW (bX (aY (aO (aa rfl) ae rfl) rfl) rfl (bb hs)) (by unfold bF;rw[show(D.fL (L hs)).imm=true from bb hs];rfl) (aj (aH (cm (aT (fV (bZ (aa rfl) (aR (ah (aa rfl) (ah (aa rfl) ax))) (aa rfl) h1) (aa rfl) h2)) (ay (aa rfl) (aO (aa rfl) ae rfl) (BO hs))))
   (aj (aH (ay (bZ (aa rfl) (aR (ah (aa rfl) (ah (bX (zR (b:=[n-1]) (aa rfl) (bc (ah (ak (aa rfl) ae e1n) ax)) (by simp;omega)) rfl (bb _)) ax))) (aa rfl) wb) ae rfl)) cO))
 have pre:∀ {x:D} {res},x.imm=true->ao T 29 19 [.int (n:Nat),prF r hs,trD w a bs]=some x->aw (ao T 29) [] (.cons (.ife (.isN false (.var 8)) (.cons (.asg 8 (.tup (.cons (.cst (.str "BadTrade")) (.cons (.cst (.int 0)) .nil)))) .nil) .nil) R9) [some (.lst (LI ns)),some (.int (k:Nat)),none,none,some (.int (n:Nat)),some (.int (r:Nat)),some (prF r hs),some (trD w a bs),some x,o9,some (.int (sz:Nat)),some (.int (way:Nat)),none]=res->aw (ao T 29) [] (jW 22 21 19 20 18 17) [some (.lst (LI ns)),some (.int (k:Nat)),none,none,o4,o5,o6,o7,o8,o9,o10,o11,none]=res:=fun {x res} ix hx kx =>
  eT (bZ (aa rfl) (ak ae (aa rfl) e20) (bc (ah ae (ah ae (ah ae (ah ae ax))))) e1) rfl rfl rfl (aW (ak ae (aa rfl) e0) rfl (aW er rfl
   (aW (aR (ah (aa rfl) (ah (bX (x_call (ah (aa rfl) (ah (aa rfl) (ah (aa rfl) (ah (aa rfl) ax)))) ehk) rfl (bb _)) ax))) (by unfold bF;rw[pI hs];rfl)
   (aW (x_call (ah (aa rfl) (ah (ak ae (aa rfl) e35) (ah (aa rfl) (ah (aa rfl) ax)))) q0) (by unfold bF;rw[gJ];rfl)
   (aW (bZ (aa rfl) (aa rfl) (aa rfl) hx) (by unfold bF;rw[ix];rfl) kx)))))
 rcases jd (cl:=ao T 28) (r:=r) (n:=n) (row:=hs) (by omega) (by omega) w a bs hb with⟨B,q⟩ | ⟨r',row',S,q⟩
 ·have q:ao T 29 19 [.int (n:Nat),prF r hs,trD w a bs]=some .non:=(aA (fn:=aZ) rfl).trans q;exact⟨_,⟨_,_,_,_,_,_,_,_,rfl⟩,pre rfl q (tu (aH (ig (n:=false) (k:=true) rfl (aa rfl))) (aW (aR (ah ae (ah ae ax))) rfl cO) (tail (due:=btD) (x8 (sP (by omega) n10 hh B)) Co))⟩
 ·have q:ao T 29 19 [.int (n:Nat),prF r hs,trD w a bs]=some (prF r' row'):=(aA (fn:=aZ) rfl).trans q;exact⟨_,⟨_,_,_,_,_,_,_,_,rfl⟩,pre (cW _ _) q (aj (aH (ig (n:=false) (k:=false) rfl (aa rfl))) (tail (yX (si (by omega) n10 hh S (by omega)) (cW _ _)) (BW (yt S hsl))))⟩
end
abbrev R3:Ss:=.cons (.asg 2 (.lst (.cons (.tup (.cons (.cst (.int 5)) (.cons (.frz (.lst (.cons (.cst (.int 2)) (.cons (.cst (.int 2)) (.cons (.cst (.int 2)) .nil))))) .nil))) (.cons (.tup (.cons (.cst (.int 5)) (.cons (.frz (.lst (.cons (.cst (.int 1)) (.cons (.cst (.int 3)) (.cons (.cst (.int 1)) .nil))))) .nil))) (.cons (.tup (.cons (.cst (.int 5)) (.cons (.frz (.lst (.cons (.cst (.int 1)) (.cons (.cst (.int 2)) (.cons (.cst (.int 3)) .nil))))) .nil))) (.cons (.tup (.cons (.cst (.int 3)) (.cons (.frz (.lst (.cons (.cst (.int 0)) (.cons (.cst (.int 1)) .nil)))) .nil))) (.cons (.tup (.cons (.cst (.int 3)) (.cons (.frz (.lst (.cons (.cst (.int 0)) .nil))) .nil))) .nil))))))) (.cons (.asg 3 (.compA (.call 22 (.cons (.var 4) (.cons (.tup (.cons (.cst (.int 3)) (.cons (.var 12) .nil))) (.cons (.tup (.cons (.cst (.str "cut")) (.cons (.cst (.int 0)) .nil))) .nil)))) [4,12] (.seq (.var 2)))) (.cons (.ret (.cmp .eq (.bin .add (.var 3) (.lst (.cons (.call 22 (.cons (.cst (.int 1)) (.cons (.tup (.cons (.cst (.int 3)) (.cons (.frz (.lst .nil)) .nil))) (.cons (.tup (.cons (.cst (.str "double")) (.cons (.cst (.int 0)) .nil))) .nil)))) .nil))) (.bin .mul (.lst (.cons (.tup (.cons (.cst (.str "BadTrade")) (.cons (.cst (.int 0)) .nil))) .nil)) (.cst (.int 6))))) .nil))
def xX(s o1 o4 o5 o6 o7 o8 o9 o10 o11:Option D):(aw (ao T 29) [] R3 [s,o1,none,none,o4,o5,o6,o7,o8,o9,o10,o11,none]).map (·.1)=some (.rt (.bl true)):=by kernel_rfl
def main(ns:List Int)(hl:ns.length<=63):ao T 30 23 [.scr (ns.map D.int)]=some (.bl true):=by
 obtain⟨σ',e,o1,o4,o5,o6,o7,o8,o9,o10,o11,rfl⟩:=fG (f:=aw (ao T 29) [] (jW 22 21 19 20 18 17)) (tg:=[1]) (xs:=List.range 12) (σ:=[some (.lst (LI ns)),none,none,none,none,none,none,none,none,none,none,none,none])
  (fun _ σ=>∃ o1 o4 o5 o6 o7 o8 o9 o10 o11,σ=[some (.lst (LI ns)),o1,none,none,o4,o5,o6,o7,o8,o9,o10,o11,none]) ⟨none,none,none,none,none,none,none,none,none,rfl⟩ (by
   rintro p x q σ hx ⟨o1,o4,o5,o6,o7,o8,o9,o10,o11,rfl⟩
   have hxr:x<12:=by
    have:x∈List.range 12:=by rw[hx];simp
    simpa using this
   obtain⟨σ',⟨b4,b5,b6,b7,b8,b9,b10,b11,rfl⟩,c⟩:=turn hl hxr o4 o5 o6 o7 o8 o9 o10 o11
   exact⟨_,by rw[iB,Option.bind_some];exact c,_,_,_,_,_,_,_,_,_,rfl⟩)
 obtain⟨⟨o,σ''⟩,e3,e4⟩:=Option.map_eq_some_iff.mp (xX (some (.lst (LI ns))) o1 o4 o5 o6 o7 o8 o9 o10 o11);have e4:o=.rt (.bl true):=e4;subst e4
 exact(aA (fn:=xm 22 21 19 20 18 17) rfl).trans (aM rfl rfl (aW (cI (aa rfl) ae (K32.CK hl)) (by simp[bF,D.imm,aX,uj])
  (iP (mE ae (Aw (n:=12) (by omega))) e e3)))
end K30
namespace L2
open PySem PySem.Spec PyProof.Rows
@[reducible]noncomputable def Key:=Sum Int Str
abbrev ji:Key->Value->Bool
 | .inl k,v=>Value.isInt k v
 | .inr x,v=>Value.isStrOf x v
abbrev De(w:World):Key->Int
 | .inl k=>hashInt k
 | .inr x=>hashStr w x
def bS:∀ {k:Key} {v:Value},ji k v=true->(∃ i t,k=Sum.inl i/\v=Value.int i t)\/(∃ x t,k=Sum.inr x/\v=Value.str x t)
 | .inl i,v,h=>by
  obtain⟨t,e⟩:=Value.isInt_shape (k:=i) (v:=v) h;exact .inl ⟨i,t,rfl,e⟩
 | .inr x,v,h=>by
  obtain⟨t,e⟩:=Value.isStrOf_shape (x:=x) (v:=v) h;exact .inr ⟨x,t,rfl,e⟩
def se(i:Int)(t:Tok):ji (.inl i) (.int i t)=true:=by simp[ji,Value.isInt]
def ug(x:Str)(t:Tok):ji (.inr x) (.str x t)=true:=by simp[ji,Value.isStrOf]
def zl(a b:Int):decide ((Sum.inl a:Key)=Sum.inl b)=(a == b):=by
 by_cases e:a=b
 ·subst e;simp
 ·have h:¬ (Sum.inl a:Key)=Sum.inl b:=fun q=>e (Sum.inl.inj q);rw[decide_eq_false h];exact(beq_eq_false_iff_ne.mpr e).symm
def sL(a b:Str):decide ((Sum.inr a:Key)=Sum.inr b)=decide (a=b):=by
 by_cases e:a=b
 ·subst e;simp
 ·have h:¬ (Sum.inr a:Key)=Sum.inr b:=fun q=>e (Sum.inr.inj q);rw[decide_eq_false h,decide_eq_false e]
def zH(a:Int)(b:Str):decide ((Sum.inl a:Key)=Sum.inr b)=false:=decide_eq_false (fun q=>nomatch q)
def B6(a:Str)(b:Int):decide ((Sum.inr a:Key)=Sum.inl b)=false:=decide_eq_false (fun q=>nomatch q)
abbrev bp(prog:Program)(w:World):PySem.KeyKind prog w Key where
 is:=ji
 hash:=De w
 inj:=fun v a b ha hb=>by
  rcases bS ha with⟨i,t,rfl,rfl⟩ | ⟨x,t,rfl,rfl⟩
  ·rcases bS hb with⟨j,u,rfl,e⟩ | ⟨y,u,rfl,e⟩
   ·injection e with e1 _;rw[e1]
   ·exact nomatch e
  ·rcases bS hb with⟨j,u,rfl,e⟩ | ⟨y,u,rfl,e⟩
   ·exact nomatch e
   ·injection e with e1 _;rw[e1]
 byValue:=fun k v h=>by
  rcases bS h with⟨i,t,rfl,rfl⟩ | ⟨x,t,rfl,rfl⟩<;>rfl
 pyHash:=fun hv h=>by
  rcases bS hv with⟨i,t,rfl,rfl⟩ | ⟨x,t,rfl,rfl⟩
  ·exact wpAny_pyHash_int h
  ·exact wpAny_pyHash_str h
 eqBool:=fun hu hv h=>by
  rcases bS hu with⟨i,t,rfl,rfl⟩ | ⟨x,t,rfl,rfl⟩
  ·rcases bS hv with⟨j,u,rfl,rfl⟩ | ⟨y,u,rfl,rfl⟩
   ·rw[zl]at h;exact wpAny_eqBool_int h
   ·rw[zH]at h;exact SeqAt.EqAt.int_str i t y u _ _ _ _ h
  ·rcases bS hv with⟨j,u,rfl,rfl⟩ | ⟨y,u,rfl,rfl⟩
   ·rw[B6]at h;exact SeqAt.EqAt.str_int x t j u _ _ _ _ h
   ·rw[sL]at h;exact wpAny_eqBool_str h
 «strs»:=fun k x t v h=>by
  rcases bS h with⟨i,u,rfl,e⟩ | ⟨y,u,rfl,e⟩
  ·exact nomatch e
  ·injection e with e1 _;subst e1;cases v<;>rfl
def oE(prog:Program)(w:World)(i:Int)(t:Tok):(bp prog w).is (.inl i) (.int i t)=true:=se i t
def j1(prog:Program)(w:World)(x:Str)(t:Tok):(bp prog w).is (.inr x) (.str x t)=true:=ug x t
set_option genInjectivity true in
inductive V where
 | non | bl (b:Bool) | int (i:Int) | str (x:Str) | byt (b:Array UInt8) | flt (b:UInt64) | ref (a:Addr) | ty (n:String)
 deriving DecidableEq
abbrev RelV:V->Value->Prop
 | .non,u=>u=Value.none
 | .bl b,u=>u=Value.bool b
 | .int i,u=>∃ t,u=Value.int i t
 | .str x,u=>∃ t,u=Value.str x t
 | .byt b,u=>∃ t,u=Value.bytes b t
 | .flt b,u=>∃ t,u=Value.float b t
 | .ref a,u=>u=Value.ref a
 | .ty n,u=>u=Value.type n
@[reducible]noncomputable def Vals:List V->List Value->Prop:=Paired RelV
def Vals.length(r:Vals xs us):xs.length=us.length:=Paired.length r
def Vals.get:∀ {xs:List V} {us:List Value} {i:Nat} {x:V},Vals xs us->xs[i]?=some x->∃ u,us[i]?=some u/\RelV x u
 | _,_,_,_,.nil,e=>by simp at e
 | _,_,0,_,.cons r _,e=>by simp at e;subst e;exact⟨_,rfl,r⟩
 | _,_,i+1,x,.cons _ t,e=>by
  obtain⟨u,h1,h2⟩:=Vals.get (i:=i) (x:=x) t (by simpa using e);exact⟨u,by simpa using h1,h2⟩
def Vals.append:∀ {xs ys:List V} {us ws:List Value},Vals xs us->Vals ys ws->Vals (xs++ys) (us++ws)
 | _,_,_,_,.nil,s=>s
 | _,_,_,_,.cons r t,s=>.cons r (Vals.append t s)
def Vals.take:∀ {xs:List V} {us:List Value} (n:Nat),Vals xs us->Vals (xs.take n) (us.take n)
 | _,_,0,_=>.nil
 | _,_,_+1,.nil=>.nil
 | _,_,n+1,.cons r t=>.cons r (Vals.take n t)
def Vals.drop:∀ {xs:List V} {us:List Value} (n:Nat),Vals xs us->Vals (xs.drop n) (us.drop n)
 | _,_,0,r=>r
 | _,_,_+1,.nil=>.nil
 | _,_,n+1,.cons _ t=>Vals.drop n t
abbrev vE:Option V->Option Value->Prop
 | some v,some u=>RelV v u
 | none,none=>True
 | _,_=>False
abbrev KV:List (κ × V)->List (κ × Value)->Prop:=Paired fun(p:κ × V) (q:κ × Value)=>p.1=q.1/\RelV p.2 q.2
abbrev kV:Key->V
 | .inl i=>.int i
 | .inr x=>.str x
inductive HO where
  | lst (xs:List V)
  | tup (xs:List V)
  | dK (kvs:List (Key × V)) | dT (kvs:List (List Key × V))
  | set (S:Int->Bool) (n:Nat)
  | ins (C dx:Addr) (fs:List (Str × V))
  | own (x:Addr)
  | xd (fs:List (Str × V))
  | met (f x:Addr)
  | rng (lo hi:Int)
  | frz (o:Obj) (u:HO)
  | tbl (ps:Array Value)
  | ext (φ:Heap->Prop)
@[reducible]noncomputable def Hp:=Addr->Option HO
abbrev upd(H:Hp)(a:Addr)(o:HO):Hp:=fun b=>if b=a then some o else H b
def aI:upd H a o a=some o:=by unfold upd;rw[if_pos rfl]
def aE(h:b≠a):upd H a o b=H b:=by unfold upd;rw[if_neg h]
def jT{H:Hp}(h:H a=some o)(h':H b=some u)(d:o≠u):a≠b:=by
 intro e;subst e;rw[h]at h';exact d (Option.some.inj h')
def aJ{H:Hp}(h:H a=some o)(h':H b=none):a≠b:=by
 intro e;subst e;rw[h]at h';cases h'
section
variable(P:Program)(w:World)
abbrev bD(H:Hp)(h:Heap)(a:Addr):HO->Prop
 | .lst xs=>xs.length<=sizeLine/\∃ (its:List Value) (n:Nat),Vals xs its/\h.get? a=some { cls:=.type "list",data:=.seq its.toArray n }
 | .tup xs=>xs.length<=sizeLine/\∃ its:List Value,Vals xs its/\IsTup h a its.toArray
 | .dK kvs=>kvs.length<=sizeLine/\(a == sysModules)=false/\∃ vs,KV kvs vs/\h.DictOf (bp P w) a vs
 | .dT kvs=>kvs.length<=sizeLine/\(a == sysModules)=false/\∃ xs:List (List Key × Addr × Value),
   Paired (fun(p:List Key × V) (q:List Key × Addr × Value)=>p.1=q.1/\H q.2.1=some (.tup (p.1.map kV))/\RelV p.2 q.2.2) kvs xs /\
   ∃ o es ep,h.get? a=some o/\o.ExactDict/\o.data=.dict es ep/\es.toList=xs.map (entryOfKey (tupleKind (bp P w)))/\(xs.map (·.1)).Nodup
 | .set S n=>h.SetOf (intKind P w) a S n
 | .ins C dx fs=>H dx=some (.own a)/\fs.length<=1000/\dx≠a/\h.get? a=some (PySem.W.instObj C dx) /\
   ∃ mA,h.Ns1 dx mA/\(∀ f,vE (fs.lookup f) (mA f))/\PySem.Within mA (fs.map (·.1))
 | .own _=>∃ o,h.get? a=some o
 | .xd fs=>∃ mA,h.Ns1 a mA/\∀ f,vE (fs.lookup f) (mA f)
 | .rng lo hi=>∃ t u v,h.get? a=some { cls:=.type "range",data:=.fields #[.int lo t,.int hi u,.int 1 v] }
 | .frz o u=>h.get? a=some o/\bD H h a u
 | .tbl ps=>h.get? a=some { cls:=.none,data:=.fields ps }
 | .met f x=>h.get? a=some (PySem.W.methodObj (.ref f) (.ref x))
 | .ext φ=>φ h/\(∃ o,h.get? a=some o)/\∀ h1 h2:Heap,φ h1->(∀ o,h1.get? a=some o->h2.get? a=some o)->φ h2
abbrev HOk(H:Hp)(h:Heap):Prop:=∀ a o,H a=some o->bD P w H h a o
end
section
variable{P:Program}{w:World}{H H':Hp}{h h':Heap}{a:Addr}{o:HO}
def bD.lt(x:bD P w H h a o):a<h.objs.size:=by
 cases o with
 | lst xs=>obtain⟨_,_,_,_,e⟩:=x;exact Heap.lt_size e
 | tup xs=>obtain⟨_,_,_,p⟩:=x;exact p.lt
 | dK kvs=>obtain⟨_,_,_,_,o,_,_,e,_⟩:=x;exact Heap.lt_size e
 | dT kvs=>obtain⟨_,_,_,_,o,_,_,e,_⟩:=x;exact Heap.lt_size e
 | set S n=>obtain⟨o,_,_,_,e,_⟩:=x;exact Heap.lt_size e
 | ins C dx fs=>obtain⟨_,_,_,e,_⟩:=x;exact Heap.lt_size e
 | own y=>obtain⟨_,e⟩:=x;exact Heap.lt_size e
 | xd fs=>obtain⟨_,⟨_,_,_,e,_⟩,_⟩:=x;exact Heap.lt_size e
 | rng lo hi=>obtain⟨_,_,_,e⟩:=x;exact Heap.lt_size e
 | frz ob u=>obtain⟨e,_⟩:=x;exact Heap.lt_size e
 | tbl ps=>exact Heap.lt_size (show h.get? a=some _ from x)
 | met f y=>exact Heap.lt_size (show h.get? a=some _ from x)
 | ext φ=>obtain⟨_,⟨_,e⟩,_⟩:=x;exact Heap.lt_size e
def Paired.Au:∀ {l₁:List α} {l₂:List β},Paired F l₁ l₂->(∀ a b,F a b->G a b)->Paired G l₁ l₂
 | _,_,.nil,_=>.nil
 | _,_,.cons r t,f=>.cons (f _ _ r) (Paired.Au t f)
def bD.gA(x:bD P w H h a o)(k:∀ b u,(b=a\/H b=some (.own a))->h.get? b=some u->h'.get? b=some u)
 (ho:∀ b,H b=some (.own a)->H' b=some (.own a))(ht:∀ b xs,H b=some (.tup xs)->H' b=some (.tup xs)):bD P w H' h' a o:=by
 induction o with
 | lst xs=>obtain⟨z,its,n,r,e⟩:=x;exact⟨z,its,n,r,k _ _ (.inl rfl) e⟩
 | tup xs=>obtain⟨z,its,r,ob,e,c⟩:=x;exact⟨z,its,r,ob,k _ _ (.inl rfl) e,c⟩
 | dK kvs=>obtain⟨z,y,vs,r,ob,es,ep,e,c⟩:=x;exact⟨z,y,vs,r,ob,es,ep,k _ _ (.inl rfl) e,c⟩
 |dT kvs=>
  obtain⟨z,y,xs,r,ob,es,ep,e,c⟩:=x;exact⟨z,y,xs,Paired.Au r fun p q z=>⟨z.1,ht _ _ z.2.1,z.2.2⟩,ob,es,ep,k _ _ (.inl rfl) e,c⟩
 | set S n=>obtain⟨ob,es,ep,t,e,c⟩:=x;exact⟨ob,es,ep,t,k _ _ (.inl rfl) e,c⟩
 |ins C dx fs=>
  obtain⟨d,z,ne,e,mA,⟨od,es,ep,e2,c⟩,r⟩:=x;exact⟨ho _ d,z,ne,k _ _ (.inl rfl) e,mA,⟨od,es,ep,k _ _ (.inr d) e2,c⟩,r⟩
 | own y=>obtain⟨ob,e⟩:=x;exact⟨ob,k _ _ (.inl rfl) e⟩
 | xd fs=>obtain⟨mA,⟨od,es,ep,e,c⟩,r⟩:=x;exact⟨mA,⟨od,es,ep,k _ _ (.inl rfl) e,c⟩,r⟩
 | rng lo hi=>obtain⟨t,u,v,e⟩:=x;exact⟨t,u,v,k _ _ (.inl rfl) e⟩
 | frz ob u ih=>obtain⟨e,q⟩:=x;exact⟨k _ _ (.inl rfl) e,ih q⟩
 |tbl ps=>
  have e:h.get? a=some { cls:=.none,data:=.fields ps }:=x;show h'.get? a=some { cls:=.none,data:=.fields ps };exact k a _ (.inl rfl) e
 |met f y=>
  have e:h.get? a=some (PySem.W.methodObj (.ref f) (.ref y)):=x;show h'.get? a=some (PySem.W.methodObj (.ref f) (.ref y));exact k a _ (.inl rfl) e
 | ext φ=>obtain⟨p,⟨o,e⟩,st⟩:=x;exact⟨st _ _ p fun o q=>k _ _ (.inl rfl) q,⟨o,k _ _ (.inl rfl) e⟩,st⟩
def HOk.lt(x:HOk P w H h)(e:H a=some o):a<h.objs.size:=(x a o e).lt
def HOk.fresh(x:HOk P w H h)(e:h.objs.size<=a):H a=none:=by
 cases q:H a with
 | none=>rfl
 | some u=>exact absurd (Nat.lt_of_lt_of_le (x.lt q) e) (Nat.lt_irrefl _)
def HOk.kept(x:HOk P w H h)(k:∀ b u,h.get? b=some u->h'.get? b=some u):HOk P w H h':=fun a o e =>
 (x a o e).gA (fun b u _ q=>k b u q) (fun _ q=>q) fun _ _ q=>q
def HOk.laid(x:HOk P w H h)(k:∀ b u,h.get? b=some u->h'.get? b=some u)(hp:h.objs.size<=a)(new:bD P w (upd H a o) h' a o):HOk P w (upd H a o) h':=fun b u e=>by
 have hn:=x.fresh hp;by_cases hb:b=a
 ·subst hb;rw[aI]at e;cases e;exact new
 ·rw[aE hb]at e
  exact(x b u e).gA (fun c v _ q=>k c v q) (fun c q=>by rw[aE (aJ q hn)];exact q) fun c xs q=>by rw[aE (aJ q hn)];exact q
end
abbrev Rd(H:Hp)(a:Addr)(u:HO):Prop:=H a=some u\/∃ o,H a=some (.frz o u)
def Rd.ok(r:Rd H a u)(x:HOk P w H h):bD P w H h a u:=by
 rcases r with r | ⟨o,r⟩
 ·exact x a u r
 ·obtain⟨_,q⟩:=x a _ r;exact q
abbrev Mut:Option HO->Prop
 | some (.lst _)=>True
 | some (.dK _)=>True
 | some (.dT _)=>True
 | some (.set _ _)=>True
 | some (.ins _ _ _)=>True
 | some (.ext _)=>True
 | _=>False
section
variable{P:Program}{w:World}{H:Hp}{h h':Heap}{x e:Addr}{o':HO}
def HOk.write(ok:HOk P w H h)(mu:Mut (H x))(he:e=x\/H e=some (.own x))(k:∀ b u,b≠e->h.get? b=some u->h'.get? b=some u)(heo:∃ u,h'.get? e=some u)
 (new:bD P w (upd H x o') h' x o'):HOk P w (upd H x o') h':=fun b u q=>by
 have nown:∀ c y,H c=some (.own y)->c≠x:=fun c y r z=>by subst z;rw[r]at mu;exact mu
 have ntup:∀ c xs,H c=some (.tup xs)->c≠x:=fun c xs r z=>by subst z;rw[r]at mu;exact mu
 by_cases hb:b=x
 ·subst hb;rw[aI]at q;cases q;exact new
 ·rw[aE hb]at q;by_cases hbe:b=e
  ·have q':H b=some (.own x):=by
    rcases he with z | z
    ·exact absurd (hbe.trans z) hb
    ·rw[hbe];exact z
   rw[q]at q';cases q';obtain⟨v,hv⟩:=heo;exact⟨v,by rw[hbe];exact hv⟩
  ·refine(ok b u q).gA (fun c v hc r=>k c v ?_ r) (fun c r=>by rw[aE (nown c b r)];exact r) fun c xs r=>by rw[aE (ntup c xs r)];exact r
   rcases hc with rfl | hc
   ·exact hbe
   ·rintro rfl;rcases he with z | z
    ·exact nown c b hc z
    ·rw[hc]at z;cases z;exact hb rfl
end
structure Un(fs ex:List Addr)(H H':Hp)(h h':Heap):Prop where
 keep:∀ b o,h.get? b=some o->H b=none->b∉fs->b∉ex->h'.get? b=some o
 slot:∀ b o,h.get? b=some o->H b=none->b∈fs->b∉ex->∃ sl,h'.get? b=some { o with slots:=sl }
 free:∀ b o,h.get? b=some o->H b=none->b∉ex->H' b=none
 there:∀ b o,h.get? b=some o->b∉ex->∃ o',h'.get? b=some o'
 dO:∀ b xs,H b=some (.tup xs)->H' b=some (.tup xs)
 cL:∀ b o u,H b=some (.frz o u)->H' b=some (.frz o u)
 dJ:∀ b ps,H b=some (.tbl ps)->∃ more,H' b=some (.tbl (ps++more))
section
variable{fs fs' ex ex':List Addr}{H H1 H2:Hp}{h h1 h2 h':Heap}{a x e:Addr}{o:HO}
def Un.any(u:Un fs ex H H1 h h1)(q:h.get? b=some ob)(n:H b=none)(hx:b∉ex):∃ sl,h1.get? b=some { ob with slots:=sl }:=by
 by_cases hb:b∈fs
 ·exact u.slot b ob q n hb hx
 ·exact⟨ob.slots,u.keep b ob q n hb hx⟩
def Un.kept(k:∀ b u,h.get? b=some u->h'.get? b=some u):Un fs ex H H h h' :=
 ⟨fun b ob q _ _ _=>k b ob q,fun b ob q _ _ _=>⟨ob.slots,k b ob q⟩,fun _ _ _ n _=>n,fun b ob q _=>⟨ob,k b ob q⟩,fun _ _ q=>q,fun _ _ _ q=>q,fun _ ps q=>⟨#[],by rw[q];simp⟩⟩
def Un.refl:Un fs ex H H h h:=Un.kept fun _ _ q=>q
def Un.laid(k:∀ b u,h.get? b=some u->h'.get? b=some u)(hp:h.objs.size<=a)(hn:H a=none):Un fs ex H (upd H a o) h h' where
 keep:=fun b u q _ _ _=>k b u q
 slot:=fun b u q _ _ _=>⟨u.slots,k b u q⟩
 free:=fun b u q n _=>by rw[aE (Nat.ne_of_lt (Nat.lt_of_lt_of_le (Heap.lt_size q) hp))];exact n
 there:=fun b u q _=>⟨u,k b u q⟩
 dO:=fun b xs q=>by rw[aE (aJ q hn)];exact q
 cL:=fun b u xs q=>by rw[aE (aJ q hn)];exact q
 dJ:=fun b ps q=>⟨#[],by rw[aE (aJ q hn),q];simp⟩
def Un.write(mu:Mut (H x))(he:e=x\/H e=some (.own x))(k:∀ b u,b≠e->h.get? b=some u->h'.get? b=some u)(heo:∃ u,h'.get? e=some u):Un fs ex H (upd H x o) h h':=by
 have hx:∀ b,H b=none->b≠x:=fun b n z=>by subst z;rw[n]at mu;exact mu
 have hb:∀ b,H b=none->b≠e:=fun b n z=>by
  subst z;rcases he with r | r
  ·exact hx b n r
  ·rw[n]at r;cases r
 have hm:∀ b u,H b=some u->¬ Mut (some u)->b≠x:=fun b u q nm z=>by subst z;rw[q]at mu;exact nm mu
 refine⟨fun b u q n _ _=>k b u (hb b n) q,fun b u q n _ _=>⟨u.slots,k b u (hb b n) q⟩,fun b u q n _=>by rw[aE (hx b n)];exact n,fun b u q _=>?_,
  fun b xs q=>by rw[aE (hm b _ q fun z=>z)];exact q,fun b u xs q=>by rw[aE (hm b _ q fun z=>z)];exact q,fun b ps q=>⟨#[],by rw[aE (hm b _ q fun z=>z),q];simp⟩⟩
 by_cases hbe:b=e
 ·subst hbe;exact heo
 ·exact⟨u,k b u hbe q⟩
end
abbrev trk(h:Heap)(H:Hp):List Addr:=(List.range h.objs.size).filter fun a=>(H a).isSome
abbrev i5(h:Heap)(H:Hp):Heap:=PySem.W.hideAll h (trk h H)
def uk(h:Heap)(H:Hp):(i5 h H).objs.size=h.objs.size:=PySem.W.hideAll_size _ _
def vk(e:h.get? b=some o)(n:H b=none):(i5 h H).get? b=some o :=
 PySem.W.hideAll_get _ e fun hm=>by
  have q:(H b).isSome=true:=(List.mem_filter.mp hm).2;rw[n]at q;simp at q
def xy(e:(i5 h H).get? b=some o):h.get? b=some o/\H b=none:=by
 have e':h.get? b=some o:=PySem.W.of_hideAll (trk h H) e;refine⟨e',?_⟩
 cases q:H b with
 | none=>rfl
 |some x=>
  have hm:b∈trk h H:=List.mem_filter.mpr ⟨List.mem_range.mpr (Heap.lt_size e'),by simp[q]⟩;have z:(i5 h H).get? b=none:=PySem.W.hideAll_none (trk h H) hm;rw[z]at e;cases e
structure Mod(K:PySem.W.Frag)(mg:Str->Option Value)(base:Heap):Prop where
 kin:K.In base
 glob:base.Ns mainGlobals mg
 blt:∃ mb,base.Ns builtinsNs mb/\∀ x:Str,x ≠ "__name__" -> mb x=bootBuiltins x
 nolimit:base.NoLimit
structure Cx where
 prog:Program
 w:World
 K:PySem.W.Frag
 mg:Str->Option Value
 base:Heap
 A:Around
 N:List Str
 s₀:Shared
 H₀:Hp
 env:Env
 outer:List Env
 stack:List Env
 ex:List Addr
 fn:Str->Bool
 calm:Bool
 pn:List (Addr × Obj)
 xe:Value->Shared->Prop
abbrev frs(l:List Env):List Addr:=l.filterMap (·.frame)
@[reducible]noncomputable def Cx.fs(X:Cx):List Addr:=frs X.outer
abbrev Vis(sc:Scope)(x:Str):Prop:=sc.names.lookup x=some .local\/sc.names.lookup x=some .cell\/sc.names.lookup x=some .free
abbrev Loc(sc:Scope)(x:Str):Prop:=sc.names.lookup x=some .local\/sc.names.lookup x=some .cell
abbrev Look(env:Env)(h:Heap)(m:Str->Option Value)(x:Str)(u:Value):Prop :=
 (env.kindOf x=some .local/\m x=some u)\/((env.kindOf x=some .cell\/env.kindOf x=some .free)/\∃ c,env.cells.lookup x=some c/\h.IsCell c (some u))
abbrev HX(X:Cx):Prop:=X.A.handled=none\/∃ h o u vs,X.A.handled=some (.ref h)/\X.H₀ h=some (.frz o u)/\o.data=.fields vs/\vs[2]?=some .none
structure Cx.Ok(X:Cx):Prop where
 mod:Mod X.K X.mg X.base
 kind:X.env.scope.kind=.function
 glob:X.env.globals=mainGlobals
 blt:X.env.builtins=builtinsNs
 above:X.s₀.heap.objs.size<=X.env.locals
 inj:∀ x y c,X.env.cells.lookup x=some c->X.env.cells.lookup y=some c->x=y
 has:∀ x,(X.env.kindOf x=some .cell\/X.env.kindOf x=some .free)->∃ c,X.env.cells.lookup x=some c
 cab:∀ x c,X.fn x=true->X.env.cells.lookup x=some c->X.s₀.heap.objs.size<=c
 hd:(X.calm=true->X.A.handled=none)/\HX X
 frames:X.A.frames=some X.stack
 stk:X.stack=X.outer\/(X.stack=X.env::X.outer/\X.env.frame=some X.env.locals)
 exf:∀ b∈X.ex,b≠X.env.locals/\∀ x c,X.env.cells.lookup x=some c->c≠b
 bs:∀ b o,X.base.get? b=some o->X.s₀.heap.get? b=some o/\X.H₀ b=none
 bsz:X.base.objs.size<=X.s₀.heap.objs.size
 hU:∀ b o,X.base.get? b=some o->b∉X.ex
 ik:∀ b∈X.ex,b∉X.fs
 cY:X.s₀.heap.FunFrames X.base X.outer
 frf:∀ b∈X.fs,X.H₀ b=none
structure Inv(X:Cx)(pins:List (Addr × Obj))(σ:List (Option V))(H:Hp)(s:Shared):Prop where
 ok:X.Ok
 os:s.os=X.s₀.os
 bare:AllBare s.gens
 base:Un X.fs X.ex X.H₀ H X.s₀.heap s.heap
 loc:∃ m,s.heap.Ns X.env.locals m/\∀ (i:Nat) (x:Str) (v:V),X.N[i]?=some x->σ[i]?=some (some v)->Vis X.env.scope x->∃ u,RelV v u/\Look X.env s.heap m x u
 cell:∀ x c,X.env.cells.lookup x=some c->∃ v,s.heap.IsCell c v
 free:H X.env.locals=none
 c6:∀ x c,X.env.cells.lookup x=some c->H c=none
 pin:∀ p∈X.pn++pins,s.heap.get? p.1=some p.2/\H p.1=none/\p.1≠X.env.locals/\p.1∉X.fs/\∀ v,p.2.data≠.cell v
 hok:HOk X.prog X.w H s.heap
 len:σ.length=X.N.length
section
variable{X:Cx}{pins:List (Addr × Obj)}{σ:List (Option V)}{H H':Hp}{s:Shared}{h':Heap}
def Cx.Ok.CU(ok:X.Ok)(e:X.base.get? b=some o):b∉X.fs:=fun hb=>by
 have:=(ok.cY.mem hb).1;rw[e]at this;cases this
def Inv.bs(I:Inv X pins σ H s):∀ b o,X.base.get? b=some o->s.heap.get? b=some o/\H b=none:=fun b o e =>
 ⟨I.base.keep b o (I.ok.bs b o e).1 (I.ok.bs b o e).2 (I.ok.CU e) (I.ok.hU b o e),I.base.free b o (I.ok.bs b o e).1 (I.ok.bs b o e).2 (I.ok.hU b o e)⟩
def Inv.bk(I:Inv X pins σ H s):∀ b o,X.base.get? b=some o->s.heap.get? b=some o:=fun b o e=>(I.bs b o e).1
def Inv.mod(I:Inv X pins σ H s):Mod X.K X.mg X.base:=I.ok.mod
def Inv.kIn(I:Inv X pins σ H s):X.K.In s.heap:=I.ok.mod.kin.keeps I.bk
def Inv.lt(I:Inv X pins σ H s):X.env.locals<s.heap.objs.size:=let ⟨_,hn,_⟩:=I.loc;hn.lt
def Inv.sz(I:Inv X pins σ H s):X.s₀.heap.objs.size<=s.heap.objs.size:=Nat.le_trans I.ok.above (Nat.le_of_lt I.lt)
def Inv.Dh(I:Inv X pins σ H s)(h:s.heap.objs.size<=a):a∉X.fs:=fun hb=>by
 obtain⟨_,o,ho,_⟩:=I.ok.cY.mem hb;exact absurd (Nat.lt_of_lt_of_le (Heap.lt_size ho) (Nat.le_trans I.sz h)) (Nat.lt_irrefl _)
def Inv.cne(I:Inv X pins σ H s):∀ x c,X.env.cells.lookup x=some c->c≠X.env.locals:=fun x c e z=>by
 obtain⟨v,o,ho,hd⟩:=I.cell x c e;obtain⟨m,⟨o',es,ep,ho',hd',_⟩,_⟩:=I.loc;rw[z,ho']at ho;cases ho;rw[hd']at hd;cases hd
def Inv.cY(I:Inv X pins σ H s):s.heap.FunFrames X.base X.outer:=by
 have all:∀ (l:List Env),(∀ b∈frs l,b∈X.fs)->X.s₀.heap.FunFrames X.base l->s.heap.FunFrames X.base l:=by
  intro l
  induction l with
  | nil=>intro _ _;trivial
  |cons env r ih=>
   intro hs hl;obtain⟨hk,⟨L,o,hf,hn,ho,hd⟩,hr⟩:=hl;have hL:L∈X.fs:=hs L (by unfold frs;rw[List.filterMap_cons,hf];exact List.mem_cons_self);obtain⟨sl,e⟩:=I.base.slot L o ho (I.ok.frf L hL) hL fun z=>I.ok.ik L z hL;exact⟨hk,⟨L,_,hf,hn,e,hd⟩,ih (fun b hb=>hs b (by unfold frs;rw[List.filterMap_cons,hf];exact List.mem_cons_of_mem _ hb)) hr⟩
 exact all X.outer (fun _ hb=>hb) I.ok.cY
def Inv.stack(I:Inv X pins σ H s):s.heap.FunFrames X.base X.stack:=by
 rcases I.ok.stk with e | ⟨e,hf⟩
 ·rw[e];exact I.cY
 ·rw[e];obtain⟨m,hn,_⟩:=I.loc;refine .cons (by rw[I.ok.kind];decide) hf hn ?_ I.cY;exact Heap.get?_none_of_le (Nat.le_trans I.ok.bsz I.ok.above)
def Inv.nQ(I:Inv X pins σ H s):∀ b∈frs X.stack,b∈X.env.locals::X.fs:=fun b hb=>by
 rcases I.ok.stk with e | ⟨e,hf⟩
 ·rw[e]at hb;exact List.mem_cons_of_mem _ hb
 ·rw[e]at hb;unfold frs at hb;rw[List.filterMap_cons,hf]at hb;exact hb
def Inv.jk(I:Inv X pins σ H s):∀ b∈frs X.stack,H b=none:=fun b hb=>by
 rcases List.mem_cons.mp (I.nQ b hb)with e | hb
 ·rw[e];exact I.free
 ·obtain⟨_,o,ho,_⟩:=I.ok.cY.mem hb;exact I.base.free b o ho (I.ok.frf b hb) fun z=>I.ok.ik b z hb
def Inv.step{g':Array GenState}{t':Nat}{d':Drawn}{ch:List Addr}(I:Inv X pins σ H s)
 (hch:∀ b∈ch,(b∈X.ex\/X.s₀.heap.objs.size<=b)/\b≠X.env.locals/\(∀ x c,X.env.cells.lookup x=some c->c≠b)/\∀ p∈X.pn++pins,p.1≠b)
 (keep:∀ b o,b≠X.env.locals->b∉X.fs->b∉ch->s.heap.get? b=some o->H b=none->h'.get? b=some o)
 (slot:∀ b o,b≠X.env.locals->b∈X.fs->b∉ch->s.heap.get? b=some o->H b=none->∃ sl,h'.get? b=some { o with slots:=sl })(free:∀ b o,b∉ch->s.heap.get? b=some o->H b=none->H' b=none)
 (there:∀ b o,b∉ch->s.heap.get? b=some o->∃ o',h'.get? b=some o')
 (dO:∀ b xs,H b=some (.tup xs)->H' b=some (.tup xs))(cL:∀ b o u,H b=some (.frz o u)->H' b=some (.frz o u))(dJ:∀ b ps,H b=some (.tbl ps)->∃ more,H' b=some (.tbl (ps++more)))
 (ns:∀ m,s.heap.Ns X.env.locals m->h'.Ns X.env.locals m)(hok:HOk X.prog X.w H' h')(hg:AllBare g') :
  Inv X pins σ H' { s with heap:=h',gens:=g',drawn:=d',toks:=t' }:=by
 have neL:∀ b o,X.s₀.heap.get? b=some o->b≠X.env.locals:=fun b o e=>Nat.ne_of_lt (Nat.lt_of_lt_of_le (Heap.lt_size e) I.ok.above)
 have neC:∀ b o,X.s₀.heap.get? b=some o->b∉X.ex->b∉ch:=fun b o e hx hb=>by
  rcases(hch b hb).1 with z | z
  ·exact hx z
  ·exact absurd (Nat.lt_of_lt_of_le (Heap.lt_size e) z) (Nat.lt_irrefl _)
 have cellK:∀ x c,X.env.cells.lookup x=some c->∀ v,s.heap.IsCell c v->h'.IsCell c v:=fun x c e v ⟨o,ho,hd⟩=>by
  have nch:c∉ch:=fun z=>(hch c z).2.2.1 x c e rfl;by_cases hc:c∈X.fs
  ·obtain⟨sl,q⟩:=slot c o (I.cne x c e) hc nch ho (I.c6 x c e);exact⟨_,q,hd⟩
  ·exact⟨o,keep c o (I.cne x c e) hc nch ho (I.c6 x c e),hd⟩
 refine⟨I.ok,I.os,hg,⟨fun b o e n hb hx=>?_,fun b o e n hb hx=>?_,fun b o e n hx=>?_,fun b o e hx=>?_,fun b xs e=>dO b xs (I.base.dO b xs e),fun b o xs e=>cL b o xs (I.base.cL b o xs e),fun b ps e=>?_⟩,?_,fun x c e=>?_,?_,fun x c e=>?_,fun p hp=>?_,hok,I.len⟩
 ·exact keep b o (neL b o e) hb (neC b o e hx) (I.base.keep b o e n hb hx) (I.base.free b o e n hx)
 ·obtain⟨sl,e1⟩:=I.base.slot b o e n hb hx;obtain⟨sl',e2⟩:=slot b _ (neL b o e) hb (neC b o e hx) e1 (I.base.free b o e n hx);exact⟨sl',e2⟩
 ·obtain⟨o',e1⟩:=I.base.there b o e hx;exact free b o' (neC b o e hx) e1 (I.base.free b o e n hx)
 ·obtain⟨o',e1⟩:=I.base.there b o e hx;exact there b o' (neC b o e hx) e1
 ·obtain⟨m1,e1⟩:=I.base.dJ b ps e;obtain⟨m2,e2⟩:=dJ b _ e1;exact⟨m1++m2,by rw[e2,Array.append_assoc]⟩
 ·obtain⟨m,hn,hl⟩:=I.loc;refine⟨m,ns m hn,fun i x v e1 e2 e3=>?_⟩;obtain⟨u,r,l⟩:=hl i x v e1 e2 e3;refine⟨u,r,?_⟩
  rcases l with l | ⟨k,c,e,z⟩
  ·exact .inl l
  ·exact .inr ⟨k,c,e,cellK x c e _ z⟩
 ·obtain⟨v,z⟩:=I.cell x c e;exact⟨v,cellK x c e v z⟩
 ·obtain⟨m,⟨o,_,_,ho,_⟩,_⟩:=I.loc;exact free _ o (fun z=>(hch _ z).2.1 rfl) ho I.free
 ·obtain⟨v,o,ho,hd⟩:=I.cell x c e;exact free c o (fun z=>(hch c z).2.2.1 x c e rfl) ho (I.c6 x c e)
 ·obtain⟨e,n,ne,nf,d⟩:=I.pin p hp;have nch:p.1∉ch:=fun z=>(hch p.1 z).2.2.2 p hp rfl;exact⟨keep p.1 p.2 ne nf nch e n,free p.1 p.2 nch e n,ne,nf,d⟩
def Inv.un(I:Inv X pins σ H s)(u:Un X.fs [] H H' s.heap h')(hok:HOk X.prog X.w H' h'):Inv X pins σ H' { s with heap:=h',toks:=t' }:=by
 obtain⟨m,⟨o,es,ep,ho,r⟩,_⟩:=id I.loc;obtain⟨sl,hL⟩:=u.any ho I.free (by simp)
 exact I.step (g':=s.gens) (d':=s.drawn) (ch:=[]) (fun _ z=>nomatch z) (fun b o _ hb _ e n=>u.keep b o e n hb (by simp)) (fun b o _ hb _ e n=>u.slot b o e n hb (by simp)) (fun b o _ e n=>u.free b o e n (by simp)) (fun b o _ e=>u.there b o e (by simp)) u.dO u.cL u.dJ (fun m' hm=>by
  obtain⟨o',es',ep',ho',r'⟩:=hm;rw[ho]at ho';cases ho'
  exact⟨_,es',ep',hL,r'⟩) hok I.bare
def Inv.call(I:Inv X pins σ H s)(u:Un (frs X.stack) ch H H' s.heap h')(hok:HOk X.prog X.w H' h')(hg:AllBare g')
 (hch:∀ b∈ch,(b∈X.ex\/X.s₀.heap.objs.size<=b)/\b≠X.env.locals/\(∀ x c,X.env.cells.lookup x=some c->c≠b)/\∀ p∈X.pn++pins,p.1≠b) :
  Inv X pins σ H' { s with heap:=h',gens:=g',drawn:=d',toks:=t' }:=by
 obtain⟨m,⟨o,es,ep,ho,r⟩,_⟩:=id I.loc;obtain⟨sl,hL⟩:=u.any ho I.free fun z=>(hch _ z).2.1 rfl
 exact I.step (ch:=ch) hch (fun b o hL hb hc e n=>u.keep b o e n (fun z=>(List.mem_cons.mp (I.nQ b z)).elim hL hb) hc) (fun b o _ _ hc e n=>u.any e n hc) (fun b o hc e n=>u.free b o e n hc) (fun b o hc e=>u.there b o e hc) u.dO u.cL u.dJ (fun m' hm=>by
  obtain⟨o',es',ep',ho',r'⟩:=hm;rw[ho]at ho';cases ho'
  exact⟨_,es',ep',hL,r'⟩) hok hg
def Inv.turned(I:Inv X pins σ H s)(k:∀ b o,b≠it->s.heap.get? b=some o->h'.get? b=some o)(hn:H it=none)(hL:it≠X.env.locals)
 (h1:it∈X.ex\/X.s₀.heap.objs.size<=it)(h2:∀ x c,X.env.cells.lookup x=some c->c≠it)(h3:∀ p∈X.pn++pins,p.1≠it):Inv X pins σ H { s with heap:=h',toks:=t' }:=by
 have nit:∀ b u,H b=some u->b≠it:=fun b u e z=>by rw[z,hn]at e;cases e
 refine I.step (g':=s.gens) (d':=s.drawn) (ch:=[it]) (fun b hb=>?_) (fun b o _ _ hc e _=>k b o (fun z=>hc (by simp[z])) e) (fun b o _ _ hc e _=>⟨o.slots,k b o (fun z=>hc (by simp[z])) e⟩) (fun _ _ _ _ n=>n)
  (fun b o hc e=>⟨o,k b o (fun z=>hc (by simp[z])) e⟩) (fun _ _ e=>e) (fun _ _ _ e=>e) (fun b ps e=>⟨#[],by rw[e];simp⟩) (fun m hm=>?_) (fun b u e=>?_) I.bare
 ·have e:b=it:=by simpa using hb
  subst e;exact⟨h1,hL,h2,h3⟩
 ·obtain⟨o,es,ep,ho,r⟩:=hm;exact⟨o,es,ep,k _ o (Ne.symm hL) ho,r⟩
 ·refine(I.hok b u e).gA (fun c v hc q=>k c v ?_ q) (fun _ q=>q) fun _ _ q=>q;rcases hc with z | z
  ·rw[z];exact nit b u e
  ·exact nit c _ z
def Inv.tok(I:Inv X pins σ H s)(t:Nat):Inv X pins σ H { s with toks:=t }:=I.un (h':=s.heap) (t':=t) Un.refl I.hok
def Inv.kept(I:Inv X pins σ H s)(k:∀ b u,s.heap.get? b=some u->h'.get? b=some u):Inv X pins σ H { s with heap:=h',toks:=t' }:=I.un (Un.kept k) (I.hok.kept k)
def Inv.laid(I:Inv X pins σ H s)(k:∀ b u,s.heap.get? b=some u->h'.get? b=some u)(hp:s.heap.objs.size<=a)(new:bD X.prog X.w (upd H a o) h' a o) :
  Inv X pins σ (upd H a o) { s with heap:=h',toks:=t' }:=I.un (Un.laid k hp (I.hok.fresh hp)) (I.hok.laid k hp new)
def Inv.write(I:Inv X pins σ H s)(mu:Mut (H x))(he:e=x\/H e=some (.own x))(k:∀ b u,b≠e->s.heap.get? b=some u->h'.get? b=some u)(heo:∃ u,h'.get? e=some u)
 (new:bD X.prog X.w (upd H x o) h' x o):Inv X pins σ (upd H x o) { s with heap:=h',toks:=t' }:=I.un (Un.write mu he k heo) (I.hok.write mu he k heo new)
def Inv.weak(I:Inv X pins σ H s)(hl:σ'.length=σ.length)(w:∀ (i:Nat) v,σ'[i]?=some (some v)->σ[i]?=some (some v)):Inv X pins σ' H s :=
 ⟨I.ok,I.os,I.bare,I.base,let ⟨m,hn,hl'⟩:=I.loc;⟨m,hn,fun i x v e1 e2 e3=>hl' i x v e1 (w i v e2) e3⟩,I.cell,I.free,I.c6,I.pin,I.hok,hl.trans I.len⟩
def Inv.pQ(I:Inv X pins σ H s)(h:∀ p∈pins',s.heap.get? p.1=some p.2/\H p.1=none/\p.1≠X.env.locals/\p.1∉X.fs/\∀ v,p.2.data≠.cell v):Inv X pins' σ H s :=
 ⟨I.ok,I.os,I.bare,I.base,I.loc,I.cell,I.free,I.c6,fun p hp=>(List.mem_append.mp hp).elim (fun z=>I.pin p (List.mem_append_left _ z)) (h p),I.hok,I.len⟩
def jF{N:List Str}(hN:N.Nodup){i j:Nat}(a:N[i]?=some x)(b:N[j]?=some x):i=j:=by
 obtain⟨h1,e1⟩:=List.getElem?_eq_some_iff.mp a;obtain⟨h2,e2⟩:=List.getElem?_eq_some_iff.mp b;exact(List.getElem_inj hN).mp (e1.trans e2.symm)
def lO{M:Model}{A:Around}(I:Inv X pins σ H s)(hN:X.N.Nodup)(hi:X.N[i]?=some x)(hx:Loc X.env.scope x)(r:RelV v u)
 (h:∀ s',Inv X pins (σ.set i (some v)) H s'->(∃ a,Heap.SameBut a s.heap s'.heap/\(a=X.env.locals\/X.env.cells.lookup x=some a))->Q () s')(hf:X.fn x=true\/X.env.scope.names.lookup x=some .local):wpAny M A (storeName X.env x u) Q E s:=by
 obtain⟨m,hn,hl⟩:=id I.loc
 have hcls:(X.env.scope.kind == .class || (X.env.scope.kind == .module&&X.env.locals != X.env.globals))=false:=by rw[I.ok.kind];rfl
 have hiσ:i<σ.length:=by rw[I.len];exact(List.getElem?_eq_some_iff.mp hi).1
 have cne:=I.cne
 have tracked:∀ {a:Addr} {h':Heap},(∃ o,s.heap.get? a=some o/\H a=none)->Heap.SameBut a s.heap h'->HOk X.prog X.w H h':=fun {a h'} ha hs b ob e=>by
  obtain⟨_,_,hfree⟩:=ha;refine(I.hok b ob e).gA (fun c w' hc q=>(hs.2 c ?_).trans q) (fun _ q=>q) fun _ _ q=>q;rintro rfl;rcases hc with rfl | hc
  ·rw[hfree]at e;cases e
  ·rw[hfree]at hc;cases hc
 rcases hx with hk | hk
 ·refine wpAny_storeName_local hk hn (fun h' hn' hs=>?_) hcls;obtain⟨oL,_,_,hoL,_⟩:=id hn;refine h _ ⟨I.ok,I.os,I.bare,⟨fun b o e n hb hx=>?_,fun b o e n hb hx=>?_,I.base.free,fun b o e hx=>?_,I.base.dO,I.base.cL,I.base.dJ⟩,⟨_,hn',fun j y v' e1 e2 e3=>?_⟩,fun y c e=>?_,I.free,I.c6,fun p hp=>?_,tracked ⟨oL,hoL,I.free⟩ hs,by simpa using I.len⟩ ⟨_,hs,.inl rfl⟩
  ·exact(hs.2 b (Nat.ne_of_lt (Nat.lt_of_lt_of_le (Heap.lt_size e) I.ok.above))).trans (I.base.keep b o e n hb hx)
  ·obtain⟨sl,e1⟩:=I.base.slot b o e n hb hx;exact⟨sl,(hs.2 b (Nat.ne_of_lt (Nat.lt_of_lt_of_le (Heap.lt_size e) I.ok.above))).trans e1⟩
  ·obtain⟨o',e1⟩:=I.base.there b o e hx;exact⟨o',(hs.2 b (Nat.ne_of_lt (Nat.lt_of_lt_of_le (Heap.lt_size e) I.ok.above))).trans e1⟩
  ·by_cases hj:j=i
   ·subst hj;rw[hi]at e1;cases e1;rw[List.getElem?_set_self hiσ]at e2;cases e2;exact⟨u,r,.inl ⟨hk,by simp⟩⟩
   ·rw[List.getElem?_set_ne (Ne.symm hj)]at e2;obtain⟨u',r',q⟩:=hl j y v' e1 e2 e3;refine⟨u',r',?_⟩
    rcases q with⟨k,e⟩ | ⟨k,c,e,z⟩
    ·refine .inl ⟨k,?_⟩;have:y≠x:=fun e=>hj (jF hN e1 (e▸hi));simp[this,e]
    ·exact .inr ⟨k,c,e,z.sameBut hs (cne y c e)⟩
  ·obtain⟨w',z⟩:=I.cell y c e;exact⟨w',z.sameBut hs (cne y c e)⟩
  ·obtain⟨e,n,ne,nf,d⟩:=I.pin p hp;exact⟨(hs.2 p.1 ne).trans e,n,ne,nf,d⟩
 ·have hfn:X.fn x=true:=by
   rcases hf with z | z
   ·exact z
   ·rw[z]at hk;cases hk
  obtain⟨c,hc⟩:=I.ok.has x (.inl hk);obtain⟨w',z⟩:=I.cell x c hc;refine wpAny_storeName_cell I.ok.kind hk hc z (fun h' hc' hs=>?_);obtain⟨oc,hoc,hocd⟩:=id z;refine h { s with heap:=h' } ⟨I.ok,I.os,I.bare,⟨fun b o e n hb hx=>?_,fun b o e n hb hx=>?_,I.base.free,fun b o e hx=>?_,I.base.dO,I.base.cL,I.base.dJ⟩,⟨m,hn.sameBut hs (Ne.symm (cne x c hc)),fun j y v' e1 e2 e3=>?_⟩,fun y c' e=>?_,I.free,I.c6,fun p hp=>?_,tracked ⟨oc,hoc,I.c6 x c hc⟩ hs,by simpa using I.len⟩ ⟨c,hs,.inr hc⟩
  ·exact(hs.2 b (Nat.ne_of_lt (Nat.lt_of_lt_of_le (Heap.lt_size e) (I.ok.cab x c hfn hc)))).trans (I.base.keep b o e n hb hx)
  ·obtain⟨sl,e1⟩:=I.base.slot b o e n hb hx;exact⟨sl,(hs.2 b (Nat.ne_of_lt (Nat.lt_of_lt_of_le (Heap.lt_size e) (I.ok.cab x c hfn hc)))).trans e1⟩
  ·obtain⟨o',e1⟩:=I.base.there b o e hx;exact⟨o',(hs.2 b (Nat.ne_of_lt (Nat.lt_of_lt_of_le (Heap.lt_size e) (I.ok.cab x c hfn hc)))).trans e1⟩
  ·by_cases hj:j=i
   ·subst hj;rw[hi]at e1;cases e1;rw[List.getElem?_set_self hiσ]at e2;cases e2;exact⟨u,r,.inr ⟨.inl hk,c,hc,hc'⟩⟩
   ·rw[List.getElem?_set_ne (Ne.symm hj)]at e2;obtain⟨u',r',q⟩:=hl j y v' e1 e2 e3;refine⟨u',r',?_⟩
    rcases q with q | ⟨k,c',e,z'⟩
    ·exact .inl q
    ·refine .inr ⟨k,c',e,z'.sameBut hs ?_⟩;rintro rfl;exact hj (jF hN e1 (I.ok.inj _ _ _ e hc▸hi))
  ·by_cases hcc:c'=c
   ·subst hcc;exact⟨_,hc'⟩
   ·obtain⟨w2,z2⟩:=I.cell y c' e;exact⟨w2,z2.sameBut hs hcc⟩
  ·obtain⟨e,n,ne,nf,d⟩:=I.pin p hp;refine⟨(hs.2 p.1 ?_).trans e,n,ne,nf,d⟩;intro q;rw[q,hoc]at e;have q':oc=p.2:=Option.some.inj e;exact d w' (by rw[<-q'];exact hocd)
def gb(I:Inv X pins σ H s)(hN:X.N.Nodup)(hi:X.N[i]?=some x)(hx:Loc X.env.scope x)(r:RelV v u)
 (h:∀ s',Inv X pins (σ.set i (some v)) H s'->Q () s')(hf:X.fn x=true\/X.env.scope.names.lookup x=some .local):wpAny M A (storeName X.env x u) Q E s :=
 lO I hN hi hx r (fun s' I' _=>h s' I') hf
def Inv.mw(I:Inv X pins σ H s)(ho:s'.os=s.os)(u:Un (frs X.stack) ch H H' s.heap s'.heap)(hok:HOk X.prog X.w H' s'.heap)(hg:AllBare s'.gens)
 (hch:∀ b∈ch,(b∈X.ex\/X.s₀.heap.objs.size<=b)/\b≠X.env.locals/\(∀ x c,X.env.cells.lookup x=some c->c≠b)/\∀ p∈X.pn++pins,p.1≠b):Inv X pins σ H' s':=by
 obtain⟨h',g',d',t',o'⟩:=s';have e:o'=s.os:=ho;subst e;exact I.call (g':=g') (t':=t') (d':=d') u hok hg hch
end
@[reducible]noncomputable def XK:=Value->Option Addr->Hp->Prop
@[reducible]noncomputable def St:=List (Option V)
@[reducible]noncomputable def VK:=V->Hp->Prop
@[reducible]noncomputable def TE:=St->Hp->VK->Prop
@[reducible]noncomputable def TT:=St->Hp->(Bool->Hp->Prop)->Prop
@[reducible]noncomputable def TA:=St->Hp->(List V->Hp->Prop)->Prop
structure Ends where
 nx:St->Hp->Prop
 rt:VK
 bk:St->Hp->Prop:=fun _ _=>False
 ct:St->Hp->Prop:=fun _ _=>False
@[reducible]noncomputable def TS:=Ends->St->Hp->Prop
abbrev EP(X:Cx)(pins:List (Addr × Obj))(σ:St)(Q:VK)(u:Value)(s':Shared):Prop:=∃ v H',Inv X pins σ H' s'/\RelV v u/\Q v H'
abbrev TP(X:Cx)(pins:List (Addr × Obj))(σ:St)(Q:Bool->Hp->Prop)(b:Bool)(s':Shared):Prop:=∃ H',Inv X pins σ H' s'/\Q b H'
abbrev AP(X:Cx)(pins:List (Addr × Obj))(σ:St)(Q:List V->Hp->Prop)(us:List Value)(s':Shared):Prop:=∃ vs H',Inv X pins σ H' s'/\Vals vs us/\Q vs H'
abbrev SP(X:Cx)(pins:List (Addr × Obj))(D:Ends)(f:Flow)(s':Shared):Prop :=
 match f with
 | .next=>∃ σ' H',Inv X pins σ' H' s'/\D.nx σ' H'
 | .brk=>∃ σ' H',Inv X pins σ' H' s'/\D.bk σ' H'
 | .cont=>∃ σ' H',Inv X pins σ' H' s'/\D.ct σ' H'
 | .ret u=>∃ v σ' H',Inv X pins σ' H' s'/\RelV v u/\D.rt v H'
abbrev PE(X:Cx)(e:Expr)(t:TE):Prop :=
 ∀ (pins:List (Addr × Obj)) (s:Shared) (σ:St) (H:Hp) (Q:VK),Inv X pins σ H s->t σ H Q->wpAny (model X.prog X.w) X.A (eval e X.env) (EP X pins σ Q) X.xe s
abbrev PT(X:Cx)(e:Expr)(t:TT):Prop :=
 ∀ (pins:List (Addr × Obj)) (s:Shared) (σ:St) (H:Hp) (Q:Bool->Hp->Prop),Inv X pins σ H s->t σ H Q->wpAny (model X.prog X.w) X.A (isTrue e X.env (eval e X.env)) (TP X pins σ Q) X.xe s
abbrev PW(X:Cx)(e:Expr)(t:TT):Prop :=
 ∀ (whole:Sem Value) (pins:List (Addr × Obj)) (s:Shared) (σ:St) (H:Hp) (Q:Bool->Hp->Prop),Inv X pins σ H s->t σ H Q->wpAny (model X.prog X.w) X.A (isTrue e X.env whole) (TP X pins σ Q) X.xe s
def PW.pt(h:PW X e t):PT X e t:=h _
abbrev PA(X:Cx)(es:List Expr)(t:TA):Prop :=
 ∀ (pos:Pos) (pins:List (Addr × Obj)) (s:Shared) (σ:St) (H:Hp) (Q:List V->Hp->Prop),Inv X pins σ H s->t σ H Q->wpAny (model X.prog X.w) X.A (spliced (backTo pos (starEach es X.env))) (AP X pins σ Q) X.xe s
abbrev PS(X:Cx)(st:Stmt)(t:TS):Prop :=
 ∀ (pins:List (Addr × Obj)) (s:Shared) (σ:St) (H:Hp) (D:Ends),Inv X pins σ H s->t D σ H->wpAny (model X.prog X.w) X.A (exec st X.env) (SP X pins D) X.xe s
abbrev PSs(X:Cx)(st:List Stmt)(t:TS):Prop :=
 ∀ (pins:List (Addr × Obj)) (s:Shared) (σ:St) (H:Hp) (D:Ends),Inv X pins σ H s->t D σ H->wpAny (model X.prog X.w) X.A (execs st X.env) (SP X pins D) X.xe s
def thn(h:wpAny M A t Q E s)(hQ:∀ a s,Q a s->Q' a s):wpAny M A t Q' E s:=wpAny_mono h hQ fun _ _ x=>x
section
variable{X:Cx}
abbrev qW(i:Nat):TE:=fun σ H Q=>∃ v,σ[i]?=some (some v)/\Q v H
abbrev tC(v:V):TE:=fun _ H Q=>Q v H
def gO(hN:X.N[i]?=some x)(hv:Vis X.env.scope x)(hd:(x == ("__debug__" : Str))=false)(hcd:(x == ("__classdict__" : Str))=false):PE X (.Name x pos) (qW i):=by
 intro pins s σ H Q I h;obtain⟨v,e,h⟩:=h;obtain⟨m,hn,hl⟩:=I.loc;obtain⟨u,r,l⟩:=hl i x v hN e hv
 have fin:EP X pins σ Q u s:=⟨v,H,I,r,h⟩
 rcases l with⟨hk,hm⟩ | ⟨hk,c,hc,hcell⟩
 ·exact wpAny_Name (wpAny_loadName_local I.ok.kind hk hn hm fin) hd
 ·rcases hk with hk | hk
  ·exact wpAny_Name (wpAny_loadName_cell I.ok.kind hk hc hcell fin) hd
  ·exact wpAny_Name (wpAny_loadName_free I.ok.kind hk hc hcell fin hcd) hd
def nH:PE X (.Constant (.int i) j pos) (tC (.int i)):=fun _ _ _ H _ I h=>wpAny_Constant_int ⟨.int i,H,I.tok _,⟨_,rfl⟩,h⟩
def C5:PE X (.Constant (.bool b) j pos) (tC (.bl b)):=fun _ _ _ H _ I h=>Constant_bool ⟨.bl b,H,I,rfl,h⟩
def nJ:PE X (.Constant .none j pos) (tC .non):=fun _ _ _ H _ I h=>Constant_none ⟨.non,H,I,rfl,h⟩
def oz:PE X (.Constant (.str x) j pos) (tC (.str x)):=fun _ _ _ H _ I h=>Calls.Constant_str ⟨.str x,H,I.tok _,⟨_,rfl⟩,h⟩
abbrev Gl(X:Cx)(x:Str):Prop:=X.env.kindOf x=some .globalImplicit
def cJ(I:Inv X pins σ H s)(hg:Gl X x)(hm:X.mg x=some u)(h:Q u s)
 (hd:(x == ("__debug__" : Str))=false):wpAny (model X.prog X.w) X.A (eval (.Name x pos) X.env) Q E s :=
 Calls.Name_function_global I.ok.kind hg (Calls.loadGlobal_global (by rw[I.ok.glob];exact I.mod.glob.keeps I.bk) hm h) hd
def gR(I:Inv X pins σ H s)(hg:Gl X x)(hm:X.mg x=none)(hv:bootBuiltins x=some u)(h:Q u s)
 (hn:x ≠ "__name__")(hd:(x == ("__debug__" : Str))=false):wpAny (model X.prog X.w) X.A (eval (.Name x pos) X.env) Q E s:=by
 obtain⟨mb,h1,h2⟩:=I.mod.blt;exact Calls.Name_function_global I.ok.kind hg (Calls.loadGlobal_builtin (by rw[I.ok.glob];exact I.mod.glob.keeps I.bk) hm (by rw[I.ok.blt];exact h1.keeps I.bk) ((h2 x hn).trans hv) h) hd
def pN(hg:Gl X x)(hm:X.mg x=some u)(r:RelV v u)(hd:(x == ("__debug__" : Str))=false):PE X (.Name x pos) (tC v) :=
 fun _ _ _ H _ I h=>cJ I hg hm ⟨v,H,I,r,h⟩ hd
def pM(hg:Gl X x)(hm:X.mg x=none)(hv:bootBuiltins x=some u)(r:RelV v u)(hn:x ≠ "__name__")(hd:(x == ("__debug__" : Str))=false):PE X (.Name x pos) (tC v) :=
 fun _ _ _ H _ I h=>gR I hg hm hv ⟨v,H,I,r,h⟩ hn hd
variable{a b:Expr}{ta tb:TE}{pos:Pos}
abbrev PC(X:Cx)(op:CmpOp)(a b:Expr)(t:TE):Prop :=
 ∀ (pins:List (Addr × Obj)) (s:Shared) (σ:St) (H:Hp) (Q:VK),Inv X pins σ H s->t σ H Q ->
  wpAny (model X.prog X.w) X.A (eval a X.env) (fun v s₁=>wpAny (model X.prog X.w) X.A (eval b X.env) (fun u s₂=>wpAny (model X.prog X.w) X.A (compareOp op v u) (EP X pins σ Q) X.xe s₂) X.xe s₁) X.xe s
abbrev tB(t:TE):TT:=fun σ H Q=>t σ H fun x H1=>∃ c,x=.bl c/\Q c H1
def zV(h:PC X op a b t)(h1:behindInMarks op b=false):PE X (.Compare a [op] [b] pos) t:=fun pins s σ H Q I hw=>wpAny_Compare1 (h pins s σ H Q I hw) h1
def zU(h:PC X op a b t)(h1:behindInMarks op b=false):PT X (.Compare a [op] [b] pos) (tB t):=by
 intro pins s σ H Q I hw;refine wpAny_isTrue_Compare1 (thn (h pins s σ H _ I hw) fun v s1 h1=>thn h1 fun u s2 h2=>thn h2 fun c s3 ⟨x,H1,I1,r1,q1⟩=>?_) h1;obtain⟨d,rfl,q⟩:=q1;cases r1;exact wpAny_truthy_bool ⟨H1,I1,q⟩
variable{tA tB':TT}{rest:List Expr}
abbrev Di(t u:TT):TT:=fun σ H Q=>t σ H fun c H1=>if c=true then u σ H1 Q else Q false H1
abbrev tOr(t u:TT):TT:=fun σ H Q=>t σ H fun c H1=>if c=true then Q true H1 else u σ H1 Q
abbrev Dr(t:TT):TT:=fun σ H Q=>t σ H fun c H1=>Q (!c) H1
def yr(ha:PT X a tA):PW X (.BoolOp .And [a] pos) tA:=by
 intro wh pins s σ H Q I h;refine isTrue_and (thn (ha pins s σ H Q I h) fun c s1 e=>?_)
 cases c with
 | true=>exact isTrue_and_nil e
 | false=>exact e
def zw(ha:PT X a tA):PW X (.BoolOp .Or [a] pos) tA:=by
 intro wh pins s σ H Q I h;refine isTrue_or (thn (ha pins s σ H Q I h) fun c s1 e=>?_)
 cases c with
 | false=>exact isTrue_or_nil e
 | true=>exact e
def Bc(ha:PT X a tA)(hb:PW X (.BoolOp .And (b::rest) pos) tB'):PW X (.BoolOp .And (a::b::rest) pos) (Di tA tB'):=by
 intro wh pins s σ H Q I h;refine isTrue_and (thn (ha pins s σ H _ I h) fun c s1 ⟨H1,I1,q1⟩=>?_)
 cases c with
 | true=>exact hb wh pins s1 σ H1 Q I1 q1
 | false=>exact⟨H1,I1,q1⟩
def Ci(ha:PT X a tA)(hb:PW X (.BoolOp .Or (b::rest) pos) tB'):PW X (.BoolOp .Or (a::b::rest) pos) (tOr tA tB'):=by
 intro wh pins s σ H Q I h;refine isTrue_or (thn (ha pins s σ H _ I h) fun c s1 ⟨H1,I1,q1⟩=>?_)
 cases c with
 | true=>exact⟨H1,I1,q1⟩
 | false=>exact hb wh pins s1 σ H1 Q I1 q1
def AS(ha:PT X a tA):PT X (.UnaryOp .Not a pos) (Dr tA):=by
 intro pins s σ H Q I h;exact isTrue_not (ha pins s σ H (fun c H1=>Q (!c) H1) I h)
abbrev BP(ta tb:TE):TE:=fun σ H Q=>ta σ H fun x H1=>∃ c,x=.bl c/\if c=true then tb σ H1 Q else Q (.bl false) H1
abbrev CT(ta tb:TE):TE:=fun σ H Q=>ta σ H fun x H1=>∃ c,x=.bl c/\if c=true then Q (.bl true) H1 else tb σ H1 Q
def A2(h:PE X a t):PE X (.BoolOp op [a] pos) t:=fun pins s σ H Q I hw=>BoolOp_one (h pins s σ H Q I hw)
def AU(ha:PE X a ta)(hb:PE X (.BoolOp .And (b::rest) pos) tb):PE X (.BoolOp .And (a::b::rest) pos) (BP ta tb):=by
 intro pins s σ H Q I h;refine BoolOp_and (thn (ha pins s σ H _ I h) fun v s1 ⟨x,H1,I1,r1,q1⟩=>?_);obtain⟨c,rfl,q1⟩:=q1;cases r1;refine wpAny_truthy_bool ?_
 cases c with
 | true=>exact hb pins s1 σ H1 Q I1 q1
 | false=>exact⟨.bl false,H1,I1,rfl,q1⟩
def Cc(ha:PE X a ta)(hb:PE X (.BoolOp .Or (b::rest) pos) tb):PE X (.BoolOp .Or (a::b::rest) pos) (CT ta tb):=by
 intro pins s σ H Q I h;refine BoolOp_or (thn (ha pins s σ H _ I h) fun v s1 ⟨x,H1,I1,r1,q1⟩=>?_);obtain⟨c,rfl,q1⟩:=q1;cases r1;refine wpAny_truthy_bool ?_
 cases c with
 | false=>exact hb pins s1 σ H1 Q I1 q1
 | true=>exact⟨.bl true,H1,I1,rfl,q1⟩
end
abbrev SqL(K:PySem.W.Frag)(H:Hp)(a:Addr)(xs:List V):Prop :=
 Rd H a (.lst xs) \/
  ∃ (o:Obj) (its:Array Value) (n:Nat),K.lookup a=some o/\o.cls=.type "list" /\ o.dict=none/\o.data=.seq its n/\its.size<=sizeLine/\Vals xs its.toList
abbrev SqT(K:PySem.W.Frag)(H:Hp)(a:Addr)(xs:List V):Prop :=
 Rd H a (.tup xs) \/
  ∃ (o:Obj) (its:Array Value) (n:Nat),K.lookup a=some o/\o.cls=.type "tuple" /\ o.data=.seq its n/\its.size<=sizeLine/\Vals xs its.toList
abbrev CQ:Value->Option V
 | .none=>some .non
 | .bool b=>some (.bl b)
 | .int i _=>some (.int i)
 | .str x _=>some (.str x)
 | .bytes b _=>some (.byt b)
 | .float b _=>some (.flt b)
 | .ref a=>some (.ref a)
 | .type n=>some (.ty n)
 | _=>none
def RelV.abs(r:RelV x u):CQ u=some x:=by
 cases x with
 | non=>cases r;rfl
 | bl _=>cases r;rfl
 | int _=>obtain⟨t,rfl⟩:=r;rfl
 | str _=>obtain⟨t,rfl⟩:=r;rfl
 | byt _=>obtain⟨t,rfl⟩:=r;rfl
 | flt _=>obtain⟨t,rfl⟩:=r;rfl
 | ref _=>cases r;rfl
 | ty _=>cases r;rfl
def RelV.inj(r:RelV x u)(q:RelV y u):x=y:=Option.some.inj (r.abs.symm.trans q.abs)
def Vals.inj:∀ {xs ys:List V} {us:List Value},Vals xs us->Vals ys us->xs=ys
 | _,_,_,.nil,.nil=>rfl
 | _,_,_,.cons r t,.cons r' t'=>by rw[r.inj r',Vals.inj t t']
section
variable{X:Cx}{pins:List (Addr × Obj)}{σ:St}{H:Hp}{s:Shared}{a:Addr}{xs ys:List V}
def SqL.of{K:PySem.W.Frag}(h:H a=some (.lst xs)):SqL K H a xs:=.inl (.inl h)
def SqT.of{K:PySem.W.Frag}(h:H a=some (.tup xs)):SqT K H a xs:=.inl (.inl h)
def Inv.list(I:Inv X pins σ H s)(h:SqL X.K H a xs):∃ its:List Value,Vals xs its/\PlainL s.heap a its.toArray/\xs.length<=sizeLine:=by
 rcases h with h | ⟨o,its,n,hk,hc,hd,hs,hz,r⟩
 ·obtain⟨z,its,n,r,e⟩:=h.ok I.hok;exact⟨its,r,⟨_,n,e,rfl,rfl,rfl⟩,z⟩
 ·refine⟨its.toList,r,⟨o,n,I.kIn a o hk,hc,hd,by simpa using hs⟩,?_⟩;have e:=r.length;simp only[Array.length_toList]at e;omega
def Inv.tuple(I:Inv X pins σ H s)(h:SqT X.K H a xs):∃ its:List Value,Vals xs its/\IsTup s.heap a its.toArray/\xs.length<=sizeLine:=by
 rcases h with h | ⟨o,its,n,hk,hc,hs,hz,r⟩
 ·obtain⟨z,its,r,p⟩:=h.ok I.hok;exact⟨its,r,p,z⟩
 ·refine⟨its.toList,r,⟨o,I.kIn a o hk,hc,n,by simpa using hs⟩,?_⟩;have e:=r.length;simp only[Array.length_toList]at e;omega
def Inv.vL(I:Inv X pins σ H s)(h:SqL X.K H a xs)(h':SqL X.K H a ys):xs=ys:=by
 obtain⟨its,r,⟨o,n,e,_,_,d⟩,_⟩:=I.list h;obtain⟨its',r',⟨o',n',e',_,_,d'⟩,_⟩:=I.list h';rw[e]at e';cases e';rw[d]at d';injection d' with d1 _
 have:its=its':=by simpa using congrArg Array.toList d1
 subst this;exact r.inj r'
def Inv.sg(I:Inv X pins σ H s)(h:SqT X.K H a xs)(h':SqT X.K H a ys):xs=ys:=by
 obtain⟨its,r,⟨o,e,_,n,d⟩,_⟩:=I.tuple h;obtain⟨its',r',⟨o',e',_,n',d'⟩,_⟩:=I.tuple h';rw[e]at e';cases e';rw[d]at d';injection d' with d1 _
 have:its=its':=by simpa using congrArg Array.toList d1
 subst this;exact r.inj r'
end
@[reducible]noncomputable def Cx.d8(X:Cx)(E:Value->Shared->Prop):Cx:={ X with xe:=E }
@[reducible]noncomputable def Cx.nox(X:Cx):Cx:=X.d8 fun _ _=>False
def Cx.Ok.d8{X:Cx}(ok:X.Ok)(E:Value->Shared->Prop):(X.d8 E).Ok :=
 ⟨ok.mod,ok.kind,ok.glob,ok.blt,ok.above,ok.inj,ok.has,ok.cab,ok.hd,ok.frames,ok.stk,ok.exf,ok.bs,ok.bsz,ok.hU,ok.ik,ok.cY,ok.frf⟩
def Cx.Ok.c9{X:Cx}(ok:(X.d8 E).Ok):X.Ok :=
 ⟨ok.mod,ok.kind,ok.glob,ok.blt,ok.above,ok.inj,ok.has,ok.cab,ok.hd,ok.frames,ok.stk,ok.exf,ok.bs,ok.bsz,ok.hU,ok.ik,ok.cY,ok.frf⟩
section
variable{X:Cx}{pins:List (Addr × Obj)}{σ:St}{H:Hp}{s:Shared}{E:Value->Shared->Prop}
def Inv.d8(I:Inv X pins σ H s)(E:Value->Shared->Prop):Inv (X.d8 E) pins σ H s:=⟨I.ok.d8 E,I.os,I.bare,I.base,I.loc,I.cell,I.free,I.c6,I.pin,I.hok,I.len⟩
def Inv.c9(I:Inv (X.d8 E) pins σ H s):Inv X pins σ H s:=⟨I.ok.c9,I.os,I.bare,I.base,I.loc,I.cell,I.free,I.c6,I.pin,I.hok,I.len⟩
def SP.c9(h:SP (X.d8 E) pins D f s'):SP X pins D f s':=by
 cases f with
 | next=>obtain⟨σ',H',I,q⟩:=h;exact⟨σ',H',I.c9,q⟩
 | brk=>obtain⟨σ',H',I,q⟩:=h;exact⟨σ',H',I.c9,q⟩
 | cont=>obtain⟨σ',H',I,q⟩:=h;exact⟨σ',H',I.c9,q⟩
 | ret u=>obtain⟨v,σ',H',I,r,q⟩:=h;exact⟨v,σ',H',I.c9,r,q⟩
def PE.nox(h:PE X.nox e t):PE X e t:=fun pins s σ H Q I hw =>
 wpAny_mono (h pins s σ H Q (I.d8 _) hw) (fun _ _ ⟨v,H',I',r,q⟩=>⟨v,H',I'.c9,r,q⟩) fun _ _ z=>False.elim z
def PT.nox(h:PT X.nox e t):PT X e t:=fun pins s σ H Q I hw =>
 wpAny_mono (h pins s σ H Q (I.d8 _) hw) (fun _ _ ⟨H',I',q⟩=>⟨H',I'.c9,q⟩) fun _ _ z=>False.elim z
def PSs.nox{st:List Stmt}(h:PSs X.nox st t):PSs X st t:=fun pins s σ H D I hw =>
 wpAny_mono (h pins s σ H D (I.d8 _) hw) (fun _ _ q=>q.c9) fun _ _ z=>False.elim z
end
section
variable{X:Cx}{st:Stmt}{rest:List Stmt}{t u:TS}{e:Expr}{te:TE}{pos:Pos}
abbrev C7:TS:=fun D σ H=>D.nx σ H
abbrev CL(t u:TS):TS:=fun D σ H=>t { D with nx:=u D } σ H
def pA:PSs X [] C7:=fun _ _ σ H _ I h=>wpAny_execs_nil ⟨σ,H,I,h⟩
def eF(h1:PS X st t)(h2:PSs X rest u):PSs X (st::rest) (CL t u):=by
 intro pins s σ H D I h;refine wpAny_execs_cons (thn (h1 pins s σ H { D with nx:=u D } I h) fun f s1 q=>?_)
 cases f with
 |next=>
  obtain⟨σ',H',I',q⟩:=q;exact h2 pins s1 σ' H' D I' q
 | ret v=>exact q
 | brk=>exact q
 | cont=>exact q
def xC(h1:PS X st t):PSs X [st] t:=by
 intro pins s σ H D I h;refine wpAny_execs_cons (thn (h1 pins s σ H D I h) fun f s1 q=>?_)
 cases f with
 | next=>exact wpAny_execs_nil q
 | ret v=>exact q
 | brk=>exact q
 | cont=>exact q
def Inv.quiet(I:Inv X pins σ H s):interactive X.env=false:=by simp[interactive,I.ok.kind]
abbrev ql(te:TE):TS:=fun D σ H=>te σ H fun _ H1=>D.nx σ H1
def jo(he:PE X e te)(hs:swapsWith e none pos.line X.env=pure false):PS X (.Expr e pos) (ql te):=by
 intro pins s σ H D I h;exact wpAny_Expr_any (thn (he pins s σ H _ I h) fun v s1 ⟨x,H1,I1,r1,q1⟩=>⟨σ,H1,I1,q1⟩) I.quiet hs
abbrev Dz(te:TE):TS:=fun D σ H=>te σ H D.rt
def jR(he:PE X e te):PS X (.Return (some e) pos) (Dz te):=by
 intro pins s σ H D I h;exact wpAny_Return_some (thn (he pins s σ H _ I h) fun v s1 ⟨x,H1,I1,r1,q1⟩=>⟨x,σ,H1,I1,r1,q1⟩)
abbrev CP(c:TT)(t u:TS):TS:=fun D σ H=>c σ H fun b H1=>if b=true then t D σ H1 else u D σ H1
def xb(hc:PT X c tc)(ha:PSs X a t)(hb:PSs X b u):PS X (.If c a b pos) (CP tc t u):=by
 intro pins s σ H D I h;refine wpAny_If (thn (hc pins s σ H _ I h) fun d s1 ⟨H1,I1,q1⟩=>?_)
 cases d with
 | true=>exact ha pins s1 σ H1 D I1 q1
 | false=>exact hb pins s1 σ H1 D I1 q1
end
@[reducible]noncomputable def TG:=V->St->Hp->(St->Hp->Prop)->Prop
@[reducible]noncomputable def TGs:=List V->St->Hp->(St->Hp->Prop)->Prop
abbrev PG(X:Cx)(target:Expr)(t:TG):Prop :=
 ∀ (pins:List (Addr × Obj)) (s:Shared) (σ:St) (H:Hp) (v:V) (u:Value) (Q:St->Hp->Prop),Inv X pins σ H s->RelV v u->t v σ H Q ->
  wpAny (model X.prog X.w) X.A (assign target X.env u) (fun _ s'=>∃ σ' H',Inv X pins σ' H' s'/\Q σ' H') X.xe s
abbrev PGs(X:Cx)(ts:List Expr)(t:TGs):Prop :=
 ∀ (pins:List (Addr × Obj)) (s:Shared) (σ:St) (H:Hp) (vs:List V) (us:List Value) (Q:St->Hp->Prop),Inv X pins σ H s->Vals vs us->t vs σ H Q ->
  wpAny (model X.prog X.w) X.A (assignInOrder ((assignEach ts X.env).map (·.2)) us) (fun _ s'=>∃ σ' H',Inv X pins σ' H' s'/\Q σ' H') X.xe s
section
variable{X:Cx}{pos:Pos}
abbrev jg(i:Nat):TG:=fun v σ H Q=>Q (σ.set i (some v)) H
def jy(hN:X.N.Nodup)(hi:X.N[i]?=some x)(hx:Loc X.env.scope x)(hf:X.fn x=true\/X.env.scope.names.lookup x=some .local):PG X (.Name x pos) (jg i):=by
 intro pins s σ H v u Q I r h;exact wpAny_assign_Name (gb I hN hi hx r (fun s' I'=>⟨_,H,I',h⟩) hf)
abbrev Ab:TGs:=fun vs σ H Q=>vs=[]/\Q σ H
abbrev wD(t:TG)(u:TGs):TGs:=fun vs σ H Q=>∃ v r,vs=v::r/\t v σ H fun σ' H'=>u r σ' H' Q
def yC:PGs X [] Ab:=by
 intro pins s σ H vs us Q I r h;obtain⟨e,h⟩:=h;subst e;cases r;exact assignInOrder_nil ⟨σ,H,I,h⟩
def wu(h1:PG X e t)(h2:PGs X es u)
 (hs:(assignEach (e::es) X.env).map (·.2)=assign e X.env::(assignEach es X.env).map (·.2)):PGs X (e::es) (wD t u):=by
 intro pins s σ H vs us Q I r h;obtain⟨v,vr,e1,h⟩:=h;subst e1
 cases r with
 |cons r rr=>
  rw[hs];refine assignInOrder_cons (thn (h1 pins s σ H _ _ _ I r h) fun _ s1 ⟨σ1,H1,I1,q1⟩=>?_);exact h2 pins s1 σ1 H1 _ _ Q I1 rr q1
abbrev kX(K:PySem.W.Frag)(n:Nat)(t:TGs):TG:=fun v σ H Q=>∃ a xs,v=.ref a/\SqT K H a xs/\xs.length=n/\t xs σ H Q
abbrev r9(te:TE)(g:TG):TS:=fun D σ H=>te σ H fun x H1=>g x σ H1 D.nx
def nS(he:PE X e te)(hg:PG X tg g)(hs:swapsWithSole [tg] e pos.line X.env=pure false)(hw:swappedStores [tg] e X.env=pure none)
 (h1:(assignEach [tg] X.env).map (·.2)=[assign tg X.env]):PS X (.Assign [tg] e pos) (r9 te g):=by
 intro pins s σ H D I h;refine wpAny_Assign_stores (thn (he pins s σ H _ I h) fun v s1 ⟨x,H1,I1,r1,q1⟩=>?_) hs hw;rw[h1];exact thn (hg pins s1 σ H1 x v _ I1 r1 q1) fun _ s2 q=>q
def nB(hN:X.N.Nodup)(hi:X.N[i]?=some x)(hx:Loc X.env.scope x)(he:PE X e te)(hs:swapsWith e (some (.Name x pos')) pos.line X.env=pure false)(hf:X.fn x=true\/X.env.scope.names.lookup x=some .local) :
  PS X (.Assign [.Name x pos'] e pos) (r9 te (jg i)):=by
 intro pins s σ H D I h;refine wpAny_Assign_Name (thn (he pins s σ H _ I h) fun v s1 ⟨y,H1,I1,r1,q1⟩=>?_) hs;exact gb I1 hN hi hx r1 (fun s2 I2=>⟨_,H1,I2,q1⟩) hf
abbrev vV(i j:Nat)(ta:TA):TS:=fun D σ H=>ta σ H fun vs H1=>∃ v w,vs=[v,w]/\D.nx ((σ.set i (some v)).set j (some w)) H1
def ue(hc:X.calm=true)(hN:X.N.Nodup)(hi:X.N[i]?=some x)(hj:X.N[j]?=some y)(hij:i≠j)
 (hx:X.env.scope.names.lookup x=some .local)(hy:X.env.scope.names.lookup y=some .local)(ha:PA X [a,b] ta)
 (hw:swappedStores [.Tuple [.Name x px,.Name y py] kt pt] (.Tuple [a,b] k2 pt2) X.env=pure (some [x,y]))
 (hs:swapsWithSole [.Tuple [.Name x px,.Name y py] kt pt] (.Tuple [a,b] k2 pt2) pos.line X.env=pure false) :
  PS X (.Assign [.Tuple [.Name x px,.Name y py] kt pt] (.Tuple [a,b] k2 pt2) pos) (vV i j ta):=by
 intro pins s σ H D I h;rw[exec_Assign_arm];refine wpAny_bind (wpAny_standAt ?_);rw[hs];refine wpAny_bind (wpAny_pure ?_);rw[if_neg (by decide)];refine wpAny_bind (Tuple_ (thn (ha _ pins s σ H _ I h) fun us s1 ⟨vs,H1,I1,r1,q1⟩=>?_));obtain⟨v,w,e1,q1⟩:=q1;subst e1
 obtain⟨u1,u2,rfl,rv,rw'⟩:∃ u1 u2,us=[u1,u2]/\RelV v u1/\RelV w u2:=by
  cases r1 with
  |cons p q=>
   cases q with
   |cons p' q'=>
    cases q';exact⟨_,_,rfl,p,p'⟩
 refine wpAny_newObj_type ?_ (by show 2<=sizeLine;decide);have I2:Inv X pins σ H1 { s1 with heap:=s1.heap.push { cls:=.type "tuple",data:=.seq [u1,u2].toArray } }:=I1.kept (t':=s1.toks) fun b o e=>Heap.get?_push_of_some _ e;rw[hw];refine wpAny_bind (wpAny_pure ?_);show wpAny (model X.prog X.w) X.A (do rule "assign.swapped-stores";let items <- unpackItems (.ref s1.heap.objs.size) 2 none;assignInOrder [fun v=>bindName X.env y v,fun v=>bindName X.env x v] items.reverse;pure Flow.next) _ _ _;refine wpAny_bind (wpAny_rule (wpAny_bind (unpackItems_tuple (items:=#[u1,u2]) (I.ok.hd.1 hc) (IsTup.new s1.heap _) fun h' hx'=>?_)));have I3:=I2.kept (h':=h') (t':=s1.toks) fun b o e=>hx' b o (Nat.ne_of_lt (Heap.lt_size e)) e;show wpAny _ _ (assignInOrder [fun v=>bindName X.env y v,fun v=>bindName X.env x v] [u2,u1] >>= fun _=>pure Flow.next) _ _ _;refine wpAny_bind (assignInOrder_cons (wpAny_bindName (gb I3 hN hj (.inl hy) rw' (fun s2 I4=>?_) (.inr hy))));refine assignInOrder_cons (wpAny_bindName (gb I4 hN hi (.inl hx) rv (fun s3 I5=>assignInOrder_nil (wpAny_pure ?_)) (.inr hx)));rw[List.set_comm _ _ (Ne.symm hij)]at I5;exact⟨_,H1,I5,q1⟩
end
section
variable{X:Cx}{pos:Pos}
end
structure It where
 go:Nat->Hp->Prop
 yld:Nat->Hp->V->Hp->Prop
 stop:Nat->Hp->Prop
abbrev ib(X:Cx)(pins:List (Addr × Obj))(H:Hp)(b:Addr):Prop :=
 H b=none/\b≠X.env.locals/\b∉X.fs/\(b∈X.ex\/X.s₀.heap.objs.size<=b)/\(∀ x c,X.env.cells.lookup x=some c->c≠b)/\∀ p∈X.pn++pins,p.1≠b
def Inv.lb(I:Inv X pins σ H s)(hb:s.heap.objs.size<=b)(hn:H' b=none):ib X pins H' b:=by
 refine⟨hn,Nat.ne_of_gt (Nat.lt_of_lt_of_le I.lt hb),I.Dh hb,.inr (Nat.le_trans I.sz hb),fun x c e z=>?_,fun p hp z=>?_⟩
 ·obtain⟨v,q⟩:=I.cell x c e;exact absurd (Nat.lt_of_lt_of_le q.lt (by rw[z];exact hb)) (Nat.lt_irrefl _)
 ·exact absurd (Nat.lt_of_lt_of_le (Heap.lt_size (I.pin p hp).1) (by rw[z];exact hb)) (Nat.lt_irrefl _)
structure jY(CM:Cx->Prop)(P:Program)(w:World)(K:PySem.W.Frag)(tg:Expr)(J:It)(fp:List Addr)(it:Addr)(tn:Nat->Heap->Prop):Prop where
 mem:it∈fp
 obj:∀ i h,tn i h->∀ b∈fp,∃ o,h.get? b=some o/\∀ v,o.data≠.cell v
 keep:∀ i h h',tn i h->(∀ b∈fp,∀ o,h.get? b=some o->h'.get? b=some o)->tn i h'
 item:∀ (X:Cx),X.prog=P->X.w=w->X.K=K->CM X->∀ (i:Nat) (pins:List (Addr × Obj)) (s:Shared) (σ:St) (H:Hp) (E:Value->Shared->Prop),Inv X pins σ H s->(∀ b∈fp,ib X pins H b)->tn i s.heap->J.go i H ->
  wpAny (model P w) X.A (pyNext (.ref it)) (fun r s1=>∃ u,r=some u /\
   wpAny (model P w) X.A (letOwnedTupleGo tg (.ref it) u) (fun _ s2=>∃ x H',Inv X pins σ H' s2/\RelV x u/\J.yld i H x H'/\tn (i+1) s2.heap/\∀ b∈fp,H' b=none) E s1) E s
 done:∀ (X:Cx),X.prog=P->X.w=w->X.K=K->CM X->∀ (i:Nat) (pins:List (Addr × Obj)) (s:Shared) (σ:St) (H:Hp) (E:Value->Shared->Prop),Inv X pins σ H s->(∀ b∈fp,ib X pins H b)->tn i s.heap->J.stop i H ->
  wpAny (model P w) X.A (pyNext (.ref it)) (fun r s1=>r=none/\Inv X pins σ H s1) E s
 self:∀ (A:Around) (i:Nat) (s:Shared) (Q:Value->Shared->Prop) (E:Value->Shared->Prop),tn i s.heap->Q (.ref it) s->wpAny (model P w) A (pyIter (.ref it)) Q E s
@[reducible]noncomputable def Calm:Cx->Prop:=fun X=>X.calm=true
@[reducible]noncomputable def Turn:=jY Calm
@[reducible]noncomputable def TI:=St->Hp->(It->Hp->Prop)->Prop
abbrev Bo(CM:Cx->Prop)(X:Cx)(pins:List (Addr × Obj))(σ:St)(tg:Expr)(R:It->Hp->Prop)(itv:Value)(s2:Shared):Prop :=
 ∃ (it:Addr) (fp:List Addr) (tn:Nat->Heap->Prop) (J:It) (H':Hp),itv=.ref it/\Inv X pins σ H' s2/\jY CM X.prog X.w X.K tg J fp it tn/\tn 0 s2.heap/\(∀ b∈fp,ib X pins H' b)/\R J H'
@[reducible]noncomputable def PIE:=Bo Calm
abbrev PI'(CM:Cx->Prop)(X:Cx)(tg iter:Expr)(wi:TI):Prop :=
 ∀ (pins:List (Addr × Obj)) (s:Shared) (σ:St) (H:Hp) (R:It->Hp->Prop),Inv X pins σ H s->wi σ H R ->
  wpAny (model X.prog X.w) X.A (eval iter X.env) (fun v s1=>wpAny (model X.prog X.w) X.A (pyIter v) (Bo CM X pins σ tg R) X.xe s1) X.xe s
@[reducible]noncomputable def PI:=PI' Calm
def mr(ho:s.heap.get? it=some o)(hc:o.cls=.type n)(hd:o.data=.fields vs)
 (hn:["enumerate", "zip", "dict_itemiterator", "dict_reverseitemiterator", "odict_iterator", "itertools.zip_longest", "itertools.pairwise"].contains n=false)(hQ:Q () s):wpAny M A (letOwnedTupleGo tg (.ref it) u) Q E s:=by
 unfold letOwnedTupleGo
 cases tg<;>first
  | exact wpAny_pure hQ
  | (cases u<;>first
    | exact wpAny_pure hQ
    | (refine wpAny_bind (wpAny_load ho ?_)
       rw[hc,hd];show wpAny M A (if(["enumerate", "zip", "dict_itemiterator", "dict_reverseitemiterator", "odict_iterator", "itertools.zip_longest", "itertools.pairwise"].contains n&&vs[0]? == some (rawInt _))=true then _ else _) Q E s;rw[if_neg (by intro h;rw[hn,Bool.false_and]at h;cases h)]
       exact wpAny_pure hQ))
abbrev Itl(K:PySem.W.Frag)(a:Addr):It :=
 ⟨fun i H=>∃ xs x,SqL K H a xs/\xs[i]?=some x,fun i H x H'=>H'=H/\∀ xs,SqL K H a xs->xs[i]?=some x,fun i H=>∃ xs,SqL K H a xs/\xs.length<=i⟩
abbrev Itt(K:PySem.W.Frag)(a:Addr):It :=
 ⟨fun i H=>∃ xs x,SqT K H a xs/\xs[i]?=some x,fun i H x H'=>H'=H/\∀ xs,SqT K H a xs->xs[i]?=some x,fun i H=>∃ xs,SqT K H a xs/\xs.length<=i⟩
abbrev Itr(lo:Int)(n:Nat):It:=⟨fun i _=>i<n,fun i H x H'=>H'=H/\x=.int (lo+i),fun i _=>n<=i⟩
def sC{P:Program}{w:World}{K:PySem.W.Frag}(a it:Addr):Turn P w K tg (Itl K a) [it] it (fun i h=>h.IsListIter it a i) where
 mem:=by simp
 obj:=fun i h st b hb=>by
  have e:b=it:=by simpa using hb
  subst e;obtain⟨o,e,c,d⟩:=st;exact⟨o,e,fun v z=>by rw[d]at z;cases z⟩
 keep:=fun i h h' st k=>st.at fun o e=>k it (by simp) o e
 item:=by
  intro X hP hw hK hc i pins s σ H E I hf st hg;subst hP hw hK;obtain⟨xs,x,hq,hx⟩:=hg;obtain⟨its,rv,p,hz⟩:=I.list hq;obtain⟨u,hu,ru⟩:=rv.get hx;obtain⟨f0,f1,f2,f3,f4,f5⟩:=hf it (by simp);refine wpAny_pyNext_list_item st p.isList (x:=u) (by simpa using hu) fun h' st' sb=>?_;have I1:Inv X pins σ H { s with heap:=h' }:=I.turned (t':=s.toks) (fun b o hb e=>(sb.2 b hb).trans e) f0 f1 f3 f4 f5;obtain⟨o,e,c,d⟩:=id st';exact⟨u,rfl,mr (s:={ s with heap:=h' }) e c d (by decide) ⟨x,H,I1,ru,⟨rfl,fun ys hy=>by rw[I.vL hy hq];exact hx⟩,st',fun b hb=>(hf b hb).1⟩⟩
 done:=by
  intro X hP hw hK hc i pins s σ H E I hf st hg;subst hP hw hK;obtain⟨xs,hq,hx⟩:=hg;obtain⟨its,rv,p,hz⟩:=I.list hq;obtain⟨f0,f1,f2,f3,f4,f5⟩:=hf it (by simp);have hl:=rv.length
  exact wpAny_pyNext_list_end (I.ok.hd.1 hc) st p.isList (by simp;omega) fun h' eb=>⟨rfl,I.turned (t':=s.toks) (fun b o hb e=>eb b o hb e) f0 f1 f3 f4 f5⟩
 self:=fun _ _ _ _ _ st h=>wpAny_pyIter_listiter st h
def qC{P:Program}{w:World}{K:PySem.W.Frag}(a it:Addr):Turn P w K tg (Itt K a) [it] it (fun i h=>h.IsTupleIter it a i) where
 mem:=by simp
 obj:=fun i h st b hb=>by
  have e:b=it:=by simpa using hb
  subst e;obtain⟨o,e,c,d⟩:=st;exact⟨o,e,fun v z=>by rw[d]at z;cases z⟩
 keep:=fun i h h' st k=>st.at fun o e=>k it (by simp) o e
 item:=by
  intro X hP hw hK hc i pins s σ H E I hf st hg;subst hP hw hK;obtain⟨xs,x,hq,hx⟩:=hg;obtain⟨its,rv,p,hz⟩:=I.tuple hq;obtain⟨u,hu,ru⟩:=rv.get hx;obtain⟨f0,f1,f2,f3,f4,f5⟩:=hf it (by simp);refine wpAny_pyNext_tuple_item st (show s.heap.IsTuple a its.toArray from p) (x:=u) (by simpa using hu) fun h' st' sb=>?_;have I1:Inv X pins σ H { s with heap:=h' }:=I.turned (t':=s.toks) (fun b o hb e=>(sb.2 b hb).trans e) f0 f1 f3 f4 f5;obtain⟨o,e,c,d⟩:=id st';exact⟨u,rfl,mr (s:={ s with heap:=h' }) e c d (by decide) ⟨x,H,I1,ru,⟨rfl,fun ys hy=>by rw[I.sg hy hq];exact hx⟩,st',fun b hb=>(hf b hb).1⟩⟩
 done:=by
  intro X hP hw hK hc i pins s σ H E I hf st hg;subst hP hw hK;obtain⟨xs,hq,hx⟩:=hg;obtain⟨its,rv,p,hz⟩:=I.tuple hq;obtain⟨f0,f1,f2,f3,f4,f5⟩:=hf it (by simp);have hl:=rv.length
  exact wpAny_pyNext_tuple_end (I.ok.hd.1 hc) st (show s.heap.IsTuple a its.toArray from p) (by simp;omega) fun h' eb=>⟨rfl,I.turned (t':=s.toks) (fun b o hb e=>eb b o hb e) f0 f1 f3 f4 f5⟩
 self:=fun _ _ _ _ _ st h=>wpAny_pyIter_tupleiter st h
def qL{P:Program}{w:World}{K:PySem.W.Frag}(it:Addr)(lo:Int)(n:Nat):Turn P w K tg (Itr lo n) [it] it (fun i h=>IsRangeIter h it (lo+(i:Nat)*1) ((n:Int)-(i:Nat)) 1) where
 mem:=by simp
 obj:=fun i h st b hb=>by
  have e:b=it:=by simpa using hb
  subst e
  exact⟨_,st,fun v z=>by
   have z':Data.fields _=Data.cell v:=z
   cases z'⟩
 keep:=fun i h h' st k=>k it (by simp) _ st
 item:=by
  intro X hP hw hK hc i pins s σ H E I hf st hg;subst hP hw hK;obtain⟨f0,f1,f2,f3,f4,f5⟩:=hf it (by simp);have W:=Walks.range (prog:=X.prog) (w:=X.w) (I.ok.hd.1 hc) it lo 1 n;refine W.item i s _ _ hg st fun v h' tk hv st' kk=>?_;obtain⟨t,rfl⟩:=hv;have I1:Inv X pins σ H { s with heap:=h',toks:=tk }:=I.turned (fun b o hb e=>kk b o (by simpa using hb) e) f0 f1 f3 f4 f5;refine⟨_,rfl,mr (s:={ s with heap:=h',toks:=tk }) (n := "range_iterator") st' rfl rfl (by decide) ⟨.int (lo+i),H,I1,⟨t,?_⟩,⟨rfl,rfl⟩,st',fun b hb=>(hf b hb).1⟩⟩;rw[Int.mul_one]
 done:=by
  intro X hP hw hK hc i pins s σ H E I hf st hg;subst hP hw hK;obtain⟨f0,f1,f2,f3,f4,f5⟩:=hf it (by simp)
  exact wpAny_pyNext_range_end (I.ok.hd.1 hc) st (by have:n<=i:=hg;omega) fun h' eb=>⟨rfl,I.turned (t':=s.toks) (fun b o hb e=>eb b o hb e) f0 f1 f3 f4 f5⟩
 self:=fun _ _ _ _ _ st h=>wpAny_pyIter_rangeiter st h
section
variable{X:Cx}{tg:Expr}
def vf{pins:List (Addr × Obj)}{σ:St}{H:Hp}{s:Shared}{R:It->Hp->Prop}{E:Value->Shared->Prop}{lo hi:Int}{t u v:Tok}{tk:Nat}(I:Inv X pins σ H s)(h1:-(2 ^ 62)<=lo)(h2:lo<2 ^ 62)(h3:-(2 ^ 62)<=hi)(h4:hi<2 ^ 62)
 (q:R (Itr lo (hi-lo).toNat) H):wpAny (model X.prog X.w) X.A (pyIter (.ref s.heap.objs.size)) (PIE X pins σ tg R) E { s with heap:=s.heap.push { cls:=.type "range",data:=.fields #[.int lo t,.int hi u,.int 1 v] },toks:=tk }:=by
 refine wpAny_pyIter_range (IsRange.new ..) (small_one h1 h2 h3 h4) ?_;have I1:Inv X pins σ H { s with heap:=s.heap.push { cls:=.type "range",data:=.fields #[.int lo t,.int hi u,.int 1 v] },toks:=tk }:=I.kept fun b o e=>Heap.get?_push_of_some _ e
 refine⟨(s.heap.push { cls:=.type "range",data:=.fields #[.int lo t,.int hi u,.int 1 v] }).objs.size,[(s.heap.push { cls:=.type "range",data:=.fields #[.int lo t,.int hi u,.int 1 v] }).objs.size],_,_,H,rfl,
  I1.kept (t':=tk) fun b o e=>Heap.get?_push_of_some _ e,qL _ lo (hi-lo).toNat,?_,fun b hb=>?_,q⟩
 ·have e1:lo+((0:Nat):Int)*1=lo:=by simp
  have e2:(((hi-lo).toNat:Nat):Int)-((0:Nat):Int)=Builtin.Range.rangeSize lo hi 1:=by rw[rangeSize_one];split<;>omega
  show IsRangeIter _ _ (lo+((0:Nat):Int)*1) ((((hi-lo).toNat:Nat):Int)-((0:Nat):Int)) 1;rw[e1,e2];exact Heap.get?_push_size _ rfl
 ·have e:b=(s.heap.push { cls:=.type "range",data:=.fields #[.int lo t,.int hi u,.int 1 v] }).objs.size:=by simpa using hb
  subst e;exact I1.lb (Nat.le_refl _) (I1.hok.fresh (Nat.le_refl _))
abbrev BX(ta:TA):TI:=fun σ H R=>ta σ H fun vs H1=>∃ j:Int,vs=[.int j]/\-(2 ^ 62)<=j/\j<2 ^ 62/\R (Itr 0 j.toNat) H1
def rV{a:Expr}{ta:TA}{p pos:Pos}(hg:Gl X "range")(hm:X.mg "range" = none)(ha:PA X [a] ta)(hs:starEach [a] X.env=[(false,eval a X.env)]):PI X tg (.Call (.Name "range" p) [a] [] pos) (BX ta):=by
 intro pins s σ H R I h;refine Call_ (gR I hg hm boot_range (PyProof.Rows.callWith_type1 (thn (ha pos pins s σ H _ I h) fun us s1 ⟨vs,H1,I1,r1,q1⟩=>?_) hs rfl) (by decide) (by decide));obtain⟨j,e,q1,q2,q⟩:=q1;subst e
 cases r1 with
 |cons r rr=>
  cases rr;obtain⟨t,rfl⟩:=r;exact call_range_1 (vf I1 (by omega) (by omega) q1 q2 (by simpa using q))
abbrev Dm(wi:TI)(g:TG)(tb:TS):TS:=fun D σ H=>wi σ H fun J H1=>∃ W:Nat->Nat->St->Hp->Prop,(∃ m,W 0 m σ H1)/\∀ i m σ H,W i m σ H ->
 (J.stop i H/\D.nx σ H)\/(J.go i H/\∃ N:St->Hp->Prop,(∀ σ' H',N σ' H'->∃ m',m'<m/\W (i+1) m' σ' H')/\∀ x H',J.yld i H x H'->g x σ H' fun σ2 H2=>tb { D with nx:=N,ct:=N,bk:=D.nx } σ2 H2)
abbrev iQ(fp:List Addr)(h:Heap):List (Addr × Obj):=fp.filterMap fun b=>(h.get? b).map fun o=>(b,o)
def fw(hb:b∈fp)(e:h.get? b=some o):(b,o)∈iQ fp h:=List.mem_filterMap.mpr ⟨b,hb,by rw[e];rfl⟩
def tR(hp:p∈iQ fp h):p.1∈fp/\h.get? p.1=some p.2:=by
 obtain⟨b,hb,e⟩:=List.mem_filterMap.mp hp
 cases q:h.get? b with
 | none=>rw[q]at e;cases e
 |some o=>
  rw[q]at e;have e':(b,o)=p:=Option.some.inj e;subst e';exact⟨hb,q⟩
def Inv.pinned(I:Inv X pins σ H s)(hf:∀ b∈fp,ib X pins H b)(ho:∀ b∈fp,∃ o,s.heap.get? b=some o/\∀ v,o.data≠.cell v):Inv X (pins++iQ fp s.heap) σ H s :=
 I.pQ fun p hp=>(List.mem_append.mp hp).elim (fun z=>I.pin p (List.mem_append_right _ z)) fun z=>by
  obtain⟨hb,e⟩:=tR z;obtain⟨f0,f1,f2,_⟩:=hf p.1 hb;obtain⟨o,e',d⟩:=ho p.1 hb;rw[e]at e';cases e';exact⟨e,f0,f1,f2,d⟩
def Inv.hW(I:Inv X (pins++pl) σ H s):Inv X pins σ H s:=I.pQ fun p hp=>I.pin p (List.mem_append_right _ (List.mem_append_left _ hp))
def sE(hp:PassesOwn (model X.prog X.w) X.A X.env X.xe)(hc:X.calm=true)(hi:PI X tg iter wi)(hg:PG X tg g)(hb:PSs X body tb)
 (hs:∀ x,foldedSetIterable iter X.env x=pure x):PS X (.For tg iter body [] pos) (Dm wi g tb):=by
 intro pins s σ H D I h;refine wpAny_For (thn (hi pins s σ H _ I h) fun v s1 h1=>thn h1 fun itv s2 h2=>?_) hs;obtain⟨it,fp,tn,J,H2,e,I2,T,st2,f2,W,⟨m0,w0⟩,turn⟩:=h2;subst e
 have stat:∀ {H':Hp},(∀ b∈fp,H' b=none)->∀ b∈fp,ib X pins H' b:=fun hn b hb=>⟨hn b hb,(f2 b hb).2⟩
 refine codeAny_forLoop_any (fun n s'=>∃ i σ' H',Inv X pins σ' H' s'/\tn i s'.heap/\(∀ b∈fp,H' b=none)/\W i n σ' H') ?_ m0 ⟨0,σ,H2,I2,st2,fun b hb=>(f2 b hb).1,w0⟩;rintro n s3 ⟨i,σ3,H3,I3,st3,fr3,w3⟩
 rcases turn i n σ3 H3 w3 with⟨stop,qn⟩ | ⟨go,N,hN,step⟩
 ·refine wpAny_passesOwn hp (thn (T.done X rfl rfl rfl hc i pins s3 σ3 H3 X.xe I3 (stat fr3) st3 stop) fun r s4 ⟨hr,I4⟩=>?_);subst hr;exact wpAny_execs_nil ⟨σ3,H3,I4,qn⟩
 ·refine wpAny_passesOwn hp (thn (T.item X rfl rfl rfl hc i pins s3 σ3 H3 X.xe I3 (stat fr3) st3 go) fun r s4 ⟨u,hr,h4⟩=>?_);subst hr;refine wpAny_passesOwn hp (thn h4 fun _ s5 ⟨x,H5,I5,r5,y5,st5,fr5⟩=>?_);have I5':=I5.pinned (stat fr5) (T.obj _ _ st5);refine wpAny_passesOwn hp (thn (hg _ s5 σ3 H5 x u _ I5' r5 (step x H5 y5)) fun _ s6 ⟨σ6,H6,I6,q6⟩=>?_);refine wpAny_passesOwn hp (thn (hb _ s6 σ6 H6 _ I6 q6) fun f s7 q7=>?_)
  have again:∀ {σ7:St} {H7:Hp},Inv X (pins++iQ fp s5.heap) σ7 H7 s7->N σ7 H7->∃ m,m<n/\∃ i σ' H',Inv X pins σ' H' s7/\tn i s7.heap/\(∀ b∈fp,H' b=none)/\W i m σ' H':=fun {σ7 H7} I7 n7=>by
   obtain⟨m',hm,w7⟩:=hN σ7 H7 n7;refine⟨m',hm,i+1,σ7,H7,I7.hW,T.keep _ _ _ st5 fun b hb o e=>(I7.pin (b,o) (List.mem_append_right _ (List.mem_append_right _ (fw hb e)))).1,fun b hb=>?_,w7⟩;obtain⟨o,e,d⟩:=T.obj _ _ st5 b hb;exact(I7.pin (b,o) (List.mem_append_right _ (List.mem_append_right _ (fw hb e)))).2.1
  cases f with
  | next=>obtain⟨σ7,H7,I7,n7⟩:=q7;exact again I7 n7
  | cont=>obtain⟨σ7,H7,I7,n7⟩:=q7;exact again I7 n7
  | brk=>obtain⟨σ7,H7,I7,q7⟩:=q7;exact⟨σ7,H7,I7.hW,q7⟩
  | ret v=>obtain⟨x7,σ7,H7,I7,r7,q7⟩:=q7;exact⟨x7,σ7,H7,I7.hW,r7,q7⟩
end
@[reducible]noncomputable def R2:=V->V->Hp->VK->Prop
abbrev OpR(X:Cx)(f:Value->Value->Sem Value)(r:R2):Prop :=
 ∀ (pins:List (Addr × Obj)) (s:Shared) (σ:St) (H:Hp) (x y:V) (v u:Value) (Q:VK),Inv X pins σ H s->RelV x v->RelV y u->r x y H Q ->
  wpAny (model X.prog X.w) X.A (f v u) (EP X pins σ Q) X.xe s
abbrev UnR(X:Cx)(f:Value->Sem Value)(r:V->Hp->VK->Prop):Prop :=
 ∀ (pins:List (Addr × Obj)) (s:Shared) (σ:St) (H:Hp) (x:V) (v:Value) (Q:VK),Inv X pins σ H s->RelV x v->r x H Q ->
  wpAny (model X.prog X.w) X.A (f v) (EP X pins σ Q) X.xe s
abbrev bC(X:Cx)(f:Value)(r:List V->Hp->VK->Prop):Prop :=
 ∀ (pins:List (Addr × Obj)) (s:Shared) (σ:St) (H:Hp) (xs:List V) (us:List Value) (Q:VK),Inv X pins σ H s->Vals xs us->r xs H Q ->
  wpAny (model X.prog X.w) X.A (call f us) (EP X pins σ Q) X.xe s
abbrev CZ(X:Cx)(r:V->Hp->(Bool->Hp->Prop)->Prop):Prop :=
 ∀ (pins:List (Addr × Obj)) (s:Shared) (σ:St) (H:Hp) (x:V) (v:Value) (Q:Bool->Hp->Prop),Inv X pins σ H s->RelV x v->r x H Q ->
  wpAny (model X.prog X.w) X.A (truthy v) (TP X pins σ Q) X.xe s
abbrev tOp(r:R2)(ta tb:TE):TE:=fun σ H Q=>ta σ H fun x H1=>tb σ H1 fun y H2=>r x y H2 Q
abbrev tUn(r:V->Hp->VK->Prop)(ta:TE):TE:=fun σ H Q=>ta σ H fun x H1=>r x H1 Q
abbrev rI(C:Int->Int->Prop)(g:Int->Int->V):R2:=fun x y H Q=>∃ i j,x=.int i/\y=.int j/\C i j/\Q (g i j) H
abbrev rI0(g:Int->Int->V):R2:=fun x y H Q=>∃ i j,x=.int i/\y=.int j/\Q (g i j) H
abbrev rU(g:Int->V):V->Hp->VK->Prop:=fun x H Q=>∃ i,x=.int i/\Q (g i) H
section
variable{X:Cx}{a b c:Expr}{ta tb tc:TE}{pos:Pos}
def uW(ha:PE X a ta)(hb:PE X b tb){pins:List (Addr × Obj)}{s:Shared}{σ:St}{H:Hp}{R:V->V->Hp->Prop}(I:Inv X pins σ H s)
 (h:ta σ H fun x H1=>tb σ H1 fun y H2=>R x y H2){Q:Value->Shared->Prop}{f:Value->Value->Sem Value}
 (hf:∀ v u s2 x y H2,Inv X pins σ H2 s2->RelV x v->RelV y u->R x y H2->wpAny (model X.prog X.w) X.A (f v u) Q X.xe s2) :
  wpAny (model X.prog X.w) X.A (eval a X.env) (fun v s₁=>wpAny (model X.prog X.w) X.A (eval b X.env) (fun u s₂=>wpAny (model X.prog X.w) X.A (f v u) Q X.xe s₂) X.xe s₁) X.xe s:=by
 refine thn (ha pins s σ H _ I h) fun v s1 ⟨x,H1,I1,r1,q1⟩=>?_;refine thn (hb pins s1 σ H1 _ I1 q1) fun u s2 ⟨y,H2,I2,r2,q2⟩=>?_;exact hf v u s2 x y H2 I2 r1 r2 q2
def xc{op:Operator}{r:R2}(ho:OpR X (binaryOp op) r)(ha:PE X a ta)(hb:PE X b tb):PE X (.BinOp a op b pos) (tOp r ta tb):=by
 intro pins s σ H Q I h;exact wpAny_BinOp (uW ha hb I h fun v u s2 x y H2 I2 rx ry q=>ho pins s2 σ H2 x y v u Q I2 rx ry q)
def wG(ho:UnR X (unaryOp op) r)(ha:PE X a ta):PE X (.UnaryOp op a pos) (tUn r ta):=by
 intro pins s σ H Q I h;exact UnaryOp_ (thn (ha pins s σ H _ I h) fun v s1 ⟨x,H1,I1,r1,q1⟩=>ho pins s1 σ H1 x v Q I1 r1 q1)
def opI{f:Value->Value->Sem Value}{C:Int->Int->Prop}{g:Int->Int->Int}
 (rule:∀ (i j:Int) (t u:Tok) (s:Shared) (Q:Value->Shared->Prop) (E:Value->Shared->Prop),C i j->Q (.int (g i j) s.toks) { s with toks:=s.toks+1 }->wpAny (model X.prog X.w) X.A (f (.int i t) (.int j u)) Q E s) :
  OpR X f (rI C fun i j=>.int (g i j)):=by
 intro pins s σ H x y v u Q I rx ry h;obtain⟨i,j,rfl,rfl,hc,q⟩:=h;obtain⟨t,rfl⟩:=rx;obtain⟨t',rfl⟩:=ry;exact rule i j t t' s _ _ hc ⟨.int (g i j),H,I.tok _,⟨_,rfl⟩,q⟩
def AO{f:Value->Value->Sem Value}{g:Int->Int->Int}
 (rule:∀ (i j:Int) (t u:Tok) (s:Shared) (Q:Value->Shared->Prop) (E:Value->Shared->Prop),Q (.int (g i j) s.toks) { s with toks:=s.toks+1 }->wpAny (model X.prog X.w) X.A (f (.int i t) (.int j u)) Q E s) :
  OpR X f (rI0 fun i j=>.int (g i j)):=by
 intro pins s σ H x y v u Q I rx ry h;obtain⟨i,j,rfl,rfl,q⟩:=h;obtain⟨t,rfl⟩:=rx;obtain⟨t',rfl⟩:=ry;exact rule i j t t' s _ _ ⟨.int (g i j),H,I.tok _,⟨_,rfl⟩,q⟩
abbrev BA(i j:Int):Prop:=0<=j/\j<=1000000/\i.natAbs<2 ^ 64
abbrev qB(i j:Int):Prop:=(-(2 ^ 64)<i/\i<2 ^ 64)\/(-(2 ^ 64)<j/\j<2 ^ 64)
def qB.ok(h:qB i j):IntMulOk i j:=by
 rcases h with⟨h1,h2⟩ | ⟨h1,h2⟩
 ·exact .of_left (intBits_le_64 h1 h2)
 ·exact .of_right (intBits_le_64 h1 h2)
def BE:OpR X (binaryOp .Add) (rI0 fun i j=>.int (i+j)):=AO fun _ _ _ _ _ _ _ q=>add_int q
def zF:OpR X (binaryOp .Sub) (rI0 fun i j=>.int (i-j)):=AO fun _ _ _ _ _ _ _ q=>sub_int q
def Ah:OpR X (binaryOp .Mult) (rI qB fun i j=>.int (i*j)):=opI fun _ _ _ _ _ _ _ hc q=>mul_int q hc.ok
def BH:OpR X (binaryOp .Mod) (rI (fun _ j=>0<j) fun i j=>.int (i%j)):=opI fun i j _ _ _ _ _ hc q=>by
 have h1:(0:Int)<j:=hc;exact mod_int' (by omega) (by rw[Int.fmod_eq_emod_of_nonneg i (by omega)];exact q)
def Bd:OpR X (binaryOp .Pow) (rI BA fun i j=>.int (i ^ j.toNat)):=opI fun _ _ _ _ _ _ _ hc q=>pow_int_small hc.1 hc.2.1 hc.2.2 q
def unI{f:Value->Sem Value}{g:Int->Int}
 (rule:∀ (i:Int) (t:Tok) (s:Shared) (Q:Value->Shared->Prop) (E:Value->Shared->Prop),Q (.int (g i) s.toks) { s with toks:=s.toks+1 }->wpAny (model X.prog X.w) X.A (f (.int i t)) Q E s) :
  UnR X f (rU fun i=>.int (g i)):=by
 intro pins s σ H x v Q I rx h;obtain⟨i,rfl,q⟩:=h;obtain⟨t,rfl⟩:=rx;exact rule i t s _ _ ⟨.int (g i),H,I.tok _,⟨_,rfl⟩,q⟩
def tM:UnR X (unaryOp .USub) (rU fun i=>.int (-i)):=unI fun _ _ _ _ _ q=>neg_int q
end
section
variable{X:Cx}{a b c:Expr}{ta tb tc:TE}{pos:Pos}
def tX(I:Inv X pins σ H s)(q:Q (.bl k) H)(e:k=k'):EP X pins σ Q (.bool k') s:=by
 subst e;exact⟨.bl k,H,I,rfl,q⟩
def Bn:OpR X (compareOp .Is) (fun x y H Q=>y=.non/\Q (.bl (decide (x=.non))) H):=by
 intro pins s σ H x y v u Q I rx ry h;obtain⟨rfl,q⟩:=h;cases ry;refine is_none_gen (tX I q ?_)
 cases x<;>first
  | (cases rx;rfl)
  | (obtain⟨t,rfl⟩:=rx;rfl)
def xr:OpR X (compareOp .IsNot) (fun x y H Q=>y=.non/\Q (.bl (!decide (x=.non))) H):=by
 intro pins s σ H x y v u Q I rx ry h;obtain⟨rfl,q⟩:=h;cases ry;refine isnot_none_gen (tX I q ?_)
 cases x<;>first
  | (cases rx;rfl)
  | (obtain⟨t,rfl⟩:=rx;rfl)
def OpR.or(h:OpR X f r)(h':OpR X f r'):OpR X f (fun x y H Q=>r x y H Q\/r' x y H Q):=by
 intro pins s σ H x y v u Q I rx ry q;rcases q with q | q
 ·exact h pins s σ H x y v u Q I rx ry q
 ·exact h' pins s σ H x y v u Q I rx ry q
def tZ(b:Expr)(h:op≠.In)(h2:op≠.NotIn):behindInMarks op b=false:=by
 have e1:(op == CmpOp.In)=false:=by cases op<;>first | rfl | exact absurd rfl h
 have e2:(op == CmpOp.NotIn)=false:=by cases op<;>first | rfl | exact absurd rfl h2
 cases b<;>simp[behindInMarks,e1,e2]
def kM{op:CmpOp}{r:R2}(ho:OpR X (compareOp op) r)(ha:PE X a ta)(hb:PE X b tb)(hm:behindInMarks op b=false):PE X (.Compare a [op] [b] pos) (tOp r ta tb):=by
 intro pins s σ H Q I h;exact wpAny_Compare1 (uW ha hb I h fun v u s2 x y H2 I2 rx ry q=>ho pins s2 σ H2 x y v u Q I2 rx ry q) hm
abbrev wU(t:TE):TT:=fun σ H Q=>t σ H fun x H'=>∃ k,x=.bl k/\Q k H'
def kR(ho:OpR X (compareOp op) r)(ha:PE X a ta)(hb:PE X b tb)(hm:behindInMarks op b=false):PT X (.Compare a [op] [b] pos) (wU (tOp r ta tb)):=by
 intro pins s σ H Q I h
 refine wpAny_isTrue_Compare1 (thn (ha pins s σ H _ I h) fun v s1 ⟨x,H1,I1,r1,q1⟩=>thn (hb pins s1 σ H1 _ I1 q1) fun u s2 ⟨y,H2,I2,r2,q2⟩ =>
  thn (ho pins s2 σ H2 x y v u _ I2 r1 r2 q2) fun c s3 ⟨z,H3,I3,r3,k,e,q3⟩=>?_) hm
 subst e;cases r3;exact wpAny_truthy_bool ⟨H3,I3,q3⟩
abbrev mS(r r':R2)(ta tb tc:TE):TE:=fun σ H Q=>ta σ H fun x H1=>tb σ H1 fun y H2=>r x y H2 fun z H3=>∃ k,z=.bl k /\
 (if k=true then tc σ H3 fun w' H4=>r' y w' H4 Q else Q (.bl false) H3)
def uX(ho:OpR X (compareOp op) r)(ho':OpR X (compareOp op') r')(ha:PE X a ta)(hb:PE X b tb)(hc:PE X c tc)
 (hm:lastMarks [op,op'] [b,c]=false):PE X (.Compare a [op,op'] [b,c] pos) (mS r r' ta tb tc):=by
 intro pins s σ H Q I h
 refine Compare_chain (thn (ha pins s σ H _ I h) fun v s1 ⟨x,H1,I1,r1,q1⟩=>chain_link (thn (hb pins s1 σ H1 _ I1 q1) fun u s2 ⟨y,H2,I2,r2,q2⟩ =>
  thn (ho pins s2 σ H2 x y v u _ I2 r1 r2 q2) fun d s3 ⟨z,H3,I3,r3,k,e,q3⟩=>?_)) hm
 subst e;cases r3;refine wpAny_truthy_bool ?_
 cases k with
 | false=>exact ite_ff ⟨.bl false,H3,I3,rfl,q3⟩
 | true=>exact ite_tt (chain_last (thn (hc pins s3 σ H3 _ I3 q3) fun w' s4 ⟨z',H4,I4,r4,q4⟩=>ho' pins s4 σ H4 y z' u w' Q I4 r2 r4 q4))
def uP(ho:OpR X (compareOp op) r)(ho':OpR X (compareOp op') r')(ha:PE X a ta)(hb:PE X b tb)(hc:PE X c tc)
 (hm:lastMarks [op,op'] [b,c]=false):PT X (.Compare a [op,op'] [b,c] pos) (wU (mS r r' ta tb tc)):=by
 intro pins s σ H Q I h
 refine isTrue_chain (thn (ha pins s σ H _ I h) fun v s1 ⟨x,H1,I1,r1,q1⟩=>test_link (thn (hb pins s1 σ H1 _ I1 q1) fun u s2 ⟨y,H2,I2,r2,q2⟩ =>
  thn (ho pins s2 σ H2 x y v u _ I2 r1 r2 q2) fun d s3 ⟨z,H3,I3,r3,k,e,q3⟩=>?_)) hm
 subst e;cases r3;refine wpAny_truthy_bool ?_
 cases k with
 |false=>
  obtain⟨k',e',q'⟩:=q3;cases e';exact ite_ff ⟨H3,I3,q'⟩
 |true=>
  refine ite_tt (test_last (thn (hc pins s3 σ H3 _ I3 q3) fun w' s4 ⟨z',H4,I4,r4,q4⟩=>thn (ho' pins s4 σ H4 y z' u w' _ I4 r2 r4 q4) fun d' s5 ⟨z2,H5,I5,r5,k2,e2,q5⟩=>?_));subst e2;cases r5;exact wpAny_truthy_bool ⟨H5,I5,q5⟩
abbrev qk(K:PySem.W.Frag)(x:V)(H:Hp)(k:Bool):Prop :=
 match x with
 | .non=>k=false
 | .bl b=>k=b
 | .int i=>k=(i != 0)
 | .str y=>y.length<=sizeLine/\k=((y.length:Int) != 0)
 | .byt y=>y.size<=sizeLine/\k=((y.size:Int) != 0)
 | .ref p=>(∃ xs,SqL K H p xs/\k=!xs.isEmpty)\/(∃ xs,SqT K H p xs/\k=!xs.isEmpty)\/∃ kvs,H p=some (.dK kvs)/\k=!kvs.isEmpty
 | _=>False
def rf(r:KV kvs vs):(!vs.isEmpty)=!kvs.isEmpty:=by
 cases r<;>rfl
def jQ(r:Vals xs its):(!its.toArray.isEmpty)=!xs.isEmpty:=by
 cases r<;>simp
def iT:(sizeLine:Nat)<2 ^ 63:=by rw[sizeLine_eq];decide
def sW:CZ X (fun x H Q=>∃ k,qk X.K x H k/\Q k H):=by
 intro pins s σ H x v Q I rx h;obtain⟨k,e,q⟩:=h;have hl:=iT;have hs:sizeLine=16777216:=sizeLine_eq
 cases x with
 |non=>
  cases rx;have e':k=false:=e;subst e';exact truthy_none ⟨H,I,q⟩
 |bl b=>
  cases rx;have e':k=b:=e;subst e';exact wpAny_truthy_bool ⟨H,I,q⟩
 |int i=>
  obtain⟨t,rfl⟩:=rx;have e':k=(i != 0):=e;subst e';exact PySem.P.truthy_int ⟨H,I,q⟩
 |str y=>
  obtain⟨t,rfl⟩:=rx;obtain⟨hy,e'⟩:y.length<=sizeLine/\k=((y.length:Int) != 0):=e;subst e';exact PySem.P.truthy_str (by omega) ⟨H,I.tok _,q⟩
 |byt y=>
  obtain⟨t,rfl⟩:=rx;obtain⟨hy,e'⟩:y.size<=sizeLine/\k=((y.size:Int) != 0):=e;subst e';exact PySem.W.truthy_bytes (by omega) ⟨H,I.tok _,q⟩
 |ref p=>
  cases rx;have e':(∃ xs,SqL X.K H p xs/\k=!xs.isEmpty)\/(∃ xs,SqT X.K H p xs/\k=!xs.isEmpty)\/∃ kvs,H p=some (.dK kvs)/\k=!kvs.isEmpty:=e
  rcases e' with⟨xs,hx,e'⟩ | ⟨xs,hx,e'⟩ | ⟨kvs,hx,e'⟩
  ·subst e';obtain⟨its,r,pl,hz⟩:=I.list hx;have hlen:=r.length;exact wpAny_truthy_list pl.isList (by simp only[List.size_toArray];omega) ⟨H,I.tok _,by rw[jQ r];exact q⟩
  ·subst e';obtain⟨its,r,pl,hz⟩:=I.tuple hx;have hlen:=r.length;exact truthy_tuple pl (by simp only[List.size_toArray];omega) ⟨H,I.tok _,by rw[jQ r];exact q⟩
  ·subst e';obtain⟨hz,hS,vs,r,m⟩:kvs.length<=sizeLine/\(p == sysModules)=false/\∃ vs,KV kvs vs/\s.heap.DictOf (bp X.prog X.w) p vs:=I.hok p _ hx;have hlen:kvs.length=vs.length:=Paired.length r;exact wpAny_truthy_dict hS m (by omega) ⟨H,I.tok _,by rw[rf r];exact q⟩
 | _=>exact(show False from e).elim
def vU(ha:PE X a ta)(he:∀ whole,isTrue a X.env whole=(do let v <- whole;standAt a.pos;holding [v] (truthy v))) :
  PT X a (fun σ H Q=>ta σ H fun x H'=>∃ k,qk X.K x H' k/\Q k H'):=by
 intro pins s σ H Q I h;exact isTrue_plain (thn (ha pins s σ H _ I h) fun v s1 ⟨x,H1,I1,r1,q1⟩=>sW pins s1 σ H1 x v Q I1 r1 q1) (he _)
def qS:OpR X (binaryOp .Add) (fun x y H Q=>∃ i j,x=.str i/\y=.str j/\i.length+j.length<=sizeLine/\Q (.str (i++j)) H):=by
 intro pins s σ H x y v u Q I rx ry h;obtain⟨i,j,rfl,rfl,hz,q⟩:=h;obtain⟨t,rfl⟩:=rx;obtain⟨t',rfl⟩:=ry;exact add_str (fun t' tk=>⟨.str (i++j),H,I.tok _,⟨_,rfl⟩,q⟩) hz
def vals1(r:Vals [x] us):∃ u,us=[u]/\RelV x u:=by
 cases r with
 | cons r1 r2=>cases r2;exact⟨_,rfl,r1⟩
def vals2(r:Vals [x,y] us):∃ u w',us=[u,w']/\RelV x u/\RelV y w':=by
 cases r with
 |cons r1 r2=>
  cases r2 with
  | cons r3 r4=>cases r4;exact⟨_,_,rfl,r1,r3⟩
def vq:bC X (.builtin "abs") (fun xs H Q=>∃ i,xs=[.int i]/\Q (.int (if i<0 then -i else i)) H):=by
 intro pins s σ H xs us Q I r h;obtain⟨i,rfl,q⟩:=h;obtain⟨u,rfl,t,rfl⟩:=vals1 r
 exact call_abs_int fun u tk=>⟨.int (if i<0 then -i else i),H,I.tok _,⟨_,rfl⟩,q⟩
def sQ(hc:X.calm=true):bC X (.builtin "max") (fun xs H Q=>∃ i j,xs=[.int i,.int j]/\Q (.int (if j > i then j else i)) H):=by
 intro pins s σ H xs us Q I r h;obtain⟨i,j,rfl,q⟩:=h;obtain⟨u,w',rfl,⟨t,rfl⟩,⟨t',rfl⟩⟩:=vals2 r
 refine max_two_ints (I.ok.hd.1 hc) fun h' tk k=>⟨_,H,I.kept k,?_,q⟩
 by_cases hj:j > i
 ·rw[if_pos hj,if_pos hj];exact⟨_,rfl⟩
 ·rw[if_neg hj,if_neg hj];exact⟨_,rfl⟩
def tD(hc:X.calm=true):bC X (.builtin "min") (fun xs H Q=>∃ i j,xs=[.int i,.int j]/\Q (.int (if j<i then j else i)) H):=by
 intro pins s σ H xs us Q I r h;obtain⟨i,j,rfl,q⟩:=h;obtain⟨u,w',rfl,⟨t,rfl⟩,⟨t',rfl⟩⟩:=vals2 r
 refine min_two_ints (I.ok.hd.1 hc) fun h' tk k=>⟨_,H,I.kept k,?_,q⟩
 by_cases hj:j<i
 ·rw[if_pos hj,if_pos hj];exact⟨_,rfl⟩
 ·rw[if_neg hj,if_neg hj];exact⟨_,rfl⟩
def sD:bC X (.type "int") (fun xs H Q=>(∃ i,xs=[.int i]/\Q (.int i) H)\/∃ k,xs=[.bl k]/\Q (.int (if k then 1 else 0)) H):=by
 intro pins s σ H xs us Q I r h
 rcases h with⟨i,rfl,q⟩ | ⟨k,rfl,q⟩
 ·obtain⟨u,rfl,t,rfl⟩:=vals1 r;exact call_int_int ⟨.int i,H,I,⟨_,rfl⟩,q⟩
 ·obtain⟨u,rfl,r1⟩:=vals1 r;cases r1;exact call_int_bool ⟨.int (if k then 1 else 0),H,I.tok _,⟨_,rfl⟩,q⟩
abbrev AN(K:PySem.W.Frag)(x:V)(H:Hp)(n:Nat):Prop :=
 match x with
 | .str y=>y.length<=sizeLine/\n=y.length
 | .byt y=>y.size<=sizeLine/\n=y.size
 | .ref p=>(∃ xs,SqL K H p xs/\n=xs.length)\/∃ xs,SqT K H p xs/\n=xs.length
 | _=>False
def vp:bC X (.builtin "len") (fun xs H Q=>∃ x n,xs=[x]/\AN X.K x H n/\Q (.int n) H):=by
 intro pins s σ H xs us Q I r h;obtain⟨x,n,rfl,e,q⟩:=h;obtain⟨u,rfl,rx⟩:=vals1 r;have hl:=iT;have hs:sizeLine=16777216:=sizeLine_eq
 cases x with
 |str y=>
  obtain⟨t,rfl⟩:=rx;obtain⟨hy,e'⟩:y.length<=sizeLine/\n=y.length:=e;subst e';exact len_str (by omega) ⟨.int _,H,I.tok _,⟨_,rfl⟩,q⟩
 |byt y=>
  obtain⟨t,rfl⟩:=rx;obtain⟨hy,e'⟩:y.size<=sizeLine/\n=y.size:=e;subst e';exact PySem.W.len_bytes (by omega) ⟨.int _,H,I.tok _,⟨_,rfl⟩,q⟩
 |ref p=>
  cases rx;have e':(∃ xs,SqL X.K H p xs/\n=xs.length)\/∃ xs,SqT X.K H p xs/\n=xs.length:=e
  rcases e' with⟨xs,hx,e'⟩ | ⟨xs,hx,e'⟩
  ·subst e';obtain⟨its,r',pl,hz⟩:=I.list hx;have hlen:=r'.length;exact Calls.call_len_list pl.isList (by simp only[List.size_toArray];omega) ⟨.int xs.length,H,I.tok _,⟨_,by simp only[List.size_toArray];rw[hlen]⟩,q⟩
  ·subst e';obtain⟨its,r',pl,hz⟩:=I.tuple hx;have hlen:=r'.length;exact len_tuple pl (by simp only[List.size_toArray];omega) ⟨.int xs.length,H,I.tok _,⟨_,by simp only[List.size_toArray];rw[hlen]⟩,q⟩
 | _=>exact(show False from e).elim
end
structure vv(h:Heap)(x dx C:Addr)(mA:Str->Option Value):Prop where
 obj:h.get? x=some (PySem.W.instObj C dx)
 ns:h.Ns1 dx mA
 ne:dx≠x
def sO{h:Heap}(n:h.Ns1 dx mA):∃ od,h.get? dx=some od/\∀ name,PySem.W.lookIn name od=some (mA name):=by
 obtain⟨o,es,ep,ho,hd,hk,_,hm⟩:=n;refine⟨o,ho,fun name=>?_⟩;have e:=hm name;unfold nsFind findBy at e;rw[<-Array.find?_toList]at e;unfold PySem.W.lookIn;rw[hd];dsimp only;split
 ·rename_i y q;rw[q]at e;exact congrArg some e
 ·rename_i q;rw[q]at e
  have a:es.toList.any (·.refKey)=false:=by
   rw[List.any_eq_false];intro y hy;obtain⟨z,t,hkey⟩:=hk y (Array.mem_toList_iff.mp hy);simp[DictEntry.refKey,hkey]
  have a':¬ es.toList.any (·.refKey)=true:=by rw[a];exact Bool.false_ne_true
  rw[if_neg a'];exact congrArg some e
def vv.look(I:vv h x dx C mA):∃ od,PySem.W.InstAt h x (PySem.W.instObj C dx) C (some od)/\∀ name,PySem.W.lookIn name od=some (mA name) :=
 let ⟨od,ho,hl⟩:=sO I.ns
 ⟨od,⟨I.obj,rfl,rfl,ho⟩,hl⟩
section
variable{prog:Program}{w:World}{A:Around}{E:Value->Shared->Prop}{s:Shared}{K:PySem.W.Frag}{x dx C f:Addr}{mA:Str->Option Value}{name:Str}{v:Value}
end
section
variable{P:Program}{w:World}{H H':Hp}{h h':Heap}{a C dx:Addr}{fs fs':List (Str × V)}
def yn(hok:HOk P w H h)(e:H a=some (.ins C dx fs)):∃ mA,vv h a dx C mA/\(∀ f,vE (fs.lookup f) (mA f))/\PySem.Within mA (fs.map (·.1))/\fs.length<=1000/\H dx=some (.own a):=by
 obtain⟨d,z,ne,ob,mA,n,r,q⟩:=(show bD P w H h a (.ins C dx fs)from hok a _ e)
 exact⟨mA,⟨ob,n,ne⟩,r,q,z,d⟩
end
structure Cls(K:PySem.W.Frag)(C:Addr):Prop where
 pg:PySem.W.plainGet K C Str.empty=true
 hd:PySem.W.hasDictIn K C=true
 po:PySem.W.plainOver K C=true
 sa:PySem.W.findIn K (.ref C) "__setattr__" = some (some (.builtin "object.__setattr__"))
def Cls.get{K:PySem.W.Frag}(c:Cls K C)(f:Str):PySem.W.plainGet K C f=true:=c.pg
section
variable{X:Cx}{pins:List (Addr × Obj)}{σ:St}{H:Hp}{s:Shared}{a C dx:Addr}{fs:List (Str × V)}{f:Str}{v:V}{A:Around}{E:Value->Shared->Prop}
def yK(hb:attributeBase e f env (eval e env)=eval e env)
 (h:wpAny (model prog w) A (eval e env) (fun o s₁=>wpAny (model prog w) A (getAttr o f true) Q E s₁) E s):wpAny (model prog w) A (eval (.Attribute e f pos) env) Q E s :=
 Attribute_any_ h (by rw[arm_eval_Attribute,hb])
end
section
variable{X:Cx}{o e value:Expr}{f:Str}{pos pos' tpos:Pos}{ta tv:TE}
end
section
variable{X:Cx}{pins:List (Addr × Obj)}{σ:St}{H:Hp}{s:Shared}{A:Around}{E:Value->Shared->Prop}{Q:Value->Shared->Prop}{c:Value}{b:Bool}
inductive dY (K:PySem.W.Frag) (H:Hp):V->Value->Prop where
 | non:dY K H .non (.type "NoneType")
 | bl (x:Bool):dY K H (.bl x) (.type "bool")
 | int (i:Int):dY K H (.int i) (.type "int")
 | str (x:Str):dY K H (.str x) (.type "str")
 | flt (x:UInt64):dY K H (.flt x) (.type "float")
 | lst {a:Addr} {xs:List V} (e:H a=some (.lst xs)):dY K H (.ref a) (.type "list")
 | frz {a:Addr} {o:Obj} {xs:List V} (e:H a=some (.frz o (.lst xs))):dY K H (.ref a) (.type "list")
 | tup {a:Addr} {xs:List V} (e:H a=some (.tup xs)):dY K H (.ref a) (.type "tuple")
 | dK {a:Addr} {kvs:List (Key × V)} (e:H a=some (.dK kvs)):dY K H (.ref a) (.type "dict")
 | dT {a:Addr} {kvs:List (List Key × V)} (e:H a=some (.dT kvs)):dY K H (.ref a) (.type "dict")
 | ins {a C dx:Addr} {fs:List (Str × V)} (e:H a=some (.ins C dx fs)) (cl:Cls K C) (ha:PySem.W.findIn K (.ref C) "__class__" = some (some (.builtin "object.__class__")))
   (hn:PySem.W.specialIn K (.builtin "object.__class__") "__get__" = some (some (.builtin "getset_descriptor.__get__"))) (htk:PySem.W.takesIn K (.builtin "object.__class__")=some true)
   (hm:PySem.W.mroIn K C (.type "object")=some true):dY K H (.ref a) (.ref C)
def rZ(I:Inv X pins σ H s)(rx:RelV x u)(ty:dY X.K H x t)(e:PySem.W.kitOne X.K t c=some b)(h:∀ tk,Q (.bool b) { s with toks:=tk }) :
  wpAny (model X.prog X.w) A (call (.builtin "isinstance") [u,c]) Q E s:=by
 cases ty with
 | non=>cases(show u=Value.none from rx);exact PySem.W.kia_one PySem.W.kitx_none I.kIn True.intro e (fun z=>nomatch z) h
 | bl y=>cases(show u=Value.bool y from rx);exact PySem.W.kia_one PySem.W.kitx_bool I.kIn True.intro e (fun z=>nomatch z) h
 | int i=>obtain⟨t,q⟩:=(show ∃ t,u=Value.int i t from rx);cases q;exact PySem.W.kia_one PySem.W.kitx_int I.kIn True.intro e (fun z=>nomatch z) h
 | str y=>obtain⟨t,q⟩:=(show ∃ t,u=Value.str y t from rx);cases q;exact PySem.W.kia_one PySem.W.kitx_str I.kIn True.intro e (fun z=>nomatch z) h
 | flt y=>obtain⟨t,q⟩:=(show ∃ t,u=Value.float y t from rx);cases q;exact PySem.W.kia_one PySem.W.kitx_float I.kIn True.intro e (fun z=>nomatch z) h
 |@lst a xs ea=>
  cases(show u=Value.ref a from rx)
  obtain⟨_,_,n,_,h1⟩:=(show bD X.prog X.w H s.heap a (.lst xs)from I.hok a _ ea)
  exact PySem.W.kia_one PySem.W.kitx_list I.kIn ⟨_,h1,rfl⟩ e (fun z=>nomatch z) h
 |@frz a ob xs ea=>
  cases(show u=Value.ref a from rx)
  obtain⟨_,_,_,n,_,h1⟩:=(show bD X.prog X.w H s.heap a (.frz ob (.lst xs))from I.hok a _ ea)
  exact PySem.W.kia_one PySem.W.kitx_list I.kIn ⟨_,h1,rfl⟩ e (fun z=>nomatch z) h
 |@tup a xs ea=>
  cases(show u=Value.ref a from rx)
  obtain⟨_,_,_,p⟩:=(show bD X.prog X.w H s.heap a (.tup xs)from I.hok a _ ea)
  obtain⟨o,h1,h2,_⟩:=p;exact PySem.W.kia_one PySem.W.kitx_tuple I.kIn ⟨o,h1,h2⟩ e (fun z=>nomatch z) h
 |@dK a kvs ea=>
  cases(show u=Value.ref a from rx)
  obtain⟨_,_,vs,_,p⟩:=(show bD X.prog X.w H s.heap a (.dK kvs)from I.hok a _ ea)
  obtain⟨o,es,ep,h1,h2,_⟩:=p;exact PySem.W.kia_one PySem.W.kitx_dict I.kIn ⟨o,h1,h2.1⟩ e (fun z=>nomatch z) h
 |@dT a kvs ea=>
  cases(show u=Value.ref a from rx)
  obtain⟨_,_,xs,_,o,es,ep,h1,h2,_⟩:=(show bD X.prog X.w H s.heap a (.dT kvs)from I.hok a _ ea)
  exact PySem.W.kia_one PySem.W.kitx_dict I.kIn ⟨o,h1,h2.1⟩ e (fun z=>nomatch z) h
 |@ins a C dx fs ea cl ha hn htk hm=>
  cases(show u=Value.ref a from rx);obtain⟨mA,O,_⟩:=yn I.hok ea;obtain⟨od,J,_⟩:=O.look;exact PySem.W.kia_one (PySem.W.kitx_own (cl.get _) cl.hd ha hn htk hm) I.kIn J e (fun z=>nomatch z) h
end
structure bB(k:Nat)(A:Around):Prop where
 hd:A.handled=none
 dp:A.depth+3*k+5<recursionLimit
 un:A.units+16*k+200<cLine
def bB.mono(r:bB k A)(h:j<=k):bB j A:=⟨r.hd,by have:=r.dp;omega,by have:=r.un;omega⟩
def bB.deeper(r:bB (k+1) A)(env:Env):bB k (A.deeper env) :=
 ⟨r.hd,by have:=r.dp;show A.depth+1+3*k+5<_;omega,by have:=r.un;show A.units+3+16*k+200<_;omega⟩
def qZ{A:Around}:(A.under (.builtin "type.__call__" ⟨.ref C::us,kw⟩)).depth=A.depth+1:=by
 first | rfl | simp[Around.under,Code.weight,Code.isCreation,Code.isGuard,Code.isCaller,Code.frames,Code.isFrame,guardIds]
def qi{A:Around}:(A.under (.builtin "type.__call__" ⟨.ref C::us,kw⟩)).units=A.units+1:=by
 first | rfl | simp[Around.under,Code.cUnits,Code.frames,Code.isFrame]
def bB.make(r:bB (k+1) A)(C:Addr)(us:List Value)(kw:List (Str × Value)):bB k (A.under (.builtin "type.__call__" ⟨.ref C::us,kw⟩)) :=
 ⟨r.hd,by have:=r.dp;rw[qZ];omega,by have:=r.un;rw[qi];omega⟩
def bB.depth(r:bB k A):A.depth<recursionLimit:=by have:=r.dp;omega
abbrev iD:TA:=fun _ H Q=>Q [] H
abbrev eO(ta:TE)(tr:TA):TA:=fun σ H Q=>ta σ H fun x H1=>tr σ H1 fun xs H2=>Q (x::xs) H2
section
variable{X:Cx}{e:Expr}{es:List Expr}{te:TE}{t:TA}{pos:Pos}
def cA:PA X [] iD:=fun _ _ _ _ H Q I h=>Calls.spliced_nil ⟨[],H,I,.nil,h⟩
def ba(ha:PE X e te)(hr:PA X es t)(hs:starEach (e::es) X.env=(false,eval e X.env)::starEach es X.env):PA X (e::es) (eO te t):=by
 intro pos pins s σ H Q I h;rw[hs];show wpAny _ _ (spliced ((false,eval e X.env)::backTo pos (starEach es X.env))) _ _ s;refine Calls.spliced_cons (thn (ha pins s σ H _ I h) fun u s1 ⟨x,H1,I1,r1,q1⟩=>?_)
 exact thn (hr pos pins s1 σ H1 _ I1 q1) fun us s2 ⟨xs,H2,I2,r2,q2⟩=>⟨x::xs,H2,I2,.cons r1 r2,q2⟩
abbrev Dd(t:TA):TE:=fun σ H Q=>t σ H fun xs H1=>xs.length<=sizeLine/\∀ p,H1 p=none->Q (.ref p) (upd H1 p (.tup xs))
abbrev DB(t:TA):TE:=fun σ H Q=>t σ H fun xs H1=>xs.length<=sizeLine/\∀ p,H1 p=none->Q (.ref p) (upd H1 p (.lst xs))
def AX(h:PA X es t):PE X (.Tuple es x1 pos) (Dd t):=by
 intro pins s σ H Q I hq;refine wpAny_Tuple_spliced (thn (h pos pins s σ H _ I hq) fun us s1 ⟨xs,H1,I1,r,z,q⟩=>⟨by rw[<-r.length];exact z,?_⟩);have hf:H1 s1.heap.objs.size=none:=I1.hok.fresh (Nat.le_refl _);refine⟨.ref s1.heap.objs.size,upd H1 s1.heap.objs.size (.tup xs),I1.laid (t':=s1.toks) (fun b u e=>Heap.get?_push_of_some _ e) (Nat.le_refl _) ?_,rfl,q _ hf⟩;exact⟨z,us,r,⟨_,Heap.get?_push_size _ rfl,rfl,_,rfl⟩⟩
def A0(h:PA X es t):PE X (.List es pos) (DB t):=by
 intro pins s σ H Q I hq;refine wpAny_List_spliced (thn (h pos pins s σ H _ I hq) fun us s1 ⟨xs,H1,I1,r,z,q⟩=>⟨by rw[<-r.length];exact z,?_⟩);have hf:H1 s1.heap.objs.size=none:=I1.hok.fresh (Nat.le_refl _);refine⟨.ref s1.heap.objs.size,upd H1 s1.heap.objs.size (.lst xs),I1.laid (t':=s1.toks) (fun b u e=>Heap.get?_push_of_some _ e) (Nat.le_refl _) ?_,rfl,q _ hf⟩;exact⟨z,us,0,r,Heap.get?_push_size _ rfl⟩
end
@[reducible]noncomputable def Sp:=List V->Hp->VK->XK->Prop
@[reducible]noncomputable def CXT:=List Env->Hp->Shared->XK->Value->Shared->Prop
structure iO(P:Program)(w:World)(K:PySem.W.Frag)(mg:Str->Option Value)(base:Heap)(A:Around)(outer:List Env)(s:Shared)(H:Hp):Prop where
 frames:A.frames=some outer
 mod:Mod K mg base
 bs:∀ b o,base.get? b=some o->s.heap.get? b=some o/\H b=none
 bsz:base.objs.size<=s.heap.objs.size
 cY:s.heap.FunFrames base outer
 frf:∀ b∈frs outer,H b=none
 hok:HOk P w H s.heap
 bare:AllBare s.gens
abbrev CE(outer:List Env)(P:Program)(w:World)(H:Hp)(s:Shared)(Q:VK)(u:Value)(s':Shared):Prop :=
 ∃ v H',s'.os=s.os/\AllBare s'.gens/\Un (frs outer) [] H H' s.heap s'.heap/\HOk P w H' s'.heap/\RelV v u/\Q v H'
abbrev CR(CX:CXT)(outer:List Env)(P:Program)(w:World)(H:Hp)(s:Shared)(Q:VK)(E:XK)(r:Result)(s':Shared):Prop :=
 match r with
 | .ok (.ret u)=>CE outer P w H s Q u s'
 | .ok _=>False
 | .error e=>CX outer H s E e s'
structure cu(P:Program)(w:World)(K:PySem.W.Frag)(mg:Str->Option Value)(base:Heap)(CX:CXT)(k:Nat)(f:Addr)(fd:FuncData)(ps:List Str)(sp:Sp):Prop where
 len:∀ vs H Q E,sp vs H Q E->vs.length=ps.length
 run:∀ (A:Around) (outer:List Env) (s:Shared) (H:Hp) (args:Args) (us:List Value) (vs:List V) (Q:VK) (E:XK),bB k A->iO P w K mg base A outer s H->BindsTo s fd args (ps.zip us)->Vals vs us->sp vs H Q E ->
  codeAny (model P w) A (.call (.ref f) args) (CR CX outer P w H s Q E) s
def iO.make{P:Program}{w:World}{K:PySem.W.Frag}{mg:Str->Option Value}{base:Heap}{A:Around}{outer:List Env}{s:Shared}{H:Hp}(e:iO P w K mg base A outer s H)(C:Addr)(us:List Value)(kw:List (Str × Value)) :
  iO P w K mg base (A.under (.builtin "type.__call__" ⟨.ref C::us,kw⟩)) outer s H:=⟨by first | exact e.frames | (simpa[Around.under,Code.envs,Code.isFrame,pushEnvs]using e.frames),e.mod,e.bs,e.bsz,e.cY,e.frf,e.hok,e.bare⟩
section
variable{X:Cx}{pins:List (Addr × Obj)}{σ:St}{H:Hp}{s s':Shared}
def Inv.qd(I:Inv X pins σ H s):iO X.prog X.w X.K X.mg X.base X.A X.stack s H :=
 ⟨I.ok.frames,I.ok.mod,I.bs,Nat.le_trans I.ok.bsz I.sz,I.stack,I.jk,I.hok,I.bare⟩
def Inv.after(I:Inv X pins σ H s)(h:CE X.stack X.prog X.w H s Q u s'):EP X pins σ Q u s':=by
 obtain⟨v,H',os,bare,un,hok,r,q⟩:=h;obtain⟨hh,g,d,t,os'⟩:=s';obtain rfl:os'=s.os:=os;exact⟨v,H',I.call (h':=hh) (g':=g) (d':=d) (t':=t) (ch:=[]) un hok bare (fun b z=>absurd z (by simp)),r,q⟩
end
abbrev wA(sp:Sp)(dvs:List V)(E:XK)(t:TA):TE:=fun σ H Q=>t σ H fun vs H1=>sp (vs++dvs) H1 Q E
abbrev Binds(K:PySem.W.Frag)(fd:FuncData)(ps:List Str)(ds:List Value):Prop :=
 ∀ (s:Shared) (us:List Value),K.In s.heap->(us++ds).length=ps.length->BindsTo s fd ⟨us,[]⟩ (ps.zip (us++ds))
def Binds.all{K:PySem.W.Frag}(h:∀ us:List Value,us.length=ps.length->bindArgs fd ⟨us,[]⟩=pure (ps.zip us)):Binds K fd ps []:=fun s us _ hl=>by
 rw[List.append_nil]at hl ⊢;exact .of_eq (h us hl)
abbrev Passes(CX:CXT)(X:Cx)(E:XK):Prop:=∀ (pins:List (Addr × Obj)) (σ:St) (H:Hp) (s:Shared) (e:Value) (s':Shared),Inv X pins σ H s->CX X.stack H s E e s'->X.xe e s'
section
variable{X:Cx}{CX:CXT}{k:Nat}{f C:Addr}{fd:FuncData}{ps:List Str}{sp:Sp}{dvs:List V}{ds:List Value}{E:XK}{x m:Str}{p pos apos:Pos}{e o:Expr}{es:List Expr}{ta:TE}{t:TA}
def t8(F:cu X.prog X.w X.K X.mg X.base CX k f fd ps sp)(hr:bB k X.A)(hb:Binds X.K fd ps ds)(hd:Vals dvs ds)(hx:Passes CX X E)
 (I:Inv X pins σ H s)(r:Vals vs us)(h:sp (vs++dvs) H Q E):wpAny (model X.prog X.w) X.A (call (.ref f) us) (EP X pins σ Q) X.xe s:=by
 have r2:Vals (vs++dvs) (us++ds):=r.append hd
 have hl:(us++ds).length=ps.length:=by rw[<-r2.length];exact F.len _ _ _ _ h
 refine wpAny_call (codeAny_mono (F.run X.A X.stack s H ⟨us,[]⟩ (us++ds) (vs++dvs) Q E hr I.qd (hb s us I.kIn hl) r2 h) fun r s' hq=>?_)
 cases r with
 | error e=>exact hx pins σ H s e s' I hq
 |ok fl=>
  cases fl with
  | ret u=>exact I.after hq
  | next=>exact False.elim hq
  | brk=>exact False.elim hq
  | cont=>exact False.elim hq
def yA(F:cu X.prog X.w X.K X.mg X.base CX k f fd ps sp)(hr:bB k X.A)(hg:Gl X x)(hm:X.mg x=some (.ref f))(hk:PySem.W.keepIn X.K (.ref f)=true)(hb:Binds X.K fd ps ds)(hd:Vals dvs ds)(hx:Passes CX X E)
 (ha:PA X (e::es) t)(hdb:(x == ("__debug__" : Str))=false)(he:starEach (e::es) X.env=(false,eval e X.env)::starEach es X.env)(hpl:(backTo pos (starEach es X.env)).any (·.1)=false) :
  PE X (.Call (.Name x p) (e::es) [] pos) (wA sp dvs E t):=by
 intro pins s σ H Q I h;refine wpAny_Call_Name_kw (cJ I hg hm ?_ hdb);refine PySem.W.callWith_K (h₀:=X.base) I.ok.mod.kin hk (thn (ha pos pins s σ H _ I h) fun us s1 ⟨vs,H1,I1,r,q⟩=>⟨I1.kIn,?_⟩) he hpl;exact t8 F hr hb hd hx I1 r q
end
section
variable{X:Cx}{CX:CXT}{k:Nat}{f C:Addr}{fd:FuncData}{ps ks:List Str}{sp:Sp}{E:XK}{x m:Str}{p pos apos kpos:Pos}{e o:Expr}{es:List Expr}{kws:List Keyword}{te ta:TE}{t tk:TA}{nm:Option Str}
variable{g:List Value->List Value->List Value}{gV:List V->List V->List V}
end
structure dS(N P:List Str)(sc:Scope):Prop where
 kind:sc.kind=.function
 co:sc.isCoroutine=false
 gen:sc.isGenerator=false
 nd:N.Nodup
 pre:N.take P.length=P
 par:∀ x∈P,sc.names.lookup x=some .local\/sc.names.lookup x=some .cell
 zK:∀ y∈sc.names,y.2≠.free
def l5{kindOf:Str->Option NameKind}:∀ {binds:List (Str × Value)} {m:Str->Option Value},(∀ v,(x,v)∉binds)->bindL kindOf binds m x=m x
 | [],_,_=>rfl
 | (n,v)::r,m,h=>by
  unfold bindL;rw[l5 fun w hw=>h w (List.mem_cons_of_mem _ hw)];split
  ·have:x≠n:=by rintro rfl;exact h v List.mem_cons_self
   simp[this]
  ·rfl
def lu{kindOf:Str->Option NameKind}:∀ {binds:List (Str × Value)} {m:Str->Option Value},(∀ v,(x,v)∉binds)->bindC kindOf binds m x=m x
 | [],_,_=>rfl
 | (n,v)::r,m,h=>by
  unfold bindC;rw[lu fun w hw=>h w (List.mem_cons_of_mem _ hw)];split
  ·rfl
  ·have:x≠n:=by rintro rfl;exact h v List.mem_cons_self
   simp[this]
def lQ{kindOf:Str->Option NameKind}:∀ {P:List Str} {vs:List Value} {i:Nat} {m:Str->Option Value},P.Nodup->P[i]?=some x->vs[i]?=some v->kindOf x=some .local ->
  bindL kindOf (P.zip vs) m x=some v
 | [],_,_,_,_,h,_,_=>by simp at h
 | _::_,[],_,_,_,_,h,_=>by simp at h
 | p::P,w::vs,0,m,nd,h1,h2,hk=>by
  simp at h1 h2;subst h1;subst h2;show bindL kindOf ((p,w)::P.zip vs) m p=_;unfold bindL;rw[l5 fun v hv=>(List.nodup_cons.mp nd).1 (List.of_mem_zip hv).1,if_pos hk];simp
 | p::P,w::vs,i+1,m,nd,h1,h2,hk=>by
  show bindL kindOf ((p,w)::P.zip vs) m x=_;unfold bindL;exact lQ (i:=i) (List.nodup_cons.mp nd).2 (by simpa using h1) (by simpa using h2) hk
def l9{kindOf:Str->Option NameKind}:∀ {P:List Str} {vs:List Value} {i:Nat} {m:Str->Option Value},P.Nodup->P[i]?=some x->vs[i]?=some v->kindOf x≠some .local ->
  bindC kindOf (P.zip vs) m x=some v
 | [],_,_,_,_,h,_,_=>by simp at h
 | _::_,[],_,_,_,_,h,_=>by simp at h
 | p::P,w::vs,0,m,nd,h1,h2,hk=>by
  simp at h1 h2;subst h1;subst h2;show bindC kindOf ((p,w)::P.zip vs) m p=_;unfold bindC;rw[lu fun v hv=>(List.nodup_cons.mp nd).1 (List.of_mem_zip hv).1,if_neg hk];simp
 | p::P,w::vs,i+1,m,nd,h1,h2,hk=>by
  show bindC kindOf ((p,w)::P.zip vs) m x=_;unfold bindC;exact l9 (i:=i) (List.nodup_cons.mp nd).2 (by simpa using h1) (by simpa using h2) hk
abbrev start(N:List Str)(vs:List V):St:=vs.map some++List.replicate (N.length-vs.length) none
abbrev fj(CX:CXT)(P:Program)(w:World)(K:PySem.W.Frag)(mg:Str->Option Value)(base:Heap)(N:List Str)(qual:Str)(scope:Scope)(f:Addr)(cd:Value)(A:Around)(outer:List Env)(s:Shared)(H:Hp)(E:XK):Cx where
 prog:=P
 w:=w
 K:=K
 mg:=mg
 base:=base
 A:=A.deeper (envOfC qual scope s.heap.objs.size f cd)
 N:=N
 s₀:=s
 H₀:=H
 env:=envOfC qual scope s.heap.objs.size f cd
 outer:=outer
 stack:=envOfC qual scope s.heap.objs.size f cd::outer
 ex:=[]
 calm:=true
 fn:=fun _=>true
 pn:=[]
 xe:=fun e s'=>wpAny (model P w) (A.deeper (envOfC qual scope s.heap.objs.size f cd)) (leaving (envOfC qual scope s.heap.objs.size f cd) e) (fun _ s''=>CX outer H s E e s'') (fun e' s''=>CX outer H s E e' s'') s'
def nN{sc:Scope}(h:sc.names.lookup x=some .cell):∃ c,(cellsFrom n sc.names []).lookup x=some c:=by
 have q:=PySem.W.cellsFrom_some sc.names n [] (.inl h);exact Option.isSome_iff_exists.mp q
def lI{CX:CXT}{P:Program}{w:World}{K:PySem.W.Frag}{mg:Str->Option Value}{base:Heap}{N ps:List Str}{qual:Str}{scope:Scope}{f:Addr}{cd:Value}{A:Around}{outer:List Env}{s s1:Shared}{H:Hp}{E:XK}{us:List Value}{vs:List V}
 (S:dS N ps scope)(hd:A.handled=none)(e0:iO P w K mg base A outer s H)(hl:vs.length=ps.length)(r:Vals vs us)
 (x:InCallC s s.heap.objs.size (bindL (envOfC qual scope s.heap.objs.size f cd).kindOf (ps.zip us) fun _=>none) (cellsFrom (s.heap.objs.size+1) scope.names []) (bindC (envOfC qual scope s.heap.objs.size f cd).kindOf (ps.zip us) fun _=>none) s1) :
  Inv (fj CX P w K mg base N qual scope f cd A outer s H E) [] (start N vs) H s1:=by
 have hpl:ps.length<=N.length:=by have:=congrArg List.length S.pre;rw[List.length_take]at this;omega
 obtain⟨h1,tk,rfl,hk⟩:=x.done;have noA:∀ b:Addr,b∉(fj CX P w K mg base N qual scope f cd A outer s H E).ex:=fun b z=>absurd (show b∈([]:List Addr)from z) (by simp)
 refine⟨⟨e0.mod,S.kind,rfl,rfl,Nat.le_refl _,fun y z c h1 h2=>?_,fun y hy=>?_,fun y c _ h=>?_,⟨fun _=>hd,.inl hd⟩,Around.frames_deeper e0.frames,.inr ⟨rfl,rfl⟩,fun b z=>absurd z (noA b),e0.bs,e0.bsz,fun b _ _=>noA b,fun b z=>absurd z (noA b),e0.cY,e0.frf⟩,
  rfl,e0.bare,Un.kept hk,⟨_,x.toInCall.ns,fun i y v h1 h2 h3=>?_⟩,fun y c h=>⟨_,x.cell y c h⟩,e0.hok.fresh (Nat.le_refl _),fun y c h=>?_,fun p hp=>absurd (show p∈([]:List (Addr × Obj))from hp) (by simp),e0.hok.kept hk,?_⟩
 ·exact name_of_addr x.apart (PySem.mem_of_lookup h1) (PySem.mem_of_lookup h2)
 ·have hy:scope.names.lookup y=some .cell\/scope.names.lookup y=some .free:=hy;rcases hy with hy | hy
  ·exact nN hy
  ·exact absurd rfl (S.zK _ (PySem.mem_of_lookup hy))
 ·exact Nat.le_of_lt (x.above y c (PySem.mem_of_lookup h))
 ·have hi:i<vs.length:=by
   unfold start at h2;by_cases hi:i<vs.length
   ·exact hi
   ·rw[List.getElem?_append_right (by simpa using hi)]at h2;rw[List.getElem?_replicate]at h2;split at h2<;>cases h2
  have ha:vs[i]?=some v:=by
   unfold start at h2;rw[List.getElem?_append_left (by simpa using hi),List.getElem?_map]at h2
   cases e:vs[i]? with
   | none=>rw[e]at h2;cases h2
   | some a=>rw[e]at h2;cases h2;rfl
  obtain⟨u,hu,rv⟩:=r.get ha
  have hp:ps[i]?=some y:=by
   rw[<-S.pre,List.getElem?_take_of_lt (by omega)];exact h1
  have ndP:ps.Nodup:=by rw[<-S.pre];exact S.nd.sublist (List.take_sublist _ _)
  refine⟨u,rv,?_⟩;rcases S.par y (List.mem_of_getElem? hp)with k | k
  ·exact .inl ⟨k,lQ ndP hp hu k⟩
  ·obtain⟨c,e⟩:=nN (n:=s.heap.objs.size+1) k;refine .inr ⟨.inl k,c,e,?_⟩;have q:=x.cell y c e;rw[l9 ndP hp hu (by show scope.names.lookup y≠_;rw[k];decide)]at q;exact q
 ·exact e0.hok.fresh (Nat.le_of_lt (x.above y c (PySem.mem_of_lookup h)))
 ·unfold start;show _=N.length;rw[List.length_append,List.length_map,List.length_replicate];omega
def xa{CX:CXT}{P:Program}{w:World}{K:PySem.W.Frag}{mg:Str->Option Value}{base:Heap}{k:Nat}{f:Addr}{name qual:Str}{params:Arguments}{body:List Stmt}{scope:Scope}{dV kV doc pm cdv ct oc:Value}{an od:Option Addr}
 {osl:Array (Option Value)}{N ps:List Str}{sp:Sp}(lk:K.lookup f=some ⟨oc,od,.func (PySem.W.fnOf name qual params body scope dV kV doc pm an cdv ct),osl⟩)(hcd:PySem.W.codeIn K cdv qual=true)(S:dS N ps scope)
 (len:∀ vs H Q E,sp vs H Q E->vs.length=ps.length)
 (hbody:∀ (A:Around) (outer:List Env) (s:Shared) (H:Hp) (vs:List V) (Q:VK) (E:XK),bB k (A.deeper (envOfC qual scope s.heap.objs.size f cdv))->sp vs H Q E ->
   ∃ t,PSs (fj CX P w K mg base N qual scope f cdv A outer s H E) body t/\t { nx:=fun _ H'=>Q .non H',rt:=Q } (start N vs) H) :
  cu P w K mg base CX (k+1) f (PySem.W.fnOf name qual params body scope dV kV doc pm an cdv ct) ps sp:=by
 refine⟨len,fun A outer s H args us vs Q E hr e0 hb r hsp=>?_⟩;have hl:=len _ _ _ _ hsp;have KX:K.In s.heap:=e0.mod.kin.keeps fun b o e=>(e0.bs b o e).1;have lim:s.heap.NoLimit:=e0.mod.nolimit.keeps fun b o e=>(e0.bs b o e).1
 have hkind:∀ y∈ps.zip us,scope.names.lookup y.1=some .local\/(scope.names.lookup y.1=some .cell/\((cellsFrom (s.heap.objs.size+1) scope.names []).lookup y.1).isSome=true):=fun⟨n,v⟩ hy=>by
  rcases S.par n (List.of_mem_zip hy).1 with q | q
  ·exact .inl q
  ·exact .inr ⟨q,PySem.W.cellsFrom_some _ _ _ (.inl q)⟩
 refine codeAny_call_function hr.depth (KX _ _ lk) rfl S.co S.gen rfl (PySem.W.codeRec_of KX hcd) (hb _ _ _ _ ?_);refine wpAny_newFunctionEnv_cells S.kind hkind fun env he s1 x=>?_;subst he;refine⟨lim.keeps x.toInCall.keep,codeAny_func ?_⟩;obtain⟨t,ht,hq⟩:=hbody A outer s H vs Q E (hr.deeper _) hsp;have I:Inv (fj CX P w K mg base N qual scope f cdv A outer s H E) [] (start N vs) H s1:=lI S hr.hd e0 hl r x;refine wpAny_mono (ht [] s1 (start N vs) H _ I hq) (fun fl s' hs=>?_) fun e s' hs=>hs
 have fin:∀ {σ':St} {H':Hp} {v:V} {u:Value},Inv (fj CX P w K mg base N qual scope f cdv A outer s H E) [] σ' H' s'->RelV v u->Q v H'->CE outer P w H s Q u s' :=
  fun {σ' H' v u} J rv q=>⟨v,H',J.os,J.bare,J.base,J.hok,rv,q⟩
 cases fl with
 |ret u=>
  obtain⟨v,σ',H',J,rv,q⟩:=hs;exact fin J rv q
 |next=>
  obtain⟨σ',H',J,q⟩:=hs;exact fin (v:=V.non) (u:=Value.none) J rfl q
 |brk=>
  obtain⟨_,_,_,q⟩:=hs;exact False.elim q
 |cont=>
  obtain⟨_,_,_,q⟩:=hs;exact False.elim q
section
variable{X:Cx}{x:Str}{p pos:Pos}{e:Expr}{es:List Expr}{t:TA}{id T:String}{r:List V->Hp->VK->Prop}
abbrev tCB(r:List V->Hp->VK->Prop)(t:TA):TE:=fun σ H Q=>t σ H fun vs H1=>r vs H1 Q
def eA(hc:bC X (.builtin id) r)(hg:Gl X x)(hm:X.mg x=none)(hv:bootBuiltins x=some (.builtin id))(ha:PA X (e::es) t)(hn:x ≠ "__name__")(hdb:(x == ("__debug__" : Str))=false)
 (he:starEach (e::es) X.env=(false,eval e X.env)::starEach es X.env)(hpl:(backTo pos (starEach es X.env)).any (·.1)=false):PE X (.Call (.Name x p) (e::es) [] pos) (tCB r t):=by
 intro pins s σ H Q I h;refine wpAny_Call_Name_kw (gR I hg hm hv ?_ hn hdb);exact PyProof.Rows.callWith_builtin1 (thn (ha pos pins s σ H _ I h) fun us s1 ⟨vs,H1,I1,r1,q1⟩=>hc pins s1 σ H1 vs us Q I1 r1 q1) he hpl
def dU(hc:bC X (.type T) r)(hg:Gl X x)(hm:X.mg x=none)(hv:bootBuiltins x=some (.type T))(ha:PA X (e::es) t)(hn:x ≠ "__name__")(hdb:(x == ("__debug__" : Str))=false)
 (he:starEach (e::es) X.env=(false,eval e X.env)::starEach es X.env)(hpl:(backTo pos (starEach es X.env)).any (·.1)=false):PE X (.Call (.Name x p) (e::es) [] pos) (tCB r t):=by
 intro pins s σ H Q I h;refine wpAny_Call_Name_kw (gR I hg hm hv ?_ hn hdb);exact PyProof.Rows.callWith_type1 (thn (ha pos pins s σ H _ I h) fun us s1 ⟨vs,H1,I1,r1,q1⟩=>hc pins s1 σ H1 vs us Q I1 r1 q1) he hpl
end
end L2
namespace HT
open PySem PyProof.Rows
section
open PySem.SeqAt
open PySem.AutoSeq1 (wpAny_loadPart')
open PySem.MeetsSeq PySem.MeetsSeq2 PySem.MeetsSeq3
end
section
variable{prog:Program}{w:World}{A:Around}{E:Value->Shared->Prop}{s:Shared}
def xS(ht:IsTup s.heap t vs.toArray)(hb:IsTup s.heap b ws.toArray)(hv:vs≠[])
 (h1:ws=[]->Q (.ref t) s)(h2:ws≠[]->Q (.ref s.heap.objs.size) { s with heap:=s.heap.push { cls:=.type "tuple",data:=.seq (vs++ws).toArray } })
 (hsz:vs.length+ws.length<=sizeLine):wpAny (model prog w) A (binaryOp .Add (.ref t) (.ref b)) Q E s:=by
 obtain⟨⟨cls,dd,data,sl⟩,ho,hc,n,hd⟩:=id ht;obtain⟨⟨cls2,dd2,data2,sl2⟩,ho2,hc2,n2,hd2⟩:=id hb;simp only at hc hd hc2 hd2;subst hc hd hc2 hd2
 have e:vs.toArray++ws.toArray=(vs++ws).toArray:=by simp
 by_cases hw:ws=[]
 ·exact concat_meets ⟨_,ho,rfl⟩ ⟨_,ho2,rfl⟩ noFill_tuple_add seq_tuple_add PySem.F.slot_tuple_add PySem.F.entry_tuple_add (PySem.F.args_tuple_add_2 _ _)
   (tuple_addW1 t b vs.toArray ws.toArray n n2 dd dd2 sl sl2 (by simpa using hv) (by simp[hw])) ⟨ho,ho2,h1 hw⟩
 ·refine concat_meets ⟨_,ho,rfl⟩ ⟨_,ho2,rfl⟩ noFill_tuple_add seq_tuple_add PySem.F.slot_tuple_add PySem.F.entry_tuple_add (PySem.F.args_tuple_add_2 _ _)
   (tuple_addW2 t b vs.toArray ws.toArray n n2 dd dd2 sl sl2 (by simpa using hv) (by simpa using hw) (by rw[List.size_toArray,List.size_toArray];exact hsz)) ⟨ho,ho2,?_⟩
  rw[e];exact h2 hw
abbrev sIx(n d:Nat):Option Int->Nat
 | none=>d
 | some v=>if v<0 then(v+(n:Int)).toNat else min v.toNat n
def m7(n d:Nat):sIx n d none=d:=rfl
def B1(n d:Nat)(hd:d<=n)(o:Option Int):sIx n d o<=n:=by
 cases o with
 | none=>exact hd
 |some v=>
  show(if v<0 then(v+(n:Int)).toNat else min v.toNat n)<=n;by_cases hv:v<0
  ·rw[if_pos hv];omega
  ·rw[if_neg hv];exact Nat.min_le_right _ _
def fC(v:Int)(n d:Nat):(if v<0 then max (v+(n:Int)) 0 else min v (n:Int))=((sIx n d (some v):Nat):Int):=by
 show(if v<0 then max (v+(n:Int)) 0 else min v (n:Int))=(((if v<0 then(v+(n:Int)).toNat else min v.toNat n):Nat):Int);by_cases hv:v<0
 ·simp only[if_pos hv];omega
 ·simp only[if_neg hv];omega
def qw(lo hi:Option Int)(n:Nat):Builtin.Slice.sliceAdjust lo hi 1 (n:Int)=(((sIx n 0 lo:Nat):Int),((sIx n n hi:Nat):Int)):=by
 have h1:¬ ((1:Int)<0):=by omega
 unfold Builtin.Slice.sliceAdjust;simp only[h1,if_false];refine Prod.ext ?_ ?_
 ·cases lo with
  | none=>rfl
  | some v=>exact fC v n 0
 ·cases hi with
  | none=>rfl
  | some v=>exact fC v n n
def qu(i j:Nat):Builtin.Slice.slicePlaces (i:Int) (j:Int) 1=j-i:=by
 unfold Builtin.Slice.slicePlaces
 have h1:(1:Int) > 0:=by omega
 simp only[h1,if_true,Int.ediv_one];split<;>omega
def jN(p:IsPart v o)(h:Q o s):wpAny (model prog w) A (Builtin.Slice.slicePartIndex v) Q E s:=by
 cases p with
 | none=>exact slicePart_none h
 | int i t=>exact slicePart_int h
def jI{sl:Addr}{vl vu:Value}{lo hi:Option Int}{n:Nat}{Q:Int × Int × Nat->Shared->Prop}(hs:s.heap.IsSliceOf sl vl vu .none)(pl:IsPart vl lo)(pu:IsPart vu hi)
 (h:Q (((sIx n 0 lo:Nat):Int),1,sIx n n hi-sIx n 0 lo) s):wpAny (model prog w) A (Builtin.Slice.sliceApplied (.ref sl) (pure (n:Int))) Q E s:=by
 obtain⟨os,hos,hcs,hds⟩:=id hs;unfold Builtin.Slice.sliceApplied Builtin.Slice.sliceFields;refine wpAny_bind (wpAny_bind (wpAny_field hos hds (x:=vl) rfl (wpAny_bind (wpAny_field hos hds (x:=vu) rfl (wpAny_bind (wpAny_field hos hds (x:=.none) rfl (wpAny_pure ?_)))))));refine wpAny_bind (slicePart_none ?_);show wpAny _ _ (if((1:Int) == 0)=true then _ else _) _ _ s;rw[if_neg (by decide)];refine wpAny_bind (jN pl (wpAny_bind (jN pu (wpAny_bind (wpAny_pure ?_)))));show wpAny _ _ (match Builtin.Slice.sliceAdjust lo hi 1 (n:Int)with | (lo,hi)=>pure (lo,(1:Int),Builtin.Slice.slicePlaces lo hi 1)) _ _ s;rw[qw lo hi n];show wpAny _ _ (pure (((sIx n 0 lo:Nat):Int),(1:Int),Builtin.Slice.slicePlaces ((sIx n 0 lo:Nat):Int) ((sIx n n hi:Nat):Int) 1)) _ _ s;rw[qu];exact wpAny_pure h
def uY(xs:Array Value)(i k:Nat):((List.range k).filterMap fun(m:Nat)=>xs[((i:Int)+(m:Int)*1).toNat]?).toArray=((xs.toList.drop i).take k).toArray:=by
 have e:(fun(m:Nat)=>xs[((i:Int)+(m:Int)*1).toNat]?)=fun m=>xs[i+m]?:=by
  funext m
  have:((i:Int)+(m:Int)*1).toNat=i+m:=by omega
  rw[this]
 rw[e];have:=pick_run xs i k;rw[List.filterMap_map]at this;have e2:((fun x=>xs[x]?) ∘ fun x=>i+x)=fun m=>xs[i+m]?:=rfl;rw[e2]at this;rw[this]
def jz{t sl:Addr}{items:Array Value}{vl vu:Value}{lo hi:Option Int}{Q:Value->Shared->Prop}(ht:IsTup s.heap t items)(hs:s.heap.IsSliceOf sl vl vu .none)(pl:IsPart vl lo)(pu:IsPart vu hi)
 (hw:¬ (sIx items.size 0 lo=0/\sIx items.size items.size hi=items.size))
 (h:Q (.ref s.heap.objs.size) { s with heap:=s.heap.push { cls:=.type "tuple",data:=.seq ((items.toList.drop (sIx items.size 0 lo)).take (sIx items.size items.size hi-sIx items.size 0 lo)).toArray } })
 (hsz:items.size<=sizeLine):wpAny (model prog w) A (getItem (.ref t) (.ref sl)) Q E s:=by
 have htake:sizeOk (.seq ((items.toList.drop (sIx items.size 0 lo)).take (sIx items.size items.size hi-sIx items.size 0 lo)).toArray):=by
  show((items.toList.drop (sIx items.size 0 lo)).take (sIx items.size items.size hi-sIx items.size 0 lo)).toArray.size<=sizeLine;rw[List.size_toArray,List.length_take,List.length_drop,Array.length_toList];omega
 have hj:sIx items.size items.size hi<=items.size:=B1 _ _ (Nat.le_refl _) hi;obtain⟨os,hos,hcs,hds⟩:=id hs
 have hTs:s.TypeIs (.ref sl) "slice" := ⟨os,hos,hcs⟩
 unfold getItem
 try with_reducible refine wpAny_holding ?_
 first | refine wpAny_bind (wpAny_pure ?_) | skip
 refine wpAny_bind (wpAny_sequenceKey ht.typeIs (by decide) ?_)
 refine wpAny_bind (wpAny_callSpecial?_slot (name:=Str.ofString "__getitem__") ht.typeIs PyProof.Rows.slot_tuple_getitem
  (wpAny_call_entry PyProof.Rows.slot_tuple_getitem ht.typeIs entry_tuple_getitem ?_ (args_tuple_getitem _ _)))
 show wpAny _ _ (Builtin.Tuple.tupleItemsOf (.ref t) >>= _) _ _ s;refine wpAny_bind (tupleItemsOf_ ht ?_);refine wpAny_bind (wpAny_typeOf hTs ?_);rw[if_pos (by decide)];refine wpAny_bind (jI hs pl pu ?_)
 have hno:¬ ((((sIx items.size 0 lo:Nat):Int) == 0&&(1:Int) == 1&&(sIx items.size items.size hi-sIx items.size 0 lo) == items.size)=true):=by
  intro q;rw[Bool.and_eq_true,Bool.and_eq_true]at q;have q1:((sIx items.size 0 lo:Nat):Int)=0:=eq_of_beq q.1.1;have q2:sIx items.size items.size hi-sIx items.size 0 lo=items.size:=eq_of_beq q.2;exact hw ⟨by omega,by omega⟩
 show wpAny _ _ (if(((sIx items.size 0 lo:Nat):Int) == 0&&(1:Int) == 1&&(sIx items.size items.size hi-sIx items.size 0 lo) == items.size)=true then _ else _) _ _ s;rw[if_neg hno,uY]
 first
  | exact wpAny_bind (m:=Builtin.Tuple.tupleExact _) (wpAny_newObj_type (wpAny_pure ⟨_,rfl,wpAny_pure h⟩) htake)
  | exact wpAny_bind (m:=Builtin.Tuple.tupleExact _) (wpAny_newObj_type (wpAny_bind (wpAny_pure (wpAny_pure ⟨_,rfl,wpAny_pure h⟩))) htake)
  | exact wpAny_bind (wpAny_bind (m:=Builtin.Tuple.tupleExact _) (wpAny_newObj_type (wpAny_pure (wpAny_pure ⟨_,rfl,wpAny_pure h⟩)) htake))
  | exact wpAny_bind (wpAny_bind (m:=Builtin.Tuple.tupleExact _) (wpAny_newObj_type (wpAny_pure ⟨_,rfl,wpAny_pure h⟩) htake))
end
end HT
namespace L2
open PySem PySem.Spec PyProof.Rows
@[reducible]noncomputable def TO:=St->Hp->(Option Int->Hp->Prop)->Prop
abbrev PO(X:Cx)(e:Option Expr)(t:TO):Prop :=
 ∀ (pins:List (Addr × Obj)) (s:Shared) (σ:St) (H:Hp) (Q:Option Int->Hp->Prop),Inv X pins σ H s->t σ H Q ->
  wpAny (model X.prog X.w) X.A (evalPart e X.env) (fun u s'=>∃ o H',Inv X pins σ H' s'/\IsPart u o/\Q o H') X.xe s
abbrev yW:TO:=fun _ H Q=>Q none H
abbrev C8(t:TE):TO:=fun σ H Q=>t σ H fun x H1=>∃ i,x=.int i/\Q (some i) H1
section
variable{X:Cx}{e:Expr}{te:TE}{lo hi:Option Expr}{tl th:TO}{pos p2:Pos}
def pB:PO X none yW:=by
 intro pins s σ H Q I h;rw[evalPart_none];exact wpAny_pure ⟨none,H,I,.none,h⟩
def oV(h:PE X e te):PO X (some e) (C8 te):=by
 intro pins s σ H Q I hw;rw[evalPart_some];refine thn (h pins s σ H _ I hw) fun u s1 ⟨x,H1,I1,r1,q1⟩=>?_;obtain⟨i,rfl,q⟩:=q1;obtain⟨t,rfl⟩:=r1;exact⟨some i,H1,I1,.int i t,q⟩
abbrev SlR(X:Cx)(r:V->Option Int->Option Int->Hp->VK->Prop):Prop :=
 ∀ (pins:List (Addr × Obj)) (s:Shared) (σ:St) (H:Hp) (x:V) (v vl vu:Value) (lo hi:Option Int) (sl:Addr) (Q:VK),Inv X pins σ H s->RelV x v->s.heap.IsSliceOf sl vl vu .none->IsPart vl lo->IsPart vu hi->r x lo hi H Q ->
  ∃ T id,typeLookup (.type T) "__getitem__" = pure (some (.builtin id))/\s.TypeIs v T/\wpAny (model X.prog X.w) X.A (getItem v (.ref sl)) (EP X pins σ Q) X.xe s
def SlR.or(h:SlR X r)(h':SlR X r'):SlR X (fun x lo hi H Q=>r x lo hi H Q\/r' x lo hi H Q):=by
 intro pins s σ H x v vl vu lo hi sl Q I rx hs pl pu q;rcases q with q | q
 ·exact h pins s σ H x v vl vu lo hi sl Q I rx hs pl pu q
 ·exact h' pins s σ H x v vl vu lo hi sl Q I rx hs pl pu q
abbrev tSl(r:V->Option Int->Option Int->Hp->VK->Prop)(te:TE)(tl th:TO):TE:=fun σ H Q=>te σ H fun x H1=>tl σ H1 fun l H2=>th σ H2 fun u H3=>r x l u H3 Q
def nI(hr:SlR X r)(he:PE X e te)(hl:PO X lo tl)(hu:PO X hi th):PE X (.Subscript e (.Slice lo hi none p2) pos) (tSl r te tl th):=by
 intro pins s σ H Q I h;refine Subscript_ (thn (he pins s σ H _ I h) fun v s1 ⟨x,H1,I1,r1,q1⟩=>?_);refine wpAny_Slice (thn (hl pins s1 σ H1 _ I1 q1) fun vl s2 ⟨l,H2,I2,pl,q2⟩=>thn (hu pins s2 σ H2 _ I2 q2) fun vu s3 ⟨u,H3,I3,pu,q3⟩=>?_);rw[evalPart_none];refine wpAny_pure ?_;have I4:Inv X pins σ H3 { s3 with heap:=s3.heap.push { cls:=.type "slice",data:=.fields #[vl,vu,.none] } }:=I3.kept (t':=s3.toks) fun b ob q=>Heap.get?_push_of_some _ q;obtain⟨T,id,hT,ht,hg⟩:=hr pins { s3 with heap:=s3.heap.push { cls:=.type "slice",data:=.fields #[vl,vu,.none] } } σ H3 x v vl vu l u s3.heap.objs.size Q I4 r1 (Heap.IsSliceOf.new ..) pl pu q3;show wpAny (model X.prog X.w) X.A (subscriptTail e (.Slice lo hi none p2) v (.ref s3.heap.objs.size)) (EP X pins σ Q) X.xe { s3 with heap:=s3.heap.push { cls:=.type "slice",data:=.fields #[vl,vu,.none] } };exact tail_any (ops:=[.ref s3.heap.objs.size,v]) ht hT hg (by with_unfolding_all rfl)
abbrev eB(xs:List V)(lo hi:Option Int):List V:=(xs.drop (HT.sIx xs.length 0 lo)).take (HT.sIx xs.length xs.length hi-HT.sIx xs.length 0 lo)
def j2(xs:List V)(lo hi:Option Int):(eB xs lo hi).length<=xs.length:=by
 unfold eB;rw[List.length_take,List.length_drop];omega
abbrev CV(K:PySem.W.Frag):V->Option Int->Option Int->Hp->VK->Prop:=fun x lo hi H Q=>∃ a xs,x=.ref a/\SqT K H a xs /\
 ¬ (HT.sIx xs.length 0 lo=0/\HT.sIx xs.length xs.length hi=xs.length)/\∀ p,H p=none->Q (.ref p) (upd H p (.tup (eB xs lo hi)))
def rN:SlR X (CV X.K):=by
 intro pins s σ H x v vl vu lo hi sl Q I rx hs pl pu h;obtain⟨a,xs,rfl,hx,hw,q⟩:=h;cases rx;obtain⟨its,r,ht,hz⟩:=I.tuple hx
 have hlen:its.toArray.size=xs.length:=by rw[List.size_toArray];exact r.length.symm
 refine⟨"tuple",_,PyProof.Rows.slot_tuple_getitem.lookup,ht.typeIs,?_⟩;refine HT.jz ht hs pl pu (by rw[hlen];exact hw) ?_ (by rw[hlen];exact hz);rw[hlen];refine⟨.ref s.heap.objs.size,_,I.laid (t':=s.toks) (o:=.tup (eB xs lo hi)) (fun b ob q=>Heap.get?_push_of_some _ q) (Nat.le_refl _) ?_,rfl,q _ (I.hok.fresh (Nat.le_refl _))⟩;exact⟨Nat.le_trans (j2 xs lo hi) hz,_,(r.drop (HT.sIx xs.length 0 lo)).take (HT.sIx xs.length xs.length hi-HT.sIx xs.length 0 lo),IsTup.new _ _⟩
abbrev Cr(K:PySem.W.Frag):R2:=fun x y H Q=>∃ a b xs ys,x=.ref a/\y=.ref b/\SqT K H a xs/\SqT K H b ys/\xs≠[]/\xs.length+ys.length<=sizeLine /\
 (ys=[]->Q (.ref a) H)/\(ys≠[]->∀ p,H p=none->Q (.ref p) (upd H p (.tup (xs++ys))))
def Vals.kK(r:Vals xs us):us=[]↔xs=[]:=by
 cases r with
 | nil=>simp
 | cons _ _=>simp
def x9:OpR X (binaryOp .Add) (Cr X.K):=by
 intro pins s σ H x y v u Q I rx ry h;obtain⟨a,b,xs,ys,rfl,rfl,ha,hb,hx,hz,q1,q2⟩:=h;cases rx;cases ry;obtain⟨its,r1,p1,_⟩:=I.tuple ha;obtain⟨its2,r2,p2,_⟩:=I.tuple hb;refine HT.xS p1 p2 (fun z=>hx (r1.kK.mp z)) (fun z=>⟨.ref a,H,I,rfl,q1 (r2.kK.mp z)⟩) (fun z=>?_) (by rw[<-r1.length,<-r2.length];exact hz);refine⟨.ref s.heap.objs.size,_,I.laid (t':=s.toks) (o:=.tup (xs++ys)) (fun b ob q=>Heap.get?_push_of_some _ q) (Nat.le_refl _) ?_,rfl,q2 (fun w=>z (r2.kK.mpr w)) _ (I.hok.fresh (Nat.le_refl _))⟩;exact⟨by rw[List.length_append];exact hz,_,r1.append r2,IsTup.new _ _⟩
end
abbrev ixN(n:Nat)(i:Int):Option Nat:=if 0<=i then(if i<n then some i.toNat else none)else if -(n:Int)<=i then some (i+n).toNat else none
abbrev atI(xs:List α)(i:Int):Option α:=(ixN xs.length i).bind fun j=>xs[j]?
def xJ(h:ixN n i=some j):seqIndex? i n=some j/\j<n/\-(n:Int)<=i/\i<n:=by
 unfold ixN at h;by_cases h0:0<=i
 ·rw[if_pos h0]at h;by_cases h1:i<n
  ·rw[if_pos h1]at h;have e:i.toNat=j:=Option.some.inj h;exact⟨by rw[seqIndex_of h0 h1,e],by omega,by omega,h1⟩
  ·rw[if_neg h1]at h;cases h
 ·rw[if_neg h0]at h;by_cases h1:-(n:Int)<=i
  ·rw[if_pos h1]at h;have e:(i+n).toNat=j:=Option.some.inj h;exact⟨by rw[seqIndex_neg (by omega) h1,e],by omega,h1,by omega⟩
  ·rw[if_neg h1]at h;cases h
def kN(h:atI xs i=some v):∃ j,seqIndex? i xs.length=some j/\xs[j]?=some v/\j<xs.length/\-(xs.length:Int)<=i/\i<xs.length:=by
 unfold atI at h
 cases e:ixN xs.length i with
 | none=>rw[e]at h;cases h
 |some j=>
  rw[e]at h;obtain⟨h1,h2,h3,h4⟩:=xJ e;exact⟨j,h1,h,h2,h3,h4⟩
abbrev pX(b:Expr):Prop:=∀ o i,subscripted b false o i=operate [o,i] (getItem o i)
abbrev IxR(X:Cx)(r:R2):Prop :=
 ∀ (value slice:Expr) (pins:List (Addr × Obj)) (s:Shared) (σ:St) (H:Hp) (x y:V) (v u:Value) (Q:VK),Inv X pins σ H s->RelV x v->RelV y u->r x y H Q ->
  subscripted slice false v u=operate [v,u] (getItem v u)->wpAny (model X.prog X.w) X.A (subscriptTail value slice v u) (EP X pins σ Q) X.xe s
abbrev MtR(X:Cx)(id:String)(r:V->List V->Hp->VK->Prop):Prop :=
 ∀ (pins:List (Addr × Obj)) (s:Shared) (σ:St) (H:Hp) (x:V) (xs:List V) (v:Value) (us:List Value) (Q:VK),Inv X pins σ H s->RelV x v->Vals xs us->r x xs H Q ->
  wpAny (model X.prog X.w) X.A (call (.builtin id) (v::us)) (EP X pins σ Q) X.xe s
section
variable{X:Cx}{a b:Expr}{ta tb:TE}{pos:Pos}
def IxR.or(h:IxR X r)(h':IxR X r'):IxR X (fun x y H Q=>r x y H Q\/r' x y H Q):=by
 intro value slice pins s σ H x y v u Q I rx ry q hs;rcases q with q | q
 ·exact h value slice pins s σ H x y v u Q I rx ry q hs
 ·exact h' value slice pins s σ H x y v u Q I rx ry q hs
def xi{r:R2}(hr:IxR X r)(ha:PE X a ta)(hb:PE X b tb)(hs:pX b):PE X (.Subscript a b pos) (tOp r ta tb):=by
 intro pins s σ H Q I h;exact Subscript_ (uW ha hb I h fun v u s2 x y H2 I2 rx ry q=>hr a b pins s2 σ H2 x y v u Q I2 rx ry q (hs _ _))
abbrev Bz(K:PySem.W.Frag):R2:=fun x y H Q=>∃ p xs i v,x=.ref p/\y=.int i/\SqL K H p xs/\atI xs i=some v/\Q v H
abbrev A6(K:PySem.W.Frag):R2:=fun x y H Q=>∃ p xs i v,x=.ref p/\y=.int i/\SqT K H p xs/\atI xs i=some v/\Q v H
abbrev B7:R2:=fun x y H Q=>∃ z i c,x=.str z/\y=.int i/\z.length<=sizeLine/\atI z.cps.toList i=some c/\Q (.str ⟨#[c]⟩) H
def yw:IxR X (Bz X.K):=by
 intro value slice pins s σ H x y v u Q I rx ry h hs;obtain⟨p,xs,i,z,rfl,rfl,hq,he,q⟩:=h;cases rx;obtain⟨t,rfl⟩:=ry;obtain⟨its,r,pl,hz⟩:=I.list hq;obtain⟨j,h1,h2,h3,h4,h5⟩:=kN he;obtain⟨w,ew,rw'⟩:=r.get h2;have hl:=r.length;have hn:=iT
 have fin:EP X pins σ Q w s:=⟨z,H,I,rw',q⟩
 by_cases h0:0<=i
 ·have hj:i.toNat=j:=by
   rw[seqIndex_of h0 h5]at h1;exact Option.some.inj h1
  exact item_listR pl.isList h0 (by omega) (by rw[hj];simpa using ew) fin hs
 ·have hj:(i+(its.toArray.size:Int)).toNat=j:=by
   rw[seqIndex_neg (by omega) h4]at h1;rw[List.size_toArray,<-hl];exact Option.some.inj h1
  exact subscriptTail_builtinR (x:=w) pl.isList.typeIs slot_list_getitem.lookup
   (wpAny_getItem_list_neg (Q:=fun r s'=>r=w/\EP X pins σ Q r s') pl.isList (by omega) (by rw[List.size_toArray]<;>omega) (by omega) (by rw[hj];simpa using ew) ⟨rfl,fin⟩) hs
def zr:IxR X (A6 X.K):=by
 intro value slice pins s σ H x y v u Q I rx ry h hs;obtain⟨p,xs,i,z,rfl,rfl,hq,he,q⟩:=h;cases rx;obtain⟨t,rfl⟩:=ry;obtain⟨its,r,pl,hz⟩:=I.tuple hq;obtain⟨j,h1,h2,h3,h4,h5⟩:=kN he;obtain⟨w,ew,rw'⟩:=r.get h2;have hl:=r.length;have hn:=iT
 have fin:EP X pins σ Q w s:=⟨z,H,I,rw',q⟩
 exact subscriptTail_builtinR (x:=w) pl.typeIs slot_tuple_getitem.lookup
  (getItem_tuple (j:=j) (Q:=fun r s'=>r=w/\EP X pins σ Q r s') pl (by omega) (by omega) (by rw[List.size_toArray,<-hl];exact h1) (by simpa using ew) ⟨rfl,fin⟩) hs
def zo:IxR X B7:=by
 intro value slice pins s σ H x y v u Q I rx ry h hs;obtain⟨z,i,c,rfl,rfl,hz,he,q⟩:=h;obtain⟨t,rfl⟩:=rx;obtain⟨t',rfl⟩:=ry;obtain⟨j,h1,h2,h3,h4,h5⟩:=kN he
 have hl:z.cps.toList.length=z.length:=by simp[Str.length]
 rw[hl]at h1 h4 h5;have hn:=iT
 exact tail_any (typeIs_str s z t) slot_str_getitem.lookup (getItem_str (c:=c) (by
  have e1:decide (i < -(2 ^ 63:Int))=false:=decide_eq_false (by omega);have e2:decide (i≥2 ^ 63)=false:=decide_eq_false (by omega)
  rw[e1,e2,Bool.or_false]) (by rw[h1];simpa using h2) ⟨.str ⟨#[c]⟩,H,I.tok _,⟨_,rfl⟩,q⟩) hs
abbrev rIx(K:PySem.W.Frag):R2:=fun x y H Q=>Bz K x y H Q\/A6 K x y H Q\/B7 x y H Q
def uG:IxR X (rIx X.K):=yw.or (zr.or zo)
def mX(lo hi:Option Int)(n:Nat):(sliceBounds lo hi none n).1=((HT.sIx n 0 lo:Nat):Int)/\(sliceBounds lo hi none n).2.1=((HT.sIx n n hi:Nat):Int)/\(sliceBounds lo hi none n).2.2=1:=by
 refine⟨?_,?_,rfl⟩
 ·cases lo with
  | none=>simp[sliceBounds,HT.sIx]
  |some i=>
   simp only[sliceBounds,HT.sIx,Option.getD_none,show(1:Int) > 0 by decide,if_true];by_cases h:i<0
   ·simp only[h,if_true]<;>omega
   ·simp only[h,if_false]<;>omega
 ·cases hi with
  | none=>simp[sliceBounds,HT.sIx]
  |some i=>
   simp only[sliceBounds,HT.sIx,Option.getD_none,show(1:Int) > 0 by decide,if_true];by_cases h:i<0
   ·simp only[h,if_true]<;>omega
   ·simp only[h,if_false]<;>omega
def lX(its:List Value)(lo hi:Option Int):slicePick its.toArray lo hi none=((its.drop (HT.sIx its.length 0 lo)).take (HT.sIx its.length its.length hi-HT.sIx its.length 0 lo)).toArray:=by
 obtain⟨h1,h2,h3⟩:=mX lo hi its.toArray.size;unfold slicePick;rw[h1,h2,h3];simp only[sliceRange_one,pick_run,List.size_toArray]<;>rfl
abbrev CY(K:PySem.W.Frag):V->Option Int->Option Int->Hp->VK->Prop:=fun x lo hi H Q=>∃ a xs,x=.ref a/\SqL K H a xs/\∀ p,H p=none->Q (.ref p) (upd H p (.lst (eB xs lo hi)))
def pP:SlR X (CY X.K):=by
 intro pins s σ H x v vl vu lo hi sl Q I rx hs pl pu h;obtain⟨a,xs,rfl,hx,q⟩:=h;cases rx;obtain⟨its,r,ht,hz⟩:=I.list hx;have hlen:=r.length;refine⟨"list",_,slot_list_getitem.lookup,ht.isList.typeIs,?_⟩;refine wpAny_getItem_list_slice ht.isList hs pl pu .none (by simp) ?_ (by rw[List.size_toArray]<;>omega);rw[lX,<-hlen];refine⟨.ref s.heap.objs.size,_,I.laid (t':=s.toks) (o:=.lst (eB xs lo hi)) (fun b ob q=>Heap.get?_push_of_some _ q) (Nat.le_refl _) ?_,rfl,q _ (I.hok.fresh (Nat.le_refl _))⟩;exact⟨Nat.le_trans (j2 xs lo hi) hz,_,0,(r.drop (HT.sIx xs.length 0 lo)).take (HT.sIx xs.length xs.length hi-HT.sIx xs.length 0 lo),Heap.get?_push_size _ rfl⟩
abbrev eH:V->Bool
 | .non=>true
 | .bl _=>true
 | .int _=>true
 | .str _=>true
 | _=>false
abbrev eqV:V->V->Bool
 | .non,.non=>true
 | .bl a,.bl b=>a == b
 | .bl a,.int b=>(if a then 1 else 0) == b
 | .int a,.bl b=>a == (if b then 1 else 0)
 | .int a,.int b=>a == b
 | .str a,.str b=>a == b
 | _,_=>false
def AM(ry:RelV y u)(rx:RelV x v)(fy:eH y=true)(fx:eH x=true):SeqAt.EqAt A s u v (eqV y x):=by
 cases y with
 |non=>
  cases ry
  cases x with
  | non=>cases rx;exact SeqAt.EqAt.same _
  | bl b=>cases rx;exact SeqAt.EqAt.none_bool b
  | int b=>obtain⟨t,rfl⟩:=rx;exact SeqAt.EqAt.none_int b t
  | str b=>obtain⟨t,rfl⟩:=rx;exact SeqAt.EqAt.none_str b t
  | _=>exact absurd (show false=true from fx) Bool.false_ne_true
 |bl a=>
  cases ry
  cases x with
  | non=>cases rx;exact SeqAt.EqAt.bool_none a
  | bl b=>cases rx;exact SeqAt.EqAt.bool_bool a b
  | int b=>obtain⟨t,rfl⟩:=rx;exact SeqAt.EqAt.bool_int a b t
  | str b=>obtain⟨t,rfl⟩:=rx;exact SeqAt.EqAt.bool_str a b t
  | _=>exact absurd (show false=true from fx) Bool.false_ne_true
 |int a=>
  obtain⟨t',rfl⟩:=ry
  cases x with
  | non=>cases rx;exact SeqAt.EqAt.int_none a t'
  | bl b=>cases rx;exact SeqAt.EqAt.int_bool a t' b
  | int b=>obtain⟨t,rfl⟩:=rx;exact SeqAt.EqAt.int_int a t' b t
  | str b=>obtain⟨t,rfl⟩:=rx;exact SeqAt.EqAt.int_str a t' b t
  | _=>exact absurd (show false=true from fx) Bool.false_ne_true
 |str a=>
  obtain⟨t',rfl⟩:=ry
  cases x with
  | non=>cases rx;exact SeqAt.EqAt.str_none a t'
  | bl b=>cases rx;exact SeqAt.EqAt.str_bool a t' b
  | int b=>obtain⟨t,rfl⟩:=rx;exact SeqAt.EqAt.str_int a t' b t
  | str b=>obtain⟨t,rfl⟩:=rx;exact SeqAt.EqAt.str_str a t' b t
  | _=>exact absurd (show false=true from fx) Bool.false_ne_true
 | _=>exact absurd (show false=true from fy) Bool.false_ne_true
abbrev eqU(x:V)(u:Value):Bool:=match u with
 | .none=>eqV .non x
 | .bool b=>eqV (.bl b) x
 | .int i _=>eqV (.int i) x
 | .str z _=>eqV (.str z) x
 | _=>false
def tK(r:RelV y u)(f:eH y=true):eqU x u=eqV y x:=by
 cases y with
 | non=>cases r;rfl
 | bl b=>cases r;rfl
 | int i=>obtain⟨t,rfl⟩:=r;rfl
 | str z=>obtain⟨t,rfl⟩:=r;rfl
 | _=>exact absurd (show false=true from f) Bool.false_ne_true
def gQ:∀ {xs:List V} {us:List Value},Vals xs us->xs.all eH=true->us.any (eqU x)=xs.any fun y=>eqV y x
 | _,_,.nil,_=>rfl
 | y::xs,u::us,.cons r t,f=>by
  rw[List.all_cons,Bool.and_eq_true]at f;rw[List.any_cons,List.any_cons,tK r f.1,gQ t f.2]
def fW(rx:RelV x v)(fx:eH x=true):∀ {xs:List V} {us:List Value},Vals xs us->xs.all eH=true->∀ u∈us,SeqAt.EqAt A s u v (eqU x u)
 | _,_,.nil,_=>fun u hu=>by cases hu
 | y::xs,u::us,.cons r t,f=>fun u' hu=>by
  rw[List.all_cons,Bool.and_eq_true]at f;rcases List.mem_cons.mp hu with rfl | hu
  ·rw[tK r f.1];exact AM r rx f.1 fx
  ·exact fW rx fx t f.2 u' hu
abbrev inV(x:V)(xs:List V):Bool:=xs.any fun y=>eqV y x
abbrev rIn(K:PySem.W.Frag)(neg:Bool):R2:=fun x y H Q=>∃ p xs,y=.ref p/\(SqL K H p xs\/SqT K H p xs)/\eH x=true/\xs.all eH=true/\Q (.bl (if neg then !inV x xs else inV x xs)) H
def rR:OpR X (compareOp .In) (rIn X.K false):=by
 intro pins s σ H x y v u Q I rx ry h;obtain⟨p,xs,rfl,hq,fx,fs,q⟩:=h;cases ry;rcases hq with hq | hq
 ·obtain⟨its,r,pl,hz⟩:=I.list hq;refine SeqAt.in_listAt (eqU x) pl.isList (fun w hw=>fW rx fx r fs w (by simpa using hw)) ⟨.bl _,H,I,rfl,?_⟩;rw[show its.toArray.any (eqU x)=its.any (eqU x) by simp,gQ r fs];exact q
 ·obtain⟨its,r,pl,hz⟩:=I.tuple hq;refine SeqAt.in_tupleAt (eqU x) pl (fun w hw=>fW rx fx r fs w (by simpa using hw)) ⟨.bl _,H,I,rfl,?_⟩;rw[show its.toArray.any (eqU x)=its.any (eqU x) by simp,gQ r fs];exact q
def nY:OpR X (compareOp .NotIn) (rIn X.K true):=by
 intro pins s σ H x y v u Q I rx ry h;obtain⟨p,xs,rfl,hq,fx,fs,q⟩:=h;cases ry;rcases hq with hq | hq
 ·obtain⟨its,r,pl,hz⟩:=I.list hq;refine SeqAt.notIn_listAt (eqU x) pl.isList (fun w hw=>fW rx fx r fs w (by simpa using hw)) ⟨.bl _,H,I,rfl,?_⟩;rw[show its.toArray.any (eqU x)=its.any (eqU x) by simp,gQ r fs];exact q
 ·obtain⟨its,r,pl,hz⟩:=I.tuple hq;refine SeqAt.notIn_tupleAt (eqU x) pl (fun w hw=>fW rx fx r fs w (by simpa using hw)) ⟨.bl _,H,I,rfl,?_⟩;rw[show its.toArray.any (eqU x)=its.any (eqU x) by simp,gQ r fs];exact q
def bC.or(h:bC X f r)(h':bC X f r'):bC X f (fun xs H Q=>r xs H Q\/r' xs H Q):=by
 intro pins s σ H xs us Q I rs q;rcases q with q | q
 ·exact h pins s σ H xs us Q I rs q
 ·exact h' pins s σ H xs us Q I rs q
def mG:bC X (.type "list") (fun xs H Q=>∃ p ys,xs=[.ref p]/\(SqL X.K H p ys\/SqT X.K H p ys)/\∀ l,H l=none->Q (.ref l) (upd H l (.lst ys))):=by
 intro pins s σ H xs us Q I r h;obtain⟨p,ys,rfl,hq,q⟩:=h;obtain⟨u,rfl,rx⟩:=vals1 r;cases rx
 have fin:∀ (its:List Value),Vals ys its->ys.length<=sizeLine->∀ (h':Heap) (c':Nat),(∀ b o',s.heap.get? b=some o'->h'.get? b=some o') ->
   h'.get? s.heap.objs.size=some { cls:=.type "list",dict:=none,data:=.seq its.toArray c',slots:=#[] }->EP X pins σ Q (.ref s.heap.objs.size) { s with heap:=h' }:=fun its r' hz h' c' kp e =>
  ⟨.ref s.heap.objs.size,_,I.laid (t':=s.toks) kp (Nat.le_refl _) (show bD X.prog X.w _ h' _ (.lst ys)from⟨hz,its,c',r',e⟩),rfl,q _ (I.hok.fresh (Nat.le_refl _))⟩
 rcases hq with hq | hq
 ·obtain⟨its,r',pl,hz⟩:=I.list hq;have hlen:=r'.length;obtain⟨o,ho,hc,n,hd⟩:=pl.isList;exact call_list_seq p (.inl rfl) ho hc hd (fun h' c' kp e=>fin its r' hz h' c' kp e) (by simp only[List.size_toArray]<;>omega)
 ·obtain⟨its,r',pl,hz⟩:=I.tuple hq;have hlen:=r'.length;obtain⟨o,ho,hc,n,hd⟩:=pl;exact call_list_seq p (.inr rfl) ho hc hd (fun h' c' kp e=>fin its r' hz h' c' kp e) (by simp only[List.size_toArray]<;>omega)
abbrev tyV(K:PySem.W.Frag)(T:String)(x:V)(H:Hp):Prop:=match x with
 | .str _=>T = "str"
 | .int _=>T = "int"
 | .ref p=>(T = "list" /\ ∃ xs,SqL K H p xs)\/(T = "tuple" /\ ∃ o,K.lookup p=some o/\o.cls=.type "tuple" /\ o.dict=none) \/
   (T = "dict" /\ ((∃ kvs,H p=some (.dK kvs))\/∃ kvs,H p=some (.dT kvs)))\/(T = "set" /\ ∃ S n,H p=some (.set S n))
 | _=>False
def As(I:Inv X pins σ H s)(r:RelV x v)(ty:tyV X.K T x H) :
  s.TypeIs v T/\∀ a,v=.ref a->∃ ob,s.heap.get? a=some ob/\ob.dict=none:=by
 cases x with
 |str z=>
  obtain⟨t,rfl⟩:=r;cases(show T = "str" from ty);exact⟨typeIs_str s z t,fun _ e=>nomatch e⟩
 |int i=>
  obtain⟨t,rfl⟩:=r;cases(show T = "int" from ty);exact⟨typeIs_int s i t,fun _ e=>nomatch e⟩
 |ref p=>
  cases r
  rcases ty with⟨rfl,xs,hq⟩ | ⟨rfl,o,hk,hc,hd⟩ | ⟨rfl,hk⟩ | ⟨rfl,S,n,hk⟩
  ·obtain⟨its,_,pl,_⟩:=I.list hq;refine⟨pl.isList.typeIs,fun a e=>?_⟩;cases e;obtain⟨o,n,e,c,hd,_⟩:=pl;exact⟨o,e,hd⟩
  ·refine⟨⟨o,I.kIn p o hk,hc⟩,fun a e=>?_⟩;cases e;exact⟨o,I.kIn _ o hk,hd⟩
  ·have z:∃ o,s.heap.get? p=some o/\o.ExactDict:=by
    rcases hk with⟨kvs,hk⟩ | ⟨kvs,hk⟩
    ·obtain⟨_,_,_,_,o,_,_,e,ex,_⟩:=I.hok p _ hk;exact⟨o,e,ex⟩
    ·obtain⟨_,_,_,_,o,_,_,e,ex,_⟩:=I.hok p _ hk;exact⟨o,e,ex⟩
   obtain⟨o,e,ex⟩:=z;refine⟨⟨o,e,ex.1⟩,fun a e2=>?_⟩;cases e2;exact⟨o,e,ex.2.1⟩
  ·obtain⟨o,_,_,_,e,ex,_⟩:=I.hok p _ hk;refine⟨⟨o,e,ex.1⟩,fun a e2=>?_⟩;cases e2;exact⟨o,e,ex.2.1⟩
 | _=>exact False.elim ty
abbrev tBM(K:PySem.W.Frag)(T:String)(r:V->List V->Hp->VK->Prop)(to:TE)(t:TA):TE:=fun σ H Q=>to σ H fun x H1=>tyV K T x H1/\t σ H1 fun xs H2=>r x xs H2 Q
variable{o e:Expr}{es:List Expr}{to:TE}{t:TA}{name:Str}{apos cpos:Pos}{T id:String}{r:V->List V->Hp->VK->Prop}
def xn(pa:PlainAttrs T)(slot:Slot T name id)(hty:typeOf (.builtin id)=pure (.type "method_descriptor"))(hm:MtR X id r)(ho:PE X o to)(ha:PA X (e::es) t)
 (hbase:attributeBase o name X.env (eval o X.env)=eval o X.env)
 (hfew:((backTo cpos (starEach (e::es) X.env)).all (fun x=>!x.1)&&(backToKw cpos (keywordEach [] X.env)).all (fun x=>x.1.isSome)
   && decide ((e::es).length+([]:List Keyword).length+(if([]:List Keyword).isEmpty then 0 else 1)<30))=true:=by rfl)
 (hline:(apos.endLine == cpos.line)=true)(hs:starEach (e::es) X.env=(false,eval e X.env)::starEach es X.env)(hplain:(backTo cpos (starEach es X.env)).any (·.1)=false) :
  PE X (.Call (.Attribute o name apos) (e::es) [] cpos) (tBM X.K T r to t):=by
 intro pins s σ H Q I h;refine wpAny_Call_method_late hbase hfew hline rfl (thn (ho pins s σ H _ I h) fun v s1 ⟨x,H1,I1,r1,ty,q1⟩=>?_);obtain⟨h1,h2⟩:=As I1 r1 ty;refine⟨T,id,pa,slot,hty,h1,h2,?_⟩;have hA:=ha cpos pins s1 σ H1 _ I1 q1;rw[hs]at hA ⊢;refine Calls.callWith_builtin (by show(false || (backTo cpos (starEach es X.env)).any (·.1))=false;rw[hplain]<;>rfl) (Calls.evalArgs_plain ?_);exact thn hA fun us s2 ⟨vs,H2,I2,r2,q2⟩=>hm pins s2 σ H2 x vs v us Q I2 r1 r2 q2
end
abbrev MtM(X:Cx)(id:String)(r:V->List V->Hp->VK->Prop):Prop :=
 ∀ (pins:List (Addr × Obj)) (s:Shared) (σ:St) (H:Hp) (x:V) (xs:List V) (v:Value) (us:List Value) (Q:VK),Inv X pins σ H s->RelV x v->Vals xs us->r x xs H Q ->
  wpAny (model X.prog X.w) X.A (call (.builtin id) (v::us)) (EP X pins σ Q) X.xe s
def Vals.one:∀ {x:V} {us:List Value},Vals [x] us->∃ u,us=[u]/\RelV x u
 | _,_,.cons r .nil=>⟨_,rfl,r⟩
def Vals.rep(h:Vals xs us):∀ k:Nat,Vals (List.replicate k xs).flatten (List.replicate k us).flatten
 | 0=>.nil
 | k+1=>by
  rw[List.replicate_succ,List.replicate_succ,List.flatten_cons,List.flatten_cons];exact Vals.append h (Vals.rep h k)
def foldl_rep(its:List Value):∀ (k:Nat) (acc:List Value),
  List.foldl (fun x1 x2=>x1++x2) acc.toArray (List.replicate k its.toArray)=(acc++(List.replicate k its).flatten).toArray
 | 0,acc=>by simp
 | k+1,acc=>by
  have e:acc.toArray++its.toArray=(acc++its).toArray:=by simp
  have e2:(acc++its)++(List.replicate k its).flatten=acc++(List.replicate (k+1) its).flatten:=by
   rw[List.replicate_succ,List.flatten_cons,List.append_assoc]
  rw[<-e2,<-foldl_rep its k (acc++its),<-e,List.replicate_succ,List.foldl_cons]
section
variable{X:Cx}{pins:List (Addr × Obj)}{σ:St}{H:Hp}{s:Shared}{l b:Addr}{xs ys zs:List V}
def Inv.D4{its its':List Value}{n:Nat}{f:Array Value->Array Value}{t':Nat}(I:Inv X pins σ H s)(hH:H l=some (.lst xs))
 (e:s.heap.get? l=some { cls:=.type "list",data:=.seq its.toArray n })(hf:f its.toArray=its'.toArray)(hv:Vals ys its')(hz:ys.length<=sizeLine) :
  Inv X pins σ (upd H l (.lst ys)) { s with heap:=s.heap.update l (Obj.mapSeq f),toks:=t' }:=by
 have q:=PySem.IsL.update e f;rw[hf]at q;refine I.write (x:=l) (e:=l) (by rw[hH];exact trivial) (.inl rfl) (fun b' u hb hu=>(Heap.get?_update_other s.heap (Obj.mapSeq f) (Ne.symm hb)).trans hu) ⟨_,q⟩ ?_;exact⟨hz,its',_,hv,q⟩
def Inv.qV(I:Inv X pins σ H s)(hv:Vals ys its)(hz:ys.length<=sizeLine) :
  Inv X pins σ (upd H s.heap.objs.size (.lst ys)) { s with heap:=s.heap.push { cls:=.type "list",data:=.seq its.toArray },toks:=t' } :=
 I.laid (fun _ _ q=>Heap.get?_push_of_some _ q) (Nat.le_refl _) ⟨hz,its,0,hv,Heap.get?_push_size _ rfl⟩
def Inv.fresh(I:Inv X pins σ H s):H s.heap.objs.size=none:=I.hok.fresh (Nat.le_refl _)
def Inv.qD(I:Inv X pins σ H s)(hH:H l=some (.lst xs)):xs.length<=sizeLine/\∃ (its:List Value) (n:Nat),Vals xs its/\xs.length=its.length/\s.heap.get? l=some { cls:=.type "list",data:=.seq its.toArray n }:=by
 obtain⟨z,its,n,r,e⟩:=I.hok l _ hH;exact⟨z,its,n,r,r.length,e⟩
def vA(h:n<=sizeLine):Builtin.List.listTooLong n=false:=by
 unfold Builtin.List.listTooLong;exact decide_eq_false (by omega)
end
section
variable{X:Cx}
abbrev pd:V->List V->Hp->VK->Prop:=fun x vs H Q=>∃ l xs y,x=.ref l/\vs=[y]/\H l=some (.lst xs)/\xs.length<sizeLine/\Q .non (upd H l (.lst (xs++[y])))
def l7:MtM X "list.append" pd:=by
 intro pins s σ H x vs v us Q I rx rv h;obtain⟨l,xs,y,rfl,rfl,hH,hz,q⟩:=h;cases rx;obtain⟨u,rfl,ru⟩:=rv.one;obtain⟨z,its,n,r,hl,e⟩:=I.qD hH;refine call_meets F.slot_list_append ⟨_,e,rfl⟩ F.entry_list_append (F.args_list_append_2 _ _) (PySem.list_append l its.toArray n u (by rw[List.size_toArray];omega)) ⟨e,?_⟩;refine⟨.non,_,I.D4 (its':=its++[u]) hH e (by simp) (r.append (.cons ru .nil)) ?_,rfl,q⟩;rw[List.length_append,List.length_singleton];omega
abbrev Dl:R2:=fun x y H Q=>∃ l b xs zs,x=.ref l/\y=.ref b/\H l=some (.lst xs)/\H b=some (.lst zs)/\xs.length+zs.length<=sizeLine/\∀ p,H p=none->Q (.ref p) (upd H p (.lst (xs++zs)))
def AQ:OpR X (binaryOp .Add) Dl:=by
 intro pins s σ H x y v u Q I rx ry h;obtain⟨l,b,xs,zs,rfl,rfl,hH,hB,hz,q⟩:=h;cases rx;cases ry;obtain⟨z,its,n,r,hl,e⟩:=I.qD hH;obtain⟨z2,its2,n2,r2,hl2,e2⟩:=I.qD hB;refine PySem.P.add_list e e2 ?_ (by rw[List.size_toArray,List.size_toArray];omega)
 have ea:its.toArray++its2.toArray=(its++its2).toArray:=by simp
 rw[ea];exact⟨.ref _,_,I.qV (t':=s.toks) (r.append r2) (by rw[List.length_append];omega),rfl,q _ I.fresh⟩
abbrev DD:R2:=fun x y H Q=>∃ l k xs,x=.ref l/\y=.int k/\H l=some (.lst xs)/\-(2 ^ 63)<=k/\k<2 ^ 63/\xs.length*k.toNat<=sizeLine /\
 ∀ p,H p=none->Q (.ref p) (upd H p (.lst (List.replicate k.toNat xs).flatten))
def len_rep(xs:List α)(k:Nat):(List.replicate k xs).flatten.length=k*xs.length:=by
 induction k with
 | zero=>simp
 | succ k ih=>rw[List.replicate_succ,List.flatten_cons,List.length_append,ih,Nat.succ_mul,Nat.add_comm]
def zA:OpR X (binaryOp .Mult) DD:=by
 intro pins s σ H x y v u Q I rx ry h;obtain⟨l,k,xs,rfl,rfl,hH,h1,h2,hz,q⟩:=h;cases rx;obtain⟨t,rfl⟩:=ry;obtain⟨z,its,n,r,hl,e⟩:=I.qD hH
 have hlen:its.toArray.size*k.toNat<=sizeLine:=by rw[List.size_toArray,<-hl];exact hz
 have hcap:¬ its.toArray.size*k.toNat > (2 ^ 63-1) / 8:=by
  have:(sizeLine:Nat)<=(2 ^ 63-1) / 8:=by decide
  omega
 have hfit:¬ (!Builtin.List.listFitsIndex k)=true:=by
  rw[fitsIndex_both h1 h2];exact Bool.false_ne_true
 have hlong:¬ Builtin.List.listTooLong (its.toArray.size*k.toNat)=true:=by
  rw[vA hlen];exact Bool.false_ne_true
 have hnew:List.foldl (fun x1 x2=>x1++x2) #[] (List.replicate (if its.toArray.isEmpty=true then 0 else k.toNat) its.toArray)=(List.replicate k.toNat its).flatten.toArray:=by
  have f0:∀ m:Nat,List.foldl (fun x1 x2=>x1++x2) #[] (List.replicate m its.toArray)=(List.replicate m its).flatten.toArray:=fun m=>by
   have:=foldl_rep its m [];rw[List.nil_append]at this;exact this
  rw[f0]
  cases its with
  | nil=>simp
  | cons a r'=>rw[if_neg (by simp)]
 refine wpAny_binaryOp_repeat_ref (T := "list") (U := "int") (by decide) ⟨_,e,rfl⟩ (fun s'=>typeIs_int s' k t) noFill_list_mul F.fills_int_mul F.slot_int_rmul repeat_list F.slot_int_index.lookup
  (call_meets F.slot_int_rmul (typeIs_int s k t) F.entry_int_rmul (F.args_int_rmul_2 _ _) (int___rmul___int_list k t l its.toArray n)
   ⟨e,rfl,⟨_,e,rfl⟩,call_meets F.slot_list_mul ⟨_,e,rfl⟩ F.entry_list_mul (F.args_list_mul_2 _ _) (AutoListH.list___mul___list_int_3 l its.toArray n k t hfit hcap hlong) ⟨e,?_⟩⟩)
 rw[hnew];exact⟨.ref _,_,I.qV (t':=s.toks) (r.rep k.toNat) (by rw[len_rep,Nat.mul_comm];exact hz),rfl,q _ I.fresh⟩
end
section
variable{prog:Program}{w:World}{A:Around}{E:Value->Shared->Prop}{s:Shared}
end
section
variable{X:Cx}
end
section
variable{κ:Type} [DecidableEq κ]
def KV.length(r:KV kvs vs):kvs.length=vs.length:=Paired.length r
end
def rH(r:RelV (kV k) u):(bp P w).is k u=true:=by
 cases k with
 | inl i=>obtain⟨t,e⟩:=(show ∃ t,u=Value.int i t from r);subst e;exact oE P w i t
 | inr x=>obtain⟨t,e⟩:=(show ∃ t,u=Value.str x t from r);subst e;exact j1 P w x t
def l4:∀ {ks:List Key} {us:List Value},Vals (ks.map kV) us->ItemsAre (bp P w) ks us
 | [],_,r=>by rw[List.map_nil]at r;cases r;exact .nil
 | k::ks,_,r=>by
  rw[List.map_cons]at r
  cases r with
  | cons h t=>exact .cons (rH h) (l4 t)
@[reducible]noncomputable def KT(H:Hp):List (List Key × V)->List (List Key × Addr × Value)->Prop:=Paired fun p q=>p.1=q.1/\H q.2.1=some (.tup (p.1.map kV))/\RelV p.2 q.2.2
section
variable{P:Program}{w:World}{H:Hp}{h:Heap}{a:Addr}
def wL(ok:HOk P w H h)(e:Rd H a u):bD P w H h a u:=e.ok ok
def C0(ok:HOk P w H h)(e:Rd H a (.dK kvs)):kvs.length<=sizeLine/\(a == sysModules)=false/\∃ vs,KV kvs vs/\h.DictOf (bp P w) a vs :=
 show bD P w H h a (.dK kvs)from wL ok e
def BD(ok:HOk P w H h)(e:H a=some (.tup (ks.map kV))):(tupleKind (bp P w)).is h ks a:=by
 obtain⟨_,its,r,o,h1,h2,n,h3⟩:=(show bD P w H h a (.tup (ks.map kV))from ok a _ e)
 exact⟨o,its.toArray,n,h1,h2,h3,by simpa using l4 r⟩
def Cf(ok:HOk P w H h)(e:Rd H a (.dT kvs)):kvs.length<=sizeLine/\(a == sysModules)=false /\
  ∃ xs,KT H kvs xs/\h.DictOfH (tupleKind (bp P w)) a xs:=by
 obtain⟨z,y,xs,r,o,es,ep,h1,h2,h3,h4,h5⟩:=(show bD P w H h a (.dT kvs)from wL ok e)
 refine⟨z,y,xs,r,o,es,ep,h1,h2,h3,h4,fun x hx=>?_,h5⟩
 have all:∀ {l:List (List Key × V)} {m:List (List Key × Addr × Value)},KT H l m->∀ x∈m,(tupleKind (bp P w)).is h x.1 x.2.1:=by
  intro l m q
  induction q with
  | nil=>intro x hx;exact nomatch hx
  |@cons p q ps qs hq t ih=>
   intro x hx;rcases List.mem_cons.mp hx with e | hx
   ·subst e;exact BD ok (by rw[<-hq.1];exact hq.2.1)
   ·exact ih x hx
 exact all r x hx
def Cm(ok:HOk P w H h)(e:H a=some (.dT kvs)):kvs.length<=sizeLine/\(a == sysModules)=false /\
  ∃ xs,KT H kvs xs/\h.DictOfH (tupleKind (bp P w)) a xs:=Cf ok (.inl e)
end
section
variable{X:Cx}{pins:List (Addr × Obj)}{σ:St}{H:Hp}{s:Shared}{a:Addr}{y v:V}{u r:Value}{o:Option V}{A:Around}{E:Value->Shared->Prop}
end
section
variable{X:Cx}{pins:List (Addr × Obj)}{σ:St}{H:Hp}{s:Shared}{a:Addr}{kvs:List (Key × V)}{k:Key}{u:Value}{A:Around}{E:Value->Shared->Prop}
def CI(I:Inv X pins σ H s)(e:Rd H a (.dK kvs))(h:∀ t s',Inv X pins σ H s'->Q (.int kvs.length t) s'):wpAny (model X.prog X.w) A (call (.builtin "len") [.ref a]) Q E s:=by
 obtain⟨z,hd,vs,rel,dd⟩:=C0 I.hok e;refine call_len_dict hd dd (by rw[<-rel.length];rw[sizeLine_eq]at z;omega) ?_;rw[<-rel.length];exact h _ _ (I.tok _)
end
abbrev rG(i:Expr):Prop:=∀ ov iv,subscripted i false ov iv=operate [ov,iv] (getItem ov iv)
def yj{prog:Program}{w:World}{A:Around}{E:Value->Shared->Prop}{s:Shared}{env:Env}{value slice:Expr}{pos:Pos}{T id:String}{Q:Value->Shared->Prop}
 (hl:typeLookup (.type T) "__getitem__" = pure (some (.builtin id)))(hs:rG slice)
 (h:wpAny (model prog w) A (eval value env) (fun o s₁=>wpAny (model prog w) A (eval slice env) (fun i s₂=>s₂.TypeIs o T/\wpAny (model prog w) A (getItem o i) Q E s₂) E s₁) E s) :
  wpAny (model prog w) A (eval (.Subscript value slice pos) env) Q E s:=by
 refine Subscript_ (wpAny_mono h (fun o s₁ h₁=>wpAny_mono h₁ (fun i s₂ h₂=>?_) fun _ _ x=>x) fun _ _ x=>x);obtain⟨hT,h₂⟩:=h₂;unfold subscriptTail;refine wpAny_bind ?_;rw[getitemInPython_of_ne hT.not_modules];refine wpAny_bind (wpAny_specialOf hT hl ?_)
 have fin:wpAny (model prog w) A (subscripted slice false o i) (fun r s₃=>wpAny (model prog w) A (letTemporaryGo value o r >>= fun _=>pure r) Q E s₃) E s₂:=by
  rw[hs o i];exact wpAny_operating (wpAny_mono h₂ (fun r s₃ h₃=>wpAny_bind (wpAny_letTemporaryGo (wpAny_pure h₃))) fun _ _ x=>x)
 first
  | exact wpAny_pure (wpAny_bind fin)
  | exact wpAny_bind (wpAny_pure (wpAny_bind fin))
  | exact wpAny_bind fin
section
variable{X:Cx}{o i e value:Expr}{pos pos' tpos:Pos}{td ty tv:TE}
end
section
variable{X:Cx}{pos:Pos}
end
section
variable{X:Cx}{pins:List (Addr × Obj)}{σ:St}{H:Hp}{s:Shared}{a:Addr}{y d:V}{u r:Value}{o:Option V}{A:Around}{E:Value->Shared->Prop}
end
section
variable{X:Cx}{o e f:Expr}{apos cpos:Pos}{td ty tx:TE}
end
section
variable{X:Cx}{pins:List (Addr × Obj)}{σ:St}{H:Hp}{s:Shared}{a:Addr}{kvs:List (Key × V)}{A:Around}{E:Value->Shared->Prop}
end
section
variable{X:Cx}{pins:List (Addr × Obj)}{σ:St}{H:Hp}{s:Shared}{a:Addr}{y:V}{u:Value}{A:Around}{E:Value->Shared->Prop}
end
end L2
namespace Att
open PySem PySem.W PySem.Calls PyProof.Rows
def jU:∀ (ns:List Int) (vs:List Value),WellAll P h vs (ns.map WData.int)->IntsAre vs ns:=by
 intro ns
 induction ns with
 |nil=>
  intro vs w;rw[List.map_nil]at w;cases w;exact .nil
 |cons n ns ih=>
  intro vs w;rw[List.map_cons]at w
  cases w with
  |cons a b=>
   cases a;exact .cons _ _ (ih _ b)
def tG{l:OpenLaw}{n:Nat}(hn:l.most=some n){P:Params}{h:Heap}{args:List WData}{vals:List Value}
 (hpre:l.row.toRowW.claim.pre args=true)(hwl:WellAll P h vals args) :
  ∃ a vs ns,vals=[Value.ref a]/\args=[WData.list (ns.map WData.int)]/\h.get? a=some { cls:=.type "list",data:=.seq vs.toArray }/\IntsAre vs ns/\ns.length<=n:=by
 have hsh:WShape.hasAll [] args [.list .int]=true:=(pre_splitW hpre).1;have hc:l.pre.holds [] { args:=args }=true:=(pre_splitW hpre).2;obtain⟨d,r,rfl,h1,h2⟩:=hasAllW_cons hsh;obtain rfl:=hasAllW_nil h2;obtain⟨xs,rfl,h3⟩:=hasW_list h1;obtain⟨ns,rfl⟩:=items_int h3
 have hlen:ns.length<=n:=by
  unfold OpenLaw.pre at hc
  have h4:(WTm.not (.lt (.lit (.int (n:Int))) (.len (.arg 0)))).holds [] { args:=[.list (ns.map .int)] }=true:=by
   have h4:=(holds_andW hc).1;rw[hn]at h4;exact h4
  have h5:=condW_of h4 (w_not (w_lt w_lit (w_len_list (w_arg rfl))));rw[List.length_map]at h5;refine Nat.le_of_not_lt fun q=>?_
  have q':(n:Int)<((ns.length:Nat):Int):=by omega
  first
   | (rw[decide_eq_true q']at h5;exact absurd h5 (by decide))
   | (simp at h5;omega)
 cases hwl with
 |cons w1 w2=>
  cases w2
  cases w1 with
  | list ho hall=>exact⟨_,_,ns,rfl,rfl,ho,jU ns _ hall,hlen⟩
def uo(l:OpenLaw)(args:List WData):l.row.toRowW.claim.post args (.bool true) args=true :=
 postW_of (r:=l.row.toRowW) (X:=(true == true))
  (show WShape.has [] (.bool true) .bool=true by first | rfl | decide | simp[WShape.has,WShape.arms,WShape.armsAll])
  (show(WTm.eq .res (.lit (.bool true))).value [] { args:=args,res:=some (.bool true),after:=args }=some (.bool (true == true))from w_eq_bool (w_res rfl) w_lit) rfl
def oN{l:OpenLaw}{n:Nat}{q:Program}{loose:List Str}{XP:(Str->Option Value)->Heap->Prop}{YP:World->Heap->Prop}{d:DefRec}
 (hn:l.most=some n)(hdf:d.params.defaults=[])
 (call:∀ (w:World) (s₀ s₁:Shared) (mg mb:Str->Option Value) (fa:Addr) (o:Obj) (pm cd doc:Value) (a:Addr) (vs:List Value) (ns:List Int),
   Ground q loose [] XP w s₀ mg mb s₁.heap->YP w s₁.heap ->
   s₁.heap.get? fa=some o->o.data=.func (docDef d.name d.params d.body d.scope pm cd doc)->s₁.heap.CodeRec cd d.name->mg d.name=some (.ref fa) ->
   s₁.heap.get? a=some { cls:=.type "list",data:=.seq vs.toArray }->IntsAre vs ns->ns.length<=n->s₁.gens=#[] ->
   codeAny (model l.prog w) callerA (.call (.ref fa) ⟨[.ref a],[]⟩) (fun r s'=>r=.ok (.ret (.bool true))/\OldK s₁.heap s'.heap/\s'.os=s₁.os/\AllBare s'.gens) s₁) :
  WalkO q loose XP YP l.row.toRowW d [] (fun f vs=>PySem.call f vs):=by
 intro w s₀ s₁ mg mb G Y fa o pm cd doc dV kV ho hd hcd hD hmg hg args vals as hpre hlay hrd hwl hlo;obtain rfl:dV=.none:=Dflts.none hD hdf;obtain rfl:kV=.none:=Dflts.noKw hD;obtain⟨a,vs,ns,rfl,rfl,hobj,hints,hlen⟩:=tG hn hpre hwl;refine enter_call (codeAny_mono (call w s₀ s₁ mg mb fa o pm cd doc a vs ns G Y ho (fd_plain hd) hcd hmg hobj hints hlen hg) fun r s' hq=>?_);obtain⟨rfl,h2,h3,h4⟩:=hq;exact⟨.inl ⟨.bool true,.bool true,[],rfl,fun _=>rfl,.bool true,uo l _,fun _=>⟨List.Pairwise.nil,fun _ hm=>(nomatch hm)⟩⟩,h2,h3,h4⟩
section
variable{prog:Program}{w:World}{A:Around}{E:Value->Shared->Prop}{s:Shared}{K:Frag}
end
end Att
namespace L2
open PySem PySem.Spec PyProof.Rows
def lH:∀ {vs:List Value} {ns:List Int},IntsAre vs ns->Vals (ns.map V.int) vs
 | _,_,.nil=>.nil
 | _,_,.cons n t h=>.cons ⟨t,rfl⟩ (lH h)
abbrev ot(H:Hp):Prop:=∀ b,H b=none\/∃ o xs,H b=some (.frz o (.lst xs))
def uL{P:Program}{w:World}{K:PySem.W.Frag}{mg mb:Str->Option Value}{CX:CXT}{k:Nat}{fa a:Addr}{fd:FuncData}{x:Str}{sp:Sp}{s₁:Shared}{vs:List Value}{ns:List Int}
 (KX:K.In s₁.heap)(hns:s₁.heap.Ns mainGlobals mg)(hb:s₁.heap.Ns builtinsNs mb)(hbb:∀ x:Str,x ≠ "__name__" -> mb x=bootBuiltins x)(hlim:s₁.heap.NoLimit)(hg:s₁.gens=#[])
 (ha:s₁.heap.get? a=some { cls:=.type "list",data:=.seq vs.toArray })(hi:IntsAre vs ns)(hl:ns.length<=sizeLine)(hr:bB k callerA)
 (F:∀ base:Heap,K.In base->base.Ns mainGlobals mg->cu P w K mg base CX k fa fd [x] sp)(hbind:∀ (s:Shared) (u:Value),BindsTo s fd ⟨[u],[]⟩ [(x,u)])
 (hsp:∀ H:Hp,ot H->SqL K H a (ns.map V.int)->sp [.ref a] H (fun v _=>v=.bl true) fun _ _ _=>False)
 (hCX:∀ H e s',CX [] H s₁ (fun _ _ _=>False) e s'->False) :
  codeAny (model P w) callerA (.call (.ref fa) ⟨[.ref a],[]⟩) (fun r s'=>r=.ok (.ret (.bool true))/\OldK s₁.heap s'.heap/\s'.os=s₁.os/\AllBare s'.gens) s₁:=by
 have rv:=lH hi;have lenV:=hi.length
 have core:∀ H:Hp,ot H->SqL K H a (ns.map V.int)->HOk P w H s₁.heap->(∀ b,H b≠none->b=a)->(H a≠none->K.lookup a=none) ->
   codeAny (model P w) callerA (.call (.ref fa) ⟨[.ref a],[]⟩) (fun r s'=>r=.ok (.ret (.bool true))/\OldK s₁.heap s'.heap/\s'.os=s₁.os/\AllBare s'.gens) s₁:=by
  intro H hO hS hok hA hK;have base_of:∀ {b:Addr} {o:Obj},s₁.heap.get? b=some o->H b=none->(i5 s₁.heap H).get? b=some o:=fun e n=>vk e n
  have noA:∀ {b:Addr} {o:Obj} {es:Array DictEntry} {ep:Nat},s₁.heap.get? b=some o->o.data=.dict es ep->H b=none:=fun {b o es ep} e d=>by
   cases q:H b with
   | none=>rfl
   |some u=>
    have e':b=a:=hA b (by rw[q];simp);subst e';rw[ha]at e;cases e;have d':Data.seq vs.toArray _=Data.dict es ep:=d;cases d'
  have nsK:∀ {b:Addr} {m:Str->Option Value},s₁.heap.Ns b m->(i5 s₁.heap H).Ns b m:=fun {b m} ⟨o,es,ep,e,d,r⟩=>⟨o,es,ep,base_of e (noA e d),d,r⟩
  have hKb:K.In (i5 s₁.heap H):=fun b o e=>base_of (KX b o e) (by
   cases q:H b with
   | none=>rfl
   |some u=>
    have e':b=a:=hA b (by rw[q];simp);subst e'
    rw[hK (by rw[q];simp)]at e;cases e)
  have hM:Mod K mg (i5 s₁.heap H):=⟨hKb,nsK hns,⟨mb,nsK hb,hbb⟩,let ⟨mc,h1,h2⟩:=hlim;⟨mc,nsK h1,h2⟩⟩
  have e0:iO P w K mg (i5 s₁.heap H) callerA [] s₁ H:=⟨rfl,hM,fun b o e=>xy e,Nat.le_of_eq (uk _ _),trivial,fun b hb=>absurd (show b∈([]:List Addr)from hb) (by simp),hok,.of_eq hg⟩
  refine codeAny_mono ((F _ hKb (nsK hns)).run callerA [] s₁ H ⟨[.ref a],[]⟩ [.ref a] [.ref a] _ _ hr e0 (hbind s₁ (.ref a)) (.cons rfl .nil) (hsp H hO hS)) fun r s' h=>?_
  cases r with
  | error e=>exact(hCX H e s' h).elim
  |ok fl=>
   cases fl with
   | next=>exact False.elim h
   | brk=>exact False.elim h
   | cont=>exact False.elim h
   |ret u=>
    obtain⟨v,H',os,bare,un,hok',r',q⟩:=h;have q':v=.bl true:=q;subst q';obtain rfl:u=Value.bool true:=r';refine⟨rfl,OldK.of_keep fun b o e=>?_,os,bare⟩
    cases q:H b with
    | none=>exact un.keep b o e q (by intro z;exact absurd (show b∈([]:List Addr)from z) (by simp)) (by simp)
    |some u=>
     rcases hO b with z | ⟨ob,xs,z⟩
     ·rw[q]at z;cases z
     ·have z2:=un.cL b ob _ z;obtain⟨e1,_⟩:=hok b _ z;obtain⟨e2,_⟩:=hok' b _ z2;rw[e]at e1;cases e1;exact e2
 cases hk:K.lookup a with
 |some o=>
  have e:=KX a o hk;rw[ha]at e;cases e;refine core (fun _=>none) (fun _=>.inl rfl) (.inr ⟨_,vs.toArray,_,hk,rfl,rfl,rfl,by rw[List.size_toArray,lenV];exact hl,by simpa using rv⟩) (fun b u z=>by have z':(none:Option HO)=some u:=z;cases z') (fun b z=>absurd rfl z) fun z=>absurd rfl z
 |none=>
  refine core (fun b=>if b=a then some (.frz { cls:=.type "list",data:=.seq vs.toArray } (.lst (ns.map V.int)))else none) (fun b=>?_) (.inl (.inr ⟨{ cls:=.type "list",data:=.seq vs.toArray },if_pos rfl⟩)) (fun b u z=>?_) (fun b z=>?_) fun _=>hk
  ·by_cases hb:b=a
   ·exact .inr ⟨_,_,if_pos hb⟩
   ·exact .inl (if_neg hb)
  ·by_cases hb:b=a
   ·have z':=(if_pos hb).symm.trans z;cases z';subst hb;exact⟨ha,by rw[List.length_map];exact hl,vs,_,rv,ha⟩
   ·have z':=(if_neg hb).symm.trans z;cases z'
  ·by_cases hb:b=a
   ·exact hb
   ·exact absurd (if_neg hb) z
@[reducible]noncomputable def KOf{K:PySem.W.Frag}{h:Heap}(_:K.In h):PySem.W.Frag:=K
def pC{l:PySem.W.OpenLaw}{n k:Nat}{q:Program}{loose:List Str}{XP:(Str->Option Value)->Heap->Prop}{YP:World->Heap->Prop}{d:DefRec}{K:Params->PySem.W.Frag}{CX:World->CXT}{sp:World->Sp}{x:Str}
 (hn:l.most=some n)(hn2:n<=sizeLine)(hdf:d.params.defaults=[])(hr:bB k callerA)
 (hY:∀ (w:World) (h:Heap),YP w h->(K w.params).In h)
 (F:∀ (w:World) (mg:Str->Option Value) (fa:Addr) (h:Heap),(K w.params).In h->h.Ns mainGlobals mg->mg d.name=some (.ref fa) ->
   ∃ fd:FuncData,(∀ (s:Shared) (u:Value),BindsTo s fd ⟨[u],[]⟩ [(x,u)]) /\
    ∀ base:Heap,(K w.params).In base->base.Ns mainGlobals mg->cu l.prog w (K w.params) mg base (CX w) k fa fd [x] (sp w))
 (hsp:∀ (w:World) (H:Hp) (a:Addr) (ns:List Int),ns.length<=n->ot H->SqL (K w.params) H a (ns.map V.int)->sp w [.ref a] H (fun v _=>v=.bl true) fun _ _ _=>False)
 (hCX:∀ (w:World) (H:Hp) (s:Shared) (e:Value) (s':Shared),CX w [] H s (fun _ _ _=>False) e s'->False) :
  PySem.W.WalkO q loose XP YP l.row.toRowW d [] (fun f vs=>PySem.call f vs):=by
 refine Att.oN hn hdf fun w s₀ s₁ mg mb fa o pm cd doc a vs ns G Y ho hd hcd hmg hobj hints hlen hg=>?_;have KX:=hY w _ Y;obtain⟨fd,hb,hF⟩:=F w mg fa _ KX G.T.g hmg;exact uL KX G.T.g G.T.b G.T.builtins G.T.nolimit hg hobj hints (Nat.le_trans hlen hn2) hr hF hb (fun H hO hS=>hsp w H a ns hlen hO hS) fun H e s'=>hCX w H s₁ e s'
def wx{l:PySem.W.OpenLaw}{n k:Nat}{q:Program}{loose:List Str}{XP:(Str->Option Value)->Heap->Prop}{YP:World->Heap->Prop}{d:DefRec}{K:Params->PySem.W.Frag}{CX:CXT}{sp:PySem.W.Frag->Sp}{x:Str}
 (hn:l.most=some n)(hn2:n<=sizeLine)(hdf:d.params.defaults=[])(hr:bB k callerA)
 (hY:∀ (w:World) (h:Heap),YP w h->(K w.params).In h)
 (F:∀ (w:World) (mg:Str->Option Value) (fa:Addr) (h:Heap),(K w.params).In h->h.Ns mainGlobals mg->mg d.name=some (.ref fa) ->
   ∃ fd:FuncData,(∀ (s:Shared) (u:Value),BindsTo s fd ⟨[u],[]⟩ [(x,u)]) /\
    ∀ base:Heap,(K w.params).In base->base.Ns mainGlobals mg->cu l.prog w (K w.params) mg base CX k fa fd [x] (sp (K w.params)))
 (hsp:∀ (K:PySem.W.Frag) (H:Hp) (a:Addr) (ns:List Int),ns.length<=n->ot H->SqL K H a (ns.map V.int)->sp K [.ref a] H (fun v _=>v=.bl true) fun _ _ _=>False)
 (hCX:∀ (H:Hp) (s:Shared) (e:Value) (s':Shared),CX [] H s (fun _ _ _=>False) e s'->False) :
  PySem.W.WalkO q loose XP YP l.row.toRowW d [] (fun f vs=>PySem.call f vs) :=
 pC (K:=K) (CX:=fun _=>CX) (sp:=fun w=>sp (K w.params)) hn hn2 hdf hr hY F (fun w H a ns h1 h2 h3=>hsp (K w.params) H a ns h1 h2 h3) fun _ H s e s'=>hCX H s e s'
abbrev cU(s:Stmt):Arguments:=match s with
 | .FunctionDef _ a _ _ _ _ _ _ _ _=>a
 | _=>{ posonlyargs:=[],args:=[],vararg:=none,kwonlyargs:=[],kw_defaults:=[],kwarg:=none,defaults:=[] }
abbrev bE(s:Stmt):List Stmt:=match s with
 | .FunctionDef _ _ b _ _ _ _ _ _ _=>b
 | _=>[]
abbrev aF(s:Stmt):Scope:=match s with
 | .FunctionDef _ _ _ _ _ _ sc _ _ _=>sc
 | _=>{ kind:=.function,names:=[],isGenerator:=false,isCoroutine:=false }
@[reducible]noncomputable def CX0:CXT:=fun _ _ _ _ _ _=>False
@[reducible]noncomputable def E0:XK:=fun _ _ _=>False
def wJ:Passes CX0 X E0:=fun _ _ _ _ _ _ _ h=>h.elim
structure Fun(K:PySem.W.Frag)(x qual:Str)(st:Stmt)(f:Addr)(fd:FuncData):Prop where
 ex:∃ (oc:Value) (od:Option Addr) (kV doc pm:Value) (an:Option Addr) (cdv ct:Value) (osl:Array (Option Value)),
  fd=PySem.W.fnOf x qual (cU st) (bE st) (aF st) .none kV doc pm an cdv ct/\K.lookup f=some ⟨oc,od,.func fd,osl⟩/\PySem.W.codeIn K cdv qual=true
 kp:PySem.W.keepIn K (.ref f)=true
section
variable{P:Program}{w:World}{K:PySem.W.Frag}{mg:Str->Option Value}{base:Heap}
def Fun.ok{x qual:Str}{st:Stmt}{f:Addr}{fd:FuncData}{N ps:List Str}{k:Nat}{sp:Sp}(F:Fun K x qual st f fd)(S:dS N ps (aF st))(len:∀ vs H Q E,sp vs H Q E->vs.length=ps.length)
 (hbody:∀ (cdv:Value) (A:Around) (outer:List Env) (s:Shared) (H:Hp) (vs:List V) (Q:VK) (E:XK),bB k (A.deeper (envOfC qual (aF st) s.heap.objs.size f cdv))->sp vs H Q E ->
   ∃ t,PSs (fj CX0 P w K mg base N qual (aF st) f cdv A outer s H E).nox (bE st) t/\t { nx:=fun _ H'=>Q .non H',rt:=Q } (start N vs) H):cu P w K mg base CX0 (k+1) f fd ps sp:=by
 obtain⟨oc,od,kV,doc,pm,an,cdv,ct,osl,rfl,lk,hcd⟩:=F.ex;refine xa lk hcd S len fun A outer s H vs Q E hr hsp=>?_;obtain⟨t,h,q⟩:=hbody cdv A outer s H vs Q E hr hsp;exact⟨t,h.nox,q⟩
def Fun.binds{x qual:Str}{st:Stmt}{f:Addr}{fd:FuncData}{ps:List Str}(F:Fun K x qual st f fd)
 (h:∀ (kV doc pm:Value) (an:Option Addr) (cdv ct:Value) (us:List Value),us.length=ps.length->bindArgs (PySem.W.fnOf x qual (cU st) (bE st) (aF st) .none kV doc pm an cdv ct) ⟨us,[]⟩=pure (ps.zip us)):Binds K fd ps []:=by
 obtain⟨oc,od,kV,doc,pm,an,cdv,ct,osl,rfl,lk,hcd⟩:=F.ex;exact .all (h kV doc pm an cdv ct)
def kj{x qual:Str}{st:Stmt}{f:Addr}{oc:Value}{od an:Option Addr}{osl:Array (Option Value)}{kV doc pm cdv ct:Value}(l:K.lookup f=some ⟨oc,od,.func (PySem.W.fnOf x qual (cU st) (bE st) (aF st) .none kV doc pm an cdv ct),osl⟩)
 (c:PySem.W.codeIn K cdv qual=true)(k:PySem.W.keepIn K (.ref f)=true):Fun K x qual st f (PySem.W.fnOf x qual (cU st) (bE st) (aF st) .none kV doc pm an cdv ct):=⟨⟨oc,od,kV,doc,pm,an,cdv,ct,osl,rfl,l,c⟩,k⟩
end
def lP(h:n<=1000):n<sizeLine:=Nat.lt_of_le_of_lt h (by decide)
section
variable{X:Cx}
end
def fU{A B:Prop}(h:B):if false=true then A else B:=by
 rw[if_neg Bool.false_ne_true];exact h
def eZ{A B:Prop}(h:A):if true=true then A else B:=by
 rw[if_pos rfl];exact h
abbrev aD(H H':Hp):Prop:=∀ b o,H b=some o->H' b=some o
def aD.refl(H:Hp):aD H H:=fun _ _ h=>h
def aD.trans(a:aD H H1)(b:aD H1 H2):aD H H2:=fun c o h=>b c o (a c o h)
def aD.free(e:aD H H')(h:H' l=Option.none):H l=Option.none:=by
 cases q:H l with
 | none=>rfl
 |some o=>
  rw[e l o q]at h;cases h
section
variable{X:Cx}
def sG:bC X (.builtin "len") (fun xs H Q=>∃ a kvs,xs=[V.ref a]/\H a=some (.dK kvs)/\Q (.int kvs.length) H):=by
 intro pins s σ H xs us Q I r h;obtain⟨a,kvs,rfl,ha,q⟩:=h;obtain⟨u,rfl,ru⟩:=vals1 r;cases ru
 exact CI I (.inl ha) fun t s' I'=>⟨.int kvs.length,H,I',⟨t,rfl⟩,q⟩
end
section
variable{κ:Type} [DecidableEq κ]
end
end L2
namespace RS
open PySem PySem.Spec PyProof.Rows L2
@[reducible]def VE:List Value:=[.type "ValueError",.type "Exception",.type "BaseException",.type "object"]
abbrev bQ:List Str:=["RibbonError", "BadPegs", "BadFrame", "BadHalf", "BadHook", "BadName", "NoNumber", "NoFrame", "NoStack", "NoPlace", "Taken", "Full", "NothingThere", "BadTrade", "Hangs", "BadPage"]
abbrev mJ(f:Option PySem.Builtin.ObjectAttr.Found):Bool:=match f with
 | some (.bind (.builtin a) (.builtin b))=>a == "getset_descriptor.__get__" && b == "object.__class__"
 | _=>false
abbrev gh(K:PySem.W.Frag)(C:Addr):Bool:=match K.lookup C with
 | some ⟨.type "type",_,.cls cd,sl⟩=>(match cd.mro,sl.toList with
  | .ref C'::bm,[_,_,_,_,some (.builtin n),_]=>C' == C&&n == "ValueError.__new__" && !cd.hasDel&&PySem.W.tailIn K VE bm
  | _,_=>false)
 | _=>false
def ym{K:PySem.W.Frag}(h:PySem.W.excIn K C VE "ValueError.__new__" = true):gh K C=true:=by
 unfold PySem.W.excIn at h;unfold gh;split at h
 ·rename_i ho;simp only[ho];split at h
  ·rename_i hm hs;simp only[hm,hs,Bool.and_eq_true]at h ⊢;exact h.1.1
  ·cases h
 ·cases h
def pU{K:PySem.W.Frag}{k0 k1 k2 k3 k5:Option Value}(l:K.lookup C=some (excClassObj nm qn C N bs (.ref R::VE) hdct sn sub ab col dd k0 k1 k2 k3 k5 "ValueError.__new__"))(r:PySem.W.excIn K R VE "ValueError.__new__" = true):PySem.W.tailIn K VE (.ref R::VE)=true/\gh K C=true:=by
 have t:PySem.W.tailIn K VE (.ref R::VE)=true:=by
  unfold PySem.W.excIn at r;split at r
  ·rename_i dd cd sl ho;split at r
   ·simp only[Bool.and_eq_true,beq_iff_eq]at r
    have e:PySem.W.tailIn K VE VE=true:=by
     unfold PySem.W.tailIn;simp
    unfold PySem.W.tailIn;simp only[ho,Bool.or_eq_true,Bool.and_eq_true,beq_iff_eq];exact .inr ⟨⟨r.1.2,r.2⟩,e⟩
   ·cases r
  ·cases r
 refine⟨t,?_⟩;unfold gh;rw[l];show(C == C && "ValueError.__new__" == "ValueError.__new__" && !false&&PySem.W.tailIn K VE (.ref R::VE))=true;rw[t];simp
abbrev kE(K:PySem.W.Frag)(C:Addr):Bool:=gh K C&&(PySem.W.findIn K (.ref C) "at" == some none&&PySem.W.hasDictIn K C)
abbrev eI(K:PySem.W.Frag)(x:Str)(C:Addr):Bool :=
 kE K C&&PySem.W.findIn K (.ref C) "__getattribute__" == some (some (.builtin "BaseException.__getattribute__"))&&PySem.W.findIn K (.ref C) "__getattr__" == some none&&mJ (PySem.W.findObj K C none "__class__") &&
 PySem.W.mroIn K C (.type "object") == some true&&PySem.W.subIn K (.ref C) (.type "BaseException") == some true&&(PySem.W.clsIn K C).isSome&&PySem.W.kitOne K (.ref C) (.type "ValueError") == some true &&
 bQ.all fun c=>match PySem.W.nsIn K mainGlobals c with
  | some (some (.ref D))=>PySem.W.kitOne K (.ref C) (.ref D) == some (RL.c7 x c)&&PySem.W.subIn K (.ref C) (.ref D) == some (RL.c7 x c)
  | _=>true
structure Cls(K:PySem.W.Frag)(x:Str)(C:Addr):Prop where
 ns:PySem.W.nsIn K mainGlobals x=some (some (.ref C))
 ok:eI K x C=true
section
variable{K:PySem.W.Frag}
def Cls.exc(h:Cls K x C):kE K C=true:=by
 have:=h.ok;simp only[eI,Bool.and_eq_true]at this;exact this.1.1.1.1.1.1.1.1
def Cls.ref(h:Cls K x C)(hc:c∈bQ)(hD:PySem.W.nsIn K mainGlobals c=some (some (.ref D))):PySem.W.kitOne K (.ref C) (.ref D)=some (RL.c7 x c)/\PySem.W.subIn K (.ref C) (.ref D)=some (RL.c7 x c):=by
 have:=h.ok;simp only[eI,Bool.and_eq_true]at this;have q:=List.all_eq_true.mp this.2 c hc;rw[hD]at q;simp only[Bool.and_eq_true,beq_iff_eq]at q;exact q
def Cls.val(h:Cls K x C):PySem.W.kitOne K (.ref C) (.type "ValueError")=some true:=by
 have:=h.ok;simp only[eI,Bool.and_eq_true,beq_iff_eq]at this;exact this.1.2
end
structure bP(K:PySem.W.Frag)(x:Str)(C:Addr)(c:Str):Prop where
 ex:∃ D b,PySem.W.nsIn K mainGlobals c=some (some (.ref D))/\PySem.W.kitOne K (.ref C) (.ref D)=some b/\PySem.W.subIn K (.ref C) (.ref D)=some b/\RL.c7 x c=b
def u9{K:PySem.W.Frag}(n:PySem.W.nsIn K mainGlobals c=some (some (.ref D)))(k:PySem.W.kitOne K (.ref C) (.ref D)=some b)(s:PySem.W.subIn K (.ref C) (.ref D)=some b)(e:RL.c7 x c=b):bP K x C c:=⟨D,b,n,k,s,e⟩
structure uq(K:PySem.W.Frag)(x:Str)(C:Addr):Prop where
 a1:gh K C=true
 a10:PySem.W.findIn K (.ref C) "at" = some none
 a11:PySem.W.hasDictIn K C=true
 a2:PySem.W.findIn K (.ref C) "__getattribute__" = some (some (.builtin "BaseException.__getattribute__"))
 a3:PySem.W.findIn K (.ref C) "__getattr__" = some none
 a4:PySem.W.findIn K (.ref C) "__class__" = some (some (.builtin "object.__class__"))
 a5:PySem.W.specialIn K (.builtin "object.__class__") "__get__" = some (some (.builtin "getset_descriptor.__get__"))
 a6:PySem.W.takesIn K (.builtin "object.__class__")=some true
 a7:PySem.W.mroIn K C (.type "object")=some true
 a8:PySem.W.subIn K (.ref C) (.type "BaseException")=some true
 a9:PySem.W.kitOne K (.ref C) (.type "ValueError")=some true
 b1:bP K x C "RibbonError"
 b2:bP K x C "BadPegs"
 b3:bP K x C "BadFrame"
 b4:bP K x C "BadHalf"
 b5:bP K x C "BadHook"
 b6:bP K x C "BadName"
 b7:bP K x C "NoNumber"
 b8:bP K x C "NoFrame"
 b9:bP K x C "NoStack"
 b10:bP K x C "NoPlace"
 b11:bP K x C "Taken"
 b12:bP K x C "Full"
 b13:bP K x C "NothingThere"
 b14:bP K x C "BadTrade"
 b15:bP K x C "Hangs"
 b16:bP K x C "BadPage"
def uf{K:PySem.W.Frag}(h:uq K x C):eI K x C=true:=by
 obtain⟨cd,ec,_⟩:=Option.bind_eq_some_iff.mp h.a7
 have fo:mJ (PySem.W.findObj K C none "__class__")=true:=by
  unfold PySem.W.findObj;rw[ec,Option.bind_some,h.a4,Option.bind_some];dsimp only;rw[h.a5,Option.bind_some];dsimp only;rw[h.a6,Option.bind_some];rfl
 have one:∀ {c:Str},bP K x C c->(match PySem.W.nsIn K mainGlobals c with
  | some (some (.ref D))=>PySem.W.kitOne K (.ref C) (.ref D) == some (RL.c7 x c)&&PySem.W.subIn K (.ref C) (.ref D) == some (RL.c7 x c)
  | _=>true)=true:=fun⟨D,b,e1,e2,e3,e4⟩=>by
  rw[e1];dsimp only;rw[e2,e3,e4,beq_self_eq_true];rfl
 unfold eI kE;rw[h.a1,h.a10,h.a11,h.a2,h.a3,fo,h.a7,h.a8,ec,h.a9];simp only[beq_self_eq_true,Option.isSome_some,Bool.and_self,Bool.true_and];rw[List.all_eq_true];intro c hc;simp only[bQ,List.mem_cons,List.mem_nil_iff,or_false]at hc;rcases hc with rfl | rfl | rfl | rfl | rfl | rfl | rfl | rfl | rfl | rfl | rfl | rfl | rfl | rfl | rfl | rfl
 ·exact one h.b1
 ·exact one h.b2
 ·exact one h.b3
 ·exact one h.b4
 ·exact one h.b5
 ·exact one h.b6
 ·exact one h.b7
 ·exact one h.b8
 ·exact one h.b9
 ·exact one h.b10
 ·exact one h.b11
 ·exact one h.b12
 ·exact one h.b13
 ·exact one h.b14
 ·exact one h.b15
 ·exact one h.b16
abbrev nP:Addr->Prop:=fun _=>False
abbrev iS(K:PySem.W.Frag)(H:Hp)(a:Addr)(xs:List V):Prop:=(∃ o,H a=some (.frz o (.lst xs)))\/SqL K (fun _=>none) a xs
def iS.seq{K:PySem.W.Frag}(h:iS K H a xs):SqL K H a xs:=by
 rcases h with⟨o,h⟩ | (h | ⟨o,h⟩) | h
 ·exact .inl (.inr ⟨o,h⟩)
 ·cases h
 ·cases h
 ·exact .inr h
def iS.same{K:PySem.W.Frag}(e:aD H H')(h:iS K H a xs):iS K H' a xs:=by
 rcases h with⟨o,h⟩ | h
 ·exact .inl ⟨o,e _ _ h⟩
 ·exact .inr h
abbrev fN(H:Hp)(f:Option Nat)(od:Option Addr):Prop:=match f with
 | none=>od=none
 | some k=>∃ n u hh tk tk',od=some n/\H n=some (.frz { cls:=.type "dict",data:=.dict #[⟨hh,.str "at" tk,.int k tk'⟩] 1 } u)
def fN.keep(h:fN H f od)(k:∀ b o u,H b=some (.frz o u)->H' b=some (.frz o u)):fN H' f od:=by
 cases f with
 | none=>exact h
 | some m=>exact let ⟨n,u,hh,tk,tk',h1,h2⟩:=h;⟨n,u,hh,tk,tk',h1,k _ _ _ h2⟩
abbrev ExV(K:PySem.W.Frag)(H:Hp)(c:Str)(v:V):Prop:=∃ a o u D vs,v=.ref a/\H a=some (.frz o u)/\(o.cls=.ref D/\fN H (RL.dE c) o.dict)/\o.data=.fields vs/\vs[2]?=some .none/\Cls K (RL.baseOf c) D
def ExV.keep{K:PySem.W.Frag}(h:ExV K H c v)(k:∀ b o u,H b=some (.frz o u)->H' b=some (.frz o u)):ExV K H' c v :=
 let ⟨a,o,u,D,vs,h1,h2,h3,r⟩:=h;⟨a,o,u,D,vs,h1,k _ _ _ h2,⟨h3.1,h3.2.keep k⟩,r⟩
mutual
noncomputable def Rep(P:Addr->Prop)(K:PySem.W.Frag)(H:Hp):RL.D->V->Prop
 | .non,v=>v=.non
 | .bl b,v=>v=.bl b
 | .int i,v=>v=.int i
 | .str x,v=>v=.str x
 | .tup ds,v=>∃ a xs,v=.ref a/\H a=some (.tup xs)/\ai P K H ds xs
 | .lst ds,v=>∃ a xs,v=.ref a/\¬ P a/\H a=some (.lst xs)/\ai P K H ds xs
 | .dK ks ds,v=>∃ a xs,v=.ref a/\¬ P a/\H a=some (.dK (ks.zip xs))/\ks.length=ds.length/\ai P K H ds xs
 | .dT ks ds,v=>∃ a xs,v=.ref a/\¬ P a/\H a=some (.dT (ks.zip xs))/\ks.length=ds.length/\ai P K H ds xs
 | .scr ds,v=>∃ a xs,v=.ref a/\iS K H a xs/\ai P K H ds xs
 | .exc c,v=>ExV K H c v
 | .fT ks ds,v=>∃ a o xs,v=.ref a/\H a=some (.frz o (.dT (ks.zip xs)))/\ks.length=ds.length/\ai P K H ds xs
 | .fL ds,v=>∃ a o xs,v=.ref a/\H a=some (.frz o (.lst xs))/\ai P K H ds xs
noncomputable def ai(P:Addr->Prop)(K:PySem.W.Frag)(H:Hp):List RL.D->List V->Prop
 | [],xs=>xs=[]
 | d::r,xs=>∃ x t,xs=x::t/\Rep P K H d x/\ai P K H r t
end
mutual
theorem Rep.same{P:Addr->Prop}{K:PySem.W.Frag}{H H':Hp}(e:aD H H'):∀ {d:RL.D} {v:V},Rep P K H d v->Rep P K H' d v
 | .non,v,h=>by simpa[Rep]using h
 | .bl _,v,h=>by simpa[Rep]using h
 | .int _,v,h=>by simpa[Rep]using h
 | .str _,v,h=>by simpa[Rep]using h
 | .tup ds,v,h=>by
  rw[Rep]at h ⊢;obtain⟨a,xs,e1,e2,e3⟩:=h;exact⟨a,xs,e1,e _ _ e2,ai.same e e3⟩
 | .lst ds,v,h=>by
  rw[Rep]at h ⊢;obtain⟨a,xs,e1,e0,e2,e3⟩:=h;exact⟨a,xs,e1,e0,e _ _ e2,ai.same e e3⟩
 | .dK ks ds,v,h=>by
  rw[Rep]at h ⊢;obtain⟨a,xs,e1,e0,e2,el,e3⟩:=h;exact⟨a,xs,e1,e0,e _ _ e2,el,ai.same e e3⟩
 | .dT ks ds,v,h=>by
  rw[Rep]at h ⊢;obtain⟨a,xs,e1,e0,e2,el,e3⟩:=h;exact⟨a,xs,e1,e0,e _ _ e2,el,ai.same e e3⟩
 | .scr ds,v,h=>by
  rw[Rep]at h ⊢;obtain⟨a,xs,e1,e2,e3⟩:=h;exact⟨a,xs,e1,iS.same e e2,ai.same e e3⟩
 | .exc c,v,h=>by rw[Rep]at h ⊢;exact h.keep fun _ _ _ q=>e _ _ q
 | .fT ks ds,v,h=>by rw[Rep]at h ⊢;obtain⟨a,o,xs,e1,e2,el,e3⟩:=h;exact⟨a,o,xs,e1,e _ _ e2,el,ai.same e e3⟩
 | .fL ds,v,h=>by rw[Rep]at h ⊢;obtain⟨a,o,xs,e1,e2,e3⟩:=h;exact⟨a,o,xs,e1,e _ _ e2,ai.same e e3⟩
theorem ai.same{P:Addr->Prop}{K:PySem.W.Frag}{H H':Hp}(e:aD H H'):∀ {ds:List RL.D} {xs:List V},ai P K H ds xs->ai P K H' ds xs
 | [],xs,h=>by rw[ai]at h ⊢;exact h
 | d::r,xs,h=>by
  rw[ai]at h ⊢;obtain⟨x,t,e1,e2,e3⟩:=h;exact⟨x,t,e1,Rep.same e e2,ai.same e e3⟩
end
mutual
theorem Rep.weak{P P':Addr->Prop}{K:PySem.W.Frag}{H:Hp}(e:∀ a,P' a->P a):∀ {d:RL.D} {v:V},Rep P K H d v->Rep P' K H d v
 | .non,v,h=>by simpa[Rep]using h
 | .bl _,v,h=>by simpa[Rep]using h
 | .int _,v,h=>by simpa[Rep]using h
 | .str _,v,h=>by simpa[Rep]using h
 | .tup ds,v,h=>by
  rw[Rep]at h ⊢;obtain⟨a,xs,e1,e2,e3⟩:=h;exact⟨a,xs,e1,e2,ai.weak e e3⟩
 | .lst ds,v,h=>by
  rw[Rep]at h ⊢;obtain⟨a,xs,e1,e0,e2,e3⟩:=h;exact⟨a,xs,e1,fun z=>e0 (e a z),e2,ai.weak e e3⟩
 | .dK ks ds,v,h=>by
  rw[Rep]at h ⊢;obtain⟨a,xs,e1,e0,e2,el,e3⟩:=h;exact⟨a,xs,e1,fun z=>e0 (e a z),e2,el,ai.weak e e3⟩
 | .dT ks ds,v,h=>by
  rw[Rep]at h ⊢;obtain⟨a,xs,e1,e0,e2,el,e3⟩:=h;exact⟨a,xs,e1,fun z=>e0 (e a z),e2,el,ai.weak e e3⟩
 | .scr ds,v,h=>by
  rw[Rep]at h ⊢;obtain⟨a,xs,e1,e2,e3⟩:=h;exact⟨a,xs,e1,e2,ai.weak e e3⟩
 | .exc c,v,h=>by rw[Rep]at h ⊢;exact h
 | .fT ks ds,v,h=>by rw[Rep]at h ⊢;obtain⟨a,o,xs,e1,e2,el,e3⟩:=h;exact⟨a,o,xs,e1,e2,el,ai.weak e e3⟩
 | .fL ds,v,h=>by rw[Rep]at h ⊢;obtain⟨a,o,xs,e1,e2,e3⟩:=h;exact⟨a,o,xs,e1,e2,ai.weak e e3⟩
theorem ai.weak{P P':Addr->Prop}{K:PySem.W.Frag}{H:Hp}(e:∀ a,P' a->P a):∀ {ds:List RL.D} {xs:List V},ai P K H ds xs->ai P' K H ds xs
 | [],xs,h=>by rw[ai]at h ⊢;exact h
 | d::r,xs,h=>by
  rw[ai]at h ⊢;obtain⟨x,t,e1,e2,e3⟩:=h;exact⟨x,t,e1,Rep.weak e e2,ai.weak e e3⟩
end
def Rep.none{P:Addr->Prop}{K:PySem.W.Frag}(h:Rep P K H d v):Rep nP K H d v:=h.weak fun _ z=>z.elim
mutual
theorem Rep.imm{P P':Addr->Prop}{K:PySem.W.Frag}{H:Hp}:∀ {d:RL.D} {v:V},d.imm=true->Rep P K H d v->Rep P' K H d v
 | .non,v,_,h=>by simpa[Rep]using h
 | .bl _,v,_,h=>by simpa[Rep]using h
 | .int _,v,_,h=>by simpa[Rep]using h
 | .str _,v,_,h=>by simpa[Rep]using h
 | .tup ds,v,i,h=>by
  rw[Rep]at h ⊢;rw[RL.D.imm]at i;obtain⟨a,xs,e1,e2,e3⟩:=h;exact⟨a,xs,e1,e2,ai.imm i e3⟩
 | .lst ds,v,i,h=>by rw[RL.D.imm]at i;cases i
 | .dK ks ds,v,i,h=>by rw[RL.D.imm]at i;cases i
 | .dT ks ds,v,i,h=>by rw[RL.D.imm]at i;cases i
 | .scr ds,v,i,h=>by
  rw[Rep]at h ⊢;rw[RL.D.imm]at i;obtain⟨a,xs,e1,e2,e3⟩:=h;exact⟨a,xs,e1,e2,ai.imm i e3⟩
 | .exc c,v,i,h=>by rw[Rep]at h ⊢;exact h
 | .fT ks ds,v,i,h=>by rw[Rep]at h ⊢;rw[RL.D.imm]at i;obtain⟨a,o,xs,e1,e2,el,e3⟩:=h;exact⟨a,o,xs,e1,e2,el,ai.imm i e3⟩
 | .fL ds,v,i,h=>by rw[Rep]at h ⊢;rw[RL.D.imm]at i;obtain⟨a,o,xs,e1,e2,e3⟩:=h;exact⟨a,o,xs,e1,e2,ai.imm i e3⟩
theorem ai.imm{P P':Addr->Prop}{K:PySem.W.Frag}{H:Hp}:∀ {ds:List RL.D} {xs:List V},RL.aB ds=true->ai P K H ds xs->ai P' K H ds xs
 | [],xs,_,h=>by rw[ai]at h ⊢;exact h
 | d::r,xs,i,h=>by
  rw[ai]at h ⊢;rw[RL.aB,Bool.and_eq_true]at i;obtain⟨x,t,e1,e2,e3⟩:=h;exact⟨x,t,e1,Rep.imm i.1 e2,ai.imm i.2 e3⟩
end
abbrev cQ(o:HO):Prop:=(∃ xs,o=.lst xs)\/(∃ kvs,o=.dK kvs)\/(∃ kvs,o=.dT kvs)
mutual
theorem Rep.upd{P:Addr->Prop}{K:PySem.W.Frag}{H:Hp}{a:Addr}{o o':HO}(ha:H a=some o)(m:cQ o)(p:P a):∀ {d:RL.D} {v:V},Rep P K H d v->Rep P K (upd H a o') d v
 | .non,v,h=>by simpa[Rep]using h
 | .bl _,v,h=>by simpa[Rep]using h
 | .int _,v,h=>by simpa[Rep]using h
 | .str _,v,h=>by simpa[Rep]using h
 | .tup ds,v,h=>by
  rw[Rep]at h ⊢;obtain⟨b,xs,e1,e2,e3⟩:=h;have n:b≠a:=jT e2 ha (by rcases m with⟨z,rfl⟩ | ⟨z,rfl⟩ | ⟨z,rfl⟩<;>(intro q;cases q));exact⟨b,xs,e1,by rw[L2.aE n];exact e2,ai.upd ha m p e3⟩
 | .lst ds,v,h=>by
  rw[Rep]at h ⊢;obtain⟨b,xs,e1,e0,e2,e3⟩:=h;have n:b≠a:=fun z=>e0 (z▸p);exact⟨b,xs,e1,e0,by rw[L2.aE n];exact e2,ai.upd ha m p e3⟩
 | .dK ks ds,v,h=>by
  rw[Rep]at h ⊢;obtain⟨b,xs,e1,e0,e2,el,e3⟩:=h;have n:b≠a:=fun z=>e0 (z▸p);exact⟨b,xs,e1,e0,by rw[L2.aE n];exact e2,el,ai.upd ha m p e3⟩
 | .dT ks ds,v,h=>by
  rw[Rep]at h ⊢;obtain⟨b,xs,e1,e0,e2,el,e3⟩:=h;have n:b≠a:=fun z=>e0 (z▸p);exact⟨b,xs,e1,e0,by rw[L2.aE n];exact e2,el,ai.upd ha m p e3⟩
 | .scr ds,v,h=>by
  rw[Rep]at h ⊢;obtain⟨b,xs,e1,e2,e3⟩:=h;refine⟨b,xs,e1,?_,ai.upd ha m p e3⟩;rcases e2 with⟨q,e2⟩ | e2
  ·have n:b≠a:=jT e2 ha (by rcases m with⟨z,rfl⟩ | ⟨z,rfl⟩ | ⟨z,rfl⟩<;>(intro q;cases q));exact .inl ⟨q,by rw[L2.aE n];exact e2⟩
  ·exact .inr e2
 | .exc c,v,h=>by
  rw[Rep]at h ⊢;refine h.keep fun b ob u q=>?_;have n:b≠a:=jT q ha (by rcases m with⟨z,rfl⟩ | ⟨z,rfl⟩ | ⟨z,rfl⟩<;>(intro q;cases q));rw[L2.aE n];exact q
 | .fT ks ds,v,h=>by
  rw[Rep]at h ⊢;obtain⟨b,ob,xs,e1,e2,el,e3⟩:=h;have n:b≠a:=jT e2 ha (by rcases m with⟨z,rfl⟩ | ⟨z,rfl⟩ | ⟨z,rfl⟩<;>(intro q;cases q));exact⟨b,ob,xs,e1,by rw[L2.aE n];exact e2,el,ai.upd ha m p e3⟩
 | .fL ds,v,h=>by
  rw[Rep]at h ⊢;obtain⟨b,ob,xs,e1,e2,e3⟩:=h;have n:b≠a:=jT e2 ha (by rcases m with⟨z,rfl⟩ | ⟨z,rfl⟩ | ⟨z,rfl⟩<;>(intro q;cases q));exact⟨b,ob,xs,e1,by rw[L2.aE n];exact e2,ai.upd ha m p e3⟩
theorem ai.upd{P:Addr->Prop}{K:PySem.W.Frag}{H:Hp}{a:Addr}{o o':HO}(ha:H a=some o)(m:cQ o)(p:P a):∀ {ds:List RL.D} {xs:List V},ai P K H ds xs->ai P K (upd H a o') ds xs
 | [],xs,h=>by rw[ai]at h ⊢;exact h
 | d::r,xs,h=>by
  rw[ai]at h ⊢;obtain⟨x,t,e1,e2,e3⟩:=h;exact⟨x,t,e1,Rep.upd ha m p e2,ai.upd ha m p e3⟩
end
section lists
variable{K:PySem.W.Frag}
def ai.nil:ai P K H [] []:=by rw[ai]
def ai.cons{d:RL.D}{ds:List RL.D}{x:V}{xs:List V}(h:Rep P K H d x)(t:ai P K H ds xs):ai P K H (d::ds) (x::xs):=by rw[ai];exact⟨x,xs,rfl,h,t⟩
def ai.length:∀ {ds:List RL.D} {xs:List V},ai P K H ds xs->ds.length=xs.length
 | [],xs,h=>by rw[ai]at h;rw[h];rfl
 | d::r,xs,h=>by
  rw[ai]at h;obtain⟨x,t,rfl,_,e3⟩:=h;rw[List.length_cons,List.length_cons,ai.length e3]
def ai.append:∀ {ds es:List RL.D} {xs ys:List V},ai P K H ds xs->ai P K H es ys->ai P K H (ds++es) (xs++ys)
 | [],_,xs,_,h,k=>by rw[ai]at h;rw[h];exact k
 | d::r,_,xs,_,h,k=>by
  rw[ai]at h;obtain⟨x,t,rfl,e2,e3⟩:=h;exact ai.cons e2 (ai.append e3 k)
def ai.get:∀ {ds:List RL.D} {xs:List V} {i:Nat} {d:RL.D},ai P K H ds xs->ds[i]?=some d->∃ x,xs[i]?=some x/\Rep P K H d x
 | [],_,i,d,_,e=>by simp at e
 | d::r,xs,0,d',h,e=>by
  rw[ai]at h;obtain⟨x,t,rfl,e2,_⟩:=h;simp at e;subst e;exact⟨x,rfl,e2⟩
 | d::r,xs,i+1,d',h,e=>by
  rw[ai]at h;obtain⟨x,t,rfl,_,e3⟩:=h;obtain⟨y,h1,h2⟩:=ai.get (i:=i) e3 (by simpa using e);exact⟨y,by simpa using h1,h2⟩
def ai.take:∀ {ds:List RL.D} {xs:List V} (n:Nat),ai P K H ds xs->ai P K H (ds.take n) (xs.take n)
 | _,_,0,_=>by simpa using ai.nil
 | [],xs,n+1,h=>by rw[ai]at h;rw[h];simpa using ai.nil
 | d::r,xs,n+1,h=>by
  rw[ai]at h;obtain⟨x,t,rfl,e2,e3⟩:=h;exact ai.cons e2 (ai.take n e3)
def ai.drop:∀ {ds:List RL.D} {xs:List V} (n:Nat),ai P K H ds xs->ai P K H (ds.drop n) (xs.drop n)
 | _,_,0,h=>h
 | [],xs,n+1,h=>by rw[ai]at h;rw[h];simpa using ai.nil
 | d::r,xs,n+1,h=>by
  rw[ai]at h;obtain⟨x,t,rfl,_,e3⟩:=h;exact ai.drop n e3
def ai.rep(h:ai P K H ds xs):∀ n:Nat,ai P K H (List.replicate n ds).flatten (List.replicate n xs).flatten
 | 0=>ai.nil
 | n+1=>by
  rw[List.replicate_succ,List.replicate_succ,List.flatten_cons,List.flatten_cons];exact ai.append h (ai.rep h n)
end lists
abbrev RV0(K:PySem.W.Frag)(σD:RL.St)(σ:L2.St)(H:Hp):Prop:=σD.length<=σ.length/\∀ (i:Nat) (d:RL.D),σD[i]?=some (some d)->∃ v,σ[i]?=some (some v)/\Rep nP K H d v
def RV0.same{K:PySem.W.Frag}(h:RV0 K σD σ H)(e:aD H H'):RV0 K σD σ H':=⟨h.1,fun i d q=>by
 obtain⟨v,h1,h2⟩:=h.2 i d q
 exact⟨v,h1,h2.same e⟩⟩
abbrev jH:RL.D->Bool
 | .lst _=>true
 | .dK _ _=>true
 | .dT _ _=>true
 | _=>false
structure Res(K:PySem.W.Frag)(σD:RL.St)(σ:L2.St)(H:Hp)(e:RL.E)(d:RL.D)(v:V)(H':Hp):Prop where
 same:aD H H'
 rep:Rep nP K H' d v
 fresh:RL.aG e=true->jH d=true->∀ a,v=.ref a->H a=none
 av:∀ M,RL.avE M e=true->∀ P:Addr->Prop,(∀ a,P a->H a≠none)->(∀ (j:Nat) (dj:RL.D) (vj:V),M.contains j=false->σD[j]?=some (some dj)->σ[j]?=some (some vj)->Rep P K H dj vj)->Rep P K H' d v
abbrev tE(K:PySem.W.Frag)(cl:RL.Cl)(e:RL.E):TE:=fun σ H Q=>∃ σD d,RV0 K σD σ H/\RL.ev cl σD e=some d/\∀ v H',Res K σD σ H e d v H'->Q v H'
abbrev SE(X:Cx)(cl:RL.Cl)(e:Expr)(e':RL.E):Prop:=PE X e (tE X.K cl e')
def PE.weak(h:PE X e t)(w:∀ σ H Q,t' σ H Q->t σ H Q):PE X e t':=fun pins s σ H Q I q=>h pins s σ H Q I (w σ H Q q)
abbrev tEs(K:PySem.W.Frag)(cl:RL.Cl)(es:RL.Es):TA:=fun σ H Q=>∃ σD ds,RV0 K σD σ H/\RL.evs cl σD es=some ds/\∀ vs H',aD H H'->ai nP K H' ds vs->Q vs H'
abbrev SEs(X:Cx)(cl:RL.Cl)(es:List Expr)(es':RL.Es):Prop:=PA X es (tEs X.K cl es')
section rules
variable{X:Cx}
def two{σD:RL.St}{σ:L2.St}{H:Hp}{x y:RL.D}{R:V->V->Hp->Prop}(rv:RV0 X.K σD σ H)(ea:RL.ev cl σD a'=some x)(eb:RL.ev cl σD b'=some y)
 (k:∀ v u H1 H2,aD H H1->aD H1 H2->Rep nP X.K H2 x v->Rep nP X.K H2 y u->Res X.K σD σ H a' x v H1->Res X.K σD σ H1 b' y u H2->R v u H2) :
  tE X.K cl a' σ H fun v H1=>tE X.K cl b' σ H1 fun u H2=>R v u H2 :=
 ⟨σD,x,rv,ea,fun v H1 r1=>⟨σD,y,rv.same r1.same,eb,fun u H2 r2=>k v u H1 H2 r1.same r2.same (r1.rep.same r2.same) r2.rep r1 r2⟩⟩
def bind_some(h:o.bind f=some y):∃ x,o=some x/\f x=some y:=by
 cases o with
 | none=>cases h
 | some x=>exact⟨x,rfl,h⟩
def map_some(h:o.map f=some y):∃ x,o=some x/\f x=y:=by
 cases o with
 | none=>cases h
 | some x=>exact⟨x,rfl,Option.some.inj h⟩
def cb:RL.most<=sizeLine:=by decide
def aD.cw(hn:H p=none):aD H (upd H p o):=fun b u e=>by rw[aE (aJ e hn)];exact e
def An(hN:X.N[i]?=some x)(hv:Vis X.env.scope x)(hd:(x == ("__debug__" : Str))=false)(hcd:(x == ("__classdict__" : Str))=false):SE X cl (.Name x pos) (.var i):=by
 refine PE.weak (gO hN hv hd hcd) fun σ H Q h=>?_;obtain⟨σD,d,rv,e,k⟩:=h
 have e':σD[i]?=some (some d):=by
  obtain⟨o,h1,h2⟩:=bind_some e
  cases o with
  | none=>cases h2
  | some z=>cases h2;exact h1
 obtain⟨v,h1,h2⟩:=rv.2 i d e';refine⟨v,h1,k v H ⟨aD.refl H,h2,fun z=>(by cases z),fun M z P hP av=>?_⟩⟩;rw[RL.Df]at z;exact av i d v (by simpa using z) e' h1
def jM(h:PE X (.Constant k j pos) (tC v))(r:∀ P H,Rep P X.K H d v)(hm:jH d=false):SE X cl (.Constant k j pos) (.cst d):=by
 refine PE.weak h fun σ H Q q=>?_;obtain⟨σD,d',rv,e,k⟩:=q;cases e;exact k v H ⟨aD.refl H,r _ _,fun z=>(by cases z),fun M z=>nomatch (show false=true from z)⟩
def zE{x:Str}{i:Int}{u:Value}(h:PE X (.Name x pos) (tC (.int i))):SE X cl (.Name x pos) (.glb x i):=by
 refine PE.weak h fun σ H Q q=>?_;obtain⟨σD,d',rv,e,k⟩:=q;cases e;exact k _ H ⟨aD.refl H,(by rw[Rep]),fun z=>(by cases z),fun M z=>nomatch (show false=true from z)⟩
end rules
section rules
variable{X:Cx}
def bT(sm:aD H H')(r:Rep nP X.K H' d v)(im:d.imm=true):Res X.K σD σ H e d v H' where
 same:=sm
 rep:=r
 fresh:=fun _ m=>by
  cases d with
  | lst _=>cases im
  | dK _ _=>cases im
  | dT _ _=>cases im
  | _=>cases m
 av:=fun M _ P _ _=>r.imm im
def vW:OpR X (binaryOp .FloorDiv) (rI (fun _ j=>0<j/\j<2 ^ 200) fun i j=>.int (i / j)):=opI fun i j _ _ _ _ _ hc q=>by
 refine floordiv_int (by lia) ?_ (.inl (PyProof.noPylong_of_log2 ?_))
 ·rw[Int.fdiv_eq_ediv_of_nonneg _ (by lia)];exact q
 ·have h0:j.natAbs≠0:=by lia
  have h1:j.natAbs<2 ^ 200:=by
   have:=hc.2;omega
  have h2:j.natAbs.log2<200:=(Nat.log2_lt h0).mpr h1;lia
def cz(sm:aD H H1)(hn:H1 p=none)(r:ai nP X.K H1 ds xs)(hav:∀ M,RL.avE M e=false):Res X.K σD σ H e (.lst ds) (.ref p) (upd H1 p (.lst xs)) where
 same:=sm.trans (aD.cw hn)
 rep:=by
  rw[Rep];exact⟨p,xs,rfl,fun z=>z,aI,r.same (aD.cw hn)⟩
 fresh:=fun _ _ a z=>by
  cases z;exact sm.free hn
 av:=fun M z=>by rw[hav M]at z;cases z
def i4(sm:aD H H1)(hn:H1 p=none)(r:ai nP X.K H1 ds xs)(hav:∀ M,RL.avE M e=false):Res X.K σD σ H e (.tup ds) (.ref p) (upd H1 p (.tup xs)) where
 same:=sm.trans (aD.cw hn)
 rep:=by
  rw[Rep];exact⟨p,xs,rfl,aI,r.same (aD.cw hn)⟩
 fresh:=fun _ m=>by cases m
 av:=fun M z=>by rw[hav M]at z;cases z
abbrev oa:RL.Bop->Operator
 | .add=>.Add
 | .sub=>.Sub
 | .mul=>.Mult
 | .fdiv=>.FloorDiv
 | .mod=>.Mod
 | .pow=>.Pow
def aV{P:Addr->Prop}{K:PySem.W.Frag}:Rep P K H (.int i) (.int i):=by rw[Rep]
def m6{P:Addr->Prop}{K:PySem.W.Frag}:Rep P K H (.bl i) (.bl i):=by rw[Rep]
def fF{P:Addr->Prop}{K:PySem.W.Frag}:Rep P K H (.str i) (.str i):=by rw[Rep]
def ar{P:Addr->Prop}{K:PySem.W.Frag}(h:Rep P K H (.int i) v):v=.int i:=by rw[Rep]at h;exact h
def bf{P:Addr->Prop}{K:PySem.W.Frag}(h:Rep P K H (.bl i) v):v=.bl i:=by rw[Rep]at h;exact h
def aN{P:Addr->Prop}{K:PySem.W.Frag}(h:Rep P K H (.str i) v):v=.str i:=by rw[Rep]at h;exact h
abbrev jV(X:Cx)(o:RL.Bop)(r:R2):Prop :=
 ∀ (σD:RL.St) (σ:L2.St) (H H2:Hp) (e:RL.E) (x y d:RL.D) (v u:V) (Q:VK),aD H H2->Rep nP X.K H2 x v->Rep nP X.K H2 y u->RL.aQ o x y=some d->(∀ M,RL.avE M e=false) ->
  (∀ w H',Res X.K σD σ H e d w H'->Q w H')->r v u H2 Q
def fA(ho:OpR X (binaryOp (oa o)) r)(ok:jV X o r)(ha:SE X cl a a')(hb:SE X cl b b'):SE X cl (.BinOp a (oa o) b pos) (.bin o a' b'):=by
 refine PE.weak (xc ho ha hb) fun σ H Q h=>?_;obtain⟨σD,d,rv,e,k⟩:=h;obtain⟨x,ea,e⟩:=bind_some e;obtain⟨y,eb,e⟩:=bind_some e;refine two rv ea eb fun v u H1 H2 s1 s2 rx ry _ _=>?_;exact ok σD σ H H2 _ x y d v u Q (s1.trans s2) rx ry e (fun _=>rfl) k
end rules
section rules
variable{X:Cx}{cl:RL.Cl}{a b c:Expr}{a' b' c':RL.E}{pos:Pos}
def bq{α:Type}{c:Prop} [Decidable c]{a d:α}(h:(if c then some a else none)=some d):c/\d=a:=by
 by_cases hc:c
 ·rw[if_pos hc]at h;exact⟨hc,(Option.some.inj h).symm⟩
 ·rw[if_neg hc]at h;cases h
def noN{α:Type}{o:Option α}{d:α}{p:Prop}(e:o=none)(h:o=some d):p:=by rw[e]at h;cases h
def vB{x y d:RL.D}(h:RL.aQ .add x y=some d):(∃ i j,x=.int i/\y=.int j/\d=.int (i+j))\/(∃ i j:Str,x=.str i/\y=.str j/\i.length+j.length<=RL.most/\d=.str (i++j)) \/
  (∃ i j,x=.lst i/\y=.lst j/\i.length+j.length<=RL.most/\d=.lst (i++j)) \/
  (∃ i j,x=.tup i/\y=.tup j/\(i.length+j.length<=RL.most/\0<i.length)/\d=.tup (i++j)):=by
 cases x with
 | int i=>cases y with
  | int j=>cases h;exact .inl ⟨i,j,rfl,rfl,rfl⟩
  | _=>exact noN rfl h
 | str i=>cases y with
  |str j=>
   obtain⟨hc,e⟩:=bq h;exact .inr (.inl ⟨i,j,rfl,rfl,hc,e⟩)
  | _=>exact noN rfl h
 | lst i=>cases y with
  |lst j=>
   obtain⟨hc,e⟩:=bq h;exact .inr (.inr (.inl ⟨i,j,rfl,rfl,hc,e⟩))
  | _=>exact noN rfl h
 | tup i=>cases y with
  |tup j=>
   obtain⟨hc,e⟩:=bq h;exact .inr (.inr (.inr ⟨i,j,rfl,rfl,hc,e⟩))
  | _=>exact noN rfl h
 | _=>exact noN rfl h
def vt{x y d:RL.D}(h:RL.aQ .mul x y=some d):(∃ i j,x=.int i/\y=.int j/\qB i j/\d=.int (i*j)) \/
  (∃ i j,x=.lst i/\y=.int j/\(0<=j/\j<=RL.most/\i.length*j.toNat<=RL.most)/\d=.lst (List.replicate j.toNat i).flatten):=by
 cases x with
 | int i=>cases y with
  |int j=>
   obtain⟨hc,e⟩:=bq h;exact .inl ⟨i,j,rfl,rfl,hc,e⟩
  | _=>exact noN rfl h
 | lst i=>cases y with
  |int j=>
   obtain⟨hc,e⟩:=bq h;exact .inr ⟨i,j,rfl,rfl,hc,e⟩
  | _=>exact noN rfl h
 | _=>exact noN rfl h
def gj{o:RL.Bop}{x y d:RL.D}(h:RL.aQ o x y=some d)(ho:o≠.add)(hm:o≠.mul):∃ i j,x=.int i/\y=.int j/\RL.aQ o (.int i) (.int j)=some d:=by
 have no:∀ {a b:RL.D},RL.aQ .sub a b=none->RL.aQ .fdiv a b=none->RL.aQ .mod a b=none->RL.aQ .pow a b=none->RL.aQ o a b=some d->False:=fun e1 e2 e3 e4 h=>by
  cases o with
  | add=>exact ho rfl
  | mul=>exact hm rfl
  | sub=>rw[e1]at h;cases h
  | fdiv=>rw[e2]at h;cases h
  | mod=>rw[e3]at h;cases h
  | pow=>rw[e4]at h;cases h
 cases x with
 | int i=>cases y with
  | int j=>exact⟨i,j,rfl,rfl,h⟩
  | _=>exact(no rfl rfl rfl rfl h).elim
 | _=>exact(no rfl rfl rfl rfl h).elim
def vw{x y d:RL.D}(h:RL.aQ .sub x y=some d):∃ i j,x=.int i/\y=.int j/\d=.int (i-j):=by
 obtain⟨i,j,e1,e2,h⟩:=gj h (by decide) (by decide);cases h;exact⟨i,j,e1,e2,rfl⟩
def tL{x y d:RL.D}(h:RL.aQ .fdiv x y=some d):∃ i j,x=.int i/\y=.int j/\(0<j/\j<2 ^ 200)/\d=.int (i / j):=by
 obtain⟨i,j,e1,e2,h⟩:=gj h (by decide) (by decide);obtain⟨hc,e⟩:=bq h;exact⟨i,j,e1,e2,hc,e⟩
def wc{x y d:RL.D}(h:RL.aQ .mod x y=some d):∃ i j,x=.int i/\y=.int j/\0<j/\d=.int (i%j):=by
 obtain⟨i,j,e1,e2,h⟩:=gj h (by decide) (by decide);obtain⟨hc,e⟩:=bq h;exact⟨i,j,e1,e2,hc,e⟩
def uZ{x y d:RL.D}(h:RL.aQ .pow x y=some d):∃ i j,x=.int i/\y=.int j/\(0<=j/\j<=1000/\i.natAbs<2 ^ 64)/\d=.int (i ^ j.toNat):=by
 obtain⟨i,j,e1,e2,h⟩:=gj h (by decide) (by decide);obtain⟨hc,e⟩:=bq h;exact⟨i,j,e1,e2,hc,e⟩
def aP{P:Addr->Prop}{K:PySem.W.Frag}{H:Hp}{ds:List RL.D}{v:V}(h:Rep P K H (.lst ds) v):∃ a xs,v=.ref a/\¬ P a/\H a=some (.lst xs)/\ai P K H ds xs:=by rw[Rep]at h;exact h
def bx{P:Addr->Prop}{K:PySem.W.Frag}{H:Hp}{ds:List RL.D}{v:V}(h:Rep P K H (.tup ds) v):∃ a xs,v=.ref a/\H a=some (.tup xs)/\ai P K H ds xs:=by rw[Rep]at h;exact h
def BC:jV X .sub (rI0 fun i j=>.int (i-j)):=by
 intro σD σ H H2 e x y d v u Q sm rx ry h hav k;obtain⟨i,j,rfl,rfl,rfl⟩:=vw h;exact⟨i,j,ar rx,ar ry,k _ _ (bT sm aV rfl)⟩
def ya:jV X .fdiv (rI (fun _ j=>0<j/\j<2 ^ 200) fun i j=>.int (i / j)):=by
 intro σD σ H H2 e x y d v u Q sm rx ry h hav k;obtain⟨i,j,rfl,rfl,hc,rfl⟩:=tL h;exact⟨i,j,ar rx,ar ry,hc,k _ _ (bT sm aV rfl)⟩
def BJ:jV X .mod (rI (fun _ j=>0<j) fun i j=>.int (i%j)):=by
 intro σD σ H H2 e x y d v u Q sm rx ry h hav k;obtain⟨i,j,rfl,rfl,hc,rfl⟩:=wc h;exact⟨i,j,ar rx,ar ry,hc,k _ _ (bT sm aV rfl)⟩
def zC:jV X .pow (rI BA fun i j=>.int (i ^ j.toNat)):=by
 intro σD σ H H2 e x y d v u Q sm rx ry h hav k;obtain⟨i,j,rfl,rfl,hc,rfl⟩:=uZ h;exact⟨i,j,ar rx,ar ry,⟨hc.1,Int.le_trans hc.2.1 (by decide),hc.2.2⟩,k _ _ (bT sm aV rfl)⟩
def Bm(ha:SE X cl a a')(hb:SE X cl b b'):SE X cl (.BinOp a .Add b pos) (.bin .add a' b'):=by
 refine fA (o:=.add) (BE.or (qS.or (AQ.or x9))) ?_ ha hb;intro σD σ H H2 e x y d v u Q sm rx ry h hav k
 rcases vB h with⟨i,j,rfl,rfl,rfl⟩ | ⟨i,j,rfl,rfl,hc,rfl⟩ | ⟨i,j,rfl,rfl,hc,rfl⟩ | ⟨i,j,rfl,rfl,⟨hc,ha⟩,rfl⟩
 ·exact .inl ⟨i,j,ar rx,ar ry,k _ _ (bT sm aV rfl)⟩
 ·exact .inr (.inl ⟨i,j,aN rx,aN ry,Nat.le_trans hc cb,k _ _ (bT sm fF rfl)⟩)
 ·obtain⟨p,xs,e1,_,e2,e3⟩:=aP rx;obtain⟨q,ys,f1,_,f2,f3⟩:=aP ry;refine .inr (.inr (.inl ⟨p,q,xs,ys,e1,f1,e2,f2,?_,fun l hl=>k _ _ (cz sm hl (e3.append f3) hav)⟩));rw[<-e3.length,<-f3.length];exact Nat.le_trans hc cb
 ·obtain⟨p,xs,e1,e2,e3⟩:=bx rx;obtain⟨q,ys,f1,f2,f3⟩:=bx ry;refine .inr (.inr (.inr ⟨p,q,xs,ys,e1,f1,SqT.of e2,SqT.of f2,fun z=>?_,?_,fun z=>?_,fun _ l hl=>k _ _ (i4 sm hl (e3.append f3) hav)⟩))
  ·rw[e3.length,z]at ha;exact absurd ha (by decide)
  ·rw[<-e3.length,<-f3.length];exact Nat.le_trans hc cb
  ·have hj:j=[]:=by
    have:=f3.length;rw[z]at this;exact List.length_eq_zero_iff.mp this
   subst hj;rw[List.append_nil]at k;exact k _ _ ⟨sm,e1▸rx,fun _ m=>(by cases m),fun M z=>by rw[hav M]at z;cases z⟩
def zq(ha:SE X cl a a')(hb:SE X cl b b'):SE X cl (.BinOp a .Mult b pos) (.bin .mul a' b'):=by
 refine fA (o:=.mul) (Ah.or zA) ?_ ha hb;intro σD σ H H2 e x y d v u Q sm rx ry h hav k
 rcases vt h with⟨i,j,rfl,rfl,hc,rfl⟩ | ⟨i,j,rfl,rfl,hc,rfl⟩
 ·exact .inl ⟨i,j,ar rx,ar ry,hc,k _ _ (bT sm aV rfl)⟩
 ·obtain⟨p,xs,e1,_,e2,e3⟩:=aP rx;refine .inr ⟨p,j,xs,e1,ar ry,e2,?_,?_,?_,fun l hl=>k _ _ (cz sm hl (e3.rep _) hav)⟩
  ·exact Int.le_trans (by decide) hc.1
  ·exact Int.lt_of_le_of_lt hc.2.1 (by decide)
  ·rw[<-e3.length];exact Nat.le_trans hc.2.2 cb
def ze{o:RL.Bop}(ha:SE X cl a a')(hb:SE X cl b b'):SE X cl (.BinOp a (oa o) b pos) (.bin o a' b'):=by
 cases o with
 | add=>exact Bm ha hb
 | mul=>exact zq ha hb
 | sub=>exact fA (o:=.sub) zF BC ha hb
 | fdiv=>exact fA (o:=.fdiv) vW ya ha hb
 | mod=>exact fA (o:=.mod) BH BJ ha hb
 | pow=>exact fA (o:=.pow) Bd zC ha hb
def cX{σD:RL.St}{σ:L2.St}{H H':Hp}{e:RL.E}{k:Bool}(sm:aD H H'):Res X.K σD σ H e (.bl k) (.bl k) H':=bT sm m6 rfl
def AD{rest:List Expr}(ha:SE X cl a a')(hb:SE X cl (.BoolOp .And (b::rest) pos) b'):SE X cl (.BoolOp .And (a::b::rest) pos) (.and a' b'):=by
 refine PE.weak (AU ha hb) fun σ H Q h=>?_;obtain⟨σD,d,rv,e,k⟩:=h;obtain⟨x,ea,e⟩:=bind_some e;refine⟨σD,x,rv,ea,fun v H1 r1=>?_⟩
 cases x with
 |bl t=>
  refine⟨t,bf r1.rep,?_⟩
  cases t with
  |true=>
   refine eZ ?_;refine⟨σD,d,rv.same r1.same,e,fun w H2 r2=>k w H2 ?_⟩;exact⟨r1.same.trans r2.same,r2.rep,fun z=>(by cases z),fun M z=>nomatch (show false=true from z)⟩
  |false=>
   refine fU ?_;cases e;exact k _ _ (cX r1.same)
 | _=>cases e
def Cw{rest:List Expr}(ha:SE X cl a a')(hb:SE X cl (.BoolOp .Or (b::rest) pos) b'):SE X cl (.BoolOp .Or (a::b::rest) pos) (.or a' b'):=by
 refine PE.weak (Cc ha hb) fun σ H Q h=>?_;obtain⟨σD,d,rv,e,k⟩:=h;obtain⟨x,ea,e⟩:=bind_some e;refine⟨σD,x,rv,ea,fun v H1 r1=>?_⟩
 cases x with
 |bl t=>
  refine⟨t,bf r1.rep,?_⟩
  cases t with
  |false=>
   refine fU ?_;refine⟨σD,d,rv.same r1.same,e,fun w H2 r2=>k w H2 ?_⟩;exact⟨r1.same.trans r2.same,r2.rep,fun z=>(by cases z),fun M z=>nomatch (show false=true from z)⟩
  |true=>
   refine eZ ?_;cases e;exact k _ _ (cX r1.same)
 | _=>cases e
def sH{op}(ha:SE X cl a a'):SE X cl (.BoolOp op [a] pos) a':=A2 ha
abbrev tT(K:PySem.W.Frag)(cl:RL.Cl)(e:RL.E):TT:=fun σ H Q=>∃ σD k,RV0 K σD σ H/\(RL.ev cl σD e).bind RL.truth=some k/\∀ H',aD H H'->Q k H'
abbrev ST(X:Cx)(cl:RL.Cl)(e:Expr)(e':RL.E):Prop:=PT X e (tT X.K cl e')
abbrev SW(X:Cx)(cl:RL.Cl)(e:Expr)(e':RL.E):Prop:=PW X e (tT X.K cl e')
def PT.weak{e:Expr}{t t':TT}(h:PT X e t)(w:∀ σ H Q,t' σ H Q->t σ H Q):PT X e t':=fun pins s σ H Q I q=>h pins s σ H Q I (w σ H Q q)
def PW.weak{e:Expr}{t t':TT}(h:PW X e t)(w:∀ σ H Q,t' σ H Q->t σ H Q):PW X e t':=fun wh pins s σ H Q I q=>h wh pins s σ H Q I (w σ H Q q)
def ai.isEmpty{P:Addr->Prop}{K:PySem.W.Frag}{H:Hp}{ds:List RL.D}{xs:List V}(h:ai P K H ds xs):ds.isEmpty=xs.isEmpty:=by
 cases ds with
 | nil=>rw[ai]at h;rw[h];rfl
 |cons d r=>
  rw[ai]at h;obtain⟨x,t,rfl,_⟩:=h;rfl
def Ap{K:PySem.W.Frag}{H:Hp}{d:RL.D}{v:V}{k:Bool}(r:Rep nP K H d v)(h:RL.truth d=some k):qk K v H k:=by
 cases d<;>simp only[RL.truth]at h<;>first | (cases h;done) | skip
 case bl t=>cases h;rw[bf r];exact rfl
 case int t =>
  cases h;rw[ar r];simp[qk]
 case tup ds =>
  obtain⟨a,xs,rfl,e,rs⟩:=bx r;cases h;exact .inr (.inl ⟨xs,SqT.of e,by rw[rs.isEmpty]⟩)
 case lst ds =>
  obtain⟨a,xs,rfl,_,e,rs⟩:=aP r;cases h;exact .inl ⟨xs,SqL.of e,by rw[rs.isEmpty]⟩
def vH(ha:SE X cl a a')(he:∀ whole,isTrue a X.env whole=(do let v <- whole;standAt a.pos;holding [v] (truthy v))):ST X cl a a':=by
 refine PT.weak (vU ha he) fun σ H Q h=>?_;obtain⟨σD,k,rv,e,q⟩:=h;obtain⟨d,e1,e2⟩:=bind_some e;exact⟨σD,d,rv,e1,fun v H1 r1=>⟨k,Ap r1.rep e2,q H1 r1.same⟩⟩
def ui{op:BoolOp}(ha:ST X cl a a'):SW X cl (.BoolOp op [a] pos) a':=by
 cases op with
 | And=>exact yr ha
 | Or=>exact zw ha
def ur{σD:RL.St}{k:Bool}(h:(RL.ev cl σD (.and a' b')).bind RL.truth=some k):∃ t,(RL.ev cl σD a').bind RL.truth=some t/\(if t=true then(RL.ev cl σD b').bind RL.truth=some k else k=false):=by
 rw[RL.gm]at h
 cases ea:RL.ev cl σD a' with
 | none=>rw[ea]at h;cases h
 |some x=>
  rw[ea]at h
  cases x with
  |bl t=>
   cases t with
   | true=>exact⟨true,rfl,eZ h⟩
   | false=>exact⟨false,rfl,fU (by cases h;rfl)⟩
  | _=>exact noN rfl h
def v5{σD:RL.St}{k:Bool}(h:(RL.ev cl σD (.or a' b')).bind RL.truth=some k):∃ t,(RL.ev cl σD a').bind RL.truth=some t/\(if t=true then k=true else(RL.ev cl σD b').bind RL.truth=some k):=by
 rw[RL.vN]at h
 cases ea:RL.ev cl σD a' with
 | none=>rw[ea]at h;cases h
 |some x=>
  rw[ea]at h
  cases x with
  |bl t=>
   cases t with
   | true=>exact⟨true,rfl,eZ (by cases h;rfl)⟩
   | false=>exact⟨false,rfl,fU h⟩
  | _=>exact noN rfl h
def Af{rest:List Expr}(ha:ST X cl a a')(hb:SW X cl (.BoolOp .And (b::rest) pos) b'):SW X cl (.BoolOp .And (a::b::rest) pos) (.and a' b'):=by
 refine PW.weak (Bc ha hb) fun σ H Q h=>?_;obtain⟨σD,k,rv,e,q⟩:=h;obtain⟨t,e1,e2⟩:=ur e;refine⟨σD,t,rv,e1,fun H1 s1=>?_⟩
 cases t with
 | true=>exact eZ ⟨σD,k,rv.same s1,e2,fun H2 s2=>q H2 (s1.trans s2)⟩
 |false=>
  have e2:k=false:=e2;subst e2;exact fU (q H1 s1)
def Cq{rest:List Expr}(ha:ST X cl a a')(hb:SW X cl (.BoolOp .Or (b::rest) pos) b'):SW X cl (.BoolOp .Or (a::b::rest) pos) (.or a' b'):=by
 refine PW.weak (Ci ha hb) fun σ H Q h=>?_;obtain⟨σD,k,rv,e,q⟩:=h;obtain⟨t,e1,e2⟩:=v5 e;refine⟨σD,t,rv,e1,fun H1 s1=>?_⟩
 cases t with
 |true=>
  have e2:k=true:=e2;subst e2;exact eZ (q H1 s1)
 | false=>exact fU ⟨σD,k,rv.same s1,e2,fun H2 s2=>q H2 (s1.trans s2)⟩
def Bf(ha:ST X cl a a'):ST X cl (.UnaryOp .Not a pos) (.not a'):=by
 refine PT.weak (AS ha) fun σ H Q h=>?_;obtain⟨σD,k,rv,e,q⟩:=h;obtain⟨d,e1,e2⟩:=bind_some e;obtain⟨t,e3,e4⟩:=map_some e1;subst e4;cases e2;exact⟨σD,t,rv,e3,fun H1 s1=>q H1 s1⟩
end rules
section rules
variable{X:Cx}
def A7(ha:SE X cl a a'):SE X cl (.UnaryOp .Not a pos) (.not a'):=by
 intro pins s σ H Q I h;obtain⟨σD,d,rv,e,k⟩:=h;obtain⟨t,e1,e2⟩:=map_some e;obtain⟨x,e3,e4⟩:=bind_some e1;subst e2;refine UnaryOp_ (thn (ha pins s σ H (fun v H1=>aD H H1/\Rep nP X.K H1 x v) I ⟨σD,x,rv,e3,fun v H1 r1=>⟨r1.same,r1.rep⟩⟩) fun v s1 ⟨y,H1,I1,r1,sm,rp⟩=>?_);refine not_of (thn (sW pins s1 σ H1 y v (fun k H2=>k=t/\H2=H1) I1 r1 ⟨t,Ap rp e4,rfl,rfl⟩) fun k2 s2 ⟨H2,I2,q1,q2⟩=>?_);subst q1;subst q2;exact⟨.bl (!k2),H2,I2,rfl,k _ _ (cX sm)⟩
abbrev noStar:Expr->Bool
 | .Starred _ _=>false
 | _=>true
def aC(es:List Expr)(h:noStar e=true):starEach (e::es) X.env=(false,eval e X.env)::starEach es X.env:=by
 cases e<;>first | rfl | (cases h)
def cC:∀ {es:List Expr} {pos:Pos},es.all noStar=true->(backTo pos (starEach es X.env)).any (·.1)=false
 | [],_,_=>rfl
 | e::es,pos,h=>by
  rw[List.all_cons,Bool.and_eq_true]at h;rw[aC es h.1];show(false || (backTo pos (starEach es X.env)).any (·.1))=false;rw[cC h.2];rfl
def dz:SEs X cl [] .nil:=by
 intro pos pins s σ H Q I h;obtain⟨σD,ds,rv,e,k⟩:=h;cases e;exact cA pos pins s σ H Q I (k [] H (aD.refl H) ai.nil)
def bY(he:SE X cl e e')(hr:SEs X cl es es')(hn:noStar e=true):SEs X cl (e::es) (.cons e' es'):=by
 intro pos pins s σ H Q I h;refine ba he hr (aC es hn) pos pins s σ H Q I ?_;obtain⟨σD,ds,rv,e,k⟩:=h;obtain⟨d,e1,e2⟩:=bind_some e;obtain⟨r,e3,e4⟩:=map_some e2;subst e4;refine⟨σD,d,rv,e1,fun v H1 r1=>⟨σD,r,rv.same r1.same,e3,fun vs H2 s2 r2=>k (v::vs) H2 (r1.same.trans s2) (ai.cons (r1.rep.same s2) r2)⟩⟩
abbrev dC:RL.Es->Nat
 | .nil=>0
 | .cons _ r=>dC r+1
def jA:∀ {es:RL.Es} {ds:List RL.D},RL.evs cl σD es=some ds->ds.length=dC es
 | .nil,ds,h=>by rw[RL.evs]at h;cases h;rfl
 | .cons e r,ds,h=>by
  obtain⟨d,e1,e2⟩:=bind_some h;obtain⟨t,e3,e4⟩:=map_some e2;subst e4;rw[List.length_cons,jA e3,dC]
def zG(h:SEs X cl es es')(hl:dC es'<=1000):SE X cl (.Tuple es x1 pos) (.tup es'):=by
 refine PE.weak (AX h) fun σ H Q q=>?_;obtain⟨σD,d,rv,e,k⟩:=q;obtain⟨ds,e1,e2⟩:=map_some e;subst e2;refine⟨σD,ds,rv,e1,fun vs H1 s1 r1=>⟨?_,fun p hp=>k _ _ (i4 s1 hp r1 fun _=>rfl)⟩⟩;rw[<-r1.length,jA e1];exact Nat.le_of_lt (lP hl)
def Bg(h:SEs X cl es es')(hl:dC es'<=1000):SE X cl (.List es pos) (.lst es'):=by
 refine PE.weak (A0 h) fun σ H Q q=>?_;obtain⟨σD,d,rv,e,k⟩:=q;obtain⟨ds,e1,e2⟩:=map_some e;subst e2;refine⟨σD,ds,rv,e1,fun vs H1 s1 r1=>⟨?_,fun p hp=>k _ _ (cz s1 hp r1 fun _=>rfl)⟩⟩;rw[<-r1.length,jA e1];exact Nat.le_of_lt (lP hl)
def js(h:RL.bJ xs i=some x):atI xs i=some x:=by
 unfold RL.bJ at h;unfold atI ixN;by_cases h0:0<=i
 ·rw[if_pos h0]at h;rw[if_pos h0];obtain⟨h1,_⟩:=List.getElem?_eq_some_iff.mp h;rw[if_pos (by lia)];exact h
 ·rw[if_neg h0]at h;rw[if_neg h0];by_cases h1:-(xs.length:Int)<=i
  ·rw[if_pos h1]at h;rw[if_pos h1];exact h
  ·rw[if_neg h1]at h;cases h
def eP{P:Addr->Prop}{K:PySem.W.Frag}(r:ai P K H ds xs)(h:RL.bJ ds i=some d):∃ x,RL.bJ xs i=some x/\Rep P K H d x:=by
 unfold RL.bJ at h ⊢;rw[<-r.length];by_cases h0:0<=i
 ·rw[if_pos h0]at h ⊢;exact r.get h
 ·rw[if_neg h0]at h ⊢;by_cases h1:-(ds.length:Int)<=i
  ·rw[if_pos h1]at h ⊢;exact r.get h
  ·rw[if_neg h1]at h;cases h
abbrev mK:Expr->Bool
 | .Slice _ _ _ _=>false
 | _=>true
def pT(h:mK b=true):pX b:=by
 intro o i
 cases b<;>first | rfl | (cases h)
def uT{xs:List RL.D}{i:Int}(im:RL.aB xs=true)(h:RL.bJ xs i=some d):d.imm=true:=by
 have mem:d∈xs:=by
  unfold RL.bJ at h;split at h
  ·exact List.mem_of_getElem? h
  ·split at h
   ·exact List.mem_of_getElem? h
   ·cases h
 clear h
 induction xs with
 | nil=>cases mem
 |cons a r ih=>
  rw[RL.aB,Bool.and_eq_true]at im;rcases List.mem_cons.mp mem with rfl | m
  ·exact im.1
  ·exact ih im.2 m
def sk(h:RL.ixV x y=some d):(∃ xs i,x=.lst xs/\y=.int i/\RL.bJ xs i=some d)\/(∃ xs i,x=.tup xs/\y=.int i/\RL.bJ xs i=some d) \/
  (∃ (z:Str) (i:Int) (c:Nat),x=.str z/\y=.int i/\z.length<=RL.most/\RL.bJ z.cps.toList i=some c/\d=.str ⟨#[c]⟩)\/(∃ xs i,x=.fL xs/\y=.int i/\RL.aB xs=true/\RL.bJ xs i=some d):=by
 have no:∀ {o:Option RL.D},o=none->o=some d->False:=fun e h=>by rw[e]at h;cases h
 cases x with
 | lst xs=>cases y with
  | int i=>exact .inl ⟨xs,i,rfl,rfl,h⟩
  | _=>exact(no rfl h).elim
 | tup xs=>cases y with
  | int i=>exact .inr (.inl ⟨xs,i,rfl,rfl,h⟩)
  | _=>exact(no rfl h).elim
 | str z=>cases y with
  |int i=>
   by_cases hc:z.length<=RL.most
   ·obtain⟨c,e1,e2⟩:=map_some (show(RL.bJ z.cps.toList i).map (fun c=>RL.D.str ⟨#[c]⟩)=some d from(if_pos hc).symm.trans h);exact .inr (.inr (.inl ⟨z,i,c,rfl,rfl,hc,e1,e2.symm⟩))
   ·exact(no (if_neg hc) h).elim
  | _=>exact(no rfl h).elim
 | fL xs=>cases y with
  |int i=>
   by_cases hc:RL.aB xs=true
   ·exact .inr (.inr (.inr ⟨xs,i,rfl,rfl,hc,(if_pos hc).symm.trans h⟩))
   ·exact(no (if_neg hc) h).elim
  | _=>exact(no rfl h).elim
 | _=>exact(no rfl h).elim
def Cp(ha:SE X cl a a')(hb:SE X cl b b')(hs:mK b=true):SE X cl (.Subscript a b pos) (.ix a' b'):=by
 refine PE.weak (xi uG ha hb (pT hs)) fun σ H Q h=>?_;obtain⟨σD,d,rv,e,k⟩:=h;obtain⟨x,ea,e⟩:=bind_some e;obtain⟨y,eb,e⟩:=bind_some e;refine two rv ea eb fun v u H1 H2 s1 s2 rx ry ra rb=>?_
 have fin:∀ (w:V),Rep nP X.K H2 d w->(∀ P:Addr->Prop,Rep P X.K H2 x v->Rep P X.K H2 d w)->Res X.K σD σ H (.ix a' b') d w H2:=fun w h1 h2=>{
  same:=s1.trans s2
  rep:=h1
  fresh:=fun z=>by cases z
  av:=fun M z P hP av=>h2 P ((ra.av M z P hP av).same s2) }
 rcases sk e with⟨xs,i,rfl,rfl,hd⟩ | ⟨xs,i,rfl,rfl,hd⟩ | ⟨z,i,c,rfl,rfl,hz,hd,rfl⟩ | ⟨xs,i,rfl,rfl,im,hd⟩
 ·obtain⟨p,ys,rfl,_,e2,e3⟩:=aP rx;obtain⟨w,h1,h2⟩:=eP e3 hd;refine .inl ⟨p,ys,i,w,rfl,ar ry,SqL.of e2,js h1,k _ _ (fin w h2 fun P rp=>?_)⟩;obtain⟨p',ys',q1,_,q2,q3⟩:=aP rp;cases q1;rw[e2]at q2;cases q2;obtain⟨w',h3,h4⟩:=eP q3 hd;rw[h1]at h3;cases h3;exact h4
 ·obtain⟨p,ys,rfl,e2,e3⟩:=bx rx;obtain⟨w,h1,h2⟩:=eP e3 hd;refine .inr (.inl ⟨p,ys,i,w,rfl,ar ry,SqT.of e2,js h1,k _ _ (fin w h2 fun P rp=>?_)⟩);obtain⟨p',ys',q1,q2,q3⟩:=bx rp;cases q1;rw[e2]at q2;cases q2;obtain⟨w',h3,h4⟩:=eP q3 hd;rw[h1]at h3;cases h3;exact h4
 ·exact .inr (.inr ⟨z,i,c,aN rx,ar ry,Nat.le_trans hz cb,js hd,k _ _ (fin _ fF fun P _=>fF)⟩)
 ·rw[Rep]at rx;obtain⟨p,o,ys,rfl,e2,e3⟩:=rx;obtain⟨w,h1,h2⟩:=eP e3 hd;exact .inl ⟨p,ys,i,w,rfl,ar ry,.inl (.inr ⟨o,e2⟩),js h1,k _ _ (bT (s1.trans s2) h2 (uT im hd))⟩
end rules
section rules
def fB:∀ {as bs:List RL.D} {k:Bool},RL.eqs f as bs=some k ->
  ∃ e:Nat->Bool,k=(List.range (min as.length bs.length)).all e/\∀ j x y,as[j]?=some x->bs[j]?=some y->f x y=some (e j)
 | [],bs,k,h=>by
  have h:some true=some k:=by simpa[RL.eqs]using h
  cases h;exact⟨fun _=>true,by simp,fun j x y h1=>by simp at h1⟩
 | a::r,[],k,h=>by
  have h:some true=some k:=by simpa[RL.eqs]using h
  cases h;exact⟨fun _=>true,by simp,fun j x y h1 h2=>by simp at h2⟩
 | a::r,b::s,k,h=>by
  rw[RL.eqs]at h;obtain⟨e0,h1,h2⟩:=bind_some h;obtain⟨k',h3,h4⟩:=map_some h2;obtain⟨e,h5,h6⟩:=fB h3;refine⟨fun j=>match j with | 0=>e0 | j+1=>e j,?_,fun j x y hx hy=>?_⟩
  ·rw[<-h4,h5,List.length_cons,List.length_cons,Nat.succ_min_succ,List.range_succ_eq_map,List.all_cons,List.all_map];rfl
  ·cases j with
   |zero=>
    simp at hx hy;subst hx hy;exact h1
   | succ j=>exact h6 j x y (by simpa using hx) (by simpa using hy)
abbrev LF(x:RL.D)(i:List RL.D):Prop:=x=.lst i\/x=.fL i
def gN{P:Addr->Prop}{K:PySem.W.Frag}{H:Hp}{v:V}(h:Rep P K H x v)(l:LF x i):∃ a xs,v=.ref a/\(H a=some (.lst xs)\/∃ o,H a=some (.frz o (.lst xs)))/\ai P K H i xs:=by
 rcases l with rfl | rfl
 ·obtain⟨a,xs,h1,_,h2,h3⟩:=aP h;exact⟨a,xs,h1,.inl h2,h3⟩
 ·rw[Rep]at h;obtain⟨a,o,xs,h1,h2,h3⟩:=h;exact⟨a,xs,h1,.inr ⟨o,h2⟩,h3⟩
def B9{H:Hp}{xs ys:List V}(h:H a=some (.lst xs)\/∃ o,H a=some (.frz o (.lst xs)))(h':H a=some (.lst ys)\/∃ o,H a=some (.frz o (.lst ys))):xs=ys:=by
 rcases h with h | ⟨o,h⟩
 ·rcases h' with h' | ⟨o',h'⟩<;>(rw[h]at h';cases h');rfl
 ·rcases h' with h' | ⟨o',h'⟩<;>(rw[h]at h';cases h');rfl
def eX(h:RL.eqD n x y=some k):(∃ i j,x=.bl i/\y=.bl j/\(i == j)=k)\/(∃ i j,x=.int i/\y=.int j/\(i == j)=k)\/(∃ i j,x=.str i/\y=.str j/\(i == j)=k) \/
  (∃ m i j,n=m+1/\x=.tup i/\y=.tup j/\Option.map (fun k=>k&&i.length == j.length) (RL.eqs (RL.eqD m) i j)=some k)\/(∃ m i j,n=m+1/\LF x i/\LF y j/\Option.map (fun k=>k&&i.length == j.length) (RL.eqs (RL.eqD m) i j)=some k):=by
 cases n with
 | zero=>cases x with
  | bl i=>cases y with
   | bl j=>exact .inl ⟨i,j,rfl,rfl,Option.some.inj h⟩
   | _=>exact noN rfl h
  | int i=>cases y with
   | int j=>exact .inr (.inl ⟨i,j,rfl,rfl,Option.some.inj h⟩)
   | _=>exact noN rfl h
  | str i=>cases y with
   | str j=>exact .inr (.inr (.inl ⟨i,j,rfl,rfl,Option.some.inj h⟩))
   | _=>exact noN rfl h
  | _=>exact noN rfl h
 | succ m=>cases x with
  | bl i=>cases y with
   | bl j=>exact .inl ⟨i,j,rfl,rfl,Option.some.inj h⟩
   | _=>exact noN rfl h
  | int i=>cases y with
   | int j=>exact .inr (.inl ⟨i,j,rfl,rfl,Option.some.inj h⟩)
   | _=>exact noN rfl h
  | str i=>cases y with
   | str j=>exact .inr (.inr (.inl ⟨i,j,rfl,rfl,Option.some.inj h⟩))
   | _=>exact noN rfl h
  | tup i=>cases y with
   | tup j=>exact .inr (.inr (.inr (.inl ⟨m,i,j,rfl,rfl,rfl,h⟩)))
   | _=>exact noN rfl h
  | lst i=>cases y with
   | lst j=>exact .inr (.inr (.inr (.inr ⟨m,i,j,rfl,.inl rfl,.inl rfl,h⟩)))
   | fL j=>exact .inr (.inr (.inr (.inr ⟨m,i,j,rfl,.inl rfl,.inr rfl,h⟩)))
   | _=>exact noN rfl h
  | fL i=>cases y with
   | lst j=>exact .inr (.inr (.inr (.inr ⟨m,i,j,rfl,.inr rfl,.inl rfl,h⟩)))
   | fL j=>exact .inr (.inr (.inr (.inr ⟨m,i,j,rfl,.inr rfl,.inr rfl,h⟩)))
   | _=>exact noN rfl h
  | _=>exact noN rfl h
def lD{K:PySem.W.Frag}:∀ (n:Nat) (x y:RL.D) (v:V) (k:Bool),Rep nP K H x v->Rep nP K H y v->RL.eqD n x y=some k->k=true:=by
 intro n
 induction n with
 |zero=>
  intro x y v k rx ry h
  rcases eX h with⟨i,j,rfl,rfl,rfl⟩ | ⟨i,j,rfl,rfl,rfl⟩ | ⟨i,j,rfl,rfl,rfl⟩ | ⟨m,i,j,hn,hx,hy,h⟩ | ⟨m,i,j,hn,hx,hy,h⟩
  ·have:=bf rx;rw[bf ry]at this;cases this;simp
  ·have:=ar rx;rw[ar ry]at this;cases this;simp
  ·have:=aN rx;rw[aN ry]at this;cases this;simp
  ·cases hn
  ·cases hn
 |succ n ih=>
  intro x y v k rx ry h
  have seq:∀ (i j:List RL.D) (xs:List V) (k:Bool),ai nP K H i xs->ai nP K H j xs->Option.map (fun k=>k&&i.length == j.length) (RL.eqs (RL.eqD n) i j)=some k->k=true:=by
   intro i j xs k e3 f3 h;obtain⟨k',h1,h2⟩:=map_some h;obtain⟨e,h3,h4⟩:=fB h1;have hl:i.length=j.length:=e3.length.trans f3.length.symm
   have hk:k'=true:=by
    rw[h3,List.all_eq_true];intro m hm;rw[List.mem_range]at hm;obtain⟨w,w1,w2⟩:=e3.get (i:=m) (d:=i[m]'(by lia)) (by simp);obtain⟨w',w1',w2'⟩:=f3.get (i:=m) (d:=j[m]'(by lia)) (by simp);rw[w1]at w1';cases w1';exact ih _ _ w (e m) w2 w2' (h4 m _ _ (by simp) (by simp))
   rw[<-h2,hk,hl];simp
  rcases eX h with⟨i,j,rfl,rfl,rfl⟩ | ⟨i,j,rfl,rfl,rfl⟩ | ⟨i,j,rfl,rfl,rfl⟩ | ⟨m,i,j,hn,hx,hy,h⟩ | ⟨m,i,j,hn,hx,hy,h⟩
  ·have:=bf rx;rw[bf ry]at this;cases this;simp
  ·have:=ar rx;rw[ar ry]at this;cases this;simp
  ·have:=aN rx;rw[aN ry]at this;cases this;simp
  ·cases hn;subst hx;subst hy;obtain⟨p,xs,rfl,e2,e3⟩:=bx rx;obtain⟨q,ys,q1,f2,f3⟩:=bx ry;cases q1;rw[e2]at f2;cases f2;exact seq i j xs k e3 f3 h
  ·cases hn;obtain⟨p,xs,rfl,e2,e3⟩:=gN rx hx;obtain⟨q,ys,q1,f2,f3⟩:=gN ry hy;cases q1;cases B9 e2 f2;exact seq i j xs k e3 f3 h
open SeqAt in
def deep(I:Inv X pins σ H s):∀ (n:Nat) (A:Around) (x y:RL.D) (v u:V) (va ua:Value) (k:Bool),A.units+n<cLine->Rep nP X.K H x v->Rep nP X.K H y u->RelV v va->RelV u ua ->
  RL.eqD n x y=some k->RcAt A s va ua k/\EqAt A s va ua k:=by
 intro n
 induction n with
 |zero=>
  intro A x y v u va ua k hu rx ry qx qy h
  rcases eX h with⟨i,j,rfl,rfl,rfl⟩ | ⟨i,j,rfl,rfl,rfl⟩ | ⟨i,j,rfl,rfl,rfl⟩ | ⟨m,i,j,hn,hx,hy,h⟩ | ⟨m,i,j,hn,hx,hy,h⟩
  ·rw[bf rx]at qx;rw[bf ry]at qy;cases qx;cases qy;exact⟨RcAt.bool_bool i j,EqAt.bool_bool i j⟩
  ·rw[ar rx]at qx;rw[ar ry]at qy;obtain⟨t,rfl⟩:=qx;obtain⟨t',rfl⟩:=qy;exact⟨RcAt.int_int i t j t',EqAt.int_int i t j t'⟩
  ·rw[aN rx]at qx;rw[aN ry]at qy;obtain⟨t,rfl⟩:=qx;obtain⟨t',rfl⟩:=qy;exact⟨RcAt.str_str i t j t',EqAt.str_str i t j t'⟩
  ·cases hn
  ·cases hn
 |succ n ih=>
  intro A x y v u va ua k hu rx ry qx qy h
  rcases eX h with⟨i,j,rfl,rfl,rfl⟩ | ⟨i,j,rfl,rfl,rfl⟩ | ⟨i,j,rfl,rfl,rfl⟩ | ⟨m,i,j,hn,hx,hy,h⟩ | ⟨m,i,j,hn,hx,hy,h⟩
  ·rw[bf rx]at qx;rw[bf ry]at qy;cases qx;cases qy;exact⟨RcAt.bool_bool i j,EqAt.bool_bool i j⟩
  ·rw[ar rx]at qx;rw[ar ry]at qy;obtain⟨t,rfl⟩:=qx;obtain⟨t',rfl⟩:=qy;exact⟨RcAt.int_int i t j t',EqAt.int_int i t j t'⟩
  ·rw[aN rx]at qx;rw[aN ry]at qy;obtain⟨t,rfl⟩:=qx;obtain⟨t',rfl⟩:=qy;exact⟨RcAt.str_str i t j t',EqAt.str_str i t j t'⟩
  ·cases hn;subst hx;subst hy;obtain⟨p,xs,rfl,e2,e3⟩:=bx rx;obtain⟨q,ys,rfl,f2,f3⟩:=bx ry;cases qx;cases qy;obtain⟨its,r1,t1,z1⟩:=I.tuple (SqT.of e2);obtain⟨jts,r2,t2,z2⟩:=I.tuple (SqT.of f2);obtain⟨k',h1,h2⟩:=map_some h;obtain⟨e,h3,h4⟩:=fB h1;have l1:i.length=its.length:=e3.length.trans r1.length;have l2:j.length=jts.length:=f3.length.trans r2.length
   have he:∀ m (g1:m<its.toArray.size) (g2:m<jts.toArray.size),EqAt A.in1 s its.toArray[m] jts.toArray[m] (e m):=fun m g1 g2=>by
    rw[List.size_toArray]at g1 g2;obtain⟨w,w1,w2⟩:=e3.get (i:=m) (d:=i[m]'(by lia)) (by simp);obtain⟨w',w1',w2'⟩:=f3.get (i:=m) (d:=j[m]'(by lia)) (by simp);obtain⟨uu,b1,b2⟩:=r1.get w1;obtain⟨uu',b1',b2'⟩:=r2.get w1'
    have c1:its.toArray[m]=uu:=by simpa using(List.getElem?_eq_some_iff.mp b1).2
    have c2:jts.toArray[m]=uu':=by simpa using(List.getElem?_eq_some_iff.mp b1').2
    rw[c1,c2];exact(ih A.in1 _ _ w w' uu uu' (e m) (by show A.units+1+n<cLine;lia) w2 w2' b2 b2' (h4 m _ _ (by simp) (by simp))).2
   have main:RcAt A s (.ref p) (.ref q) k:=by
    have z:=RcAt.tuples (e:=e) t1 t2 (by lia) he;rw[List.size_toArray,List.size_toArray,<-l1,<-l2,<-h3,h2]at z;exact z
   refine⟨main,?_⟩;by_cases z:p=q
   ·subst z;rw[lD (n+1) _ _ _ k rx ry h];exact EqAt.same _
   ·exact EqAt.of_refs z main
  ·cases hn;obtain⟨p,xs,rfl,e2,e3⟩:=gN rx hx;obtain⟨q,ys,rfl,f2,f3⟩:=gN ry hy;cases qx;cases qy;obtain⟨its,r1,t1,z1⟩:=I.list (.inl e2);obtain⟨jts,r2,t2,z2⟩:=I.list (.inl f2);obtain⟨k',h1,h2⟩:=map_some h;obtain⟨e,h3,h4⟩:=fB h1;have l1:i.length=its.length:=e3.length.trans r1.length;have l2:j.length=jts.length:=f3.length.trans r2.length
   have he:∀ m (g1:m<its.toArray.size) (g2:m<jts.toArray.size),EqAt A.in1 s its.toArray[m] jts.toArray[m] (e m):=fun m g1 g2=>by
    rw[List.size_toArray]at g1 g2;obtain⟨w,w1,w2⟩:=e3.get (i:=m) (d:=i[m]'(by lia)) (by simp);obtain⟨w',w1',w2'⟩:=f3.get (i:=m) (d:=j[m]'(by lia)) (by simp);obtain⟨uu,b1,b2⟩:=r1.get w1;obtain⟨uu',b1',b2'⟩:=r2.get w1'
    have c1:its.toArray[m]=uu:=by simpa using(List.getElem?_eq_some_iff.mp b1).2
    have c2:jts.toArray[m]=uu':=by simpa using(List.getElem?_eq_some_iff.mp b1').2
    rw[c1,c2];exact(ih A.in1 _ _ w w' uu uu' (e m) (by show A.units+1+n<cLine;lia) w2 w2' b2 b2' (h4 m _ _ (by simp) (by simp))).2
   have main:RcAt A s (.ref p) (.ref q) k:=by
    by_cases hl:its.length=jts.length
    ·have z:=RcAt.lists (e:=e) t1.isList t2.isList (by rw[List.size_toArray,List.size_toArray];exact hl) (by lia) he;rw[List.size_toArray]at z
     have hk:k=(List.range its.length).all e:=by
      rw[<-h2,h3,l1,l2,hl];simp
     rw[hk];exact z
    ·have hk:k=false:=by
      rw[<-h2,l1,l2];simp[hl]
     rw[hk];exact RcAt.lists_lengths t1.isList t2.isList (by rw[List.size_toArray,List.size_toArray];simpa using hl) (by lia)
   refine⟨main,?_⟩;by_cases z:p=q
   ·subst z;rw[lD (n+1) _ _ _ k rx ry (by assumption)];exact EqAt.same _
   ·exact EqAt.of_refs z main
end rules
section rules
variable{X:Cx}
open SeqAt in
def Ai(I:Inv X pins σ H s)(n:Nat)(A:Around)(x y:RL.D)(v u:V)(va ua:Value)(k:Bool)(hu:A.units+n<cLine)(rx:Rep nP X.K H x v)(ry:Rep nP X.K H y u)(qx:RelV v va)(qy:RelV u ua)
 (h:RL.eqD n x y=some k):RcNeAt A s va ua (!k):=by
 rcases eX h with⟨i,j,rfl,rfl,rfl⟩ | ⟨i,j,rfl,rfl,rfl⟩ | ⟨i,j,rfl,rfl,rfl⟩ | ⟨nn,i,j,hn,hx,hy,h⟩ | ⟨nn,i,j,hn,hx,hy,h5⟩
 ·rw[bf rx]at qx;rw[bf ry]at qy;cases qx;cases qy;exact RcNeAt.bool_bool i j
 ·rw[ar rx]at qx;rw[ar ry]at qy;obtain⟨t,rfl⟩:=qx;obtain⟨t',rfl⟩:=qy;exact RcNeAt.int_int i t j t'
 ·rw[aN rx]at qx;rw[aN ry]at qy;obtain⟨t,rfl⟩:=qx;obtain⟨t',rfl⟩:=qy;exact RcNeAt.str_str i t j t'
 ·subst hn;subst hx;subst hy;obtain⟨p,xs,rfl,e2,e3⟩:=bx rx;obtain⟨q,ys,rfl,f2,f3⟩:=bx ry;cases qx;cases qy;obtain⟨its,r1,t1,z1⟩:=I.tuple (SqT.of e2);obtain⟨jts,r2,t2,z2⟩:=I.tuple (SqT.of f2);obtain⟨k',h1,h2⟩:=map_some h;obtain⟨e,h3,h4⟩:=fB h1;have l1:i.length=its.length:=e3.length.trans r1.length;have l2:j.length=jts.length:=f3.length.trans r2.length
  have he:∀ m (g1:m<its.toArray.size) (g2:m<jts.toArray.size),EqAt A.in1 s its.toArray[m] jts.toArray[m] (e m):=fun m g1 g2=>by
   rw[List.size_toArray]at g1 g2;obtain⟨w,w1,w2⟩:=e3.get (i:=m) (d:=i[m]'(by lia)) (by simp);obtain⟨w',w1',w2'⟩:=f3.get (i:=m) (d:=j[m]'(by lia)) (by simp);obtain⟨uu,b1,b2⟩:=r1.get w1;obtain⟨uu',b1',b2'⟩:=r2.get w1'
   have c1:its.toArray[m]=uu:=by simpa using(List.getElem?_eq_some_iff.mp b1).2
   have c2:jts.toArray[m]=uu':=by simpa using(List.getElem?_eq_some_iff.mp b1').2
   rw[c1,c2];exact(deep I nn A.in1 _ _ w w' uu uu' (e m) (by show A.units+1+nn<cLine;lia) w2 w2' b2 b2' (h4 m _ _ (by simp) (by simp))).2
  have z:=RcNeAt.tuples (e:=e) t1 t2 (by lia) he;rw[List.size_toArray,List.size_toArray,<-l1,<-l2,<-h3,h2]at z;exact z
 ·subst hn;obtain⟨p,xs,rfl,e2,e3⟩:=gN rx hx;obtain⟨q,ys,rfl,f2,f3⟩:=gN ry hy;cases qx;cases qy;obtain⟨its,r1,t1,z1⟩:=I.list (.inl e2);obtain⟨jts,r2,t2,z2⟩:=I.list (.inl f2);obtain⟨k',h1,h2⟩:=map_some h5;obtain⟨e,h3,h4⟩:=fB h1;have l1:i.length=its.length:=e3.length.trans r1.length;have l2:j.length=jts.length:=f3.length.trans r2.length
  have he:∀ m (g1:m<its.toArray.size) (g2:m<jts.toArray.size),EqAt A.in1 s its.toArray[m] jts.toArray[m] (e m):=fun m g1 g2=>by
   rw[List.size_toArray]at g1 g2;obtain⟨w,w1,w2⟩:=e3.get (i:=m) (d:=i[m]'(by lia)) (by simp);obtain⟨w',w1',w2'⟩:=f3.get (i:=m) (d:=j[m]'(by lia)) (by simp);obtain⟨uu,b1,b2⟩:=r1.get w1;obtain⟨uu',b1',b2'⟩:=r2.get w1'
   have c1:its.toArray[m]=uu:=by simpa using(List.getElem?_eq_some_iff.mp b1).2
   have c2:jts.toArray[m]=uu':=by simpa using(List.getElem?_eq_some_iff.mp b1').2
   rw[c1,c2];exact(deep I nn A.in1 _ _ w w' uu uu' (e m) (by show A.units+1+nn<cLine;lia) w2 w2' b2 b2' (h4 m _ _ (by simp) (by simp))).2
  by_cases hl:its.length=jts.length
  ·have z:=RcNeAt.lists (e:=e) t1.isList t2.isList (by rw[List.size_toArray,List.size_toArray];exact hl) (by lia) he;rw[List.size_toArray]at z
   have hk:k=(List.range its.length).all e:=by
    rw[<-h2,h3,l1,l2,hl];simp
   rw[hk];exact z
  ·have hk:k=false:=by
    rw[<-h2,l1,l2];simp[hl]
   rw[hk];exact RcNeAt.lists_lengths t1.isList t2.isList (by rw[List.size_toArray,List.size_toArray];simpa using hl) (by lia)
abbrev df:RL.Cop->CmpOp
 | .lt=>.Lt
 | .le=>.LtE
 | .gt=>.Gt
 | .ge=>.GtE
 | .eq=>.Eq
 | .ne=>.NotEq
abbrev rj(K:PySem.W.Frag)(c:RL.Cop):R2:=fun v u H Q=>∃ x y k,Rep nP K H x v/\Rep nP K H y u/\RL.bh c x y=some k/\Q (.bl k) H
def hG{c:RL.Cop}(hc:c≠.eq)(hc2:c≠.ne)(h:RL.bh c x y=some k):∃ i j,x=.int i/\y=.int j:=by
 have no:∀ {a b:RL.D},RL.bh .lt a b=none->RL.bh .le a b=none->RL.bh .gt a b=none->RL.bh .ge a b=none->RL.bh c a b=some k->False:=fun e1 e2 e3 e4 h=>by
  cases c with
  | eq=>exact hc rfl
  | ne=>exact hc2 rfl
  | lt=>rw[e1]at h;cases h
  | le=>rw[e2]at h;cases h
  | gt=>rw[e3]at h;cases h
  | ge=>rw[e4]at h;cases h
 cases x with
 | int i=>cases y with
  | int j=>exact⟨_,_,rfl,rfl⟩
  | _=>exact(no rfl rfl rfl rfl h).elim
 | _=>exact(no rfl rfl rfl rfl h).elim
def gI{c:RL.Cop}(hu:X.A.units+100<cLine):OpR X (compareOp (df c)) (rj X.K c):=by
 intro pins s σ H x y v u Q I rx ry h;obtain⟨dx,dy,k,ex,ey,e,q⟩:=h
 have fin:EP X pins σ Q (.bool k) s:=⟨.bl k,H,I,rfl,q⟩
 cases c with
 |eq=>
  have e:RL.eqD 8 dx dy=some k:=e;exact(deep I 8 X.A dx dy x y v u k (by lia) ex ey rx ry e).1 X.prog X.w X.xe _ fin
 |ne=>
  obtain⟨k',e1,e2⟩:=map_some (show(RL.eqD 8 dx dy).map not=some k from e);subst e2;exact Ai I 8 X.A dx dy x y v u k' (by lia) ex ey rx ry e1 X.prog X.w X.xe _ fin
 |lt=>
  obtain⟨i,j,rfl,rfl⟩:=hG (by decide) (by decide) e;cases e;rw[ar ex]at rx;rw[ar ey]at ry;obtain⟨t,rfl⟩:=rx;obtain⟨t',rfl⟩:=ry;exact lt_int fin
 |le=>
  obtain⟨i,j,rfl,rfl⟩:=hG (by decide) (by decide) e;cases e;rw[ar ex]at rx;rw[ar ey]at ry;obtain⟨t,rfl⟩:=rx;obtain⟨t',rfl⟩:=ry;exact le_int fin
 |gt=>
  obtain⟨i,j,rfl,rfl⟩:=hG (by decide) (by decide) e;cases e;rw[ar ex]at rx;rw[ar ey]at ry;obtain⟨t,rfl⟩:=rx;obtain⟨t',rfl⟩:=ry;exact gt_int fin
 |ge=>
  obtain⟨i,j,rfl,rfl⟩:=hG (by decide) (by decide) e;cases e;rw[ar ex]at rx;rw[ar ey]at ry;obtain⟨t,rfl⟩:=rx;obtain⟨t',rfl⟩:=ry;exact ge_int fin
def i8{c:RL.Cop}(b:Expr):behindInMarks (df c) b=false:=by cases c<;>exact tZ b (by decide) (by decide)
def rY{c:RL.Cop}(h:∃ σD d,RV0 X.K σD σ H/\RL.ev cl σD (.cmp c a' b')=some d/\∀ H',aD H H'->∃ k,d=.bl k/\Q (.bl k) H'):tOp (rj X.K c) (tE X.K cl a') (tE X.K cl b') σ H Q:=by
 obtain⟨σD,d,rv,e,k⟩:=h;obtain⟨x,ea,e⟩:=bind_some e;obtain⟨y,eb,e⟩:=bind_some e;obtain⟨t,e1,e2⟩:=map_some e;refine two rv ea eb fun v u H1 H2 s1 s2 rx ry _ _=>?_;obtain⟨k',h1,h2⟩:=k H2 (s1.trans s2);rw[h1]at e2;cases e2;exact⟨x,y,t,rx,ry,e1,h2⟩
def l0{c:RL.Cop}(e:RL.ev cl σD (.cmp c a' b')=some d):∃ k,d=.bl k:=by
 obtain⟨x,ea,e⟩:=bind_some e;obtain⟨y,eb,e⟩:=bind_some e;obtain⟨t,e1,e2⟩:=map_some e;exact⟨t,e2.symm⟩
def zI{c:RL.Cop}(hu:X.A.units+100<cLine)(ha:SE X cl a a')(hb:SE X cl b b'):SE X cl (.Compare a [df c] [b] pos) (.cmp c a' b'):=by
 refine PE.weak (kM (gI hu) ha hb (i8 b)) fun σ H Q h=>?_;obtain⟨σD,d,rv,e,k⟩:=h;obtain⟨t,rfl⟩:=l0 e;exact rY ⟨σD,_,rv,e,fun H' sm=>⟨t,rfl,k _ _ (cX sm)⟩⟩
def Bj{c:RL.Cop}(hu:X.A.units+100<cLine)(ha:SE X cl a a')(hb:SE X cl b b'):ST X cl (.Compare a [df c] [b] pos) (.cmp c a' b'):=by
 refine PT.weak (kR (gI hu) ha hb (i8 b)) fun σ H Q h=>?_;obtain⟨σD,k,rv,e,q⟩:=h;obtain⟨d,e1,e2⟩:=bind_some e;obtain⟨t,rfl⟩:=l0 e1;cases e2;exact rY ⟨σD,_,rv,e1,fun H' sm=>⟨k,rfl,k,rfl,q H' sm⟩⟩
def wX{c c':RL.Cop}(b e:Expr):lastMarks [df c,df c'] [b,e]=false:=by
 show behindInMarks (df c') e=false;exact i8 e
def j0{c c':RL.Cop}(h:RL.ev cl σD (.chain c c' a' b' e')=some d):∃ k,d=.bl k:=by
 obtain⟨x,ea,h⟩:=bind_some h;obtain⟨y,eb,h⟩:=bind_some h;obtain⟨t,e1,h⟩:=bind_some h
 cases t with
 |true=>
  obtain⟨z,ec,h⟩:=bind_some (show(RL.ev cl σD e').bind _=some d from h);obtain⟨t,e1,e2⟩:=map_some h;exact⟨t,e2.symm⟩
 | false=>exact⟨false,(Option.some.inj (show some (RL.D.bl false)=some d from h)).symm⟩
def mH{c c':RL.Cop}(h:∃ σD k,RV0 X.K σD σ H/\RL.ev cl σD (.chain c c' a' b' e')=some (.bl k)/\∀ H',aD H H'->Q (.bl k) H') :
  mS (rj X.K c) (rj X.K c') (tE X.K cl a') (tE X.K cl b') (tE X.K cl e') σ H Q:=by
 obtain⟨σD,k,rv,h,q⟩:=h;obtain⟨x,ea,h⟩:=bind_some h;obtain⟨y,eb,h⟩:=bind_some h;obtain⟨t,e1,h⟩:=bind_some h;refine two rv ea eb fun v u H1 H2 s1 s2 rx ry _ _=>?_;refine⟨x,y,t,rx,ry,e1,t,rfl,?_⟩;have sm:=s1.trans s2
 cases t with
 |true=>
  rw[if_pos rfl]at h;obtain⟨z,ec,h⟩:=bind_some h;obtain⟨t,e3,e2⟩:=map_some h;cases e2;exact eZ ⟨σD,z,rv.same sm,ec,fun w H3 r3=>⟨y,z,k,ry.same r3.same,r3.rep,e3,q H3 (sm.trans r3.same)⟩⟩
 |false=>
  rw[if_neg (by decide)]at h;cases h;exact fU (q H2 sm)
def vy{c c':RL.Cop}(hu:X.A.units+100<cLine)(ha:SE X cl a a')(hb:SE X cl b b')(he:SE X cl e e'):SE X cl (.Compare a [df c,df c'] [b,e] pos) (.chain c c' a' b' e'):=by
 refine PE.weak (uX (gI hu) (gI hu) ha hb he (wX b e)) fun σ H Q h=>?_;obtain⟨σD,d,rv,h,k⟩:=h;obtain⟨t,rfl⟩:=j0 h;exact mH ⟨σD,t,rv,h,fun H' sm=>k _ _ (cX sm)⟩
def vx{c c':RL.Cop}(hu:X.A.units+100<cLine)(ha:SE X cl a a')(hb:SE X cl b b')(he:SE X cl e e'):ST X cl (.Compare a [df c,df c'] [b,e] pos) (.chain c c' a' b' e'):=by
 refine PT.weak (uP (gI hu) (gI hu) ha hb he (wX b e)) fun σ H Q h=>?_;obtain⟨σD,k,rv,h,q⟩:=h;obtain⟨d,e1,e2⟩:=bind_some h;obtain⟨t,rfl⟩:=j0 e1;cases e2;exact mH ⟨σD,k,rv,e1,fun H' sm=>⟨k,rfl,q H' sm⟩⟩
end rules
section rules
variable{X:Cx}
def lL{neg:Bool}(b:Expr):behindInMarks (if neg then .IsNot else .Is) b=false:=by cases neg<;>exact tZ b (by decide) (by decide)
def pG{neg:Bool}:OpR X (compareOp (if neg then .IsNot else .Is)) (fun x y H Q=>y=.non/\Q (.bl (if neg then !decide (x=.non)else decide (x=.non))) H):=by
 cases neg with
 | true=>exact xr
 | false=>exact Bn
def tj(h:RL.ev cl σD (.isN neg a')=some d):∃ x,RL.ev cl σD a'=some x/\∀ v (H:Hp),Rep nP X.K H x v->d=.bl (if neg then !decide (v=.non)else decide (v=.non)):=by
 obtain⟨x,ea,h⟩:=bind_some h;refine⟨x,ea,fun v H r=>?_⟩
 cases x with
 | non=>cases h;rw[Rep]at r;subst r;cases neg<;>rfl
 | bl k=>cases h;rw[bf r];cases neg<;>rfl
 | int k=>cases h;rw[ar r];cases neg<;>rfl
 | str k=>cases h;rw[aN r];cases neg<;>rfl
 | tup k=>cases h;obtain⟨p,xs,rfl,_⟩:=bx r;cases neg<;>rfl
 | lst k=>cases h;obtain⟨p,xs,rfl,_⟩:=aP r;cases neg<;>rfl
 | scr k=>cases h;rw[Rep]at r;obtain⟨p,xs,rfl,_⟩:=r;cases neg<;>rfl
 | exc k=>cases h;rw[Rep]at r;obtain⟨p,_,_,_,_,rfl,_⟩:=r;cases neg<;>rfl
 | dK _ _=>cases h
 | dT _ _=>cases h
 | fT _ _=>cases h
 | fL k=>cases h;rw[Rep]at r;obtain⟨p,o,xs,rfl,_⟩:=r;cases neg<;>rfl
def AJ(ha:SE X cl a a'):SE X cl (.Compare a [if neg then .IsNot else .Is] [.Constant .none j p] pos) (.isN neg a'):=by
 refine PE.weak (kM pG ha nJ (lL _)) fun σ H Q h=>?_;obtain⟨σD,d,rv,e,q⟩:=h;obtain⟨x,ea,hx⟩:=tj (X:=X) e;refine⟨σD,_,rv,ea,fun v H1 r1=>⟨rfl,?_⟩⟩;have hd:=hx v H1 r1.rep;subst hd;exact q _ _ (cX r1.same)
def zh(ha:SE X cl a a'):ST X cl (.Compare a [if neg then .IsNot else .Is] [.Constant .none j p] pos) (.isN neg a'):=by
 refine PT.weak (kR pG ha nJ (lL _)) fun σ H Q h=>?_;obtain⟨σD,k,rv,e,q⟩:=h;obtain⟨d,e1,e2⟩:=bind_some e;obtain⟨x,ea,hx⟩:=tj (X:=X) e1;refine⟨σD,_,rv,ea,fun v H1 r1=>⟨rfl,?_⟩⟩;have hd:=hx v H1 r1.rep;subst hd;cases e2;exact⟨_,rfl,q _ r1.same⟩
def eD{P:Addr->Prop}{K:PySem.W.Frag}(h:RL.items d=some ds)(r:Rep P K H d v):∃ p xs,v=.ref p/\((H p=some (.lst xs)/\d=.lst ds)\/(H p=some (.tup xs)/\d=.tup ds)\/((∃ o,H p=some (.frz o (.lst xs)))/\d=.fL ds))/\ai P K H ds xs:=by
 cases d<;>simp only[RL.items]at h<;>first | (cases h;done) | skip
 case lst ys=>cases h;obtain⟨p,xs,e1,_,e2,e3⟩:=aP r;exact⟨p,xs,e1,.inl ⟨e2,rfl⟩,e3⟩
 case tup ys=>cases h;obtain⟨p,xs,e1,e2,e3⟩:=bx r;exact⟨p,xs,e1,.inr (.inl ⟨e2,rfl⟩),e3⟩
 case fL ys=>cases h;rw[Rep]at r;obtain⟨p,o,xs,e1,e2,e3⟩:=r;exact⟨p,xs,e1,.inr (.inr ⟨⟨o,e2⟩,rfl⟩),e3⟩
def pE{P:Addr->Prop}{K:PySem.W.Frag}(h:RL.flat d=true)(r:Rep P K H d v):eH v=true/\∀ d' v',RL.flat d'=true->Rep P K H d' v'->RL.eqF d d'=eqV v v':=by
 cases d<;>simp only[RL.flat]at h<;>first | (cases h;done) | skip
 case int i =>
  rw[ar r];refine⟨rfl,fun d' v' h' r'=>?_⟩
  cases d'<;>simp only[RL.flat]at h'<;>first | (cases h';done) | skip
  case int j=>rw[ar r'];simp[RL.eqF,eqV]
  case str j=>rw[aN r'];simp[RL.eqF,eqV]
 case str i =>
  rw[aN r];refine⟨rfl,fun d' v' h' r'=>?_⟩
  cases d'<;>simp only[RL.flat]at h'<;>first | (cases h';done) | skip
  case int j=>rw[ar r'];simp[RL.eqF,eqV]
  case str j=>rw[aN r'];simp[RL.eqF,eqV]
def nc{P:Addr->Prop}{K:PySem.W.Frag}(hf:RL.flat d=true)(r:Rep P K H d v):∀ {ds:List RL.D} {xs:List V},ds.all RL.flat=true->ai P K H ds xs->xs.all eH=true/\(ds.any fun x=>RL.eqF x d)=inV v xs
 | [],xs,_,h=>by rw[ai]at h;subst h;exact⟨rfl,rfl⟩
 | e::t,xs,ha,h=>by
  rw[ai]at h;obtain⟨x,ys,rfl,e2,e3⟩:=h;rw[List.all_cons,Bool.and_eq_true]at ha;obtain⟨h1,h2⟩:=nc hf r ha.2 e3;obtain⟨h3,h4⟩:=pE ha.1 e2;refine⟨by rw[List.all_cons,h3,h1];rfl,?_⟩;rw[List.any_cons,h2,h4 d v hf r];rfl
def sy:OpR X (compareOp (if neg then .NotIn else .In)) (rIn X.K neg):=by
 cases neg with
 | true=>exact nY
 | false=>exact rR
def tQ(rv:RV0 X.K σD σ H)(e:RL.ev cl σD (.inn neg a' b')=some d)(k:∀ t H',d=.bl t->aD H H'->Q (.bl t) H'):tOp (rIn X.K neg) (tE X.K cl a') (tE X.K cl b') σ H Q:=by
 obtain⟨x,ea,e⟩:=bind_some e;obtain⟨y,eb,e⟩:=bind_some e;obtain⟨t,e1,e2⟩:=map_some e;unfold RL.inV at e1;obtain⟨ds,e3,e4⟩:=bind_some e1;by_cases hc:(RL.flat x&&ds.all RL.flat)=true
 ·rw[if_pos hc]at e4;cases e4;rw[Bool.and_eq_true]at hc;refine two rv ea eb fun v u H1 H2 s1 s2 rx ry _ _=>?_;obtain⟨p,xs,rfl,hp,rs⟩:=eD e3 ry;obtain⟨h1,h2⟩:=nc hc.1 rx hc.2 rs;refine⟨p,xs,rfl,?_,(pE hc.1 rx).1,h1,?_⟩
  ·rcases hp with⟨z,_⟩ | ⟨z,_⟩ | ⟨⟨o,z⟩,_⟩
   ·exact .inl (SqL.of z)
   ·exact .inr (SqT.of z)
   ·exact .inl (.inl (.inr ⟨o,z⟩))
  ·refine k _ _ ?_ (s1.trans s2);rw[<-e2,h2]
 ·rw[if_neg hc]at e4;cases e4
abbrev qp:Expr->Bool
 | .Set _ _ _=>false
 | _=>true
def gr(h:qp b=true):behindInMarks op b=false:=by
 cases b<;>first | rfl | (cases h)
def A4(ha:SE X cl a a')(hb:SE X cl b b')(hm:qp b=true):SE X cl (.Compare a [if neg then .NotIn else .In] [b] pos) (.inn neg a' b'):=by
 refine PE.weak (kM sy ha hb (gr hm)) fun σ H Q h=>?_;obtain⟨σD,d,rv,e,q⟩:=h
 exact tQ rv e fun t H' hd sm=>by subst hd;exact q _ _ (cX sm)
def By(ha:SE X cl a a')(hb:SE X cl b b')(hm:qp b=true):ST X cl (.Compare a [if neg then .NotIn else .In] [b] pos) (.inn neg a' b'):=by
 refine PT.weak (kR sy ha hb (gr hm)) fun σ H Q h=>?_;obtain⟨σD,k,rv,e,q⟩:=h;obtain⟨d,e1,e2⟩:=bind_some e;refine tQ rv e1 fun t H' hd sm=>?_;subst hd;cases e2;exact⟨_,rfl,q _ sm⟩
abbrev spF(K:PySem.W.Frag)(cl:RL.Cl)(f:Nat):Sp:=fun vs H Q _=>∃ ds d,ai nP K H ds vs/\cl f ds=some d/\∀ v H',aD H H'->Rep (fun p=>H p≠none) K H' d v->Q v H'
def yY(F:cu X.prog X.w X.K X.mg X.base CX0 k fa fd ps (spF X.K cl f))(hr:bB k X.A)(hg:Gl X x)
 (hm:X.mg x=some (.ref fa))(hk:PySem.W.keepIn X.K (.ref fa)=true)(hb:Binds X.K fd ps [])(he:SEs X cl (e::es) (.cons e' es'))(hdb:(x == ("__debug__" : Str))=false)(hn:noStar e=true)(hns:es.all noStar=true) :
  SE X cl (.Call (.Name x p) (e::es) [] pos) (.call f (.cons e' es')):=by
 refine PE.weak (yA F hr hg hm hk hb .nil wJ he hdb (aC es hn) (cC hns)) fun σ H Q h=>?_;obtain⟨σD,d,rv,ev,q⟩:=h;obtain⟨ds,e1,e2⟩:=bind_some ev;refine⟨σD,ds,rv,e1,fun vs H1 s1 r1=>?_⟩;show spF X.K cl f (vs++[]) H1 Q E0;rw[List.append_nil];refine⟨ds,d,r1,e2,fun v H2 s2 r2=>q v H2 ⟨s1.trans s2,r2.none,fun _ m a z=>?_,fun M _ P hP _=>?_⟩⟩
 ·subst z
  have hh:H1 a=none:=by
   cases d with
   | lst ds=>obtain⟨p,xs,e1,e2,_⟩:=aP r2;cases e1;exact Classical.byContradiction e2
   | dK ks ds=>rw[Rep]at r2;obtain⟨p,xs,e1,e2,_⟩:=r2;cases e1;exact Classical.byContradiction e2
   | dT ks ds=>rw[Rep]at r2;obtain⟨p,xs,e1,e2,_⟩:=r2;cases e1;exact Classical.byContradiction e2
   | _=>cases m
  exact s1.free hh
 ·refine r2.weak fun a z=>?_;obtain⟨o,ho⟩:=Option.ne_none_iff_exists'.mp (hP a z);rw[s1 _ _ ho]
  exact fun q=>nomatch q
end rules
abbrev Off(P:Addr->Prop)(H H':Hp):Prop:=∀ b o,¬ P b->H b=some o->H' b=some o
def Off.same{H H':Hp}(h:aD H H'){P:Addr->Prop}:Off P H H':=fun b o _ e=>h b o e
mutual
theorem Rep.off{P:Addr->Prop}{K:PySem.W.Frag}{H H':Hp}(hm:∀ b o,P b->H b=some o->cQ o)(k:Off P H H'):∀ {d:RL.D} {v:V},Rep P K H d v->Rep P K H' d v
 | .non,v,h=>by simpa[Rep]using h
 | .bl _,v,h=>by simpa[Rep]using h
 | .int _,v,h=>by simpa[Rep]using h
 | .str _,v,h=>by simpa[Rep]using h
 | .tup ds,v,h=>by
  rw[Rep]at h ⊢;obtain⟨b,xs,e1,e2,e3⟩:=h
  have n:¬ P b:=fun p=>by rcases hm b _ p e2 with⟨z,q⟩ | ⟨z,q⟩ | ⟨z,q⟩<;>cases q
  exact⟨b,xs,e1,k _ _ n e2,ai.off hm k e3⟩
 | .lst ds,v,h=>by
  rw[Rep]at h ⊢;obtain⟨b,xs,e1,e0,e2,e3⟩:=h;exact⟨b,xs,e1,e0,k _ _ e0 e2,ai.off hm k e3⟩
 | .dK ks ds,v,h=>by
  rw[Rep]at h ⊢;obtain⟨b,xs,e1,e0,e2,el,e3⟩:=h;exact⟨b,xs,e1,e0,k _ _ e0 e2,el,ai.off hm k e3⟩
 | .dT ks ds,v,h=>by
  rw[Rep]at h ⊢;obtain⟨b,xs,e1,e0,e2,el,e3⟩:=h;exact⟨b,xs,e1,e0,k _ _ e0 e2,el,ai.off hm k e3⟩
 | .scr ds,v,h=>by
  rw[Rep]at h ⊢;obtain⟨b,xs,e1,e2,e3⟩:=h;refine⟨b,xs,e1,?_,ai.off hm k e3⟩;rcases e2 with⟨q,e2⟩ | e2
  ·have n:¬ P b:=fun p=>by rcases hm b _ p e2 with⟨z,q⟩ | ⟨z,q⟩ | ⟨z,q⟩<;>cases q
   exact .inl ⟨q,k _ _ n e2⟩
  ·exact .inr e2
 | .exc c,v,h=>by
  rw[Rep]at h ⊢;exact h.keep fun b ob u q=>k _ _ (fun p=>by rcases hm b _ p q with⟨z,y⟩ | ⟨z,y⟩ | ⟨z,y⟩<;>cases y) q
 | .fT ks ds,v,h=>by
  rw[Rep]at h ⊢;obtain⟨b,ob,xs,e1,e2,el,e3⟩:=h;exact⟨b,ob,xs,e1,k _ _ (fun p=>by rcases hm b _ p e2 with⟨z,y⟩ | ⟨z,y⟩ | ⟨z,y⟩<;>cases y) e2,el,ai.off hm k e3⟩
 | .fL ds,v,h=>by
  rw[Rep]at h ⊢;obtain⟨b,ob,xs,e1,e2,e3⟩:=h;exact⟨b,ob,xs,e1,k _ _ (fun p=>by rcases hm b _ p e2 with⟨z,y⟩ | ⟨z,y⟩ | ⟨z,y⟩<;>cases y) e2,ai.off hm k e3⟩
theorem ai.off{P:Addr->Prop}{K:PySem.W.Frag}{H H':Hp}(hm:∀ b o,P b->H b=some o->cQ o)(k:Off P H H'):∀ {ds:List RL.D} {xs:List V},ai P K H ds xs->ai P K H' ds xs
 | [],xs,h=>by rw[ai]at h ⊢;exact h
 | d::r,xs,h=>by
  rw[ai]at h ⊢;obtain⟨x,t,e1,e2,e3⟩:=h;exact⟨x,t,e1,Rep.off hm k e2,ai.off hm k e3⟩
end
structure fY(K:PySem.W.Frag)(J:L2.It)(ds:List RL.D)(P:Addr->Prop)(H:Hp):Prop where
 go:∀ H' i,Off P H H'->i<ds.length->J.go i H'
 stop:∀ H',Off P H H'->J.stop ds.length H'
 yld:∀ H' i d x H2,Off P H H'->ds[i]?=some d->J.yld i H' x H2->aD H' H2/\(d.imm=true\/aD H H'->Rep nP K H2 d x)
abbrev wN(K:PySem.W.Frag)(σD:RL.St)(σ:L2.St)(H:Hp)(it:RL.It)(J:L2.It)(ds:List RL.D)(H1:Hp):Prop :=
 fY K J ds nP H1/\∀ (M:List Nat) (P:Addr->Prop),RL.oy M it=true->(∀ b,P b->∃ o,H b=some o/\cQ o)->(∀ (j:Nat) (dj:RL.D) (vj:V),M.contains j=false->σD[j]?=some (some dj)->σ[j]?=some (some vj)->Rep P K H dj vj)->fY K J ds P H1
abbrev tI(K:PySem.W.Frag)(cl:RL.Cl)(it:RL.It):TI:=fun σ H R=>∃ σD ds,RV0 K σD σ H/\RL.bU cl σD it=some ds/\∀ J H1,aD H H1->wN K σD σ H it J ds H1->R J H1
abbrev SI(X:Cx)(cl:RL.Cl)(tg iter:Expr)(it:RL.It):Prop:=PI X tg iter (tI X.K cl it)
def PI.weak{X:Cx}{tg iter:Expr}{t t':TI}(h:PI X tg iter t)(w:∀ σ H R,t' σ H R->t σ H R):PI X tg iter t':=fun pins s σ H R I q=>h pins s σ H R I (w σ H R q)
def et{K:PySem.W.Frag}{P:Addr->Prop}{H H':Hp}{d:RL.D}{v:V}(hm:∀ b o,P b->H b=some o->cQ o)(k:Off P H H')(r:Rep nP K H d v)(i:d.imm=true):Rep nP K H' d v :=
 ((r.imm i).off hm k).imm i
def oW{K:PySem.W.Frag}{H:Hp}{a:Addr}{ds:List RL.D}{xs:List V}{P:Addr->Prop}(h:H a=some (.lst xs))(r:ai nP K H ds xs)(hp:¬ P a)(hm:∀ b o,P b->H b=some o->cQ o):fY K (Itl K a) ds P H where
 go:=fun H' i k hi=>by
  obtain⟨x,e,_⟩:=r.get (i:=i) (d:=ds[i]) (by simp[hi]);exact⟨xs,x,SqL.of (k _ _ hp h),e⟩
 stop:=fun H' k=>⟨xs,SqL.of (k _ _ hp h),by rw[r.length];exact Nat.le_refl _⟩
 yld:=fun H' i d x H2 k e y=>by
  obtain⟨z,y⟩:=y;subst z;have hx:=y xs (SqL.of (k _ _ hp h));obtain⟨x',e1,e2⟩:=r.get e;rw[hx]at e1;cases e1;refine⟨aD.refl _,fun q=>?_⟩;rcases q with q | q
  ·exact et hm k e2 q
  ·exact e2.same q
def sM{K:PySem.W.Frag}{H:Hp}{a:Addr}{ds:List RL.D}{xs:List V}{P:Addr->Prop}(h:H a=some (.frz o (.lst xs)))(r:ai nP K H ds xs)(hm:∀ b o,P b->H b=some o->cQ o):fY K (Itl K a) ds P H:=by
 have kp:∀ H',Off P H H'->SqL K H' a xs:=fun H' k=>by
  exact .inl (.inr ⟨o,k _ _ (fun p=>by rcases hm a _ p h with⟨z,q⟩ | ⟨z,q⟩ | ⟨z,q⟩<;>cases q) h⟩)
 exact {
  go:=fun H' i k hi=>by
   obtain⟨x,e,_⟩:=r.get (i:=i) (d:=ds[i]) (by simp[hi]);exact⟨xs,x,kp _ k,e⟩
  stop:=fun H' k=>⟨xs,kp _ k,by rw[r.length];exact Nat.le_refl _⟩
  yld:=fun H' i d x H2 k e y=>by
   obtain⟨z,y⟩:=y;subst z;have hx:=y xs (kp _ k);obtain⟨x',e1,e2⟩:=r.get e;rw[hx]at e1;cases e1;refine⟨aD.refl _,fun q=>?_⟩;rcases q with q | q
   ·exact et hm k e2 q
   ·exact e2.same q }
def uF{K:PySem.W.Frag}{H:Hp}{a:Addr}{ds:List RL.D}{xs:List V}{P:Addr->Prop}(h:H a=some (.tup xs))(r:ai nP K H ds xs)(hm:∀ b o,P b->H b=some o->cQ o):fY K (Itt K a) ds P H:=by
 have hp:¬ P a:=fun p=>by rcases hm a _ p h with⟨z,q⟩ | ⟨z,q⟩ | ⟨z,q⟩<;>cases q
 exact {
  go:=fun H' i k hi=>by
   obtain⟨x,e,_⟩:=r.get (i:=i) (d:=ds[i]) (by simp[hi]);exact⟨xs,x,SqT.of (k _ _ hp h),e⟩
  stop:=fun H' k=>⟨xs,SqT.of (k _ _ hp h),by rw[r.length];exact Nat.le_refl _⟩
  yld:=fun H' i d x H2 k e y=>by
   obtain⟨z,y⟩:=y;subst z;have hx:=y xs (SqT.of (k _ _ hp h));obtain⟨x',e1,e2⟩:=r.get e;rw[hx]at e1;cases e1;refine⟨aD.refl _,fun q=>?_⟩;rcases q with q | q
   ·exact et hm k e2 q
   ·exact e2.same q }
def ka:∀ (n:Nat) (lo:Int) (i:Nat) (d:RL.D),(RL.bO lo n)[i]?=some d->d=.int (lo+i)
 | 0,lo,i,d,h=>by simp[RL.bO]at h
 | n+1,lo,0,d,h=>by simp[RL.bO]at h;simp[h]
 | n+1,lo,i+1,d,h=>by
  rw[RL.bO,List.getElem?_cons_succ]at h;rw[ka n (lo+1) i d h];congr 1;lia
def ie:∀ (n:Nat) (lo:Int),(RL.bO lo n).length=n
 | 0,_=>rfl
 | n+1,lo=>by rw[RL.bO,List.length_cons,ie n]
def sR{K:PySem.W.Frag}{H:Hp}{lo:Int}{n:Nat}{P:Addr->Prop}:fY K (Itr lo n) (RL.bO lo n) P H where
 go:=fun H' i k hi=>by rw[ie]at hi;exact hi
 stop:=fun H' k=>by rw[ie];exact Nat.le_refl _
 yld:=fun H' i d x H2 k e y=>by
  obtain⟨z,y⟩:=y;subst z;refine⟨aD.refl _,fun _=>?_⟩;rw[ka n lo i d e,y];exact aV
section rules
variable{X:Cx}{cl:RL.Cl}{tg a b l:Expr}{a' b' e':RL.E}{pos p:Pos}
def C6{t t':TE}{l:Expr}(hl:PE X l t):PI X tg l (fun σ H R=>t σ H fun x H1=>(∃ a,x=.ref a/\(∃ xs,SqL X.K H1 a xs)/\R (Itl X.K a) H1)\/(∃ a,x=.ref a/\(∃ xs,SqT X.K H1 a xs)/\R (Itt X.K a) H1)):=by
 intro pins s σ H R I h;refine thn (hl pins s σ H _ I h) fun v s1 ⟨x,H1,I1,r1,q1⟩=>?_
 rcases q1 with⟨a,e,⟨xs,hq⟩,q⟩ | ⟨a,e,⟨xs,hq⟩,q⟩
 ·subst e;cases r1;obtain⟨its,rv,p,hz⟩:=I1.list hq;refine wpAny_pyIter_list p.isList ⟨s1.heap.objs.size,[s1.heap.objs.size],_,_,H1,rfl,I1.kept (t':=s1.toks) fun b o e=>Heap.get?_push_of_some _ e,sC a _,⟨_,Heap.get?_push_size _ rfl,rfl,rfl⟩,fun b hb=>?_,q⟩;rw[show b=s1.heap.objs.size by simpa using hb];exact I1.lb (Nat.le_refl _) (I1.hok.fresh (Nat.le_refl _))
 ·subst e;cases r1;obtain⟨its,rv,p,hz⟩:=I1.tuple hq;refine wpAny_pyIter_tuple (show s1.heap.IsTuple a its.toArray from p) ⟨s1.heap.objs.size,[s1.heap.objs.size],_,_,H1,rfl,I1.kept (t':=s1.toks) fun b o e=>Heap.get?_push_of_some _ e,qC a _,⟨_,Heap.get?_push_size _ rfl,rfl,rfl⟩,fun b hb=>?_,q⟩;rw[show b=s1.heap.objs.size by simpa using hb];exact I1.lb (Nat.le_refl _) (I1.hok.fresh (Nat.le_refl _))
def ko{σD:RL.St}{σ:L2.St}{H H1:Hp}{d:RL.D}{v:V}{M:List Nat}{P:Addr->Prop}(r1:Res X.K σD σ H e' d v H1)(z:(RL.avE M e' || RL.aG e')=true)(hP:∀ b,P b->∃ o,H b=some o/\cQ o)
 (av:∀ (j:Nat) (dj:RL.D) (vj:V),M.contains j=false->σD[j]?=some (some dj)->σ[j]?=some (some vj)->Rep P X.K H dj vj):∀ ds a,d=.lst ds->v=.ref a->¬ P a:=by
 intro ds a hd hv;subst hd hv;rw[Bool.or_eq_true]at z;rcases z with z | z
 ·obtain⟨p,xs,e1,e2,_⟩:=aP (r1.av M z P (fun b q=>by obtain⟨o,ho,_⟩:=hP b q;rw[ho];exact fun z=>nomatch z) av);cases e1;exact e2
 ·intro q;obtain⟨o,ho,_⟩:=hP a q;rw[r1.fresh z rfl a rfl]at ho;cases ho
def dm{P:Addr->Prop}{H H1:Hp}(s:aD H H1)(hP:∀ b,P b->∃ o,H b=some o/\cQ o):∀ b o,P b->H1 b=some o->cQ o:=fun b o q e=>by
 obtain⟨o',ho,m⟩:=hP b q;rw[s _ _ ho]at e;cases e;exact m
def eV{H1:Hp}:∀ b o,nP b->H1 b=some o->cQ o:=fun b o q=>q.elim
def BK(hl:SE X cl l e')(hs:True):PI X tg l (fun σ H R=>∃ σD d ds,RV0 X.K σD σ H/\RL.ev cl σD e'=some d/\RL.iM d=some ds/\∀ J H1,aD H H1->wN X.K σD σ H (.seq e') J ds H1->R J H1):=by
 refine PI.weak (C6 (t':=tE X.K cl e') hl) fun σ H R h=>?_;obtain⟨σD,d,ds,rv,e,ei,k⟩:=h;refine⟨σD,d,rv,e,fun v H1 r1=>?_⟩
 cases d with
 |fL es=>
  cases ei;have r:=r1.rep;rw[Rep]at r;obtain⟨p,ob,xs,rfl,hp,rs⟩:=r;exact .inl ⟨p,rfl,⟨xs,.inl (.inr ⟨ob,hp⟩)⟩,k _ _ r1.same ⟨sM hp rs eV,fun M P z hP av=>sM hp rs (dm r1.same hP)⟩⟩
 |lst es=>
  obtain⟨p,xs,rfl,hp,rs⟩:=eD (show RL.items (.lst es)=some ds from ei) r1.rep
  rcases hp with⟨hp,e9⟩ | ⟨hp,e9⟩ | ⟨hp,e9⟩
  ·cases e9;exact .inl ⟨p,rfl,⟨xs,SqL.of hp⟩,k _ _ r1.same ⟨oW hp rs (fun z=>z) eV,fun M P z hP av=>oW hp rs (ko r1 z hP av _ _ rfl rfl) (dm r1.same hP)⟩⟩
  ·cases e9
  ·cases e9
 |tup es=>
  obtain⟨p,xs,rfl,hp,rs⟩:=eD (show RL.items (.tup es)=some ds from ei) r1.rep
  rcases hp with⟨hp,e9⟩ | ⟨hp,e9⟩ | ⟨hp,e9⟩
  ·cases e9
  ·exact .inr ⟨p,rfl,⟨xs,SqT.of hp⟩,k _ _ r1.same ⟨uF hp rs eV,fun M P z hP av=>uF hp rs (dm r1.same hP)⟩⟩
  ·cases e9
 | _=>cases ei
def ub{x y:RL.D}{ds:List RL.D}(h:RL.iu x y=some ds):∃ i j:Int,x=.int i/\y=.int j/\(-(2 ^ 62)<=i/\i<2 ^ 62/\-(2 ^ 62)<=j/\j<2 ^ 62)/\(j-i).toNat<=RL.most/\ds=RL.bO i (j-i).toNat:=by
 have no:∀ {o:Option (List RL.D)},o=none->o=some ds->False:=fun e h=>by rw[e]at h;cases h
 cases x with
 | int i=>cases y with
  |int j=>
   obtain⟨hc,e⟩:=bq h
   have lo:-(2 ^ 62:Int)<=-(2 ^ 60):=by decide
   have hi:(2 ^ 60:Int)<2 ^ 62:=by decide
   exact⟨i,j,rfl,rfl,⟨Int.le_trans lo hc.2.1,Int.lt_trans hc.2.2.1 hi,Int.le_trans lo hc.2.2.2.1,Int.lt_trans hc.2.2.2.2 hi⟩,hc.1,e⟩
  | _=>exact(no rfl h).elim
 | _=>exact(no rfl h).elim
def za(hg:Gl X "range")(hm:X.mg "range" = none)(ha:SE X cl a a')(hn:noStar a=true):SI X cl tg (.Call (.Name "range" p) [a] [] pos) (.rng1 a'):=by
 refine PI.weak (rV hg hm (bY (cl:=cl) ha dz hn) (aC [] hn)) fun σ H R h=>?_;obtain⟨σD,ds,rv,e,k⟩:=h;obtain⟨x,ea,e⟩:=bind_some e;obtain⟨i,j,e1,rfl,hb,_,rfl⟩:=ub e;cases e1;refine⟨σD,[.int j],rv,by rw[RL.evs,ea];rfl,fun vs H1 s1 r1=>?_⟩;rw[ai]at r1;obtain⟨v,t,rfl,r2,r3⟩:=r1;rw[ai]at r3;subst r3;refine⟨j,by rw[ar r2],hb.2.2.1,hb.2.2.2,?_⟩
 have hz:(j-0).toNat=j.toNat:=by simp
 rw[hz]at k;exact k _ _ s1 ⟨sR,fun _ _ _ _ _=>sR⟩
end rules
end RS
namespace L2
open PySem PySem.Spec PyProof.Rows
abbrev fP(ifs:List Expr)(env:Env):Sem Bool:=forIn ifs true fun c r=>if r=true then do let ok <- isTrue c env (eval c env);pure (ForInStep.yield ok)else pure (ForInStep.yield r)
section
def Ba(h:wpAny M A m P (fun _ _=>False) s):wpAny M A m P E s :=
 wpAny_mono h (fun _ _ q=>q) fun _ _ z=>z.elim
def cV(h:wpAny M A m (fun a s1=>wpAny M A (k a) P E s1) (fun _ _=>False) s):wpAny M A (m >>= k) P E s:=wpAny_bind (Ba h)
end
section
abbrev lJ(prog:Program)(w:World)(A:Around)(elt tg:Expr)(ifs:List Expr)(it acc:Value)(env:Env)(stop next:Shared->Prop)(s:Shared):Prop :=
 wpAny (model prog w) A (pyNext it) (fun r s1=>match r with
  | none=>stop s1
  | some v=>wpAny (model prog w) A (letOwnedTupleGo tg it v) (fun _ s2=>wpAny (model prog w) A (assign tg env v) (fun _ s3=>wpAny (model prog w) A (fP ifs env) (fun ok s4 =>
     if ok=true then wpAny (model prog w) A (eval elt env) (fun x s5=>wpAny (model prog w) A (call (.builtin "list.append") [acc,x]) (fun _ s6=>next s6) (fun _ _=>False) s5) (fun _ _=>False) s4
     else next s4) (fun _ _=>False) s3) (fun _ _=>False) s2) (fun _ _=>False) s1) (fun _ _=>False) s
def vg(h:lJ prog w A elt tg ifs it acc env stop next s) :
  wpAny (model prog w) A (compTurn (.ListComp elt [⟨tg,iter,ifs,0⟩] scope pos) 0 it acc env) (fun fin s'=>match fin with
   | .done f=>f=.next/\stop s'
   | .again c=>c=.compLoop (.ListComp elt [⟨tg,iter,ifs,0⟩] scope pos) 0 it acc env/\next s') E s:=by
 rw[compTurn_list];apply wpAny_bind;apply wpAny_standAt;apply cV;refine thn h fun r s1 h1=>?_
 cases r with
 |none=>
  apply wpAny_pure;exact⟨rfl,h1⟩
 |some v=>
  apply cV;refine thn h1 fun _ s2 h2=>?_;apply cV;refine thn h2 fun _ s3 h3=>?_;apply cV;refine thn h3 fun ok s4 h4=>?_;cases ok
  ·apply wpAny_pure;exact⟨rfl,h4⟩
  ·apply wpAny_bind;apply cV;refine thn h4 fun x s5 h5=>?_;apply cV;refine thn h5 fun _ s6 h6=>?_;apply wpAny_pure;apply wpAny_pure;exact⟨rfl,h6⟩
def sV(I:Nat->Shared->Prop)(turn:∀ n s,I n s->lJ prog w A elt tg ifs it acc env (R (.ok .next)) (fun s'=>∃ m,m<n/\I m s') s)
 (n:Nat)(h:I n s):codeAny (model prog w) A (.compLoop (.ListComp elt [⟨tg,iter,ifs,0⟩] scope pos) 0 it acc env) R s :=
 codeAny_loop (M:=model prog w) rfl I (fun n s hI=>wpAny_noted (thn (vg (turn n s hI)) fun fin s' q=>by
  cases fin with
  |done f=>
   obtain⟨rfl,q⟩:=q;exact q
  | again c=>exact q)) n h
end
def je:∀ (names:List (Str × NameKind)) (n:Nat) (acc:List (Str × Addr)) (x:Str) (c:Addr),(cellsFrom n names acc).lookup x=some c->(acc.lookup x=some c/\(x,NameKind.cell)∉names)\/(n<=c/\(x,NameKind.cell)∈names)
 | [],n,acc,x,c,h=>.inl ⟨h,by simp⟩
 | (nm,k)::r,n,acc,x,c,h=>by
  unfold cellsFrom at h;by_cases hk:(k == NameKind.cell)=true
  ·rw[if_pos hk]at h
   have ek:k=.cell:=by simpa using hk
   subst ek
   rcases je r (n+1) ((nm,n)::acc) x c h with⟨a,b⟩ | ⟨a,b⟩
   ·rw[List.lookup_cons]at a
    cases hx:x == nm with
    |true=>
     rw[hx]at a;cases a
     have:x=nm:=by simpa using hx
     subst this;exact .inr ⟨Nat.le_refl _,List.mem_cons_self ..⟩
    |false=>
     rw[hx]at a;refine .inl ⟨a,fun z=>?_⟩;rcases List.mem_cons.mp z with z | z
     ·cases z;simp at hx
     ·exact b z
   ·exact .inr ⟨Nat.le_of_succ_le a,List.mem_cons_of_mem _ b⟩
  ·rw[if_neg hk]at h
   rcases je r n acc x c h with⟨a,b⟩ | ⟨a,b⟩
   ·refine .inl ⟨a,fun z=>?_⟩;rcases List.mem_cons.mp z with z | z
    ·cases z;exact hk (by simp)
    ·exact b z
   ·exact .inr ⟨a,List.mem_cons_of_mem _ b⟩
def kH:∀ (names:List (Str × NameKind)) (n:Nat) (acc:List (Str × Addr)) (x:Str),(x,NameKind.cell)∉names->(cellsFrom n names acc).lookup x=acc.lookup x
 | [],n,acc,x,_=>rfl
 | (nm,k)::r,n,acc,x,h=>by
  have hr:(x,NameKind.cell)∉r:=fun z=>h (List.mem_cons_of_mem _ z);unfold cellsFrom;by_cases hk:(k == NameKind.cell)=true
  ·rw[if_pos hk,kH r (n+1) _ x hr,List.lookup_cons]
   have ek:k=.cell:=by simpa using hk
   subst ek
   have:(x == nm)=false:=by
    rw[beq_eq_false_iff_ne];intro z;subst z;exact h (List.mem_cons_self ..)
   rw[this]
  ·rw[if_neg hk];exact kH r n acc x hr
def mL:∀ (names:List (Str × NameKind)) (n:Nat) (acc:List (Str × Addr)),(∀ x c,acc.lookup x=some c->c<n)->(∀ x y c,acc.lookup x=some c->acc.lookup y=some c->x=y)->∀ x y c,(cellsFrom n names acc).lookup x=some c->(cellsFrom n names acc).lookup y=some c->x=y
 | [],n,acc,_,hi,x,y,c,h1,h2=>hi x y c h1 h2
 | (nm,k)::r,n,acc,hl,hi,x,y,c,h1,h2=>by
  unfold cellsFrom at h1 h2;by_cases hk:(k == NameKind.cell)=true
  ·rw[if_pos hk]at h1 h2;refine mL r (n+1) ((nm,n)::acc) (fun x c e=>?_) (fun x y c e1 e2=>?_) x y c h1 h2
   ·rw[List.lookup_cons]at e
    cases hx:x == nm with
    | true=>rw[hx]at e;cases e;exact Nat.lt_succ_self _
    | false=>rw[hx]at e;exact Nat.lt_succ_of_lt (hl x c e)
   ·rw[List.lookup_cons]at e1 e2
    cases hx:x == nm with
    |true=>
     rw[hx]at e1;cases e1
     cases hy:y == nm with
     |true=>
      have a:x=nm:=by simpa using hx
      have b:y=nm:=by simpa using hy
      rw[a,b]
     |false=>
      rw[hy]at e2;exact absurd (hl y n e2) (Nat.lt_irrefl _)
    |false=>
     rw[hx]at e1
     cases hy:y == nm with
     |true=>
      rw[hy]at e2;cases e2;exact absurd (hl x n e1) (Nat.lt_irrefl _)
     |false=>
      rw[hy]at e2;exact hi x y c e1 e2
  ·rw[if_neg hk]at h1 h2;exact mL r n acc hl hi x y c h1 h2
def kP:∀ (names:List (Str × NameKind)) (h:Heap) (acc:List (Str × Addr)) (x:Str) (c:Addr),(cellsFrom h.objs.size names acc).lookup x=some c->acc.lookup x=some c\/(pushCells h names).IsCell c none
 | [],h,acc,x,c,e=>.inl e
 | (nm,k)::r,h,acc,x,c,e=>by
  unfold cellsFrom at e;unfold pushCells;by_cases hk:(k == NameKind.cell)=true
  ·rw[if_pos hk]at e ⊢
   have e':(cellsFrom (h.push { cls:=.type "cell",data:=.cell none }).objs.size r ((nm,h.objs.size)::acc)).lookup x=some c:=by rw[Heap.size_push];exact e
   rcases kP r (h.push { cls:=.type "cell",data:=.cell none }) ((nm,h.objs.size)::acc) x c e' with a | a
   ·rw[List.lookup_cons]at a
    cases hx:x == nm with
    |true=>
     rw[hx]at a;cases a;exact .inr ⟨_,pushCells_keeps r _ _ _ (Heap.get?_push_size _ rfl),rfl⟩
    |false=>
     rw[hx]at a;exact .inl a
   ·exact .inr a
  ·rw[if_neg hk]at e ⊢;exact kP r h acc x c e
def xu{M:Model}{A:Around}{E:Value->Shared->Prop}{s:Shared}{scope:Scope}{globals:Addr}{closure:List (Str × Addr)}{qual:Str}{func:Option Addr}{code:Value}{outer:Env}{builtins:Addr}{Q:Env->Shared->Prop}
 (hQ:Q (newEnv scope s.heap.objs.size globals (cellsFrom (s.heap.objs.size+1) scope.names closure) qual func code (some outer) builtins) { s with heap:=pushCells (s.heap.push { cls:=.type "dict",data:=.dict #[] }) scope.names }) :
  wpAny M A (newFunctionEnv scope globals closure [] qual func code (some outer) builtins) Q E s:=by
 simp only[newFunctionEnv,Option.isSome_some,if_true];refine wpAny_bind (wpAny_alloc ?_);refine wpAny_bind (wpAny_layCells _ (fun name kind cells=>by cases hkc:kind == NameKind.cell<;>simp[hkc]) _ _ _ _ ?_);rw[show({ s with heap:=s.heap.push { cls:=.type "dict",data:=.dict #[] } }:Shared).heap.objs.size=s.heap.objs.size+1 from Heap.size_push ..];refine wpAny_bind ?_;rw[List.forIn_nil];exact wpAny_pure (wpAny_pure hQ)
abbrev blk(X:Cx)(scope:Scope)(cls:List (Str × Addr))(C:Addr)(fp:List Addr)(s:Shared)(H:Hp):Cx where
 prog:=X.prog
 w:=X.w
 K:=X.K
 mg:=X.mg
 base:=X.base
 A:=X.A
 N:=X.N
 s₀:=s
 H₀:=H
 env:=compEnvC scope cls C X.env
 outer:=X.stack
 stack:=X.stack
 ex:=fp
 fn:=fun x=>scope.names.lookup x == some .cell
 calm:=X.calm
 pn:=[]
 xe:=fun _ _=>False
structure eQ(scope:Scope)(sc:Scope)(cls:List (Str × Addr))(cells:List (Str × Addr)):Prop where
 kind:scope.kind=.function
 own:∀ x∈scope.names,x.2=.cell->scope.names.lookup x.1=some .cell
 loc:∀ x∈scope.names,x.2=.local->scope.names.lookup x.1=some .local
 sub:∀ x c,cls.lookup x=some c->cells.lookup x=some c
 has:∀ x,scope.names.lookup x=some .free->∃ c,cls.lookup x=some c
 vis:∀ x,scope.names.lookup x=some .free->sc.names.lookup x=some .cell\/sc.names.lookup x=some .free
def bR{env:Env}:∀ {names:List (Str × NameKind)} {x:Str} {k:NameKind},
  (names.map fun(n,k)=>if(k == NameKind.free&&env.scope.kind == .function&&env.kindOf n == some .cell)then(n,NameKind.cell)else(n,k)).lookup x=some k ->
  names.lookup x=some k\/(k=.cell/\names.lookup x=some .free/\env.kindOf x=some .cell)
 | [],x,k,h=>by simp at h
 | (n,k')::r,x,k,h=>by
  have ih:=@bR env r x k;rw[List.map_cons]at h
  cases hx:x == n with
  |true=>
   have en:x=n:=by simpa using hx
   subst en;by_cases hc:(k' == NameKind.free&&env.scope.kind == .function&&env.kindOf x == some .cell)=true
   ·simp only[hc,if_true]at h;rw[List.lookup_cons,hx]at h;cases h;simp only[Bool.and_eq_true,beq_iff_eq]at hc;refine .inr ⟨rfl,?_,hc.2⟩;rw[List.lookup_cons,hx,hc.1.1]
   ·simp only[Bool.not_eq_true]at hc;simp only[hc,Bool.false_eq_true,if_false]at h;rw[List.lookup_cons,hx]at h;cases h;exact .inl (by rw[List.lookup_cons,hx])
  |false=>
   have h':(r.map fun(n,k)=>if(k == NameKind.free&&env.scope.kind == .function&&env.kindOf n == some .cell)then(n,NameKind.cell)else(n,k)).lookup x=some k:=by
    by_cases hc:(k' == NameKind.free&&env.scope.kind == .function&&env.kindOf n == some .cell)=true
    ·simp only[hc,if_true]at h;rw[List.lookup_cons,hx]at h;exact h
    ·simp only[Bool.not_eq_true]at hc;simp only[hc,Bool.false_eq_true,if_false]at h;rw[List.lookup_cons,hx]at h;exact h
   rcases ih h' with q | ⟨q1,q2,q3⟩
   ·exact .inl (by rw[List.lookup_cons,hx];exact q)
   ·exact .inr ⟨q1,by rw[List.lookup_cons,hx];exact q2,q3⟩
abbrev wW(X:Cx)(scope:Scope)(σ σB:St):Prop:=σB.length=σ.length/\∀ (i:Nat) (x:Str) (v:V),X.N[i]?=some x->σB[i]?=some (some v)->σ[i]?=some (some v)/\scope.names.lookup x≠some .local/\scope.names.lookup x≠some .cell
section
def Inv.hxb(I:Inv X pins σ H s):HX (blk X scope cls C fp s H):=by
 rcases I.ok.hd.2 with z | ⟨h,o,u,vs,h1,h2,h3⟩
 ·exact .inl z
 ·exact .inr ⟨h,o,u,vs,h1,I.base.cL _ _ _ h2,h3⟩
def yB(I:Inv X pins σ H s)(S:eQ scope X.env.scope cls X.env.cells)(hf:∀ b∈fp,ib X pins H b/\b<s.heap.objs.size)(ho:wW X scope σ σB)
 (hns:h'.Ns s.heap.objs.size (fun _=>none))(hk:∀ b o,s.heap.get? b=some o->h'.get? b=some o)(hcl:∀ x c,(cellsFrom (s.heap.objs.size+1) scope.names cls).lookup x=some c->cls.lookup x=some c\/h'.IsCell c none) :
  Inv (blk X scope (cellsFrom (s.heap.objs.size+1) scope.names cls) s.heap.objs.size fp s H) [] σB H { s with heap:=h',toks:=t }:=by
 have hC:H s.heap.objs.size=none:=I.hok.fresh (Nat.le_refl _)
 have clt:∀ x c,cls.lookup x=some c->c<s.heap.objs.size:=fun x c e=>by
  obtain⟨v,q⟩:=I.cell x c (S.sub x c e);exact q.lt
 have cas:∀ x c,(cellsFrom (s.heap.objs.size+1) scope.names cls).lookup x=some c->(X.env.cells.lookup x=some c/\c<s.heap.objs.size)\/(s.heap.objs.size+1<=c/\scope.names.lookup x=some .cell):=fun x c e=>by
  rcases je _ _ _ _ _ e with⟨a,_⟩ | ⟨a,b⟩
  ·exact .inl ⟨S.sub x c a,clt x c a⟩
  ·exact .inr ⟨a,S.own _ b rfl⟩
 have fre:∀ x c,cls.lookup x=some c->scope.names.lookup x=some .free->(cellsFrom (s.heap.objs.size+1) scope.names cls).lookup x=some c:=fun x c e f=>by
  rw[kH _ _ _ _ fun z=>by rw[S.own _ z rfl]at f;cases f];exact e
 refine⟨⟨I.ok.mod,?_,I.ok.glob,I.ok.blt,Nat.le_refl _,fun x y c h1 h2=>mL _ _ _ (fun x c e=>Nat.lt_succ_of_lt (clt x c e)) (fun x y c e1 e2=>I.ok.inj x y c (S.sub x c e1) (S.sub y c e2)) x y c h1 h2,fun x hx=>?_,fun x c z e=>?_,⟨I.ok.hd.1,I.hxb⟩,I.ok.frames,.inl rfl,fun b hb=>?_,fun b o e=>I.bs b o e,Nat.le_trans I.ok.bsz I.sz,fun b o e hb=>?_,fun b hb=>?_,I.stack,I.jk⟩,
  rfl,I.bare,Un.kept hk,⟨_,hns,fun i x v h1 h2 h3=>?_⟩,fun x c e=>?_,hC,fun x c e=>?_,fun p hp=>absurd hp (by simp[blk]),I.hok.kept hk,ho.1.trans I.len⟩
 ·exact S.kind
 ·have hx:(relabel scope X.env).names.lookup x=some .cell\/(relabel scope X.env).names.lookup x=some .free:=hx
  have key:scope.names.lookup x=some .cell\/scope.names.lookup x=some .free:=by
   rcases hx with hx | hx
   ·rcases bR hx with q | ⟨_,q,_⟩
    ·exact .inl q
    ·exact .inr q
   ·rcases bR hx with q | ⟨q,_⟩
    ·exact .inr q
    ·cases q
  rcases key with q | q
  ·have:=PySem.W.cellsFrom_some scope.names (s.heap.objs.size+1) cls (.inl q);exact Option.isSome_iff_exists.mp this
  ·obtain⟨c,hc⟩:=S.has x q;exact⟨c,fre x c hc q⟩
 ·have z:(scope.names.lookup x == some .cell)=true:=z
  rcases je _ _ _ _ _ (show(cellsFrom (s.heap.objs.size+1) scope.names cls).lookup x=some c from e)with⟨_,b⟩ | ⟨b,_⟩
  ·exact absurd (PySem.mem_of_lookup (by simpa using z)) b
  ·exact Nat.le_of_succ_le b
 ·obtain⟨⟨f0,f1,f2,f3,f4,f5⟩,f6⟩:=hf b hb;refine⟨Nat.ne_of_lt f6,fun x c e=>?_⟩
  rcases cas x c e with⟨a,_⟩ | ⟨a,_⟩
  ·exact f4 x c a
  ·exact Nat.ne_of_gt (Nat.lt_trans f6 a)
 ·obtain⟨⟨f0,f1,f2,f3,f4,f5⟩,f6⟩:=hf b hb;rcases f3 with z | z
  ·exact I.ok.hU b o e z
  ·exact absurd (Nat.lt_of_lt_of_le (Heap.lt_size e) I.ok.bsz) (Nat.not_lt.mpr z)
 ·obtain⟨⟨f0,f1,f2,f3,f4,f5⟩,f6⟩:=hf b hb;intro z;rcases List.mem_cons.mp (I.nQ b z)with e | e
  ·exact f1 e
  ·exact f2 e
 ·obtain⟨h4,h5,h6⟩:=ho.2 i x v h1 h2;have h3:(relabel scope X.env).names.lookup x=some .local\/(relabel scope X.env).names.lookup x=some .cell\/(relabel scope X.env).names.lookup x=some .free:=h3
  have key:scope.names.lookup x=some .free:=by
   rcases h3 with z | z | z
   ·rcases bR z with q | ⟨q,_⟩
    ·exact absurd q h5
    ·cases q
   ·rcases bR z with q | ⟨_,q,_⟩
    ·exact absurd q h6
    ·exact q
   ·rcases bR z with q | ⟨q,_⟩
    ·exact q
    ·cases q
  obtain⟨c,hc⟩:=S.has x key;have hcx:=S.sub x c hc;obtain⟨m,hn,hl⟩:=I.loc;have hv:Vis X.env.scope x:=.inr (S.vis x key);obtain⟨u,ru,lk⟩:=hl i x v h1 h4 hv;refine⟨u,ru,.inr ⟨?_,c,fre x c hc key,?_⟩⟩
  ·rcases h3 with z | z
   ·rcases bR z with q | ⟨q,_⟩
    ·exact absurd q h5
    ·cases q
   ·exact z
  ·rcases lk with⟨z,_⟩ | ⟨_,c',e',q⟩
   ·have z:X.env.scope.names.lookup x=some .local:=z;rcases S.vis x key with z' | z'<;>(rw[z]at z';cases z')
   ·rw[hcx]at e';cases e';obtain⟨o,g1,g2⟩:=q;exact⟨o,hk _ _ g1,g2⟩
 ·rcases hcl x c e with a | a
  ·obtain⟨v,q⟩:=I.cell x c (S.sub x c a);obtain⟨o,h1,h2⟩:=q;exact⟨v,o,hk _ _ h1,h2⟩
  ·exact⟨none,a⟩
 ·rcases cas x c e with⟨a,_⟩ | ⟨a,_⟩
  ·exact I.c6 x c a
  ·exact I.hok.fresh (Nat.le_of_succ_le a)
abbrev gF(wi:TI)(clr:St->St)(g:TG)(tc:TT)(te:TE):TE:=fun σ H Q=>wi σ H fun J H1=>∀ l,H1 l=none->∃ W:Nat->Nat->List V->Hp->Prop,(∃ m,W 0 m [] (upd H1 l (.lst []))) /\
 ∀ i m ys H2,W i m ys H2->H2 l=some (.lst ys)/\((J.stop i H2/\Q (.ref l) H2)\/(J.go i H2/\∀ x H3,J.yld i H2 x H3->g x (clr σ) H3 fun σ4 H4=>tc σ4 H4 fun k H5 =>
  if k=true then te σ4 H5 fun y H6=>H6 l=some (.lst ys)/\ys.length<sizeLine/\∃ m',m'<m/\W (i+1) m' (ys++[y]) (upd H6 l (.lst (ys++[y])))else ∃ m',m'<m/\W (i+1) m' ys H5))
structure my(X:Cx)(scope:Scope)(tg:Expr)(ifs:List Expr)(elt:Expr)(clr:St->St)(g:TG)(tc:TT)(te:TE):Prop where
 htg:∀ cls C fp s H,PG (blk X scope cls C fp s H) tg g
 htc:∀ cls C fp s H pins s' σ H' Q,Inv (blk X scope cls C fp s H) pins σ H' s'->tc σ H' Q->wpAny (model X.prog X.w) X.A (fP ifs (compEnvC scope cls C X.env)) (TP (blk X scope cls C fp s H) pins σ Q) (fun _ _=>False) s'
 hte:∀ cls C fp s H,PE (blk X scope cls C fp s H) elt te
 B5:∀ σ:St,σ.length=X.N.length->wW X scope σ (clr σ)
 xk:∀ (x:V) (σ:St) (H:Hp) (Q:St->Hp->Prop),g x (clr σ) H Q->g x (clr σ) H fun σ2 H2=>Q σ2 H2/\(clr σ).length=σ2.length/\∀ (i:Nat) v,(clr σ)[i]?=some (some v)->σ2[i]?=some (some v)
def lT{elt tg iter:Expr}{ifs:List Expr}{pos:Pos}{wi:TI}{clr:St->St}{g:TG}{tc:TT}{te:TE}{Q:VK}{RR:Value->Addr->Result->Shared->Prop}{CM:Cx->Prop}(hc:∀ {pins:List (Addr × Obj)} {σ:St} {H:Hp} {s:Shared} (cls:List (Str × Addr)) (C:Addr) (fp:List Addr),Inv X pins σ H s->CM (blk X scope cls C fp s H))(S:eQ scope X.env.scope cls X.env.cells)
 (hi:PI' CM X tg iter wi)(B:my X scope tg ifs elt clr g tc te)(I:Inv X pins σ H s)(h:gF wi clr g tc te σ H Q)
 (hRR:∀ l C H' s',Inv X pins σ H' s'->(∃ m,s'.heap.Ns C m)->H' C=none->C≠X.env.locals->X.s₀.heap.objs.size<=C->(∀ x c,X.env.cells.lookup x=some c->c≠C)->(∀ p∈X.pn++pins,p.1≠C)->Q (.ref l) H'->RR (.ref l) C (.ok .next) s') :
  wpAny (model X.prog X.w) X.A (eval iter X.env) (fun x s1=>wpAny (model X.prog X.w) X.A (pyIter x) (fun it s2=>wpAny (model X.prog X.w) X.A (newList []) (fun acc s3 =>
   wpAny (model X.prog X.w) X.A (newFunctionEnv scope X.env.globals cls [] X.env.qual none .none (some X.env)) (fun cenv s4 =>
    codeAny (model X.prog X.w) X.A (.compStart (.ListComp elt [⟨tg,iter,ifs,0⟩] scope pos) 0 it acc { cenv with scope:=relabel scope X.env }) (RR acc cenv.locals) s4) X.xe s3) X.xe s2) X.xe s1) X.xe s:=by
 refine thn (hi pins s σ H _ I h) fun x s1 h1=>thn h1 fun itv s2 h2=>?_;obtain⟨it,fp,tn,J,H2,e,I2,T,st2,f2,h3⟩:=h2;subst e
 have flt:∀ b∈fp,b<s2.heap.objs.size:=fun b hb=>by
  obtain⟨o,e,_⟩:=T.obj _ _ st2 b hb;exact Heap.lt_size e
 refine wpAny_newObj_type ?_
 have I3:Inv X pins σ (upd H2 s2.heap.objs.size (.lst [])) { s2 with heap:=s2.heap.push { cls:=.type "list",dict:=none,data:=.seq ([]:List Value).toArray } } :=
  I2.laid (t':=s2.toks) (fun b u e=>Heap.get?_push_of_some _ e) (Nat.le_refl _) ⟨Nat.zero_le _,[],0,.nil,Heap.get?_push_size _ rfl⟩
 have hl2:H2 s2.heap.objs.size=none:=I2.hok.fresh (Nat.le_refl _);obtain⟨W,⟨m0,w0⟩,turn⟩:=h3 s2.heap.objs.size hl2
 have f3:∀ b∈fp,ib X pins (upd H2 s2.heap.objs.size (.lst [])) b/\b<(s2.heap.push { cls:=.type "list",dict:=none,data:=.seq ([]:List Value).toArray }).objs.size:=fun b hb=>by
  obtain⟨z0,z⟩:=f2 b hb;refine⟨⟨?_,z⟩,?_⟩
  ·rw[aE (Nat.ne_of_lt (flt b hb))];exact z0
  ·rw[Heap.size_push];exact Nat.lt_succ_of_lt (flt b hb)
 generalize hs3:({ s2 with heap:=s2.heap.push { cls:=.type "list",dict:=none,data:=.seq ([]:List Value).toArray } }:Shared)=s3 at I3
 have hs3h:s3.heap=s2.heap.push { cls:=.type "list",dict:=none,data:=.seq ([]:List Value).toArray }:=by rw[<-hs3]
 rw[<-hs3h]at f3
 have st3:tn 0 s3.heap:=T.keep _ _ _ st2 fun b hb o e=>by rw[hs3h];exact Heap.get?_push_of_some _ e
 refine xu ?_;have k4:∀ b o,s3.heap.get? b=some o->(pushCells (s3.heap.push { cls:=.type "dict",data:=.dict #[] }) scope.names).get? b=some o:=fun b o e=>pushCells_keeps _ _ b o (Heap.get?_push_of_some _ e);have hns4:(pushCells (s3.heap.push { cls:=.type "dict",data:=.dict #[] }) scope.names).Ns s3.heap.objs.size (fun _=>none):=(Heap.Ns.new s3.heap (.type "dict")).keeps (pushCells_keeps _ _);have hcl4:∀ x c,(cellsFrom (s3.heap.objs.size+1) scope.names cls).lookup x=some c->cls.lookup x=some c\/(pushCells (s3.heap.push { cls:=.type "dict",data:=.dict #[] }) scope.names).IsCell c none:=fun x c e=>kP scope.names (s3.heap.push { cls:=.type "dict",data:=.dict #[] }) cls x c (by rw[Heap.size_push];exact e);generalize pushCells (s3.heap.push { cls:=.type "dict",data:=.dict #[] }) scope.names=h4 at k4 hns4 hcl4
 have I4:Inv (blk X scope (cellsFrom (s3.heap.objs.size+1) scope.names cls) s3.heap.objs.size fp s3 (upd H2 s2.heap.objs.size (.lst []))) [] (clr σ) (upd H2 s2.heap.objs.size (.lst [])) { s3 with heap:=h4 } :=
  yB (t:=s3.toks) I3 S f3 (B.B5 σ I.len) hns4 k4 hcl4
 generalize hs4:({ s3 with heap:=h4 }:Shared)=s4 at I4
 have hs4h:s4.heap=h4:=by rw[<-hs4]
 generalize hH3:upd H2 s2.heap.objs.size (.lst [])=H3 at I3 I4 w0
 have st4:tn 0 s4.heap:=T.keep _ _ _ st3 fun b hb o e=>by rw[hs4h];exact k4 b o e
 have fn4:∀ b∈fp,H3 b=none:=fun b hb=>by rw[<-hH3];exact(f3 b hb).1.1
 have stat:∀ {H':Hp} {σ':St} {s':Shared},Inv (blk X scope (cellsFrom (s3.heap.objs.size+1) scope.names cls) s3.heap.objs.size fp s3 H3) [] σ' H' s'->(∀ b∈fp,H' b=none)->∀ b∈fp,ib (blk X scope (cellsFrom (s3.heap.objs.size+1) scope.names cls) s3.heap.objs.size fp s3 H3) [] H' b :=
  fun {H' σ' s'} J hn b hb=>⟨hn b hb,(J.ok.exf b hb).1,J.ok.ik b hb,.inl hb,(J.ok.exf b hb).2,fun p hp=>absurd hp (by simp[blk])⟩
 have fin:∀ {H':Hp} {s':Shared},Inv (blk X scope (cellsFrom (s3.heap.objs.size+1) scope.names cls) s3.heap.objs.size fp s3 H3) [] (clr σ) H' s'->Q (.ref s2.heap.objs.size) H'->RR (.ref s2.heap.objs.size) s3.heap.objs.size (.ok .next) s':=fun {H' s'} J q=>by
  obtain⟨m,hn,_⟩:=J.loc
  have J1:Inv X pins σ H' s':=I3.mw (s':=s') (ch:=fp) (J.os.trans rfl) J.base J.hok J.bare fun b hb=>by
   obtain⟨⟨g0,g1,g2,g3,g4,g5⟩,_⟩:=f3 b hb;exact⟨g3,g1,g4,g5⟩
  refine hRR _ _ H' s' J1 ⟨m,hn⟩ J.free (Nat.ne_of_gt I3.lt) I3.sz (fun x c e=>?_) (fun p hp=>?_) q
  ·obtain⟨v,z⟩:=I3.cell x c e;exact Nat.ne_of_lt z.lt
  ·exact Nat.ne_of_lt (Heap.lt_size (I3.pin p hp).1)
 have loop:codeAny (model X.prog X.w) X.A (.compLoop (.ListComp elt [⟨tg,iter,ifs,0⟩] scope pos) 0 (.ref it) (.ref s2.heap.objs.size) (compEnvC scope (cellsFrom (s3.heap.objs.size+1) scope.names cls) s3.heap.objs.size X.env))
   (RR (.ref s2.heap.objs.size) s3.heap.objs.size) s4:=by
  refine sV (fun n s'=>∃ i ys H',Inv (blk X scope (cellsFrom (s3.heap.objs.size+1) scope.names cls) s3.heap.objs.size fp s3 H3) [] (clr σ) H' s'/\tn i s'.heap/\(∀ b∈fp,H' b=none)/\W i n ys H') ?_ m0 ⟨0,[],H3,I4,st4,fn4,w0⟩;rintro n s5 ⟨i,ys,H5,I5,st5,fr5,w5⟩;obtain⟨hl5,tr⟩:=turn i n ys H5 w5
  rcases tr with⟨stop,qn⟩ | ⟨go,step⟩
  ·refine thn (T.done (blk X scope (cellsFrom (s3.heap.objs.size+1) scope.names cls) s3.heap.objs.size fp s3 H3) rfl rfl rfl (hc _ _ _ I3) i [] s5 (clr σ) H5 (fun _ _=>False) I5 (stat I5 fr5) st5 stop) fun r s6 ⟨hr,I6⟩=>?_;subst hr;exact fin I6 qn
  ·refine thn (T.item (blk X scope (cellsFrom (s3.heap.objs.size+1) scope.names cls) s3.heap.objs.size fp s3 H3) rfl rfl rfl (hc _ _ _ I3) i [] s5 (clr σ) H5 (fun _ _=>False) I5 (stat I5 fr5) st5 go) fun r s6 ⟨u,hr,h6⟩=>?_;subst hr;refine thn h6 fun _ s7 ⟨x,H7,I7,r7,y7,st7,fr7⟩=>?_;have I7':=I7.pinned (stat I7 fr7) (T.obj _ _ st7)
   have back:∀ {σ':St} {H':Hp} {s':Shared},Inv (blk X scope (cellsFrom (s3.heap.objs.size+1) scope.names cls) s3.heap.objs.size fp s3 H3) ([]++iQ fp s7.heap) σ' H' s'->(clr σ).length=σ'.length->(∀ (i:Nat) v,(clr σ)[i]?=some (some v)->σ'[i]?=some (some v))->(∃ m ys',m<n/\W (i+1) m ys' H') ->
     ∃ m,m<n/\∃ i ys H',Inv (blk X scope (cellsFrom (s3.heap.objs.size+1) scope.names cls) s3.heap.objs.size fp s3 H3) [] (clr σ) H' s'/\tn i s'.heap/\(∀ b∈fp,H' b=none)/\W i m ys H':=fun {σ' H' s'} J el ew hw=>by
    obtain⟨m,ys',hm,w8⟩:=hw;refine⟨m,hm,i+1,ys',H',J.hW.weak el ew,T.keep _ _ _ st7 fun b hb o e=>(J.pin (b,o) (List.mem_append_right _ (List.mem_append_right _ (fw hb e)))).1,fun b hb=>?_,w8⟩;obtain⟨o,e,d⟩:=T.obj _ _ st7 b hb;exact(J.pin (b,o) (List.mem_append_right _ (List.mem_append_right _ (fw hb e)))).2.1
   refine thn (B.htg _ s3.heap.objs.size fp s3 H3 _ s7 (clr σ) H7 x u _ I7' r7 (B.xk x σ H7 _ (step x H7 y7))) fun _ s8 ⟨σ8,H8,I8,q8,el8,ew8⟩=>?_;refine thn (B.htc _ s3.heap.objs.size fp s3 H3 _ s8 σ8 H8 _ I8 q8) fun ok s9 ⟨H9,I9,q9⟩=>?_
   cases ok with
   |false=>
    have q9:∃ m',m'<n/\W (i+1) m' ys H9:=q9;obtain⟨m',hm,w9⟩:=q9;exact back I9 el8 ew8 ⟨m',ys,hm,w9⟩
   |true=>
    refine thn (B.hte _ s3.heap.objs.size fp s3 H3 _ s9 σ8 H9 _ I9 q9) fun v s10 ⟨y,H10,I10,r10,hl10,hz,m',hm,w10⟩=>?_;refine thn (l7 (X:=blk X scope (cellsFrom (s3.heap.objs.size+1) scope.names cls) s3.heap.objs.size fp s3 H3) _ s10 σ8 H10 (.ref s2.heap.objs.size) [y] (.ref s2.heap.objs.size) [v] (fun _ H'=>H'=upd H10 s2.heap.objs.size (.lst (ys++[y]))) I10 rfl (.cons r10 .nil) ⟨_,ys,y,rfl,rfl,hl10,hz,rfl⟩) fun _ s11 ⟨_,H11,I11,_,e11⟩=>?_;subst e11;exact back I11 el8 ew8 ⟨m',_,hm,w10⟩
 exact codeAny_compStart_list loop (T.self _ 0 _ _ _ st4 loop)
def qa{elt tg iter:Expr}{ifs:List Expr}{pos:Pos}{wi:TI}{clr:St->St}{g:TG}{tc:TT}{te:TE}{CM:Cx->Prop}(hc:∀ {pins:List (Addr × Obj)} {σ:St} {H:Hp} {s:Shared} (cls:List (Str × Addr)) (C:Addr) (fp:List Addr),Inv X pins σ H s->CM (blk X scope cls C fp s H))(S:eQ scope X.env.scope cls X.env.cells)(hclos:closureFor scope X.env=pure cls)
 (hi:PI' CM X tg iter wi)(B:my X scope tg ifs elt clr g tc te)(hs:∀ x,foldedSetIterable iter X.env x=pure x):PE X (.ListComp elt [⟨tg,iter,ifs,0⟩] scope pos) (gF wi clr g tc te):=by
 intro pins s σ H Q I h;rw[eval_ListComp];refine wpAny_comprehension_free (use:=none) rfl hs hclos S.kind S.loc (lT (RR:=fun acc C=>compPost (model X.prog X.w) X.A X.xe none (EP X pins σ Q) acc C) hc S hi B I h ?_);intro l C H' s' J hn c0 c1 c2 c3 c4 q;obtain⟨m,hn⟩:=hn;exact⟨m,hn,fun h' sb=>⟨.ref l,H',J.turned (it:=C) (h':=h') (t':=s'.toks) (fun b o hb e=>(sb.2 b hb).trans e) c0 (Ne.symm (Ne.symm c1)) (.inr c2) c3 c4,rfl,q⟩⟩
abbrev BZ(i:Nat)(t:TE):TS:=fun D σ H=>t σ H fun v H1=>D.nx (σ.set i (some v)) H1
def pF(hc:X.calm=true)(hN:X.N.Nodup)(hiy:X.N[i]?=some y)(hy:X.env.scope.names.lookup y=some .local)
 (S:eQ scope X.env.scope cls X.env.cells)(hclos:closureFor scope X.env=pure cls)
 (hi:PI X tg iter wi)(B:my X scope tg ifs elt clr g tc te)(hs:∀ x,foldedSetIterable iter X.env x=pure x)
 (hsw:swapsWith (.ListComp elt [⟨tg,iter,ifs,0⟩] scope pos) (some (.Name y py)) spos.line X.env=pure true) :
  PS X (.Assign [.Name y py] (.ListComp elt [⟨tg,iter,ifs,0⟩] scope pos) spos) (BZ i (gF wi clr g tc te)):=by
 intro pins s σ H D I h
 have back:∀ (l C:Addr) (H':Hp) (s':Shared),Inv X pins σ H' s'->(∃ m,s'.heap.Ns C m)->H' C=none->C≠X.env.locals->X.s₀.heap.objs.size<=C->(∀ x c,X.env.cells.lookup x=some c->c≠C)->(∀ p∈X.pn++pins,p.1≠C)->D.nx (σ.set i (some (.ref l))) H' ->
   compPost (model X.prog X.w) X.A X.xe (some (assign (.Name y py) X.env)) (fun _ s'=>SP X pins D .next s') (.ref l) C (.ok .next) s':=by
  intro l C H' s' J hn c0 c1 c2 c3 c4 q;obtain⟨m,hn⟩:=hn;show wpAny _ X.A (assign (.Name y py) X.env (.ref l)) _ _ s';refine wpAny_assign_Name (lO (v:=.ref l) J hN hiy (.inl hy) rfl (fun s2 J2 ⟨a,sb,ha⟩=>?_) (.inr hy))
  have hne:C≠a:=by
   rcases ha with z | z
   ·rw[z];exact c1
   ·exact(c3 _ _ z).symm
  exact⟨m,hn.sameBut sb hne,fun h' sb'=>⟨σ.set i (some (.ref l)),H',J2.turned (it:=C) (h':=h') (t':=s2.toks) (fun b o hb e=>(sb'.2 b hb).trans e) c0 c1 (.inr c2) c3 c4,q⟩⟩
 have core:=lT (RR:=fun acc C=>compPost (model X.prog X.w) X.A X.xe (some (assign (.Name y py) X.env)) (fun _ s'=>SP X pins D .next s') acc C) (pos:=pos) (fun _ _ _ _=>hc) S hi B I h back;have whole:=wpAny_comprehension_free (e:=.ListComp elt [⟨tg,iter,ifs,0⟩] scope pos) (newAcc:=newList []) (use:=some (assign (.Name y py) X.env)) (Q:=fun _ s'=>SP X pins D .next s') (pos:=iter.pos) rfl hs hclos S.kind S.loc core;rw[exec_Assign_Name_used (hs:=hsw)];apply wpAny_bind;apply wpAny_standAt;apply wpAny_bind;apply wpAny_bind;refine thn whole fun _ s' hq=>?_;apply wpAny_pure;apply wpAny_pure;exact hq
end
end L2
namespace RS
open PySem PySem.Spec PyProof.Rows L2
def iy:∀ (names:List (Str × NameKind)) (acc:List (Str × Addr)),(∀ x,(x,NameKind.free)∈names->∃ c,env.cells.lookup x=some c)->(∀ x c,acc.lookup x=some c->env.cells.lookup x=some c) ->
  ∃ cls,(forIn names acc fun(p:Str × NameKind) cs=>match p with | (name,kind)=>if(kind == NameKind.free)=true then do let c <- cellOf env name;pure (ForInStep.yield ((name,c)::cs))else pure (ForInStep.yield cs):Sem (List (Str × Addr)))=pure cls /\
   (∀ x c,cls.lookup x=some c->env.cells.lookup x=some c)/\(∀ x,(acc.lookup x).isSome=true\/(x,NameKind.free)∈names->∃ c,cls.lookup x=some c)
 | [],acc,_,ha=>⟨acc,rfl,ha,fun x hx=>by
   rcases hx with h | h
   ·exact Option.isSome_iff_exists.mp h
   ·simp at h⟩
 | (n,k)::r,acc,hn,ha=>by
  by_cases hk:k=.free
  ·subst hk;obtain⟨c,hc⟩:=hn n List.mem_cons_self
   have ha':∀ x c',((n,c)::acc).lookup x=some c'->env.cells.lookup x=some c':=fun x c' e=>by
    rw[List.lookup_cons]at e
    cases hx:x == n with
    |true=>
     rw[hx]at e;cases e;rw[show x=n by simpa using hx];exact hc
    |false=>
     rw[hx]at e;exact ha x c' e
   obtain⟨cls,h1,h2,h3⟩:=iy r ((n,c)::acc) (fun x hx=>hn x (List.mem_cons_of_mem _ hx)) ha';refine⟨cls,?_,h2,fun x hx=>h3 x ?_⟩
   ·rw[List.forIn_cons]
    have hcell:cellOf env n=pure c:=by unfold cellOf;rw[hc]
    simp only[beq_self_eq_true,if_true,hcell];exact h1
   ·rcases hx with h | h
    ·left;rw[List.lookup_cons];split<;>simp_all
    ·rcases List.mem_cons.mp h with e | e
     ·cases e;left;simp[List.lookup_cons]
     ·exact .inr e
  ·obtain⟨cls,h1,h2,h3⟩:=iy r acc (fun x hx=>hn x (List.mem_cons_of_mem _ hx)) ha;refine⟨cls,?_,h2,fun x hx=>h3 x ?_⟩
   ·rw[List.forIn_cons]
    have:(k == NameKind.free)=false:=by simpa using hk
    simp only[this,Bool.false_eq_true,if_false];exact h1
   ·rcases hx with h | h
    ·exact .inl h
    ·rcases List.mem_cons.mp h with e | e
     ·cases e;exact absurd rfl hk
     ·exact .inr e
def qU(h:∀ x,(x,NameKind.free)∈scope.names->∃ c,env.cells.lookup x=some c) :
  ∃ cls,closureFor scope env=pure cls/\(∀ x c,cls.lookup x=some c->env.cells.lookup x=some c)/\(∀ x,scope.names.lookup x=some .free->∃ c,cls.lookup x=some c):=by
 obtain⟨cls,h1,h2,h3⟩:=iy (env:=env) scope.names [] h (fun x c e=>by simp at e);refine⟨cls,?_,h2,fun x hx=>h3 x (.inr (PySem.mem_of_lookup hx))⟩;unfold closureFor;simp only[bind_pure_comp]at h1 ⊢;rw[h1];rfl
section
abbrev lg(K:PySem.W.Frag)(n:Nat)(t:TGs):TG:=fun v σ H Q=>∃ a xs,v=.ref a/\SqL K H a xs/\xs.length=n/\t xs σ H Q
end
section
def ng(h:PG X tgE t)(h':PG X tgE t'):PG X tgE (fun v σ H Q=>t v σ H Q\/t' v σ H Q):=by
 intro pins s σ H v u Q I r hw;rcases hw with q | q
 ·exact h pins s σ H v u Q I r q
 ·exact h' pins s σ H v u Q I r q
end
abbrev gs:List Nat->TGs
 | []=>Ab
 | i::r=>wD (jg i) (gs r)
abbrev gT(K:PySem.W.Frag):List Nat->TG
 | [i]=>jg i
 | is=>fun v σ H Q=>kX K is.length (gs is) v σ H Q\/lg K is.length (gs is) v σ H Q
abbrev cN:List Nat->List V->L2.St->L2.St
 | i::is,v::vs,σ=>cN is vs (σ.set i (some v))
 | _,_,σ=>σ
abbrev j5:List Nat->List RL.D->RL.St->RL.St
 | i::is,d::ds,σ=>j5 is ds (σ.set i (some d))
 | _,_,σ=>σ
def gk:∀ {is:List Nat} {ds:List RL.D} {σ σ1:RL.St},RL.ck is ds σ=some σ1->is.length=ds.length/\σ1=j5 is ds σ
 | [],[],σ,σ1,h=>by cases h;exact⟨rfl,rfl⟩
 | [],d::ds,σ,σ1,h=>by cases h
 | i::is,[],σ,σ1,h=>by cases h
 | i::is,d::ds,σ,σ1,h=>by
  obtain⟨h1,h2⟩:=gk (is:=is) (ds:=ds) (σ:=σ.set i (some d)) h;exact⟨by simp[h1],h2⟩
def gq:∀ {is:List Nat} {vs:List V} {σ:L2.St} {H:Hp} {Q:L2.St->Hp->Prop},is.length=vs.length->Q (cN is vs σ) H->gs is vs σ H Q
 | [],[],σ,H,Q,_,q=>⟨rfl,q⟩
 | [],_::_,_,_,_,h,_=>by simp at h
 | _::_,[],_,_,_,h,_=>by simp at h
 | i::is,v::vs,σ,H,Q,h,q=>⟨v,vs,rfl,gq (is:=is) (by simpa using h) q⟩
def qg{K:PySem.W.Frag}(h:RL.bN tg d σD=some σD1)(r:Rep nP K H d v) :
  ∃ ds vs,σD1=j5 tg ds σD/\tg.length=ds.length/\ai nP K H ds vs/\(d.imm=true->RL.aB ds=true)/\∀ (σ:L2.St) (Q:L2.St->Hp->Prop),Q (cN tg vs σ) H->gT K tg v σ H Q:=by
 unfold RL.bN at h;split at h
 ·rename_i i;cases h;exact⟨[d],[v],rfl,rfl,ai.cons r ai.nil,fun z=>by simp[RL.aB,z],fun σ Q q=>q⟩
 ·rename_i hne
  have key:gT K tg=fun v σ H Q=>kX K tg.length (gs tg) v σ H Q\/lg K tg.length (gs tg) v σ H Q:=by
   unfold gT;split
   ·rename_i i;exact absurd rfl (hne i)
   ·rfl
  rw[key];split at h
  ·rename_i ds;obtain⟨h1,h2⟩:=gk h;obtain⟨p,xs,rfl,e2,e3⟩:=bx r;exact⟨ds,xs,h2,h1,e3,fun z=>by rw[RL.D.imm]at z;exact z,fun σ Q q=>.inl ⟨p,xs,rfl,SqT.of e2,by rw[<-e3.length,h1],gq (h1.trans e3.length) q⟩⟩
  ·rename_i ds;obtain⟨h1,h2⟩:=gk h;obtain⟨p,xs,rfl,_,e2,e3⟩:=aP r;exact⟨ds,xs,h2,h1,e3,fun z=>(by cases z),fun σ Q q=>.inr ⟨p,xs,rfl,SqL.of e2,by rw[<-e3.length,h1],gq (h1.trans e3.length) q⟩⟩
  ·cases h
def nC:∀ (is:List Nat) (vs:List V) (σ:L2.St),(cN is vs σ).length=σ.length
 | [],_,_=>rfl
 | _::_,[],_=>rfl
 | i::is,v::vs,σ=>by rw[cN,nC is vs,List.length_set]
def k7:∀ (is:List Nat) (vs:List V) (σ:L2.St) (j:Nat),is.contains j=false->(cN is vs σ)[j]?=σ[j]?
 | [],_,_,_,_=>rfl
 | _::_,[],_,_,_=>rfl
 | i::is,v::vs,σ,j,h=>by
  rw[List.contains_cons,Bool.or_eq_false_iff]at h;rw[cN,k7 is vs _ j h.2,List.getElem?_set_ne (by intro e;subst e;simp at h)]
abbrev RVx(T:List Nat)(K:PySem.W.Frag)(σD:RL.St)(σ:L2.St)(H:Hp):Prop:=σD.length<=σ.length/\∀ (i:Nat) (d:RL.D),T.contains i=false->σD[i]?=some (some d)->∃ v,σ[i]?=some (some v)/\Rep nP K H d v
def RVx.set{K:PySem.W.Frag}(h:RVx (i::T) K σD σ H)(r:Rep nP K H d v):RVx T K (σD.set i (some d)) (σ.set i (some v)) H:=⟨by simpa using h.1,fun j dj hT e=>by
 by_cases hj:j=i
 ·subst hj
  have hlt:j<σD.length:=by
   have:=(List.getElem?_eq_some_iff.mp e).1;simpa using this
  rw[List.getElem?_set_self hlt]at e;cases e;exact⟨v,by rw[List.getElem?_set_self (Nat.lt_of_lt_of_le hlt h.1)],r⟩
 ·rw[List.getElem?_set_ne (Ne.symm hj)]at e ⊢
  exact h.2 j dj (by rw[List.contains_cons,hT,Bool.or_false];simpa using hj) e⟩
def RVx.ck{K:PySem.W.Frag}:∀ {is:List Nat} {ds:List RL.D} {vs:List V} {σD:RL.St} {σ:L2.St},RVx is K σD σ H->is.length=ds.length->ai nP K H ds vs->RV0 K (j5 is ds σD) (cN is vs σ) H
 | [],_,_,_,_,h,_,_=>⟨h.1,fun i d e=>h.2 i d rfl e⟩
 | i::is,[],_,_,_,_,hl,_=>by simp at hl
 | i::is,d::ds,vs,σD,σ,h,hl,r=>by
  rw[ai]at r;obtain⟨v,t,rfl,r1,r2⟩:=r;rw[j5,cN];exact RVx.ck (h.set r1) (by simpa using hl) r2
def zt{K:PySem.W.Frag}(h:gT K tg v σ H Q):∃ vs,tg.length=vs.length/\Q (cN tg vs σ) H/\∀ Q':L2.St->Hp->Prop,Q' (cN tg vs σ) H->gT K tg v σ H Q':=by
 have inv:∀ (is:List Nat) (xs:List V) (σ:L2.St) (Q:L2.St->Hp->Prop),gs is xs σ H Q->is.length=xs.length/\Q (cN is xs σ) H:=by
  intro is
  induction is with
  | nil=>intro xs σ Q h;obtain⟨rfl,q⟩:=h;exact⟨rfl,q⟩
  |cons i r ih=>
   intro xs σ Q h;obtain⟨v,t,rfl,q⟩:=h;obtain⟨h1,h2⟩:=ih t _ Q q;exact⟨by simp[h1],h2⟩
 unfold gT at h;split at h
 ·rename_i i;exact⟨[v],rfl,h,fun Q' q=>q⟩
 ·rename_i hne
  have key:gT K tg=fun v σ H Q=>kX K tg.length (gs tg) v σ H Q\/lg K tg.length (gs tg) v σ H Q:=by
   unfold gT;split
   ·rename_i i;exact absurd rfl (hne i)
   ·rfl
  rw[key]
  rcases h with⟨a,xs,rfl,hq,hl,hg⟩ | ⟨a,xs,rfl,hq,hl,hg⟩
  ·obtain⟨h1,h2⟩:=inv _ _ _ _ hg;exact⟨xs,h1,h2,fun Q' q=>.inl ⟨a,xs,rfl,hq,hl,gq h1 q⟩⟩
  ·obtain⟨h1,h2⟩:=inv _ _ _ _ hg;exact⟨xs,h1,h2,fun Q' q=>.inr ⟨a,xs,rfl,hq,hl,gq h1 q⟩⟩
abbrev eY(tg:List Nat)(σ:L2.St):L2.St:=σ.mapIdx fun i o=>if tg.contains i then none else o
def nF(tg:List Nat)(σ:L2.St):(eY tg σ).length=σ.length:=by simp[eY]
def pL(h:tg.contains i=false):(eY tg σ)[i]?=σ[i]?:=by
 unfold eY;rw[List.getElem?_mapIdx]
 cases σ[i]? with
 | none=>rfl
 | some o=>simp only[Option.map_some,h,Bool.false_eq_true,if_false]
def pR(h:tg.contains i=true):(eY tg σ)[i]?≠some (some v):=by
 unfold eY;rw[List.getElem?_mapIdx]
 cases σ[i]? with
 | none=>simp
 | some o=>simp only[Option.map_some,h,if_true];intro z;cases z
section comp
variable{X:Cx}
structure iA(X:Cx)(cl:RL.Cl)(scope:Scope)(tgE:Expr)(tg:List Nat)(elt:Expr)(e':RL.E)(tcs:TT)(ifs:List Expr):Prop where
 htg:∀ cls C fp s H,PG (blk X scope cls C fp s H) tgE (gT X.K tg)
 htc:∀ cls C fp s H pins s' σ H' Q,Inv (blk X scope cls C fp s H) pins σ H' s'->tcs σ H' Q->wpAny (model X.prog X.w) X.A (fP ifs (compEnvC scope cls C X.env)) (TP (blk X scope cls C fp s H) pins σ Q) (fun _ _=>False) s'
 hte:∀ cls C fp s H,SE (blk X scope cls C fp s H) cl elt e'
 cover:∀ (i:Nat) (x:Str),X.N[i]?=some x->scope.names.lookup x=some .local\/scope.names.lookup x=some .cell->tg.contains i=true
def iA.blk{tcs:TT}(B:iA X cl scope tgE tg elt e' tcs ifs):my X scope tgE ifs elt (eY tg) (gT X.K tg) tcs (tE X.K cl e') where
 htg:=B.htg
 htc:=B.htc
 hte:=B.hte
 B5:=fun σ hl=>⟨nF tg σ,fun i x v h1 h2=>by
  by_cases hc:tg.contains i=true
  ·exact absurd h2 (pR hc)
  ·simp only[Bool.not_eq_true]at hc;rw[pL hc]at h2;refine⟨h2,fun z=>?_,fun z=>?_⟩
   ·rw[B.cover i x h1 (.inl z)]at hc;cases hc
   ·rw[B.cover i x h1 (.inr z)]at hc
    cases hc⟩
 xk:=fun x σ H Q h=>by
  obtain⟨vs,h1,h2,h3⟩:=zt h;refine h3 _ ⟨h2,(nC _ _ _).symm,fun i v e=>?_⟩;by_cases hc:tg.contains i=true
  ·exact absurd e (pR hc)
  ·simp only[Bool.not_eq_true]at hc;rw[k7 _ _ _ _ hc];exact e
def uE(h:RL.cM f tg σ (d::r)=some ys):∃ σ1 y ys',RL.bN tg d σ=some σ1/\f σ1=some y/\RL.cM f tg σ r=some ys'/\RL.lj y ys'=some ys:=by
 rw[RL.cM]at h;obtain⟨σ1,h1,h⟩:=bind_some h;obtain⟨y,h2,h⟩:=bind_some h;obtain⟨ys',h3,h⟩:=bind_some h;exact⟨σ1,y,ys',h1,h2,h3,h⟩
def pO(rv:RV0 X.K σD σ H)(ei:RL.bU cl σD it=some ds)(hz:ds.length<=RL.most)(hm:RL.cM f tg σD ds=some total)
 (ht:∀ σ1 σV H y (Q:Bool->Hp->Prop),RV0 X.K σ1 σV H->f σ1=some y->(∀ k H',aD H H'->(if k=true then ∃ d,y=some d/\RL.ev cl σ1 e'=some d else y=none)->Q k H')->tcs σV H Q)
 (k:∀ l H',aD H H'->H l=none->(∃ xs,H' l=some (.lst xs)/\ai nP X.K H' total xs)->Q (.ref l) H'):gF (tI X.K cl it) (eY tg) (gT X.K tg) tcs (tE X.K cl e') σ H Q:=by
 refine⟨σD,ds,rv,ei,fun J H1 s1 src l hl=>?_⟩;obtain⟨ok,_⟩:=src
 refine⟨fun i m xs H2=>∃ don rest,m=ds.length-i/\i<=ds.length/\aD H1 H2/\H2 l=some (.lst xs)/\ai (fun p=>p=l) X.K H2 don xs/\RL.cM f tg σD (ds.drop i)=some rest/\don++rest=total/\don.length<=i,
  ⟨_,[],total,rfl,Nat.zero_le _,aD.cw hl,aI,ai.nil,hm,rfl,Nat.le_refl _⟩,?_⟩
 rintro i m xs H2 ⟨don,rest,rfl,hi,s2,hl2,rs,hr,htot,hdn⟩;refine⟨hl2,?_⟩;have off:Off nP H1 H2:=Off.same s2;by_cases hlt:i<ds.length
 ·refine .inr ⟨ok.go H2 i off hlt,fun x H3 y=>?_⟩
  have hd:ds[i]?=some ds[i]:=by simp[hlt]
  obtain⟨s3,rp⟩:=ok.yld H2 i ds[i] x H3 off hd y;have rp:=rp (.inr s2);rw[List.drop_eq_getElem_cons hlt]at hr;obtain⟨σ1,y1,ys',h1,h2,h3,h4⟩:=uE hr;obtain⟨dv,vs,e1,e2,e3,_,e5⟩:=qg h1 rp;refine e5 _ _ ?_;have rv3:RV0 X.K σD σ H3:=rv.same ((s1.trans s2).trans s3)
  have rvx:RVx tg X.K σD (eY tg σ) H3:=⟨by rw[nF];exact rv3.1,fun j d hT e=>by rw[pL hT];exact rv3.2 j d e⟩
  have rv1:RV0 X.K σ1 (cN tg vs (eY tg σ)) H3:=by rw[e1];exact rvx.ck e2 e3
  refine ht σ1 _ H3 y1 _ rv1 h2 fun t H5 s5 hy=>?_;have hl5:H5 l=some (.lst xs):=s5 _ _ (s3 _ _ hl2);have rs5:ai (fun p=>p=l) X.K H5 don xs:=(rs.same s3).same s5
  cases t with
  |true=>
   obtain⟨d,rfl,hv⟩:=(show ∃ d,y1=some d/\RL.ev cl σ1 e'=some d from hy)
   have him:d.imm=true/\rest=d::ys':=by
    unfold RL.lj at h4;dsimp only at h4;split at h4
    ·rename_i hh;cases h4;exact⟨hh,rfl⟩
    ·cases h4
   refine eZ ⟨σ1,d,rv1.same s5,hv,fun v H6 r6=>⟨r6.same _ _ hl5,?_,ds.length-(i+1),by lia,don++[d],ys',rfl,hlt,?_,aI,?_,h3,?_,?_⟩⟩
   ·rw[<-rs.length];exact Nat.lt_of_lt_of_le (Nat.lt_of_le_of_lt hdn (Nat.lt_of_lt_of_le hlt hz)) (Nat.le_of_lt (by decide))
   ·intro b o e;have hb:b≠l:=aJ e hl;rw[aE hb];exact r6.same _ _ (s5 _ _ (s3 _ _ (s2 _ _ e)))
   ·exact ai.upd (P:=fun p=>p=l) (r6.same _ _ hl5) (.inl ⟨_,rfl⟩) rfl (ai.append (rs5.same r6.same) (ai.cons (r6.rep.imm him.1) ai.nil))
   ·rw[<-htot,him.2,List.append_assoc];rfl
   ·rw[List.length_append,List.length_singleton];lia
  |false=>
   have hy:y1=none:=hy;subst hy
   have hr2:rest=ys':=by
    unfold RL.lj at h4;dsimp only at h4;cases h4;rfl
   refine fU ⟨ds.length-(i+1),by lia,don,ys',rfl,hlt,(s2.trans s3).trans s5,hl5,rs5,h3,by rw[<-htot,hr2],by lia⟩
 ·have e:i=ds.length:=by lia
  subst e;refine .inl ⟨ok.stop H2 off,k l H2 (s1.trans s2) (s1.free hl) ⟨xs,hl2,?_⟩⟩;rw[List.drop_length,RL.cM]at hr;cases hr;rw[List.append_nil]at htot;rw[<-htot];exact ai.weak (fun _ z=>z.elim) rs
end comp
section comp
variable{X:Cx}
structure k6(scope sc:Scope):Prop where
 kind:scope.kind=.function
 own:∀ x∈scope.names,x.2=.cell->scope.names.lookup x.1=some .cell
 loc:∀ x∈scope.names,x.2=.local->scope.names.lookup x.1=some .local
 vis:∀ x∈scope.names,x.2=.free->sc.names.lookup x.1=some .cell\/sc.names.lookup x.1=some .free
def fu(S:k6 scope X.env.scope)(I:Inv X pins σ H s):∃ cls,closureFor scope X.env=pure cls/\eQ scope X.env.scope cls X.env.cells:=by
 obtain⟨cls,h1,h2,h3⟩:=qU (env:=X.env) (scope:=scope) fun x hx=>I.ok.has x (S.vis _ hx rfl);exact⟨cls,h1,S.kind,S.own,S.loc,h2,h3,fun x hx=>S.vis _ (PySem.mem_of_lookup hx) rfl⟩
def mD(sm:aD H H')(hl:H l=none)(h:∃ xs,H' l=some (.lst xs)/\ai nP X.K H' total xs)(hav:∀ M,RL.avE M e=false):Res X.K σD σ H e (.lst total) (.ref l) H' where
 same:=sm
 rep:=by
  obtain⟨xs,h1,h2⟩:=h;rw[Rep];exact⟨l,xs,rfl,fun z=>z,h1,h2⟩
 fresh:=fun _ _ a z=>by cases z;exact hl
 av:=fun M z=>by rw[hav M]at z;cases z
abbrev ke:TT:=fun _ H Q=>Q true H
def nD(h:tE X.K cl (.compA e' tg it) σ H Q):gF (tI X.K cl it) (eY tg) (gT X.K tg) ke (tE X.K cl e') σ H Q:=by
 obtain⟨σD,d,rv,e,k⟩:=h;obtain⟨ds,e1,e⟩:=bind_some e;obtain⟨ds',e2,e⟩:=bind_some e;obtain⟨total,e3,e4⟩:=map_some e;unfold RL.fits at e2;split at e2
 ·rename_i hz;cases e2;subst e4;refine pO (f:=fun σ1=>(RL.ev cl σ1 e').map some) rv e1 hz e3 (fun σ1 σV H y Q rv1 hy q=>?_) fun l H' sm hl hx=>k _ _ (mD sm hl hx fun _=>rfl);obtain⟨d,h1,h2⟩:=map_some hy;exact q true H (aD.refl H) (eZ ⟨d,h2.symm,h1⟩)
 ·cases e2
def om(h:tE X.K cl (.comp e' tg it c') σ H Q):gF (tI X.K cl it) (eY tg) (gT X.K tg) (tT X.K cl c') (tE X.K cl e') σ H Q:=by
 obtain⟨σD,d,rv,e,k⟩:=h;obtain⟨ds,e1,e⟩:=bind_some e;obtain⟨ds',e2,e⟩:=bind_some e;obtain⟨total,e3,e4⟩:=map_some e;unfold RL.fits at e2;split at e2
 ·rename_i hz;cases e2;subst e4;refine pO rv e1 hz e3 (fun σ1 σV H y Q rv1 hy q=>?_) fun l H' sm hl hx=>k _ _ (mD sm hl hx fun _=>rfl);obtain⟨t,h1,h2⟩:=bind_some hy;refine⟨σ1,t,rv1,h1,fun H' sm=>q t H' sm ?_⟩
  cases t with
  |true=>
   obtain⟨d,h3,h4⟩:=map_some (show(RL.ev cl σ1 e').map some=some y from h2);exact eZ ⟨d,h4.symm,h3⟩
  |false=>
   cases(show(some none:Option (Option RL.D))=some y from h2);exact fU rfl
 ·cases e2
def wt(hc:X.calm=true)(S:k6 scope X.env.scope)(hi:SI X cl tgE iter it)(B:iA X cl scope tgE tg elt e' ke [])(hs:∀ x,foldedSetIterable iter X.env x=pure x):SE X cl (.ListComp elt [⟨tgE,iter,[],0⟩] scope pos) (.compA e' tg it):=by
 intro pins s σ H Q I h;obtain⟨cls,h1,h2⟩:=fu S I;exact qa (fun _ _ _ _=>hc) h2 h1 hi B.blk hs pins s σ H Q I (nD h)
def mP(hc:∀ {pins:List (Addr × Obj)} {σ:L2.St} {H:Hp} {s:Shared} (cls:List (Str × Addr)) (C:Addr) (fp:List Addr),Inv X pins σ H s->CM (blk X scope cls C fp s H))(S:k6 scope X.env.scope)(hi:PI' CM X tgE iter (tI X.K cl it))(B:iA X cl scope tgE tg elt e' (tT X.K cl c') [c])(hs:∀ x,foldedSetIterable iter X.env x=pure x):SE X cl (.ListComp elt [⟨tgE,iter,[c],0⟩] scope pos) (.comp e' tg it c'):=by
 intro pins s σ H Q I h;obtain⟨cls,h1,h2⟩:=fu S I;exact qa hc h2 h1 hi B.blk hs pins s σ H Q I (om h)
abbrev SA(X:Cx)(cl:RL.Cl)(st:Stmt)(i:Nat)(e':RL.E):Prop:=PS X st (fun D σ H=>tE X.K cl e' σ H fun v H1=>D.nx (σ.set i (some v)) H1)
def PS.weak{st:Stmt}(h:PS X st t)(w:∀ D σ H,t' D σ H->t D σ H):PS X st t':=fun pins s σ H D I q=>h pins s σ H D I (w D σ H q)
def PSs.weak{st:List Stmt}(h:PSs X st t)(w:∀ D σ H,t' D σ H->t D σ H):PSs X st t':=fun pins s σ H D I q=>h pins s σ H D I (w D σ H q)
def vC(hc:X.calm=true)(hN:X.N.Nodup)(hiy:X.N[i]?=some y)(hy:X.env.scope.names.lookup y=some .local)(S:k6 scope X.env.scope)(hi:SI X cl tgE iter it)(B:iA X cl scope tgE tg elt e' ke [])(hs:∀ x,foldedSetIterable iter X.env x=pure x)
 (hsw:swapsWith (.ListComp elt [⟨tgE,iter,[],0⟩] scope pos) (some (.Name y py)) spos.line X.env=pure true):SA X cl (.Assign [.Name y py] (.ListComp elt [⟨tgE,iter,[],0⟩] scope pos) spos) i (.compA e' tg it):=by
 intro pins s σ H D I h;obtain⟨cls,h1,h2⟩:=fu S I;exact pF hc hN hiy hy h2 h1 hi B.blk hs hsw pins s σ H D I (nD h)
def uS(hc:X.calm=true)(hN:X.N.Nodup)(hiy:X.N[i]?=some y)(hy:X.env.scope.names.lookup y=some .local)(S:k6 scope X.env.scope)(hi:SI X cl tgE iter it)(B:iA X cl scope tgE tg elt e' (tT X.K cl c') [c])(hs:∀ x,foldedSetIterable iter X.env x=pure x)
 (hsw:swapsWith (.ListComp elt [⟨tgE,iter,[c],0⟩] scope pos) (some (.Name y py)) spos.line X.env=pure true):SA X cl (.Assign [.Name y py] (.ListComp elt [⟨tgE,iter,[c],0⟩] scope pos) spos) i (.comp e' tg it c'):=by
 intro pins s σ H D I h;obtain⟨cls,h1,h2⟩:=fu S I;exact pF hc hN hiy hy h2 h1 hi B.blk hs hsw pins s σ H D I (om h)
def wd(hN:X.N.Nodup)(hiy:X.N[i]?=some y)(hx:Loc X.env.scope y)(he:SE X cl e e')(hf:X.fn y=true\/X.env.scope.names.lookup y=some .local)(hs:swapsWith e (some (.Name y py)) spos.line X.env=pure false)(hf2:True):SA X cl (.Assign [.Name y py] e spos) i e':=by
 exact nB hN hiy hx he hs hf
end comp
abbrev bz(M:List Nat)(σ:L2.St):Addr->Prop:=fun a=>∃ i,M.contains i=true/\σ[i]?=some (some (.ref a))
abbrev Own(K:PySem.W.Frag)(H:Hp)(d:RL.D)(v:V):Prop:=jH d=true/\RL.aX d=true/\Rep nP K H d v
structure RVm(K:PySem.W.Frag)(M:List Nat)(σD:RL.St)(σ:L2.St)(H:Hp):Prop where
 len:σD.length=σ.length
 val:∀ (i:Nat) (d:RL.D),σD[i]?=some (some d)->∃ v,σ[i]?=some (some v)/\(if M.contains i=true then Own K H d v else Rep (bz M σ) K H d v)
 non:∀ (i:Nat) (v:V),σ[i]?=some (some v)->∃ d,σD[i]?=some (some d)
 sep:∀ (i j:Nat) (a:Addr),M.contains i=true->M.contains j=true->σ[i]?=some (some (.ref a))->σ[j]?=some (some (.ref a))->i=j
abbrev Fr'(M:List Nat)(σ:L2.St)(H:Hp)(σ':L2.St)(H':Hp):Prop:=(∀ b o,H b=some o->¬ bz M σ b->H' b=some o/\¬ bz M σ' b)/\∀ j,2<=M.count j->σ'[j]?=σ[j]?
def Fr'.trans(a:Fr' M σ H σ1 H1)(b:Fr' M σ1 H1 σ2 H2):Fr' M σ H σ2 H2:=⟨fun c o e n=>b.1 c o (a.1 c o e n).1 (a.1 c o e n).2,fun j hj=>(b.2 j hj).trans (a.2 j hj)⟩
def Fr'.same(s:aD H H1):Fr' M σ H σ H1:=⟨fun c o e n=>⟨s _ _ e,n⟩,fun _ _=>rfl⟩
def gP{M:List Nat}(h:2<=M.count j):M.contains j=true:=by
 have:0<M.count j:=by lia
 simpa using List.count_pos_iff.mp this
section st
variable{K:PySem.W.Frag}
def Own.ref(h:Own K H d v):∃ a o,v=.ref a/\H a=some o/\cQ o:=by
 obtain⟨m,_,r⟩:=h
 cases d with
 | lst ds=>obtain⟨a,xs,e1,_,e2,_⟩:=aP r;exact⟨a,_,e1,e2,.inl ⟨_,rfl⟩⟩
 | dK ks ds=>rw[Rep]at r;obtain⟨a,xs,e1,_,e2,_⟩:=r;exact⟨a,_,e1,e2,.inr (.inl ⟨_,rfl⟩)⟩
 | dT ks ds=>rw[Rep]at r;obtain⟨a,xs,e1,_,e2,_⟩:=r;exact⟨a,_,e1,e2,.inr (.inr ⟨_,rfl⟩)⟩
 | _=>cases m
def RVm.rv0(h:RVm K M σD σ H):RV0 K σD σ H:=⟨Nat.le_of_eq h.len,fun i d e=>by
 obtain⟨v,h1,h2⟩:=h.val i d e;refine⟨v,h1,?_⟩;by_cases hm:M.contains i=true
 ·rw[if_pos hm]at h2;exact h2.2.2
 ·rw[if_neg hm]at h2
  exact h2.none⟩
def RVm.uV(h:RVm K M σD σ H):∀ a,bz M σ a->∃ o,H a=some o/\cQ o:=fun a ⟨i,hi,e⟩=>by
 obtain⟨d,hd⟩:=h.non i _ e;obtain⟨v,h1,h2⟩:=h.val i d hd;rw[if_pos hi]at h2;obtain⟨b,o,e1,e2,e3⟩:=h2.ref;rw[e]at h1;cases h1;cases e1;exact⟨o,e2,e3⟩
def RVm.qY(h:RVm K M σD σ H):∀ a,bz M σ a->H a≠none:=fun a p=>by
 obtain⟨o,e,_⟩:=h.uV a p;rw[e]
 exact fun z=>nomatch z
def Own.same(h:Own K H d v)(s:aD H H1):Own K H1 d v:=⟨h.1,h.2.1,h.2.2.same s⟩
def RVm.same(h:RVm K M σD σ H)(s:aD H H1):RVm K M σD σ H1:=⟨h.len,fun i d e=>by
 obtain⟨v,h1,h2⟩:=h.val i d e;refine⟨v,h1,?_⟩;by_cases hm:M.contains i=true
 ·rw[if_pos hm]at h2 ⊢;exact h2.same s
 ·rw[if_neg hm]at h2 ⊢
  exact h2.same s,h.non,h.sep⟩
def bz.set(hi:M.contains i=false):bz M (σ.set i (some v))=bz M σ:=by
 funext a;apply propext;constructor
 ·rintro⟨j,hj,e⟩
  have hne:i≠j:=fun z=>by subst z;rw[hi]at hj;cases hj
  rw[List.getElem?_set_ne hne]at e;exact⟨j,hj,e⟩
 ·rintro⟨j,hj,e⟩
  have hne:i≠j:=fun z=>by subst z;rw[hi]at hj;cases hj
  exact⟨j,hj,by rw[List.getElem?_set_ne hne];exact e⟩
def RVm.bind(h:RVm K M σD σ H)(hi:M.contains i=false)(r:Rep (bz M σ) K H d v):RVm K M (σD.set i (some d)) (σ.set i (some v)) H where
 len:=by simpa using h.len
 val:=fun j dj e=>by
  rw[bz.set hi];by_cases hj:j=i
  ·subst hj
   have hlt:j<σD.length:=by
    have:=(List.getElem?_eq_some_iff.mp e).1;simpa using this
   rw[List.getElem?_set_self hlt]at e;cases e;refine⟨v,by rw[List.getElem?_set_self (by rw[<-h.len];exact hlt)],?_⟩;rw[if_neg (by rw[hi];decide)];exact r
  ·rw[List.getElem?_set_ne (Ne.symm hj)]at e ⊢;exact h.val j dj e
 non:=fun j w e=>by
  by_cases hj:j=i
  ·subst hj
   have hlt:j<σ.length:=by
    have:=(List.getElem?_eq_some_iff.mp e).1;simpa using this
   exact⟨d,by rw[List.getElem?_set_self (by rw[h.len];exact hlt)]⟩
  ·rw[List.getElem?_set_ne (Ne.symm hj)]at e ⊢;exact h.non j w e
 sep:=fun j k a hj hk e1 e2=>by
  have n1:i≠j:=fun z=>by subst z;rw[hi]at hj;cases hj
  have n2:i≠k:=fun z=>by subst z;rw[hi]at hk;cases hk
  rw[List.getElem?_set_ne n1]at e1;rw[List.getElem?_set_ne n2]at e2;exact h.sep j k a hj hk e1 e2
def Fr'.bind{i:Nat}(hi:M.contains i=false)(s:aD H H1):Fr' M σ H (σ.set i (some v)) H1:=⟨fun b o e n=>⟨s _ _ e,by rw[bz.set hi];exact n⟩,fun j hj=>List.getElem?_set_ne (fun z=>by subst z;rw[gP hj]at hi;cases hi)⟩
end st
mutual
theorem Rep.dh{P:Addr->Prop}{K:PySem.W.Frag}{H:Hp}{a:Addr}(ha:H a=none):∀ {d:RL.D} {v:V},Rep P K H d v->Rep (fun p=>P p\/p=a) K H d v
 | .non,v,h=>by simpa[Rep]using h
 | .bl _,v,h=>by simpa[Rep]using h
 | .int _,v,h=>by simpa[Rep]using h
 | .str _,v,h=>by simpa[Rep]using h
 | .tup ds,v,h=>by
  rw[Rep]at h ⊢;obtain⟨b,xs,e1,e2,e3⟩:=h;exact⟨b,xs,e1,e2,ai.dh ha e3⟩
 | .lst ds,v,h=>by
  rw[Rep]at h ⊢;obtain⟨b,xs,e1,e0,e2,e3⟩:=h;exact⟨b,xs,e1,fun z=>z.elim e0 (fun q=>aJ e2 ha q),e2,ai.dh ha e3⟩
 | .dK ks ds,v,h=>by
  rw[Rep]at h ⊢;obtain⟨b,xs,e1,e0,e2,el,e3⟩:=h;exact⟨b,xs,e1,fun z=>z.elim e0 (fun q=>aJ e2 ha q),e2,el,ai.dh ha e3⟩
 | .dT ks ds,v,h=>by
  rw[Rep]at h ⊢;obtain⟨b,xs,e1,e0,e2,el,e3⟩:=h;exact⟨b,xs,e1,fun z=>z.elim e0 (fun q=>aJ e2 ha q),e2,el,ai.dh ha e3⟩
 | .scr ds,v,h=>by
  rw[Rep]at h ⊢;obtain⟨b,xs,e1,e2,e3⟩:=h;exact⟨b,xs,e1,e2,ai.dh ha e3⟩
 | .exc c,v,h=>by rw[Rep]at h ⊢;exact h
 | .fT ks ds,v,h=>by rw[Rep]at h ⊢;obtain⟨b,o,xs,e1,e2,el,e3⟩:=h;exact⟨b,o,xs,e1,e2,el,ai.dh ha e3⟩
 | .fL ds,v,h=>by rw[Rep]at h ⊢;obtain⟨b,o,xs,e1,e2,e3⟩:=h;exact⟨b,o,xs,e1,e2,ai.dh ha e3⟩
theorem ai.dh{P:Addr->Prop}{K:PySem.W.Frag}{H:Hp}{a:Addr}(ha:H a=none):∀ {ds:List RL.D} {xs:List V},ai P K H ds xs->ai (fun p=>P p\/p=a) K H ds xs
 | [],xs,h=>by rw[ai]at h ⊢;exact h
 | d::r,xs,h=>by
  rw[ai]at h ⊢;obtain⟨x,t,e1,e2,e3⟩:=h;exact⟨x,t,e1,Rep.dh ha e2,ai.dh ha e3⟩
end
section st
variable{K:PySem.W.Frag}
def RVm.own(h:RVm K M σD σ H)(s:aD H H1)(hi:M.contains i=true)(hi2:M.count i<2)(ha:H a=none)(r:Own K H1 d (.ref a)):RVm K M (σD.set i (some d)) (σ.set i (some (.ref a))) H1/\Fr' M σ H (σ.set i (some (.ref a))) H1:=by
 have sub:∀ b,bz M (σ.set i (some (.ref a))) b->bz M σ b\/b=a:=fun b ⟨j,hj,e⟩=>by
  by_cases hji:j=i
  ·subst hji
   have hlt:j<σ.length:=by
    have:=(List.getElem?_eq_some_iff.mp e).1;simpa using this
   rw[List.getElem?_set_self hlt]at e;cases e;exact .inr rfl
  ·rw[List.getElem?_set_ne (Ne.symm hji)]at e;exact .inl ⟨j,hj,e⟩
 have old:∀ b,bz M σ b->b≠a:=fun b p z=>h.qY b p (z▸ha);refine⟨⟨by simpa using h.len,fun j dj e=>?_,fun j w e=>?_,fun j k b hj hk e1 e2=>?_⟩,⟨fun b o e n=>⟨s _ _ e,fun z=>(sub b z).elim n fun q=>aJ e ha q⟩,fun j hj=>List.getElem?_set_ne (fun z=>by subst z;lia)⟩⟩
 ·by_cases hj:j=i
  ·subst hj
   have hlt:j<σD.length:=by
    have:=(List.getElem?_eq_some_iff.mp e).1;simpa using this
   rw[List.getElem?_set_self hlt]at e;cases e;refine⟨.ref a,by rw[List.getElem?_set_self (by rw[<-h.len];exact hlt)],?_⟩;rw[if_pos hi];exact r
  ·rw[List.getElem?_set_ne (Ne.symm hj)]at e ⊢;obtain⟨v,h1,h2⟩:=h.val j dj e;refine⟨v,h1,?_⟩;by_cases hm:M.contains j=true
   ·rw[if_pos hm]at h2 ⊢;exact h2.same s
   ·rw[if_neg hm]at h2 ⊢;exact((h2.dh ha).weak sub).same s
 ·by_cases hj:j=i
  ·subst hj
   have hlt:j<σ.length:=by
    have:=(List.getElem?_eq_some_iff.mp e).1;simpa using this
   exact⟨d,by rw[List.getElem?_set_self (by rw[h.len];exact hlt)]⟩
  ·rw[List.getElem?_set_ne (Ne.symm hj)]at e ⊢;exact h.non j w e
 ·by_cases h1:j=i
  ·by_cases h2:k=i
   ·rw[h1,h2]
   ·subst h1
    have hlt:j<σ.length:=by
     have:=(List.getElem?_eq_some_iff.mp e1).1;simpa using this
    rw[List.getElem?_set_self hlt]at e1;rw[List.getElem?_set_ne (Ne.symm h2)]at e2;cases e1;exact absurd rfl (old _ ⟨k,hk,e2⟩)
  ·rw[List.getElem?_set_ne (Ne.symm h1)]at e1;by_cases h2:k=i
   ·subst h2
    have hlt:k<σ.length:=by
     have:=(List.getElem?_eq_some_iff.mp e2).1;simpa using this
    rw[List.getElem?_set_self hlt]at e2;cases e2;exact absurd rfl (old _ ⟨j,hj,e1⟩)
   ·rw[List.getElem?_set_ne (Ne.symm h2)]at e2;exact h.sep j k b hj hk e1 e2
def RVm.zv(h:RVm K M σD σ H)(hi:M.contains i=true)(e:σ[i]?=some (some (.ref a)))(ha:H a=some o)(m:cQ o)(r:Own K (upd H a o') d' (.ref a)):RVm K M (σD.set i (some d')) σ (upd H a o')/\Fr' M σ H σ (upd H a o'):=by
 have pa:bz M σ a:=⟨i,hi,e⟩
 refine⟨⟨by simpa using h.len,fun j dj e'=>?_,fun j w e'=>?_,h.sep⟩,⟨fun b u eb n=>⟨?_,n⟩,fun _ _=>rfl⟩⟩
 ·by_cases hj:j=i
  ·subst hj
   have hlt:j<σD.length:=by
    have:=(List.getElem?_eq_some_iff.mp e').1;simpa using this
   rw[List.getElem?_set_self hlt]at e';cases e';refine⟨.ref a,e,?_⟩;rw[if_pos hi];exact r
  ·rw[List.getElem?_set_ne (Ne.symm hj)]at e';obtain⟨v,h1,h2⟩:=h.val j dj e';refine⟨v,h1,?_⟩;by_cases hm:M.contains j=true
   ·rw[if_pos hm]at h2 ⊢;obtain⟨b,ob,rfl,hb,_⟩:=h2.ref
    have hne:b≠a:=fun z=>by subst z;exact hj (h.sep j i b hm hi h1 e)
    obtain⟨q1,q2,q3⟩:=h2;refine⟨q1,q2,?_⟩;have im:∀ {ds:List RL.D} {xs:List V},RL.aB ds=true->ai nP K H ds xs->ai nP K (L2.upd H a o') ds xs:=fun hi r=>(ai.upd (P:=fun p=>p=a) ha m rfl (r.imm hi)).imm hi
    cases dj with
    | lst ds=>obtain⟨b',xs,e1,e0,e2,e3⟩:=aP q3;cases e1;rw[Rep];exact⟨b,xs,rfl,fun z=>z,by rw[L2.aE hne];exact e2,im q2 e3⟩
    | dK ks ds=>rw[Rep]at q3 ⊢;obtain⟨b',xs,e1,e0,e2,el,e3⟩:=q3;cases e1;exact⟨b,xs,rfl,fun z=>z,by rw[L2.aE hne];exact e2,el,im q2 e3⟩
    | dT ks ds=>rw[Rep]at q3 ⊢;obtain⟨b',xs,e1,e0,e2,el,e3⟩:=q3;cases e1;exact⟨b,xs,rfl,fun z=>z,by rw[L2.aE hne];exact e2,el,im q2 e3⟩
    | _=>cases q1
   ·rw[if_neg hm]at h2 ⊢;exact Rep.upd ha m pa h2
 ·obtain⟨dj,hd⟩:=h.non j w e';by_cases hj:j=i
  ·subst hj;have hlt:=(List.getElem?_eq_some_iff.mp hd).1;exact⟨d',by rw[List.getElem?_set_self hlt]⟩
  ·exact⟨dj,by rw[List.getElem?_set_ne (Ne.symm hj)];exact hd⟩
 ·have hb:b≠a:=fun z=>n (z▸pa);rw[L2.aE hb];exact eb
end st
abbrev nt(K:PySem.W.Frag)(M:List Nat)(D:Ends)(σ:L2.St)(H:Hp):RL.Out->RL.St->Prop
 | .nx,σD'=>∀ σ' H',RVm K M σD' σ' H'->Fr' M σ H σ' H'->D.nx σ' H'
 | .rt d,σD'=>∀ σ1 H1 v H',RVm K M σD' σ1 H1->Fr' M σ H σ1 H1->aD H1 H'->(∀ P:Addr->Prop,(∀ p,P p->H1 p≠none/\¬ bz M σ1 p)->Rep P K H' d v)->D.rt v H'
def nt.from{K:PySem.W.Frag}(h:nt K M D σ H r σD')(f:Fr' M σ H σ1 H1):nt K M D σ1 H1 r σD':=by
 cases r with
 | nx=>exact fun σ2 H2 rv2 fr2=>h σ2 H2 rv2 (f.trans fr2)
 | rt d=>exact fun σ1 H1 v H2 rv2 fr2 sm rp=>h σ1 H1 v H2 rv2 (f.trans fr2) sm rp
abbrev tS(K:PySem.W.Frag)(M:List Nat)(f:RL.St->Option (RL.Out × RL.St)):TS:=fun D σ H=>∃ σD r σD',RVm K M σD σ H/\f σD=some (r,σD')/\nt K M D σ H r σD'
abbrev SS(X:Cx)(cl:RL.Cl)(M:List Nat)(st:Stmt)(s:RL.S):Prop:=PS X st (tS X.K M (RL.evS cl M s))
abbrev SSs(X:Cx)(cl:RL.Cl)(M:List Nat)(st:List Stmt)(s:RL.Ss):Prop:=PSs X st (tS X.K M (RL.aw cl M s))
section rules
variable{st:Stmt}{i j:Nat}
def yy:SSs X cl M [] .nil:=by
 refine PSs.weak pA fun D σ H h=>?_;obtain⟨σD,r,σD',rv,e,k⟩:=h;rw[RL.aw]at e;cases e;exact k σ H rv (Fr'.same (aD.refl H))
def wo(h1:SS X cl M st s)(h2:SSs X cl M sts r):SSs X cl M (st::sts) (.cons s r):=by
 refine PSs.weak (eF h1 h2) fun D σ H h=>?_;obtain⟨σD,o,σD',rv,e,k⟩:=h;rw[RL.aw]at e;obtain⟨p,e1,e2⟩:=bind_some e;obtain⟨o1,σ1⟩:=p;refine⟨σD,o1,σ1,rv,e1,?_⟩
 cases o1 with
 |rt d=>
  cases e2;exact k
 |nx=>
  exact fun σ' H' rv' fr'=>⟨σ1,o,σD',rv',e2,k.from fr'⟩
def zO(h:SA X cl st i e')(hi:M.contains i=false):SS X cl M st (.asg i e'):=by
 refine PS.weak h fun D σ H h=>?_;obtain⟨σD,o,σD',rv,e,k⟩:=h;obtain⟨d,e1,e2⟩:=bind_some e;split at e2
 ·rename_i ok;cases e2;refine⟨σD,d,rv.rv0,e1,fun v H1 r1=>k _ _ ?_ (Fr'.bind hi r1.same)⟩;refine(rv.same r1.same).bind hi ?_;unfold RL.bF at ok;rw[Bool.or_eq_true,Bool.or_eq_true,Bool.and_eq_true]at ok;rcases ok with(q | ⟨q1,q2⟩) | q
  ·exact r1.rep.imm q
  ·have rp:=r1.rep;have fr:jH d=true->∀ a,v=.ref a->¬ bz M σ a:=fun m a z p=>rv.qY a p (r1.fresh q2 m a z)
   cases d with
   | lst ds=>obtain⟨a,xs,e1,e0,e2,e3⟩:=aP rp;rw[Rep];exact⟨a,xs,e1,fr rfl a e1,e2,e3.imm q1⟩
   | dK ks ds=>rw[Rep]at rp ⊢;obtain⟨a,xs,e1,e0,e2,el,e3⟩:=rp;exact⟨a,xs,e1,fr rfl a e1,e2,el,e3.imm q1⟩
   | dT ks ds=>rw[Rep]at rp ⊢;obtain⟨a,xs,e1,e0,e2,el,e3⟩:=rp;exact⟨a,xs,e1,fr rfl a e1,e2,el,e3.imm q1⟩
   | _=>cases q1
  ·refine r1.av M q _ rv.qY fun j dj vj hj h1 h2=>?_;obtain⟨v',h3,h4⟩:=rv.val j dj h1;rw[h2]at h3;cases h3;rw[if_neg (by rw[hj];decide)]at h4;exact h4
 ·cases e2
def Bt(h:SA X cl st i e')(hi:M.contains i=true)(hi2:M.count i<2):SS X cl M st (.own i e'):=by
 refine PS.weak h fun D σ H h=>?_;obtain⟨σD,o,σD',rv,e,k⟩:=h;obtain⟨d,e1,e2⟩:=bind_some e;split at e2
 ·rename_i ok;cases e2;rw[Bool.and_eq_true]at ok;refine⟨σD,d,rv.rv0,e1,fun v H1 r1=>?_⟩
  have m:jH d=true:=by
   cases d with
   | lst _=>rfl
   | dK _ _=>rfl
   | dT _ _=>rfl
   | _=>cases ok.1
  have ow:Own X.K H1 d v:=⟨m,ok.1,r1.rep⟩
  obtain⟨a,ob,rfl,_,_⟩:=ow.ref;obtain⟨h1,h2⟩:=rv.own r1.same hi hi2 (r1.fresh ok.2 m a rfl) ow;exact k _ _ h1 h2
 ·cases e2
def BV{c:Expr}(hc:ST X cl c c')(ha:SSs X cl M a a')(hb:SSs X cl M b b'):SS X cl M (.If c a b pos) (.ife c' a' b'):=by
 refine PS.weak (xb hc ha hb) fun D σ H h=>?_;obtain⟨σD,o,σD',rv,e,k⟩:=h;obtain⟨t,e1,e2⟩:=bind_some e;refine⟨σD,t,rv.rv0,e1,fun H1 s1=>?_⟩;have k1:=k.from (Fr'.same (σ:=σ) s1)
 cases t with
 | true=>exact eZ ⟨σD,o,σD',rv.same s1,e2,k1⟩
 | false=>exact fU ⟨σD,o,σD',rv.same s1,e2,k1⟩
def zi(he:SE X cl e e')(hv:∀ i,e'=.var i->M.contains i=false):SS X cl M (.Return (some e) pos) (.ret e'):=by
 refine PS.weak (jR he) fun D σ H h=>?_;obtain⟨σD,o,σD',rv,ev,k⟩:=h;obtain⟨d,e1,e2⟩:=bind_some ev;split at e2
 ·rename_i ok;cases e2;refine⟨σD,d,rv.rv0,e1,fun v H1 r1=>k σ H v H1 rv (Fr'.same (aD.refl H)) r1.same fun P hP=>?_⟩;unfold RL.cq at ok;rw[Bool.or_eq_true,Bool.and_eq_true,Bool.or_eq_true]at ok
  rcases ok with q | ⟨q1,q2⟩
  ·exact r1.rep.imm q
  ·have rp:=r1.rep
   have fr:jH d=true->∀ a,v=.ref a->¬ P a:=fun m a z p=>by
    rcases q2 with q | q
    ·exact(hP a p).1 (r1.fresh q m a z)
    ·cases e' with
     |var i=>
      have hi:M.contains i=true:=q;rw[hv i rfl]at hi;cases hi
     | _=>cases q
   cases d with
   | lst ds=>obtain⟨a,xs,e1,e0,e2,e3⟩:=aP rp;rw[Rep];exact⟨a,xs,e1,fr rfl a e1,e2,e3.imm q1⟩
   | dK ks ds=>rw[Rep]at rp ⊢;obtain⟨a,xs,e1,e0,e2,el,e3⟩:=rp;exact⟨a,xs,e1,fr rfl a e1,e2,el,e3.imm q1⟩
   | dT ks ds=>rw[Rep]at rp ⊢;obtain⟨a,xs,e1,e0,e2,el,e3⟩:=rp;exact⟨a,xs,e1,fr rfl a e1,e2,el,e3.imm q1⟩
   | _=>cases q1
 ·cases e2
def xv(hN:X.N[i]?=some x)(hv:Vis X.env.scope x)(hd:(x == ("__debug__" : Str))=false)(hcd:(x == ("__classdict__" : Str))=false)(hi:M.contains i=true):SS X cl M (.Return (some (.Name x p)) pos) (.ret (.var i)):=by
 refine PS.weak (jR (gO hN hv hd hcd)) fun D σ H h=>?_;obtain⟨σD,o,σD',rv,e,k⟩:=h;obtain⟨d,e1,e2⟩:=bind_some e;split at e2
 ·cases e2
  have e3:σD[i]?=some (some d):=by
   obtain⟨o,h1,h2⟩:=bind_some e1
   cases o with
   | none=>cases h2
   | some z=>cases h2;exact h1
  obtain⟨v,h1,h2⟩:=rv.val i d e3;rw[if_pos hi]at h2;refine⟨v,h1,k σ H v H rv (Fr'.same (aD.refl H)) (aD.refl H) fun P hP=>?_⟩;obtain⟨a,o,rfl,_,_⟩:=h2.ref;have np:¬ P a:=fun p=>(hP a p).2 ⟨i,hi,h1⟩;obtain⟨q1,q2,q3⟩:=h2
  cases d with
  | lst ds=>obtain⟨b,xs,e1,e0,e2,e3⟩:=aP q3;cases e1;rw[Rep];exact⟨a,xs,rfl,np,e2,e3.imm q2⟩
  | dK ks ds=>rw[Rep]at q3 ⊢;obtain⟨b,xs,e1,e0,e2,el,e3⟩:=q3;cases e1;exact⟨a,xs,rfl,np,e2,el,e3.imm q2⟩
  | dT ks ds=>rw[Rep]at q3 ⊢;obtain⟨b,xs,e1,e0,e2,el,e3⟩:=q3;cases e1;exact⟨a,xs,rfl,np,e2,el,e3.imm q2⟩
  | _=>cases q1
 ·cases e2
def slot_get{σD:RL.St}(h:(σD[i]?).bind id=some d):σD[i]?=some (some d):=by
 obtain⟨o,h1,h2⟩:=bind_some h
 cases o with
 | none=>cases h2
 | some z=>cases h2;exact h1
def AY(h:PS X st (ql (tBM X.K "list" pd (qW i) (tEs X.K cl (.cons e' .nil)))))(hi:M.contains i=true):SS X cl M st (.app i e'):=by
 refine PS.weak h fun D σ H h=>?_;obtain⟨σD,o,σD',rv,e,k⟩:=h;obtain⟨d,e1,e2⟩:=bind_some e;obtain⟨l,e3,e4⟩:=bind_some e2
 cases l with
 |lst ds=>
  dsimp only at e4;split at e4
  ·rename_i ok;cases e4;rw[Bool.and_eq_true,decide_eq_true_eq]at ok;obtain⟨v,h1,h2⟩:=rv.val i _ (slot_get e3);rw[if_pos hi]at h2;obtain⟨q1,q2,q3⟩:=h2;obtain⟨a,xs,rfl,_,f2,f3⟩:=aP q3;refine⟨.ref a,h1,.inl ⟨rfl,xs,SqL.of f2⟩,σD,[d],rv.rv0,by rw[RL.evs,e1];rfl,fun vs H1 s1 r1=>?_⟩;rw[ai]at r1;obtain⟨y,t,rfl,r2,r3⟩:=r1;rw[ai]at r3;subst r3
   have hl:xs.length<sizeLine:=by rw[<-f3.length];exact Nat.lt_of_lt_of_le ok.2 cb
   refine⟨a,xs,y,rfl,rfl,s1 _ _ f2,hl,?_⟩
   have im:RL.aB (ds++[d])=true:=by
    have:∀ l:List RL.D,RL.aB l=true->RL.aB (l++[d])=true:=fun l=>by
     induction l with
     | nil=>intro _;simp[RL.aB,ok.1]
     | cons z r ih=>intro h;rw[RL.aB,Bool.and_eq_true]at h;rw[List.cons_append,RL.aB,h.1,ih h.2];rfl
    exact this ds q2
   have rs:ai nP X.K (upd H1 a (.lst (xs++[y]))) (ds++[d]) (xs++[y]):=(ai.upd (P:=fun p=>p=a) (s1 _ _ f2) (.inl ⟨_,rfl⟩) rfl ((ai.append (f3.same s1) (ai.cons r2 ai.nil)).imm im)).imm im;obtain⟨g1,g2⟩:=(rv.same s1).zv (d':=.lst (ds++[d])) (o':=.lst (xs++[y])) hi h1 (s1 _ _ f2) (.inl ⟨_,rfl⟩) ⟨rfl,im,by rw[Rep];exact⟨a,_,rfl,fun z=>z,aI,rs⟩⟩;exact k _ _ g1 ((Fr'.same s1).trans g2)
  ·cases e4
 | _=>cases e4
end rules
def RVm.ck{K:PySem.W.Frag}{M:List Nat}{H:Hp}:∀ {tg:List Nat} {ds:List RL.D} {vs:List V} {σD:RL.St} {σ:L2.St},RVm K M σD σ H->(∀ i∈tg,M.contains i=false)->tg.length=ds.length->RL.aB ds=true->ai nP K H ds vs ->
  RVm K M (j5 tg ds σD) (cN tg vs σ) H/\bz M (cN tg vs σ)=bz M σ
 | [],_,_,_,_,h,_,_,_,_=>⟨h,rfl⟩
 | i::is,[],_,_,_,_,_,hl,_,_=>by simp at hl
 | i::is,d::ds,vs,σD,σ,h,hM,hl,him,r=>by
  rw[ai]at r;obtain⟨v,t,rfl,r1,r2⟩:=r;rw[RL.aB,Bool.and_eq_true]at him;rw[j5,cN];have hi:=hM i List.mem_cons_self;obtain⟨g1,g2⟩:=RVm.ck (h.bind hi (r1.imm him.1)) (fun j hj=>hM j (List.mem_cons_of_mem _ hj)) (by simpa using hl) him.2 r2;exact⟨g1,g2.trans (bz.set hi)⟩
def jE{M tg:List Nat}{vs:List V}{σ:L2.St}{j:Nat}(hM:∀ i∈tg,M.contains i=false)(hj:2<=M.count j):(cN tg vs σ)[j]?=σ[j]?:=by
 refine k7 tg vs σ j ?_
 cases hc:tg.contains j with
 | false=>rfl
 |true=>
  have:=hM j (by simpa using hc);rw[gP hj]at this;cases this
section rules
variable{X:Cx}{cl:RL.Cl}{M:List Nat}{st:Stmt}{tgE iter:Expr}{body:List Stmt}{b:RL.Ss}{it:RL.It}{tg:List Nat}{e' k' a' b':RL.E}{i j:Nat}{pos:Pos}
def qq{f:RL.St->Option (RL.Out × RL.St)}{d:RL.D}{ds:List RL.D}{σ:RL.St}{p:RL.Out × RL.St}(h:RL.br f tg (d::ds) σ=some p):d.imm=true/\∃ σ1 o σ2,RL.bN tg d σ=some σ1/\f σ1=some (o,σ2) /\
  (match o with | .nx=>RL.br f tg ds σ2=some p | .rt d=>p=(.rt d,σ2)):=by
 rw[RL.br]at h;split at h
 ·rename_i him;obtain⟨σ1,h1,h⟩:=bind_some h;obtain⟨⟨o,σ2⟩,h2,h⟩:=bind_some h;refine⟨him,σ1,o,σ2,h1,h2,?_⟩
  cases o with
  | nx=>exact h
  | rt d=>exact(Option.some.inj h).symm
 ·cases h
def zQ(hx:X.xe=fun _ _=>False)(hc:X.calm=true)(hi:SI X cl tgE iter it)(hg:PG X tgE (gT X.K tg))(hb:SSs X cl M body b)(hs:∀ x,foldedSetIterable iter X.env x=pure x)(hav:RL.oy M it=true)(hM:∀ i∈tg,M.contains i=false) :
  SS X cl M (.For tgE iter body [] pos) (.forr tg it b):=by
 refine PS.weak (sE (by rw[hx];exact PassesOwn.never) hc hi hg hb hs) fun D σ H h=>?_;obtain⟨σD,r,σD',rv,e,k⟩:=h;obtain⟨ds,e1,e2⟩:=bind_some e;refine⟨σD,ds,rv.rv0,e1,fun J H1 s1 src=>?_⟩
 have ok:fY X.K J ds (bz M σ) H1:=src.2 M (bz M σ) hav rv.uV fun j dj vj hj h1 h2=>by
  obtain⟨v',h3,h4⟩:=rv.val j dj h1;rw[h2]at h3;cases h3;rw[if_neg (by rw[hj];decide)]at h4;exact h4
 have k1:=k.from (Fr'.same (σ:=σ) s1);refine⟨fun i m σ2 H2=>∃ σD2,m=ds.length-i/\i<=ds.length/\RVm X.K M σD2 σ2 H2/\Fr' M σ H1 σ2 H2/\RL.br (RL.aw cl M b) tg (ds.drop i) σD2=some (r,σD'),⟨_,σD,rfl,Nat.zero_le _,rv.same s1,Fr'.same (aD.refl _),e2⟩,?_⟩;rintro i m σ2 H2 ⟨σD2,rfl,hi2,rv2,fr2,hl⟩;have off:Off (bz M σ) H1 H2:=fun b o n e=>(fr2.1 b o e n).1;by_cases hlt:i<ds.length
 ·refine .inr ⟨ok.go H2 i off hlt,fun σ' H'=>∃ m',m'<ds.length-i/\∃ σD2,m'=ds.length-(i+1)/\i+1<=ds.length/\RVm X.K M σD2 σ' H'/\Fr' M σ H1 σ' H'/\RL.br (RL.aw cl M b) tg (ds.drop (i+1)) σD2=some (r,σD'),fun σ' H' z=>z,fun x H3 y=>?_⟩;rw[List.drop_eq_getElem_cons hlt]at hl;obtain⟨him,σ3,o,σ4,h1,h2,h3⟩:=qq hl;obtain⟨s3,rp⟩:=ok.yld H2 i ds[i] x H3 off (by simp[hlt]) y;obtain⟨dv,vs,q1,q2,q3,q4,q5⟩:=qg h1 (rp (.inl him));refine q5 _ _ ?_;obtain⟨rv3,as3⟩:=(rv2.same s3).ck hM q2 (q4 him) q3
  have fr3:Fr' M σ H1 (cN tg vs σ2) H3:=⟨fun b o e n=>⟨s3 _ _ (fr2.1 b o e n).1,by rw[as3];exact(fr2.1 b o e n).2⟩,fun j hj=>(jE hM hj).trans (fr2.2 j hj)⟩
  refine⟨σ3,o,σ4,by rw[q1];exact rv3,h2,?_⟩
  cases o with
  | nx=>exact fun σ' H' rv' fr'=>⟨_,by lia,σ4,rfl,hlt,rv',fr3.trans fr',h3⟩
  |rt d=>
   cases h3;exact fun σ' H' v H4 rv' fr' sm rp=>k1 σ' H' v H4 rv' (fr3.trans fr') sm rp
 ·have e:i=ds.length:=by lia
  subst e;rw[List.drop_length,RL.br]at hl;cases hl;exact .inl ⟨ok.stop H2 off,k1 σ2 H2 rv2 fr2⟩
def Bx(h:PS X st (vV i j (tEs X.K cl (.cons a' (.cons b' .nil)))))(hi:M.contains i=false)(hj:M.contains j=false):SS X cl M st (.par i j a' b'):=by
 refine PS.weak h fun D σ H h=>?_;obtain⟨σD,o,σD',rv,e,k⟩:=h;obtain⟨x,e1,e⟩:=bind_some e;obtain⟨y,e2,e⟩:=bind_some e;split at e
 ·rename_i him;cases e;rw[Bool.and_eq_true]at him;refine⟨σD,[x,y],rv.rv0,by rw[RL.evs,e1,RL.evs,e2];rfl,fun vs H1 s1 r1=>?_⟩;rw[ai]at r1;obtain⟨v,t,rfl,r2,r3⟩:=r1;rw[ai]at r3;obtain⟨u,t,rfl,r4,r5⟩:=r3;rw[ai]at r5;subst r5;refine⟨v,u,rfl,k _ _ ?_ ?_⟩
  ·refine((rv.same s1).bind hi (r2.imm him.1)).bind hj (r4.imm him.2)
  ·exact(Fr'.bind hi s1).trans (Fr'.bind hj (aD.refl _))
 ·cases e
def BI(h:PS X st (ql (tE X.K cl e'))):SS X cl M st (.exc e'):=by
 refine PS.weak h fun D σ H h=>?_;obtain⟨σD,o,σD',rv,e,k⟩:=h;obtain⟨d,e1,e2⟩:=map_some e;cases e2;exact⟨σD,d,rv.rv0,e1,fun v H1 r1=>k _ _ (rv.same r1.same) (Fr'.same r1.same)⟩
end rules
section rules
variable{st:Stmt}
def y9(h:PS X st (r9 (tE X.K cl e') (fun v σ H Q=>kX X.K is.length (gs is) v σ H Q\/lg X.K is.length (gs is) v σ H Q)))(hM:∀ i∈is,M.contains i=false):SS X cl M st (.unp is e'):=by
 refine PS.weak h fun D σ H h=>?_;obtain⟨σD,o,σD',rv,e,k⟩:=h;obtain⟨d,e1,e⟩:=bind_some e;obtain⟨ds,e2,e⟩:=bind_some e;split at e
 ·rename_i him;obtain⟨σ1,e3,e4⟩:=map_some e;cases e4;obtain⟨q1,q2⟩:=gk e3;refine⟨σD,d,rv.rv0,e1,fun v H1 r1=>?_⟩;obtain⟨p,xs,rfl,hp,rs⟩:=eD e2 r1.rep;obtain⟨g1,g2⟩:=(rv.same r1.same).ck (vs:=xs) hM q1 him rs;have fin:D.nx (cN is xs σ) H1:=k _ _ (by rw[q2];exact g1) ⟨fun b o e n=>⟨r1.same _ _ e,by rw[g2];exact n⟩,fun j hj=>jE hM hj⟩
  have hl:xs.length=is.length:=by rw[<-rs.length,q1]
  rcases hp with⟨hp,_⟩ | ⟨hp,_⟩ | ⟨⟨o,hp⟩,_⟩
  ·exact .inr ⟨p,xs,rfl,SqL.of hp,hl,gq hl.symm fin⟩
  ·exact .inl ⟨p,xs,rfl,SqT.of hp,hl,gq hl.symm fin⟩
  ·exact .inr ⟨p,xs,rfl,.inl (.inr ⟨o,hp⟩),hl,gq hl.symm fin⟩
 ·cases e
def ij(xs:List α)(k:Int):(xs.drop (HT.sIx xs.length 0 none)).take (HT.sIx xs.length xs.length (some k)-HT.sIx xs.length 0 none)=xs.take (RL.cutAt xs.length k):=by
 rw[HT.m7,List.drop_zero,Nat.sub_zero];congr 1;have h:=HT.fC k xs.length xs.length;unfold RL.cutAt;split at h
 ·rename_i h0;rw[if_neg (by lia)];lia
 ·rename_i h0;rw[if_pos (by lia)];lia
def jB(xs:List α)(k:Int):(xs.drop (HT.sIx xs.length 0 (some k))).take (HT.sIx xs.length xs.length none-HT.sIx xs.length 0 (some k))=xs.drop (RL.cutAt xs.length k):=by
 have e:HT.sIx xs.length 0 (some k)=RL.cutAt xs.length k:=by
  have h:=HT.fC k xs.length 0;unfold RL.cutAt;split at h
  ·rename_i h0;rw[if_neg (by lia)];lia
  ·rename_i h0;rw[if_pos (by lia)];lia
 rw[e,HT.m7];exact List.take_of_length_le (by rw[List.length_drop];exact Nat.le_refl _)
end rules
section rules
variable{X:Cx}
def one(rv:RV0 X.K σD σ H)(ea:RL.ev cl σD a'=some d)(k:∀ v H1,aD H H1->Rep nP X.K H1 d v->R [v] H1):tEs X.K cl (.cons a' .nil) σ H R :=
 ⟨σD,[d],rv,by rw[RL.evs,ea];rfl,fun vs H1 s1 r1=>by
  rw[ai]at r1;obtain⟨v,t,rfl,r2,r3⟩:=r1;rw[ai]at r3;subst r3
  exact k v H1 s1 r2⟩
def pair(rv:RV0 X.K σD σ H)(ea:RL.ev cl σD a'=some d)(eb:RL.ev cl σD b'=some d')(k:∀ v u H1,aD H H1->Rep nP X.K H1 d v->Rep nP X.K H1 d' u->R [v,u] H1):tEs X.K cl (.cons a' (.cons b' .nil)) σ H R :=
 ⟨σD,[d,d'],rv,by rw[RL.evs,ea,RL.evs,eb];rfl,fun vs H1 s1 r1=>by
  rw[ai]at r1;obtain⟨v,t,rfl,r2,r3⟩:=r1;rw[ai]at r3;obtain⟨u,t,rfl,r4,r5⟩:=r3;rw[ai]at r5;subst r5
  exact k v u H1 s1 r2 r4⟩
def iK{id:String}{r:List V->Hp->VK->Prop}{b:RL.Bi}(hc:bC X (.builtin id) r)(hg:Gl X x)(hm:X.mg x=none)(hv:bootBuiltins x=some (.builtin id))(ha:SE X cl a a')(hn:noStar a=true)(h1:x ≠ "__name__")(h2:(x == ("__debug__" : Str))=false)
 (ok:∀ (σD:RL.St) (σ:L2.St) (H H1:Hp) (y d:RL.D) (v:V) (Q:VK),RL.biV b y=some d->aD H H1->Rep nP X.K H1 y v->(∀ w H',Res X.K σD σ H (.bi b a') d w H'->Q w H')->r [v] H1 Q):SE X cl (.Call (.Name x p) [a] [] pos) (.bi b a'):=by
 refine PE.weak (eA hc hg hm hv (bY (cl:=cl) ha dz hn) h1 h2 (aC [] hn) rfl) fun σ H Q h=>?_;obtain⟨σD,d,rv,e,k⟩:=h;obtain⟨y,ea,e⟩:=bind_some e;exact one rv ea fun v H1 s1 r1=>ok σD σ H H1 y d v Q e s1 r1 k
def lR{T:String}{r:List V->Hp->VK->Prop}{b:RL.Bi}(hc:bC X (.type T) r)(hg:Gl X x)(hm:X.mg x=none)(hv:bootBuiltins x=some (.type T))(ha:SE X cl a a')(hn:noStar a=true)(h1:x ≠ "__name__")(h2:(x == ("__debug__" : Str))=false)
 (ok:∀ (σD:RL.St) (σ:L2.St) (H H1:Hp) (y d:RL.D) (v:V) (Q:VK),RL.biV b y=some d->aD H H1->Rep nP X.K H1 y v->(∀ w H',Res X.K σD σ H (.bi b a') d w H'->Q w H')->r [v] H1 Q):SE X cl (.Call (.Name x p) [a] [] pos) (.bi b a'):=by
 refine PE.weak (dU hc hg hm hv (bY (cl:=cl) ha dz hn) h1 h2 (aC [] hn) rfl) fun σ H Q h=>?_;obtain⟨σD,d,rv,e,k⟩:=h;obtain⟨y,ea,e⟩:=bind_some e;exact one rv ea fun v H1 s1 r1=>ok σD σ H H1 y d v Q e s1 r1 k
def xE(hg:Gl X "list")(hm:X.mg "list" = none)(ha:SE X cl a a')(hn:noStar a=true):SE X cl (.Call (.Name "list" p) [a] [] pos) (.bi .list a'):=by
 refine lR mG hg hm (by decide +kernel) ha hn (by decide) (by decide) fun σD σ H H1 y d v Q e s1 r1 k=>?_;obtain⟨ds,e1,e2⟩:=map_some (show(RL.items y).map RL.D.lst=some d from e);subst e2;obtain⟨q,xs,rfl,hp,rs⟩:=eD e1 r1;refine⟨q,xs,rfl,?_,fun l hl=>k _ _ (cz s1 hl rs fun _=>rfl)⟩
 rcases hp with⟨z,_⟩ | ⟨z,_⟩ | ⟨⟨o,z⟩,_⟩
 ·exact .inl (SqL.of z)
 ·exact .inr (SqT.of z)
 ·exact .inl (.inl (.inr ⟨o,z⟩))
def Bk(hg:Gl X "int")(hm:X.mg "int" = none)(ha:SE X cl a a')(hn:noStar a=true):SE X cl (.Call (.Name "int" p) [a] [] pos) (.bi .int a'):=by
 refine lR sD hg hm (by decide +kernel) ha hn (by decide) (by decide) fun σD σ H H1 y d v Q e s1 r1 k=>?_
 cases y<;>first | (cases e;done) | skip
 case bl t=>cases e;exact .inr ⟨t,by rw[bf r1],k _ _ (bT s1 aV rfl)⟩
 case int t=>cases e;exact .inl ⟨t,by rw[ar r1],k _ _ (bT s1 aV rfl)⟩
def zj{prog:Program}{w:World}{d:Addr}(hd:(d == sysModules)=false) :
  MeetsIn prog w (Builtin.«dict.__len__» ⟨[.ref d],[]⟩) (fun _ R s=>∃ o es ep,s.heap.get? d=some o/\o.data=.dict es ep/\R (.ok (.ret (.int es.size s.toks))) { s with toks:=s.toks+1 }) :=
 .of_wp fun A R s ⟨o,es,ep,ho,hdat,h⟩=>by
  show wpAny _ _ (dictSize d >>= _) _ _ s;unfold dictSize;refine wpAny_bind (wpAny_bind (wpAny_dictEntries ho hdat (wpAny_pure ?_)));show wpAny _ _ (Builtin.Dict.pendingCount d >>= _) _ _ s;refine wpAny_bind (wpAny_pendingCount_other hd ?_);refine wpAny_ret_mkInt ?_;rw[Nat.add_zero];exact h
def qM{prog:Program}{w:World}{K:Type} [DecidableEq K]{knd:HeapKind prog w K}(hd:(d == sysModules)=false) :
  MeetsIn prog w (Builtin.«dict.__len__» ⟨[.ref d],[]⟩) (fun _ R s=>∃ xs,s.heap.DictOfH knd d xs/\R (.ok (.ret (.int xs.length s.toks))) { s with toks:=s.toks+1 }) :=
 .of_wp fun A R s ⟨xs,hm,h⟩=>by
  obtain⟨o,es,ep,ho,hc,hdat,hk,_,_⟩:=hm;show wpAny _ _ (dictSize d >>= _) _ _ s;unfold dictSize;refine wpAny_bind (wpAny_bind (wpAny_dictEntries ho hdat (wpAny_pure ?_)));show wpAny _ _ (Builtin.Dict.pendingCount d >>= _) _ _ s;refine wpAny_bind (wpAny_pendingCount_other hd ?_);refine wpAny_ret_mkInt ?_;rw[Nat.add_zero,size_of_entries hk];exact h
def kT{prog:Program}{w:World}{K:Type} [DecidableEq K]{knd:HeapKind prog w K}{A:Around}{E:Value->Shared->Prop}{s:Shared}{d:Addr}{xs:List (K × Addr × Value)}{Q:Value->Shared->Prop}(hd:(d == sysModules)=false)(hm:s.heap.DictOfH knd d xs)(hfit:(xs.length:Int)<2 ^ 63)
 (h:Q (.int xs.length (s.toks+1)) { s with toks:=s.toks+1+1 }):wpAny (model prog w) A (call (.builtin "len") [.ref d]) Q E s:=by
 refine Calls.call_function_entry kind_len plain_len entry_len (args_len1 _) ?_;unfold Builtin.«len»;refine wpAny_bind (m:=oneArg "len" _) (wpAny_pure ?_)
 refine wpAny_bind (m:=callSpecial? (.ref d) (Str.ofString "__len__")) (wpAny_callSpecial?_slot (name:=Str.ofString "__len__") hm.typeIs F.slot_dict_len
  (call_meetsIn F.slot_dict_len hm.typeIs F.entry_dict_len (F.args_dict_len_1 _) (qM hd) ⟨xs,hm,?_⟩))
 show wpAny _ _ _ _ _ { s with toks:=s.toks+1 };refine wpAny_bind (wpAny_holding (wpAny_pure ?_));refine wpAny_bind (wpAny_letGo ?_);show wpAny _ _ (if((xs.length:Nat):Int)<0 then _ else _) _ _ _;rw[if_neg (by omega)];show wpAny _ _ (if((xs.length:Nat):Int)≥2 ^ 63 then _ else _) _ _ _;rw[if_neg (by omega)];exact wpAny_bind (wpAny_mkInt (wpAny_pure ⟨_,rfl,h⟩))
def sq:bC X (.builtin "len") (fun xs H Q=>∃ a kvs,xs=[V.ref a]/\H a=some (.dT kvs)/\Q (.int kvs.length) H):=by
 intro pins s σ H xs us Q I r h;obtain⟨a,kvs,rfl,ha,q⟩:=h;obtain⟨u,rfl,ru⟩:=vals1 r;cases ru;obtain⟨z,hd,xs,rel,dd⟩:=Cm I.hok ha;have hl:kvs.length=xs.length:=Paired.length rel;refine kT hd dd (by rw[<-hl];rw[sizeLine_eq]at z;omega) ?_;rw[<-hl];exact⟨.int kvs.length,H,I.tok _,⟨_,rfl⟩,q⟩
def u6:bC X (.builtin "len") (fun xs H Q=>∃ a o kvs,xs=[V.ref a]/\H a=some (.frz o (.dT kvs))/\Q (.int kvs.length) H):=by
 intro pins s σ H xs us Q I r h;obtain⟨a,o,kvs,rfl,ha,q⟩:=h;obtain⟨u,rfl,ru⟩:=vals1 r;cases ru;obtain⟨_,z,hd,xs,rel,ob,es,ep,g,ex,hdat,he,nd⟩:=I.hok a _ ha;have hl:kvs.length=xs.length:=Paired.length rel;refine Calls.call_function_entry kind_len plain_len entry_len (args_len1 _) ?_;unfold Builtin.«len»;refine wpAny_bind (m:=oneArg "len" _) (wpAny_pure ?_)
 refine wpAny_bind (m:=callSpecial? (.ref a) (Str.ofString "__len__")) (wpAny_callSpecial?_slot (name:=Str.ofString "__len__") ⟨ob,g,ex.1⟩ F.slot_dict_len
  (call_meetsIn F.slot_dict_len ⟨ob,g,ex.1⟩ F.entry_dict_len (F.args_dict_len_1 _) (zj hd) ⟨ob,es,ep,g,hdat,?_⟩))
 show wpAny _ _ _ _ _ { s with toks:=s.toks+1 }
 have hs:es.size=kvs.length:=by rw[<-Array.length_toList,he,List.length_map,hl]
 rw[sizeLine_eq]at z;refine wpAny_bind (wpAny_holding (wpAny_pure ?_));refine wpAny_bind (wpAny_letGo ?_);show wpAny _ _ (if((es.size:Nat):Int)<0 then _ else _) _ _ _;rw[if_neg (by omega)];show wpAny _ _ (if((es.size:Nat):Int)≥2 ^ 63 then _ else _) _ _ _;rw[if_neg (by omega)];exact wpAny_bind (wpAny_mkInt (wpAny_pure ⟨_,rfl,⟨.int kvs.length,H,I.tok _,⟨_,by rw[hs]⟩,q⟩⟩))
def so:bC X (.builtin "len") (fun xs H Q=>(∃ y n,xs=[y]/\AN X.K y H n/\Q (.int n) H)\/(∃ q kvs,xs=[V.ref q]/\H q=some (.dK kvs)/\Q (.int kvs.length) H)\/(∃ q kvs,xs=[V.ref q]/\H q=some (.dT kvs)/\Q (.int kvs.length) H)\/∃ q o kvs,xs=[V.ref q]/\H q=some (.frz o (.dT kvs))/\Q (.int kvs.length) H):=bC.or vp (bC.or sG (bC.or sq u6))
def AA(hg:Gl X "len")(hm:X.mg "len" = none)(ha:SE X cl a a')(hn:noStar a=true):SE X cl (.Call (.Name "len" p) [a] [] pos) (.bi .len a'):=by
 refine iK so hg hm PySem.boot_len ha hn (by decide) (by decide) fun σD σ H H1 y d v Q e s1 r1 k=>?_
 cases y<;>first | (cases e;done) | skip
 case str t =>
  rw[RL.CF]at e;split at e
  ·rename_i hz;cases e;rw[aN r1];exact .inl ⟨_,_,rfl,⟨Nat.le_trans hz cb,rfl⟩,k _ _ (bT s1 aV rfl)⟩
  ·cases e
 case tup t =>
  cases e;obtain⟨q,xs,rfl,f2,f3⟩:=bx r1;dsimp only at k;rw[f3.length]at k;exact .inl ⟨_,_,rfl,.inr ⟨xs,SqT.of f2,rfl⟩,k _ _ (bT s1 aV rfl)⟩
 case lst t =>
  cases e;obtain⟨q,xs,rfl,_,f2,f3⟩:=aP r1;dsimp only at k;rw[f3.length]at k;exact .inl ⟨_,_,rfl,.inl ⟨xs,SqL.of f2,rfl⟩,k _ _ (bT s1 aV rfl)⟩
 case fL t =>
  cases e;rw[Rep]at r1;obtain⟨q,o,xs,rfl,f2,f3⟩:=r1;dsimp only at k;rw[f3.length]at k;exact .inl ⟨_,_,rfl,.inl ⟨xs,.inl (.inr ⟨o,f2⟩),rfl⟩,k _ _ (bT s1 aV rfl)⟩
 case dK ks t =>
  cases e;rw[Rep]at r1;obtain⟨q,xs,rfl,_,f2,fl,f3⟩:=r1;refine .inr (.inl ⟨q,_,rfl,f2,?_⟩)
  have:(ks.zip xs).length=ks.length:=by rw[List.length_zip,<-f3.length,fl,Nat.min_self]
  rw[this];exact k _ _ (bT s1 aV rfl)
 case dT ks t =>
  cases e;rw[Rep]at r1;obtain⟨q,xs,rfl,_,f2,fl,f3⟩:=r1;refine .inr (.inr (.inl ⟨q,_,rfl,f2,?_⟩))
  have:(ks.zip xs).length=ks.length:=by rw[List.length_zip,<-f3.length,fl,Nat.min_self]
  rw[this];exact k _ _ (bT s1 aV rfl)
 case fT ks t =>
  cases e;rw[Rep]at r1;obtain⟨q,o,xs,rfl,f2,fl,f3⟩:=r1;refine .inr (.inr (.inr ⟨q,o,_,rfl,f2,?_⟩))
  have:(ks.zip xs).length=ks.length:=by rw[List.length_zip,<-f3.length,fl,Nat.min_self]
  rw[this];exact k _ _ (bT s1 aV rfl)
def zx(hc:X.calm=true)(hg:Gl X "max")(hm:X.mg "max" = none)(ha:SE X cl a a')(hb:SE X cl b b')(hn:noStar a=true)(hn2:noStar b=true):SE X cl (.Call (.Name "max" p) [a,b] [] pos) (.max a' b'):=by
 refine PE.weak (eA (sQ hc) hg hm (by decide +kernel) (bY (cl:=cl) ha (bY hb dz hn2) hn) (by decide) (by decide) (aC _ hn) (cC (by simp[hn2]))) fun σ H Q h=>?_;obtain⟨σD,d,rv,e,k⟩:=h;obtain⟨u,ea,e⟩:=bind_some e;obtain⟨v,eb,e⟩:=bind_some e
 cases u with
 |int i=>
  cases v with
  |int j=>
   cases e
   exact pair rv ea eb fun v u H1 s1 r1 r2=>⟨i,j,by rw[ar r1,ar r2],k _ _ (bT s1 aV rfl)⟩
  | _=>cases e
 | _=>cases e
abbrev tyN:RL.Ty->String
 | .int => "int"
 | .bool => "bool"
 | .list => "list"
 | .tuple => "tuple"
 | .str => "str"
def vG:bC X (.builtin "isinstance") (fun xs H Q=>∃ y t T k,xs=[y,.ty T]/\dY X.K H y t/\PySem.W.kitOne X.K t (.type T)=some k/\Q (.bl k) H):=by
 intro pins s σ H xs us Q I r h;obtain⟨y,t,T,k,rfl,ty,e,q⟩:=h;obtain⟨u,w,rfl,r1,r2⟩:=vals2 r;cases r2
 exact rZ I r1 ty e fun tk=>⟨.bl k,H,I.tok tk,rfl,q⟩
def BG(h:RL.e8 t d=some k)(r:Rep nP X.K H d v):∃ ty,dY X.K H v ty/\PySem.W.kitOne X.K ty (.type (tyN t))=some k:=by
 cases d with
 | non=>rw[Rep]at r;subst r;refine⟨_,.non,?_⟩;cases t<;>(cases h;rfl)
 | bl i=>rw[bf r];refine⟨_,.bl i,?_⟩;cases t<;>(cases h;rfl)
 | int i=>rw[ar r];refine⟨_,.int i,?_⟩;cases t<;>(cases h;rfl)
 | str i=>rw[aN r];refine⟨_,.str i,?_⟩;cases t<;>(cases h;rfl)
 | tup i=>obtain⟨q,xs,rfl,f2,f3⟩:=bx r;refine⟨_,.tup f2,?_⟩;cases t<;>(cases h;rfl)
 | lst i=>obtain⟨q,xs,rfl,_,f2,f3⟩:=aP r;refine⟨_,.lst f2,?_⟩;cases t<;>(cases h;rfl)
 | fL i=>rw[Rep]at r;obtain⟨q,o,xs,rfl,f2,f3⟩:=r;refine⟨_,.frz f2,?_⟩;cases t<;>(cases h;rfl)
 | _=>cases t<;>cases h
def AV(hg:Gl X "isinstance")(hm:X.mg "isinstance" = none)(hgy:Gl X y)(hmy:X.mg y=none)(hy:bootBuiltins y=some (.type (tyN t)))(hy1:y ≠ "__name__")(hy2:(y == ("__debug__" : Str))=false)(ha:SE X cl a a')(hn:noStar a=true) :
  SE X cl (.Call (.Name "isinstance" p) [a,.Name y p2] [] pos) (.isi a' t):=by
 have hty:PE X (.Name y p2) (tC (.ty (tyN t))):=pM hgy hmy hy rfl hy1 hy2;refine PE.weak (eA vG hg hm (by decide +kernel) (ba ha (ba hty cA rfl) (aC _ hn)) (by decide) (by decide) (aC _ hn) rfl) fun σ H Q h=>?_;obtain⟨σD,d,rv,e,k⟩:=h;obtain⟨u,ea,e⟩:=bind_some e;obtain⟨t',e1,e2⟩:=map_some e;subst e2;refine⟨σD,u,rv,ea,fun v H1 r1=>?_⟩;obtain⟨ty,h1,h2⟩:=BG e1 r1.rep;exact⟨v,ty,_,t',rfl,h1,h2,k _ _ (cX r1.same)⟩
end rules
end RS
namespace L2
open PySem PySem.Spec PyProof.Rows
structure jw(prog:Program)(w:World):Prop where
 draws:∀ {A:Around},A.handled=none->∀ (ti tp:Addr),tp≠ti->∀ its:Array Value,Draws prog w A ti [ti,tp] its.size (fun i v=>its[i]?=some v) (fun i h=>h.IsTupleIter ti tp i/\h.IsTuple tp its)
 call:∀ {A:Around} {E:Value->Shared->Prop} {z:Shared} {tp:Addr} {its:Array Value} {Q:Value->Shared->Prop},z.heap.IsTuple tp its ->
  (∀ g,IsEnum g (z.heap.objs.size+1) z.heap.objs.size 0 .none->g.IsTupleIter z.heap.objs.size tp 0->(∀ b o,z.heap.get? b=some o->g.get? b=some o)->Q (.ref (z.heap.objs.size+1)) { z with heap:=g })->wpAny (model prog w) A (call (.type "enumerate") [.ref tp]) Q E z
section
def Inv.k9{h':Heap}{t':Nat}{fp:List Addr}(I:Inv X pins σ H s)(k:∀ b o,b∉fp->s.heap.get? b=some o->h'.get? b=some o)(hf:∀ b∈fp,H b=none/\(b∈X.ex\/X.s₀.heap.objs.size<=b)/\b≠X.env.locals/\(∀ x c,X.env.cells.lookup x=some c->c≠b)/\∀ p∈X.pn++pins,p.1≠b) :
  Inv X pins σ H { s with heap:=h',toks:=t' }:=by
 have nf:∀ b u,H b=some u->b∉fp:=fun b u e z=>by rw[(hf b z).1]at e;cases e
 refine I.mw (s':={ s with heap:=h',toks:=t' }) (ch:=fp) rfl ⟨fun b o e _ _ hx=>k b o hx e,fun b o e _ _ hx=>⟨o.slots,k b o hx e⟩,fun _ _ _ n _=>n,fun b o e hx=>⟨o,k b o hx e⟩,fun _ _ e=>e,fun _ _ _ e=>e,fun b ps e=>⟨#[],by rw[e];simp⟩⟩ (fun b u e=>?_) I.bare fun b hb=>(hf b hb).2;refine(I.hok b u e).gA (fun c v hc q=>k c v ?_ q) (fun _ q=>q) fun _ _ q=>q;rcases hc with z | z
 ·rw[z];exact nf b u e
 ·exact nf c _ z
end
abbrev Ite(cont:Hp->List V->Prop):It :=
 ⟨fun i H=>∃ xs x,cont H xs/\xs[i]?=some x,fun i H v H'=>∃ p x,H p=none/\v=.ref p/\H'=upd H p (.tup [.int i,x])/\∀ xs,cont H xs->xs[i]?=some x,fun i H=>∃ xs,cont H xs/\xs.length=i⟩
structure Src(P:Program)(w:World)(K:PySem.W.Frag)(e it:Addr)(cont:Hp->List V->Prop)(ia:Nat->Heap->Prop):Prop where
 obj:∀ i h,ia i h->∃ o,h.get? it=some o/\∀ v,o.data≠.cell v
 keep:∀ i h h',ia i h->(∀ o,h.get? it=some o->h'.get? it=some o)->ia i h'
 inj:∀ (H:Hp) xs ys,cont H xs->cont H ys->xs=ys
 dr:∀ (X:Cx),X.prog=P->X.w=w->X.K=K->X.calm=true->∀ (pins:List (Addr × Obj)) (s:Shared) (σ:St) (H:Hp) (xs:List V),Inv X pins σ H s->H e=none->H it=none->cont H xs ->
  ∃ (fp:List Addr) (Pv:Nat->Value->Prop) (St:Nat->Heap->Prop),Draws P w X.A.in1 it fp xs.length Pv St/\e∉fp/\(∀ i,ia i s.heap->St i s.heap)/\(∀ i h,St i h->ia i h)/\∀ i v,Pv i v->∃ x,xs[i]?=some x/\RelV x v
def rL{P:Program}{w:World}{K:PySem.W.Frag}(hei:e≠it)(S:Src P w K e it cont ia) :
  Turn P w K (.Tuple elts kx tp) (Ite cont) [e,it] e (fun i h=>(∃ old,IsEnum h e it i old)/\ia i h) where
 mem:=by simp
 obj:=fun i h st b hb=>by
  rcases List.mem_cons.mp hb with rfl | hb
  ·obtain⟨⟨old,he⟩,_⟩:=st;exact⟨_,he,fun v z=>by cases z⟩
  ·rw[List.mem_singleton.mp hb];exact S.obj i h st.2
 keep:=fun i h h' st k=>by
  obtain⟨⟨old,he⟩,hi⟩:=st;exact⟨⟨old,k e (by simp) _ he⟩,S.keep i h h' hi fun o q=>k it (by simp) o q⟩
 item:=by
  intro X hP hw hK hc i pins s σ H E I hf st hg;subst hP hw hK;obtain⟨⟨old,he⟩,hi⟩:=st;obtain⟨xs,x,hq,hx⟩:=hg;have fe:=hf e (by simp);have fi:=hf it (by simp);obtain⟨fp,Pv,St,D,hef,h1,h2,h3⟩:=S.dr X rfl rfl rfl hc pins s σ H xs I fe.1 fi.1 hq;have hlt:i<xs.length:=(List.getElem?_eq_some_iff.mp hx).1;refine wpAny_pyNext_enum_itemD D he (h1 i hi) hlt hei hef fun v h' tk hP ho hs' hT hsz hk=>?_;obtain⟨x',hx',rx⟩:=h3 i v hP;rw[hx]at hx';cases hx';refine⟨.ref s.heap.objs.size,rfl,wpAny_letOwnedTupleGo_enum ho fun h'' he' hs''=>?_⟩;have hn:H s.heap.objs.size=none:=I.hok.fresh (Nat.le_refl _)
  have I1:Inv X pins σ (upd H s.heap.objs.size (.tup [.int i,x])) { s with heap:=s.heap.push { cls:=.type "tuple",data:=.seq #[.int i tk,v] },toks:=tk+1 } :=
   I.laid (t':=tk+1) (fun b u q=>Heap.get?_push_of_some _ q) (Nat.le_refl _) ⟨by show 2<=sizeLine;decide,[.int i tk,v],.cons ⟨tk,rfl⟩ (.cons rx .nil),⟨_,Heap.get?_push_size _ rfl,rfl,_,rfl⟩⟩
  have hes:e<s.heap.objs.size:=Heap.lt_size he
  have hit:it<s.heap.objs.size:=by obtain⟨o,q,_⟩:=S.obj i _ hi;exact Heap.lt_size q
  have stat:∀ b∈[e,it],upd H s.heap.objs.size (.tup [.int i,x]) b=none/\(b∈X.ex\/X.s₀.heap.objs.size<=b)/\b≠X.env.locals/\(∀ x c,X.env.cells.lookup x=some c->c≠b)/\∀ p∈X.pn++pins,p.1≠b:=fun b hb=>by
   obtain⟨f0,f1,f2,f3,f4,f5⟩:=hf b hb
   have hb':b≠s.heap.objs.size:=by
    rcases List.mem_cons.mp hb with rfl | hb
    ·exact Nat.ne_of_lt hes
    ·rw[List.mem_singleton.mp hb];exact Nat.ne_of_lt hit
   exact⟨by rw[aE hb'];exact f0,f3,f1,f4,f5⟩
  have I2:Inv X pins σ (upd H s.heap.objs.size (.tup [.int i,x])) { s with heap:=h'',toks:=tk+1 }:=by
   refine Inv.k9 (s:={ s with heap:=s.heap.push { cls:=.type "tuple",data:=.seq #[.int i tk,v] },toks:=tk+1 }) (h':=h'') (t':=tk+1) (fp:=[e,it]) I1 (fun b o hb q=>?_) stat;have b1:b≠e:=fun z=>hb (by simp[z]);have b2:b≠it:=fun z=>hb (by simp[z]);refine hs''.extBut b o b1 ?_;by_cases hbT:b=s.heap.objs.size
   ·subst hbT;have q':(s.heap.push { cls:=.type "tuple",data:=.seq #[.int i tk,v] }).get? s.heap.objs.size=some o:=q;rw[Heap.get?_push_size _ rfl]at q';cases q';exact hT
   ·have q':s.heap.get? b=some o:=(Heap.get?_push_ne _ _ _ hbT).symm.trans q;exact hk b o b1 b2 q'
  refine⟨.ref s.heap.objs.size,_,I2,rfl,⟨s.heap.objs.size,x,hn,rfl,rfl,fun ys hy=>by rw[S.inj H ys xs hy hq];exact hx⟩,⟨⟨v,by simpa using he'⟩,S.keep _ h' h'' (h2 _ _ hs') fun o q=>hs''.extBut _ _ (Ne.symm hei) q⟩,fun b hb=>(stat b hb).1⟩
 done:=by
  intro X hP hw hK hc i pins s σ H E I hf st hg;subst hP hw hK;obtain⟨⟨old,he⟩,hi⟩:=st;obtain⟨xs,hq,hx⟩:=hg;have fe:=hf e (by simp);have fi:=hf it (by simp);obtain⟨fp,Pv,St,D,hef,h1,h2,h3⟩:=S.dr X rfl rfl rfl hc pins s σ H xs I fe.1 fi.1 hq;subst hx
  refine wpAny_pyNext_enum_endD D he (h1 _ hi) fun h' eb=>⟨rfl,?_⟩
  obtain⟨f0,f1,f2,f3,f4,f5⟩:=fi;exact I.turned (it:=it) (h':=h') (t':=s.toks) (fun b o hb q=>eb b o hb q) f0 f1 f3 f4 f5
 self:=fun A i s Q E st h=>by
  obtain⟨⟨old,he⟩,hi⟩:=st;exact wpAny_pyIter_enum he h
def src_list{P:Program}{w:World}{K:PySem.W.Frag}(hei:e≠it):Src P w K e it (fun H xs=>H l=some (.lst xs)) (fun i h=>h.IsListIter it l i) where
 obj:=fun i h st=>let ⟨o,ho,_,hd⟩:=st;⟨o,ho,fun v q=>by rw[hd]at q;cases q⟩
 keep:=fun i h h' st k=>st.at fun o q=>k o q
 inj:=fun H xs ys h1 h2=>by rw[h1]at h2;cases h2;rfl
 dr:=by
  intro X hP hw hK hc pins s σ H xs I he hi hx;subst hP hw hK;obtain⟨its,rv,p,hz⟩:=I.list (SqL.of hx)
  have hl:its.toArray.size=xs.length:=by rw[List.size_toArray,rv.length]
  have hh:X.A.in1.handled=none:=I.ok.hd.1 hc;have D:=Draws.list (prog:=X.prog) (w:=X.w) (A:=X.A.in1) hh it l (aJ hx hi) its.toArray;rw[hl]at D;refine⟨_,_,_,D,?_,fun i st=>⟨st,p.isList⟩,fun i h st=>st.1,fun i v hv=>?_⟩
  ·intro m;rcases List.mem_cons.mp m with q | m
   ·exact hei q
   ·exact(aJ hx he).symm (List.mem_singleton.mp m)
  ·have hv:its[i]?=some v:=by simpa using hv
   have hlt:i<xs.length:=by rw[rv.length];exact(List.getElem?_eq_some_iff.mp hv).1
   obtain⟨u,h1,h2⟩:=rv.get (i:=i) (x:=xs[i]) (by simp[hlt]);rw[hv]at h1;cases h1;exact⟨xs[i],by simp[hlt],h2⟩
def y8{P:Program}{w:World}{K:PySem.W.Frag}(TE:jw P w)(hei:e≠it):Src P w K e it (fun H xs=>H l=some (.tup xs)) (fun i h=>h.IsTupleIter it l i) where
 obj:=fun i h st=>let ⟨o,ho,_,hd⟩:=st;⟨o,ho,fun v q=>by rw[hd]at q;cases q⟩
 keep:=fun i h h' st k=>let ⟨o,ho,r⟩:=st;⟨o,k o ho,r⟩
 inj:=fun H xs ys h1 h2=>by rw[h1]at h2;cases h2;rfl
 dr:=by
  intro X hP hw hK hc pins s σ H xs I he hi hx;subst hP hw hK;obtain⟨its,rv,p,hz⟩:=I.tuple (SqT.of hx)
  have hl:its.toArray.size=xs.length:=by rw[List.size_toArray,rv.length]
  have hh:X.A.in1.handled=none:=I.ok.hd.1 hc;have D:=TE.draws (A:=X.A.in1) hh it l (aJ hx hi) its.toArray;rw[hl]at D;refine⟨_,_,_,D,?_,fun i st=>⟨st,p⟩,fun i h st=>st.1,fun i v hv=>?_⟩
  ·intro m;rcases List.mem_cons.mp m with q | m
   ·exact hei q
   ·exact(aJ hx he).symm (List.mem_singleton.mp m)
  ·have hv:its[i]?=some v:=by simpa using hv
   have hlt:i<xs.length:=by rw[rv.length];exact(List.getElem?_eq_some_iff.mp hv).1
   obtain⟨u,h1,h2⟩:=rv.get (i:=i) (x:=xs[i]) (by simp[hlt]);rw[hv]at h1;cases h1;exact⟨xs[i],by simp[hlt],h2⟩
abbrev gK(x:Str):List V:=x.cps.toList.map fun c=>.str ⟨#[c]⟩
def xW{P:Program}{w:World}{K:PySem.W.Frag}(hei:e≠it):Src P w K e it (fun _ xs=>xs=gK x) (fun i h=>h.IsStrIter it (strIterType x) x t i) where
 obj:=fun i h st=>let ⟨o,ho,_,hd⟩:=st;⟨o,ho,fun v q=>by rw[hd]at q;cases q⟩
 keep:=fun i h h' st k=>let ⟨o,ho,r⟩:=st;⟨o,k o ho,r⟩
 inj:=fun H xs ys h1 h2=>by rw[h1,h2]
 dr:=by
  intro X hP hw hK hc pins s σ H xs I he hi hx;subst hP hw hK hx;have hh:X.A.in1.handled=none:=I.ok.hd.1 hc
  have hl:x.cps.size=(gK x).length:=by simp[gK]
  have pv:∀ (i:Nat) (v:Value),(∃ c u,x.cps[i]?=some c/\v=Value.str ⟨#[c]⟩ u)->∃ y,(gK x)[i]?=some y/\RelV y v:=fun i v hv=>by
   obtain⟨c,u,h1,h2⟩:=hv;exact⟨.str ⟨#[c]⟩,by simp[gK,h1],u,h2⟩
  have ni:e∉[it]:=fun m=>hei (List.mem_singleton.mp m)
  cases ha:x.cps.all (·<128)with
  |true=>
   have ht:strIterType x = "str_ascii_iterator" := by simp[strIterType,ha]
   have D:=Draws.strAscii (prog:=X.prog) (w:=X.w) (A:=X.A.in1) hh it x t;rw[hl]at D;exact⟨_,_,_,D,ni,fun i st=>by rw[ht]at st;exact st,fun i h st=>by rw[ht];exact st,pv⟩
  |false=>
   have ht:strIterType x = "str_iterator" := by simp[strIterType,ha]
   have D:=Draws.strWide (prog:=X.prog) (w:=X.w) (A:=X.A.in1) hh it x t;rw[hl]at D;exact⟨_,_,_,D,ni,fun i st=>by rw[ht]at st;exact st,fun i h st=>by rw[ht];exact st,pv⟩
section
abbrev CG(ta:TA):TI:=fun σ H R=>ta σ H fun vs H1=>(∃ l xs,vs=[.ref l]/\H1 l=some (.lst xs)/\R (Ite fun H xs=>H l=some (.lst xs)) H1)\/(∃ l xs,vs=[.ref l]/\H1 l=some (.tup xs)/\R (Ite fun H xs=>H l=some (.tup xs)) H1) \/
 (∃ x,vs=[.str x]/\R (Ite fun _ xs=>xs=gK x) H1)
def j3(I:Inv X pins σ H s)(S:Src X.prog X.w X.K (s.heap.objs.size+1) s.heap.objs.size cont ia)
 (he:IsEnum g (s.heap.objs.size+1) s.heap.objs.size 0 .none)(hi:ia 0 g)(hk:∀ b o,s.heap.get? b=some o->g.get? b=some o)(q:R (Ite cont) H) :
  wpAny (model X.prog X.w) X.A (pyIter (.ref (s.heap.objs.size+1))) (PIE X pins σ (.Tuple elts kx tp) R) E { s with heap:=g }:=by
 refine wpAny_pyIter_enum he ⟨s.heap.objs.size+1,[s.heap.objs.size+1,s.heap.objs.size],_,_,H,rfl,I.kept (t':=s.toks) hk,rL (Nat.succ_ne_self _) S,⟨⟨.none,he⟩,hi⟩,fun b hb=>?_,q⟩
 have hb':s.heap.objs.size<=b:=by
  rcases List.mem_cons.mp hb with z | z
  ·rw[z];exact Nat.le_succ _
  ·rw[List.mem_singleton.mp z];exact Nat.le_refl _
 exact I.lb hb' (I.hok.fresh hb')
def yD(TE:jw X.prog X.w)(hg:Gl X "enumerate")(hm:X.mg "enumerate" = none)(ha:PA X [a] ta)(hs:starEach [a] X.env=[(false,eval a X.env)]):PI X (.Tuple elts kx tp) (.Call (.Name "enumerate" p) [a] [] pos) (CG ta):=by
 intro pins s σ H R I h;refine Call_ (gR I hg hm boot_enumerate (PyProof.Rows.callWith_type1 (thn (ha pos pins s σ H _ I h) fun us s1 ⟨vs,H1,I1,r1,q1⟩=>?_) hs rfl) (by decide) (by decide))
 rcases q1 with⟨l,xs,rfl,hx,q⟩ | ⟨l,xs,rfl,hx,q⟩ | ⟨x,rfl,q⟩
 ·obtain⟨u,rfl,ru⟩:=vals1 r1;cases ru;obtain⟨its,rv,pl,hz⟩:=I1.list (SqL.of hx);exact call_enumerate_list pl.isList fun g he hi hsz hk=>j3 I1 (src_list (Nat.succ_ne_self _)) he hi hk q
 ·obtain⟨u,rfl,ru⟩:=vals1 r1;cases ru;obtain⟨its,rv,pl,hz⟩:=I1.tuple (SqT.of hx);exact TE.call pl fun g he hi hk=>j3 I1 (y8 TE (Nat.succ_ne_self _)) he hi hk q
 ·obtain⟨u,rfl,ru⟩:=vals1 r1;obtain⟨t,rfl⟩:=ru;exact call_enumerate_str fun g he hi hsz hk=>j3 I1 (xW (Nat.succ_ne_self _)) he hi hk q
end
end L2
namespace RS
open PySem PySem.Spec PyProof.Rows L2
def iX:∀ (ds:List RL.D) (k:Int),(RL.du k ds).length=ds.length
 | [],_=>rfl
 | d::r,k=>by rw[RL.du,List.length_cons,List.length_cons,iX r]
def l8:∀ (ds:List RL.D) (k:Int) (i:Nat) (d:RL.D),(RL.du k ds)[i]?=some d->∃ e,ds[i]?=some e/\d=.tup [.int (k+i),e]
 | [],k,i,d,h=>by simp[RL.du]at h
 | e::r,k,0,d,h=>by simp[RL.du]at h;exact⟨e,rfl,by simp[h]⟩
 | e::r,k,i+1,d,h=>by
  rw[RL.du,List.getElem?_cons_succ]at h;obtain⟨e',h1,h2⟩:=l8 r (k+1) i d h;refine⟨e',by simpa using h1,?_⟩;rw[h2];congr 3;lia
def fE{K:PySem.W.Frag}(hc:∀ H',Off P H H'->cont H' xs)(hj:∀ H' ys,cont H' xs->cont H' ys->ys=xs)(r:ai nP K H ds xs)(hm:∀ b o,P b->H b=some o->cQ o):fY K (Ite cont) (RL.du 0 ds) P H where
 go:=fun H' i k hi=>by
  rw[iX]at hi;obtain⟨x,e,_⟩:=r.get (i:=i) (d:=ds[i]) (by simp[hi]);exact⟨xs,x,hc H' k,e⟩
 stop:=fun H' k=>⟨xs,hc H' k,by rw[iX,r.length]⟩
 yld:=fun H' i d v H2 k e y=>by
  obtain⟨p,x,hp,rfl,rfl,hx⟩:=y;obtain⟨e',h1,rfl⟩:=l8 ds 0 i d e;obtain⟨x',h2,h3⟩:=r.get h1;rw[hx xs (hc H' k)]at h2;cases h2;refine⟨aD.cw hp,fun q=>?_⟩
  have re:Rep nP K H' e' x:=by
   rcases q with q | q
   ·have q:(true&&(e'.imm&&true))=true:=q;simp only[Bool.true_and,Bool.and_true]at q;exact et hm k h3 q
   ·exact h3.same q
  rw[Rep];refine⟨p,[.int i,x],rfl,aI,ai.cons ?_ (ai.cons (re.same (aD.cw hp)) ai.nil)⟩;simpa using(aV (P:=nP) (K:=K) (H:=upd H' p (.tup [.int i,x])) (i:=(i:Int)))
def sU{P:Addr->Prop}{K:PySem.W.Frag}(h:RL.jZ d=some ds)(r:Rep P K H d v):(∃ p xs,v=.ref p/\H p=some (.lst xs)/\d=.lst ds/\ai P K H ds xs)\/(∃ p xs,v=.ref p/\H p=some (.tup xs)/\d=.tup ds/\ai P K H ds xs) \/
  (∃ x,v=.str x/\d=.str x/\ds=x.cps.toList.map fun c=>.str ⟨#[c]⟩):=by
 cases d<;>simp only[RL.jZ]at h<;>first | (cases h;done) | skip
 case lst ys=>cases h;obtain⟨p,xs,e1,_,e2,e3⟩:=aP r;exact .inl ⟨p,xs,e1,e2,rfl,e3⟩
 case tup ys=>cases h;obtain⟨p,xs,e1,e2,e3⟩:=bx r;exact .inr (.inl ⟨p,xs,e1,e2,rfl,e3⟩)
 case str x=>cases h;exact .inr (.inr ⟨x,aN r,rfl,rfl⟩)
def iw{P:Addr->Prop}{K:PySem.W.Frag}:∀ (cs:List Nat),ai P K H (cs.map fun c=>RL.D.str ⟨#[c]⟩) (cs.map fun c=>V.str ⟨#[c]⟩)
 | []=>ai.nil
 | c::r=>ai.cons fF (iw r)
section rules
def zm(TE:jw X.prog X.w)(hg:Gl X "enumerate")(hm:X.mg "enumerate" = none)(ha:SE X cl a a')(hn:noStar a=true):SI X cl (.Tuple elts kx tp) (.Call (.Name "enumerate" p) [a] [] pos) (.enm a'):=by
 intro pins s σ H R I h;obtain⟨σD,ds,rv,e,k⟩:=h;obtain⟨d,e1,e2⟩:=bind_some e;obtain⟨es,e3,e4⟩:=map_some e2;subst e4;have hpa:PA X [a] (eO (tE X.K cl a') iD):=ba ha cA (aC [] hn);refine yD TE hg hm hpa (aC [] hn) pins s σ H R I ⟨σD,d,rv,e1,fun v H1 r1=>?_⟩
 rcases sU e3 r1.rep with⟨l,xs,rfl,hx,rfl,rs⟩ | ⟨l,xs,rfl,hx,rfl,rs⟩ | ⟨x,rfl,rfl,rfl⟩
 ·refine .inl ⟨l,xs,rfl,hx,k _ _ r1.same ⟨fE (fun H' o=>o _ _ (fun z=>z) hx) (fun H' ys h1 h2=>by rw[h1]at h2;cases h2;rfl) rs eV,fun M P z hP av=>?_⟩⟩;exact fE (fun H' o=>o _ _ (ko r1 z hP av _ _ rfl rfl) hx) (fun H' ys h1 h2=>by rw[h1]at h2;cases h2;rfl) rs (dm r1.same hP)
 ·have np:∀ P:Addr->Prop,(∀ b o,P b->H1 b=some o->cQ o)->¬ P l:=fun P hP q=>by rcases hP l _ q hx with⟨z,q⟩ | ⟨z,q⟩ | ⟨z,q⟩<;>cases q
  exact .inr (.inl ⟨l,xs,rfl,hx,k _ _ r1.same ⟨fE (fun H' o=>o _ _ (np _ eV) hx) (fun H' ys h1 h2=>by rw[h1]at h2;cases h2;rfl) rs eV,fun M P z hP av=>fE (fun H' o=>o _ _ (np P (dm r1.same hP)) hx) (fun H' ys h1 h2=>by rw[h1]at h2;cases h2;rfl) rs (dm r1.same hP)⟩⟩)
 ·exact .inr (.inr ⟨x,rfl,k _ _ r1.same ⟨fE (fun H' o=>rfl) (fun H' ys h1 h2=>h2) (iw _) eV,fun M P z hP av=>fE (fun H' o=>rfl) (fun H' ys h1 h2=>h2) (iw _) (dm r1.same hP)⟩⟩)
end rules
section rules
variable{X:Cx}
def xP{P:Addr->Prop}{K:PySem.W.Frag}(h:Rep P K H (.scr ds) v):∃ a xs,v=.ref a/\iS K H a xs/\ai P K H ds xs:=by rw[Rep]at h;exact h
def uw(n:Nat)(k:Int):HT.sIx n n (some k)=RL.cutAt n k:=by
 have h:=HT.fC k n n;unfold RL.cutAt;split at h
 ·rw[if_neg (by lia)];lia
 ·rw[if_pos (by lia)];lia
def rq(n:Nat)(k:Int):HT.sIx n 0 (some k)=RL.cutAt n k:=by
 have h:=HT.fC k n 0;unfold RL.cutAt;split at h
 ·rw[if_neg (by lia)];lia
 ·rw[if_pos (by lia)];lia
def Ax(ha:SE X cl a a')(hb:SE X cl b b'):SE X cl (.Subscript a (.Slice none (some b) none p2) pos) (.slT a' b'):=by
 refine PE.weak (nI (SlR.or pP rN) ha pB (oV hb)) fun σ H Q h=>?_;obtain⟨σD,d,rv,e,k⟩:=h;obtain⟨x,ea,e⟩:=bind_some e;obtain⟨y,eb,e⟩:=bind_some e;refine⟨σD,x,rv,ea,fun v H1 r1=>⟨σD,y,rv.same r1.same,eb,fun u H2 r2=>?_⟩⟩;have rx:=r1.rep.same r2.same;have sm:=r1.same.trans r2.same
 cases y with
 |int n=>
  refine⟨n,ar r2.rep,?_⟩
  cases x with
  |lst xs=>
   cases e;obtain⟨q,ys,rfl,_,f2,f3⟩:=aP rx;refine .inl ⟨q,ys,rfl,SqL.of f2,fun l hl=>?_⟩;unfold eB;rw[ij,<-f3.length];exact k _ _ (cz sm hl (f3.take _) fun _=>rfl)
  |scr xs=>
   cases e;obtain⟨q,ys,rfl,f2,f3⟩:=xP rx;refine .inl ⟨q,ys,rfl,f2.seq,fun l hl=>?_⟩;unfold eB;rw[ij,<-f3.length];exact k _ _ (cz sm hl (f3.take _) fun _=>rfl)
  |fL xs=>
   cases e;rw[Rep]at rx;obtain⟨q,o,ys,rfl,f2,f3⟩:=rx;refine .inl ⟨q,ys,rfl,.inl (.inr ⟨o,f2⟩),fun l hl=>?_⟩;unfold eB;rw[ij,<-f3.length];exact k _ _ (cz sm hl (f3.take _) fun _=>rfl)
  |tup xs=>
   simp only[RL.i6]at e;split at e
   ·rename_i hz;cases e;obtain⟨q,ys,rfl,f2,f3⟩:=bx rx;refine .inr ⟨q,ys,rfl,SqT.of f2,fun z=>?_,fun l hl=>?_⟩
    ·rw[uw,<-f3.length]at z;lia
    ·unfold eB;rw[ij,<-f3.length];exact k _ _ (i4 sm hl (f3.take _) fun _=>rfl)
   ·cases e
  | _=>cases e
 | _=>cases x<;>cases e
def A9(ha:SE X cl a a')(hb:SE X cl b b'):SE X cl (.Subscript a (.Slice (some b) none none p2) pos) (.slF a' b'):=by
 refine PE.weak (nI (SlR.or pP rN) ha (oV hb) pB) fun σ H Q h=>?_;obtain⟨σD,d,rv,e,k⟩:=h;obtain⟨x,ea,e⟩:=bind_some e;obtain⟨y,eb,e⟩:=bind_some e;refine⟨σD,x,rv,ea,fun v H1 r1=>⟨σD,y,rv.same r1.same,eb,fun u H2 r2=>?_⟩⟩;have rx:=r1.rep.same r2.same;have sm:=r1.same.trans r2.same
 cases y with
 |int n=>
  refine⟨n,ar r2.rep,?_⟩
  cases x with
  |lst xs=>
   cases e;obtain⟨q,ys,rfl,_,f2,f3⟩:=aP rx;refine .inl ⟨q,ys,rfl,SqL.of f2,fun l hl=>?_⟩;unfold eB;rw[jB,<-f3.length];exact k _ _ (cz sm hl (f3.drop _) fun _=>rfl)
  |fL xs=>
   cases e;rw[Rep]at rx;obtain⟨q,o,ys,rfl,f2,f3⟩:=rx;refine .inl ⟨q,ys,rfl,.inl (.inr ⟨o,f2⟩),fun l hl=>?_⟩;unfold eB;rw[jB,<-f3.length];exact k _ _ (cz sm hl (f3.drop _) fun _=>rfl)
  |tup xs=>
   simp only[RL.da]at e;split at e
   ·rename_i hz;cases e;obtain⟨q,ys,rfl,f2,f3⟩:=bx rx;refine .inr ⟨q,ys,rfl,SqT.of f2,fun z=>?_,fun l hl=>?_⟩
    ·rw[rq,<-f3.length]at z;lia
    ·unfold eB;rw[jB,<-f3.length];exact k _ _ (i4 sm hl (f3.drop _) fun _=>rfl)
   ·cases e
  | _=>cases e
 | _=>cases x<;>cases e
end rules
section rules
variable{X:Cx}{st:Stmt}
end rules
end RS
namespace L2
open PySem PySem.Spec PyProof.Rows
abbrev Its(c lo:Int)(n:Nat):It:=⟨fun i _=>i<n,fun i H x H'=>H'=H/\x=.int (lo+i*c),fun i _=>n<=i⟩
def tw{P:Program}{w:World}{K:PySem.W.Frag}(it:Addr)(c lo:Int)(n:Nat):Turn P w K tg (Its c lo n) [it] it (fun i h=>IsRangeIter h it (lo+(i:Nat)*c) ((n:Int)-(i:Nat)) c) where
 mem:=by simp
 obj:=fun i h st b hb=>by
  rw[show b=it by simpa using hb];exact⟨_,st,fun v z=>by cases(show Data.fields _=Data.cell v from z)⟩
 keep:=fun i h h' st k=>k it (by simp) _ st
 item:=by
  intro X hP hw hK hc i pins s σ H E I hf st hg;subst hP hw hK;obtain⟨f0,f1,f2,f3,f4,f5⟩:=hf it (by simp);have W:=Walks.range (prog:=X.prog) (w:=X.w) (I.ok.hd.1 hc) it lo c n;refine W.item i s _ _ hg st fun v h' tk hv st' kk=>?_;obtain⟨t,rfl⟩:=hv;have I1:Inv X pins σ H { s with heap:=h',toks:=tk }:=I.turned (fun b o hb e=>kk b o (by simpa using hb) e) f0 f1 f3 f4 f5;exact⟨_,rfl,mr (s:={ s with heap:=h',toks:=tk }) (n := "range_iterator") st' rfl rfl (by decide) ⟨.int (lo+i*c),H,I1,⟨t,rfl⟩,⟨rfl,rfl⟩,st',fun b hb=>(hf b hb).1⟩⟩
 done:=by
  intro X hP hw hK hc i pins s σ H E I hf st hg;subst hP hw hK;obtain⟨f0,f1,f2,f3,f4,f5⟩:=hf it (by simp)
  exact wpAny_pyNext_range_end (I.ok.hd.1 hc) st (by have:n<=i:=hg;lia) fun h' eb=>⟨rfl,I.turned (t':=s.toks) (fun b o hb e=>eb b o hb e) f0 f1 f3 f4 f5⟩
 self:=fun _ _ _ _ _ st h=>wpAny_pyIter_rangeiter st h
end L2
namespace RS
open PySem PySem.Spec PyProof.Rows L2
def jP(c:Int):∀ (n:Nat) (lo:Int) (i:Nat) (d:RL.D),(RL.bV c lo n)[i]?=some d->d=.int (lo+i*c)
 | 0,lo,i,d,h=>by simp[RL.bV]at h
 | n+1,lo,0,d,h=>by simp[RL.bV]at h;simp[h]
 | n+1,lo,i+1,d,h=>by
  rw[RL.bV,List.getElem?_cons_succ]at h;rw[jP c n (lo+c) i d h];congr 1;rw[show((i+1:Nat):Int)=(i:Int)+1 by lia,Int.add_mul];lia
def ip(c:Int):∀ (n:Nat) (lo:Int),(RL.bV c lo n).length=n
 | 0,_=>rfl
 | n+1,lo=>by rw[RL.bV,List.length_cons,ip c n]
def oX{K:PySem.W.Frag}{H:Hp}{c lo:Int}:fY K (Its c lo n) (RL.bV c lo n) P H where
 go:=fun H' i k hi=>by rw[ip]at hi;exact hi
 stop:=fun H' k=>by rw[ip];exact Nat.le_refl _
 yld:=fun H' i d x H2 k e y=>by
  obtain⟨z,y⟩:=y;subst z;refine⟨aD.refl _,fun _=>?_⟩;rw[jP c n lo i d e,y];exact aV
section rules
variable{st:Stmt}
end rules
abbrev kG(p:Addr)(a b c:Int):HO:=.ext fun h=>∃ t u v,IsRange h p a b c t u v
def oB(a b c:Int):0<=Builtin.Range.rangeSize a b c:=by
 unfold Builtin.Range.rangeSize;split
 ·split
  ·have:=Int.ediv_nonneg (a:=b-a-1) (b:=c) (by lia) (by lia);omega
  ·lia
 ·split
  ·by_cases h0:c=0
   ·subst h0;simp
   ·have:=Int.ediv_nonneg (a:=a-b-1) (b:=-c) (by lia) (by lia);omega
  ·lia
def wg(a b c:Int):Builtin.Range.rangeSize a b c<=(if a<b then b-a else a-b)+1:=by
 unfold Builtin.Range.rangeSize;split
 ·split
  ·have:=Int.ediv_le_self (a:=b-a-1) c (by lia);lia
  ·lia
 ·split
  ·have:=Int.ediv_le_self (a:=a-b-1) (-c) (by lia);split<;>omega
  ·split<;>lia
def jc(a b c:Int):(RL.bA c a b:Int)=Builtin.Range.rangeSize a b c:=Int.toNat_of_nonneg (oB a b c)
def lx(ha:-(2 ^ 60)<=a)(ha':a<2 ^ 60)(hb:-(2 ^ 60)<=b)(hb':b<2 ^ 60)(hc:-(2 ^ 60)<=c)(hc':c<2 ^ 60):Builtin.Range.small a b c=true:=by
 have h1:=oB a b c;have h2:=wg a b c;unfold Builtin.Range.small;simp only[Builtin.Range.rangeFitsLong,Bool.and_eq_true,Bool.or_eq_true,decide_eq_true_eq,beq_iff_eq];refine⟨⟨⟨⟨?_,?_⟩,?_⟩,?_⟩,.inr ?_⟩
 ·lia
 ·lia
 ·lia
 ·split at h2<;>lia
 ·split<;>(rw[Bool.and_eq_true,decide_eq_true_eq,decide_eq_true_eq];lia)
section
variable{X:Cx}
abbrev nG(xs:List V)(a b c:Int):Prop:=(xs=[.int b]/\a=0/\c=1)\/(xs=[.int a,.int b]/\c=1)\/(xs=[.int a,.int b,.int c]/\c≠0/\c.natAbs<2 ^ 60)
def jG{pins:List (Addr × Obj)}{σ:L2.St}{H:Hp}{s:Shared}{a b c:Int}{t u v:Tok}{tk:Nat}(I:Inv X pins σ H s):Inv X pins σ (upd H s.heap.objs.size (kG s.heap.objs.size a b c)) { s with heap:=s.heap.push { cls:=.type "range",data:=.fields #[.int a t,.int b u,.int c v] },toks:=tk } :=
 I.laid (fun b u e=>Heap.get?_push_of_some _ e) (Nat.le_refl _) ⟨⟨t,u,v,IsRange.new _ a b c t u v⟩,⟨_,Heap.get?_push_size _ rfl⟩,fun h1 h2 ⟨t,u,v,e⟩ k=>⟨t,u,v,k _ e⟩⟩
def j4:bC X (.type "range") (fun xs H Q=>∃ a b c,nG xs a b c/\∀ p,H p=none->Q (.ref p) (upd H p (kG p a b c))):=by
 intro pins s σ H xs us Q I r h;obtain⟨a,b,c,ha,q⟩:=h;have hf:H s.heap.objs.size=none:=I.hok.fresh (Nat.le_refl _)
 rcases ha with⟨rfl,rfl,rfl⟩ | ⟨rfl,rfl⟩ | ⟨rfl,hc,hc2⟩
 ·cases r with
  |cons r rr=>
   cases rr;obtain⟨t,rfl⟩:=r;exact call_range_1 ⟨.ref _,_,jG I,rfl,q _ hf⟩
 ·cases r with
  |cons r rr=>
   cases rr with
   |cons r2 rr=>
    cases rr;obtain⟨t,rfl⟩:=r;obtain⟨t2,rfl⟩:=r2;exact call_range_2 ⟨.ref _,_,jG I,rfl,q _ hf⟩
 ·cases r with
  |cons r rr=>
   cases rr with
   |cons r2 rr=>
    cases rr with
    |cons r3 rr=>
     cases rr;obtain⟨t,rfl⟩:=r;obtain⟨t2,rfl⟩:=r2;obtain⟨t3,rfl⟩:=r3;refine call_range_3 hc ⟨.ref _,_,jG I,rfl,q _ hf⟩ (.inl (PyProof.noPylong_of_log2 ?_));have:c.natAbs.log2<60:=(Nat.log2_lt (by lia)).mpr hc2;lia
abbrev cS(a c:Int)(n:Nat):List V:=(List.range n).map fun(i:Nat)=>V.int (a+(i:Int)*c)
def yP{a c:Int}{n:Nat}{acc:Array Value}(hI:ItemsOf (fun i v=>∃ t,v=.int (a+i*c) t) acc n):Vals (cS a c n) acc.toList:=by
 have len:(cS a c (n)).length=acc.toList.length:=by
  simp only[cS,List.length_map,List.length_range,Array.length_toList,hI.1]
 have gen:∀ (xs:List V) (us:List Value),xs.length=us.length->(∀ (i:Nat) u,us[i]?=some u->∃ x,xs[i]?=some x/\RelV x u)->Vals xs us:=by
  intro xs
  induction xs with
  | nil=>intro us h _;cases us with
   | nil=>exact .nil
   | cons _ _=>cases h
  | cons x r ih=>intro us h g;cases us with
   | nil=>cases h
   |cons u us=>
    obtain⟨x',e1,e2⟩:=g 0 u rfl;cases e1
    exact .cons e2 (ih us (by simpa using h) fun i u hu=>by
     obtain⟨y,e3,e4⟩:=g (i+1) u (by simpa using hu)
     exact⟨y,by simpa using e3,e4⟩)
 refine gen _ _ len fun i u hu=>?_
 have hu':acc[i]?=some u:=by simpa using hu
 obtain⟨tk,rfl⟩:=hI.2 i u hu'
 have hi:i<n:=by
  have:=(Array.getElem?_eq_some_iff.mp hu').1;rw[hI.1]at this;exact this
 exact⟨.int (a+(i:Int)*c),by simp[cS,hi],tk,rfl⟩
def iI(hc:X.calm=true):bC X (.type "list") (fun xs H Q=>∃ p a b c,xs=[.ref p]/\H p=some (kG p a b c)/\Builtin.Range.small a b c=true/\RL.bA c a b<=RL.most /\
  ∀ l,H l=none->Q (.ref l) (upd H l (.lst (cS a c (RL.bA c a b))))):=by
 intro pins s σ H xs us Q I r h;obtain⟨p,a,b,c,rfl,hp,hs,hn,q⟩:=h
 cases r with
 |cons r rr=>
  cases rr;cases r;obtain⟨⟨t,u,v,hR⟩,_,_⟩:=I.hok p _ hp;refine call_list_range (I.ok.hd.1 hc) hR hs (jc a b c).symm (Nat.le_trans hn (by decide)) fun h' tk acc c' hk hS hI=>?_;have hf:H s.heap.objs.size=none:=I.hok.fresh (Nat.le_refl _);refine⟨.ref s.heap.objs.size,upd H s.heap.objs.size (.lst (cS a c (RL.bA c a b))),I.laid hk (Nat.le_refl _) (show _/\_ from⟨?_,acc.toList,c',?_,?_⟩),rfl,q _ hf⟩
  ·simp only[cS,List.length_map,List.length_range];exact Nat.le_trans hn cb
  ·exact yP hI
  ·rw[Array.toArray_toList];exact hS
def lK{P:Addr->Prop}{K:PySem.W.Frag}:∀ (n:Nat) (a c:Int),ai P K H (RL.bV c a n) (cS a c n)
 | 0,a,c=>ai.nil
 | n+1,a,c=>by
  have e:cS a c (n+1)=V.int a::cS (a+c) c n:=by
   simp only[cS,List.range_succ_eq_map,List.map_cons,List.map_map];congr 1
   ·simp
   ·apply List.map_congr_left;intro i _;show V.int (a+((i+1:Nat):Int)*c)=V.int (a+c+(i:Int)*c);congr 1;rw[show((i+1:Nat):Int)=(i:Int)+1 by lia,Int.add_mul];lia
  rw[RL.bV,e];exact ai.cons aV (lK n (a+c) c)
def mT:∀ (n:Nat) (a:Int),RL.bO a n=RL.bV 1 a n
 | 0,_=>rfl
 | n+1,a=>by rw[RL.bO,RL.bV,mT n]
def kh(a b:Int):RL.bA 1 a b=(b-a).toNat:=by
 have h:=jc a b 1;rw[rangeSize_one]at h;split at h<;>lia
def sr{σD:RL.St}{σ:L2.St}{H H1:Hp}{e:RL.E}{Q:VK}{vs:List V}{a b c:Int}{ds:List RL.D}(hv:nG vs a b c)(hd:ds=RL.bV c a (RL.bA c a b))(hn:RL.bA c a b<=RL.most)(hs:Builtin.Range.small a b c=true)(sm:aD H H1)
 (hav:∀ M,RL.avE M e=false)(k:∀ v H',Res X.K σD σ H e (.lst ds) v H'->Q v H') :
  ∃ a b c,nG vs a b c/\∀ p,H1 p=none->(fun xs H Q=>∃ p a b c,xs=[V.ref p]/\H p=some (kG p a b c)/\Builtin.Range.small a b c=true/\RL.bA c a b<=RL.most/\∀ l,H l=none->Q (.ref l) (upd H l (.lst (cS a c (RL.bA c a b))))) [.ref p] (upd H1 p (kG p a b c)) Q:=by
 refine⟨a,b,c,hv,fun p hp=>⟨p,a,b,c,rfl,aI,hs,hn,fun l hl=>k _ _ ?_⟩⟩;subst hd;exact cz (sm.trans (aD.cw hp)) hl (lK _ _ _) hav
def yO(hc:X.calm=true)(hgl:Gl X "list")(hml:X.mg "list" = none)(hg:Gl X "range")(hm:X.mg "range" = none)(ha:SE X cl a a')(hn:noStar a=true){p2 pos2:Pos}:SE X cl (.Call (.Name "list" p2) [.Call (.Name "range" p) [a] [] pos] [] pos2) (.rng1 a'):=by
 refine PE.weak (dU (iI hc) hgl hml (by decide +kernel) (ba (dU j4 hg hm boot_range (bY (cl:=cl) ha dz hn) (by decide) (by decide) (aC [] hn) rfl) cA rfl) (by decide) (by decide) rfl rfl) fun σ H Q h=>?_;obtain⟨σD,d,rv,e,k⟩:=h;obtain⟨x,ea,e⟩:=bind_some e;obtain⟨ds,e1,e2⟩:=map_some e;subst e2;obtain⟨i,j,e3,rfl,hb,hm2,rfl⟩:=ub e1;cases e3
 have hb2:-(2 ^ 60)<=j/\j<2 ^ 60:=by
  simp only[RL.iu]at e1;split at e1
  ·lia
  ·cases e1
 refine one rv ea fun v H1 s1 r1=>?_;exact sr (a:=0) (b:=j) (c:=1) (.inl ⟨by rw[ar r1],rfl,rfl⟩) (by rw[mT,kh]) (by rw[kh];exact hm2) (lx (by decide) (by decide) hb2.1 hb2.2 (by decide) (by decide)) s1 (fun _=>rfl) k
abbrev gd(c:Int):Expr->Bool
 | .Constant (.int i) _ _=>i == c
 | .UnaryOp .USub (.Constant (.int i) _ _) _=>-i == c
 | _=>false
def jj(h:gd c e=true):PE X e (tC (.int c))/\noStar e=true:=by
 unfold gd at h;split at h
 ·rw[beq_iff_eq]at h;subst h;exact⟨nH,rfl⟩
 ·rw[beq_iff_eq]at h;subst h;exact⟨PE.weak (wG tM nH) fun σ H Q q=>⟨_,rfl,q⟩,rfl⟩
 ·cases h
def ph(h:RL.jf c x y=some ds):∃ i j:Int,x=.int i/\y=.int j/\c≠0/\c.natAbs<2 ^ 60/\Builtin.Range.small i j c=true/\RL.bA c i j<=RL.most/\ds=RL.bV c i (RL.bA c i j):=by
 cases x<;>cases y<;>simp only[RL.jf]at h<;>first
  | (cases h;done)
  | (split at h
     ·rename_i i j hc;cases h;exact⟨i,j,rfl,rfl,hc.1,by omega,lx hc.2.2.2.2.1 hc.2.2.2.2.2.1 hc.2.2.2.2.2.2.1 hc.2.2.2.2.2.2.2 (by omega) hc.2.2.1,hc.2.2.2.1,rfl⟩
     ·cases h)
def pS(ha:SE X cl a a')(hb:SE X cl b b')(hn:noStar a=true)(hn2:noStar b=true)(h3:gd c e3=true):PA X [a,b,e3] (fun σ H R=>tE X.K cl a' σ H fun v H1=>tE X.K cl b' σ H1 fun u H2=>R [v,u,.int c] H2) :=
 ba ha (ba hb (ba (jj h3).1 cA (aC [] (jj (X:=X) h3).2)) (aC _ hn2)) (aC _ hn)
def yJ{c:Int}{e3:Expr}(hc:X.calm=true)(hgl:Gl X "list")(hml:X.mg "list" = none)(hg:Gl X "range")(hm:X.mg "range" = none)(ha:SE X cl a a')(hb:SE X cl b b')(hn:noStar a=true)(hn2:noStar b=true)(h3:gd c e3=true){p2 pos2:Pos} :
  SE X cl (.Call (.Name "list" p2) [.Call (.Name "range" p) [a,b,e3] [] pos] [] pos2) (.rng3 c a' b'):=by
 refine PE.weak (dU (iI hc) hgl hml (by decide +kernel) (ba (dU j4 hg hm boot_range (pS (cl:=cl) ha hb hn hn2 h3) (by decide) (by decide) (aC _ hn) (cC (by simp[hn2,(jj (X:=X) h3).2]))) cA rfl) (by decide) (by decide) rfl rfl) fun σ H Q h=>?_;obtain⟨σD,d,rv,e,k⟩:=h;obtain⟨x,ea,e⟩:=bind_some e;obtain⟨y,eb,e⟩:=bind_some e;obtain⟨ds,e1,e2⟩:=map_some e;subst e2;obtain⟨i,j,rfl,rfl,h0,h1,h2,h3,rfl⟩:=ph e1;refine two rv ea eb fun v u H1 H2 s1 s2 rx ry _ _=>?_;exact sr (a:=i) (b:=j) (c:=c) (.inr (.inr ⟨by rw[ar rx,ar ry],h0,h1⟩)) rfl h3 h2 (s1.trans s2) (fun _=>rfl) k
def yh(hg:Gl X "range")(hm:X.mg "range" = none)(ha:SE X cl a a')(hb:SE X cl b b')(hn:noStar a=true)(hn2:noStar b=true)(h3:gd c e3=true) :
  SI X cl tg (.Call (.Name "range" p) [a,b,e3] [] pos) (.rng3 c a' b'):=by
 intro pins s σ H R I h;obtain⟨σD,ds,rv,e,k⟩:=h;obtain⟨x,ea,e⟩:=bind_some e;obtain⟨y,eb,e⟩:=bind_some e;obtain⟨i,j,rfl,rfl,h0,h1,hs,hl,rfl⟩:=ph e;refine thn (dU j4 hg hm boot_range (pS (cl:=cl) ha hb hn hn2 h3) (by decide) (by decide) (aC _ hn) (cC (by simp[hn2,(jj (X:=X) h3).2])) pins s σ H (fun x H2=>∃ p,x=.ref p/\H2 p=some (kG p i j c)/\aD H H2) I ?_) ?_
 ·exact two rv ea eb fun v u H1 H2 s1 s2 rx ry _ _=>⟨i,j,c,.inr (.inr ⟨by rw[ar rx,ar ry],h0,h1⟩),fun p hp=>⟨p,rfl,aI,(s1.trans s2).trans (aD.cw hp)⟩⟩
 ·rintro v s1 ⟨x,H1,I1,r1,q,rfl,hq,sm⟩;cases r1;obtain⟨⟨t,u,v,hR⟩,_,_⟩:=I1.hok q _ hq;refine wpAny_pyIter_range hR hs ⟨s1.heap.objs.size,[s1.heap.objs.size],_,Its c i (RL.bA c i j),H1,rfl,I1.kept (t':=s1.toks) fun b o e=>Heap.get?_push_of_some _ e,tw _ c i _,?_,fun b hb=>?_,k _ _ sm ⟨oX,fun _ _ _ _ _=>oX⟩⟩
  ·have e1:i+((0:Nat):Int)*c=i:=by simp
   have e2:((RL.bA c i j:Nat):Int)-((0:Nat):Int)=Builtin.Range.rangeSize i j c:=by rw[jc];simp
   show IsRangeIter _ _ (i+((0:Nat):Int)*c) (((RL.bA c i j:Nat):Int)-((0:Nat):Int)) c;rw[e1,e2];exact Heap.get?_push_size _ rfl
  ·rw[show b=s1.heap.objs.size by simpa using hb];exact I1.lb (Nat.le_refl _) (I1.hok.fresh (Nat.le_refl _))
def yx(hl:SE X cl l e'):SI X cl tg l (.seq e'):=by
 refine PI.weak (BK (cl:=cl) hl trivial) fun σ H R h=>?_;obtain⟨σD,ds,rv,e,k⟩:=h;obtain⟨d,e1,e2⟩:=bind_some e;exact⟨σD,d,ds,rv,e1,e2,k⟩
def zY(ha:SE X cl a a'):SE X cl (.UnaryOp .USub a pos) (.neg a'):=by
 refine PE.weak (wG tM ha) fun σ H Q h=>?_;obtain⟨σD,d,rv,e,k⟩:=h;obtain⟨x,ea,e⟩:=bind_some e
 cases x with
 | int i=>cases e;exact⟨σD,_,rv,ea,fun v H1 r1=>⟨i,ar r1.rep,k _ _ (bT r1.same aV rfl)⟩⟩
 | _=>cases e
def Bw(hg:Gl X "abs")(hm:X.mg "abs" = none)(ha:SE X cl a a')(hn:noStar a=true):SE X cl (.Call (.Name "abs" p) [a] [] pos) (.bi .abs a'):=by
 refine iK vq hg hm (by decide +kernel) ha hn (by decide) (by decide) fun σD σ H H1 y d v Q e s1 r1 k=>?_
 cases y<;>first | (cases e;done) | skip
 case int i=>cases e;exact⟨i,by rw[ar r1],k _ _ (bT s1 aV rfl)⟩
def BL(hc:X.calm=true)(hg:Gl X "min")(hm:X.mg "min" = none)(ha:SE X cl a a')(hb:SE X cl b b')(hn:noStar a=true)(hn2:noStar b=true):SE X cl (.Call (.Name "min" p) [a,b] [] pos) (.min a' b'):=by
 refine PE.weak (eA (tD hc) hg hm (by decide +kernel) (bY (cl:=cl) ha (bY hb dz hn2) hn) (by decide) (by decide) (aC _ hn) (cC (by simp[hn2]))) fun σ H Q h=>?_;obtain⟨σD,d,rv,e,k⟩:=h;obtain⟨u,ea,e⟩:=bind_some e;obtain⟨v,eb,e⟩:=bind_some e
 cases u with
 |int i=>
  cases v with
  |int j=>
   cases e
   exact pair rv ea eb fun v u H1 s1 r1 r2=>⟨i,j,by rw[ar r1,ar r2],k _ _ (bT s1 aV rfl)⟩
  | _=>cases e
 | _=>cases e
end
abbrev mAt(mp:List Nat)(vs:List V):Addr->Prop:=fun a=>∃ p,p∈mp/\vs[p]?=some (.ref a)
structure Aq(K:PySem.W.Frag)(mp:List Nat)(ds:List RL.D)(vs:List V)(H:Hp):Prop where
 vO:ai nP K H ds vs
 own:∀ p∈mp,∃ d a,ds[p]?=some d/\vs[p]?=some (.ref a)/\Own K H d (.ref a)
 sep:∀ p∈mp,∀ q∈mp,∀ a,vs[p]?=some (.ref a)->vs[q]?=some (.ref a)->p=q
 oth:∀ (q:Nat) d v,q∉mp->ds[q]?=some d->vs[q]?=some v->Rep (mAt mp vs) K H d v
structure D9(K:PySem.W.Frag)(mp:List Nat)(outs:List RL.D)(vs:List V)(H:Hp):Prop where
 len:outs.length=mp.length
 own:∀ (k p:Nat) o,mp[k]?=some p->outs[k]?=some o->∃ a,vs[p]?=some (.ref a)/\Own K H o (.ref a)
abbrev spM(K:PySem.W.Frag)(cl:RL.Cl)(mp:List Nat)(f:Nat):Sp:=fun vs H Q _=>∃ ds d outs,cl f ds=some (.tup (d::outs))/\Aq K mp ds vs H/\∀ v H',Off (mAt mp vs) H H'->Rep nP K H' d v->d.imm=true->D9 K mp outs vs H'->Q v H'
section
variable{K:PySem.W.Frag}
end
section rules
variable{X:Cx}{st:Stmt}
end rules
end RS
namespace L2
open PySem PySem.Spec PyProof.Rows
abbrev dM(A:Around)(h:Heap):Prop:=A.handled=none\/∃ x o vs,A.handled=some (.ref x)/\h.get? x=some o/\o.data=.fields vs/\vs[2]?=some .none
def dM.keeps(x:dM A h)(k:∀ b o vs,h.get? b=some o->o.data=.fields vs->A.handled=some (.ref b)->h'.get? b=some o):dM A h':=by
 rcases x with z | ⟨y,o,vs,h1,h2,h3,h4⟩
 ·exact .inl z
 ·exact .inr ⟨y,o,vs,h1,k _ _ _ h2 h3 h1,h3,h4⟩
section
def lU:entryFor table "proto.unchain" = some Builtin.«proto.unchain»:=entryFor_of_tree (by kernel_rfl)
def uQ(hd:dM A s.heap)(he:s.heap.get? e=some oe)(hf:oe.data=.fields vs)(hz:2<vs.size)(ne:A.handled≠some (.ref e))
 (k:∀ h',Heap.SameBut e s.heap h'->(∃ o,h'.get? e=some o/\o.cls=oe.cls)->E (.ref e) { s with heap:=h' }):wpAny (model prog w) A (raiseNew (.ref e):Sem α) Q E s:=by
 unfold raiseNew;refine wpAny_bind (wpAny_handled ?_)
 rcases hd with z | ⟨x,o,ws,h1,h2,h3,h4⟩
 ·rw[z];exact wpAny_bind (wpAny_pure (wpAny_throw (k s.heap (.refl ..) ⟨oe,he,rfl⟩)))
 ·rw[h1]
  have nx:(Value.ref x != Value.ref e)=true:=by
   rw[bne_iff_ne];intro q;exact ne (by rw[h1,q])
  dsimp only;rw[if_pos nx];refine wpAny_bind (wpAny_holding (wpAny_runValue (codeAny_builtin lU ?_)));unfold Builtin.«proto.unchain»;refine wpAny_bind (wpAny_field h2 h3 h4 ?_);rw[if_pos (by decide)];refine wpAny_bind (wpAny_pure (wpAny_pure ?_));show wpAny _ _ _ _ _ _;refine wpAny_bind ?_;show wpAny _ _ (setField (.ref e) 2 (.ref x)) _ _ _;refine wpAny_setField he hf hz (wpAny_throw (k _ (.update ..) ⟨_,Heap.get?_update_self _ he (Obj.isFreed_of_fields (Obj.data_mapFields hf _)),Obj.cls_mapFields ..⟩))
def k8(hd:dM A s.heap)(k:∀ h' e,(∀ b o,s.heap.get? b=some o->h'.get? b=some o)->(∃ o,h'.get? e=some o/\o.cls=.type "StopIteration")->E (.ref e) { s with heap:=h' }) :
  wpAny (model prog w) A (newExc (.type "StopIteration") []) (fun e s'=>wpAny (model prog w) A (raiseNew e:Sem α) Q E s') E s:=by
 simp only[newExc,newTuple];apply wpAny_bind;refine wpAny_newObj_type ?_ (by size_fits);apply wpAny_bind (m:=firstArgMember _ _);refine wpAny_of_eq (a:=Value.none) (by first | rfl | (simp only[firstArgMember];rfl)) ?_;refine wpAny_newObj_type ?_ (by size_fits);have hs:∀ b o,s.heap.get? b=some o->b≠(s.heap.push { cls:=.type "tuple",data:=.seq ([]:List Value).toArray }).objs.size:=fun b o e=>Nat.ne_of_lt (by rw[Heap.size_push];exact Nat.lt_succ_of_lt (Heap.lt_size e));refine uQ (hd.keeps fun b o vs e _ _=>Heap.get?_push_of_some _ (Heap.get?_push_of_some _ e)) (Heap.get?_push_size _ rfl) rfl (Nat.lt_of_lt_of_le (by decide:2<6) (by simp)) (fun q=>?_) fun h' sb ho=>k h' _ (fun b o e=>(sb.2 b (hs b o e)).trans (Heap.get?_push_of_some _ (Heap.get?_push_of_some _ e))) ho
 rcases hd with z | ⟨x,o,ws,h1,h2,_,_⟩
 ·rw[z]at q;cases q
 ·rw[h1]at q;cases q;exact hs _ _ h2 rfl
def iH{it l:Addr}{i:Nat}(hd:dM A s.heap)(ni:A.handled≠some (.ref it))(ho:s.heap.get? it=some o)(hdt:o.data=.fields #[.ref l,.int i 0])(hol:s.heap.get? l=some ol)(hdl:ol.data=.seq its nl)(hx:its[i]?=none)
 (k:∀ h' e,Heap.ExtBut it s.heap h'->(∃ o,h'.get? e=some o/\o.cls=.type "StopIteration")->E (.ref e) { s with heap:=h' }):wpAny (model prog w) A (Builtin.«list_iterator.__next__» ⟨[.ref it],[]⟩) Q E s:=by
 have n0:¬ ((Value.ref l == Value.none)=true):=Bool.false_ne_true;refine show wpAny _ _ (field (.ref it) 0 >>= _) _ _ s from wpAny_bind (wpAny_field ho hdt (x:=.ref l) rfl ?_);refine show wpAny _ _ (if(Value.ref l == Value.none)=true then _ else _) _ _ s from ?_;rw[if_neg n0];refine show wpAny _ _ (field (.ref it) 1 >>= _) _ _ s from wpAny_bind (wpAny_field ho hdt (x:=.int i 0) rfl ?_);refine show wpAny _ _ (seqItems? (.ref l) >>= _) _ _ s from wpAny_bind (wpAny_seqItems hol hdl ?_);simp only[Int.toNat_natCast,hx];refine wpAny_bind (wpAny_rule (wpAny_bind (wpAny_setField ho hdt (by simp) ?_)));refine show wpAny _ _ (newExc (.type "StopIteration") [] >>= _) _ _ _ from wpAny_bind ?_;have sb:=Heap.SameBut.update s.heap it (Obj.mapFields (·.setIfInBounds 0 Value.none));refine k8 (hd.keeps fun b u vs e _ hb=>(sb.2 b fun z=>ni (z▸hb)).trans e) fun h' e kk he=>k h' e (fun b u hb q=>kk b u ((sb.2 b hb).trans q)) he
def lY{it l:Addr}{i:Nat}(hd:dM A s.heap)(ni:A.handled≠some (.ref it))(hit:s.heap.IsListIter it l i)(hl:s.heap.IsList l its)(hx:its[i]?=none)
 (k:∀ h' e,Heap.ExtBut it s.heap h'->(∃ o,h'.get? e=some o/\o.cls=.type "StopIteration")->E (.ref e) { s with heap:=h' }):wpAny (model prog w) A (Builtin.SmallTypes.nextOf (.ref it)) Q E s:=by
 obtain⟨o,ho,hc,hdt⟩:=id hit;obtain⟨ol,hol,_,nl,hdl⟩:=hl;unfold Builtin.SmallTypes.nextOf;apply wpAny_bind;apply wpAny_callSpecial?_slot (name:=Str.ofString "__next__") hit.typeIs slot_listiter_next;refine wpAny_call_entry slot_listiter_next hit.typeIs entry_listiter_next ?_ (args_listiter_next _);exact iH hd ni ho hdt hol hdl hx k
def oM{it l:Addr}{i:Nat}(hd:dM A s.heap)(ni:A.handled≠some (.ref it))(hit:s.heap.IsListIter it l i)(hl:s.heap.IsList l its)(hx:its[i]?=none)
 (k:∀ h',Heap.ExtBut it s.heap h'->Q none { s with heap:=h' }):wpAny (model prog w) A (pyNext (.ref it)) Q E s:=by
 obtain⟨o,ho,hc,hdt⟩:=id hit;obtain⟨ol,hol,_,nl,hdl⟩:=hl;unfold pyNext;apply wpAny_bind;apply wpAny_attempt;apply wpAny_callSpecial?_slot (name:=Str.ofString "__next__") hit.typeIs slot_listiter_next;refine wpAny_call_entry slot_listiter_next hit.typeIs entry_listiter_next ?_ (args_listiter_next _);refine iH hd ni ho hdt hol hdl hx fun h' e eb he=>?_;apply wpAny_bind;refine wpAny_isInstance (T := "StopIteration") (b:=true) he isSubtype_stop ?_;exact wpAny_pure (k h' eb)
end
section
def mZ(hi:z.heap.IsTupleIter ti tp i)(ht:z.heap.IsTuple tp its)(hx:its[i]?=some x)
 (k:∀ g,g.IsTupleIter ti tp (i+1)->Heap.SameBut ti z.heap g->Q x { z with heap:=g }):wpAny (model prog w) A (Builtin.SmallTypes.nextOf (.ref ti)) Q E z:=by
 have hty:=hi.typeIs;obtain⟨⟨c1,d1,f1,s1⟩,g1,c1',f1'⟩:=hi;obtain⟨⟨c2,d2,f2,s2⟩,g2,c2',n2,f2'⟩:=ht;dsimp only at c1' f1' c2' f2';subst c1' f1' c2' f2';obtain⟨hp,g,d,tk,os⟩:=z;unfold Builtin.SmallTypes.nextOf;refine wpAny_bind (wpAny_callSpecial?_slot (name:=Str.ofString "__next__") hty F.slot_tuple_iterator_next (wpAny_call_entry F.slot_tuple_iterator_next hty F.entry_tuple_iterator_next ?_ (F.args_tuple_iterator_next_1 _)));unfold Builtin.«tuple_iterator.__next__»
 wp_walk using AutoSeq1.wpAny_loadPart' g1,AutoSeq1.wpAny_loadPart' g2
 have e:its[((i:Nat):Int).toNat]?=some x:=hx;rw[e];dsimp only;apply wpAny_bind;apply wpAny_setField g1 rfl (by simp);apply wpAny_pure;refine⟨x,rfl,?_⟩;apply wpAny_pure;apply k
 ·exact⟨_,Heap.get?_update_self _ g1 rfl,rfl,by simp[Obj.mapFields,rawInt]⟩
 ·exact Heap.SameBut.update ..
def pY(hd:dM A z.heap)(ni:A.handled≠some (.ref ti))(hi:z.heap.IsTupleIter ti tp i)(ht:z.heap.IsTuple tp its)(hx:its[i]?=none)
 (k:∀ g e,Heap.ExtBut ti z.heap g->(∃ o,g.get? e=some o/\o.cls=.type "StopIteration")->E (.ref e) { z with heap:=g }):wpAny (model prog w) A (Builtin.SmallTypes.nextOf (.ref ti)) Q E z:=by
 have hty:=hi.typeIs;obtain⟨⟨c1,d1,f1,s1⟩,g1,c1',f1'⟩:=hi;obtain⟨⟨c2,d2,f2,s2⟩,g2,c2',n2,f2'⟩:=ht;dsimp only at c1' f1' c2' f2';subst c1' f1' c2' f2';obtain⟨hp,g,d,tk,os⟩:=z;unfold Builtin.SmallTypes.nextOf;refine wpAny_bind (wpAny_callSpecial?_slot (name:=Str.ofString "__next__") hty F.slot_tuple_iterator_next (wpAny_call_entry F.slot_tuple_iterator_next hty F.entry_tuple_iterator_next ?_ (F.args_tuple_iterator_next_1 _)));unfold Builtin.«tuple_iterator.__next__»
 wp_walk using AutoSeq1.wpAny_loadPart' g1,AutoSeq1.wpAny_loadPart' g2
 have e:its[((i:Nat):Int).toNat]?=none:=hx;rw[e];dsimp only;apply wpAny_bind;apply wpAny_rule;apply wpAny_bind;apply wpAny_setField g1 rfl (by simp);unfold Builtin.SmallTypes.stopIteration;apply wpAny_bind;refine k8 (hd.keeps fun b u vs e _ hb=>(Heap.SameBut.update ..).extBut b u (fun z=>ni (z▸hb)) e) fun g e kp hc=>k g e (fun b o hb q=>kp b o ?_) hc;exact(Heap.SameBut.update ..).extBut b o hb q
def me(h:wpAny (model prog w) A m S (fun _ _=>False) z)(k:∀ a z1,S a z1->Q a z1):wpAny (model prog w) A m Q E z:=wpAny_mono h k fun _ _ f=>f.elim
def tm(h:∀ b,Q b z):wpAny (model prog w) A (pure b) Q E z:=wpAny_pure (h b)
def vT{x:Value}{S:Addr->Shared->Prop}(hx:∀ A:Around,wpAny (model prog w) A (pyIter x) (fun v z1=>∃ it,v=.ref it/\S it z1) (fun _ _=>False) z)
 (k:∀ it z1,S it z1->Q (.ref z1.heap.objs.size) { z1 with heap:=z1.heap.push { cls:=.type "enumerate",data:=.fields #[.none,.bool false,.ref it,rawInt 0,.none,.none] } }):wpAny (model prog w) A (call (.type "enumerate") [x]) Q E z:=by
 have body:MeetsIn prog w (Builtin.«enumerate.__new__» ⟨[.type "enumerate",x],[]⟩) (fun A R s=>s=z/\∀ it z1,S it z1->R (.ok (.ret (.ref z1.heap.objs.size))) { z1 with heap:=z1.heap.push { cls:=.type "enumerate",data:=.fields #[.none,.bool false,.ref it,rawInt 0,.none,.none] } }):=by
  rintro A R s ⟨rfl,hR⟩;have hsub:=sub_enumerate;have iter:=hx A.in1;obtain⟨hp,g,d,tk,os⟩:=s
  wp_walk
  refine wpAny_stack_any fun st=>tm fun b=>?_
  have done:∀ it z1,S it z1->wpAny (model prog w) A.in1 (do let r <- Builtin.SmallTypes.newRecord (.type "enumerate") (Builtin.SmallTypes.ownedTupleFields++[.ref it,rawInt 0,.none,.none]);ret r)
    (fun fin s'=>match fin with | .done f=>R (.ok f) s' | .again c'=>c'.quiet=true/\codeAny (model prog w) A c' R s') (fun e s'=>R (.error e) s') z1:=by
   intro it z1 h1;have:=hR it z1 h1;obtain⟨hp1,gg1,dd1,tk1,os1⟩:=z1
   wp_walk
   exact this
  cases b
  ·wp_walk using me iter
   rintro _ z1 ⟨it,rfl,h1⟩;exact done it z1 h1
  ·wp_walk using me iter
   rintro _ z1 ⟨it,rfl,h1⟩;exact done it z1 h1
 refine callType_newIn F.called_enumerate (by decide) (F.typeCall_enumerate_1 _) (F.newCall_enumerate_1 _) (fun obj=>F.args_object_init_2 obj _) F.entry_enumerate_new body ⟨rfl,fun it z1 h=>?_⟩;exact⟨⟨_,Heap.get?_push_size _ rfl,rfl⟩,k it z1 h⟩
def mz:jw prog w where
 draws:=fun hh ti tp hne its=>{
  live:=fun i h st=>let ⟨o,e,_⟩:=st.1;⟨o,e⟩
  frame:=fun i h h' st kp=>by
   obtain⟨⟨o1,e1,r1⟩,⟨o2,e2,r2⟩⟩:=st;exact⟨⟨o1,kp ti (by simp) _ e1,r1⟩,⟨o2,kp tp (by simp) _ e2,r2⟩⟩
  item:=fun i s Q E hi st k=>by
   refine mZ st.1 st.2 (x:=its[i]) (by simp[hi]) fun g h1 h2=>k its[i] g s.toks (by simp[hi]) ⟨h1,st.2.extBut h2.extBut hne⟩ h2
  done:=fun s Q E st k=>pY (.inl hh) (by rw[hh];exact fun z=>nomatch z) st.1 st.2 (by simp) fun g e h1 h2=>k g e h1 h2 }
 call:=fun {A E z tp its Q} ht k=>by
  refine vT (S:=fun it z1=>it=z.heap.objs.size/\z1={ z with heap:=z.heap.push { cls:=.type "tuple_iterator",data:=.fields #[.ref tp,rawInt 0] } }) (fun A=>wpAny_pyIter_tuple ht ⟨_,rfl,rfl,rfl⟩) ?_;rintro it z1 ⟨rfl,rfl⟩;have hz:(z.heap.push { cls:=.type "tuple_iterator",data:=.fields #[.ref tp,rawInt 0] }).objs.size=z.heap.objs.size+1:=Heap.size_push ..;dsimp only;rw[hz];refine k _ ?_ ⟨_,Heap.get?_push_of_some _ (Heap.get?_push_size _ rfl),rfl,rfl⟩ fun b o e=>Heap.get?_push_of_some _ (Heap.get?_push_of_some _ e);have:=Heap.get?_push_size (z.heap.push { cls:=.type "tuple_iterator",data:=.fields #[.ref tp,rawInt 0] }) (o:={ cls:=.type "enumerate",data:=.fields #[.none,.bool false,.ref z.heap.objs.size,rawInt 0,.none,.none] }) rfl;rw[hz]at this;exact this
end
end L2
namespace RS
open PySem PySem.Spec PyProof.Rows L2
section
variable{X:Cx}
def oS:∀ {bs:List Bool} {us:List Value},Vals (bs.map V.bl) us->us=bs.map Value.bool
 | [],_,h=>by cases h;rfl
 | b::bs,_,h=>by
  cases h with
  |cons r t=>
   cases r;rw[oS t];rfl
def vh{A:Around}{bs:List Bool}:TruthOf X.prog X.w A (fun i v=>(bs.map Value.bool).toArray[i]?=some v) (fun i=>bs.getD i false):=by
 intro i v s Q E hP q
 have hP':(bs.map Value.bool)[i]?=some v:=by simpa using hP
 rw[List.getElem?_map]at hP';obtain⟨b,h1,h2⟩:=map_some hP';subst h2
 have:bs.getD i false=b:=by rw[List.getD_eq_getElem?_getD,h1];rfl
 have q':Q b s:=this▸q;exact wpAny_truthy_bool q'
def range_all(bs:List Bool):(List.range bs.length).all (fun i=>bs.getD i false)=bs.all id:=by
 have:bs=(List.range bs.length).map fun i=>bs.getD i false:=by
  apply List.ext_getElem
  ·simp
  ·intro i h1 h2;simp[List.getD_eq_getElem?_getD,h1]
 conv=>rhs;rw[this]
 rw[List.all_map];rfl
abbrev zD(f:List Bool->Bool):List V->Hp->VK->Prop:=fun xs H Q=>∃ p bs,xs=[.ref p]/\H p=some (.lst (bs.map V.bl))/\Q (.bl (f bs)) H
def wm(hc:X.calm=true):bC X (.builtin "all") (zD fun bs=>bs.all id):=by
 intro pins s σ H xs us Q I r h;obtain⟨p,bs,rfl,hp,q⟩:=h
 cases r with
 |cons r rr=>
  cases rr;cases r;obtain⟨its,rv,hl,hz⟩:=I.list (SqL.of hp);have hits:=oS rv;subst hits
  have hlt:p<s.heap.objs.size:=by obtain⟨o,ho,_⟩:=hl.isList;exact Heap.lt_size ho
  refine call_all_walk (wpAny_pyIter_list hl.isList ?_);refine⟨s.heap.objs.size,_,[s.heap.objs.size],_,_,_,_,rfl,Walks.list (A:=X.A.in1) (I.ok.hd.1 hc) s.heap.objs.size p (Nat.ne_of_lt hlt) (bs.map Value.bool).toArray,⟨⟨_,Heap.get?_push_size _ rfl,rfl,rfl⟩,hl.isList.push _⟩,vh,fun h' tk hk=>?_⟩;refine⟨.bl (bs.all id),H,I.kept (t':=tk) (fun b o e=>hk b o (fun z=>?_) (Heap.get?_push_of_some _ e)),?_,q⟩
  ·rw[List.mem_singleton.mp z]at e;exact absurd (Heap.lt_size e) (Nat.lt_irrefl _)
  ·have:=range_all bs;show Value.bool _=Value.bool _;rw[<-this];simp
def nZ{P:Addr->Prop}{K:PySem.W.Frag}:∀ {ds:List RL.D} {bs:List Bool} {xs:List V},RL.ef ds=some bs->ai P K H ds xs->xs=bs.map V.bl
 | [],bs,xs,h,r=>by rw[RL.ef]at h;cases h;rw[ai]at r;exact r
 | d::ds,bs,xs,h,r=>by
  cases d<;>simp only[RL.ef]at h<;>first | (cases h;done) | skip
  rename_i b;obtain⟨bs',h1,h2⟩:=map_some h;subst h2;rw[ai]at r;obtain⟨x,t,rfl,r1,r2⟩:=r;rw[bf r1,nZ h1 r2];rfl
def Az(hc:X.calm=true)(hg:Gl X "all")(hm:X.mg "all" = none)(ha:SE X cl a a')(hn:noStar a=true):SE X cl (.Call (.Name "all" p) [a] [] pos) (.bi .all a'):=by
 refine iK (wm hc) hg hm (by decide +kernel) ha hn (by decide) (by decide) fun σD σ H H1 y d v Q e s1 r1 k=>?_
 cases y<;>first | (cases e;done) | skip
 case lst ds =>
  obtain⟨bs,e1,e2⟩:=map_some e;subst e2;obtain⟨q,xs,rfl,_,f2,f3⟩:=aP r1;rw[nZ e1 f3]at f2;exact⟨q,bs,rfl,f2,k _ _ (bT s1 m6 rfl)⟩
def yi(hg:Gl X "enumerate")(hm:X.mg "enumerate" = none)(ha:SE X cl a a')(hn:noStar a=true):SI X cl (.Tuple elts kx tp) (.Call (.Name "enumerate" p) [a] [] pos) (.enm a'):=zm mz hg hm ha hn
end
end RS
namespace L2
open PySem PySem.Spec PyProof.Rows
section
variable{prog:Program}{w:World}{A:Around}{E:Value->Shared->Prop}
def xT{x y:Value}{S1:Addr->Shared->Prop}{S2:Addr->Addr->Shared->Prop}{z:Shared}{Q:Value->Shared->Prop}(hx:∀ A:Around,wpAny (model prog w) A (pyIter x) (fun v z1=>∃ it,v=.ref it/\S1 it z1) (fun _ _=>False) z)
 (hy:∀ it z1,S1 it z1->∀ A:Around,wpAny (model prog w) A (pyIter y) (fun v z2=>∃ jt,v=.ref jt/\S2 it jt z2) (fun _ _=>False) z1)
 (k:∀ it jt z2,S2 it jt z2->Q (.ref (((z2.heap.push { cls:=.type "tuple",data:=.seq #[.ref it,.ref jt] }).push { cls:=.type "tuple",data:=.seq #[.none,.none] })).objs.size)
   { z2 with heap:=((z2.heap.push { cls:=.type "tuple",data:=.seq #[.ref it,.ref jt] }).push { cls:=.type "tuple",data:=.seq #[.none,.none] }).push { cls:=.type "zip",data:=.fields #[.none,.bool false,.bool false,.ref z2.heap.objs.size,.ref (z2.heap.push { cls:=.type "tuple",data:=.seq #[.ref it,.ref jt] }).objs.size] } }) :
  wpAny (model prog w) A (call (.type "zip") [x,y]) Q E z:=by
 have body:MeetsIn prog w (Builtin.«zip.__new__» ⟨[.type "zip",x,y],[]⟩) (fun A R s=>s=z/\∀ it jt z2,S2 it jt z2->R (.ok (.ret (.ref (((z2.heap.push { cls:=.type "tuple",data:=.seq #[.ref it,.ref jt] }).push { cls:=.type "tuple",data:=.seq #[.none,.none] })).objs.size)))
   { z2 with heap:=((z2.heap.push { cls:=.type "tuple",data:=.seq #[.ref it,.ref jt] }).push { cls:=.type "tuple",data:=.seq #[.none,.none] }).push { cls:=.type "zip",data:=.fields #[.none,.bool false,.bool false,.ref z2.heap.objs.size,.ref (z2.heap.push { cls:=.type "tuple",data:=.seq #[.ref it,.ref jt] }).objs.size] } }):=by
  rintro A R s ⟨rfl,hR⟩;have hsub:=sub_zip;have iter:=hx A.in1;obtain⟨hp,g,d,tk,os⟩:=s
  wp_walk using me iter
  rintro _ z1 ⟨it,rfl,h1⟩;have iter2:=hy it z1 h1 A.in1;obtain⟨hp1,gg1,dd1,tk1,os1⟩:=z1
  wp_walk using me iter2
  rintro _ z2 ⟨jt,rfl,h2⟩;have fin:=hR it jt z2 h2;obtain⟨hp2,gg2,dd2,tk2,os2⟩:=z2
  wp_walk
  exact fin
 refine callType_newIn F.called_zip (by decide) (F.typeCall_zip_2 _ _) (F.newCall_zip_2 _ _) (fun obj=>F.args_object_init_3 obj _ _) F.entry_zip_new body ⟨rfl,fun it jt z2 h=>?_⟩;exact⟨⟨_,Heap.get?_push_size _ rfl,rfl⟩,k it jt z2 h⟩
structure gM(z TI TO i1 i2:Addr)(fp1 fp2:List Addr):Prop where
 zTI:TI≠z
 zTO:TO≠z
 TT:TI≠TO
 i1z:i1≠z
 i2z:i2≠z
 DA:i1≠TO
 CS:i2≠TO
 i12:i1≠i2
 z1:z∉fp1
 z2:z∉fp2
 TO1:TO∉fp1
 TO2:TO∉fp2
 i1f:i1∉fp2
 i2f:i2∉fp1
def vX{z TI TO i1 i2:Addr}{fp1 fp2:List Addr}{n1 n2 k:Nat}{P1 P2:Nat->Value->Prop}{S1 S2:Nat->Heap->Prop}{a b:Value}{s:Shared}{Q:Value->Shared->Prop}(Z:gM z TI TO i1 i2 fp1 fp2)
 (D1:Draws prog w A i1 fp1 n1 P1 S1)(D2:Draws prog w A i2 fp2 n2 P2 S2)(hz:IsZip s.heap z TI TO .none)(hTI:IsPair s.heap TI (.ref i1) (.ref i2))(hTO:IsPair s.heap TO a b)(s1:S1 k s.heap)(s2:S2 k s.heap)(k1:k<n1)(k2:k<n2)
 (hQ:∀ x y g tk,P1 k x->P2 k y->IsZip g z TI TO (rawInt s.heap.objs.size)->IsPair g TO x y->S1 (k+1) g->S2 (k+1) g->IsPair g s.heap.objs.size x y->g.objs.size=s.heap.objs.size+1->(∀ c o,c≠z->c≠TO->c≠i1->c≠i2->s.heap.get? c=some o->g.get? c=some o)->Q (.ref s.heap.objs.size) { s with heap:=g,toks:=tk }) :
  wpAny (model prog w) A (Builtin.«zip.__next__» ⟨[.ref z],[]⟩) (fun fin s'=>∃ v,fin=.done (.ret v)/\Q v s') E s:=by
 obtain⟨hp,g,d,tk,os⟩:=s;have off:∀ (f:Obj->Obj) b o,b≠z->hp.get? b=some o->(hp.update z f).get? b=some o:=fun f b o hb e=>(Heap.SameBut.update ..).extBut b o hb e;have st1:∀ f:Obj->Obj,S1 k (hp.update z f):=fun f=>D1.frame k _ _ s1 fun b hb o e=>off f b o (fun q=>Z.z1 (q▸hb)) e;have st2:∀ f:Obj->Obj,S2 k (hp.update z f):=fun f=>D2.frame k _ _ s2 fun b hb o e=>off f b o (fun q=>Z.z2 (q▸hb)) e;unfold Builtin.«zip.__next__»
 wp_walk using AutoSeq1.wpAny_loadPart' hz,AutoSeq1.wpAny_loadPart' hTI,wpAny_onRaise,(D1.item k _ _ _ k1 (st1 _))
 intro x h1 t1 px st1' sb1;have q1:IsPair h1 TO a b:=sb1.extBut _ _ (Ne.symm Z.DA) (off _ TO _ Z.zTO hTO);have z1:IsZip h1 z TI TO .ellipsis:=sb1.extBut _ _ (Ne.symm Z.i1z) (Heap.get?_update_self _ hz rfl);have u1:=sb1.1;have c1:∀ c o,c≠z->c≠i1->hp.get? c=some o->h1.get? c=some o:=fun c o n1 n2 e=>sb1.extBut _ _ n2 (off _ c o n1 e);clear sb1 st1 st2
 wp_walk using AutoSeq1.wpAny_loadPart' q1,(wpAny_updateSeq_pair q1)
 intro h2 q2 sb2
 replace q2:IsPair h2 TO x b:=q2
 have z2:IsZip h2 z TI TO .ellipsis:=sb2.extBut _ _ (Ne.symm Z.zTO) z1;have c2:∀ c o,c≠z->c≠TO->c≠i1->hp.get? c=some o->h2.get? c=some o:=fun c o n1 n2 n3 e=>sb2.extBut _ _ n2 (c1 c o n1 n3 e);have e1:S1 (k+1) h2:=D1.frame _ _ _ st1' fun b hb o e=>sb2.extBut _ _ (fun q=>Z.TO1 (q▸hb)) e;have e2:S2 k h2:=D2.frame _ _ _ s2 fun b hb o e=>c2 b o (fun q=>Z.z2 (q▸hb)) (fun q=>Z.TO2 (q▸hb)) (fun q=>Z.i1f (q▸hb)) e;have u2:=sb2.1.trans u1;clear sb2 u1 c1 z1 q1
 wp_walk using wpAny_onRaise,(D2.item k _ _ _ k2 e2)
 intro y h3 t3 py f2 sb3;have q3:IsPair h3 TO x b:=sb3.extBut _ _ (Ne.symm Z.CS) q2;have z3:IsZip h3 z TI TO .ellipsis:=sb3.extBut _ _ (Ne.symm Z.i2z) z2;have f1:S1 (k+1) h3:=D1.frame _ _ _ e1 fun b hb o e=>sb3.extBut _ _ (fun q=>Z.i2f (q▸hb)) e;have c3:∀ c o,c≠z->c≠TO->c≠i1->c≠i2->hp.get? c=some o->h3.get? c=some o:=fun c o n1 n2 n3 n4 e=>sb3.extBut _ _ n4 (c2 c o n1 n2 n3 e);have u3:=sb3.1.trans u2;clear sb3 u2 c2 z2 q2 e1 e2
 wp_walk using AutoSeq1.wpAny_loadPart' q3,(wpAny_updateSeq_pair q3)
 intro h4 q4 sb4
 replace q4:IsPair h4 TO x y:=q4
 have z4:IsZip h4 z TI TO .ellipsis:=sb4.extBut _ _ (Ne.symm Z.zTO) z3;have g1:S1 (k+1) h4:=D1.frame _ _ _ f1 fun b hb o e=>sb4.extBut _ _ (fun q=>Z.TO1 (q▸hb)) e;have g2:S2 (k+1) h4:=D2.frame _ _ _ f2 fun b hb o e=>sb4.extBut _ _ (fun q=>Z.TO2 (q▸hb)) e;have c4:∀ c o,c≠z->c≠TO->c≠i1->c≠i2->hp.get? c=some o->h4.get? c=some o:=fun c o n1 n2 n3 n4 e=>sb4.extBut _ _ n2 (c3 c o n1 n2 n3 n4 e);have u4:=sb4.1.trans u3;clear sb4 u3 c3 z3 q3 f1 f2
 wp_walk using AutoSeq1.wpAny_loadPart' q4
 have u0:h4.objs.size=hp.objs.size:=u4.trans (Heap.SameBut.update ..).1;refine⟨_,rfl,?_⟩;show Q (.ref h4.objs.size) _;have zp:IsZip (h4.push { cls:=.type "tuple",data:=.seq #[x,y].toList.toArray }) z TI TO .ellipsis:=Heap.get?_push_of_some _ z4;have zlt:z<h4.objs.size:=Heap.lt_size z4
 have up:∀ (f f':Obj->Obj) c o,c≠z->(h4.push { cls:=.type "tuple",data:=.seq #[x,y].toList.toArray }).get? c=some o->(((h4.push { cls:=.type "tuple",data:=.seq #[x,y].toList.toArray }).update z f).update z f').get? c=some o:=fun f f' c o hc e =>
  (Heap.SameBut.update ..).extBut c o hc ((Heap.SameBut.update ..).extBut c o hc e)
 have goal:=hQ x y (((h4.push { cls:=.type "tuple",data:=.seq #[x,y].toList.toArray }).update z (Obj.mapFields (·.setIfInBounds 0 (rawInt h4.objs.size)))).update z (Obj.mapFields (·.setIfInBounds 1 (.bool false)))) t3 px py ?_ ?_ ?_ ?_ ?_ ?_ ?_
 ·rw[u0]at goal ⊢;exact goal
 ·rw[<-u0];exact Heap.get?_update_self _ (Heap.get?_update_self _ zp rfl) rfl
 ·exact up _ _ _ _ Z.zTO (Heap.get?_push_of_some _ q4)
 ·exact D1.frame _ _ _ g1 fun b hb o e=>up _ _ _ _ (fun q=>Z.z1 (q▸hb)) (Heap.get?_push_of_some _ e)
 ·exact D2.frame _ _ _ g2 fun b hb o e=>up _ _ _ _ (fun q=>Z.z2 (q▸hb)) (Heap.get?_push_of_some _ e)
 ·show IsPair _ hp.objs.size x y;rw[<-u0];exact up _ _ _ _ (Nat.ne_of_gt zlt) (Heap.get?_push_size _ rfl)
 ·refine((Heap.SameBut.update ..).1.trans ((Heap.SameBut.update ..).1.trans ((Heap.size_push ..).trans ?_)));show h4.objs.size+1=hp.objs.size+1;rw[u0]
 ·exact fun c o n1 n2 n3 n4 e=>up _ _ _ _ n1 (Heap.get?_push_of_some _ (c4 c o n1 n2 n3 n4 e))
def yd{z TI TO i1 i2:Addr}{fp1 fp2:List Addr}{n1:Nat}{P1:Nat->Value->Prop}{S1:Nat->Heap->Prop}{a b:Value}{s:Shared}{Q:Fin->Shared->Prop}(Z:gM z TI TO i1 i2 fp1 fp2)
 (D1:Draws prog w A i1 fp1 n1 P1 S1)(hz:IsZip s.heap z TI TO .none)(hTI:IsPair s.heap TI (.ref i1) (.ref i2))(hTO:IsPair s.heap TO a b)(s1:S1 n1 s.heap)
 (hE:∀ g e,(∀ c o,c≠z->c≠i1->s.heap.get? c=some o->g.get? c=some o)->(∃ o,g.get? e=some o/\o.cls=.type "StopIteration")->E (.ref e) { s with heap:=g }) :
  wpAny (model prog w) A (Builtin.«zip.__next__» ⟨[.ref z],[]⟩) Q E s:=by
 obtain⟨hp,g,d,tk,os⟩:=s;have off:∀ (f:Obj->Obj) b o,b≠z->hp.get? b=some o->(hp.update z f).get? b=some o:=fun f b o hb e=>(Heap.SameBut.update ..).extBut b o hb e;have st1:∀ f:Obj->Obj,S1 n1 (hp.update z f):=fun f=>D1.frame n1 _ _ s1 fun b hb o e=>off f b o (fun q=>Z.z1 (q▸hb)) e;unfold Builtin.«zip.__next__»
 wp_walk using AutoSeq1.wpAny_loadPart' hz,AutoSeq1.wpAny_loadPart' hTI,wpAny_onRaise,(D1.done _ _ _ (st1 _))
 rintro h1 e eb ⟨oe,he,hce⟩;have z1:IsZip h1 z TI TO .ellipsis:=eb _ _ (Ne.symm Z.i1z) (Heap.get?_update_self _ hz rfl)
 have ez:e≠z:=fun q=>by
  rw[q,z1]at he;have:=Option.some.inj he;rw[<-this]at hce;simp at hce
 refine wpAny_setField_rec z1 (by simp) fun h2 _ sb2=>?_;exact hE h2 e (fun c o n1 n2 q=>sb2.extBut _ _ n1 (eb _ _ n2 (off _ _ _ n1 q))) ⟨oe,sb2.extBut _ _ ez he,hce⟩
end
section
variable{prog:Program}{w:World}{A:Around}{E:Value->Shared->Prop}{z TI TO i1 i2:Addr}{fp1 fp2:List Addr}{n1 n2 k:Nat}{P1 P2:Nat->Value->Prop}{S1 S2:Nat->Heap->Prop}{a b:Value}{s:Shared}
def ve{Q:Option Value->Shared->Prop}(Z:gM z TI TO i1 i2 fp1 fp2)(D1:Draws prog w A.in1 i1 fp1 n1 P1 S1)(D2:Draws prog w A.in1 i2 fp2 n2 P2 S2)(hz:IsZip s.heap z TI TO .none)(hTI:IsPair s.heap TI (.ref i1) (.ref i2))(hTO:IsPair s.heap TO a b)(s1:S1 k s.heap)(s2:S2 k s.heap)(k1:k<n1)(k2:k<n2)
 (hQ:∀ x y g tk,P1 k x->P2 k y->IsZip g z TI TO (rawInt s.heap.objs.size)->IsPair g TO x y->S1 (k+1) g->S2 (k+1) g->IsPair g s.heap.objs.size x y->g.objs.size=s.heap.objs.size+1->(∀ c o,c≠z->c≠TO->c≠i1->c≠i2->s.heap.get? c=some o->g.get? c=some o)->Q (some (.ref s.heap.objs.size)) { s with heap:=g,toks:=tk }) :
  wpAny (model prog w) A (pyNext (.ref z)) Q E s:=by
 have hT:s.TypeIs (.ref z) "zip" := ⟨_,hz,rfl⟩
 unfold pyNext;apply wpAny_bind;apply wpAny_attempt;apply wpAny_callSpecial?_slot (name:=Str.ofString "__next__") hT F.slot_zip_next;refine wpAny_call_entry F.slot_zip_next hT F.entry_zip_next ?_ (F.args_zip_next_1 _);refine vX Z D1 D2 hz hTI hTO s1 s2 k1 k2 fun x y g tk px py q1 q2 q3 q4 q5 q6 q7=>?_;apply wpAny_pure;exact hQ x y g tk px py q1 q2 q3 q4 q5 q6 q7
def uU{Q:Option Value->Shared->Prop}(Z:gM z TI TO i1 i2 fp1 fp2)(D1:Draws prog w A.in1 i1 fp1 n1 P1 S1)(hz:IsZip s.heap z TI TO .none)(hTI:IsPair s.heap TI (.ref i1) (.ref i2))(hTO:IsPair s.heap TO a b)(s1:S1 n1 s.heap)
 (hQ:∀ g,(∀ c o,c≠z->c≠i1->s.heap.get? c=some o->g.get? c=some o)->Q none { s with heap:=g }):wpAny (model prog w) A (pyNext (.ref z)) Q E s:=by
 have hT:s.TypeIs (.ref z) "zip" := ⟨_,hz,rfl⟩
 unfold pyNext;apply wpAny_bind;apply wpAny_attempt;apply wpAny_callSpecial?_slot (name:=Str.ofString "__next__") hT F.slot_zip_next;refine wpAny_call_entry F.slot_zip_next hT F.entry_zip_next ?_ (F.args_zip_next_1 _);refine yd Z D1 hz hTI hTO s1 fun g e hk ⟨o,he,hc⟩=>?_;apply wpAny_bind;refine wpAny_isInstance (T := "StopIteration") (b:=true) ⟨_,he,hc⟩ isSubtype_stop ?_;apply wpAny_pure;exact hQ g hk
end
section
variable{s:Shared}
def dM.uD(hd:dM A s.heap):A.handled≠some (.ref s.heap.objs.size):=fun q=>by
 rcases hd with z | ⟨x,o,ws,h1,h2,_,_⟩
 ·rw[z]at q;cases q
 ·rw[h1]at q;cases q;exact Nat.lt_irrefl _ (Heap.lt_size h2)
def qP(hd:dM A s.heap)(ni:A.handled≠some (.ref it))(hit:IsTupIter s.heap it t i)(ht:IsTup s.heap t its)(hx:its[i]?=none)
 (k:∀ h',Heap.ExtBut it s.heap h'->Q none { s with heap:=h' }):wpAny (model prog w) A (pyNext (.ref it)) Q E s:=by
 obtain⟨o,ho,hc,hdt⟩:=id hit;obtain⟨ol,hol,_,nl,hdl⟩:=ht;unfold pyNext;apply wpAny_bind;apply wpAny_attempt;apply wpAny_callSpecial?_slot (name:=Str.ofString "__next__") hit.typeIs slot_tupleiter_next;refine wpAny_call_entry slot_tupleiter_next hit.typeIs entry_tupleiter_next ?_ (args_tupleiter_next _);have n0:¬ ((Value.ref t == Value.none)=true):=Bool.false_ne_true;refine show wpAny _ _ (field (.ref it) 0 >>= _) _ _ s from wpAny_bind (wpAny_field ho hdt (x:=.ref t) rfl ?_);refine show wpAny _ _ (if(Value.ref t == Value.none)=true then _ else _) _ _ s from ?_;rw[if_neg n0];refine show wpAny _ _ (field (.ref it) 1 >>= _) _ _ s from wpAny_bind (wpAny_field ho hdt (x:=.int i 0) rfl ?_);refine show wpAny _ _ (seqItems? (.ref t) >>= _) _ _ s from wpAny_bind (wpAny_seqItems hol hdl ?_);simp only[Int.toNat_natCast,hx];refine wpAny_bind (wpAny_rule (wpAny_bind (wpAny_setField ho hdt (by simp) ?_)));refine show wpAny _ _ (newExc (.type "StopIteration") [] >>= _) _ _ _ from wpAny_bind ?_;have sb:=Heap.SameBut.update s.heap it (Obj.mapFields (·.setIfInBounds 0 Value.none));refine k8 (hd.keeps fun b u vs e _ hb=>(sb.2 b fun z=>ni (z▸hb)).trans e) fun h' e kk he=>?_;apply wpAny_bind;refine wpAny_isInstance (T := "StopIteration") (b:=true) he isSubtype_stop ?_;exact wpAny_pure (k h' fun b u hb q=>kk b u ((sb.2 b hb).trans q))
def take_all{its:Array Value}:List.take its.size (List.drop 0 its.toList)=its.toList:=by
 rw[List.drop_zero,List.take_of_length_le (by simp)]
def qG{t:Addr}(hd:dM A s.heap)(ht:IsTup s.heap t its)(k:∀ h',Heap.ExtBut s.heap.objs.size s.heap h'->Q its.toList { s with heap:=h' }):wpAny (model prog w) A (unpackItems (.ref t) its.size none) Q E s:=by
 have hlt:t≠s.heap.objs.size:=Nat.ne_of_lt ht.lt;have nn:=hd.uD;unfold unpackItems;apply wpAny_bind;unfold notIterableAtAll;apply wpAny_bind;refine wpAny_specialOf ht.typeIs slot_tuple_iter.lookup (wpAny_pure ?_);simp only[Bool.false_eq_true,if_false];apply wpAny_bind;refine wpAny_holding (iter_tuple ht ?_);apply wpAny_bind;refine wpAny_holding (draw_tuple hlt its.size 0 _ _ ⟨_,Heap.get?_push_size _ rfl,rfl,rfl⟩ (ht.push _) (by omega) fun g hit sb=>?_);rw[take_all,if_neg (by simp)];apply wpAny_bind;refine wpAny_holding (qP (hd.keeps fun b o vs e _ hb=>(sb.2 b fun z=>nn (z▸hb)).trans (Heap.get?_push_of_some _ e)) nn hit ((ht.push _).extBut sb.extBut hlt) (by simp) fun g2 eb=>?_);simp only[Option.isSome_none,Bool.false_eq_true,if_false];exact wpAny_pure (k g2 fun b o hb e=>eb b o hb (sb.extBut b o hb (Heap.get?_push_of_some _ e)))
def rh{l:Addr}(hd:dM A s.heap)(hl:s.heap.IsList l its)(k:∀ h',Heap.ExtBut s.heap.objs.size s.heap h'->Q its.toList { s with heap:=h' }):wpAny (model prog w) A (unpackItems (.ref l) its.size none) Q E s:=by
 have hlt:l≠s.heap.objs.size:=let ⟨o,ho,_⟩:=hl;Nat.ne_of_lt (Heap.lt_size ho);have nn:=hd.uD;unfold unpackItems;apply wpAny_bind;unfold notIterableAtAll;apply wpAny_bind;refine wpAny_specialOf hl.typeIs slot_list_iter.lookup (wpAny_pure ?_);simp only[Bool.false_eq_true,if_false];apply wpAny_bind;refine wpAny_holding (wpAny_pyIter_list hl ?_);apply wpAny_bind;refine wpAny_holding (PySem.W.kun_draw hlt its.size 0 _ _ ⟨_,Heap.get?_push_size _ rfl,rfl,rfl⟩ (hl.push _) (by omega) fun g hit sb=>?_);rw[take_all,if_neg (by simp)];apply wpAny_bind;refine wpAny_holding (oM (hd.keeps fun b o vs e _ hb=>(sb.2 b fun z=>nn (z▸hb)).trans (Heap.get?_push_of_some _ e)) nn hit ((hl.push _).extBut sb.extBut hlt) (by simp) fun g2 eb=>?_);simp only[Option.isSome_none,Bool.false_eq_true,if_false];exact wpAny_pure (k g2 fun b o hb e=>eb b o hb (sb.extBut b o hb (Heap.get?_push_of_some _ e)))
def wq(hh:A.handled=some (.ref x))(hd:ox.data=.fields xs)(h2:xs[2]?=some .none)(nx:x≠it)(hne:l≠it)(its:Array Value) :
  Draws prog w A it [it,l,x] its.size (fun i v=>its[i]?=some v) (fun i h=>(h.IsListIter it l i/\h.IsList l its)/\h.get? x=some ox) where
 live:=fun _ _ st=>let ⟨o,ho,_⟩:=st.1.1;⟨o,ho⟩
 frame:=fun _ _ _ st hk=>⟨⟨st.1.1.at fun o e=>hk it (by simp) o e,st.1.2.at fun o e=>hk l (by simp) o e⟩,hk x (by simp) _ st.2⟩
 item:=fun i s Q E hi st hQ=>wpAny_nextOf_list_item st.1.1 st.1.2 (x:=its[i]) (by simp[hi]) fun h' hit' hs'=>hQ _ h' s.toks (by simp[hi]) ⟨⟨hit',st.1.2.extBut hs'.extBut hne⟩,(hs'.2 x nx).trans st.2⟩ hs'
 done:=fun s Q E st hE=>lY (.inr ⟨x,ox,xs,hh,st.2,hd,h2⟩) (fun q=>by rw[hh]at q;cases q;exact nx rfl) st.1.1 st.1.2 (by simp) hE
def tq(hh:A.handled=some (.ref x))(hd:ox.data=.fields xs)(h2:xs[2]?=some .none)(nx:x≠it)(hne:l≠it)(its:Array Value) :
  Draws prog w A it [it,l,x] its.size (fun i v=>its[i]?=some v) (fun i h=>(h.IsTupleIter it l i/\h.IsTuple l its)/\h.get? x=some ox) where
 live:=fun _ _ st=>let ⟨o,ho,_⟩:=st.1.1;⟨o,ho⟩
 frame:=fun _ _ _ st hk=>by
  obtain⟨⟨⟨o1,e1,r1⟩,⟨o2,e2,r2⟩⟩,e3⟩:=st;exact⟨⟨⟨o1,hk it (by simp) _ e1,r1⟩,⟨o2,hk l (by simp) _ e2,r2⟩⟩,hk x (by simp) _ e3⟩
 item:=fun i s Q E hi st k=>mZ st.1.1 st.1.2 (x:=its[i]) (by simp[hi]) fun g g1 g2=>k its[i] g s.toks (by simp[hi]) ⟨⟨g1,st.1.2.extBut g2.extBut hne⟩,(g2.2 x nx).trans st.2⟩ g2
 done:=fun s Q E st hE=>pY (.inr ⟨x,ox,xs,hh,st.2,hd,h2⟩) (fun q=>by rw[hh]at q;cases q;exact nx rfl) st.1.1 st.1.2 (by simp) hE
end
section
def Inv.hd(I:Inv X pins σ H s):dM X.A s.heap:=by
 rcases I.ok.hd.2 with z | ⟨h,o,u,vs,h1,h2,h3,h4⟩
 ·exact .inl z
 ·exact .inr ⟨h,o,vs,h1,(I.hok _ _ (I.base.cL _ _ _ h2)).1,h3,h4⟩
end
inductive SK where
 | t
 | l
 | f (o:Obj)
abbrev SK.tp:SK->Bool
 | .t=>true
 | _=>false
abbrev cZ:SK->List V->HO
 | .t,xs=>.tup xs
 | .l,xs=>.lst xs
 | .f o,xs=>.frz o (.lst xs)
def pZ{K:PySem.W.Frag}{k:SK}{H:Hp}(h:k.tp=false)(hx:H l=some (cZ k xs)):SqL K H l xs:=by
 cases k with
 | t=>cases h
 | l=>exact SqL.of hx
 | f o=>exact .inl (.inr ⟨o,hx⟩)
def pq{k:SK}{H:Hp}(h:k.tp=true)(hx:H l=some (cZ k xs)):H l=some (.tup xs):=by
 cases k with
 | t=>exact hx
 | l=>cases h
 | f o=>cases h
abbrev gB(t:Bool)(it l:Addr)(i:Nat)(h:Heap):Prop:=if t then h.IsTupleIter it l i else h.IsListIter it l i
def gB.obj(st:gB t it l i h):∃ o,h.get? it=some o/\∀ v,o.data≠.cell v:=by
 cases t with
 | true=>exact let ⟨o,ho,_,hd⟩:=(show h.IsTupleIter it l i from st);⟨o,ho,fun v q=>by rw[hd]at q;cases q⟩
 | false=>exact let ⟨o,ho,_,hd⟩:=(show h.IsListIter it l i from st);⟨o,ho,fun v q=>by rw[hd]at q;cases q⟩
def gB.keep(st:gB t it l i h)(k:∀ o,h.get? it=some o->h'.get? it=some o):gB t it l i h':=by
 cases t with
 | true=>exact let ⟨o,ho,r⟩:=(show h.IsTupleIter it l i from st);⟨o,k o ho,r⟩
 | false=>exact(show h.IsListIter it l i from st).at fun o q=>k o q
def gi{k:SK}(I:Inv X pins σ H s)(hi:H it=none)(hx0:H l=some (cZ k xs))(ht:k.tp=t) :
  ∃ (fp:List Addr) (Pv:Nat->Value->Prop) (St:Nat->Heap->Prop),Draws X.prog X.w X.A.in1 it fp xs.length Pv St/\(∀ b∈fp,b=it\/H b≠none)/\(∀ i,gB t it l i s.heap->St i s.heap)/\(∀ i h,St i h->gB t it l i h)/\∀ i v,Pv i v->∃ x,xs[i]?=some x/\RelV x v:=by
 have back:∀ {its:List Value},Vals xs its->∀ (i:Nat) (v:Value),its.toArray[i]?=some v->∃ x,xs[i]?=some x/\RelV x v:=fun {its} rv i v hv=>by
  have hv:its[i]?=some v:=by simpa using hv
  have hlt:i<xs.length:=by rw[rv.length];exact(List.getElem?_eq_some_iff.mp hv).1
  obtain⟨u,h1,h2⟩:=rv.get (i:=i) (x:=xs[i]) (by simp[hlt]);rw[hv]at h1;cases h1;exact⟨xs[i],by simp[hlt],h2⟩
 have two:∀ {u:HO},H l=some u->∀ b∈[it,l],b=it\/H b≠none:=fun {u} e b hb=>by
  rcases List.mem_cons.mp hb with z | z
  ·exact .inl z
  ·rw[List.mem_singleton.mp z,e]
   exact .inr fun z=>nomatch z
 rcases I.ok.hd.2 with hh | ⟨x,ox,ux,ws,hh,g1,g2,g3⟩
 ·cases t with
  |true=>
   have hx:H l=some (.tup xs):=pq ht hx0;obtain⟨its,rv,p,hz⟩:=I.tuple (SqT.of hx);have D:=mz.draws (prog:=X.prog) (w:=X.w) (A:=X.A.in1) hh it l (aJ hx hi) its.toArray;rw[show its.toArray.size=xs.length by rw[List.size_toArray,rv.length]]at D;exact⟨_,_,_,D,two hx,fun i st=>⟨st,p⟩,fun i h st=>st.1,back rv⟩
  |false=>
   have hx:=hx0;obtain⟨its,rv,p,hz⟩:=I.list (pZ ht hx);have D:=Draws.list (prog:=X.prog) (w:=X.w) (A:=X.A.in1) hh it l (aJ hx hi) its.toArray;rw[show its.toArray.size=xs.length by rw[List.size_toArray,rv.length]]at D;exact⟨_,_,_,D,two hx,fun i st=>⟨st,p.isList⟩,fun i h st=>st.1,back rv⟩
 ·have hxx:=I.base.cL _ _ _ g1;have hxo:s.heap.get? x=some ox:=(I.hok _ _ hxx).1;have nx:x≠it:=aJ hxx hi
  have three:∀ {u:HO},H l=some u->∀ b∈[it,l,x],b=it\/H b≠none:=fun {u} e b hb=>by
   simp only[List.mem_cons,List.mem_nil_iff,or_false]at hb;rcases hb with z | z | z
   ·exact .inl z
   ·rw[z,e]
    exact .inr fun z=>nomatch z
   ·rw[z,hxx]
    exact .inr fun z=>nomatch z
  cases t with
  |true=>
   have hx:H l=some (.tup xs):=pq ht hx0;obtain⟨its,rv,p,hz⟩:=I.tuple (SqT.of hx);have D:=tq (prog:=X.prog) (w:=X.w) (A:=X.A.in1) hh g2 g3 nx (aJ hx hi) its.toArray;rw[show its.toArray.size=xs.length by rw[List.size_toArray,rv.length]]at D;exact⟨_,_,_,D,three hx,fun i st=>⟨⟨st,p⟩,hxo⟩,fun i h st=>st.1.1,back rv⟩
  |false=>
   have hx:=hx0;obtain⟨its,rv,p,hz⟩:=I.list (pZ ht hx);have D:=wq (prog:=X.prog) (w:=X.w) (A:=X.A.in1) hh g2 g3 nx (aJ hx hi) its.toArray;rw[show its.toArray.size=xs.length by rw[List.size_toArray,rv.length]]at D;exact⟨_,_,_,D,three hx,fun i st=>⟨⟨st,p.isList⟩,hxo⟩,fun i h st=>st.1.1,back rv⟩
abbrev Itz(t1 t2:SK)(l1 l2:Addr):It :=
 ⟨fun i H=>∃ xs ys x y,H l1=some (cZ t1 xs)/\H l2=some (cZ t2 ys)/\xs[i]?=some x/\ys[i]?=some y,
   fun i H v H'=>∃ p x y,H p=none/\v=.ref p/\H'=upd H p (.tup [x,y])/\(∀ xs,H l1=some (cZ t1 xs)->xs[i]?=some x)/\∀ ys,H l2=some (cZ t2 ys)->ys[i]?=some y,
   fun i H=>∃ xs ys,H l1=some (cZ t1 xs)/\H l2=some (cZ t2 ys)/\xs.length=i/\ys.length=i⟩
def nr(h:cZ t xs=cZ t ys):xs=ys:=by
 cases t with
 | t=>injection h
 | l=>injection h
 | f o=>injection h with _ h;injection h
def vb{P:Program}{w:World}{K:PySem.W.Frag}{elts:List Expr}{kx:Nat}{tp:Pos}{t1 t2:SK}{z TI TO i1 i2 l1 l2:Addr}(n1:TI≠z)(n2:TO≠z)(n3:TI≠TO)(n4:i1≠z)(n5:i2≠z)(n6:i1≠TO)(n7:i2≠TO)(n8:i1≠i2)(n9:i1≠TI)(n10:i2≠TI) :
  jY (fun _=>True) P w K (.Tuple elts kx tp) (Itz t1 t2 l1 l2) [z,TI,TO,i1,i2] z (fun i h=>IsZip h z TI TO .none/\IsPair h TI (.ref i1) (.ref i2)/\(∃ a b,IsPair h TO a b)/\gB t1.tp i1 l1 i h/\gB t2.tp i2 l2 i h) where
 mem:=by simp
 obj:=fun i h st b hb=>by
  obtain⟨h1,h2,⟨a,c,h3⟩,h4,h5⟩:=st;simp only[List.mem_cons,List.mem_nil_iff,or_false]at hb;rcases hb with rfl | rfl | rfl | rfl | rfl
  ·exact⟨_,h1,fun v q=>by cases q⟩
  ·exact⟨_,h2,fun v q=>by cases q⟩
  ·exact⟨_,h3,fun v q=>by cases q⟩
  ·exact h4.obj
  ·exact h5.obj
 keep:=fun i h h' st k=>by
  obtain⟨h1,h2,⟨a,c,h3⟩,h4,h5⟩:=st;exact⟨k z (by simp) _ h1,k TI (by simp) _ h2,⟨a,c,k TO (by simp) _ h3⟩,h4.keep fun o q=>k i1 (by simp) o q,h5.keep fun o q=>k i2 (by simp) o q⟩
 item:=by
  intro X hP hw hK hc i pins s σ H E I hf st hg;subst hP hw hK;obtain⟨h1,h2,⟨a,c,h3⟩,h4,h5⟩:=st;obtain⟨xs,ys,x,y,hx,hy,ex,ey⟩:=hg;have f:∀ b∈[z,TI,TO,i1,i2],H b=none:=fun b hb=>(hf b hb).1;obtain⟨fp1,Pv1,St1,D1,m1,a1,a2,a3⟩:=gi I (f i1 (by simp)) hx rfl;obtain⟨fp2,Pv2,St2,D2,m2,b1,b2,b3⟩:=gi I (f i2 (by simp)) hy rfl;have no:∀ {fp:List Addr} {i b:Addr},(∀ b∈fp,b=i\/H b≠none)->b∈[z,TI,TO,i1,i2]->b≠i->b∉fp:=fun m hb n z=>(m _ z).elim n fun q=>q (f _ hb)
  have Z:gM z TI TO i1 i2 fp1 fp2:=⟨n1,n2,n3,n4,n5,n6,n7,n8,no m1 (by simp) (Ne.symm n4),no m2 (by simp) (Ne.symm n5),no m1 (by simp) (Ne.symm n6),no m2 (by simp) (Ne.symm n7),no m2 (by simp) n8,no m1 (by simp) (Ne.symm n8)⟩
  refine ve Z D1 D2 h1 h2 h3 (a1 i h4) (b1 i h5) (List.getElem?_eq_some_iff.mp ex).1 (List.getElem?_eq_some_iff.mp ey).1 fun u v g tk pu pv g1 g2 g3 g4 g5 g6 g7=>?_;obtain⟨x',ex',rx⟩:=a3 i u pu;obtain⟨y',ey',ry⟩:=b3 i v pv;rw[ex]at ex';rw[ey]at ey';cases ex';cases ey';refine⟨.ref s.heap.objs.size,rfl,wpAny_letOwnedTupleGo_zip g1 fun g' gz' sb=>?_⟩;have hn:H s.heap.objs.size=none:=I.hok.fresh (Nat.le_refl _)
  have I1:Inv X pins σ (upd H s.heap.objs.size (.tup [x,y])) { s with heap:=s.heap.push { cls:=.type "tuple",data:=.seq #[u,v] },toks:=tk } :=
   I.laid (t':=tk) (fun b o q=>Heap.get?_push_of_some _ q) (Nat.le_refl _) ⟨by show 2<=sizeLine;decide,[u,v],.cons rx (.cons ry .nil),⟨_,Heap.get?_push_size _ rfl,rfl,_,rfl⟩⟩
  have lt:∀ b∈[z,TI,TO,i1,i2],b≠s.heap.objs.size:=fun b hb=>by
   have:∃ o,s.heap.get? b=some o:=by
    simp only[List.mem_cons,List.mem_nil_iff,or_false]at hb;rcases hb with rfl | rfl | rfl | rfl | rfl
    ·exact⟨_,h1⟩
    ·exact⟨_,h2⟩
    ·exact⟨_,h3⟩
    ·exact let ⟨o,q,_⟩:=h4.obj;⟨o,q⟩
    ·exact let ⟨o,q,_⟩:=h5.obj;⟨o,q⟩
   obtain⟨o,q⟩:=this;exact Nat.ne_of_lt (Heap.lt_size q)
  have stat:∀ b∈[z,TI,TO,i1,i2],upd H s.heap.objs.size (.tup [x,y]) b=none/\(b∈X.ex\/X.s₀.heap.objs.size<=b)/\b≠X.env.locals/\(∀ x c,X.env.cells.lookup x=some c->c≠b)/\∀ p∈X.pn++pins,p.1≠b:=fun b hb=>by
   obtain⟨f0,f1,f2,f3,f4,f5⟩:=hf b hb;exact⟨by rw[aE (lt b hb)];exact f0,f3,f1,f4,f5⟩
  have I2:Inv X pins σ (upd H s.heap.objs.size (.tup [x,y])) { s with heap:=g',toks:=tk }:=by
   refine Inv.k9 (s:={ s with heap:=s.heap.push { cls:=.type "tuple",data:=.seq #[u,v] },toks:=tk }) (h':=g') (t':=tk) (fp:=[z,TI,TO,i1,i2]) I1 (fun b o hb q=>?_) stat;simp only[List.mem_cons,List.mem_nil_iff,or_false,not_or]at hb;refine sb.extBut b o hb.1 ?_;by_cases hbT:b=s.heap.objs.size
   ·subst hbT;have q':(s.heap.push { cls:=.type "tuple",data:=.seq #[u,v] }).get? s.heap.objs.size=some o:=q;rw[Heap.get?_push_size _ rfl]at q';cases q';exact g5
   ·exact g7 b o hb.1 hb.2.2.1 hb.2.2.2.1 hb.2.2.2.2 ((Heap.get?_push_ne _ _ _ hbT).symm.trans q)
  have kp:∀ b∈[TI,TO,i1,i2],∀ o,g.get? b=some o->g'.get? b=some o:=fun b hb o q=>sb.extBut b o (fun e=>by
   subst e;simp only[List.mem_cons,List.mem_nil_iff,or_false]at hb;rcases hb with e | e | e | e
   ·exact n1 e.symm
   ·exact n2 e.symm
   ·exact n4 e.symm
   ·exact n5 e.symm) q
  refine⟨.ref s.heap.objs.size,_,I2,rfl,⟨s.heap.objs.size,x,y,hn,rfl,rfl,fun xs' hx'=>?_,fun ys' hy'=>?_⟩,⟨gz',kp TI (by simp) _ (g7 TI _ n1 n3 (Ne.symm n9) (Ne.symm n10) h2),⟨u,v,kp TO (by simp) _ g2⟩,(a2 _ _ g3).keep fun o q=>kp i1 (by simp) o q,(b2 _ _ g4).keep fun o q=>kp i2 (by simp) o q⟩,fun b hb=>(stat b hb).1⟩
  ·rw[hx]at hx';rw[<-nr (Option.some.inj hx')];exact ex
  ·rw[hy]at hy';rw[<-nr (Option.some.inj hy')];exact ey
 done:=by
  intro X hP hw hK hc i pins s σ H E I hf st hg;subst hP hw hK;obtain⟨h1,h2,⟨a,c,h3⟩,h4,h5⟩:=st;obtain⟨xs,ys,hx,hy,ex,ey⟩:=hg;have f:∀ b∈[z,TI,TO,i1,i2],H b=none:=fun b hb=>(hf b hb).1;obtain⟨fp1,Pv1,St1,D1,m1,a1,a2,a3⟩:=gi I (f i1 (by simp)) hx rfl;obtain⟨fp2,_,_,_,m2,_⟩:=gi I (f i2 (by simp)) hy rfl;have no:∀ {fp:List Addr} {i b:Addr},(∀ b∈fp,b=i\/H b≠none)->b∈[z,TI,TO,i1,i2]->b≠i->b∉fp:=fun m hb n z=>(m _ z).elim n fun q=>q (f _ hb)
  have Z:gM z TI TO i1 i2 fp1 fp2:=⟨n1,n2,n3,n4,n5,n6,n7,n8,no m1 (by simp) (Ne.symm n4),no m2 (by simp) (Ne.symm n5),no m1 (by simp) (Ne.symm n6),no m2 (by simp) (Ne.symm n7),no m2 (by simp) n8,no m1 (by simp) (Ne.symm n8)⟩
  subst ex
  refine uU Z D1 h1 h2 h3 (a1 _ h4) fun g hk=>⟨rfl,?_⟩
  refine Inv.k9 (h':=g) (t':=s.toks) (fp:=[z,i1]) I (fun b o hb q=>?_) fun b hb=>?_
  ·simp only[List.mem_cons,List.mem_nil_iff,or_false,not_or]at hb;exact hk b o hb.1 hb.2 q
  ·have hb':b∈[z,TI,TO,i1,i2]:=by
    simp only[List.mem_cons,List.mem_nil_iff,or_false]at hb ⊢;rcases hb with q | q
    ·exact .inl q
    ·exact .inr (.inr (.inr (.inl q)))
   obtain⟨f0,f1,f2,f3,f4,f5⟩:=hf b hb';exact⟨f0,f3,f1,f4,f5⟩
 self:=fun A i s Q E st h=>wpAny_pyIter_zip st.1 h
def jY.calm{P:Program}{w:World}{K:PySem.W.Frag}(T:jY (fun _=>True) P w K tg J fp it tn):Turn P w K tg J fp it tn where
 mem:=T.mem
 obj:=T.obj
 keep:=T.keep
 item:=fun X a b c hc i pins s σ H E I=>T.item X a b c trivial i pins s σ H E I
 done:=fun X a b c hc i pins s σ H E I=>T.done X a b c trivial i pins s σ H E I
 self:=T.self
def PI'.calm(h:PI' (fun _=>True) X tg iter wi):PI X tg iter wi:=fun pins s σ H R I q =>
 thn (h pins s σ H R I q) fun v s1 h1=>thn h1 fun itv s2 ⟨it,fp,tn,J,H',e,I',T,r⟩=>⟨it,fp,tn,J,H',e,I',T.calm,r⟩
abbrev cR(t:Bool)(l:Addr):Obj:=if t then { cls:=.type "tuple_iterator",data:=.fields #[.ref l,rawInt 0] } else { cls:=.type "list_iterator",data:=.fields #[.ref l,.int 0 0] }
def oh(e:h.get? it=some (cR t l)):gB t it l 0 h:=by
 cases t with
 | true=>exact⟨_,e,rfl,rfl⟩
 | false=>exact⟨_,e,rfl,rfl⟩
def nv{t:SK}(I:Inv X pins σ H s)(hx:H l=some (cZ t xs))(q:Q (.ref s.heap.objs.size) { s with heap:=s.heap.push (cR t.tp l) }):wpAny (model X.prog X.w) A (pyIter (.ref l)) Q E s:=by
 cases t with
 |t=>
  obtain⟨its,rv,p,hz⟩:=I.tuple (SqT.of (show H l=some (.tup xs)from hx));exact wpAny_pyIter_tuple p q
 |l=>
  obtain⟨its,rv,p,hz⟩:=I.list (SqL.of (show H l=some (.lst xs)from hx));exact wpAny_pyIter_list p.isList q
 |f o=>
  obtain⟨its,rv,p,hz⟩:=I.list (show SqL X.K H l xs from .inl (.inr ⟨o,hx⟩));exact wpAny_pyIter_list p.isList q
section
abbrev D7(ta:TA):TI:=fun σ H R=>ta σ H fun vs H1=>∃ t1 t2 l1 l2 xs ys,vs=[.ref l1,.ref l2]/\H1 l1=some (cZ t1 xs)/\H1 l2=some (cZ t2 ys)/\R (Itz t1 t2 l1 l2) H1
def far(n a b:Nat)(h:a≠b):n+a≠n+b:=fun q=>h (Nat.add_left_cancel q)
def rS:bootBuiltins "zip" = some (.type "zip"):=by decide +kernel
def AH(hg:Gl X "zip")(hm:X.mg "zip" = none)(ha:PA X [a,b] ta)(hs:starEach [a,b] X.env=[(false,eval a X.env),(false,eval b X.env)])(hs2:starEach [b] X.env=[(false,eval b X.env)]):PI' (fun _=>True) X (.Tuple elts kx tp) (.Call (.Name "zip" p) [a,b] [] pos) (D7 ta):=by
 intro pins s0 σ H0 R I0 h;refine Call_ (gR I0 hg hm rS (PyProof.Rows.callWith_type1 (thn (ha pos pins s0 σ H0 _ I0 h) fun us s ⟨vs,H,I,r1,q1⟩=>?_) (by rw[hs,hs2]) (by rw[hs2];rfl)) (by decide) (by decide));obtain⟨t1,t2,l1,l2,xs,ys,rfl,hx,hy,q⟩:=q1
 cases r1 with
 |cons r rr=>
  cases rr with
  |cons r2 rr=>
   cases rr;cases r;cases r2;have I1:Inv X pins σ H { s with heap:=s.heap.push (cR t1.tp l1) }:=I.kept (t':=s.toks) fun b o e=>Heap.get?_push_of_some _ e
   refine xT (S1:=fun it z1=>it=s.heap.objs.size/\z1={ s with heap:=s.heap.push (cR t1.tp l1) }) (S2:=fun it jt z2=>it=s.heap.objs.size/\jt=(s.heap.push (cR t1.tp l1)).objs.size/\z2={ s with heap:=(s.heap.push (cR t1.tp l1)).push (cR t2.tp l2) })
    (fun A=>nv I hx ⟨_,rfl,rfl,rfl⟩) (fun it z1 h1 A=>?_) fun it jt z2 h2=>?_
   ·obtain⟨rfl,rfl⟩:=h1;exact nv I1 hy ⟨_,rfl,rfl,rfl,rfl⟩
   ·obtain⟨rfl,rfl,rfl⟩:=h2;have z1:(s.heap.push (cR t1.tp l1)).objs.size=s.heap.objs.size+1:=Heap.size_push ..;generalize e1:s.heap.push (cR t1.tp l1)=g1 at *
    have p1:g1.get? s.heap.objs.size=some (cR t1.tp l1):=by
     rw[<-e1];exact Heap.get?_push_size _ (by cases t1<;>rfl)
    have k1:∀ b o,s.heap.get? b=some o->g1.get? b=some o:=fun b o e=>by rw[<-e1];exact Heap.get?_push_of_some _ e
    have z2:(g1.push (cR t2.tp l2)).objs.size=s.heap.objs.size+2:=by rw[Heap.size_push,z1]
    have p2:(g1.push (cR t2.tp l2)).get? (s.heap.objs.size+1)=some (cR t2.tp l2):=by
     rw[<-z1];exact Heap.get?_push_size _ (by cases t2<;>rfl)
    have k2:∀ b o,g1.get? b=some o->(g1.push (cR t2.tp l2)).get? b=some o:=fun b o e=>Heap.get?_push_of_some _ e;generalize e2:g1.push (cR t2.tp l2)=g2 at *;dsimp only;rw[z1]
    have z3:(g2.push { cls:=.type "tuple",data:=.seq #[.ref s.heap.objs.size,.ref (s.heap.objs.size+1)] }).objs.size=s.heap.objs.size+3:=by rw[Heap.size_push,z2]
    have p3:(g2.push { cls:=.type "tuple",data:=.seq #[.ref s.heap.objs.size,.ref (s.heap.objs.size+1)] }).get? (s.heap.objs.size+2)=some { cls:=.type "tuple",data:=.seq #[.ref s.heap.objs.size,.ref (s.heap.objs.size+1)] }:=by
     rw[<-z2];exact Heap.get?_push_size _ rfl
    have k3:∀ b o,g2.get? b=some o->(g2.push { cls:=.type "tuple",data:=.seq #[.ref s.heap.objs.size,.ref (s.heap.objs.size+1)] }).get? b=some o:=fun b o e=>Heap.get?_push_of_some _ e;rw[z2];generalize e3:g2.push { cls:=.type "tuple",data:=.seq #[.ref s.heap.objs.size,.ref (s.heap.objs.size+1)] }=g3 at *;rw[z3]
    have z4:(g3.push { cls:=.type "tuple",data:=.seq #[.none,.none] }).objs.size=s.heap.objs.size+4:=by rw[Heap.size_push,z3]
    have p4:(g3.push { cls:=.type "tuple",data:=.seq #[.none,.none] }).get? (s.heap.objs.size+3)=some { cls:=.type "tuple",data:=.seq #[.none,.none] }:=by
     rw[<-z3];exact Heap.get?_push_size _ rfl
    have k4:∀ b o,g3.get? b=some o->(g3.push { cls:=.type "tuple",data:=.seq #[.none,.none] }).get? b=some o:=fun b o e=>Heap.get?_push_of_some _ e;generalize e4:g3.push { cls:=.type "tuple",data:=.seq #[.none,.none] }=g4 at *;rw[z4]
    have p5:(g4.push { cls:=.type "zip",data:=.fields #[.none,.bool false,.bool false,.ref (s.heap.objs.size+2),.ref (s.heap.objs.size+3)] }).get? (s.heap.objs.size+4)=some { cls:=.type "zip",data:=.fields #[.none,.bool false,.bool false,.ref (s.heap.objs.size+2),.ref (s.heap.objs.size+3)] }:=by
     rw[<-z4];exact Heap.get?_push_size _ rfl
    have k5:∀ b o,g4.get? b=some o->(g4.push { cls:=.type "zip",data:=.fields #[.none,.bool false,.bool false,.ref (s.heap.objs.size+2),.ref (s.heap.objs.size+3)] }).get? b=some o:=fun b o e=>Heap.get?_push_of_some _ e;generalize e5:g4.push { cls:=.type "zip",data:=.fields #[.none,.bool false,.bool false,.ref (s.heap.objs.size+2),.ref (s.heap.objs.size+3)] }=g5 at *
    refine wpAny_pyIter_zip (TI:=s.heap.objs.size+2) (TO:=s.heap.objs.size+3) (f0:=.none) p5 ⟨s.heap.objs.size+4,[s.heap.objs.size+4,s.heap.objs.size+2,s.heap.objs.size+3,s.heap.objs.size,s.heap.objs.size+1],_,Itz t1 t2 l1 l2,H,rfl,I.kept (t':=s.toks) fun b o e=>k5 _ _ (k4 _ _ (k3 _ _ (k2 _ _ (k1 _ _ e)))),vb (far _ 2 4 (by decide)) (far _ 3 4 (by decide)) (far _ 2 3 (by decide)) (far _ 0 4 (by decide)) (far _ 1 4 (by decide)) (far _ 0 3 (by decide)) (far _ 1 3 (by decide)) (far _ 0 1 (by decide)) (far _ 0 2 (by decide)) (far _ 1 2 (by decide)),
     ⟨p5,k5 _ _ (k4 _ _ p3),⟨_,_,k5 _ _ p4⟩,oh (k5 _ _ (k4 _ _ (k3 _ _ (k2 _ _ p1)))),oh (k5 _ _ (k4 _ _ (k3 _ _ p2)))⟩,fun b hb=>?_,q⟩
    have hb':s.heap.objs.size<=b:=by
     simp only[List.mem_cons,List.mem_nil_iff,or_false]at hb
     rcases hb with rfl | rfl | rfl | rfl | rfl<;>first | exact Nat.le_refl _ | exact Nat.le_add_right _ _
    exact I.lb hb' (I.hok.fresh hb')
end
end L2
namespace RS
open PySem PySem.Spec PyProof.Rows L2
def i9:∀ (ds es:List RL.D),ds.length=es.length->(RL.dN ds es).length=ds.length
 | [],[],_=>rfl
 | [],_::_,h=>by cases h
 | _::_,[],h=>by cases h
 | d::ds,e::es,h=>by rw[RL.dN,List.length_cons,List.length_cons,i9 ds es (by simpa using h)]
def og:∀ (ds es:List RL.D) (i:Nat) (d:RL.D),(RL.dN ds es)[i]?=some d->∃ x y,ds[i]?=some x/\es[i]?=some y/\d=.tup [x,y]
 | [],es,i,d,h=>by cases es<;>simp[RL.dN]at h
 | _::_,[],i,d,h=>by simp[RL.dN]at h
 | x::ds,y::es,0,d,h=>by simp[RL.dN]at h;exact⟨x,y,rfl,rfl,h.symm⟩
 | x::ds,y::es,i+1,d,h=>by
  rw[RL.dN,List.getElem?_cons_succ]at h;obtain⟨x',y',h1,h2,h3⟩:=og ds es i d h;exact⟨x',y',by simpa using h1,by simpa using h2,h3⟩
def tV{K:PySem.W.Frag}(hl:ds.length=es.length)(h1:H l1=some (cZ t1 xs))(h2:H l2=some (cZ t2 ys))(n1:¬ P l1)(n2:¬ P l2)(r1:ai nP K H ds xs)(r2:ai nP K H es ys)(hm:∀ b o,P b->H b=some o->cQ o) :
  fY K (Itz t1 t2 l1 l2) (RL.dN ds es) P H where
 go:=fun H' i k hi=>by
  rw[i9 ds es hl]at hi;obtain⟨x,e,_⟩:=r1.get (i:=i) (d:=ds[i]) (by simp[hi]);obtain⟨y,e',_⟩:=r2.get (i:=i) (d:=es[i]'(by lia)) (by simp);exact⟨xs,ys,x,y,k _ _ n1 h1,k _ _ n2 h2,e,e'⟩
 stop:=fun H' k=>⟨xs,ys,k _ _ n1 h1,k _ _ n2 h2,by rw[i9 ds es hl,r1.length],by rw[i9 ds es hl,hl,r2.length]⟩
 yld:=fun H' i d v H2 k e y=>by
  obtain⟨p,x,w,hp,rfl,rfl,hx,hw⟩:=y;obtain⟨dx,dw,g1,g2,rfl⟩:=og ds es i d e;obtain⟨x',g3,g4⟩:=r1.get g1;obtain⟨w',g5,g6⟩:=r2.get g2;rw[hx xs (k _ _ n1 h1)]at g3;rw[hw ys (k _ _ n2 h2)]at g5;cases g3;cases g5;refine⟨aD.cw hp,fun q=>?_⟩
  have re:Rep nP K H' dx x/\Rep nP K H' dw w:=by
   rcases q with q | q
   ·have q:(dx.imm&&(dw.imm&&true))=true:=q;rw[Bool.and_true,Bool.and_eq_true]at q;exact⟨et hm k g4 q.1,et hm k g6 q.2⟩
   ·exact⟨g4.same q,g6.same q⟩
  rw[Rep];exact⟨p,[x,w],rfl,aI,ai.cons (re.1.same (aD.cw hp)) (ai.cons (re.2.same (aD.cw hp)) ai.nil)⟩
def ll{P:Addr->Prop}{K:PySem.W.Frag}(h:RL.items d=some ds)(r:Rep P K H d v):∃ t l xs,v=.ref l/\H l=some (cZ t xs)/\ai P K H ds xs/\(t=.l->d=.lst ds):=by
 obtain⟨p,xs,rfl,hp,rs⟩:=eD h r
 rcases hp with⟨q,rfl⟩ | ⟨q,rfl⟩ | ⟨⟨o,q⟩,rfl⟩
 ·exact⟨.l,p,xs,rfl,q,rs,fun _=>rfl⟩
 ·exact⟨.t,p,xs,rfl,q,rs,fun z=>by cases z⟩
 ·exact⟨.f o,p,xs,rfl,q,rs,fun z=>by cases z⟩
section rules
def t9(hg:Gl X "zip")(hm:X.mg "zip" = none)(ha:SE X cl a a')(hb:SE X cl b b')(hn:noStar a=true)(hn2:noStar b=true):PI' (fun _=>True) X (.Tuple elts kx tp) (.Call (.Name "zip" p) [a,b] [] pos) (tI X.K cl (.zip a' b')):=by
 intro pins s σ H R I h;obtain⟨σD,ds,rv,e,k⟩:=h;obtain⟨x,ea,e⟩:=bind_some e;obtain⟨y,eb,e⟩:=bind_some e;obtain⟨xs,e1,e⟩:=bind_some e;obtain⟨ys,e2,e⟩:=bind_some e;split at e
 ·rename_i hl;cases e;have hpa:PA X [a,b] (eO (tE X.K cl a') (eO (tE X.K cl b') iD)):=ba ha (ba hb cA (aC [] hn2)) (aC _ hn);refine AH hg hm hpa (by rw[aC _ hn,aC _ hn2];rfl) (aC [] hn2) pins s σ H R I ?_;refine⟨σD,x,rv,ea,fun v H1 r1=>⟨σD,y,rv.same r1.same,eb,fun u H2 r2=>?_⟩⟩;obtain⟨t1,l1,vs,rfl,h1,p1,c1⟩:=ll e1 (r1.rep.same r2.same);obtain⟨t2,l2,us,rfl,h2,p2,c2⟩:=ll e2 r2.rep;refine⟨t1,t2,l1,l2,vs,us,rfl,h1,h2,k _ _ (r1.same.trans r2.same) ⟨tV hl h1 h2 (fun z=>z) (fun z=>z) p1 p2 eV,fun M P z hP av=>?_⟩⟩;have hP2:=dm (r1.same.trans r2.same) hP;unfold RL.oy at z;rw[Bool.and_eq_true]at z
  have notT:∀ (t:SK) l zs,H2 l=some (cZ t zs)->t≠.l->¬ P l:=fun t l zs hl ht q=>by
   cases t with
   | l=>exact ht rfl
   | _=>rcases hP2 l _ q hl with⟨_,q⟩ | ⟨_,q⟩ | ⟨_,q⟩<;>cases q
  refine tV hl h1 h2 ?_ ?_ p1 p2 hP2
  ·by_cases ht:t1=.l
   ·exact ko r1 z.1 hP av _ _ (c1 ht) rfl
   ·exact notT t1 l1 vs h1 ht
  ·by_cases ht:t2=.l
   ·refine ko r2 z.2 (fun b q=>?_) (fun j dj vj hj h3 h4=>(av j dj vj hj h3 h4).same r1.same) _ _ (c2 ht) rfl;obtain⟨o,ho,hmu⟩:=hP b q;exact⟨o,r1.same _ _ ho,hmu⟩
   ·exact notT t2 l2 us h2 ht
 ·cases e
end rules
end RS
namespace L2
open PySem PySem.Spec PyProof.Rows
section
end
end L2
namespace RS
open PySem PySem.Spec PyProof.Rows L2
section
end
end RS
namespace L2
open PySem PySem.Spec PyProof.Rows
section
end
section
end
end L2
namespace RS
open PySem PySem.Spec PyProof.Rows L2
section
end
section
variable{st:Stmt}
end
section
variable{X:Cx}
end
end RS
namespace L2
open PySem PySem.Spec PyProof.Rows
def sY{o:Obj}:(o.mapFields f).dict=o.dict:=by
 obtain⟨c,d,dt,sl⟩:=o;cases dt<;>rfl
abbrev Exc(P:Addr->Prop)(e:Addr)(C:Addr)(od:Option Addr)(tb:Bool)(h:Heap):Prop :=
 ∃ oe vs,h.get? e=some oe/\(oe.cls=.ref C/\oe.dict=od)/\oe.data=.fields vs/\vs[2]?=some .none/\¬ P e /\
  ((tb=false/\vs[1]?=some .none)\/∃ T oT ts,vs[1]?=some (.ref T)/\T≠e/\h.get? T=some oT/\oT.data=.fields ts/\ts[3]?=some .none/\¬ P T)
structure Off1(P:Addr->Prop)(fs:List Addr)(h h':Heap):Prop where
 sz:h.objs.size<=h'.objs.size
 keep:∀ b o,P b->b∉fs->h.get? b=some o->h'.get? b=some o
 slot:∀ b o,P b->b∈fs->h.get? b=some o->∃ sl,h'.get? b=some { o with slots:=sl }
def Off1.trans(a:Off1 P fs h h1)(b:Off1 P fs h1 h2):Off1 P fs h h2 where
 sz:=Nat.le_trans a.sz b.sz
 keep:=fun c o p n e=>b.keep c o p n (a.keep c o p n e)
 slot:=fun c o p n e=>by
  obtain⟨sl,e1⟩:=a.slot c o p n e;obtain⟨sl2,e2⟩:=b.slot c _ p n e1;exact⟨sl2,e2⟩
def Off1.qJ(n:¬ P a)(f:Obj->Obj):Off1 P fs h (h.update a f) where
 sz:=by rw[(Heap.SameBut.update ..).1];exact Nat.le_refl _
 keep:=fun b o p _ e=>by rw[Heap.get?_update_other _ _ (show a≠b from fun z=>n (z.symm▸p))];exact e
 slot:=fun b o p _ e=>⟨o.slots,by rw[Heap.get?_update_other _ _ (show a≠b from fun z=>n (z.symm▸p))];exact e⟩
def Off1.ext(o:Obj):Off1 P fs h (h.push o) where
 sz:=by rw[Heap.size_push];exact Nat.le_succ _
 keep:=fun b _ _ _ e=>Heap.get?_push_of_some _ e
 slot:=fun b o _ _ e=>⟨o.slots,Heap.get?_push_of_some _ e⟩
def Off1.slots(x:Heap.SlotsOnly fs h h'):Off1 P fs h h' where
 sz:=Nat.le_of_eq x.1.symm
 keep:=fun b o _ n e=>(x.2.1 b n).trans e
 slot:=fun b o _ _ e=>x.2.2 b o e
section
def mI(hfr:A.frames=some (env::outer))(hl:s.heap.FunFrames base (env::outer))(hf:env.frame=some L)(he:s.heap.get? e=some oe)(hc:oe.cls=.ref C/\oe.dict=od)(hd:oe.data=.fields vs)(h2:vs[2]?=some .none)
 (ne:¬ P e)(hP:∀ b,P b->b<s.heap.objs.size)(k:∀ h',Exc P e C od true h'->Off1 P (frs (env::outer)) s.heap h'->Q () { s with heap:=h' }) :
  wpAny M A (do let fr <- frameOf env;let q <- entryPlaceOf L had;let t <- EntryCells.newEntry head fr .none (rawInt L) .none q;setField (.ref e) 1 t) (fun _ s2=>wpAny M A (setFlight (.ref e) none) Q E s2) E s:=by
 have efr:e∉(env::outer).filterMap (·.frame):=fun z=>by
  obtain⟨_,o,ho,hn⟩:=hl.mem z;rw[he]at ho;cases ho;exact hn vs hd
 have z1:1<vs.size:=Nat.lt_trans (by decide) (Array.getElem?_eq_some_iff.mp h2).1;apply wpAny_bind;refine wpAny_frameOf_fun hfr hl hf fun g1 sl=>?_;apply wpAny_bind;refine wpAny_entryPlaceOf fun q hq=>?_;unfold EntryCells.newEntry newFields;apply wpAny_bind;refine wpAny_newObj_type ?_ (hq.sizeOk5 _ _ _ _ _);have e1:g1.get? e=some oe:=(sl.2.1 e efr).trans he;generalize hto:({ cls:=.type "traceback",dict:=none,data:=.fields ([head,.ref L,.none,rawInt L,.none]++(if q.isEmpty then List.replicate 6 Value.none else q)).toArray }:Obj)=to;have e2:(g1.push to).get? e=some oe:=Heap.get?_push_of_some _ e1;have te:g1.objs.size≠e:=Nat.ne_of_gt (Heap.lt_size e1);refine wpAny_setField e2 hd z1 ?_;have d3:=Obj.data_mapFields hd (·.setIfInBounds 1 (Value.ref g1.objs.size));have e3:=Heap.get?_update_self (Obj.mapFields (·.setIfInBounds 1 (Value.ref g1.objs.size))) e2 (Obj.isFreed_of_fields d3)
 have tod:to.data=.fields ([head,.ref L,.none,rawInt L,.none]++(if q.isEmpty then List.replicate 6 Value.none else q)).toArray:=by rw[<-hto]
 have t3:=(Heap.get?_update_other (g1.push to) (Obj.mapFields (·.setIfInBounds 1 (Value.ref g1.objs.size))) (Ne.symm te)).trans (Heap.get?_push_size g1 (by rw[<-hto];rfl));unfold setFlight;apply wpAny_bind;refine wpAny_field e3 d3 (x:=.ref g1.objs.size) (by simp[z1]) ?_;rw[if_pos (show(Value.ref g1.objs.size != Value.none)=true from by simp)];refine wpAny_setField t3 tod (by simp only[List.size_toArray,List.length_append,List.length_cons,List.length_nil]<;>omega) (k _ ?_ ?_)
 ·refine⟨_,_,(Heap.get?_update_other _ _ te).trans e3,⟨(Obj.cls_mapFields _ _).trans hc.1,sY.trans hc.2⟩,d3,by rw[Array.getElem?_setIfInBounds_ne (by decide)];exact h2,ne,.inr ⟨g1.objs.size,_,_,by simp[z1],te,Heap.get?_update_self _ t3 (Obj.isFreed_of_fields (Obj.data_mapFields tod _)),Obj.data_mapFields tod _,?_,fun z=>?_⟩⟩
  ·rw[Array.getElem?_setIfInBounds_self_of_lt (by simp only[List.size_toArray,List.length_append,List.length_cons,List.length_nil]<;>omega)];rfl
  ·have:=hP _ z;rw[sl.1]at this;exact Nat.lt_irrefl _ this
 ·refine(((Off1.slots sl).trans (Off1.ext _)).trans (Off1.qJ ne _)).trans (Off1.qJ (fun z=>?_) _);have:=hP _ z;rw[sl.1]at this;exact Nat.lt_irrefl _ this
def lB(hfr:A.frames=some (env::outer))(hl:s.heap.FunFrames base (env::outer))(hf:env.frame=some L)(x:Exc P e C od tb s.heap)(hP:∀ b,P b->b<s.heap.objs.size)
 (k:∀ h',Exc P e C od true h'->Off1 P (frs (env::outer)) s.heap h'->Q () { s with heap:=h' }) :
  wpAny M A (noteFrame (.ref e) env) (fun _ s2=>wpAny M A (setFlight (.ref e) none) Q E s2) E s:=by
 obtain⟨oe,vs,he,hc,hd,h2,ne,x⟩:=x;unfold noteFrame;simp only[hf];apply wpAny_bind
 rcases x with⟨_,h1⟩ | ⟨T,oT,ts,h1,hTe,hT,hdT,h3,nT⟩
 ·refine wpAny_field he hd h1 ?_;rw[if_neg (by decide)];exact mI hfr hl hf he hc hd h2 ne hP k
 ·refine wpAny_field he hd h1 ?_;rw[if_pos (show(Value.ref T != Value.none)=true from by simp)];apply wpAny_bind;refine wpAny_field hT hdT h3 ?_;rw[if_neg (show ¬ ((Value.none == rawInt L)=true)from by simp[rawInt])];apply wpAny_bind;refine wpAny_setField hT hdT (Array.getElem?_eq_some_iff.mp h3).1 ?_;have oth:∀ b,b≠T->(s.heap.update T (Obj.mapFields (·.setIfInBounds 3 Value.none))).get? b=s.heap.get? b:=fun b hb=>Heap.get?_update_other _ _ (Ne.symm hb);have up:Off1 P (frs (env::outer)) s.heap (s.heap.update T (Obj.mapFields (·.setIfInBounds 3 Value.none))):=Off1.qJ nT _
  have hl':(s.heap.update T (Obj.mapFields (·.setIfInBounds 3 Value.none))).FunFrames base (env::outer):=hl.of_keeps fun b o hb hn=>⟨o,(oth b fun z=>by
   rw[z,hT]at hb;cases hb
   exact hn ts hdT).trans hb,rfl⟩
  exact mI (s:={ s with heap:=s.heap.update T (Obj.mapFields (·.setIfInBounds 3 Value.none)) }) hfr hl' hf ((oth e (Ne.symm hTe)).trans he) hc hd h2 ne (fun b hb=>Nat.lt_of_lt_of_le (hP b hb) up.sz) fun h' x' o'=>k h' x' (up.trans o')
def uB(hfr:A.frames=some (env::outer))(hl:s.heap.FunFrames base (env::outer))(hf:env.frame=some L)(x:Exc P e C od tb s.heap)(hP:∀ b,P b->b<s.heap.objs.size)
 (k:∀ h',Exc P e C od true h'->Off1 P (frs (env::outer)) s.heap h'->Q () { s with heap:=h' }):wpAny M A (leaving env (.ref e)) Q E s:=by
 unfold leaving;exact wpAny_bind (lB hfr hl hf x hP k)
end
def bD.there(x:bD P w H h a o):∃ u,h.get? a=some u:=by
 cases o with
 | lst xs=>obtain⟨_,_,_,_,e⟩:=x;exact⟨_,e⟩
 | tup xs=>obtain⟨_,_,_,o,e,_⟩:=x;exact⟨_,e⟩
 | dK kvs=>obtain⟨_,_,_,_,o,_,_,e,_⟩:=x;exact⟨_,e⟩
 | dT kvs=>obtain⟨_,_,_,_,o,_,_,e,_⟩:=x;exact⟨_,e⟩
 | set S n=>obtain⟨o,_,_,_,e,_⟩:=x;exact⟨_,e⟩
 | ins C dx fs=>obtain⟨_,_,_,e,_⟩:=x;exact⟨_,e⟩
 | own y=>exact x
 | xd fs=>obtain⟨_,⟨_,_,_,e,_⟩,_⟩:=x;exact⟨_,e⟩
 | rng lo hi=>obtain⟨_,_,_,e⟩:=x;exact⟨_,e⟩
 | frz ob u=>exact⟨_,x.1⟩
 | tbl ps=>exact⟨_,x⟩
 | met f y=>exact⟨_,x⟩
 | ext φ=>exact x.2.1
abbrev eh(h:Heap)(H:Hp)(b:Addr):Prop:=(∃ o,h.get? b=some o)\/H b≠none
def Exc.mono(x:Exc P e C od tb h)(k:∀ b,P' b->P b):Exc P' e C od tb h:=by
 obtain⟨oe,vs,h1,h2,h3,h4,h5,h6⟩:=x;refine⟨oe,vs,h1,h2,h3,h4,fun z=>h5 (k _ z),h6.imp (fun z=>z) fun⟨T,oT,ts,a1,a2,a3,a4,a5,a6⟩=>⟨T,oT,ts,a1,a2,a3,a4,a5,fun z=>a6 (k _ z)⟩⟩
abbrev CXE(P:Program)(w:World):CXT:=fun outer H s E e s'=>∃ x C od H',e=.ref x/\E (.ref C) od H'/\s'.os=s.os/\AllBare s'.gens/\Un (frs outer) [] H H' s.heap s'.heap/\HOk P w H' s'.heap/\Exc (eh s.heap H') x C od true s'.heap
section
def Inv.old(I:Inv X pins σ H s)(hex:X.ex=[])(e:X.s₀.heap.get? b=some o):∃ o',s.heap.get? b=some o':=I.base.there b o e (by rw[hex];simp)
def j9(I:Inv X pins σ H s)(hst:X.stack=X.env::X.outer)(hfrm:X.env.frame=some X.env.locals)(hex:X.ex=[])(x:Exc (eh X.s₀.heap H) e C od tb s.heap)(hE:EE (.ref C) od H)(hA:A.frames=some (X.env::X.outer)) :
  wpAny (model X.prog X.w) A (leaving X.env (.ref e)) (fun _ s2=>CXE X.prog X.w X.outer X.H₀ X.s₀ EE (.ref e) s2) E' s:=by
 have hl:=I.stack;rw[hst]at hl
 have hfr:∀ b∈frs (X.env::X.outer),H b=none:=by
  have:=I.jk;rw[hst]at this;exact this
 have hP:∀ b,eh X.s₀.heap H b->b<s.heap.objs.size:=fun b hb=>by
  rcases hb with⟨o,e⟩ | hb
  ·exact Nat.lt_of_lt_of_le (Heap.lt_size e) I.sz
  ·obtain⟨o,ho⟩:=Option.ne_none_iff_exists'.mp hb;exact I.hok.lt ho
 refine uB hA hl hfrm x hP fun h' x' o'=>?_;have fsE:X.fs=frs X.outer:=rfl
 have mem:∀ b o,X.s₀.heap.get? b=some o->b∉frs X.outer->b∉frs (X.env::X.outer):=fun b o e n z=>by
  unfold frs at z;rw[List.filterMap_cons,hfrm]at z;rcases List.mem_cons.mp z with z | z
  ·have h1:=Heap.lt_size e;have h2:=I.ok.above;rw[z]at h1;exact Nat.lt_irrefl _ (Nat.lt_of_lt_of_le h1 h2)
  ·exact n z
 have mem2:∀ b,b∈frs X.outer->b∈frs (X.env::X.outer):=fun b z=>by
  unfold frs;rw[List.filterMap_cons,hfrm];exact List.mem_cons_of_mem _ z
 have nex:∀ b:Addr,b∉X.ex:=fun b=>by rw[hex];simp
 refine⟨e,C,od,H,rfl,hE,I.os,I.bare,⟨fun b o q n hb _=>?_,fun b o q n hb _=>?_,fun b o q n _=>I.base.free b o q n (nex b),fun b o q _=>?_,I.base.dO,I.base.cL,I.base.dJ⟩,fun a o q=>?_,x'⟩
 ·exact o'.keep b o (.inl ⟨o,q⟩) (mem b o q hb) (I.base.keep b o q n hb (nex b))
 ·obtain⟨sl,q2⟩:=I.base.slot b o q n hb (nex b);obtain⟨sl2,q3⟩:=o'.slot b _ (.inl ⟨o,q⟩) (mem2 b hb) q2;exact⟨sl2,q3⟩
 ·obtain⟨o1,q1⟩:=I.base.there b o q (nex b);by_cases hb:b∈frs (X.env::X.outer)
  ·obtain⟨sl,q2⟩:=o'.slot b _ (.inl ⟨o,q⟩) hb q1;exact⟨_,q2⟩
  ·exact⟨_,o'.keep b _ (.inl ⟨o,q⟩) hb q1⟩
 ·refine(I.hok a o q).gA (fun b u hb r=>?_) (fun _ z=>z) fun _ _ z=>z
  have hn:H b≠none:=by
   rcases hb with rfl | hb
   ·rw[q];exact fun z=>nomatch z
   ·rw[hb];exact fun z=>nomatch z
  exact o'.keep b u (.inr hn) (fun z=>hn (hfr b z)) r
def Inv.refused(I:Inv X pins σ H s)(hex:X.ex=[])(h:CXE X.prog X.w X.stack H s E e s'):∃ x C od H',e=.ref x/\E (.ref C) od H'/\Inv X pins σ H' s'/\Exc (eh X.s₀.heap H') x C od true s'.heap/\Exc (eh s.heap H') x C od true s'.heap/\Un (frs X.stack) [] H H' s.heap s'.heap:=by
 obtain⟨x,C,od,H',rfl,hE,os,bare,un,hok,ex⟩:=h;obtain⟨hh,g,d,t,os'⟩:=s';obtain rfl:os'=s.os:=os;refine⟨x,C,od,H',rfl,hE,I.call (h':=hh) (g':=g) (d':=d) (t':=t) (ch:=[]) un hok bare (fun b z=>absurd z (by simp)),ex.mono fun b hb=>?_,ex,un⟩;rcases hb with⟨o,q⟩ | hb
 ·exact .inl (I.old hex q)
 ·exact .inr hb
def nR(hok:HOk P w H h)(m:Heap.MadeExcOf h h' e (.ref C) vs):Exc (eh h H) e C none false h':=by
 obtain⟨t,he,_,_⟩:=m.there;refine⟨_,_,he,⟨rfl,rfl⟩,rfl,rfl,fun z=>?_,.inl ⟨rfl,rfl⟩⟩;have hn:=m.new;rcases z with⟨o,q⟩ | z
 ·rw[hn]at q;cases q
 ·obtain⟨o,ho⟩:=Option.ne_none_iff_exists'.mp z;obtain⟨u,q⟩:=(hok e o ho).there;rw[hn]at q;cases q
def Inv.newExc(I:Inv X pins σ H s)(hex:X.ex=[])(m:Heap.MadeExcOf s.heap h' e (.ref C) vs):Inv X pins σ H { s with heap:=h' }/\Exc (eh X.s₀.heap H) e C none false h' :=
 ⟨I.kept (t':=s.toks) m.keeps,(nR I.hok m).mono fun b hb=>hb.imp (fun⟨o,q⟩=>I.old hex q) fun z=>z⟩
end
open PySem.W
section
variable{K:PySem.W.Frag}
structure j7(K:PySem.W.Frag)(D:Addr):Prop where
 ga:findIn K (.ref D) "__getattribute__" = some (some (.builtin "BaseException.__getattribute__"))
 gn:findIn K (.ref D) "__getattr__" = some none
 fo:findObj K D none "__class__" = some (.bind (.builtin "getset_descriptor.__get__") (.builtin "object.__class__"))
 mo:mroIn K D (.type "object")=some true
 mb:subIn K (.ref D) (.type "BaseException")=some true
 is:(clsIn K D).isSome=true
def oH:takesIn K (.builtin "object.__class__")=some true:=by kernel_rfl
def qK(h:findObj K D none "__class__" = some (.bind (.builtin "getset_descriptor.__get__") (.builtin "object.__class__"))):findObj K D od "__class__" = some (.bind (.builtin "getset_descriptor.__get__") (.builtin "object.__class__")):=by
 unfold findObj at h ⊢;obtain⟨cd,hcd,h⟩:=Option.bind_eq_some_iff.mp h;obtain⟨attr,ha,h⟩:=Option.bind_eq_some_iff.mp h;obtain⟨get,hg,h⟩:=Option.bind_eq_some_iff.mp h;obtain⟨data,hd,h⟩:=Option.bind_eq_some_iff.mp h;rw[hcd,Option.bind_some,ha,Option.bind_some,hg,Option.bind_some,hd,Option.bind_some]
 cases data with
 |true=>
  cases attr with
  | none=>cases get<;>cases hd
  |some a=>
   cases get with
   | none=>cases hd
   | some g=>exact h
 |false=>
  exfalso;obtain⟨own,ho,h⟩:=Option.bind_eq_some_iff.mp (show((PySem.W.ownOf cd none "__class__").bind _)=_ from h)
  have hn:own=none:=by
   unfold PySem.W.ownOf at ho;split at ho<;>exact(Option.some.inj ho).symm
  subst hn;dsimp only at h;split at h
  ·cases h
  ·cases attr with
   | none=>cases h
   |some a=>
    cases get with
    |none=>
     dsimp only at h;split at h
     ·cases h
     ·cases h
    |some g=>
     cases h;dsimp only at hd;rw[oH]at hd;cases hd
def Bu(F:j7 K D)(X:K.In s.heap)(I:InstAt s.heap x ox D od)(h:Q (some (.ref D)) { s with toks:=s.toks+1 }):wpAny (model prog w) A (getAttr? (.ref x) "__class__") Q E s:=by
 have L0:=I.type (M:=model prog w);have L1:=looks_findIn (M:=model prog w) X F.ga;have L2:=looks_findIn (M:=model prog w) X F.gn;have L3:=looks_find (M:=model prog w) X I (qK F.fo);have L4:=looks_subIn (M:=model prog w) X F.mb;have cg:=fun(A:Around) (R:Result->Shared->Prop) (t:Nat)=>class_get (prog:=prog) (w:=w) (A:=A) (R:=R) (tp:=.ref D) (s:={ s with toks:=t }) X I F.mo;obtain⟨hh,g,d,t,os⟩:=s;unfold getAttr? getAttrBy? getAttrBy;refine wpAny_bind (wpAny_mkText (wpAny_bind (wpAny_attempt (wpAny_holding (wpAny_bind (L0.at (wpAny_bind (L1.at ?_))))))))
 have n0:¬ ((onTheHeap (Value.ref D)&&(Value.builtin "BaseException.__getattribute__" == Value.builtin "object.__getattribute__"))=true):=by
  have:(Value.builtin "BaseException.__getattribute__" == Value.builtin "object.__getattribute__")=false:=by decide +kernel
  rw[this,Bool.and_false];exact Bool.false_ne_true
 dsimp only;rw[if_neg n0];unfold getAttrByItsOwn hookBefore;rw[if_pos (show onTheHeap (Value.ref D)=true from rfl)];refine wpAny_bind (L2.at ?_);unfold callGetattribute boundAndCalled;rw[if_neg (show ¬ ((false&&onTheHeap (Value.builtin "BaseException.__getattribute__"))=true)from Bool.false_ne_true)];refine wpAny_bind (wpAny_attempt (wpAny_holding (wpAny_bind (wpAny_of_eq (PySem.F.attrBase_ValueError.ga.bind (.ref x)) ?_))));refine wpAny_call (codeAny_call_builtin PySem.F.attrBase_ValueError.ga.plain PySem.F.entry_bexc_ga ?_)
 have hk:builtinKind "BaseException.__getattribute__" = some .slot:=by decide +kernel
 have hsplit:splitId "BaseException.__getattribute__" = some ("BaseException", "__getattribute__"):=by decide +kernel
 have ha:=PySem.F.args_bexc_ga (.ref x) (.str "__class__" t);simp only[checkBuiltinCall,hk,hsplit];unfold isInstance
 repeat (any_goals (first | assumption | exact L0 | (with_reducible refine L0.at ?_) | (with_reducible refine L4.at ?_) | (with_reducible refine L3.at ?_) | (with_reducible refine wpAny_bind (L3.at ?_)) | wp_step))
 refine cg _ _ _ ?_;refine wpAny_pure ?_;exact wpAny_of_eq (handedOut_of rfl) (wpAny_pure h)
def m9(F:j7 K D):KitX K (.ref x) (.ref D) (fun h=>InstAt h x ox D od) where
 ty:=fun _ _ _ I=>I.type
 it:=fun M h X _=>by
  have z:=F.is;unfold clsIn at z;split at z
  ·rename_i ho;intro A' Q' E' s' k q;unfold isType loadHead;exact wpAny_bind (wpAny_loadPart (k _ _ (X _ _ ho)) (wpAny_pure q))
  ·cases z
 ne:=fun h tp dd its n sl X htp=>by
  refine Bool.eq_false_iff.mpr fun q=>?_;have e:D=tp:=Value.ref.inj (beq_iff_eq.mp q);subst e;have z:=F.is;unfold clsIn at z;split at z
  ·rename_i ho;cases(X _ _ ho).symm.trans htp
  ·cases z
 ca:=fun X I k=>Bu F X I k
end
section
def la(h:PGs X es t)(hn:(assignEach es X.env).length=n)(hst:(assignEach es X.env).findIdx? (·.1)=none):PG X (.Tuple es k pos) (kX X.K n t):=by
 intro pins s σ H v u Q I r hw;obtain⟨a,xs,e1,hq,hl,hw⟩:=hw;subst e1;cases r;obtain⟨its,rv,ht,hz⟩:=I.tuple hq
 have hsz:(assignEach es X.env).length=its.toArray.size:=by rw[hn,<-hl,rv.length,List.size_toArray]
 rw[PyProof.Rows.assign_Tuple];refine wpAny_bind (wpAny_standAt ?_);unfold unpack;rw[hsz,hst];refine wpAny_bind (wpAny_holding (qG I.hd ht fun h' hx=>?_));exact h pins _ σ H xs _ Q (I.kept (t':=s.toks) fun b o e=>hx b o (Nat.ne_of_lt (Heap.lt_size e)) e) (by simpa using rv) hw
def kY(h:PGs X es t)(hn:(assignEach es X.env).length=n)(hst:(assignEach es X.env).findIdx? (·.1)=none):PG X (.Tuple es k pos) (RS.lg X.K n t):=by
 intro pins s σ H v u Q I r hw;obtain⟨a,xs,e1,hq,hl,hw⟩:=hw;subst e1;cases r;obtain⟨its,rv,ht,hz⟩:=I.list hq
 have hsz:(assignEach es X.env).length=its.toArray.size:=by rw[hn,<-hl,rv.length,List.size_toArray]
 rw[PyProof.Rows.assign_Tuple];refine wpAny_bind (wpAny_standAt ?_);unfold unpack;rw[hsz,hst];refine wpAny_bind (wpAny_holding (rh I.hd ht.isList fun h' hx=>?_));exact h pins _ σ H xs _ Q (I.kept (t':=s.toks) fun b o e=>hx b o (Nat.ne_of_lt (Heap.lt_size e)) e) (by simpa using rv) hw
end
section
def PA.nox(h:PA X.nox es t):PA X es t:=fun pos pins s σ H Q I hw =>
 wpAny_mono (h pos pins s σ H Q (I.d8 _) hw) (fun _ _ ⟨v,H',I',r,q⟩=>⟨v,H',I'.c9,r,q⟩) fun _ _ z=>False.elim z
def PS.nox{st:Stmt}(h:PS X.nox st t):PS X st t:=fun pins s σ H D I hw =>
 wpAny_mono (h pins s σ H D (I.d8 _) hw) (fun _ _ q=>q.c9) fun _ _ z=>False.elim z
def PG.nox(h:PG X.nox tg t):PG X tg t:=fun pins s σ H v u Q I r hw =>
 wpAny_mono (h pins s σ H v u Q (I.d8 _) r hw) (fun _ _ ⟨σ',H',I',q⟩=>⟨σ',H',I'.c9,q⟩) fun _ _ z=>False.elim z
def PI.nox(h:PI X.nox tg iter wi):PI X tg iter wi:=fun pins s σ H R I hw =>
 wpAny_mono (h pins s σ H R (I.d8 _) hw) (fun _ _ h1=>wpAny_mono h1 (fun _ _ ⟨it,fp,tn,J,H',e,I',T,t0,f,r⟩=>⟨it,fp,tn,J,H',e,I'.c9,T,t0,f,r⟩) fun _ _ z=>False.elim z) fun _ _ z=>False.elim z
def nk{CX:CXT}{k:Nat}{f:Addr}{fd:FuncData}{ps:List Str}{sp:Sp}{EX:St->XK}{x:Str}{p pos:Pos}{e:Expr}{es:List Expr}{t:TA}(F:cu X.prog X.w X.K X.mg X.base CX k f fd ps sp)(hr:bB k X.A)(hg:Gl X x)(hm:X.mg x=some (.ref f))(hk:PySem.W.keepIn X.K (.ref f)=true)
 (hb:Binds X.K fd ps [])(hx:∀ pins σ H s e s',Inv X pins σ H s->CX X.stack H s (EX σ) e s'->X.xe e s')(ha:PA X (e::es) t)(hdb:(x == ("__debug__" : Str))=false)(he:starEach (e::es) X.env=(false,eval e X.env)::starEach es X.env)(hpl:(backTo pos (starEach es X.env)).any (·.1)=false) :
  PE X (.Call (.Name x p) (e::es) [] pos) (fun σ H Q=>t σ H fun vs H1=>sp vs H1 Q (EX σ)):=by
 intro pins s σ H Q I h;refine wpAny_Call_Name_kw (cJ I hg hm ?_ hdb);refine PySem.W.callWith_K (h₀:=X.base) I.ok.mod.kin hk (thn (ha pos pins s σ H _ I h) fun us s1 ⟨vs,H1,I1,r,q⟩=>⟨I1.kIn,?_⟩) he hpl
 have hl:us.length=ps.length:=by rw[<-r.length];exact F.len _ _ _ _ q
 have hbb:=hb s1 us I1.kIn (by rw[List.append_nil];exact hl);rw[List.append_nil]at hbb;refine wpAny_call (codeAny_mono (F.run X.A X.stack s1 H1 ⟨us,[]⟩ us vs Q (EX σ) hr I1.qd hbb r q) fun r s' hq=>?_)
 cases r with
 | error e=>exact hx pins σ H1 s1 e s' I1 hq
 |ok fl=>
  cases fl with
  | ret u=>exact I1.after hq
  | next=>exact False.elim hq
  | brk=>exact False.elim hq
  | cont=>exact False.elim hq
end
end L2
namespace RS
open PySem PySem.Spec PyProof.Rows L2
abbrev CO(K:PySem.W.Frag)(x:Str)(C:Addr)(od:Option Addr)(H:Hp):Prop:=Cls K (RL.baseOf x) C/\fN H (RL.dE x) od
abbrev spX(K:PySem.W.Frag)(cl:RL.Cl)(f:Nat):Sp:=fun vs H _ E=>∃ ds x,ai nP K H ds vs/\RL.clX cl f ds=some x/\∀ C od H',CO K x C od H'->aD H H'->E (.ref C) od H'
abbrev tXE(K:PySem.W.Frag)(cl:RL.Cl)(EX:L2.St->XK)(e:RL.E):TE:=fun σ H _=>∃ σD x,RV0 K σD σ H/\RL.evX cl σD e=some x/\∀ C od H1,CO K x C od H1->aD H H1->EX σ (.ref C) od H1
abbrev tXA(K:PySem.W.Frag)(cl:RL.Cl)(EX:L2.St->XK)(es:RL.Es):TA:=fun σ H _=>∃ σD x,RV0 K σD σ H/\RL.kO cl σD es=some x/\∀ C od H1,CO K x C od H1->aD H H1->EX σ (.ref C) od H1
abbrev RE(X:Cx)(EX:L2.St->XK)(cl:RL.Cl)(e:Expr)(e':RL.E):Prop:=PE X e (tXE X.K cl EX e')
abbrev RA(X:Cx)(EX:L2.St->XK)(cl:RL.Cl)(es:List Expr)(es':RL.Es):Prop:=PA X es (tXA X.K cl EX es')
abbrev tXS(K:PySem.W.Frag)(M:List Nat)(EX:L2.St->XK)(r:RL.St->Option (Str × RL.St)):TS:=fun _ σ H=>∃ σD x σD',RVm K M σD σ H/\r σD=some (x,σD')/\∀ σ1 H1 C od,CO K x C od H1->RVm K M σD' σ1 H1->Fr' M σ H σ1 H1->EX σ1 (.ref C) od H1
abbrev RZ(X:Cx)(EX:L2.St->XK)(cl:RL.Cl)(M:List Nat)(st:Stmt)(s:RL.S):Prop:=PS X st (tXS X.K M EX (RL.iL cl M s))
abbrev RZs(X:Cx)(EX:L2.St->XK)(cl:RL.Cl)(M:List Nat)(st:List Stmt)(s:RL.Ss):Prop:=PSs X st (tXS X.K M EX (RL.bu cl M s))
section
variable{st:Stmt}
def bo(h:∀ σD,RL.evX cl σD e'=none):RE X EX cl e e':=fun pins s σ H Q I ⟨σD,x,_,z,_⟩=>by
 rw[h]at z;cases z
def jl(h:∀ σD,RL.iL cl M s' σD=none):RZ X EX cl M st s':=fun pins s σ H Q I ⟨σD,x,_,_,z,_⟩=>by
 rw[h]at z;cases z
def zy:RA X EX cl es .nil:=fun pos pins s σ H Q I ⟨σD,x,_,z,_⟩=>by
 rw[RL.kO]at z;cases z
def zb(he:SE X cl e e')(hx:RE X EX cl e e')(hr:RA X EX cl es es')(hs:starEach (e::es) X.env=(false,eval e X.env)::starEach es X.env):RA X EX cl (e::es) (.cons e' es'):=by
 intro pos pins s σ H Q I h;obtain⟨σD,x,rv,z,k⟩:=h;rw[RL.kO]at z
 cases hev:RL.ev cl σD e' with
 |some d=>
  rw[hev]at z;exact ba he hr hs pos pins s σ H Q I ⟨σD,d,rv,hev,fun v H1 r1=>⟨σD,x,rv.same r1.same,z,fun C od H2 hc sm=>k C od H2 hc (r1.same.trans sm)⟩⟩
 |none=>
  rw[hev]at z;exact ba hx hr hs pos pins s σ H Q I ⟨σD,x,rv,z,k⟩
def yU(F:cu X.prog X.w X.K X.mg X.base (CXE X.prog X.w) k fa fd ps (spX X.K cl f))(hr:bB k X.A)(hg:Gl X x)
 (hm:X.mg x=some (.ref fa))(hk:PySem.W.keepIn X.K (.ref fa)=true)(hb:Binds X.K fd ps [])(hx:∀ pins σ H s e s',Inv X pins σ H s->CXE X.prog X.w X.stack H s (EX σ) e s'->X.xe e s')(he:SEs X cl (e::es) es')(ha:RA X EX cl (e::es) es')(hdb:(x == ("__debug__" : Str))=false)(hn:noStar e=true)(hns:es.all noStar=true) :
  RE X EX cl (.Call (.Name x p) (e::es) [] pos) (.call f es'):=by
 intro pins s σ H Q I h;obtain⟨σD,y,rv,z,k⟩:=h;rw[RL.evX]at z
 cases hev:RL.evs cl σD es' with
 |some ds=>
  rw[hev]at z;exact nk F hr hg hm hk hb hx he hdb (aC es hn) (cC hns) pins s σ H Q I ⟨σD,ds,rv,hev,fun vs H1 s1 r1=>⟨ds,y,r1,z,fun C od H2 hc sm=>k C od H2 hc (s1.trans sm)⟩⟩
 |none=>
  rw[hev]at z;exact nk F hr hg hm hk hb hx ha hdb (aC es hn) (cC hns) pins s σ H Q I ⟨σD,y,rv,z,k⟩
def mi{s':RL.S}{g:Ends->L2.St->VK}(h:PS X st (fun D σ H=>tXE X.K cl EX e' σ H (g D σ)))(he:∀ σD,RL.iL cl M s' σD=(RL.evX cl σD e').map fun x=>(x,σD)):RZ X EX cl M st s':=by
 refine PS.weak h fun D σ H h=>?_;obtain⟨σD,x,σD',rv,z,k⟩:=h;rw[he]at z;obtain⟨y,z1,z2⟩:=map_some z;cases z2;exact⟨σD,x,rv.rv0,z1,fun C od H1 hc sm=>k σ H1 C od hc (rv.same sm) (Fr'.same sm)⟩
def yR:RZs X EX cl M sts .nil:=fun pins s σ H Q I ⟨σD,x,_,_,z,_⟩=>by
 rw[RL.bu]at z;cases z
def xI:RZs X EX cl M sts (.opn j e' r):=fun pins s σ H Q I ⟨σD,x,_,_,z,_⟩=>by
 rw[RL.bu]at z;cases z
def yS:RZs X EX cl M sts (.act i g tbl a es):=fun pins s σ H Q I ⟨σD,x,_,_,z,_⟩=>by
 rw[RL.bu]at z;cases z
def v9(h1:SS X cl M st s)(h2:RZ X EX cl M st s)(h3:RZs X EX cl M sts r):RZs X EX cl M (st::sts) (.cons s r):=by
 intro pins sh σ H D I h;obtain⟨σD,x,σD',rv,z,k⟩:=h;rw[RL.bu]at z
 cases hev:RL.evS cl M s σD with
 |some p=>
  obtain⟨o,σ1⟩:=p;rw[hev]at z
  cases o with
  | nx=>exact eF h1 h3 pins sh σ H D I ⟨σD,.nx,σ1,rv,hev,fun σ2 H2 rv2 fr2=>⟨σ1,x,σD',rv2,z,fun σ3 H3 C od hc rv3 fr3=>k σ3 H3 C od hc rv3 (fr2.trans fr3)⟩⟩
  | rt d=>cases z
 |none=>
  rw[hev]at z;exact eF h2 h3 pins sh σ H D I ⟨σD,x,σD',rv,z,k⟩
def C9(hc:ST X cl c c')(ha:RZs X EX cl M a a')(hb:RZs X EX cl M b b'):RZ X EX cl M (.If c a b pos) (.ife c' a' b'):=by
 refine PS.weak (xb hc ha hb) fun D σ H h=>?_;obtain⟨σD,x,σD',rv,z,k⟩:=h;rw[RL.iL]at z;obtain⟨t,z1,z2⟩:=bind_some z;refine⟨σD,t,rv.rv0,z1,fun H1 sm=>?_⟩;have kk:∀ σ1 H2 C od,CO X.K x C od H2->RVm X.K M σD' σ1 H2->Fr' M σ H1 σ1 H2->EX σ1 (.ref C) od H2:=fun σ1 H2 C od hc r f=>k σ1 H2 C od hc r ((Fr'.same sm).trans f)
 cases t with
 | true=>exact eZ ⟨σD,x,σD',rv.same sm,z2,kk⟩
 | false=>exact fU ⟨σD,x,σD',rv.same sm,z2,kk⟩
end
section
def qm(h:RL.c8 f fx tg (d::ds) σ=some p):d.imm=true/\∃ σ1,RL.bN tg d σ=some σ1 /\
  ((∃ σ2,f σ1=some (.nx,σ2)/\RL.c8 f fx tg ds σ2=some p)\/fx σ1=some p):=by
 rw[RL.c8]at h;by_cases him:d.imm=true
 case neg=>rw[if_neg him]at h;cases h
 rw[if_pos him]at h;obtain⟨σ1,h1,h⟩:=bind_some h;refine⟨him,σ1,h1,?_⟩
 cases hf:f σ1 with
 | none=>rw[hf]at h;exact .inr h
 |some q=>
  obtain⟨o,σ2⟩:=q;rw[hf]at h
  cases o with
  | nx=>exact .inl ⟨σ2,rfl,h⟩
  | rt d=>cases h
def zL(hp:PassesOwn (model X.prog X.w) X.A X.env X.xe)(hc:X.calm=true)(hi:SI X cl tgE iter it)(hg:PG X tgE (gT X.K tg))(hb:SSs X cl M body b)(hbx:RZs X EX cl M body b)(hs:∀ x,foldedSetIterable iter X.env x=pure x)(hav:RL.oy M it=true)(hM:∀ i∈tg,M.contains i=false) :
  RZ X EX cl M (.For tgE iter body [] pos) (.forr tg it b):=by
 have both:PSs X body (fun D σ H=>tS X.K M (RL.aw cl M b) D σ H\/tXS X.K M EX (RL.bu cl M b) D σ H):=fun pins s σ H D I h=>h.elim (hb pins s σ H D I) (hbx pins s σ H D I);refine PS.weak (sE hp hc hi hg both hs) fun D σ H h=>?_;obtain⟨σD,x,σD',rv,e,k⟩:=h;rw[RL.iL]at e;obtain⟨ds,e1,e2⟩:=bind_some e;refine⟨σD,ds,rv.rv0,e1,fun J H1 s1 src=>?_⟩
 have ok:fY X.K J ds (bz M σ) H1:=src.2 M (bz M σ) hav rv.uV fun j dj vj hj h1 h2=>by
  obtain⟨v',h3,h4⟩:=rv.val j dj h1;rw[h2]at h3;cases h3;rw[if_neg (by rw[hj];decide)]at h4;exact h4
 refine⟨fun i m σ2 H2=>∃ σD2,m=ds.length-i/\i<=ds.length/\RVm X.K M σD2 σ2 H2/\Fr' M σ H1 σ2 H2/\RL.c8 (RL.aw cl M b) (RL.bu cl M b) tg (ds.drop i) σD2=some (x,σD'),⟨_,σD,rfl,Nat.zero_le _,rv.same s1,Fr'.same (aD.refl _),e2⟩,?_⟩;rintro i m σ2 H2 ⟨σD2,rfl,hi2,rv2,fr2,hl⟩;have off:Off (bz M σ) H1 H2:=fun b o n e=>(fr2.1 b o e n).1;by_cases hlt:i<ds.length
 ·refine .inr ⟨ok.go H2 i off hlt,fun σ' H'=>∃ m',m'<ds.length-i/\∃ σD2,m'=ds.length-(i+1)/\i+1<=ds.length/\RVm X.K M σD2 σ' H'/\Fr' M σ H1 σ' H'/\RL.c8 (RL.aw cl M b) (RL.bu cl M b) tg (ds.drop (i+1)) σD2=some (x,σD'),fun σ' H' z=>z,fun y H3 yl=>?_⟩;rw[List.drop_eq_getElem_cons hlt]at hl;obtain⟨him,σ3,h1,h2⟩:=qm hl;obtain⟨s3,rp⟩:=ok.yld H2 i ds[i] y H3 off (by simp[hlt]) yl;obtain⟨dv,vs,q1,q2,q3,q4,q5⟩:=qg h1 (rp (.inl him));refine q5 _ _ ?_;obtain⟨rv3,as3⟩:=(rv2.same s3).ck hM q2 (q4 him) q3
  have fr3:Fr' M σ H1 (cN tg vs σ2) H3:=⟨fun b o e n=>⟨s3 _ _ (fr2.1 b o e n).1,by rw[as3];exact(fr2.1 b o e n).2⟩,fun j hj=>(jE hM hj).trans (fr2.2 j hj)⟩
  rcases h2 with⟨σ4,h2,h3⟩ | h2
  ·exact .inl ⟨σ3,.nx,σ4,by rw[q1];exact rv3,h2,fun σ' H' rv' fr'=>⟨_,by lia,σ4,rfl,hlt,rv',fr3.trans fr',h3⟩⟩
  ·exact .inr ⟨σ3,x,σD',by rw[q1];exact rv3,h2,fun σ' H' C od hc rv' fr'=>k σ' H' C od hc rv' (((Fr'.same s1).trans fr3).trans fr')⟩
 ·have e:i=ds.length:=by lia
  subst e;rw[List.drop_length,RL.c8]at hl;cases hl
end
end RS
namespace L2
open PySem PySem.Spec PyProof.Rows
open RS (VE)
def xD{K:PySem.W.Frag}(X:K.In h)(q:PySem.W.excIn K C VE "ValueError.__new__" = true):∃ bm N nm qn bs hdct sn sub ab col dd k0 k1 k2 k3 k5 mN,h.get? C=some (excClassObj nm qn C N bs bm hdct sn sub ab col dd k0 k1 k2 k3 k5 "ValueError.__new__")/\h.Ns N mN/\mN "__init__" = none/\OwnTail h VE bm:=by
 unfold PySem.W.excIn at q;split at q
 ·rename_i dd cd sl ho;split at q
  ·rename_i C' bm k0 k1 k2 k3 n k5 hm hs;simp only[Bool.and_eq_true,beq_iff_eq,Bool.not_eq_true']at q;obtain⟨⟨⟨⟨⟨rfl,rfl⟩,hdel⟩,ht⟩,hok⟩,hni⟩:=q;obtain⟨nm,bs,mro,ns,qn,hd,sn,sub,ab,col,del⟩:=cd;dsimp only at hm hdel hok hni;subst hm hdel;obtain⟨l⟩:=sl;simp only at hs;subst hs;exact⟨bm,ns,nm,qn,bs,hd,sn,sub,ab,col,dd,k0,k1,k2,k3,k5,_,X _ _ ho,.of_isNs (PySem.W.isNs_of_in X hok),PySem.W.nsMap_none_of_in X hok hni,PySem.W.tail_of_in X ht⟩
  ·cases q
 ·cases q
def mV{K:PySem.W.Frag}(X:K.In h)(q:RS.kE K C=true):∃ bm N nm qn bs hdct sn sub ab col dd k0 k1 k2 k3 k5,h.get? C=some (excClassObj nm qn C N bs bm hdct sn sub ab col dd k0 k1 k2 k3 k5 "ValueError.__new__")/\OwnTail h VE bm:=by
 unfold RS.kE at q
 replace q:=(Bool.and_eq_true_iff.mp q).1
 unfold RS.gh at q;split at q
 ·rename_i dd cd sl ho;split at q
  ·rename_i C' bm k0 k1 k2 k3 n k5 hm hs;simp only[Bool.and_eq_true,beq_iff_eq,Bool.not_eq_true']at q;obtain⟨⟨⟨rfl,rfl⟩,hdel⟩,ht⟩:=q;obtain⟨nm,bs,mro,ns,qn,hd,sn,sub,ab,col,del⟩:=cd;dsimp only at hm hdel;subst hm hdel;obtain⟨l⟩:=sl;simp only at hs;subst hs;exact⟨bm,ns,nm,qn,bs,hd,sn,sub,ab,col,dd,k0,k1,k2,k3,k5,X _ _ ho,PySem.W.tail_of_in X ht⟩
  ·cases q
 ·cases q
section
variable{EX:St->XK}
def v8(hh:X.A.handled=none)(hg:Gl X x)(hm:X.mg x=some (.ref C))(hdb:(x == ("__debug__" : Str))=false)(q:PySem.W.excIn X.K C VE "ValueError.__new__" = true)(hk:∀ pins σ H s h' e vs,Inv X pins σ H s->Heap.MadeExcOf s.heap h' e (.ref C) vs->EX σ (.ref C) none H->X.xe (.ref e) { s with heap:=h' })
 (ha:PA X [arg] (eO ta iD))(hs:starEach [arg] X.env=[(false,eval arg X.env)]):PS X (.Raise (some (.Call (.Name x np) [arg] [] cpos)) none pos) (fun _ σ H=>ta σ H fun v H1=>[v].length<=sizeLine/\EX σ (.ref C) none H1):=by
 intro pins s σ H D I h;obtain⟨bm,N,nm,qn,bs,hdct,sn,sub,ab,col,dd,k0,k1,k2,k3,k5,mN,hC,hN,hni,T⟩:=xD I.ok.mod.kin q;refine wpAny_Raise_call_subT (C:=C) (nm:=nm) (q:=qn) (N:=N) (bs:=bs) (bm:=bm) (hdct:=hdct) (sn:=sn) (sub:=sub) (ab:=ab) (col:=col) (dd:=dd) (k0:=k0) (k1:=k1) (k2:=k2) (k3:=k3) (k5:=k5) PySem.F.excBase_ValueError (mN:=mN) (T.hasType PySem.F.excBase_ValueError.hasBase) hh (by rw[hs];rfl) hni (cJ I hg hm ⟨rfl,?_⟩ hdb);have ha':=ha cpos pins s σ H (fun vs H1=>vs.length<=sizeLine/\EX σ (.ref C) none H1) I h;rw[hs]at ha' ⊢;refine Calls.evalArgs_plain (thn ha' fun us s1 ⟨vs,H1,I1,r,q1⟩=>?_);exact⟨rfl,by rw[<-r.length];exact q1.1,I1.bk _ _ hC,hN.keeps I1.bk,T.keeps I1.bk,fun h' e m=>hk pins σ H1 s1 h' e us I1 m q1.2⟩
abbrev PJ(X:Cx)(vs:List Expr)(t:TA):Prop:=∀ (pins:List (Addr × Obj)) (s:Shared) (σ:St) (H:Hp) (Q:Hp->Prop) (out:Str),Inv X pins σ H s->t σ H (fun _ H1=>Q H1)->out.length+3000*vs.length<=sizeLine->wpAny (model X.prog X.w) X.A (joinParts out (evalEach vs X.env)) (EP X pins σ fun v H1=>(∃ x,v=.str x)/\Q H1) X.xe s
def su:PJ X [] iD:=fun pins s σ H Q out I h z=>joinParts_nil (out:=out) ⟨.str out,H,I.tok _,⟨_,rfl⟩,⟨_,rfl⟩,h⟩ (by simpa using z)
def kZ(h:PJ X vs t)(hy:y.length<=3000):PJ X (.Constant (.str y) k p::vs) t:=fun pins s σ H Q out I q z=>by
 have hz:(out++y).length+3000*vs.length<=sizeLine:=by
  rw[strLen_append];rw[List.length_cons]at z;omega
 refine joinParts_cons (Calls.Constant_str ⟨by omega,?_⟩);exact h pins _ σ H Q (out++y) (I.tok _) q hz
abbrev sv(te:TE)(t:TA):TA:=fun σ H Q=>te σ H fun v H1=>∃ i,v=.int i/\i.natAbs<2 ^ 1900/\t σ H1 Q
def uv(he:PE X e te)(h:PJ X vs t):PJ X (.FormattedValue e (-1) none p::vs) (sv te t):=fun pins s σ H Q out I q z=>by
 refine joinParts_cons (FormattedValue_plain (thn (he pins s σ H _ I q) fun u s1 ⟨v,H1,I1,r1,i,hv,hi,q1⟩=>?_));subst hv;obtain⟨tk,rfl⟩:=r1
 have hl:i.natAbs.log2<1920:=by
  by_cases h0:i.natAbs=0
  ·rw[h0];decide
  ·exact Nat.lt_trans ((Nat.log2_lt h0).mpr hi) (by decide)
 have hy:(Str.ofString (toString i)).length<=1921:=by
  rw[PySem.ofString_length];exact int_text_length_le (by decide) hl
 have hz:(out++Str.ofString (toString i)).length+3000*vs.length<=sizeLine:=by
  rw[strLen_append];rw[List.length_cons]at z;omega
 refine formatField_int_small hl ⟨?_,?_⟩
 ·exact Nat.le_trans (Nat.le_add_right _ _) hz
 ·exact h pins _ σ H1 Q _ ((I1.tok _).tok _) q1 hz
def ly(h:PJ X (v::v2::vs) t)(hn:vs.length<=100):PE X (.JoinedStr (v::v2::vs) pos) (fun σ H Q=>t σ H fun _ H1=>∀ x,Q (.str x) H1):=by
 intro pins s σ H Q I q;refine JoinedStr_many (thn (h pins s σ H (fun H1=>∀ x,Q (.str x) H1) Str.empty I q ?_) fun u s1 ⟨v,H1,I1,r1,⟨x,hv⟩,q1⟩=>⟨v,H1,I1,r1,by rw[hv];exact q1 x⟩);rw[List.length_cons,List.length_cons,sizeLine_eq];have:Str.empty.length=0:=rfl;omega
end
open PySem.Builtin PySem.Builtin.ObjectAttr PySem.W
open Sem (wp)
abbrev Dq(w:World)(name:Str)(tk:Tok)(v:Value):Obj:={ cls:=.type "dict",data:=.dict #[⟨PyData.keyHash w.params name,.str name tk,v⟩] 1 }
def pf{hh:Int}:Obj.putName name hh (.str name tk) v { cls:=.type "dict",data:=.dict #[] }={ cls:=.type "dict",data:=.dict #[⟨hh,.str name tk,v⟩] 1 }:=by
 rw[Obj.putName_eq];simp[Obj.putNameByArray]
def rK{K:Frag}{cd:ClassData}{Q:Unit->Shared->Prop}(X:K.In s.heap)(hx:s.heap.get? x=some ox)(hc:ox.cls=.ref C)(hd:ox.dict=none)(hf:ox.data=.fields vs)
 (hs:findIn K (.ref C) "__setattr__" = some (some (.builtin "object.__setattr__")))(hcd:clsIn K C=some cd)(hh:cd.hasDict=true)(hp:∀ self,refuseLoop self "__setattr__" cd.mro=pure ())
 (ho:mroIn K C (.type "object")=some true)(ht:findIn K (.ref C) name=some none)
 (h:∀ h':Heap,h'.get? x=some { ox with dict:=some s.heap.objs.size }->h'.get? s.heap.objs.size=some (Dq w name (s.toks+1) v)->(∀ b,b≠x->b≠s.heap.objs.size->h'.get? b=s.heap.get? b)->h'.objs.size=s.heap.objs.size+1 ->
   Q () { s with heap:=h',toks:=s.toks+1+1 }):wpAny (model prog w) A (setAttr (.ref x) name v) Q E s:=by
 obtain⟨oc,odi,oda,osl⟩:=ox;dsimp only at hc hd hf;subst hc hd hf
 have I:InstAt s.heap x { cls:=.ref C,dict:=none,data:=.fields vs,slots:=osl } C none:=⟨hx,rfl,rfl,trivial⟩
 refine set_plain X I hs ?_;have SF:=PySem.F.store_object;have sub:Looks (model prog w) s.heap (isInstance (.ref x) (.type "object")) true:=I.type.andThen (looks_mroIn X ho);refine codeAny_call_builtin SF.slot.plain SF.entry (@check_slot (model prog w) _ _ { s with toks:=s.toks+1 } "object.__setattr__" "object" "__setattr__" (.ref x) [.str name s.toks,v] [] _ SF.kind SF.split sub (SF.args (.ref x) (.str name s.toks) v) ?_);have hm:Looks (model prog w) s.heap (mroOf (.ref C)) cd.mro:=(looks_clsIn X hcd).andThen .now;rw[osa_eq,refuse_eq];refine wpAny_bind (wpAny_bind (I.type _ _ _ _ (fun _ _ e=>e) (wpAny_bind (hm _ _ _ _ (fun _ _ e=>e) ?_))));rw[hp];refine wpAny_pure (wpAny_bind (I.type _ _ _ _ (fun _ _ e=>e) (wpAny_bind (looks_findIn X ht _ _ _ _ (fun _ _ e=>e) (wpAny_bind (wpAny_pure ?_))))));dsimp only;have hxs:x≠s.heap.objs.size:=Nat.ne_of_lt (Heap.lt_size hx);have hx₁:(s.heap.push { cls:=.type "dict",data:=.dict #[] }).get? x=some { cls:=.ref C,dict:=none,data:=.fields vs,slots:=osl }:=Heap.get?_push_of_some _ hx
 have D:((s.heap.push { cls:=.type "dict",data:=.dict #[] }).update x fun o=>{ o with dict:=some s.heap.objs.size }).get? s.heap.objs.size=some { cls:=.type "dict",data:=.dict #[] } :=
  (Heap.get?_update_ne _ _ _ _ hxs.symm).trans (Heap.get?_push_at rfl rfl)
 refine wpAny_bind (wpAny_pure (wpAny_bind (wpAny_bind (wpAny_loadPart hx (wpAny_bind (looks_clsIn X hcd _ _ _ _ (fun _ _ e=>e) ?_))))));rw[hh];refine wpAny_bind (wpAny_alloc' ?_);refine wpAny_bind (wpAny_update' hx₁ ?_);refine wpAny_pure ?_;show wpAny _ _ (storeInDict s.heap.objs.size (.str name s.toks) name v) _ _ _;unfold storeInDict newKeyGuard;refine wpAny_bind (wpAny_pure (wpAny_bind ?_));unfold nsSet;refine wpAny_bind (wpAny_bind (wpAny_askSetting (wpAny_pure (wpAny_bind (wpAny_mkText (wpAny_bind (wpAny_loadPart D ?_)))))));dsimp only
 have c:(!(#[]:Array DictEntry).any (·.key.isStr name)&&(#[]:Array DictEntry).any (·.refKey))=false:=by simp
 rw[aRefKeyMayBeTheName_at,c];refine wpAny_updatePart D ?_;have D':=Heap.get?_update_self (Obj.putName name (PyData.keyHash w.params name) (.str name (s.toks+1)) v) D (by rw[pf];rfl);rw[pf]at D';refine wpAny_bind (wpAny_lookBehind D' (pastItsLine_dict (by rw[sizeLine_eq];simp)) ?_);refine wpAny_pure (h _ ?_ D' (fun b h1 h2=>?_) ?_)
 ·exact(Heap.get?_update_ne _ _ _ _ hxs).trans (Heap.get?_update_self _ hx₁ rfl)
 ·refine(Heap.get?_update_ne _ _ _ _ h2).trans ((Heap.get?_update_ne _ _ _ _ h1).trans ?_);exact Heap.get?_push_ne _ _ _ h2
 ·simp
open Sem (wp)
section
variable{prog:Program}{w:World}{A:Around}{E:Value->Shared->Prop}{h:Heap}{g:Array GenState}{d:Drawn}{t:Nat}{os:OsState}
variable{nm q:Str}{C N:Addr}{bs bm bmB:List Value}{hdct:Bool}{sn:List Str}{sub:List Value}{ab:Bool}{col:Option Bool}{dd:Option Addr}{k0 k1 k2 k3 k5:Option Value}{B newId initId:String}
def rD(F:ExcBaseFacts B newId initId bmB)(T:OwnTail h bmB bm){mN:Str->Option Value}{rest:List Value}{fI:Addr}{oI:Obj}{Q:Fin->Shared->Prop}
 (hC:h.get? C=some (excClassObj nm q C N bs bm hdct sn sub ab col dd k0 k1 k2 k3 k5 newId))(hn:h.Ns N mN)(hi:mN "__init__" = some (.ref fI))
 (hfI:h.get? fI=some oI)(hfc:oI.cls=.type "function")
 (hq:∀ h' e,Heap.MadeExcOf h h' e (.ref C) rest->h.objs.size<=e ->
   wpAny (model prog w) A (call (.ref fI) (.ref e::rest)) (fun r s'=>r=.none/\Q (.done (.ret (.ref e))) s') E ⟨h',g,d,t,os⟩)(hrest:rest.length<=sizeLine:=by size_fits) :
  wpAny (model prog w) A (Builtin.«type.__call__» ⟨.ref C::rest,[]⟩) Q E ⟨h,g,d,t,os⟩:=by
 repeat (first | with_reducible refine wpAny_loadPart_at hC ?_ | with_reducible refine wpAny_madeBy_exc hC ?_ | wp_step)
 refine codeAny_call_builtin_code (Code.quiet_builtin _ F.quiet) (wpAny_check_new_subT F T hC ?_);refine codeAny_exc_new_subT F T hC ?_ hrest;show wpAny _ _ _ _ _ _
 have up:∀ b o,h.get? b=some o->((h.push { cls:=.type "tuple",data:=.seq rest.toArray }).push { cls:=.ref C,data:=.fields #[.ref h.objs.size,.none,.none,.none,.bool false,.none] }).get? b=some o :=
  fun b o e=>Heap.get?_push_of_some _ (Heap.get?_push_of_some _ e)
 have hC₁:=up _ _ hC
 have hn₁:((h.push { cls:=.type "tuple",data:=.seq rest.toArray }).push { cls:=.ref C,data:=.fields #[.ref h.objs.size,.none,.none,.none,.bool false,.none] }).Ns N mN :=
  let ⟨o,es,ep,e,r⟩:=hn;⟨o,es,ep,up _ _ e,r⟩
 have hget:((h.push { cls:=.type "tuple",data:=.seq rest.toArray }).push
   { cls:=.ref C,data:=.fields #[.ref h.objs.size,.none,.none,.none,.bool false,.none] }).get? (h.objs.size+1)=some
   { cls:=.ref C,data:=.fields #[.ref h.objs.size,.none,.none,.none,.bool false,.none] }:=by heap_get
 have hcC:(Value.ref C::bm).contains (.ref C)=true:=by simp
 have T₁:=T.keeps up;unfold isInstance
 repeat (first | with_reducible refine wpAny_loadPart_at hget ?_ | (with_reducible refine wpAny_isSubtype_exc hC₁ ?_;rw[hcC]) | wp_step)
 show wpAny _ _ (typeLookup (.ref C) _) _ _ _;refine wpAny_typeLookup_tail hC₁ hn₁ T₁ F.mroIs F.init.lookup ?_;rw[hi];refine wpAny_holding (wpAny_bind ?_);unfold bindSpecial;refine wpAny_bind (wpAny_typeOf (T := "function") ⟨_,up _ _ hfI,hfc⟩ ?_);rw[if_pos (by decide)];refine wpAny_pure (wpAny_bind (wpAny_mono (hq _ (h.objs.size+1) ⟨up,Heap.get?_none_of_le (Nat.le_succ _),h.objs.size,hget,Heap.get?_none_of_le (Nat.le_refl _),?_⟩ (Nat.le_succ _)) (fun r s' hr=>?_) fun _ _ x=>x))
 ·exact Heap.get?_push_of_some _ (Heap.get?_push_at rfl rfl)
 ·obtain⟨rfl,hQ⟩:=hr
  wp_walk
  exact hQ
def rX(F:ExcBaseFacts B newId initId bmB)(T:OwnTail h bmB bm){mN:Str->Option Value}{rest:List Value}{fI:Addr}{oI:Obj}{Q:Value->Shared->Prop}
 (hC:h.get? C=some (excClassObj nm q C N bs bm hdct sn sub ab col dd k0 k1 k2 k3 k5 newId))(hn:h.Ns N mN)(hi:mN "__init__" = some (.ref fI))
 (hfI:h.get? fI=some oI)(hfc:oI.cls=.type "function")
 (hq:∀ h' e,Heap.MadeExcOf h h' e (.ref C) rest->h.objs.size<=e ->
   wpAny (model prog w) (A.under (.builtin "type.__call__" ⟨.ref C::rest,[]⟩)) (call (.ref fI) (.ref e::rest)) (fun r s'=>r=.none/\Q (.ref e) s') E ⟨h',g,d,t,os⟩)(hrest:rest.length<=sizeLine:=by size_fits) :
  wpAny (model prog w) A (call (.ref C) rest) Q E ⟨h,g,d,t,os⟩:=by
 have f1:=tc_lookup;have f2:=tc_bind (.ref C)
 have hT:(⟨h,g,d,t,os⟩:Shared).TypeIs (.ref C) "type" := ⟨_,hC,rfl⟩
 refine wpAny_call (codeAny_of_tree ?_);show wpAny _ _ (callAny (.ref C) _) _ _ _
 repeat (any_goals (first | assumption | with_reducible refine wpAny_loadPart_at hC ?_ | wp_step))
 refine⟨rfl,?_⟩;refine codeAny_call_builtin_at (Code.quiet_builtin _ (by decide +kernel)) entry_typeCall (wpAny_check_type_call_sub hC (rD (hrest:=hrest) F T hC hn hi hfI hfc fun h' e hm hs=>?_));exact hq h' e hm hs
end
section
variable{K:Frag}{prog:Program}{w:World}{A:Around}{E:Value->Shared->Prop}{s:Shared}{D x:Addr}{ox od:Obj}{Q:Value->Shared->Prop}
def sN(F:j7 K D)(X:K.In s.heap)(I:InstAt s.heap x ox D (some od))(hf:findObj K D (some od) name=some (.value v))(hv:handedIn v=true)(h:Q v { s with toks:=s.toks+1 }):wpAny (model prog w) A (getAttr (.ref x) name expr) Q E s:=by
 have L0:=I.type (M:=model prog w);have L1:=looks_findIn (M:=model prog w) X F.ga;have L2:=looks_findIn (M:=model prog w) X F.gn;have L3:=looks_find (M:=model prog w) X I hf;have L4:=looks_subIn (M:=model prog w) X F.mb;obtain⟨hh,g,d,t,os⟩:=s;unfold getAttr getAttrBy;refine wpAny_bind (wpAny_mkText (wpAny_holding (wpAny_bind (L0.at (wpAny_bind (L1.at ?_))))))
 have n0:¬ ((onTheHeap (Value.ref D)&&(Value.builtin "BaseException.__getattribute__" == Value.builtin "object.__getattribute__"))=true):=by
  have:(Value.builtin "BaseException.__getattribute__" == Value.builtin "object.__getattribute__")=false:=by decide +kernel
  rw[this,Bool.and_false];exact Bool.false_ne_true
 dsimp only;rw[if_neg n0];unfold getAttrByItsOwn hookBefore;rw[if_pos (show onTheHeap (Value.ref D)=true from rfl)];refine wpAny_bind (L2.at ?_);unfold callGetattribute boundAndCalled;rw[if_neg (show ¬ ((expr&&onTheHeap (Value.builtin "BaseException.__getattribute__"))=true)from by cases expr<;>exact Bool.false_ne_true)];refine wpAny_bind (wpAny_attempt (wpAny_holding (wpAny_bind (wpAny_of_eq (PySem.F.attrBase_ValueError.ga.bind (.ref x)) ?_))));refine wpAny_call (codeAny_call_builtin PySem.F.attrBase_ValueError.ga.plain PySem.F.entry_bexc_ga ?_)
 have hk:builtinKind "BaseException.__getattribute__" = some .slot:=by decide +kernel
 have hsplit:splitId "BaseException.__getattribute__" = some ("BaseException", "__getattribute__"):=by decide +kernel
 have ha:=PySem.F.args_bexc_ga (.ref x) (.str name t);simp only[checkBuiltinCall,hk,hsplit];unfold isInstance
 repeat (any_goals (first | assumption | exact L0 | (with_reducible refine L0.at ?_) | (with_reducible refine L4.at ?_) | (with_reducible refine L3.at ?_) | (with_reducible refine wpAny_bind (L3.at ?_)) | wp_step))
 exact wpAny_of_eq (handedOut_of hv) h
end
section
variable{prog:Program}{w:World}{A:Around}{E:Value->Shared->Prop}{h:Heap}{g:Array GenState}{d:Drawn}{t:Nat}{os:OsState}
variable{nm q:Str}{C N:Addr}{bs bm bmB:List Value}{hdct:Bool}{sn:List Str}{sub:List Value}{ab:Bool}{col:Option Bool}{dd:Option Addr}{k0 k1 k2 k3 k5:Option Value}{B newId initId:String}
def qO(F:ExcBaseFacts B newId initId bmB)(T:OwnTail h bmB bm){e t0:Addr}{rest:List Value}{Q:Value->Shared->Prop}
 (hC:h.get? C=some (excClassObj nm q C N bs bm hdct sn sub ab col dd k0 k1 k2 k3 k5 newId))
 (he:h.get? e=some { cls:=.ref C,data:=.fields #[.ref t0,.none,.none,.none,.bool false,.none] })
 (hq:∀ h':Heap,h'.get? e=some { cls:=.ref C,data:=.fields #[.ref h.objs.size,.none,.none,.none,.bool false,.none] }->h'.get? h.objs.size=some { cls:=.type "tuple",data:=.seq rest.toArray } ->
   (∀ b,b≠e->b≠h.objs.size->h'.get? b=h.get? b)->h'.objs.size=h.objs.size+1->Q .none ⟨h',g,d,t,os⟩)(hrest:rest.length<=sizeLine:=by size_fits) :
  wpAny (model prog w) A (call (.builtin initId) (.ref e::rest)) Q E ⟨h,g,d,t,os⟩:=by
 have hes:e≠h.objs.size:=Nat.ne_of_lt (Heap.lt_size he);refine wpAny_call (codeAny_call_builtin F.init.plain F.initEntry (wpAny_check_init_subT F T hC he rfl ?_))
 wp_walk
 refine hq _ ?_ ?_ (fun b h1 h2=>?_) ?_
 ·exact Heap.get?_update_self _ (Heap.get?_push_of_some _ he) rfl
 ·exact(Heap.get?_update_ne _ _ _ _ hes.symm).trans (Heap.get?_push_at rfl rfl)
 ·exact(Heap.get?_update_ne _ _ _ _ h1).trans (Heap.get?_push_ne _ _ _ h2)
 ·simp
end
open RS (VE)
abbrev Ex0(C t e:Addr):Heap->Prop:=fun h=>h.get? e=some { cls:=.ref C,data:=.fields #[.ref t,.none,.none,.none,.bool false,.none] }
abbrev Ex1(C t n e:Addr):Heap->Prop:=fun h=>h.get? e=some { cls:=.ref C,dict:=some n,data:=.fields #[.ref t,.none,.none,.none,.bool false,.none] }
abbrev fh(hh:Int)(tk:Tok)(i:Nat)(tk':Tok):Obj:={ cls:=.type "dict",data:=.dict #[⟨hh,.str "at" tk,.int i tk'⟩] 1 }
def mU(he:h.get? e=some o):bD P w H h e (.ext fun h=>h.get? e=some o):=⟨he,⟨_,he⟩,fun _ _ a b=>b _ a⟩
structure dG(K:PySem.W.Frag)(R C fI:Addr):Prop where
 obj:∃ bm N nm qn bs hdct sn sub ab col dd k0 k1 k2 k3 k5,K.lookup C=some (excClassObj nm qn C N bs bm hdct sn sub ab col dd k0 k1 k2 k3 k5 "ValueError.__new__")/\PySem.W.tailIn K VE bm=true/\PySem.W.nsOkIn K N=true/\PySem.W.nsIn K N "__init__" = some (some (.ref fI))
 rd:PySem.W.readsIn K R (.type "type")=true
 fc:PySem.W.findCls K (.ref R) (.type "type") "__init__" = some (.val (.builtin "ValueError.__init__"))
 sp:PySem.W.specialIn K (.ref R) "__getattribute__" = some (some (.builtin "type.__getattribute__"))
 sa:PySem.W.findIn K (.ref C) "__setattr__" = some (some (.builtin "object.__setattr__"))
 cd:∃ cd,PySem.W.clsIn K C=some cd/\cd.hasDict=true/\∀ self,refuseLoop self "__setattr__" cd.mro=pure ()
 mo:PySem.W.mroIn K C (.type "object")=some true
 na:PySem.W.findIn K (.ref C) "at" = some none
 kp:PySem.W.keepIn K (.ref C)=true
 fn:∃ o,K.lookup fI=some o/\o.cls=.type "function"
section
variable{K:PySem.W.Frag}
def xK{N:Addr}{mg:Str->Option Value}(X:K.In hp)(G:hp.Ns N mg)(e:PySem.W.nsIn K N n=some (some v)):mg n=some v:=by
 obtain⟨o,es,ep,ho,hd,_,hf⟩:=G;unfold PySem.W.nsIn at e;split at e
 ·rename_i c d es' n' sl q;have:=X _ _ q;rw[ho]at this;cases this;cases hd;split at e
  ·rename_i en he;cases e;rw[<-hf];unfold nsFind findBy;rw[<-Array.find?_toList,he];rfl
  ·split at e<;>cases e
 ·cases e
def dG.cls(h:dG K R C fI)(X:K.In hp):∃ bm N nm qn bs hdct sn sub ab col dd k0 k1 k2 k3 k5 mN,hp.get? C=some (excClassObj nm qn C N bs bm hdct sn sub ab col dd k0 k1 k2 k3 k5 "ValueError.__new__")/\hp.Ns N mN/\mN "__init__" = some (.ref fI)/\OwnTail hp VE bm:=by
 obtain⟨bm,N,nm,qn,bs,hdct,sn,sub,ab,col,dd,k0,k1,k2,k3,k5,l,t,o,i⟩:=h.obj;have G:hp.Ns N _:=.of_isNs (PySem.W.isNs_of_in X o);exact⟨bm,N,nm,qn,bs,hdct,sn,sub,ab,col,dd,k0,k1,k2,k3,k5,_,X _ _ l,G,xK X G i,PySem.W.tail_of_in X t⟩
end
section
def yQ(k:dG X.K R C fI)(hg:Gl X x)(hm:X.mg x=some (.ref R))(hdb:(x == ("__debug__" : Str))=false)(ha:PA X [a1,a2] t)(hst:starEach [a1,a2] X.env=(false,eval a1 X.env)::starEach [a2] X.env)(hpl:(backTo pos (starEach [a2] X.env)).any (·.1)=false)
 (hline:(apos.endLine == pos.line)=true)(hform:methodCallForm 2 (backTo pos (starEach [a1,a2] X.env)) (backToKw pos (keywordEach [] X.env))=true) :
  PE X (.Call (.Attribute (.Name x np) "__init__" apos) [a1,a2] [] pos) (fun σ H Q=>t σ H fun vs H1=>∃ e t0 y,vs=[.ref e,.str y]/\H1 e=some (.ext (Ex0 C t0 e))/\∀ t1,Q .non (upd H1 e (.ext (Ex0 C t1 e)))):=by
 intro pins s σ H Q I h;rw[arm_eval_Call,show attributeBase (.Name x np) "__init__" X.env (eval (.Name x np) X.env)=eval (.Name x np) X.env from rfl];refine wpAny_bind (cJ I hg hm ?_ hdb);refine wpAny_bind (wpAny_standAt ?_)
 have hpos:methodCallPos true (.Name x np) X.env apos pos=pure pos:=by unfold methodCallPos;simp[hline]
 unfold methodCall;rw[show methodCallForm ([a1,a2].length+([]:List Keyword).length) (backTo pos (starEach [a1,a2] X.env)) (backToKw pos (keywordEach [] X.env))=true from hform];refine wpAny_bind (wpAny_holding (PySem.W.method_cls I.kIn k.sp (PySem.W.cls_value I.kIn k.rd k.fc rfl ?_)));refine wpAny_bind (wpAny_of_eq hpos ?_);refine PyProof.Rows.callWith_builtin1 (thn (ha pos pins _ σ H _ (I.tok _) h) fun us s1 ⟨vs,H1,I1,r,e,t0,y,hvs,he,q⟩=>?_) hst hpl;subst hvs;obtain⟨bm,N,nm,qn,bs,hdct,sn,sub,ab,col,dd,k0,k1,k2,k3,k5,mN,hC,_,_,T⟩:=k.cls I1.kIn
 cases r with
 |cons r1 r2=>
  cases r1;obtain⟨h1,g,d,tk,os⟩:=s1;have ho:h1.get? e=some { cls:=.ref C,data:=.fields #[.ref t0,.none,.none,.none,.bool false,.none] }:=(I1.hok e _ he).1
  refine qO PySem.F.excBase_ValueError T hC ho (fun h' w1 w2 w3 w4=>?_) (by
   rw[<-r2.length];show 1<=sizeLine
   decide)
  refine⟨.non,_,I1.write (x:=e) (e:=e) (t':=tk) (by rw[he];exact True.intro) (.inl rfl) (fun b u hb z=>(w3 b hb (Nat.ne_of_lt (Heap.lt_size z))).trans z) ⟨_,w1⟩ (mU w1),rfl,q h1.objs.size⟩
def vo(k:dG X.K R C fI)(ha:PE X o ta)(hv:PE X value tv)(hs:swapsWith value (some (.Attribute o "at" pos')) pos.line X.env=pure false) :
  PS X (.Assign [.Attribute o "at" pos'] value pos) (fun D σ H=>tv σ H fun y H1=>ta σ H1 fun x H2=>∃ (e t0:Addr) (i:Nat),x=.ref e/\y=.int i/\H2 e=some (.ext (Ex0 C t0 e)) /\
   ∀ n hh tk tk',H2 n=none->n≠e->D.nx σ (upd (upd H2 n (.frz (fh hh tk i tk') (.ext fun _=>True))) e (.ext (Ex1 C t0 n e)))):=by
 intro pins s σ H D I h;refine plainObj_wpAny_Assign_Attribute (thn (hv pins s σ H _ I h) fun u s1 ⟨y,H1,I1,ry,q⟩=>thn (ha pins s1 σ H1 _ I1 q) fun ov s2 ⟨x,H2,I2,rx,e,t0,i,ex,ey,he,q2⟩=>?_) hs;subst ex ey;obtain rfl:ov=Value.ref e:=rx;obtain⟨tk',rfl⟩:=ry;have ho:s2.heap.get? e=some { cls:=.ref C,data:=.fields #[.ref t0,.none,.none,.none,.bool false,.none] }:=(I2.hok e _ he).1;obtain⟨cd,c1,c2,c3⟩:=k.cd;refine rK I2.kIn ho rfl rfl rfl k.sa c1 c2 c3 k.mo k.na fun h' w1 w2 w3 w4=>?_;have hn:H2 s2.heap.objs.size=none:=I2.hok.fresh (Nat.le_refl _);have hne:s2.heap.objs.size≠e:=Nat.ne_of_gt (Heap.lt_size ho);refine⟨σ,_,?_,q2 s2.heap.objs.size (PyData.keyHash X.w.params "at") (s2.toks+1) tk' hn hne⟩;have g1:(s2.heap.push (fh (PyData.keyHash X.w.params "at") (s2.toks+1) i tk')).get? s2.heap.objs.size=some (fh (PyData.keyHash X.w.params "at") (s2.toks+1) i tk'):=Heap.get?_push_at rfl rfl;have J:=I2.laid (h':=s2.heap.push (fh (PyData.keyHash X.w.params "at") (s2.toks+1) i tk')) (a:=s2.heap.objs.size) (o:=.frz (fh (PyData.keyHash X.w.params "at") (s2.toks+1) i tk') (.ext fun _=>True)) (t':=s2.toks+1+1) (fun b u z=>Heap.get?_push_of_some _ z) (Nat.le_refl _) ⟨g1,True.intro,⟨_,g1⟩,fun _ _ _ _=>True.intro⟩;refine J.write (x:=e) (e:=e) (h':=h') (t':=s2.toks+1+1) (by rw[aE (Ne.symm hne),he];exact True.intro) (.inl rfl) (fun b u hb z=>?_) ⟨_,w1⟩ (mU w1);by_cases hbn:b=s2.heap.objs.size
 ·subst hbn;have z:(s2.heap.push (fh (PyData.keyHash X.w.params "at") (s2.toks+1) i tk')).get? s2.heap.objs.size=some u:=z;rw[g1]at z;cases z;exact w2
 ·have z:(s2.heap.push (fh (PyData.keyHash X.w.params "at") (s2.toks+1) i tk')).get? b=some u:=z;rw[w3 b hb hbn];rw[Heap.get?_push_ne _ _ _ hbn]at z;exact z
end
end L2
set_option exponentiation.threshold 2000
namespace L2
open PySem PySem.Spec PyProof.Rows
open RS (VE)
def l6{H:Hp}(h:n≠e):upd (upd (upd H e a) n b) e c=upd (upd H n b) e c:=by
 funext x;by_cases hx:x=e
 ·subst hx;rw[aI,aI]
 ·rw[aE hx,aE hx];by_cases hn:x=n
  ·subst hn;rw[aI,aI]
  ·rw[aE hn,aE hn,aE hx]
abbrev spI(C:Addr):Sp:=fun vs H Q _=>∃ (e t0:Addr) (i:Nat),vs=[.ref e,.int i]/\i<2 ^ 1900/\H e=some (.ext (Ex0 C t0 e)) /\
 ∀ n t1 hh tk tk',H n=none->n≠e->Q .non (upd (upd H n (.frz (fh hh tk i tk') (.ext fun _=>True))) e (.ext (Ex1 C t1 n e)))
structure qI(st:Stmt):Prop where
 body:∃ (np ap p2 p3 p4 p5 p6 cp p7 p8 ap2 p9 p10 p11:Pos) (y1 y2:Str) (k1 k2:Nat),bE st=[.Expr (.Call (.Attribute (.Name "RibbonError" np) "__init__" ap) [.Name "self" p2,.JoinedStr [.Constant (.str y1) k1 p3,.FormattedValue (.Name "at" p4) (-1) none p5,.Constant (.str y2) k2 p6] p7] [] cp) p8,.Assign [.Attribute (.Name "self" p9) "at" ap2] (.Name "at" p10) p11] /\
  y1.length<=3000/\y2.length<=3000/\(ap.endLine == cp.line)=true
 sc:dS ["self", "at"] ["self", "at"] (aF st)
 g:(aF st).names.lookup ("RibbonError" : Str)=some .globalImplicit
 v1:(aF st).names.lookup ("self" : Str)=some .local
 v2:(aF st).names.lookup ("at" : Str)=some .local
def pk{K:PySem.W.Frag}{st:Stmt}(k:dG K R C fI)(T:qI st)(F:Fun K "__init__" qual st fI fd)(hm:mg "RibbonError" = some (.ref R)):cu P w K mg base CX0 1 fI fd ["self", "at"] (spI C):=by
 obtain⟨np,ap,p2,p3,p4,p5,p6,cp,p7,p8,ap2,p9,p10,p11,y1,y2,k1,k2,hb,l1,l2,hl⟩:=T.body;refine Fun.ok F T.sc (fun vs H Q E h=>?_) fun cdv A outer s H vs Q E hr h=>?_
 ·obtain⟨e,t0,i,rfl,_⟩:=h;rfl
 ·rw[hb];obtain⟨e,t0,i,rfl,hi,he,q⟩:=h;generalize hX:(fj CX0 P w K mg base ["self", "at"] qual (aF st) fI cdv A outer s H E).nox=X
  have eN:X.N=(["self", "at"]:List Str):=by rw[<-hX];rfl
  have eK:X.K=K:=by rw[<-hX];rfl
  have eM:X.mg=mg:=by rw[<-hX];rfl
  have eS:X.env.scope=aF st:=by rw[<-hX];rfl
  have g:Gl X "RibbonError" := by rw[<-hX];exact T.g
  have pv1:∀ p,PE X (.Name "self" p) (qW 0):=fun p=>gO (by rw[eN];rfl) (by rw[eS];exact .inl T.v1) (by decide) (by decide);have pv2:∀ p,PE X (.Name "at" p) (qW 1):=fun p=>gO (by rw[eN];rfl) (by rw[eS];exact .inl T.v2) (by decide) (by decide);rw[<-eK]at k;have pj:=ly (X:=X) (pos:=p7) (kZ (k:=k1) (p:=p3) (y:=y1) (uv (p:=p5) (pv2 p4) (kZ (k:=k2) (p:=p6) (y:=y2) su l2)) l1) (show 1<=100 by decide);have s1:=jo (X:=X) (pos:=p8) (yQ (x := "RibbonError") (np:=np) (apos:=ap) (pos:=cp) k g (by rw[eM];exact hm) (by decide) (ba (pv1 p2) (ba pj cA rfl) rfl) rfl rfl hl rfl) rfl;have s2:=vo (X:=X) (pos:=p11) (pos':=ap2) k (pv1 p9) (pv2 p10) rfl;refine⟨_,eF s1 (eF s2 pA),?_⟩;refine⟨.ref e,rfl,.int i,rfl,i,rfl,by simpa using hi,fun x=>⟨e,t0,x,rfl,he,fun t1=>?_⟩⟩;refine⟨.int i,rfl,.ref e,rfl,e,t1,i,rfl,rfl,aI,fun n hh tk tk' hn hne=>?_⟩;rw[l6 hne];exact q n t1 hh tk tk' ((aE hne).symm.trans hn) hne
end L2
set_option exponentiation.threshold 2000
namespace L2
open PySem PySem.Spec PyProof.Rows
open RS (VE fN)
structure mF(X:Cx)(H:Hp)(s:Shared)(C:Addr)(f:Option Nat)(e:Addr)(od:Option Addr)(H':Hp)(s':Shared):Prop where
 os:s'.os=s.os
 bare:AllBare s'.gens
 un:Un (frs X.stack) [] H H' s.heap s'.heap
 hok:HOk X.prog X.w H' s'.heap
 fld:fN H' f od
 ex:Exc (eh s.heap H') e C od false s'.heap
 sm:aD H H'
 ob:∃ t,s'.heap.get? e=some { cls:=.ref C,dict:=od,data:=.fields #[.ref t,.none,.none,.none,.bool false,.none] }
def Inv.newX(I:Inv X pins σ H s)(hex:X.ex=[])(nx:mF X H s C f e od H' s'):Inv X pins σ H' s'/\Exc (eh X.s₀.heap H') e C od false s'.heap :=
 ⟨I.mw (ch:=[]) nx.os nx.un nx.hok nx.bare (fun b z=>absurd z (by simp)),nx.ex.mono fun b hb=>hb.imp (fun⟨o,q⟩=>I.old hex q) fun z=>z⟩
section
def vY(k:dG X.K R C fI)(F:cu X.prog X.w X.K X.mg X.base CX0 1 fI fd ["self", "at"] (spI C))(hr:bB 2 X.A)(hb:Binds X.K fd ["self", "at"] [])(I:Inv X pins σ H s)(hi:i<2 ^ 1900)
 (hq:∀ e od H' s',mF X H s C (some i) e od H' s'->X.K.In s'.heap->Q (.ref e) s'):wpAny (model X.prog X.w) X.A (call (.ref C) [.int (i:Nat) tk]) Q X.xe s:=by
 obtain⟨bm,N,nm,qn,bs,hdct,sn,sub,ab,col,dd,k0,k1,k2,k3,k5,mN,hC,hN,hin,T⟩:=k.cls I.kIn;obtain⟨oI,lk,hfc⟩:=k.fn;obtain⟨h,g,d,t,os⟩:=s;refine rX PySem.F.excBase_ValueError T hC hN hin (I.kIn _ _ lk) hfc (fun h' e m le=>?_) (show 1<=sizeLine by decide);obtain⟨t0,he,_,_⟩:=m.there;have I2:Inv X pins σ (upd H e (.ext (Ex0 C t0 e))) ⟨h',g,d,t,os⟩:=I.laid (t':=t) m.keeps le (mU he);have hHe:H e=none:=I.hok.fresh le
 have hsp:spI C [.ref e,.int i] (upd H e (.ext (Ex0 C t0 e))) (fun v H2=>v=.non/\∃ n t1 hh tk tk',(upd H e (.ext (Ex0 C t0 e))) n=none/\n≠e/\H2=upd (upd (upd H e (.ext (Ex0 C t0 e))) n (.frz (fh hh tk i tk') (.ext fun _=>True))) e (.ext (Ex1 C t1 n e))) E0 :=
  ⟨e,t0,i,rfl,hi,aI,fun n t1 hh tk tk' hn hne=>⟨rfl,n,t1,hh,tk,tk',hn,hne,rfl⟩⟩
 refine wpAny_call (codeAny_mono (F.run _ X.stack _ _ ⟨[.ref e,.int i tk],[]⟩ [.ref e,.int i tk] _ _ E0 (hr.make C _ []) (I2.qd.make C _ []) (hb _ [.ref e,.int i tk] I2.kIn rfl) (show Vals [V.ref e,V.int i] [Value.ref e,Value.int i tk]from .cons rfl (.cons ⟨_,rfl⟩ .nil)) hsp) fun r s' hq'=>?_)
 cases r with
 | error e=>exact hq'.elim
 |ok fl=>
  cases fl with
  | next=>exact False.elim hq'
  | brk=>exact False.elim hq'
  | cont=>exact False.elim hq'
  |ret u=>
   obtain⟨v,H2,os',bare',un',hok',rv,hv,n,t1,hh,tk1,tk2,hn,hne,hH2⟩:=hq';subst hv;have rv:u=.none:=rv;rw[l6 hne]at hH2;have hn:H n=none:=(aE hne).symm.trans hn
   have new:∀ b o,h.get? b=some o->b≠e:=fun b o q z=>by
    have:=m.new;rw[z,this]at q;cases q
   have H2n:H2 n=some (.frz (fh hh tk1 i tk2) (.ext fun _=>True)):=by rw[hH2,aE hne,aI]
   have H2e:H2 e=some (.ext (Ex1 C t1 n e)):=by rw[hH2,aI]
   have H2o:∀ b,b≠e->H2 b=upd H n (.frz (fh hh tk1 i tk2) (.ext fun _=>True)) b:=fun b hb=>by rw[hH2,aE hb]
   have le':∀ {b:Addr} {o:HO},H b=some o->b≠n:=fun q z=>by rw[z,hn]at q;cases q
   refine⟨rv,hq e (some n) (upd H n (.frz (fh hh tk1 i tk2) (.ext fun _=>True))) s' ⟨os',bare',⟨fun b o q z hb hx=>?_,fun b o q z hb hx=>?_,fun b o q z hx=>?_,fun b o q hx=>?_,fun b xs q=>?_,fun b o u q=>?_,fun b ps q=>?_⟩,fun a o q=>?_,?_,?_,fun a u q=>?_,⟨t1,(hok' e _ H2e).1⟩⟩ ?_⟩
   ·exact un'.keep b o (m.keeps b o q) ((aE (new b o q)).trans z) hb hx
   ·exact un'.slot b o (m.keeps b o q) ((aE (new b o q)).trans z) hb hx
   ·have:=un'.free b o (m.keeps b o q) ((aE (new b o q)).trans z) hx;rw[H2o b (new b o q)]at this;exact this
   ·exact un'.there b o (m.keeps b o q) hx
   ·exact(aE (le' q)).trans q
   ·exact(aE (le' q)).trans q
   ·exact⟨#[],by rw[Array.append_empty];exact(aE (le' q)).trans q⟩
   ·by_cases ha:a=n
    ·subst ha;rw[aI]at q;cases q;have g1:=(hok' a _ H2n).1;exact⟨g1,True.intro,⟨_,g1⟩,fun _ _ _ _=>True.intro⟩
    ·have hae:a≠e:=fun z=>by
      rw[aE ha,z,hHe]at q;cases q
     refine(hok' a o ((H2o a hae).trans q)).gA (fun b u hb r=>r) (fun b z=>?_) fun b xs z=>?_
     ·rw[<-H2o b fun y=>by rw[y,H2e]at z;cases z];exact z
     ·rw[<-H2o b fun y=>by rw[y,H2e]at z;cases z];exact z
   ·exact⟨n,.ext fun _=>True,hh,tk1,tk2,rfl,aI⟩
   ·refine⟨_,_,(hok' e _ H2e).1,⟨rfl,rfl⟩,rfl,rfl,fun z=>?_,.inl ⟨rfl,rfl⟩⟩;rcases z with⟨o,q⟩ | z
    ·exact new e o q rfl
    ·exact z ((aE (Ne.symm hne)).trans hHe)
   ·exact(aE (le' q)).trans q
   ·refine I.ok.mod.kin.keeps fun b o q=>?_;obtain⟨q1,q2⟩:=I2.bs b o q;refine un'.keep b o q1 q2 (fun z=>?_) (by simp);obtain⟨z1,_⟩:=I2.stack.mem z;rw[q]at z1;cases z1
def rW{EX:St->XK}(k:dG X.K R C fI)(F:cu X.prog X.w X.K X.mg X.base CX0 1 fI fd ["self", "at"] (spI C))(hr:bB 2 X.A)(hb:Binds X.K fd ["self", "at"] [])(hg:Gl X x)(hm:X.mg x=some (.ref C))(hdb:(x == ("__debug__" : Str))=false)
 (hk:∀ pins σ H s i e od H' s',Inv X pins σ H s->mF X H s C (some i) e od H' s'->EX σ (.ref C) od H'->X.xe (.ref e) s')
 (ha:PA X [arg] (eO ta iD))(hs:starEach [arg] X.env=[(false,eval arg X.env)]):PS X (.Raise (some (.Call (.Name x np) [arg] [] cpos)) none pos) (fun _ σ H=>ta σ H fun v H1=>∃ i:Nat,[v]=[.int i]/\i<2 ^ 1900/\∀ od H',fN H' (some i) od->aD H1 H'->EX σ (.ref C) od H'):=by
 intro pins s σ H D I h
 have hcall:wpAny (model X.prog X.w) X.A (eval (.Call (.Name x np) [arg] [] cpos) X.env) (fun v s'=>∃ e od t,v=.ref e/\s'.heap.get? e=some { cls:=.ref C,dict:=od,data:=.fields #[.ref t,.none,.none,.none,.bool false,.none] }/\X.K.In s'.heap/\X.xe (.ref e) s') X.xe s:=by
  refine wpAny_Call_Name_kw (cJ I hg hm ?_ hdb);refine PySem.W.callWith_K (h₀:=X.base) I.ok.mod.kin k.kp (thn (ha cpos pins s σ H (fun vs H1=>∃ i:Nat,vs=[.int i]/\i<2 ^ 1900/\∀ od H',fN H' (some i) od->aD H1 H'->EX σ (.ref C) od H') I ?_) fun us s1 ⟨vs,H1,I1,r,q⟩=>⟨I1.kIn,?_⟩) hs rfl
  ·exact h
  ·obtain⟨i,rfl,hi,q⟩:=q
   cases r with
   |cons r1 r2=>
    cases r2;obtain⟨tk,rfl⟩:=r1;refine vY k F hr hb I1 hi fun e od H' s' nx kin=>?_;obtain⟨t,ob⟩:=nx.ob;exact⟨e,od,t,rfl,ob,kin,hk pins σ H1 s1 i e od H' s' I1 nx (q od H' nx.fld nx.sm)⟩
 obtain⟨bm,N,nm,qn,bs,hdct,sn,sub,ab,col,dd,k0,k1,k2,k3,k5,mN,_⟩:=k.cls I.kIn;rw[arm_exec_Raise];show wpAny _ _ (do standAt pos;raiseStmt X.env (some (do let v <- eval (.Call (.Name x np) [arg] [] cpos) X.env;standAt pos;pure v)) none) _ _ _;refine wpAny_bind (wpAny_standAt ?_);unfold raiseStmt;refine wpAny_bind (wpAny_bind (thn hcall fun v s1 ⟨e,od,t,hv,ob,kin,hxe⟩=>wpAny_bind (wpAny_standAt (wpAny_pure ?_))));subst hv;obtain⟨hp,g,d,tk,os⟩:=s1;obtain⟨bm,N,nm,qn,bs,hdct,sn,sub,ab,col,dd,k0,k1,k2,k3,k5,mN,hC,_,_,T⟩:=k.cls kin
 have hcB:(Value.ref C::bm).contains (.type "BaseException")=true:=by rw[List.contains_cons,T.hasType PySem.F.excBase_ValueError.hasBase,Bool.or_true]
 repeat (first | with_reducible refine wpAny_loadPart_at ob ?_ | with_reducible refine wpAny_loadPart_at hC ?_ | (with_reducible refine wpAny_isSubtype_exc hC ?_;rw[hcB]) | wp_step)
 exact wpAny_raiseNew_none hr.hd hxe
end
open RS (VE)
def Cs(self:Value):refuseLoop self "__setattr__" (.ref D :: .ref R::VE)=pure ():=by
 rw[refuseLoop_ref,refuseLoop_ref]
 kernel_rfl
section
variable{K:PySem.W.Frag}{k0 k1 k2 k3 k5:Option Value}{es:Array DictEntry}{hdct:Bool}{od:Option Addr}{ep:Nat}{sl:Array (Option Value)}
def vP(lC:K.lookup D=some (excClassObj nm qn D N bs (.ref R::VE) true sn sub ab col dd k0 k1 k2 k3 k5 "ValueError.__new__"))(eR:PySem.W.excIn K R VE "ValueError.__new__" = true)
 (lN:K.lookup N=some ⟨oc,od,.dict es ep,sl⟩)(okN:(es.toList.all fun e=>match e.key with | .str _ _=>true | _=>false)=true)(iN:PySem.W.nsIn K N "__init__" = some (some (.ref fI)))
 (rd:PySem.W.readsIn K R (.type "type")=true)(fc:PySem.W.findCls K (.ref R) (.type "type") "__init__" = some (.val (.builtin "ValueError.__init__")))(sp:PySem.W.specialIn K (.ref R) "__getattribute__" = some (some (.builtin "type.__getattribute__")))
 (sa:PySem.W.findIn K (.ref D) "__setattr__" = some (some (.builtin "object.__setattr__")))(mo:PySem.W.mroIn K D (.type "object")=some true)(na:PySem.W.findIn K (.ref D) "at" = some none)(kp:PySem.W.keepIn K (.ref D)=true)
 (lF:K.lookup fI=some ⟨.type "function",odF,.func fd,slF⟩):dG K R D fI where
 obj:=⟨_,N,nm,qn,bs,true,sn,sub,ab,col,dd,k0,k1,k2,k3,k5,lC,(RS.pU lC eR).1,by unfold PySem.W.nsOkIn;rw[lN];exact(Array.all_toList ..).symm.trans okN,iN⟩
 rd:=rd
 fc:=fc
 sp:=sp
 sa:=sa
 cd:=⟨_,by unfold PySem.W.clsIn;rw[lC],rfl,fun self=>Cs self⟩
 mo:=mo
 na:=na
 kp:=kp
 fn:=⟨_,lF,rfl⟩
end
end L2
namespace RS
open PySem PySem.Spec PyProof.Rows L2
end RS
namespace L2
open PySem PySem.Spec PyProof.Rows
section
variable{prog:Program}{w:World}{A:Around}{E:Value->Shared->Prop}{s:Shared}
end
end L2
namespace RS
open PySem PySem.Spec PyProof.Rows L2
end RS
namespace L2
open PySem PySem.Spec PyProof.Rows
end L2
namespace RS
open PySem PySem.Spec PyProof.Rows L2
end RS
namespace L2
open PySem PySem.Spec PyProof.Rows
end L2
namespace RS
open PySem PySem.Spec PyProof.Rows L2
section
open PySem.Builtin.Str
end
section
variable{X:Cx}{cl:RL.Cl}{a b:Expr}{a' b' e':RL.E}{pos p2:Pos}{M:List Nat}{st:Stmt}{i:Nat}
end
section
variable{X:Cx}{cl:RL.Cl}{a b c d:Expr}{a' b' c' d':RL.E}{pos apos p p2 p3:Pos}
end
section
open PySem.W
variable{prog:Program}{w:World}{A:Around}{E:Value->Shared->Prop}{s:Shared}
variable{vs:List Value}{xs:List Str}
end
variable{X:Cx}
section
variable{K:PySem.W.Frag}
end
section
variable{X:Cx}{M N1:List Nat}{st:Stmt}{sts:List Stmt}{j:Nat}
end
section
variable{X:Cx}
variable{M:List Nat}{st:Stmt}{i:Nat}{cl:RL.Cl}
end
section
variable{bt:Bool}{t:SetTable}{m:Nat}
end
section
variable{prog:Program}{w:World}{A:Around}{E:Value->Shared->Prop}{s:Shared}
end
section
variable{prog:Program}{w:World}{A:Around}{E:Value->Shared->Prop}{s:Shared}
variable{R:Result->Shared->Prop}{I:Addr}{fp wr:List Addr}{G:Array GenState->Array GenState->Prop}{n:Nat}{P:Nat->Value->Prop}{St:Nat->Shared->Prop}
end
section
variable{prog:Program}{w:World}{A:Around}{E:Value->Shared->Prop}{s:Shared}{S I:Addr}{o:Obj}{es:Array (Int × Value)}{ep m i j:Nat}{t:SetTable}
end
section
variable{prog:Program}{w:World}{A:Around}{E:Value->Shared->Prop}{s:Shared}{S I:Addr}{o:Obj}{es:Array (Int × Value)}{ep m i j:Nat}{t:SetTable}
end
section
variable{X:Cx}
end
open Sem (wp)
section
variable{prog:Program}{w:World}{A:Around}{E:Value->Shared->Prop}{s:Shared}{it d:Addr}{es:Array DictEntry}{ep i:Nat}
end
end RS
namespace L2
open PySem PySem.Spec PyProof.Rows
end L2
namespace RS
open PySem PySem.Spec PyProof.Rows L2
end RS
namespace L2
open PySem PySem.Spec PyProof.Rows
section
variable{X:Cx}
def BN{e:Expr}{t t':TE}(h:PE X e t')(w:∀ σ H Q,t σ H Q->t' σ H fun v H1=>∃ p xs,v=.ref p/\H1 p=some (.lst xs)/\∀ o,Q (.ref p) (upd H1 p (.frz o (.lst xs)))):PE X e t:=by
 intro pins s σ H Q I q;refine thn (h pins s σ H _ I (w σ H Q q)) fun v s1 ⟨x,H1,I1,r1,p,xs,e1,hH,k⟩=>?_;subst e1;obtain⟨z,its,n,r,g⟩:=I1.hok p _ hH;have I':Inv X pins σ (upd H1 p (.frz _ (.lst xs))) { s1 with heap:=s1.heap,toks:=s1.toks }:=I1.write (x:=p) (e:=p) (h':=s1.heap) (t':=s1.toks) (by rw[hH];trivial) (.inl rfl) (fun b u _ e=>e) ⟨_,g⟩ ⟨g,z,its,n,r,g⟩;exact⟨.ref p,_,I',r1,k _⟩
abbrev Cg(K:PySem.W.Frag):R2:=fun x y H Q=>∃ l b xs zs,x=.ref l/\y=.ref b/\SqL K H l xs/\SqL K H b zs/\xs.length+zs.length<=sizeLine/\∀ p,H p=none->Q (.ref p) (upd H p (.lst (xs++zs)))
def yc:OpR X (binaryOp .Add) (Cg X.K):=by
 intro pins s σ H x y v u Q I rx ry h;obtain⟨l,b,xs,zs,rfl,rfl,hH,hB,hz,q⟩:=h;cases rx;cases ry;obtain⟨its,r,hl,e⟩:=I.list hH;obtain⟨its2,r2,hl2,e2⟩:=I.list hB;have a1:=r.length;have a2:=r2.length;obtain⟨⟨cls,dd,data,sl⟩,ho,hc,n,hd⟩:=hl.isList;obtain⟨⟨cls2,dd2,data2,sl2⟩,ho2,hc2,n2,hd2⟩:=hl2.isList;simp only at hc hd hc2 hd2;subst hc hd hc2 hd2;refine concat_meets ⟨_,ho,rfl⟩ ⟨_,ho2,rfl⟩ noFill_list_add seq_list_add PySem.F.slot_list_add PySem.F.entry_list_add (PySem.F.args_list_add_2 _ _) (list_addW l b its.toArray its2.toArray n n2 dd dd2 sl sl2 (by simp only[List.size_toArray];omega)) ⟨ho,ho2,?_⟩
 have ea:its.toArray++its2.toArray=(its++its2).toArray:=by simp
 rw[ea];exact⟨.ref _,_,I.qV (t':=s.toks) (r.append r2) (by rw[List.length_append];omega),rfl,q _ I.fresh⟩
end
end L2
namespace RS
open PySem PySem.Spec PyProof.Rows L2
section
variable{X:Cx}{cl:RL.Cl}{a b:Expr}{a' b':RL.E}
def A8(ha:SE X cl a a'):SE X cl a (.frz a'):=by
 refine BN ha fun σ H Q h=>?_;obtain⟨σD,d,rv,e,k⟩:=h;obtain⟨x,ea,e⟩:=bind_some (show(RL.ev cl σD a').bind _=some d from e);refine⟨σD,x,rv,ea,fun v H1 r1=>?_⟩;by_cases tf:RL.aG a'=true
 ·rw[if_pos tf]at e
  cases x with
  |lst ds=>
   obtain⟨im,rfl⟩:=bq (show(if RL.aB ds=true then some (RL.D.fL ds)else none)=some d from e);obtain⟨p,xs,rfl,_,hH,rs⟩:=aP r1.rep;have fr:=r1.fresh tf rfl p rfl;refine⟨p,xs,rfl,hH,fun o=>k _ _ (bT ?_ ?_ im)⟩
   ·intro b ob eb;rw[aE (aJ eb fr)];exact r1.same _ _ eb
   ·rw[Rep];exact⟨p,o,xs,rfl,aI,(ai.upd (P:=fun q=>q=p) hH (.inl ⟨_,rfl⟩) rfl (rs.imm im)).imm im⟩
  | _=>cases e
 ·rw[if_neg tf]at e;cases e
def B4{pos:Pos}(ha:SE X cl a a')(hb:SE X cl b b'):SE X cl (.BinOp a .Add b pos) (.cat a' b'):=by
 refine PE.weak (xc yc ha hb) fun σ H Q h=>?_;obtain⟨σD,d,rv,e,k⟩:=h;obtain⟨x,ea,e⟩:=bind_some (show(RL.ev cl σD a').bind _=some d from e);obtain⟨y,eb,e⟩:=bind_some e;refine two rv ea eb fun v u H1 H2 s1 s2 rx ry _ _=>?_
 cases x with
 |fL i=>
  cases y with
  |lst j=>
   obtain⟨hc,rfl⟩:=bq (show(if i.length+j.length<=RL.most then some (RL.D.lst (i++j))else none)=some d from e);rw[Rep]at rx;obtain⟨p,o,xs,e1,e2,e3⟩:=rx;obtain⟨q,ys,f1,_,f2,f3⟩:=aP ry;refine⟨p,q,xs,ys,e1,f1,.inl (.inr ⟨o,e2⟩),SqL.of f2,?_,fun l hl=>k _ _ (cz (s1.trans s2) hl (e3.append f3) fun _=>rfl)⟩;rw[<-e3.length,<-f3.length];exact Nat.le_trans hc cb
  | _=>cases e
 |lst i=>
  cases y with
  |fL j=>
   obtain⟨hc,rfl⟩:=bq (show(if i.length+j.length<=RL.most then some (RL.D.lst (i++j))else none)=some d from e);rw[Rep]at ry;obtain⟨p,o,xs,e1,e2,e3⟩:=ry;obtain⟨q,ys,f1,_,f2,f3⟩:=aP rx;refine⟨q,p,ys,xs,f1,e1,SqL.of f2,.inl (.inr ⟨o,e2⟩),?_,fun l hl=>k _ _ (cz (s1.trans s2) hl (f3.append e3) fun _=>rfl)⟩;rw[<-e3.length,<-f3.length];exact Nat.le_trans hc cb
  | _=>cases e
 | _=>cases e
end
section
variable{prog:Program}{w:World}{A:Around}{R:Result->Shared->Prop}{I S:Addr}{fp wr:List Addr}{n:Nat}{P:Nat->Value->Prop}{St:Nat->Heap->Prop}{Ok:Heap->Prop}{bt:Nat->Nat->Bool}
end
section
variable{prog:Program}{w:World}{A:Around}{E:Value->Shared->Prop}{s:Shared}
end
end RS
namespace L2
open PySem PySem.Spec PyProof.Rows
section
variable{X:Cx}
end
end L2
namespace RS
open PySem PySem.Spec PyProof.Rows L2
section
variable{X:Cx}{cl:RL.Cl}{a b:Expr}{a' b':RL.E}{p pos:Pos}
end
section
variable{prog:Program}{w:World}{A:Around}{E:Value->Shared->Prop}{s:Shared}{I t:Addr}{items:Array Value}
def qH(hh:A.handled=none)(hne:t≠I):Walks prog w A I [I,t] [I] (items.size-1) (fun i v=>items[i+1]?=some v) (fun i h=>IsTupIter h I t (i+1)/\IsTup h t items) where
 sub:=fun b hb=>by simp at hb;simp[hb]
 frame:=fun i h h' ⟨⟨o,a1,a2⟩,o',b1,b2⟩ hk=>⟨⟨o,hk I (by simp) _ a1,a2⟩,o',hk t (by simp) _ b1,b2⟩
 item:=fun i s Q E hi st hQ=>by
  have hl:i+1<items.size:=by omega
  refine next_tuple_item st.1 st.2 (x:=items[i+1]) (by simp[hl]) fun h' it' hs=>?_;obtain⟨o',b1,b2⟩:=st.2;exact hQ _ h' s.toks (by simp[hl]) ⟨it',o',hs.extBut t _ hne b1,b2⟩ fun b o hb e=>hs.extBut b o (fun z=>hb (by simp[z])) e
 done:=fun s Q E st hQ=>next_tuple_end hh st.1 st.2 (by rw[Array.getElem?_eq_none_iff];omega) fun h' he=>hQ h' s.toks fun b o hb e=>he b o (fun z=>hb (by simp[z])) e
 self:=fun i s Q E st hQ=>by
  obtain⟨o,a1,a2,a3⟩:=st.1;exact wpAny_pyIter_tupleiter (t:=t) (i:=i+1) ⟨o,a1,a2,a3⟩ hQ
def oO{Q:List Value->Shared->Prop}(hh:A.handled=none)(ht:IsTup s.heap t items)(h0:0<items.size)(hz:items.size<=sizeLine)
 (hQ:∀ (g:Heap) (tk:Nat),(∀ b o,s.heap.get? b=some o->g.get? b=some o)->Q [items[0],.ref g.objs.size] { s with heap:=g.push { cls:=.type "list",data:=.seq (items.toList.drop 1).toArray },toks:=tk }) :
  wpAny (model prog w) A (unpackItems (.ref t) 2 (some 1)) Q E s:=by
 have hlt:t<s.heap.objs.size:=by obtain⟨o,ho,_⟩:=ht;exact Heap.lt_size ho
 unfold unpackItems;refine wpAny_bind ?_;unfold notIterableAtAll;refine wpAny_bind (wpAny_specialOf ht.typeIs slot_tuple_iter.lookup (wpAny_pure ?_));rw[if_neg (by simp)];refine wpAny_bind (wpAny_holding (iter_tuple ht (wpAny_bind (wpAny_holding (draw_tuple (Nat.ne_of_lt hlt) 1 0 _ _ ⟨_,Heap.get?_push_size _ rfl,rfl,rfl⟩ (ht.push _) (by omega) fun h1 it1 hs1=>?_)))))
 have e1:List.take 1 (List.drop 0 items.toList)=[items[0]]:=by
  rw[List.drop_zero,List.take_one,List.head?_eq_getElem?,Array.getElem?_toList];simp[h0]
 rw[e1,if_neg (by simp)];have ht1:IsTup h1 t items:=(ht.push _).extBut hs1.extBut (Nat.ne_of_lt hlt);refine wpAny_bind (wpAny_holding (wpAny_collect_iter (T := "tuple_iterator") (.inr (.inr (.inr rfl))) (qH (A:=A.in1) (I:=s.heap.objs.size) (items:=items) hh (Nat.ne_of_lt hlt)).toS (fun i s st=>?_) ⟨it1,ht1⟩ (fun b hb=>?_) (by simp) (fun s' acc mv hI=>?_) (by omega)))
 ·obtain⟨o,a1,a2,_⟩:=st.1;exact⟨o,a1,a2⟩
 ·obtain⟨o,a1,_⟩:=it1;have:=Heap.lt_size a1;simp at hb;rcases hb with rfl | rfl
  ·exact this
  ·exact Nat.lt_trans hlt this
 ·have ea:acc.toList=items.toList.drop 1:=by
   apply List.ext_getElem?;intro i;rw[Array.getElem?_toList,List.getElem?_drop,Array.getElem?_toList,Nat.add_comm 1 i]
   cases e:acc[i]? with
   |none=>
    rw[Array.getElem?_eq_none_iff,hI.1]at e;symm;rw[Array.getElem?_eq_none_iff];omega
   | some v=>exact(hI.2 i v e).symm
  rw[ea];show wpAny _ _ (if(items.toList.drop 1).length<0 then _ else _) _ _ _;rw[if_neg (Nat.not_lt_zero _)];refine wpAny_bind (wpAny_newObj_type (wpAny_pure ?_) ?_)
  ·have e2:(items.toList.drop 1).drop ((items.toList.drop 1).length-0)=[]:=by rw[Nat.sub_zero,List.drop_length]
   have e3:(items.toList.drop 1).take ((items.toList.drop 1).length-0)=items.toList.drop 1:=by rw[Nat.sub_zero,List.take_length]
   show Q ([items[0]]++[.ref s'.heap.objs.size]++(items.toList.drop 1).drop ((items.toList.drop 1).length-0)) _;rw[e2,e3];have q:=hQ s'.heap s'.toks (fun b o e=>mv.heap b o (fun z=>by have z:=List.mem_singleton.mp z;have:=Heap.lt_size e;rw[z]at this;exact Nat.lt_irrefl _ this) (hs1.extBut b o (Nat.ne_of_lt (Heap.lt_size e)) (Heap.get?_push_of_some _ e)));obtain⟨hp,g,d,tk,os⟩:=s';have m1:g=s.gens:=mv.gens;have m2:d=s.drawn:=mv.drawn;have m3:os=s.os:=mv.os;subst m1 m2 m3;exact q
  ·show((items.toList.drop 1).take ((items.toList.drop 1).length-0)).length<=sizeLine;rw[Nat.sub_zero,List.take_length,List.length_drop,Array.length_toList];omega
end
end RS
namespace L2
open PySem PySem.Spec PyProof.Rows
section
variable{X:Cx}
abbrev xh(K:PySem.W.Frag)(i j:Nat):TG:=fun v σ H Q=>∃ a z zs,v=.ref a/\SqT K H a (z::zs)/\∀ l o,H l=none->Q ((σ.set i (some z)).set j (some (.ref l))) (upd (upd H l (.lst zs)) l (.frz o (.lst zs)))
def yu{x y:Str}{px py q pos:Pos}{kt:Nat}(hc:X.calm=true)(h1:PG X (.Name x px) (jg i))(h2:PG X (.Name y py) (jg j)):PG X (.Tuple [.Name x px,.Starred (.Name y py) q] kt pos) (xh X.K i j):=by
 intro pins s σ H v u Q I r h;obtain⟨a,z,zs,rfl,hq,k⟩:=h;cases r;obtain⟨its,rv,ht,hz⟩:=I.tuple hq
 cases rv with
 |@cons _ it _ its rz rzs=>
  rw[assign_Tuple];refine wpAny_bind (wpAny_standAt ?_);unfold unpack;refine wpAny_bind (wpAny_holding (RS.oO (items:=(it::its).toArray) (I.ok.hd.1 hc) ht (by simp) (by simpa[<-rzs.length]using hz) fun g tk kp=>?_));have I1:Inv X pins σ H { s with heap:=g,toks:=tk }:=I.kept (t':=tk) kp;have I2:Inv X pins σ (upd H g.objs.size (.lst zs)) { s with heap:=g.push { cls:=.type "list",data:=.seq its.toArray },toks:=tk }:=I1.qV (t':=tk) rzs (by have:zs.length+1<=sizeLine:=hz;omega);obtain⟨z1,its1,n1,r1,g1⟩:=I2.hok g.objs.size _ aI;have I3:Inv X pins σ (upd (upd H g.objs.size (.lst zs)) g.objs.size (.frz _ (.lst zs))) { s with heap:=g.push { cls:=.type "list",data:=.seq its.toArray },toks:=tk }:=I2.write (x:=g.objs.size) (e:=g.objs.size) (h':=g.push { cls:=.type "list",data:=.seq its.toArray }) (t':=tk) (by rw[aI];trivial) (.inl rfl) (fun b u _ e=>e) ⟨_,g1⟩ ⟨g1,z1,its1,n1,r1,g1⟩;have hf:H g.objs.size=none:=I1.hok.fresh (Nat.le_refl _);refine assignInOrder_cons (thn (h1 pins _ σ _ z it (fun σ' H'=>σ'=σ.set i (some z)/\H'=upd (upd H g.objs.size (.lst zs)) g.objs.size (.frz { cls:=Value.type "list",data:=Data.seq its1.toArray n1 } (.lst zs))) I3 rz ⟨rfl,rfl⟩) fun _ s1 ⟨σ1,H1,J1,e1,e2⟩=>?_);subst e1 e2;refine assignInOrder_cons (thn (h2 pins s1 _ _ (.ref g.objs.size) (.ref g.objs.size) (fun σ' H'=>σ'=(σ.set i (some z)).set j (some (.ref g.objs.size))/\H'=upd (upd H g.objs.size (.lst zs)) g.objs.size (.frz { cls:=Value.type "list",data:=Data.seq its1.toArray n1 } (.lst zs))) J1 rfl ⟨rfl,rfl⟩) fun _ s2 ⟨σ2,H2,J2,e1,e2⟩=>?_);subst e1 e2;exact assignInOrder_nil ⟨_,_,J2,k _ _ hf⟩
abbrev GDc(X:Cx)(d:Addr)(kvs:List (Str × Addr)):Prop:=(d == sysModules)=false/\∀ h:Heap,X.K.In h->h.DictOf (bp X.prog X.w) d (kvs.map fun q=>((Sum.inr q.1:Key),Value.ref q.2))
def xp(kvs:List (Str × Addr))(x:Str):valueAt (kvs.map fun q=>((Sum.inr q.1:Key),Value.ref q.2)) (Sum.inr x)=(kvs.find? fun q=>decide (q.1=x)).map fun q=>Value.ref q.2:=by
 unfold valueAt
 induction kvs with
 | nil=>rfl
 |cons q r ih=>
  rw[List.map_cons,List.find?_cons,List.find?_cons];have e:decide ((Sum.inr q.1:Key)=Sum.inr x)=decide (q.1=x):=sL q.1 x;rw[e]
  cases decide (q.1=x)with
  | true=>rfl
  | false=>exact ih
def tO{a:Expr}{ta:TE}{g:Str}{p:Pos}{kvs:List (Str × Addr)}(ha:PE X a ta)(hg:Gl X g)(hm:X.mg g=some (.ref d))(hdb:(g == ("__debug__" : Str))=false)(G:GDc X d kvs) :
  PC X .In a (.Name g p) (fun σ H Q=>ta σ H fun y H1=>∃ x,y=.str x/\Q (.bl (kvs.find? fun q=>decide (q.1=x)).isSome) H1):=by
 intro pins s σ H Q I h;refine thn (ha pins s σ H _ I h) fun u s1 ⟨y,H1,I1,r1,x,e,q⟩=>cJ I1 hg hm ?_ hdb;subst e;refine wpAny_in_of (k:=(Sum.inr x:Key)) (rH r1) G.1 (G.2 _ I1.kIn).mapOf ?_;rw[xp,Option.isSome_map];exact⟨.bl _,H1,I1.tok _,rfl,q⟩
def xB{b:Expr}{tb:TE}{g:Str}{p pos:Pos}{kvs:List (Str × Addr)}(hb:PE X b tb)(hg:Gl X g)(hm:X.mg g=some (.ref d))(hdb:(g == ("__debug__" : Str))=false)(G:GDc X d kvs)(hs:rG b) :
  PE X (.Subscript (.Name g p) b pos) (fun σ H Q=>tb σ H fun y H1=>∃ x q,y=.str x/\(kvs.find? fun q=>decide (q.1=x))=some q/\Q (.ref q.2) H1):=by
 intro pins s σ H Q I h;refine yj PySem.F.slot_dict_getitem.lookup hs (cJ I hg hm ?_ hdb);refine thn (hb pins s σ H _ I h) fun u s1 ⟨y,H1,I1,r1,x,q,e,f,k⟩=>?_;subst e;have dd:=G.2 _ I1.kIn;refine⟨dd.typeIs,wpAny_getItem_of (k:=(Sum.inr x:Key)) (rH r1) dd.mapOf (v:=Value.ref q.2) (by rw[xp,f];rfl) ⟨.ref q.2,H1,I1.tok _,rfl,k⟩⟩
def uO{i:Nat}{e:Expr}{es:List Expr}{t:TA}{p pos:Pos}{x:Str}(hN:X.N[i]?=some x)(hv:Vis X.env.scope x)(hd:(x == ("__debug__" : Str))=false)(hcd:(x == ("__classdict__" : Str))=false)(ha:PA X (e::es) t)
 (he:starEach (e::es) X.env=(false,eval e X.env)::starEach es X.env)(hpl:(backTo pos (starEach es X.env)).any (·.1)=false) :
  PE X (.Call (.Name x p) (e::es) [] pos) (fun σ H Q=>∃ k f fd ps sp,∃ σ0:St,σ=σ0.set i (some (.ref f))/\cu X.prog X.w X.K X.mg X.base CX0 k f fd ps sp/\bB k X.A/\PySem.W.keepIn X.K (.ref f)=true/\Binds X.K fd ps []/\wA sp [] E0 t σ H Q):=by
 intro pins s σ H Q I h;obtain⟨k,f,fd,ps,sp,σ0,h0,F,hr,hk,hb,h⟩:=h
 have h1:σ[i]?=some (some (.ref f)):=by
  have l:=I.len;have n:=(List.getElem?_eq_some_iff.mp hN).1;subst h0;rw[List.length_set]at l;rw[List.getElem?_set_self (by omega)]
 refine wpAny_Call_Name_kw (thn (gO (pos:=p) hN hv hd hcd pins s σ H (fun v H1=>v=.ref f/\H1=H) I ⟨_,h1,rfl,rfl⟩) fun u s1 ⟨v,H1,I1,r1,e1,e2⟩=>?_);subst e1 e2;cases r1;refine PySem.W.callWith_K (h₀:=X.base) I1.ok.mod.kin hk (thn (ha pos pins s1 σ H1 _ I1 h) fun us s2 ⟨vs,H2,I2,r,q⟩=>⟨I2.kIn,?_⟩) he hpl;exact t8 F hr hb .nil wJ I2 r q
end
end L2
namespace RS
open PySem PySem.Spec PyProof.Rows L2
section
variable{X:Cx}{cl:RL.Cl}{a b e:Expr}{a' b' e':RL.E}{p pos:Pos}{M:List Nat}{st:Stmt}{i j:Nat}
def we(kvs:List (Str × Addr))(x:Str):(kvs.find? fun q=>decide (q.1=x)).isSome=(kvs.map (·.1)).any fun k=>decide (k=x):=by
 induction kvs with
 | nil=>rfl
 |cons q r ih=>
  rw[List.find?_cons,List.map_cons,List.any_cons]
  cases decide (q.1=x)with
  | true=>rfl
  | false=>rw[Bool.false_or];exact ih
def sd{Q:VK}{kvs:List (Str × Addr)}{ks:List Str}(hk:kvs.map (·.1)=ks)(rv:RV0 X.K σD σ H)(h:RL.ev cl σD (.inG g ks a')=some d)(k:∀ t H',d=.bl t->aD H H'->Q (.bl t) H') :
  tE X.K cl a' σ H fun y H1=>∃ x,y=.str x/\Q (.bl (kvs.find? fun q=>decide (q.1=x)).isSome) H1:=by
 obtain⟨x,ea,e⟩:=bind_some (show(RL.ev cl σD a').bind _=some d from h);refine⟨σD,x,rv,ea,fun v H1 r1=>?_⟩
 cases x with
 |str x=>
  cases e;refine⟨x,aN r1.rep,?_⟩;have q:=we kvs x;rw[hk]at q;rw[q];exact k _ _ rfl r1.same
 | _=>cases e
def Av{kvs:List (Str × Addr)}{ks:List Str}(ha:SE X cl a a')(hg:Gl X g)(hm:X.mg g=some (.ref d))(hdb:(g == ("__debug__" : Str))=false)(G:GDc X d kvs)(hk:kvs.map (·.1)=ks):SE X cl (.Compare a [.In] [.Name g p] pos) (.inG g ks a'):=by
 refine PE.weak (zV (tO ha hg hm hdb G) (gr rfl)) fun σ H Q h=>?_;obtain⟨σD,d,rv,e,q⟩:=h
 exact sd hk rv e fun t H' hd sm=>by subst hd;exact q _ _ (cX sm)
def zu{kvs:List (Str × Addr)}{ks:List Str}(ha:SE X cl a a')(hg:Gl X g)(hm:X.mg g=some (.ref d))(hdb:(g == ("__debug__" : Str))=false)(G:GDc X d kvs)(hk:kvs.map (·.1)=ks):ST X cl (.Compare a [.In] [.Name g p] pos) (.inG g ks a'):=by
 refine PT.weak (zU (tO ha hg hm hdb G) (gr rfl)) fun σ H Q h=>?_;obtain⟨σD,k,rv,e,q⟩:=h;obtain⟨d,e1,e2⟩:=bind_some e;refine sd (Q:=fun v H1=>∃ c,v=.bl c/\Q c H1) hk rv e1 fun t H' hd sm=>?_;subst hd;cases e2;exact⟨_,rfl,q _ sm⟩
def yf(h:PS X st (vV i j (eO (tE X.K cl a') (eO (tE X.K cl b') iD))))(hi:M.contains i=false)(hj:M.contains j=false):SS X cl M st (.parL i j a' b'):=by
 refine PS.weak h fun D σ H h=>?_;obtain⟨σD,o,σD',rv,e,k⟩:=h;obtain⟨x,e1,e⟩:=bind_some e;obtain⟨y,e2,e⟩:=bind_some e;obtain⟨him,e⟩:=bq e;cases e;rw[Bool.and_eq_true,Bool.and_eq_true]at him;obtain⟨im,q1,q2⟩:=him;refine⟨σD,x,rv.rv0,e1,fun v H1 r1=>⟨σD,y,rv.rv0.same r1.same,e2,fun u H2 r2=>⟨v,u,rfl,k _ _ ?_ ?_⟩⟩⟩
 ·have rv1:=(rv.same r1.same).bind hi (r1.rep.imm im);refine(rv1.same r2.same).bind hj ?_;have rp:=r2.rep;have fr:jH y=true->∀ a,u=.ref a->¬ bz M (σ.set i (some v)) a:=fun m a z p=>rv1.qY a p (r2.fresh q2 m a z)
  cases y with
  | lst ds=>obtain⟨a,xs,e1,e0,e2,e3⟩:=aP rp;rw[Rep];exact⟨a,xs,e1,fr rfl a e1,e2,e3.imm q1⟩
  | dK ks ds=>rw[Rep]at rp ⊢;obtain⟨a,xs,e1,e0,e2,el,e3⟩:=rp;exact⟨a,xs,e1,fr rfl a e1,e2,el,e3.imm q1⟩
  | dT ks ds=>rw[Rep]at rp ⊢;obtain⟨a,xs,e1,e0,e2,el,e3⟩:=rp;exact⟨a,xs,e1,fr rfl a e1,e2,el,e3.imm q1⟩
  | _=>cases q1
 ·exact(Fr'.bind hi r1.same).trans (Fr'.bind hj r2.same)
def yv(h:PS X st (r9 (tE X.K cl e') (xh X.K i j)))(hi:M.contains i=false)(hj:M.contains j=false):SS X cl M st (.star i j e'):=by
 refine PS.weak h fun D σ H h=>?_;obtain⟨σD,o,σD',rv,e,k⟩:=h;obtain⟨q,e1,e⟩:=map_some (show((RL.ev cl σD e').bind RL.mj).map _=_ from e);cases e;obtain⟨x,ex,e1⟩:=bind_some e1;refine⟨σD,x,rv.rv0,ex,fun v H1 r1=>?_⟩
 cases x with
 |tup ds=>
  cases ds with
  | nil=>cases e1
  |cons d r=>
   obtain⟨im,e1⟩:=bq (show(if(d.imm&&RL.aB r)=true then some (d,RL.D.fL r)else none)=some q from e1);cases e1;rw[Bool.and_eq_true]at im;obtain⟨t,ws,rfl,g2,g3⟩:=bx r1.rep;rw[ai]at g3;obtain⟨z,zs,rfl,g4,g5⟩:=g3;refine⟨t,z,zs,rfl,SqT.of g2,fun l o hl=>k _ _ ?_ ?_⟩
   ·have s2:aD H1 (upd (upd H1 l (.lst zs)) l (.frz o (.lst zs))):=fun b ob eb=>by
     have n:=aJ eb hl;rw[aE n,aE n];exact eb
    refine(((rv.same r1.same).bind hi (g4.imm im.1)).same s2).bind hj ?_;rw[Rep];exact⟨l,o,zs,rfl,aI,(g5.same s2).imm im.2⟩
   ·exact(Fr'.bind hi r1.same).trans (Fr'.bind hj fun b ob eb=>by
     have n:=aJ eb hl;rw[aE n,aE n]
     exact eb)
 | _=>cases e1
def yI{tbl:List (Str × Nat)}{kvs:List (Str × Addr)}{n g:Str}{e:Expr}{es:List Expr}{es':RL.Es}{np gp sp cp cpos rpos:Pos}(hN:X.N.Nodup)(hi:X.N[i]?=some n)(hl:Loc X.env.scope n)(hv:Vis X.env.scope n)(hd:(n == ("__debug__" : Str))=false)(hcd:(n == ("__classdict__" : Str))=false)
 (hf:X.fn n=true\/X.env.scope.names.lookup n=some .local)(ha:SE X cl a a')(hs:rG a)(hg:Gl X g)(hm:X.mg g=some (.ref d))(hdb:(g == ("__debug__" : Str))=false)(G:GDc X d kvs)
 (hk:∀ x m,RL.fH tbl (.str x)=some m->∃ q k fd ps,(kvs.find? fun q=>decide (q.1=x))=some q/\cu X.prog X.w X.K X.mg X.base CX0 k q.2 fd ps (spF X.K cl m)/\bB k X.A/\PySem.W.keepIn X.K (.ref q.2)=true/\Binds X.K fd ps [])
 (he:SEs X cl (e::es) es')(hn:noStar e=true)(hns:es.all noStar=true)(hsw:swapsWith (.Subscript (.Name g gp) a sp) (some (.Name n np)) pos.line X.env=pure false) :
  SSs X cl M [.Assign [.Name n np] (.Subscript (.Name g gp) a sp) pos,.Return (some (.Call (.Name n cp) (e::es) [] cpos)) rpos] (.act i g tbl a' es'):=by
 intro pins s σ H D I h;refine eF (nB hN hi hl (xB ha hg hm hdb G hs) hsw hf) (xC (jR (uO hi hv hd hcd he (aC es hn) (cC hns)))) pins s σ H D I ?_;obtain⟨σD,o,σD',rv,ev,post⟩:=h;obtain⟨m,e1,ev⟩:=bind_some (show((RL.ev cl σD a').bind (RL.fH tbl)).bind _=_ from ev);obtain⟨x,ea,e1⟩:=bind_some e1;obtain⟨ds,e2,ev⟩:=bind_some ev;obtain⟨r,e3,ev⟩:=bind_some ev;obtain⟨im,ev⟩:=bq ev;cases ev;refine⟨σD,x,rv.rv0,ea,fun v H1 r1=>?_⟩
 cases x with
 |str x=>
  obtain⟨q,k,fd,ps,f1,F,hr,hkp,hb⟩:=hk x m e1;refine⟨x,q,aN r1.rep,f1,k,q.2,fd,ps,_,σ,rfl,F,hr,hkp,hb,σD.set i none,ds,⟨by simpa using Nat.le_of_eq rv.len,fun j dj hj=>?_⟩,e2,fun vs H2 s2 r2=>?_⟩
  ·by_cases hij:i=j
   ·subst hij;rw[List.getElem?_set]at hj;split at hj
    ·split at hj<;>cases hj
    ·exact absurd rfl ‹_›
   ·rw[List.getElem?_set_ne hij]at hj ⊢;exact(rv.rv0.same r1.same).2 j dj hj
  ·show spF X.K cl m (vs++[]) H2 _ E0;rw[List.append_nil];exact⟨ds,r,r2,e3,fun v H3 s3 r3=>post σ H v H3 rv (Fr'.same (aD.refl H)) ((r1.same.trans s2).trans s3) fun P hP=>r3.imm im⟩
 | _=>cases e1
end
inductive Ent (w:World):List DictEntry->List (Str × Addr)->Prop
 | nil:Ent w [] []
 | cons {e:DictEntry} {x:Str} {a:Addr} {t:Tok} {es:List DictEntry} {kvs:List (Str × Addr)}:e.key=.str x t->e.val=.ref a->e.hash=hashStr w x->Ent w es kvs->Ent w (e::es) ((x,a)::kvs)
def Ent.pairs{w:World}{P:Program}:∀ {es:List DictEntry} {kvs:List (Str × Addr)},Ent w es kvs->Pairs (bp P w) es (kvs.map fun q=>((Sum.inr q.1:Key),Value.ref q.2))/\∀ e∈es,∃ k,(bp P w).is k e.key=true/\e.hash=(bp P w).hash k
 | _,_,.nil=>⟨.nil,fun e he=>by cases he⟩
 | _,_,.cons (x:=x) (t:=t) h1 h2 h3 r=>by
  obtain⟨a,b⟩:=Ent.pairs (P:=P) r;have k:(bp P w).is (.inr x) (.str x t)=true:=j1 P w x t;rw[<-h1]at k;refine⟨.cons k h2 a,fun e he=>?_⟩;rcases List.mem_cons.mp he with rfl | he
  ·exact⟨.inr x,k,h3⟩
  ·exact b e he
def BF:∀ {kvs:List (Str × Addr)},(kvs.map (·.1)).Nodup->((kvs.map fun q=>((Sum.inr q.1:Key),Value.ref q.2)).map (·.1)).Nodup:=fun {kvs} h=>by
 rw[List.map_map]
 induction kvs with
 | nil=>exact List.nodup_nil
 |cons q r ih=>
  rw[List.map_cons,List.nodup_cons]at h ⊢;refine⟨fun z=>h.1 ?_,ih h.2⟩;obtain⟨y,hy,e⟩:=List.mem_map.mp z;injection e with e;rw[<-e];exact List.mem_map.mpr ⟨y,hy,rfl⟩
def Cb{K:PySem.W.Frag}{w:World}{es:List DictEntry}{kvs:List (Str × Addr)}{ep:Nat}(l:K.lookup d=some ⟨.type "dict",none,.dict es.toArray ep,#[]⟩)(E:Ent w es kvs)(hn:(kvs.map (·.1)).Nodup)(P:Program)(h:Heap)(X:K.In h) :
  h.DictOf (bp P w) d (kvs.map fun q=>((Sum.inr q.1:Key),Value.ref q.2)):=by
 obtain⟨a,b⟩:=E.pairs (P:=P);exact⟨_,es.toArray,ep,X _ _ l,⟨rfl,rfl,rfl⟩,rfl,fun e he=>b e (by simpa using he),by simpa using a,BF hn⟩
inductive FzG (mg:Str->Option Value) (F:List (Str × List Nat)):List (Str × Addr)->List (Str × Nat)->Prop
 | nil:FzG mg F [] []
 | cons {x nm:Str} {a:Addr} {m:Nat} {r:List (Str × Addr)} {t:List (Str × Nat)}:F[m]?=some (nm,[])->mg nm=some (.ref a)->FzG mg F r t->FzG mg F ((x,a)::r) ((x,m)::t)
def FzG.keys{mg:Str->Option Value}:∀ {r:List (Str × Addr)} {t:List (Str × Nat)},FzG mg F r t->r.map (·.1)=t.map (·.1)
 | _,_,.nil=>rfl
 | _,_,.cons _ _ h=>by rw[List.map_cons,List.map_cons,h.keys]
def FzG.act{mg:Str->Option Value}:∀ {r:List (Str × Addr)} {t:List (Str × Nat)},FzG mg F r t->∀ y m,RL.fH t (.str y)=some m->∃ q nm,(r.find? fun q=>decide (q.1=y))=some q/\F[m]?=some (nm,[])/\mg nm=some (.ref q.2)
 | _,_,.nil,y,m,e=>by cases e
 | _,_,.cons (x:=x) (nm:=nm) (a:=a) (m:=k) (t:=t) h1 h2 h,y,m,e=>by
  have e:(((x,k)::t).find? fun q=>decide (q.1=y)).map (·.2)=some m:=e;rw[List.find?_cons]at e ⊢
  cases hd:decide (x=y)with
  | true=>rw[hd]at e;cases e;exact⟨_,nm,rfl,h1,h2⟩
  | false=>rw[hd]at e;exact h.act y m e
def yk{K:PySem.W.Frag}{w:World}{g:Str}{tbl:List (Str × Nat)}{kvs:List (Str × Addr)}{mg:Str->Option Value}(a:mg g=some (.ref d))(hd:(d == sysModules)=false)(D:∀ (P:Program) (h:Heap),K.In h->h.DictOf (bp P w) d (kvs.map fun q=>((Sum.inr q.1:Key),Value.ref q.2)))
 (z:FzG mg F kvs tbl):∀ x t,[(g,tbl)].lookup x=some t->∃ (d:Addr) (kvs:List (Str × Addr)),mg x=some (.ref d)/\((d == sysModules)=false/\∀ (P:Program) (h:Heap),K.In h->h.DictOf (bp P w) d (kvs.map fun q=>((Sum.inr q.1:Key),Value.ref q.2)))/\kvs.map (·.1)=t.map (·.1)/\∀ y m,RL.fH t (.str y)=some m->∃ q nm,(kvs.find? fun q=>decide (q.1=y))=some q/\F[m]?=some (nm,[])/\mg nm=some (.ref q.2):=fun x t e=>by
 rw[List.lookup_cons]at e
 cases hb:x == g with
 | false=>rw[hb]at e;cases e
 |true=>
  rw[hb]at e;cases e;rw[eq_of_beq hb];exact⟨d,kvs,a,⟨hd,D⟩,z.keys,z.act⟩
def nos{α:Type}{P:Prop}{x:α}(h:(none:Option α)=some x):P:=by cases h
def aq{α:Type}{o:Option α}{f:α->Bool}(h:o.any f=true):∃ x,o=some x/\f x=true:=by
 cases o with
 | none=>cases h
 | some x=>exact⟨x,rfl,h⟩
def ag{a b:Bool}(h:(a&&b)=true):a=true/\b=true:=by rw[Bool.and_eq_true]at h;exact h
abbrev c5:Expr->Option Str
 | .Name x _=>some x
 | _=>none
def bG{e:Expr}{x:Str}(h:c5 e=some x):∃ p,e=.Name x p:=by
 cases e
 case Name=>cases h;exact⟨_,rfl⟩
 all_goals exact nos h
abbrev kS:Expr->Option Const
 | .Constant k _ _=>some k
 | _=>none
def gY{e:Expr}{k:Const}(h:kS e=some k):∃ j p,e=.Constant k j p:=by
 cases e
 case Constant=>cases h;exact⟨_,_,rfl⟩
 all_goals exact nos h
abbrev qN:Expr->Option (Expr × Operator × Expr)
 | .BinOp l o r _=>some (l,o,r)
 | _=>none
def oZ{e:Expr}{l r:Expr}{o:Operator}(h:qN e=some (l,o,r)):∃ p,e=.BinOp l o r p:=by
 cases e
 case BinOp=>cases h;exact⟨_,rfl⟩
 all_goals exact nos h
abbrev vUn:Expr->Option (UnaryOp × Expr)
 | .UnaryOp o x _=>some (o,x)
 | _=>none
def oA{e x:Expr}{o:UnaryOp}(h:vUn e=some (o,x)):∃ p,e=.UnaryOp o x p:=by
 cases e
 case UnaryOp=>cases h;exact⟨_,rfl⟩
 all_goals exact nos h
abbrev kL:Expr->Option (Expr × List CmpOp × List Expr)
 | .Compare l o r _=>some (l,o,r)
 | _=>none
def gU{e l:Expr}{r:List Expr}{o:List CmpOp}(h:kL e=some (l,o,r)):∃ p,e=.Compare l o r p:=by
 cases e
 case Compare=>cases h;exact⟨_,rfl⟩
 all_goals exact nos h
abbrev vBool:Expr->Option (BoolOp × List Expr × Pos)
 | .BoolOp o es p=>some (o,es,p)
 | _=>none
def i7{e:Expr}{es:List Expr}{o:BoolOp}{p:Pos}(h:vBool e=some (o,es,p)):e=.BoolOp o es p:=by
 cases e
 case BoolOp=>cases h;exact rfl
 all_goals exact nos h
abbrev fJ:Expr->Option (List Expr)
 | .Tuple es _ _=>some es
 | _=>none
def cx{e:Expr}{es:List Expr}(h:fJ e=some es):∃ k p,e=.Tuple es k p:=by
 cases e
 case Tuple=>cases h;exact⟨_,_,rfl⟩
 all_goals exact nos h
abbrev vi:Expr->Option (List Expr)
 | .List es _=>some es
 | _=>none
def yG{e:Expr}{es:List Expr}(h:vi e=some es):∃ p,e=.List es p:=by
 cases e
 case List=>cases h;exact⟨_,rfl⟩
 all_goals exact nos h
abbrev oq:Expr->Option (Expr × Expr)
 | .Subscript a b _=>some (a,b)
 | _=>none
def gE{e a b:Expr}(h:oq e=some (a,b)):∃ p,e=.Subscript a b p:=by
 cases e
 case Subscript=>cases h;exact⟨_,rfl⟩
 all_goals exact nos h
abbrev vSl:Expr->Option (Option Expr × Option Expr × Option Expr)
 | .Slice a b c _=>some (a,b,c)
 | _=>none
def uc{e:Expr}{a b c:Option Expr}(h:vSl e=some (a,b,c)):∃ p,e=.Slice a b c p:=by
 cases e
 case Slice=>cases h;exact⟨_,rfl⟩
 all_goals exact nos h
abbrev f7:Expr->Option (Expr × List Expr × List Keyword × Pos)
 | .Call f as ks p=>some (f,as,ks,p)
 | _=>none
def dk{e f:Expr}{as:List Expr}{ks:List Keyword}{p:Pos}(h:f7 e=some (f,as,ks,p)):e=.Call f as ks p:=by
 cases e
 case Call=>cases h;exact rfl
 all_goals exact nos h
abbrev ml:Expr->Option (Expr × Str × Pos)
 | .Attribute o x p=>some (o,x,p)
 | _=>none
def jC{e o:Expr}{x:Str}{p:Pos}(h:ml e=some (o,x,p)):e=.Attribute o x p:=by
 cases e
 case Attribute=>cases h;exact rfl
 all_goals exact nos h
abbrev qF:Expr->Option (Expr × List Comprehension × Scope × Pos)
 | .ListComp e gs sc p=>some (e,gs,sc,p)
 | _=>none
def m5{e x:Expr}{gs:List Comprehension}{sc:Scope}{p:Pos}(h:qF e=some (x,gs,sc,p)):e=.ListComp x gs sc p:=by
 cases e
 case ListComp=>cases h;exact rfl
 all_goals exact nos h
abbrev wY:Expr->Option Expr
 | .Starred e _=>some e
 | _=>none
def vM{e x:Expr}(h:wY e=some x):∃ p,e=.Starred x p:=by
 cases e
 case Starred=>cases h;exact⟨_,rfl⟩
 all_goals exact nos h
abbrev of1{α:Type}(xs:List α)(f:α->Bool):Bool:=match xs with
 | [a]=>f a
 | _=>false
abbrev of2{α:Type}(xs:List α)(f:α->α->Bool):Bool:=match xs with
 | [a,b]=>f a b
 | _=>false
abbrev of3{α:Type}(xs:List α)(f:α->α->α->Bool):Bool:=match xs with
 | [a,b,c]=>f a b c
 | _=>false
def aS{α:Type}:∀ {xs:List α} {f:α->Bool},of1 xs f=true->∃ a,xs=[a]/\f a=true
 | [a],_,h=>⟨a,rfl,h⟩
def cj{α:Type}:∀ {xs:List α} {f:α->α->Bool},of2 xs f=true->∃ a b,xs=[a,b]/\f a b=true
 | [a,b],_,h=>⟨a,b,rfl,h⟩
def rM{α:Type}:∀ {xs:List α} {f:α->α->α->Bool},of3 xs f=true->∃ a b c,xs=[a,b,c]/\f a b c=true
 | [a,b,c],_,h=>⟨a,b,c,rfl,h⟩
abbrev ofM{α:Type}(xs:List α)(f:α->α->List α->Bool):Bool:=match xs with
 | a::b::r=>f a b r
 | _=>false
def kq{α:Type}:∀ {xs:List α} {f:α->α->List α->Bool},ofM xs f=true->∃ a b r,xs=a::b::r/\f a b r=true
 | a::b::r,_,h=>⟨a,b,r,rfl,h⟩
abbrev iZ:Stmt->Option (List Expr × Expr)
 | .Assign ts e _=>some (ts,e)
 | _=>none
def cT{st:Stmt}{ts:List Expr}{e:Expr}(h:iZ st=some (ts,e)):∃ p,st=.Assign ts e p:=by
 cases st
 case Assign=>cases h;exact⟨_,rfl⟩
 all_goals exact nos h
abbrev vQ:Stmt->Option Expr
 | .Expr e _=>some e
 | _=>none
def kD{st:Stmt}{e:Expr}(h:vQ st=some e):∃ p,st=.Expr e p:=by
 cases st
 case Expr=>cases h;exact⟨_,rfl⟩
 all_goals exact nos h
abbrev wIf:Stmt->Option (Expr × List Stmt × List Stmt)
 | .If c a b _=>some (c,a,b)
 | _=>none
def sI{st:Stmt}{c:Expr}{a b:List Stmt}(h:wIf st=some (c,a,b)):∃ p,st=.If c a b p:=by
 cases st
 case If=>cases h;exact⟨_,rfl⟩
 all_goals exact nos h
abbrev Al:Stmt->Option (Expr × Expr × List Stmt × List Stmt)
 | .For t i b o _=>some (t,i,b,o)
 | _=>none
def oQ{st:Stmt}{t i:Expr}{b o:List Stmt}(h:Al st=some (t,i,b,o)):∃ p,st=.For t i b o p:=by
 cases st
 case For=>cases h;exact⟨_,rfl⟩
 all_goals exact nos h
abbrev vn:Stmt->Option (Option Expr)
 | .Return e _=>some e
 | _=>none
def kA{st:Stmt}{e:Option Expr}(h:vn st=some e):∃ p,st=.Return e p:=by
 cases st
 case Return=>cases h;exact⟨_,rfl⟩
 all_goals exact nos h
end RS
namespace L2
open PySem PySem.Spec PyProof.Rows
section
variable{os:OsState}
def nW
 (hR:h.get? R=some (excClassObj nm q R N bs bm hdct sn sub ab col dd k0 k1 k2 k3 k5 newId))(he:h.get? e=some oe)(hc:oe.cls=.ref C)(hb:bm.contains (.type "BaseException")=true)(L:PySem.W.Looks M h (isSubtype (.ref C) (.ref R)) b)(hq:Q b ⟨h,g,d,t,os⟩) :
  wpAny M A (excMatches (.ref e) (.ref R)) Q E ⟨h,g,d,t,os⟩:=by
 have hcB:(Value.ref R::bm).contains (.type "BaseException")=true:=by rw[List.contains_cons,hb,Bool.or_true]
 have f:=tc_notTuple;unfold excMatches
 repeat (first | (with_reducible refine wpAny_loadPart_at he ?_;rw[hc]) | with_reducible refine wpAny_loadPart_at hR ?_ | (with_reducible refine wpAny_isSubtype_exc hR ?_;rw[hcB]) | (with_reducible refine L.at ?_) | wp_step)
 cases b<;>(wp_walk;exact hq)
end
section
def pH(I:Inv X pins σ H s)(hN:X.N.Nodup)(hi:X.N[i]?=some n)(hl:X.env.scope.names.lookup n=some .local)
 (k:∀ s',Inv X pins (σ.set i none) H s'->Q () s'):wpAny M A (do bindName X.env n .none;unbindBehindTheSuite X.env n pos) Q E s:=by
 obtain⟨m,hn,hlk⟩:=id I.loc
 have hcls:(X.env.scope.kind == .class || (X.env.scope.kind == .module&&X.env.locals != X.env.globals))=false:=by rw[I.ok.kind];rfl
 refine wpAny_nameGoes_keeps hl hn hcls fun h' v hn' hs=>k _ ?_;have up:∀ b o,X.s₀.heap.get? b=some o->b≠X.env.locals:=fun b o e=>Nat.ne_of_lt (Nat.lt_of_lt_of_le (Heap.lt_size e) I.ok.above);have cne:=I.cne;refine⟨I.ok,I.os,I.bare,⟨fun b o e nn hb hx=>(hs.2 b (up b o e)).trans (I.base.keep b o e nn hb hx),fun b o e nn hb hx=>?_,I.base.free,fun b o e hx=>?_,I.base.dO,I.base.cL,I.base.dJ⟩,⟨_,hn',fun j y v' e1 e2 e3=>?_⟩,fun y c e=>?_,I.free,I.c6,fun p hp=>?_,fun a o e=>?_,by simpa using I.len⟩
 ·obtain⟨sl,e1⟩:=I.base.slot b o e nn hb hx;exact⟨sl,(hs.2 b (up b o e)).trans e1⟩
 ·obtain⟨o',e1⟩:=I.base.there b o e hx;exact⟨o',(hs.2 b (up b o e)).trans e1⟩
 ·have hj:j≠i:=fun z=>by
   subst z;rw[List.getElem?_set_self (by rw[I.len];exact(List.getElem?_eq_some_iff.mp hi).1)]at e2;cases e2
  rw[List.getElem?_set_ne (Ne.symm hj)]at e2;obtain⟨u,r,lk⟩:=hlk j y v' e1 e2 e3;refine⟨u,r,?_⟩
  rcases lk with⟨a1,a2⟩ | ⟨a1,c,a2,a3⟩
  ·have hy:y≠n:=fun z=>hj (jF hN e1 (z▸hi));exact .inl ⟨a1,by simp[hy,a2]⟩
  ·exact .inr ⟨a1,c,a2,a3.sameBut hs (cne y c a2)⟩
 ·obtain⟨v,q⟩:=I.cell y c e;exact⟨v,q.sameBut hs (cne y c e)⟩
 ·obtain⟨p1,p2,p3,p4⟩:=I.pin p hp;exact⟨(hs.2 p.1 p3).trans p1,p2,p3,p4⟩
 ·refine(I.hok a o e).gA (fun c w hc q=>(hs.2 c fun z=>?_).trans q) (fun _ z=>z) fun _ _ z=>z;subst z;rcases hc with z | z
  ·rw[<-z,I.free]at e;cases e
  ·rw[I.free]at z;cases z
@[reducible]noncomputable def Fz(oe:Obj):HO:=.frz oe (.ext fun _=>True)
@[reducible]noncomputable def Cx.bj(X:Cx)(e:Addr)(oe:Obj):Cx:={ X with A:=X.A.mark (some (.ref e)),calm:=false,H₀:=upd X.H₀ e (Fz oe) }
def lA(I0:Inv X pins σ H0 s0)(hst:X.stack=X.env::X.outer)(hex:X.ex=[])(un:Un (frs X.stack) [] H0 H' s0.heap h1)(hok:HOk X.prog X.w H' h1)(bare:AllBare g)
 (o:Off1 (eh s0.heap H') (frs (X.env::X.outer)) h1 h2)(he:h2.get? e=some oe)(hd:oe.data=.fields vs)(hv:vs[2]?=some .none)(ne:¬ eh s0.heap H' e) :
  Inv (X.bj e oe) pins σ (upd H' e (Fz oe)) ⟨h2,g,dr,tk,s0.os⟩:=by
 have hne:H' e=none:=Classical.byContradiction fun z=>ne (.inr z);have n0:∀ b u,s0.heap.get? b=some u->b≠e:=fun b u q z=>ne (.inl ⟨u,z▸q⟩);have n1:∀ b u,X.s₀.heap.get? b=some u->b≠e:=fun b u q=>let ⟨u',q'⟩:=I0.old hex q;n0 b u' q';have off:∀ {b:Addr},b≠e->upd H' e (Fz oe) b=H' b:=fun z=>aE z
 have nfr:∀ b,H' b≠none->b∉frs (X.env::X.outer):=fun b hb z=>by
  rw[<-hst]at z;obtain⟨_,ob,hob,_⟩:=I0.stack.mem z;exact hb (un.free b ob hob (I0.jk b z) (by simp))
 have un2:Un (frs X.stack) [] H0 (upd H' e (Fz oe)) s0.heap h2:=by
  refine⟨fun b u q n hb hx=>?_,fun b u q n hb hx=>?_,fun b u q n hx=>by rw[off (n0 b u q)];exact un.free b u q n hx,fun b u q hx=>?_,fun b xs q=>?_,fun b ob u q=>?_,fun b ps q=>?_⟩
  ·exact o.keep b u (.inl ⟨u,q⟩) (by rw[<-hst];exact hb) (un.keep b u q n hb hx)
  ·obtain⟨sl,q1⟩:=un.slot b u q n hb hx;obtain⟨sl2,q2⟩:=o.slot b _ (.inl ⟨u,q⟩) (by rw[<-hst];exact hb) q1;exact⟨sl2,q2⟩
  ·obtain⟨u1,q1⟩:=un.there b u q hx;by_cases hb:b∈frs (X.env::X.outer)
   ·obtain⟨sl,q2⟩:=o.slot b _ (.inl ⟨u,q⟩) hb q1;exact⟨_,q2⟩
   ·exact⟨_,o.keep b _ (.inl ⟨u,q⟩) hb q1⟩
  ·have:=un.dO b xs q;rw[off (fun z=>by rw[z,hne]at this;cases this)];exact this
  ·have:=un.cL b ob u q;rw[off (fun z=>by rw[z,hne]at this;cases this)];exact this
  ·obtain⟨more,this⟩:=un.dJ b ps q;rw[off (fun z=>by rw[z,hne]at this;cases this)];exact⟨more,this⟩
 have hok2:HOk X.prog X.w (upd H' e (Fz oe)) h2:=fun a ob q=>by
  by_cases ha:a=e
  ·subst ha;rw[aI]at q;cases q;exact⟨he,trivial,⟨_,he⟩,fun _ _ _ _=>trivial⟩
  ·rw[off ha]at q
   have up:∀ (b:Addr) (u:HO),H' b=some u->upd H' e (Fz oe) b=some u:=fun b u z=>by rw[off (aJ z hne)];exact z
   refine(hok a ob q).gA (fun b u hb r=>?_) (fun b z=>up b _ z) fun b xs z=>up b _ z
   have hn:H' b≠none:=by
    rcases hb with rfl | hb
    ·rw[q];exact fun z=>nomatch z
    ·rw[hb];exact fun z=>nomatch z
   exact o.keep b u (.inr hn) (nfr b hn) r
 have J:=I0.call (h':=h2) (g':=g) (d':=dr) (t':=tk) (ch:=[]) un2 hok2 bare (fun b z=>absurd z (by simp));have offH:∀ {b:Addr} {u:Obj},X.s₀.heap.get? b=some u->upd X.H₀ e (Fz oe) b=X.H₀ b:=fun q=>aE (n1 _ _ q);refine⟨⟨J.ok.mod,J.ok.kind,J.ok.glob,J.ok.blt,J.ok.above,J.ok.inj,J.ok.has,J.ok.cab,⟨fun z=>(nomatch z),.inr ⟨e,oe,_,vs,rfl,aI,hd,hv⟩⟩,J.ok.frames,J.ok.stk,J.ok.exf,fun b ob q=>?_,J.ok.bsz,J.ok.hU,J.ok.ik,J.ok.cY,fun b hb=>?_⟩,J.os,J.bare,⟨fun b u q n=>?_,fun b u q n=>?_,fun b u q n=>?_,J.base.there,fun b xs q=>?_,fun b ob u q=>?_,fun b ps q=>?_⟩,J.loc,J.cell,J.free,J.c6,J.pin,J.hok,J.len⟩
 ·obtain⟨q1,q2⟩:=J.ok.bs b ob q;exact⟨q1,(offH q1).trans q2⟩
 ·obtain⟨_,ob,q,_⟩:=J.ok.cY.mem hb;exact(offH q).trans (J.ok.frf b hb)
 ·exact J.base.keep b u q ((offH q).symm.trans n)
 ·exact J.base.slot b u q ((offH q).symm.trans n)
 ·exact J.base.free b u q ((offH q).symm.trans n)
 ·by_cases hb:b=e
  ·subst hb;rw[show(X.bj b oe).H₀ b=some (Fz oe)from aI]at q;cases q
  ·exact J.base.dO b xs ((aE hb).symm.trans q)
 ·by_cases hb:b=e
  ·subst hb;rw[show(X.bj b oe).H₀ b=some (Fz oe)from aI]at q;cases q;exact aI
  ·exact J.base.cL b ob u ((aE hb).symm.trans q)
 ·by_cases hb:b=e
  ·subst hb;rw[show(X.bj b oe).H₀ b=some (Fz oe)from aI]at q;cases q
  ·exact J.base.dJ b ps ((aE hb).symm.trans q)
def jX(J:Inv (X.bj e oe) pins σ H s)(ok:X.Ok)(hn:X.s₀.heap.get? e=none)(h1:∀ xs,X.H₀ e≠some (.tup xs))(h2:∀ o u,X.H₀ e≠some (.frz o u))(h3:∀ ps,X.H₀ e≠some (.tbl ps)):Inv X pins σ H s:=by
 have offH:∀ {b:Addr} {u:Obj},X.s₀.heap.get? b=some u->upd X.H₀ e (Fz oe) b=X.H₀ b:=fun {b u} q=>aE fun z=>by rw[z,hn]at q;cases q
 have up:∀ (b:Addr) (u:HO),b≠e->X.H₀ b=some u->(X.bj e oe).H₀ b=some u:=fun b u hb z=>(aE hb).trans z
 exact⟨ok,J.os,J.bare,⟨fun b u q n=>J.base.keep b u q ((offH q).trans n),fun b u q n=>J.base.slot b u q ((offH q).trans n),fun b u q n=>J.base.free b u q ((offH q).trans n),J.base.there,
  fun b xs q=>J.base.dO b xs (up b _ (fun z=>h1 xs (z▸q)) q),fun b o u q=>J.base.cL b o u (up b _ (fun z=>h2 o u (z▸q)) q),fun b ps q=>J.base.dJ b ps (up b _ (fun z=>h3 ps (z▸q)) q)⟩,J.loc,J.cell,J.free,J.c6,J.pin,J.hok,J.len⟩
end
end L2
namespace RS
open PySem PySem.Spec PyProof.Rows L2
def Cls.kin{K:PySem.W.Frag}(h:Cls K x C):j7 K C:=by
 have:=h.ok;simp only[eI,Bool.and_eq_true,beq_iff_eq]at this;obtain⟨⟨⟨⟨⟨⟨⟨⟨_,a1⟩,a2⟩,a3⟩,a4⟩,a5⟩,a6⟩,_⟩,_⟩:=this;refine⟨a1,a2,?_,a4,a5,a6⟩;unfold mJ at a3;split at a3
 ·rename_i a b e;simp only[Bool.and_eq_true,beq_iff_eq]at a3;rw[e,a3.1,a3.2]
 ·cases a3
section
def uh(J:Inv (X.bj e oe) pins σ H s)(he:s.heap.get? e=some oe)(hc':oe.cls=.ref C)(hc:Cls X.K (RL.baseOf x) C)(hR:Cls X.K c R)(hcr:c∈bQ)(hsub:RL.cG x c=false)(hg:Gl X c)(hm:X.mg c=some (.ref R))(hdb:(c == ("__debug__" : Str))=false)
 (k:wpAny (model X.prog X.w) X.A (handleBy (.ref e) X.env hrest) Q E s):wpAny (model X.prog X.w) X.A (handleBy (.ref e) X.env (.ExceptHandler (some (.Name c np)) nn body hpos::hrest)) Q E s:=by
 refine wpAny_handleBy_cons (codeAny_handlers_test ?_) (by intro q;cases q);refine cJ J hg hm ?_ hdb;obtain⟨bm,N,nm,qn,bs,hdct,sn,sub,ab,col,dd,k0,k1,k2,k3,k5,g1,T⟩:=mV J.kIn hR.exc;have L:=PySem.W.looks_subIn (M:=model X.prog X.w) J.kIn (hc.ref hcr hR.ns).2;rw[show RL.c7 (RL.baseOf x) c=false from hsub]at L;obtain⟨hp,g,d,tk,os⟩:=s;exact nW g1 he hc' (T.hasType PySem.F.excBase_ValueError.hasBase) L k
def qh(I0:Inv X pins σ H0 s0)(hst:X.stack=X.env::X.outer)(hfrm:X.env.frame=some X.env.locals)(hex:X.ex=[])
 (os:s1.os=s0.os)(bare:AllBare s1.gens)(un:Un (frs X.stack) [] H0 H' s0.heap s1.heap)(hok:HOk X.prog X.w H' s1.heap)(xx:Exc (eh s0.heap H') e C od tb s1.heap)(hc:Cls X.K (RL.baseOf x) C)(hR:Cls X.K c R)(hcr:c∈bQ)(hsub:RL.cG x c=true)(hg:Gl X c)(hm:X.mg c=some (.ref R))(hdb:(c == ("__debug__" : Str))=false)
 (hN:X.N.Nodup)(hi:X.N[i]?=some n)(hl:X.env.scope.names.lookup n=some .local)
 (hpre:∀ oe H s,Inv (X.bj e oe) pins σ H s->s.heap.get? e=some oe->oe.cls=.ref C->wpAny (model X.prog X.w) X.A (handleBy (.ref e) X.env (.ExceptHandler (some (.Name c np)) (some n) (b0::bj) hpos::hrest)) Q E s->wpAny (model X.prog X.w) X.A (handleBy (.ref e) X.env hs) Q E s)
 (k:∀ oe vs s4,(oe.cls=.ref C/\oe.dict=od)->oe.data=.fields vs->vs[2]?=some .none->H' e=none->X.s₀.heap.get? e=none->(∀ xs,X.H₀ e≠some (.tup xs))->(∀ o u,X.H₀ e≠some (.frz o u))->(∀ ps,X.H₀ e≠some (.tbl ps))->Inv (X.bj e oe) pins (σ.set i (some (.ref e))) (upd H' e (Fz oe)) s4 ->
   wpAny (model X.prog X.w) (X.A.mark (some (.ref e))) (execs (b0::bj) X.env) (fun f s5=>wpAny (model X.prog X.w) X.A (do bindName X.env n .none;unbindBehindTheSuite X.env n hpos) (fun _ s6=>Q f s6) E s5) (fun _ _=>False) s4) :
  wpAny (model X.prog X.w) X.A (noteFrame (.ref e) X.env) (fun _ s2=>wpAny (model X.prog X.w) X.A (setFlight (.ref e) none) (fun _ s3=>wpAny (model X.prog X.w) X.A (handleBy (.ref e) X.env hs) Q E s3) E s2) E s1:=by
 have I1:Inv X pins σ H' s1:=I0.mw (ch:=[]) os un hok bare (fun b z=>absurd z (by simp));have hls:=I1.stack;have hfr:=I1.ok.frames;rw[hst]at hls hfr
 have hP:∀ b,eh s0.heap H' b->b<s1.heap.objs.size:=fun b hb=>by
  rcases hb with⟨o,q⟩ | hb
  ·obtain⟨o',q'⟩:=un.there b o q (by simp);exact Heap.lt_size q'
  ·obtain⟨o,ho⟩:=Option.ne_none_iff_exists'.mp hb;exact hok.lt ho
 refine lB hfr hls hfrm xx hP fun h2 x2 o2=>?_;obtain⟨oe,vs,he,hcd,hd,hv,ne,xt⟩:=x2;obtain⟨hp,g,d,tk,os'⟩:=s1;obtain rfl:os'=s0.os:=os;have J2:Inv (X.bj e oe) pins σ (upd H' e (Fz oe)) ⟨h2,g,d,tk,s0.os⟩:=lA I0 hst hex un hok bare o2 he hd hv ne;refine hpre oe _ _ J2 he hcd.1 ?_;refine wpAny_handleBy_cons (codeAny_handlers_test ?_) (by intro q;cases q);refine cJ J2 hg hm ?_ hdb;obtain⟨bm,N,nm,qn,bs,hdct,sn,sub,ab,col,dd,k0,k1,k2,k3,k5,g1,T⟩:=mV J2.kIn hR.exc;have L:=PySem.W.looks_subIn (M:=model X.prog X.w) J2.kIn (hc.ref hcr hR.ns).2;rw[show RL.c7 (RL.baseOf x) c=true from hsub]at L;refine nW g1 he hcd.1 (T.hasType PySem.F.excBase_ValueError.hasBase) L ?_;refine codeAny_handlers_suite_as ?_
 rcases xt with⟨z,_⟩ | ⟨T,oT,ts,h1,hTe,hT,hdT,h3,nT⟩
 ·cases z
 unfold setFlight;refine wpAny_bind (wpAny_field he hd h1 ?_);rw[if_pos (show(Value.ref T != Value.none)=true from by simp)];refine wpAny_setField hT hdT (Array.getElem?_eq_some_iff.mp h3).1 ?_;have he3:(h2.update T (Obj.mapFields (·.setIfInBounds 3 Value.none))).get? e=some oe:=(Heap.get?_update_other _ _ hTe).trans he;have J3:Inv (X.bj e oe) pins σ (upd H' e (Fz oe)) ⟨h2.update T (Obj.mapFields (·.setIfInBounds 3 Value.none)),g,d,tk,s0.os⟩:=lA I0 hst hex un hok bare (o2.trans (Off1.qJ nT _)) he3 hd hv ne;have hne:H' e=none:=Classical.byContradiction fun z=>ne (.inr z)
 have tup:∀ u,X.H₀ e=some u->(∀ b,X.H₀ b=some u->H' b=some u)->False:=fun u q z=>by
  have:=z e q;rw[hne]at this;cases this
 refine gb (X:=X.bj e oe) (v:=.ref e) J3 hN hi (.inl hl) rfl (fun s4 J4=>?_) (.inr hl);refine wpAny_mono (k oe vs s4 hcd hd hv hne ?_ (fun xs q=>?_) (fun o u q=>?_) (fun ps q=>?_) J4) (fun f s5 z=>z) fun _ _ z=>z.elim
 ·cases q:X.s₀.heap.get? e with
  | none=>rfl
  |some u=>
   obtain⟨u',q'⟩:=I0.old hex q;exact(ne (.inl ⟨u',q'⟩)).elim
 ·have:=un.dO e xs (I0.base.dO e xs q);rw[hne]at this;cases this
 ·have:=un.cL e o u (I0.base.cL e o u q);rw[hne]at this;cases this
 ·obtain⟨m1,q1⟩:=I0.base.dJ e ps q;obtain⟨m2,q2⟩:=un.dJ e _ q1;rw[hne]at q2;cases q2
end
section
variable{K:PySem.W.Frag}
def bz.unset(hi:M.contains i=false):bz M (σ.set i none)=bz M σ:=by
 funext a;apply propext
 have hne:∀ {j},M.contains j=true->i≠j:=fun hj z=>by subst z;rw[hi]at hj;cases hj
 constructor
 ·rintro⟨j,hj,e⟩;rw[List.getElem?_set_ne (hne hj)]at e;exact⟨j,hj,e⟩
 ·rintro⟨j,hj,e⟩;exact⟨j,hj,by rw[List.getElem?_set_ne (hne hj)];exact e⟩
def iE{α:Type}{l:List (Option α)}{i j:Nat}{v:α}(h:(l.set i none)[j]?=some (some v)):i≠j/\l[j]?=some (some v):=by
 by_cases hj:i=j
 ·subst hj;rw[List.getElem?_set]at h;split at h
  ·split at h<;>cases h
  ·exact absurd rfl ‹_›
 ·rw[List.getElem?_set_ne hj]at h;exact⟨hj,h⟩
def RVm.unset(h:RVm K M σD σ H)(hi:M.contains i=false):RVm K M (σD.set i none) (σ.set i none) H where
 len:=by simpa using h.len
 val:=fun j d e=>by
  obtain⟨hj,e⟩:=iE e;obtain⟨v,e1,e2⟩:=h.val j d e;exact⟨v,by rw[List.getElem?_set_ne hj];exact e1,by rw[bz.unset hi];exact e2⟩
 non:=fun j v e=>by
  obtain⟨hj,e⟩:=iE e;obtain⟨d,e1⟩:=h.non j v e;exact⟨d,by rw[List.getElem?_set_ne hj];exact e1⟩
 sep:=fun j k a hj hk e1 e2=>h.sep j k a hj hk (iE e1).2 (iE e2).2
def Fr'.unset(hi:M.contains i=false):Fr' M σ H (σ.set i none) H:=⟨fun b o e n=>⟨e,by rw[bz.unset hi];exact n⟩,fun j hj=>List.getElem?_set_ne fun z=>by subst z;rw[gP hj]at hi;cases hi⟩
end
section
@[reducible]noncomputable def CxX(X:Cx)(pn:List (Addr × Obj))(E:Value->Shared->Prop):Cx:={ X with pn:=pn,xe:=E }
abbrev vS(X:Cx)(EX:L2.St->XK):Prop:=(∀ pins σ H s e s',Inv X pins σ H s->CXE X.prog X.w X.stack H s (EX σ) e s'->X.xe e s')/\(∀ pins σ H s h' e C vs,Inv X pins σ H s->Heap.MadeExcOf s.heap h' e (.ref C) vs->EX σ (.ref C) none H->X.xe (.ref e) { s with heap:=h' }) /\
 ∀ pins σ H s C i e od H' s',Inv X pins σ H s->mF X H s C (some i) e od H' s'->EX σ (.ref C) od H'->X.xe (.ref e) s'
abbrev vz(cl:RL.Cl)(M:List Nat)(b:RL.Ss)(i:Nat)(sel:Str->Option RL.Ss)(σ:RL.St):Option (RL.Out × RL.St):=match RL.aw cl M b σ with
 | some p=>some p
 | none=>(RL.bu cl M b σ).bind fun q=>(sel q.1).bind fun h=>(RL.aw cl M h (q.2.set i (some (.exc q.1)))).map fun r=>(r.1,r.2.set i none)
abbrev C2(X:Cx)(cl:RL.Cl)(M:List Nat)(hs:List ExceptHandler)(n:Str)(x:Str)(h:RL.Ss):Prop:=∃ c R b0 bj np hpos hrest,(∀ e oe,SSs (X.bj e oe) cl M (b0::bj) h)/\Cls X.K c R/\c∈bQ/\RL.cG x c=true/\Gl X c/\X.mg c=some (.ref R)/\(c == ("__debug__" : Str))=false /\
 ∀ C,Cls X.K (RL.baseOf x) C->∀ pins σ Q E e oe H s,Inv (X.bj e oe) pins σ H s->s.heap.get? e=some oe->oe.cls=.ref C->wpAny (model X.prog X.w) X.A (handleBy (.ref e) X.env (.ExceptHandler (some (.Name c np)) (some n) (b0::bj) hpos::hrest)) Q E s->wpAny (model X.prog X.w) X.A (handleBy (.ref e) X.env hs) Q E s
def xG(hx:X.xe=fun _ _=>False)(hst:X.stack=X.env::X.outer)(hfrm:X.env.frame=some X.env.locals)(hex:X.ex=[])(hb:SSs X cl M body b)
 (hbx:∀ (pn:List (Addr × Obj)) (E:Value->Shared->Prop) (EX:L2.St->XK),vS (CxX X pn E) EX->PassesOwn (model X.prog X.w) X.A X.env E->RZs (CxX X pn E) EX cl M body b)
 (hsel:∀ x h,sel x=some h->C2 X cl M (h0::hs) n x h)(hev:∀ σ,RL.evS cl M st' σ=vz cl M b i sel σ)(hN:X.N.Nodup)(hi:X.N[i]?=some n)(hl:X.env.scope.names.lookup n=some .local)(hM:M.contains i=false) :
  SS X cl M (.Try body (h0::hs) [] [] pos) st':=by
 intro pins s σ H D I hh;obtain⟨σD,r,σD',rv,ev,post⟩:=hh;rw[hev]at ev;unfold vz at ev;clear hev;refine wpAny_Try_except ?_
 cases hev:RL.aw cl M b σD with
 |some p=>
  rw[hev]at ev;cases ev
  refine wpAny_mono (hb pins s σ H D I ⟨σD,r,σD',rv,hev,post⟩) (fun f s1 q=>?_) fun e s1 z=>by rw[hx]at z;exact z.elim
  cases f with
  | next=>exact wpAny_execs_nil q
  | ret u=>exact q
  | brk=>exact q
  | cont=>exact q
 |none=>
  rw[hev]at ev;obtain⟨⟨x,σD1⟩,hev2,ev⟩:=bind_some ev;obtain⟨h,hsx,ev⟩:=bind_some ev;obtain⟨c,R,b0,bj,np,hpos,hrest,hsu,hR,hcr,hsub,hg,hm,hdb,hpre⟩:=hsel x h hsx;obtain⟨⟨rr,σ5⟩,hev3,ev⟩:=map_some ev;cases ev;dsimp only at hev3 post;generalize hE:(fun(e:Value) (s₁:Shared)=>wpAny (model X.prog X.w) X.A (noteFrame e X.env) (fun _ s₂=>wpAny (model X.prog X.w) X.A (setFlight e none) (fun _ s₃=>wpAny (model X.prog X.w) X.A (handleBy e X.env (h0::hs)) (SP X pins D) X.xe s₃) X.xe s₂) X.xe s₁)=E1
  have own:PassesOwn (model X.prog X.w) X.A X.env E1:=by
   rw[<-hE];exact PassesOwn.looking
  have hand:∀ (pins':List (Addr × Obj)) (σ1:L2.St) (H0 H':Hp) (s0 s1:Shared) (e C:Addr) (od:Option Addr) (tb:Bool),Inv (CxX X (X.pn++pins) E1) pins' σ1 H0 s0->s1.os=s0.os->AllBare s1.gens->Un (frs X.stack) [] H0 H' s0.heap s1.heap->HOk X.prog X.w H' s1.heap->Exc (eh s0.heap H') e C od tb s1.heap ->
    (CO X.K x C od H'/\RVm X.K M σD1 σ1 H'/\Fr' M σ H σ1 H')->E1 (.ref e) s1:=by
   intro pins' σ1 H0 H' s0 s1 e C od tb J os bare un hok ex ⟨hc,rv1,fr1⟩
   have I0:Inv X pins σ1 H0 s0:=⟨⟨J.ok.mod,J.ok.kind,J.ok.glob,J.ok.blt,J.ok.above,J.ok.inj,J.ok.has,J.ok.cab,J.ok.hd,J.ok.frames,J.ok.stk,J.ok.exf,J.ok.bs,J.ok.bsz,J.ok.hU,J.ok.ik,J.ok.cY,J.ok.frf⟩,J.os,J.bare,J.base,J.loc,J.cell,J.free,J.c6,fun p hp=>J.pin p (List.mem_append_left _ hp),J.hok,J.len⟩
   rw[<-hE];refine qh I0 hst hfrm hex os bare un hok ex hc.1 hR hcr hsub hg hm hdb hN hi hl (fun oe H s=>hpre C hc.1 pins σ1 _ _ e oe H s) fun oe vs s4 hcd hd hv hne hn0 n1 n2 n3 J4=>?_
   have sm:aD H' (upd H' e (Fz oe)):=fun a u q=>by rw[aE (aJ q hne)];exact q
   have rv4:RVm X.K M (σD1.set i (some (.exc x))) (σ1.set i (some (.ref e))) (upd H' e (Fz oe)):=(rv1.same sm).bind hM (by
    rw[Rep]
    exact⟨e,oe,_,C,vs,rfl,aI,⟨hcd.1,by rw[hcd.2];exact hc.2.keep fun b o u q=>sm b _ q⟩,hd,hv,hc.1⟩)
   have fr4:Fr' M σ H (σ1.set i (some (.ref e))) (upd H' e (Fz oe)):=fr1.trans (Fr'.bind hM sm)
   have post2:nt X.K M { nx:=fun σ' H5=>D.nx (σ'.set i none) H5,rt:=D.rt } (σ1.set i (some (.ref e))) (upd H' e (Fz oe)) rr σ5:=by
    cases rr with
    | nx=>exact fun σ' H5 rv5 fr5=>post (σ'.set i none) H5 (rv5.unset hM) ((fr4.trans fr5).trans (Fr'.unset hM))
    | rt d=>exact fun σ' H5 v H6 rv5 fr5 sm5 rp=>post (σ'.set i none) H5 v H6 (rv5.unset hM) ((fr4.trans fr5).trans (Fr'.unset hM)) sm5 fun P hP=>rp P fun p hp=>by rw[<-bz.unset hM];exact hP p hp
   refine wpAny_mono (hsu e oe pins s4 _ _ _ J4 ⟨_,rr,σ5,rv4,hev3,post2⟩) (fun f s5 q=>?_) fun e s5 z=>by
    have z:X.xe e s5:=z;rw[hx]at z;exact z.elim
   cases f with
   |next=>
    obtain⟨σ',H5,J5,q⟩:=q
    exact pH (jX J5 I0.ok hn0 n1 n2 n3) hN hi hl fun s6 J6=>⟨_,H5,J6,q⟩
   |ret u=>
    obtain⟨v,σ',H5,J5,rel,q⟩:=q
    exact pH (jX J5 I0.ok hn0 n1 n2 n3) hN hi hl fun s6 J6=>⟨v,_,H5,J6,rel,q⟩
   |brk=>
    obtain⟨_,_,_,q⟩:=q;exact q.elim
   |cont=>
    obtain⟨_,_,_,q⟩:=q;exact q.elim
  have rz:=hbx (X.pn++pins) E1 (fun σ1 Cv od H1=>∃ C,Cv=.ref C/\CO X.K x C od H1/\RVm X.K M σD1 σ1 H1/\Fr' M σ H σ1 H1) ⟨fun pins' σ1 H0 s0 e s1 J z=>by
    obtain⟨x',C,od,H',rfl,⟨C',q,hc⟩,os,bare,un,hok,ex⟩:=z;cases q
    exact hand pins' σ1 H0 H' s0 s1 x' C od true J os bare un hok ex hc,fun pins' σ1 H0 s0 h' e C vs J m z=>by
    obtain⟨C',q,hc⟩:=z;cases q
    exact hand pins' σ1 H0 H0 s0 _ e C none false J rfl J.bare (Un.kept m.keeps) (J.hok.kept m.keeps) (nR J.hok m) hc,fun pins' σ1 H0 s0 C j e od H' s1 J nx z=>by
    obtain⟨C',q,hc⟩:=z;cases q
    exact hand pins' σ1 H0 H' s0 s1 e C od false J nx.os nx.bare nx.un nx.hok nx.ex hc⟩ own
  have I1:Inv (CxX X (X.pn++pins) E1) [] σ H s:=⟨⟨I.ok.mod,I.ok.kind,I.ok.glob,I.ok.blt,I.ok.above,I.ok.inj,I.ok.has,I.ok.cab,I.ok.hd,I.ok.frames,I.ok.stk,I.ok.exf,I.ok.bs,I.ok.bsz,I.ok.hU,I.ok.ik,I.ok.cY,I.ok.frf⟩,I.os,I.bare,I.base,I.loc,I.cell,I.free,I.c6,fun p hp=>I.pin p (by rw[List.append_nil]at hp;exact hp),I.hok,I.len⟩
  refine wpAny_mono (rz [] s σ H { nx:=fun _ _=>False,rt:=fun _ _=>False } I1 ⟨σD,x,σD1,rv,hev2,fun σ1 H1 C od hc rv1 fr1=>⟨C,rfl,hc,rv1,fr1⟩⟩) (fun f s1 q=>?_) fun e s1 z=>by
   have z:E1 e s1:=z;subst hE;exact z
  cases f with
  |next=>
   obtain⟨_,_,_,q⟩:=q;exact q.elim
  |ret u=>
   obtain⟨_,_,_,_,_,q⟩:=q;exact q.elim
  |brk=>
   obtain⟨_,_,_,q⟩:=q;exact q.elim
  |cont=>
   obtain⟨_,_,_,q⟩:=q;exact q.elim
def yE(hx:X.xe=fun _ _=>False)(hst:X.stack=X.env::X.outer)(hfrm:X.env.frame=some X.env.locals)(hex:X.ex=[])(hb:SSs X cl M body b)
 (hbx:∀ (pn:List (Addr × Obj)) (E:Value->Shared->Prop) (EX:L2.St->XK),vS (CxX X pn E) EX->PassesOwn (model X.prog X.w) X.A X.env E->RZs (CxX X pn E) EX cl M body b)
 (hsu:∀ e oe,SSs (X.bj e oe) cl M (b0::bj) h)(hR:Cls X.K c R)(hcr:c∈bQ)(hg:Gl X c)(hm:X.mg c=some (.ref R))(hdb:(c == ("__debug__" : Str))=false)
 (hsu':∀ e oe,SSs (X.bj e oe) cl M (b0'::suite') h')(hR':Cls X.K c' R')(hcr':c'∈bQ)(hg':Gl X c')(hm':X.mg c'=some (.ref R'))(hdb':(c' == ("__debug__" : Str))=false)(hN:X.N.Nodup)(hi:X.N[i]?=some n)(hl:X.env.scope.names.lookup n=some .local)(hM:M.contains i=false) :
  SS X cl M (.Try body [.ExceptHandler (some (.Name c np)) (some n) (b0::bj) hpos,.ExceptHandler (some (.Name c' np')) (some n) (b0'::suite') hpos'] [] [] pos) (.try2 b c i h c' h'):=by
 refine xG (sel:=fun x=>if RL.cG x c then some h else if RL.cG x c' then some h' else none) hx hst hfrm hex hb hbx (fun x h1 e=>?_) (fun σ=>?_) hN hi hl hM
 ·by_cases hs:RL.cG x c=true
  ·rw[if_pos hs]at e;cases e;exact⟨c,R,b0,bj,np,hpos,_,hsu,hR,hcr,hs,hg,hm,hdb,fun C hc pins σ Q E e oe H s J he hc' k=>k⟩
  ·rw[if_neg hs]at e;obtain⟨hs',e⟩:=bq e;subst e;exact⟨c',R',b0',suite',np',hpos',[],hsu',hR',hcr',hs',hg',hm',hdb',fun C hc pins σ Q E e oe H s J he hc' k=>uh J he hc' hc hR hcr (by simpa using hs) hg hm hdb k⟩
 ·rw[RL.kg];unfold vz
  cases RL.aw cl M b σ with
  | some p=>rfl
  |none=>
   show(RL.bu cl M b σ).bind _=(RL.bu cl M b σ).bind _;congr 1;funext q;dsimp only;by_cases hs:RL.cG q.1 c=true
   ·rw[if_pos hs,if_pos hs];rfl
   ·rw[if_neg hs,if_neg hs];by_cases hs':RL.cG q.1 c'=true
    ·rw[if_pos hs',if_pos hs'];rfl
    ·rw[if_neg hs',if_neg hs'];rfl
end
section
variable{X:Cx}
def mB:bC X (.builtin "isinstance") (fun xs H Q=>∃ b o u C vs t k f,xs=[.ref b,t]/\H b=some (.frz o u)/\(o.cls=.ref C/\fN H f o.dict)/\o.data=.fields vs/\j7 X.K C/\((∃ D,t=.ref D/\PySem.W.kitOne X.K (.ref C) (.ref D)=some k)\/∃ T,t=.ty T/\PySem.W.kitOne X.K (.ref C) (.type T)=some k)/\Q (.bl k) H):=by
 intro pins s σ H xs us Q I r h;obtain⟨b,o,u,C,vs,t,k,f,rfl,hb,hcd,hd,F,hk,q⟩:=h
 cases r with
 |cons r1 r2=>
  cases r2 with
  |cons r2 r3=>
   cases r3;cases r1
   obtain⟨od,J⟩:∃ od,PySem.W.InstAt s.heap b o C od:=by
    cases f with
    | none=>exact⟨none,(I.hok _ _ hb).1,hcd.1,by unfold PySem.W.notCls;rw[hd],by rw[show o.dict=none from hcd.2];trivial⟩
    |some m=>
     obtain⟨n,u',hh,tk,tk',h1,h2⟩:=hcd.2;exact⟨some _,(I.hok _ _ hb).1,hcd.1,by unfold PySem.W.notCls;rw[hd],by rw[h1];exact(I.hok _ _ h2).1⟩
   rcases hk with⟨D,rfl,e⟩ | ⟨T,rfl,e⟩
   ·cases r2
    exact PySem.W.kia_one (m9 F) I.kIn J e (fun z=>nomatch z) fun tk=>⟨.bl k,H,I.tok tk,rfl,q⟩
   ·cases r2
    exact PySem.W.kia_one (m9 F) I.kIn J e (fun z=>nomatch z) fun tk=>⟨.bl k,H,I.tok tk,rfl,q⟩
def tF(ht:∀ x C,Cls X.K x C->(∃ D,t=.ref D/\PySem.W.kitOne X.K (.ref C) (.ref D)=some (RL.c7 x c))\/∃ T,t=.ty T/\PySem.W.kitOne X.K (.ref C) (.type T)=some (RL.c7 x c))(h:tE X.K cl (.isx a' c) σ H Q) :
  tCB (fun xs H Q=>∃ b o u C vs t k f,xs=[.ref b,t]/\H b=some (.frz o u)/\(o.cls=.ref C/\fN H f o.dict)/\o.data=.fields vs/\j7 X.K C/\((∃ D,t=.ref D/\PySem.W.kitOne X.K (.ref C) (.ref D)=some k)\/∃ T,t=.ty T/\PySem.W.kitOne X.K (.ref C) (.type T)=some k)/\Q (.bl k) H) (eO (tE X.K cl a') (eO (tC t) iD)) σ H Q:=by
 obtain⟨σD,d,rv,e,k⟩:=h;obtain⟨x,ea,e⟩:=bind_some e
 cases x with
 |exc n=>
  cases e;refine⟨σD,_,rv,ea,fun v H1 r1=>?_⟩;have rp:=r1.rep;rw[Rep]at rp;obtain⟨b,o,u,C,vs,rfl,h1,h2,h3,h4,h5⟩:=rp;exact⟨b,o,u,C,vs,t,_,_,rfl,h1,h2,h3,h5.kin,ht _ C h5,k _ _ (cX r1.same)⟩
 | _=>cases e
def AI(hg:Gl X "isinstance")(hm:X.mg "isinstance" = none)(hgc:Gl X c)(hmc:X.mg c=some (.ref D))(hns:PySem.W.nsIn X.K mainGlobals c=some (some (.ref D)))(hcr:c∈bQ)(hdb:(c == ("__debug__" : Str))=false)(ha:SE X cl a a')(hn:noStar a=true) :
  SE X cl (.Call (.Name "isinstance" p) [a,.Name c p2] [] pos) (.isx a' c) :=
 PE.weak (eA mB hg hm (by decide +kernel) (ba ha (ba (pN (v:=.ref D) hgc hmc rfl hdb) cA rfl) (aC _ hn)) (by decide) (by decide) (aC _ hn) rfl) fun σ H Q h=>tF (fun x C hc=>.inl ⟨D,rfl,(hc.ref hcr hns).1⟩) h
def Bl(hg:Gl X "isinstance")(hm:X.mg "isinstance" = none)(hgc:Gl X "ValueError")(hmc:X.mg "ValueError" = none)(ha:SE X cl a a')(hn:noStar a=true):SE X cl (.Call (.Name "isinstance" p) [a,.Name "ValueError" p2] [] pos) (.isx a' "ValueError") :=
 PE.weak (eA mB hg hm (by decide +kernel) (ba ha (ba (pM (v:=.ty "ValueError") hgc hmc PyProof.Rows.Boot.«ValueError» rfl (by decide) (by decide)) cA rfl) (aC _ hn)) (by decide) (by decide) (aC _ hn) rfl) fun σ H Q h=>tF (fun x C hc=>.inr ⟨_,rfl,by rw[hc.val];simp[RL.c7]⟩) h
def yT{K:PySem.W.Frag}(ha:PySem.W.findIn K (.ref C) "at" = some none)(hd:PySem.W.hasDictIn K C=true):PySem.W.findObj K C (some { cls:=.type "dict",data:=.dict #[⟨hh,.str "at" tk,v⟩] 1 }) "at" = some (.value v):=by
 unfold PySem.W.hasDictIn at hd;obtain⟨cd,h1,h2⟩:=PySem.W.any_some hd;unfold PySem.W.findObj;rw[h1,Option.bind_some,ha,Option.bind_some];dsimp only[Option.bind_some];unfold PySem.W.ownOf;rw[if_pos h2];rfl
def xM{p:Pos}(he:PE X (.Name y p) ta):PE X (.Attribute (.Name y p) "at" pos) (fun σ H Q=>ta σ H fun x H1=>∃ b o u C vs n u' hh tk i tk',x=.ref b/\H1 b=some (.frz o u)/\o.cls=.ref C/\o.dict=some n/\o.data=.fields vs/\H1 n=some (.frz { cls:=.type "dict",data:=.dict #[⟨hh,.str "at" tk,.int i tk'⟩] 1 } u')/\j7 X.K C/\PySem.W.findIn X.K (.ref C) "at" = some none/\PySem.W.hasDictIn X.K C=true/\Q (.int i) H1):=by
 intro pins s σ H Q I h;refine yK rfl (thn (he pins s σ H _ I h) fun u s1 ⟨x,H1,I1,rx,b,o,u0,C,vs,n,u',hh,tk,i,tk',ex,e1,e2,e3,e4,e5,F,f1,f2,q⟩=>?_);subst ex;obtain rfl:u=Value.ref b:=rx;exact sN F I1.kIn ⟨(I1.hok _ _ e1).1,e2,by unfold PySem.W.notCls;rw[e4],by rw[e3];exact(I1.hok _ _ e5).1⟩ (yT f1 f2) rfl ⟨.int i,H1,I1.tok _,⟨_,rfl⟩,q⟩
def Bv{p:Pos}(ha:SE X cl (.Name y p) a'):SE X cl (.Attribute (.Name y p) "at" pos) (.fld a'):=by
 refine PE.weak (xM ha) fun σ H Q h=>?_;obtain⟨σD,d,rv,e,k⟩:=h;obtain⟨x,ea,e⟩:=bind_some e
 cases x with
 |exc n=>
  obtain⟨j,e1,e2⟩:=bind_some e;cases e2;refine⟨σD,_,rv,ea,fun v H1 r1=>?_⟩;have rp:=r1.rep;rw[Rep]at rp;obtain⟨b,o,u,C,vs,rfl,h1,h2,h3,h4,h5⟩:=rp;have h2':=h2.2;rw[e1]at h2';obtain⟨m,u',hh,tk,tk',g1,g2⟩:=h2';have c1:=h5.exc;unfold kE at c1;simp only[Bool.and_eq_true,beq_iff_eq]at c1;exact⟨b,o,u,C,vs,m,u',hh,tk,j,tk',rfl,h1,h2.1,g1,h3,g2,h5.kin,c1.2.1,c1.2.2,k _ _ (bT r1.same aV rfl)⟩
 | _=>cases e
end
def lE:∀ ys:List Str,Str.join ⟨#[]⟩ ys=⟨(ys.flatMap fun s=>s.cps.toList).toArray⟩
 | []=>rfl
 | [x]=>by simp[Str.join]
 | x::y::r=>by
  have ih:=lE (y::r);show x++(⟨#[]⟩:Str)++Str.join ⟨#[]⟩ (y::r)=_;rw[ih];show(⟨(x.cps ++ #[])++(List.flatMap (fun s=>s.cps.toList) (y::r)).toArray⟩:Str)=_;simp
def oR:∀ {ys:List Str} {us:List Value},Vals (ys.map V.str) us->StrsAre us ys
 | [],_,r=>by cases r;exact .nil
 | y::ys,_,r=>by
  cases r with
  |cons a b=>
   obtain⟨t,rfl⟩:=a;exact .cons y t (oR b)
def nM{P:Addr->Prop}{K:PySem.W.Frag}:∀ {ds:List RL.D} {ss:List Str} {xs:List V},RL.strs? ds=some ss->ai P K H ds xs->xs=ss.map V.str
 | [],ss,xs,h,r=>by
  rw[RL.strs?]at h;cases h;rw[ai]at r;exact r
 | d::ds,ss,xs,h,r=>by
  rw[ai]at r;obtain⟨x,t,rfl,r1,r2⟩:=r
  cases d with
  |str y=>
   rw[RL.strs?]at h;obtain⟨q,h1,h2⟩:=map_some h;subst h2;rw[aN r1,nM h1 r2];rfl
  | _=>cases h
section
def xw:MtR X "str.join" (fun x xs H Q=>∃ b ys,x=.str ⟨#[]⟩/\xs=[.ref b]/\H b=some (.lst (ys.map V.str))/\(ys.map (·.length)).sum<=16777216/\Q (.str (Str.join ⟨#[]⟩ ys)) H):=by
 intro pins s σ H x xs v us Q I rx r h;obtain⟨b,ys,rfl,rfl,hb,hz,q⟩:=h;obtain⟨t,rfl⟩:=rx;obtain⟨u,rfl,ru⟩:=vals1 r;cases ru;obtain⟨its,rv,ht,_⟩:=I.list (SqL.of hb)
 refine join_list (items:=its.toArray) ht.isList (by simpa using oR rv) (by show _+_*0<=_;rw[Nat.mul_zero];exact hz) fun t' k=>⟨.str (Str.join ⟨#[]⟩ ys),H,I.tok _,⟨t',?_⟩,q⟩
 show Value.str (Builtin.Str.glued ⟨#[]⟩ ys) t'=_;rw[PySem.StrLaws.glued_eq_join]
def tH:∀ {ss:List Str},ss.all (fun s=>decide (s.length<=100))=true->(ss.map (·.length)).sum<=100*ss.length
 | [],_=>Nat.le_refl _
 | x::r,h=>by
  rw[List.all_cons,Bool.and_eq_true,decide_eq_true_eq]at h;have:=tH h.2;rw[List.map_cons,List.sum_cons,List.length_cons];omega
def yg(ha:SE X cl a a')(hn:noStar a=true)(hline:(apos.endLine == pos.line)=true):SE X cl (.Call (.Attribute (.Constant (.str ⟨#[]⟩) j p) "join" apos) [a] [] pos) (.join a'):=by
 refine PE.weak (xn PySem.F.plainAttrs_str PySem.F.slot_str_join PySem.F.type_str_join xw oz (ba ha cA (aC [] hn)) rfl ?_ hline (aC [] hn) rfl) fun σ H Q h=>?_
 ·rw[aC [] hn];rfl
 obtain⟨σD,d,rv,e,k⟩:=h;obtain⟨x,ea,e⟩:=bind_some e
 cases x with
 |lst ds=>
  obtain⟨ss,e1,e2⟩:=bind_some e;split at e2
  ·rename_i hz;cases e2;refine⟨rfl,σD,_,rv,ea,fun v H1 r1=>?_⟩;obtain⟨b,xs,rfl,_,f2,f3⟩:=aP r1.rep;rw[nM e1 f3]at f2;have hs:=tH hz.2;have hm:RL.most=100000:=rfl;refine⟨b,ss,rfl,rfl,f2,by omega,?_⟩;rw[lE];exact k _ _ (bT r1.same fF rfl)
  ·cases e2
 | _=>cases e
end
end RS
namespace L2
open PySem PySem.Spec PyProof.Rows
structure hJ(k:Nat)(A:Around):Prop where
 dp:A.depth+3*k+5<recursionLimit
 un:A.units+16*k+200<cLine
def bB.h(r:bB k A):hJ k A:=⟨r.dp,r.un⟩
abbrev HXH(A:Around)(H:Hp):Prop:=A.handled=none\/∃ h o u vs,A.handled=some (.ref h)/\H h=some (.frz o u)/\o.data=.fields vs/\vs[2]?=some .none
structure kn(P:Program)(w:World)(K:PySem.W.Frag)(mg:Str->Option Value)(base:Heap)(k:Nat)(f:Addr)(fd:FuncData)(ps:List Str)(sp:Sp):Prop where
 len:∀ vs H Q,sp vs H Q E0->vs.length=ps.length
 run:∀ (A:Around) (outer:List Env) (s:Shared) (H:Hp) (us:List Value) (vs:List V) (Q:VK),hJ k A->HXH A H->iO P w K mg base A outer s H->BindsTo s fd ⟨us,[]⟩ (ps.zip us)->Vals vs us->sp vs H Q E0->codeAny (model P w) A (.call (.ref f) ⟨us,[]⟩) (CR CX0 outer P w H s Q E0) s
@[reducible]noncomputable def cxH(P:Program)(w:World)(K:PySem.W.Frag)(mg:Str->Option Value)(base:Heap)(N:List Str)(qual:Str)(scope:Scope)(f:Addr)(cd:Value)(A:Around)(outer:List Env)(s:Shared)(H:Hp):Cx:={ (fj CX0 P w K mg base N qual scope f cd A outer s H E0).nox with calm:=false }
section
variable{K:PySem.W.Frag}{st:Stmt}
def Fun.okH(F:Fun K x qual st f fd)(S:dS N ps (aF st))(len:∀ vs H Q,sp vs H Q E0->vs.length=ps.length)
 (hbody:∀ (cdv:Value) (A:Around) (outer:List Env) (s:Shared) (H:Hp) (vs:List V) (Q:VK),hJ k (A.deeper (envOfC qual (aF st) s.heap.objs.size f cdv))->sp vs H Q E0->∃ t,PSs (cxH P w K mg base N qual (aF st) f cdv A outer s H) (bE st) t/\t { nx:=fun _ H'=>Q .non H',rt:=Q } (start N vs) H):kn P w K mg base (k+1) f fd ps sp:=by
 obtain⟨oc,od,kV,doc,pm,an,cdv,ct,osl,rfl,lk,hcd⟩:=F.ex;refine⟨len,fun A outer s H us vs Q hr hx e0 hb r hsp=>?_⟩;have hl:=len _ _ _ hsp;have KX:K.In s.heap:=e0.mod.kin.keeps fun b o e=>(e0.bs b o e).1
 have kinds:∀ y∈ps.zip us,(aF st).names.lookup y.1=some .local\/((aF st).names.lookup y.1=some .cell/\((cellsFrom (s.heap.objs.size+1) (aF st).names []).lookup y.1).isSome=true):=fun⟨n,v⟩ hy=>(S.par n (List.of_mem_zip hy).1).imp (fun q=>q) fun q=>⟨q,PySem.W.cellsFrom_some _ _ _ (.inl q)⟩
 refine codeAny_call_function (by have:=hr.dp;omega) (KX _ _ lk) rfl S.co S.gen rfl (PySem.W.codeRec_of KX hcd) (hb _ _ _ _ ?_);refine wpAny_newFunctionEnv_cells S.kind kinds fun env he s1 y=>?_;subst he;refine⟨(e0.mod.nolimit.keeps fun b o e=>(e0.bs b o e).1).keeps y.toInCall.keep,codeAny_func ?_⟩
 have hr':hJ k (A.deeper (envOfC qual (aF st) s.heap.objs.size f cdv)):=⟨by have:=hr.dp;show A.depth+1+3*k+5<_;omega,by have:=hr.un;show A.units+3+16*k+200<_;omega⟩
 obtain⟨t,ht,hq⟩:=hbody cdv A outer s H vs Q hr' hsp;have I0:Inv (fj CX0 P w K mg base N qual (aF st) f cdv { A with handled:=none } outer s H E0) [] (start N vs) H s1:=lI (A:={ A with handled:=none }) S rfl ⟨e0.frames,e0.mod,e0.bs,e0.bsz,e0.cY,e0.frf,e0.hok,e0.bare⟩ hl r y
 have I:Inv (cxH P w K mg base N qual (aF st) f cdv A outer s H) [] (start N vs) H s1:=⟨⟨I0.ok.mod,I0.ok.kind,I0.ok.glob,I0.ok.blt,I0.ok.above,I0.ok.inj,I0.ok.has,I0.ok.cab,⟨fun z=>(nomatch z),hx⟩,Around.frames_deeper e0.frames,I0.ok.stk,I0.ok.exf,I0.ok.bs,I0.ok.bsz,I0.ok.hU,I0.ok.ik,I0.ok.cY,I0.ok.frf⟩,I0.os,I0.bare,I0.base,I0.loc,I0.cell,I0.free,I0.c6,I0.pin,I0.hok,I0.len⟩
 refine wpAny_mono (ht [] s1 (start N vs) H _ I hq) (fun fl s' hs=>?_) fun e s' hs=>hs.elim
 cases fl with
 |ret u=>
  obtain⟨v,σ',H',J,rv,q⟩:=hs;exact⟨v,H',J.os,J.bare,J.base,J.hok,rv,q⟩
 |next=>
  obtain⟨σ',H',J,q⟩:=hs;exact⟨.non,H',J.os,J.bare,J.base,J.hok,rfl,q⟩
 |brk=>
  obtain⟨_,_,_,q⟩:=hs;exact q.elim
 |cont=>
  obtain⟨_,_,_,q⟩:=hs;exact q.elim
def Fun.okX(F:Fun K x qual st f fd)(S:dS N ps (aF st))(len:∀ vs H Q E,sp vs H Q E->vs.length=ps.length)
 (hbody:∀ (cdv:Value) (A:Around) (outer:List Env) (s:Shared) (H:Hp) (vs:List V) (Q:VK) (E:XK),bB k (A.deeper (envOfC qual (aF st) s.heap.objs.size f cdv))->sp vs H Q E->∃ t,PSs (fj (CXE P w) P w K mg base N qual (aF st) f cdv A outer s H E) (bE st) t/\t { nx:=fun _ H'=>Q .non H',rt:=Q } (start N vs) H):cu P w K mg base (CXE P w) (k+1) f fd ps sp:=by
 obtain⟨oc,od,kV,doc,pm,an,cdv,ct,osl,rfl,lk,hcd⟩:=F.ex;exact xa lk hcd S len fun A outer s H vs Q E hr hsp=>hbody cdv A outer s H vs Q E hr hsp
end
def vd(F:kn X.prog X.w X.K X.mg X.base k f fd ps sp)(hr:hJ k X.A)(hg:Gl X x)(hm:X.mg x=some (.ref f))(hk:PySem.W.keepIn X.K (.ref f)=true)
 (hb:Binds X.K fd ps [])(ha:PA X (e::es) t)(hdb:(x == ("__debug__" : Str))=false)(he:starEach (e::es) X.env=(false,eval e X.env)::starEach es X.env)(hpl:(backTo pos (starEach es X.env)).any (·.1)=false) :
  PE X (.Call (.Name x p) (e::es) [] pos) (fun σ H Q=>t σ H fun vs H1=>sp vs H1 Q E0):=by
 intro pins s σ H Q I h;refine wpAny_Call_Name_kw (cJ I hg hm ?_ hdb);refine PySem.W.callWith_K (h₀:=X.base) I.ok.mod.kin hk (thn (ha pos pins s σ H _ I h) fun us s1 ⟨vs,H1,I1,r,q⟩=>⟨I1.kIn,?_⟩) he hpl
 have hl:us.length=ps.length:=by rw[<-r.length];exact F.len _ _ _ q
 have hbb:=hb s1 us I1.kIn (by rw[List.append_nil];exact hl);rw[List.append_nil]at hbb
 have hx:HXH X.A H1:=by
  rcases I1.ok.hd.2 with z | ⟨h,o,u,vs,h1,h2,h3⟩
  ·exact .inl z
  ·exact .inr ⟨h,o,u,vs,h1,I1.base.cL _ _ _ h2,h3⟩
 refine wpAny_call (codeAny_mono (F.run X.A X.stack s1 H1 us vs Q hr hx I1.qd hbb r q) fun r s' hq=>?_)
 cases r with
 | error e=>exact hq.elim
 |ok fl=>
  cases fl with
  | ret u=>exact I1.after hq
  | next=>exact False.elim hq
  | brk=>exact False.elim hq
  | cont=>exact False.elim hq
end L2
namespace RS
open PySem PySem.Spec PyProof.Rows L2
abbrev xf:Expr->Option (List Expr)
 | .JoinedStr vs _=>some vs
 | _=>none
def wj{e:Expr}{vs:List Expr}(h:xf e=some vs):∃ p,e=.JoinedStr vs p:=by
 cases e
 case JoinedStr=>cases h;exact⟨_,rfl⟩
 all_goals exact nos h
abbrev Ae:Expr->Option (Expr × Int × Option Expr)
 | .FormattedValue e c s _=>some (e,c,s)
 | _=>none
def yV{e x:Expr}{c:Int}{s:Option Expr}(h:Ae e=some (x,c,s)):∃ p,e=.FormattedValue x c s p:=by
 cases e
 case FormattedValue=>cases h;exact⟨_,rfl⟩
 all_goals exact nos h
abbrev oC:Stmt->Option (Option Expr × Option Expr)
 | .Raise e c _=>some (e,c)
 | _=>none
def l3{st:Stmt}{e c:Option Expr}(h:oC st=some (e,c)):∃ p,st=.Raise e c p:=by
 cases st
 case Raise=>cases h;exact⟨_,rfl⟩
 all_goals exact nos h
abbrev Aa:Stmt->Option (List Stmt × List ExceptHandler × List Stmt × List Stmt)
 | .Try b h o f _=>some (b,h,o,f)
 | _=>none
def xR{st:Stmt}{b o f:List Stmt}{h:List ExceptHandler}(z:Aa st=some (b,h,o,f)):∃ p,st=.Try b h o f p:=by
 cases st
 case Try=>cases z;exact⟨_,rfl⟩
 all_goals exact nos z
abbrev fm:ExceptHandler->Option Expr × Option Str × List Stmt
 | .ExceptHandler t n b _=>(t,n,b)
structure CC where
 N:List Str
 sc:Scope
 B:List Str
 G:List (Str × Int)
 F:List (Str × List Nat)
 calm:Bool
 hf:List Nat
 Xr:List Str
 Xs:List Str
 Xi:List Str
 W:List (Str × List (Str × Nat))
abbrev AK(scope sc:Scope):Scope:={ scope with names:=scope.names.map fun(n,k)=>if(k == NameKind.free&&sc.kind == .function&&sc.names.lookup n == some .cell)then(n,NameKind.cell)else(n,k) }
abbrev CC.inner(C:CC)(scope:Scope):CC:={ C with sc:=AK scope C.sc }
abbrev gL(x:Str):Bool:=!(x == ("__debug__" : Str)) && !(x == ("__classdict__" : Str))
abbrev v7(C:CC)(x:Str):Bool:=C.sc.names.lookup x == some .local || C.sc.names.lookup x == some .cell
abbrev uR(C:CC)(x:Str):Bool:=C.sc.names.lookup x == some .local || C.sc.names.lookup x == some .cell || C.sc.names.lookup x == some .free
abbrev glB(C:CC)(x:Str):Bool:=C.sc.names.lookup x == some .globalImplicit&&gL x
abbrev jD(C:CC)(x:Str):Bool:=glB C x&&C.B.contains x
abbrev nmB(C:CC)(i:Nat)(x:Str):Bool:=C.N[i]? == some x&&gL x
structure XOk(C:CC)(X:Cx)(cl:RL.Cl):Prop where
 scope:X.env.scope=C.sc
 names:X.N=C.N
 nd:C.N.Nodup
 calm:C.calm=true->X.calm=true
 xe:X.xe=fun _ _=>False
 hu:X.A.units+100<cLine
 blt:∀ x∈C.B,X.mg x=none
 glb:∀ x i,C.G.lookup x=some i->∃ u,X.mg x=some u/\RelV (.int i) u
 fns:∀ (f:Nat) (x:Str) (mp:List Nat),C.calm=true->C.F[f]?=some (x,mp)->∃ k fa fd ps,cu X.prog X.w X.K X.mg X.base CX0 k fa fd ps (if mp=[]then spF X.K cl f else spM X.K cl mp f)/\bB k X.A/\X.mg x=some (.ref fa)/\PySem.W.keepIn X.K (.ref fa)=true/\Binds X.K fd ps []
 gds:∀ x tbl,C.W.lookup x=some tbl->∃ d kvs,X.mg x=some (.ref d)/\GDc X d kvs/\kvs.map (·.1)=tbl.map (·.1)/\∀ y m,RL.fH tbl (.str y)=some m->∃ q nm,(kvs.find? fun q=>decide (q.1=y))=some q/\C.F[m]?=some (nm,[])/\X.mg nm=some (.ref q.2)
 hfn:∀ (f:Nat) (x:Str),C.hf.contains f=true->C.F[f]?=some (x,[])->∃ k fa fd ps,kn X.prog X.w X.K X.mg X.base k fa fd ps (spF X.K cl f)/\hJ k X.A/\X.mg x=some (.ref fa)/\PySem.W.keepIn X.K (.ref fa)=true/\Binds X.K fd ps []
 cls:∀ c,C.Xr.contains c=true->∃ D,X.mg c=some (.ref D)/\Cls X.K c D/\PySem.W.excIn X.K D VE "ValueError.__new__" = true
 cli:∀ c,C.Xi.contains c=true->∃ D R fI fd,X.mg c=some (.ref D)/\Cls X.K c D/\dG X.K R D fI/\cu X.prog X.w X.K X.mg X.base CX0 1 fI fd ["self", "at"] (spI D)/\(C.calm=true->bB 2 X.A)/\Binds X.K fd ["self", "at"] []
 ref:∀ c,C.Xs.contains c=true->∃ D,X.mg c=some (.ref D)/\PySem.W.nsIn X.K mainGlobals c=some (some (.ref D))
section
variable{C:CC}{X:Cx}{cl:RL.Cl}{e:Expr}
def XOk.vis(h:XOk C X cl){x:Str}(v:uR C x=true):Vis X.env.scope x:=by
 unfold uR at v;rw[<-h.scope,Bool.or_eq_true,Bool.or_eq_true,beq_iff_eq,beq_iff_eq,beq_iff_eq]at v;rcases v with(v | v) | v
 ·exact .inl v
 ·exact .inr (.inl v)
 ·exact .inr (.inr v)
def XOk.loc(h:XOk C X cl){x:Str}(v:v7 C x=true):Loc X.env.scope x:=by
 unfold v7 at v;rw[<-h.scope,Bool.or_eq_true,beq_iff_eq,beq_iff_eq]at v;exact v
def bw{x:Str}(h:gL x=true):(x == ("__debug__" : Str))=false/\(x == ("__classdict__" : Str))=false:=by
 unfold gL at h;rw[Bool.and_eq_true,Bool.not_eq_true',Bool.not_eq_true']at h;exact h
def XOk.gl(h:XOk C X cl){x:Str}(v:glB C x=true):Gl X x/\gL x=true:=by
 unfold glB at v;rw[<-h.scope,Bool.and_eq_true,beq_iff_eq]at v;exact v
def XOk.bl(h:XOk C X cl){x:Str}(v:jD C x=true):Gl X x/\X.mg x=none:=by
 unfold jD at v;rw[Bool.and_eq_true]at v;exact⟨(h.gl v.1).1,h.blt x (by simpa using v.2)⟩
def XOk.nm(h:XOk C X cl){i:Nat}{x:Str}(v:nmB C i x=true):X.N[i]?=some x/\gL x=true:=by
 unfold nmB at v;rw[<-h.names,Bool.and_eq_true,beq_iff_eq]at v;exact v
def XOk.ndX(h:XOk C X cl):X.N.Nodup:=by rw[h.names];exact h.nd
def XOk.blk(h:XOk C X cl){scope:Scope}(cls:List (Str × Addr))(Ca:Addr)(fp:List Addr)(s:Shared)(H:Hp):XOk (C.inner scope) (L2.blk X scope cls Ca fp s H) cl where
 scope:=by
  show relabel scope X.env=AK scope C.sc;rw[<-h.scope];rfl
 names:=h.names
 nd:=h.nd
 calm:=h.calm
 xe:=rfl
 hu:=h.hu
 blt:=h.blt
 glb:=h.glb
 fns:=h.fns
 hfn:=h.hfn
 cls:=h.cls
 cli:=h.cli
 ref:=h.ref
 gds:=h.gds
abbrev gx:RL.D->Const->Bool
 | .int i,.int j=>i == j
 | .bl i,.bool j=>i == j
 | .non,.none=>true
 | .str x,.str y=>x == y
 | _,_=>false
abbrev plainT:Expr->Bool
 | .UnaryOp .Not _ _=>false
 | .BoolOp _ _ _=>false
 | .IfExp _ _ _ _=>false
 | .Compare _ _ _ _=>false
 | _=>true
abbrev oD:Expr->Bool
 | .BoolOp _ _ _=>true
 | _=>false
abbrev jS:Expr->Bool
 | .Set _ _ _=>false
 | _=>true
abbrev qe:RL.Bi->Option Str
 | .len=>some "len"
 | .list=>some "list"
 | .int=>some "int"
 | .abs=>some "abs"
 | .all=>some "all"
 | _=>none
abbrev mM:RL.Ty->Str
 | .int => "int"
 | .bool => "bool"
 | .list => "list"
 | .tuple => "tuple"
 | .str => "str"
abbrev Dv(neg:Bool):CmpOp:=if neg then .IsNot else .Is
abbrev CW(neg:Bool):CmpOp:=if neg then .NotIn else .In
abbrev jJ(C:CC)(i:Nat)(e:Expr):Bool:=(c5 e).any fun x=>nmB C i x&&uR C x
abbrev eL(C:CC)(i:Nat)(e:Expr):Bool:=(c5 e).any fun x=>nmB C i x&&v7 C x
abbrev jx(C:CC):List Nat->List Expr->Bool
 | [],es=>es.isEmpty
 | i::is,es=>match es with
  | e::es=>eL C i e&&jx C is es
  | []=>false
abbrev ku(C:CC)(tg:List Nat)(e:Expr):Bool :=
 match tg with
 | [i]=>eL C i e
 | tg=>(fJ e).any fun es=>jx C tg es
abbrev jL(C:CC)(scope:Scope)(tg:List Nat):Bool:=tg.all fun i=>match C.N[i]? with
 | some x=>scope.names.lookup x == some .local || scope.names.lookup x == some .cell
 | none=>false
abbrev jO(C:CC)(scope:Scope)(tg:List Nat):Bool:=(List.range C.N.length).all fun i=>match C.N[i]? with
 | some x=>!(scope.names.lookup x == some .local || scope.names.lookup x == some .cell) || tg.contains i
 | none=>true
abbrev scB(scope sc:Scope):Bool:=scope.kind == .function&&scope.names.all (fun x=>(!(x.2 == .cell) || scope.names.lookup x.1 == some .cell)&&(!(x.2 == .local) || scope.names.lookup x.1 == some .local)&&(!(x.2 == .free) || sc.names.lookup x.1 == some .cell || sc.names.lookup x.1 == some .free))
abbrev bW(C:CC)(e:Expr)(nm:Str)(f:List Expr->Bool):Bool:=(f7 e).any fun q=>(c5 q.1).any (fun x=>x == nm&&jD C x)&&q.2.2.1.isEmpty&&q.2.1.all noStar&&f q.2.1
def bL{nm:Str}{f:List Expr->Bool}(h:XOk C X cl)(z:bW C e nm f=true):∃ p as pos,e=.Call (.Name nm p) as [] pos/\Gl X nm/\X.mg nm=none/\as.all noStar=true/\f as=true:=by
 unfold bW at z;obtain⟨⟨g,as,ks,pos⟩,z0,z⟩:=aq z;have e0:=dk z0;subst e0;obtain⟨z,z4⟩:=ag z;obtain⟨z,z3⟩:=ag z;obtain⟨z1,z2⟩:=ag z;obtain⟨x,y0,z1⟩:=aq z1;obtain⟨p,rfl⟩:=bG y0;obtain⟨y1,y2⟩:=ag z1;rw[beq_iff_eq]at y1;subst y1;obtain⟨b1,b2⟩:=h.bl y2;rw[List.isEmpty_iff]at z2;subst z2;exact⟨p,as,pos,rfl,b1,b2,z3,z4⟩
def all1{a:Expr}(h:[a].all noStar=true):noStar a=true:=by simpa using h
def all2{a b:Expr}(h:[a,b].all noStar=true):noStar a=true/\noStar b=true:=by simpa using h
def lh{a b c:Expr}(h:[a,b,c].all noStar=true):noStar a=true/\noStar b=true/\noStar c=true:=by simpa using h
end
abbrev qo:RL.It->Bool
 | .zip _ _=>true
 | _=>false
mutual
noncomputable def chk(C:CC)(t:Bool):RL.E->Expr->Bool
 | .var i=>fun e=>jJ C i e
 | .cst d=>fun e=>(kS e).any fun k=>gx d k
 | .glb y i=>fun e=>(c5 e).any fun x=>x == y&&glB C x&&C.G.lookup x == some i
 | .bin o a b=>fun e=>(qN e).any fun q=>q.2.1 == oa o&&chk C false a q.1&&chk C false b q.2.2
 | .neg a=>fun e=>(vUn e).any fun q=>q.1 == .USub&&chk C false a q.2
 | .cmp c a b=>fun e=>(kL e).any fun q=>of1 q.2.1 fun op=>of1 q.2.2 fun r=>op == df c&&chk C false a q.1&&chk C false b r
 | .chain c c' a b d=>fun e=>(kL e).any fun q=>of2 q.2.1 fun op op'=>of2 q.2.2 fun r s=>op == df c&&op' == df c'&&chk C false a q.1&&chk C false b r&&chk C false d s
 | .isN neg a=>fun e=>(kL e).any fun q=>of1 q.2.1 fun op=>of1 q.2.2 fun r=>op == Dv neg&&(kS r).any (fun k=>gx .non k)&&chk C false a q.1
 | .inn neg a b=>fun e=>(kL e).any fun q=>of1 q.2.1 fun op=>of1 q.2.2 fun r=>op == CW neg&&qp r&&chk C false a q.1&&chk C false b r
 | .and a b=>fun e=>(vBool e).any fun q=>ofM q.2.1 fun l r rest=>q.1 == .And&&chk C t a l&&(if rest.isEmpty then chk C t b r else chk C t b (.BoolOp .And (r::rest) q.2.2))
 | .or a b=>fun e=>(vBool e).any fun q=>ofM q.2.1 fun l r rest=>q.1 == .Or&&chk C t a l&&(if rest.isEmpty then chk C t b r else chk C t b (.BoolOp .Or (r::rest) q.2.2))
 | .not a=>fun e=>(vUn e).any fun q=>q.1 == .Not&&chk C t a q.2
 | .tup es=>fun e=>(fJ e).any fun xs=>iF C es xs&&decide (dC es<=1000)
 | .lst es=>fun e=>(vi e).any fun xs=>iF C es xs&&decide (dC es<=1000)
 | .ix a b=>fun e=>(oq e).any fun q=>mK q.2&&chk C false a q.1&&chk C false b q.2
 | .slT a b=>fun e=>(oq e).any fun q=>chk C false a q.1&&(vSl q.2).any fun s=>s.1.isNone&&s.2.2.isNone&&s.2.1.any fun r=>chk C false b r
 | .slF a b=>fun e=>(oq e).any fun q=>chk C false a q.1&&(vSl q.2).any fun s=>s.2.1.isNone&&s.2.2.isNone&&s.1.any fun r=>chk C false b r
 | .call f es=>fun e=>(C.calm || C.hf.contains f)&&(f7 e).any fun q=>(c5 q.1).any (fun x=>glB C x&&C.F[f]? == some (x,[]))&&q.2.2.1.isEmpty && !q.2.1.isEmpty&&iF C es q.2.1
 | .bi b a=>fun e=>C.calm&&match b with
  | .lenSet=>false
  | b=>(qe b).any fun x=>bW C e x fun ys=>of1 ys fun y=>chk C false a y
 | .max a b=>fun e=>C.calm&&bW C e "max" fun ys=>of2 ys fun y z=>chk C false a y&&chk C false b z
 | .min a b=>fun e=>C.calm&&bW C e "min" fun ys=>of2 ys fun y z=>chk C false a y&&chk C false b z
 | .isi a ty=>fun e=>bW C e "isinstance" fun ys=>of2 ys fun y z=>(c5 z).any (fun x=>x == mM ty&&jD C x)&&chk C false a y
 | .rng1 a=>fun e=>C.calm&&bW C e "list" fun ys=>of1 ys fun y=>bW C y "range" fun zs=>of1 zs fun z=>chk C false a z
 | .rng3 c a b=>fun e=>C.calm&&bW C e "list" fun ys=>of1 ys fun y=>bW C y "range" fun zs=>of3 zs fun z u q=>gd c q&&chk C false a z&&chk C false b u
 | .comp d tg it c=>fun e=>(qF e).any fun q=>of1 q.2.1 fun g=>of1 g.ifs fun w=>g.is_async == 0&&scB q.2.2.1 C.sc&&jO C q.2.2.1 tg&&jS g.iter&&ku (C.inner q.2.2.1) tg g.target&&jL C q.2.2.1 tg&&nV C it g.target g.iter&&chk (C.inner q.2.2.1) false d q.1&&chk (C.inner q.2.2.1) true c w&&(C.calm || qo it)
 | .compA d tg it=>fun e=>(qF e).any fun q=>of1 q.2.1 fun g=>g.ifs.isEmpty&&g.is_async == 0&&scB q.2.2.1 C.sc&&jO C q.2.2.1 tg&&jS g.iter&&ku (C.inner q.2.2.1) tg g.target&&jL C q.2.2.1 tg&&nV C it g.target g.iter&&chk (C.inner q.2.2.1) false d q.1&&C.calm
 | .frz a=>fun e=>((vi e).isSome || (qN e).isSome || (f7 e).isSome)&&chk C false a e
 | .cat a b=>fun e=>(qN e).any fun q=>q.2.1 == .Add&&chk C false a q.1&&chk C false b q.2.2
 | .inG g ks a=>fun e=>(kL e).any fun q=>of1 q.2.1 fun op=>of1 q.2.2 fun r=>op == .In&&(c5 r).any (fun x=>x == g&&glB C x&&(C.W.lookup x).any fun tbl=>tbl.map (·.1) == ks)&&chk C false a q.1
 | .join a=>fun e=>(f7 e).any fun q=>(ml q.1).any (fun u=>u.2.1 == ("join" : Str)&&u.2.2.endLine == q.2.2.2.line&&(kS u.1).any fun k=>gx (.str ⟨#[]⟩) k)&&q.2.2.1.isEmpty&&of1 q.2.1 fun y=>noStar y&&chk C false a y
 | .isx a c=>fun e=>bW C e "isinstance" fun ys=>of2 ys fun y z=>(c5 z).any (fun x=>x == c&&(if c == ("ValueError" : Str)then jD C x else glB C x&&C.Xs.contains x&&bQ.contains x))&&chk C false a y
 | .fld a=>fun e=>(ml e).any fun u=>u.2.1 == ("at" : Str)&&(c5 u.1).isSome&&chk C false a u.1
noncomputable def iF(C:CC):RL.Es->List Expr->Bool
 | .nil=>fun xs=>xs.isEmpty
 | .cons e es=>fun xs=>match xs with
  | x::xs=>noStar x&&chk C false e x&&iF C es xs
  | []=>false
noncomputable def nV(C:CC):RL.It->Expr->Expr->Bool
 | .seq a=>fun _ e=>chk C false a e
 | .rng1 a=>fun _ e=>bW C e "range" fun ys=>of1 ys fun y=>chk C false a y
 | .rng3 c a b=>fun _ e=>bW C e "range" fun ys=>of3 ys fun y z q=>gd c q&&chk C false a y&&chk C false b z
 | .enm a=>fun tg e=>(fJ tg).isSome&&bW C e "enumerate" fun ys=>of1 ys fun y=>chk C false a y
 | .zip a b=>fun tg e=>(fJ tg).isSome&&bW C e "zip" fun ys=>of2 ys fun y z=>chk C false a y&&chk C false b z
end
abbrev nL(X:Cx)(cl:RL.Cl)(e:Expr)(e':RL.E)(b b':Bool):Prop:=(b=true->SE X cl e e')/\(b'=true->ST X cl e e'/\(oD e=true->SW X cl e e'))
section
variable{C:CC}{X:Cx}{cl:RL.Cl}{e:Expr}{e':RL.E}{b:Bool}
def qz{env:Env}(h:plainT e=true)(whole:Sem Value):isTrue e env whole=(do let v <- whole;standAt e.pos;holding [v] (truthy v)):=by
 cases e<;>first
  | rfl
  | (cases h;done)
  | (rename_i op _ _;cases op<;>first | rfl | (cases h;done))
def aL(h:b=true->SE X cl e e'/\plainT e=true):nL X cl e e' b b :=
 ⟨fun z=>(h z).1,fun z=>⟨vH (h z).1 (qz (h z).2),fun q=>by
  have:=(h z).2
  cases e<;>first | (cases q;done) | (cases this;done)⟩⟩
def fZ(h:b=true->SE X cl e e'/\ST X cl e e'/\oD e=false):nL X cl e e' b b :=
 ⟨fun z=>(h z).1,fun z=>⟨(h z).2.1,fun q=>by rw[(h z).2.2]at q;cases q⟩⟩
def BS(h:b=false){b':Bool}(h':b'=false):nL X cl e e' b b':=⟨fun z=>(by rw[h]at z;cases z),fun z=>(by rw[h']at z;cases z)⟩
def AG{d:RL.D}{k:Const}{j:Nat}{pos:Pos}(h:gx d k=true):SE X cl (.Constant k j pos) (.cst d):=by
 cases d<;>cases k<;>simp only[gx]at h<;>first | (cases h;done) | skip
 case non.none=>exact jM nJ (fun P H=>by rw[Rep]) rfl
 case bl.bool i j=>rw[beq_iff_eq]at h;subst h;exact jM C5 (fun P H=>m6) rfl
 case int.int i j=>rw[beq_iff_eq]at h;subst h;exact jM nH (fun P H=>aV) rfl
 case str.str i j=>rw[beq_iff_eq]at h;subst h;exact jM oz (fun P H=>fF) rfl
def xV{k:Const}(h:gx .non k=true):k=.none:=by
 cases k<;>simp only[gx]at h<;>first | (cases h;done) | rfl
def rQ(t:RL.Ty):bootBuiltins (mM t)=some (.type (tyN t))/\mM t ≠ "__name__" /\ (mM t == ("__debug__" : Str))=false:=by
 cases t<;>exact⟨by decide +kernel,by decide +kernel,by decide +kernel⟩
def dn(h:jS e=true)(env:Env)(x:Value):foldedSetIterable e env x=pure x:=by
 cases e<;>first | rfl | (cases h;done)
def Cj(hcalm:X.calm=true){o:RL.Bi}{x:Str}{p pos:Pos}{y:Expr}{a':RL.E}(hx:qe o=some x)(hb:Gl X x)(hb2:X.mg x=none)(ha:SE X cl y a')(hn:noStar y=true):SE X cl (.Call (.Name x p) [y] [] pos) (.bi o a'):=by
 cases o<;>simp only[qe]at hx<;>first | (cases hx;done) | skip
 case len=>cases hx;exact AA hb hb2 ha hn
 case list=>cases hx;exact xE hb hb2 ha hn
 case int=>cases hx;exact Bk hb hb2 ha hn
 case abs=>cases hx;exact Bw hb hb2 ha hn
 case all=>cases hx;exact Az hcalm hb hb2 ha hn
def uy{r:Expr}(h:mK r=true):rG r:=by
 cases r<;>first | (cases h;done) | (intro a b;rfl) | skip
def gX{i:Nat}(h:XOk C X cl)(z:jJ C i e=true):∃ x p,e=.Name x p/\X.N[i]?=some x/\Vis X.env.scope x/\(x == ("__debug__" : Str))=false/\(x == ("__classdict__" : Str))=false:=by
 obtain⟨x,z0,z⟩:=aq z;obtain⟨p,rfl⟩:=bG z0;obtain⟨z1,z2⟩:=ag z;obtain⟨g1,g2⟩:=h.nm z1;exact⟨x,p,rfl,g1,h.vis z2,(bw g2).1,(bw g2).2⟩
def dP{i:Nat}(h:XOk C X cl)(z:eL C i e=true):∃ x p,e=.Name x p/\X.N[i]?=some x/\Loc X.env.scope x:=by
 obtain⟨x,z0,z⟩:=aq z;obtain⟨p,rfl⟩:=bG z0;obtain⟨z1,z2⟩:=ag z;exact⟨x,p,rfl,(h.nm z1).1,h.loc z2⟩
def jh(h:XOk C X cl){T:List Nat}(hf:∀ i x,i∈T->X.N[i]?=some x->X.fn x=true\/X.env.scope.names.lookup x=some .local):∀ {is:List Nat} {es:List Expr},(∀ i∈is,i∈T)->jx C is es=true->PGs X es (gs is)/\(assignEach es X.env).length=is.length/\(assignEach es X.env).findIdx? (·.1)=none
 | [],es,_,z=>by
  rw[jx,List.isEmpty_iff]at z;subst z;exact⟨yC,rfl,rfl⟩
 | i::is,[],_,z=>by cases z
 | i::is,e::es,hs,z=>by
  rw[jx]at z;obtain⟨z1,z2⟩:=ag z;obtain⟨x,p,rfl,g1,g2⟩:=dP h z1;obtain⟨h1,h2,h3⟩:=jh h hf (fun j hj=>hs j (List.mem_cons_of_mem _ hj)) z2;refine⟨wu (jy h.ndX g1 g2 (hf i x (hs i List.mem_cons_self) g1)) h1 rfl,?_,?_⟩
  ·show(assignEach es X.env).length+1=is.length+1;rw[h2]
  ·show List.findIdx? (·.1) ((false,assign (.Name x p) X.env)::assignEach es X.env)=none;rw[List.findIdx?_cons];simp only[Bool.false_eq_true,if_false,h3,Option.map_none]
def nX{tg:List Nat}{tgE:Expr}(h:XOk C X cl)(hf:∀ i x,i∈tg->X.N[i]?=some x->X.fn x=true\/X.env.scope.names.lookup x=some .local)(hc:ku C tg tgE=true):PG X tgE (gT X.K tg):=by
 unfold ku at hc;split at hc
 ·obtain⟨x,p,rfl,g1,g2⟩:=dP h hc;exact jy h.ndX g1 g2 (hf _ x (by simp) g1)
 ·rename_i hne;obtain⟨es,z0,z⟩:=aq hc;obtain⟨k,p,rfl⟩:=cx z0;obtain⟨h1,h2,h3⟩:=jh h hf (fun i hi=>hi) z
  have e:gT X.K tg=fun v σ H Q=>kX X.K tg.length (gs tg) v σ H Q\/lg X.K tg.length (gs tg) v σ H Q:=by
   unfold gT;split
   ·rename_i i;exact absurd rfl (hne i)
   ·rfl
  rw[e];exact ng (la h1 h2 h3) (kY h1 h2 h3)
section rulesH
variable{pos:Pos}
def vK(F:kn X.prog X.w X.K X.mg X.base k fa fd ps (spF X.K cl f))(hr:hJ k X.A)(hg:Gl X x)
 (hm:X.mg x=some (.ref fa))(hk:PySem.W.keepIn X.K (.ref fa)=true)(hb:Binds X.K fd ps [])(he:SEs X cl (e::es) (.cons e' es'))(hdb:(x == ("__debug__" : Str))=false)(hn:noStar e=true)(hns:es.all noStar=true) :
  SE X cl (.Call (.Name x p) (e::es) [] pos) (.call f (.cons e' es')):=by
 refine PE.weak (vd F hr hg hm hk hb he hdb (aC es hn) (cC hns)) fun σ H Q h=>?_;obtain⟨σD,d,rv,ev,q⟩:=h;obtain⟨ds,e1,e2⟩:=bind_some ev;refine⟨σD,ds,rv,e1,fun vs H1 s1 r1=>?_⟩;refine⟨ds,d,r1,e2,fun v H2 s2 r2=>q v H2 ⟨s1.trans s2,r2.none,fun _ m a z=>?_,fun M _ P hP _=>?_⟩⟩
 ·subst z
  have hh:H1 a=none:=by
   cases d with
   | lst ds=>obtain⟨p,xs,e1,e2,_⟩:=aP r2;cases e1;exact Classical.byContradiction e2
   | dK ks ds=>rw[Rep]at r2;obtain⟨p,xs,e1,e2,_⟩:=r2;cases e1;exact Classical.byContradiction e2
   | dT ks ds=>rw[Rep]at r2;obtain⟨p,xs,e1,e2,_⟩:=r2;cases e1;exact Classical.byContradiction e2
   | _=>cases m
  exact s1.free hh
 ·refine r2.weak fun a z=>?_;obtain⟨o,ho⟩:=Option.ne_none_iff_exists'.mp (hP a z);rw[s1 _ _ ho]
  exact fun q=>nomatch q
end rulesH
def zg{x:Str}{i:Int}{pos:Pos}(h:XOk C X cl)(hg:glB C x=true)(hl:C.G.lookup x=some i):SE X cl (.Name x pos) (.glb x i):=by
 obtain⟨u,h1,h2⟩:=h.glb x i hl;obtain⟨g1,g2⟩:=h.gl hg;exact zE (u:=u) (pN g1 h1 h2 (bw g2).1)
def yM{x:Str}{f:Nat}(hcal:(C.calm || C.hf.contains f)=true){p pos:Pos}{y:Expr}{ys:List Expr}{es:RL.Es}(h:XOk C X cl)(hg:glB C x=true)(hf:C.F[f]?=some (x,[]))(he:SEs X cl (y::ys) es)(hl:dC es=ys.length+1)(hn:noStar y=true)(hns:ys.all noStar=true) :
  SE X cl (.Call (.Name x p) (y::ys) [] pos) (.call f es):=by
 obtain⟨g1,g2⟩:=h.gl hg;by_cases hc:C.calm=true
 ·obtain⟨k,fa,fd,ps,F,hr,hm,hk,hb⟩:=h.fns f x [] hc hf;rw[if_pos rfl]at F
  cases es with
  | nil=>simp[dC]at hl
  | cons e' es'=>exact yY F hr g1 hm hk hb he (bw g2).1 hn hns
 ·have hh:C.hf.contains f=true:=by simpa[hc]using hcal
  obtain⟨k,fa,fd,ps,F,hr,hm,hk,hb⟩:=h.hfn f x hh hf
  cases es with
  | nil=>simp[dC]at hl
  | cons e' es'=>exact vK F hr g1 hm hk hb he (bw g2).1 hn hns
def kc{scope sc:Scope}(h:scB scope sc=true):k6 scope sc:=by
 unfold scB at h;obtain⟨h1,h2⟩:=ag h;rw[List.all_eq_true]at h2;refine⟨by simpa using h1,fun x hx z=>?_,fun x hx z=>?_,fun x hx z=>?_⟩
 ·have:=h2 x hx;rw[z]at this;simpa using this
 ·have:=h2 x hx;rw[z]at this;simpa using this
 ·have:=h2 x hx;rw[z]at this;simpa using this
def ic{scope:Scope}{tg:List Nat}(h:jO C scope tg=true)(i:Nat)(x:Str)(hx:C.N[i]?=some x)(hl:scope.names.lookup x=some .local\/scope.names.lookup x=some .cell):tg.contains i=true:=by
 unfold jO at h;rw[List.all_eq_true]at h;have:=h i (List.mem_range.mpr (List.getElem?_eq_some_iff.mp hx).1);rw[hx]at this;rcases hl with hl | hl
 ·simp only[hl,beq_self_eq_true,Bool.true_or,Bool.not_true,Bool.false_or]at this;exact this
 ·simp only[hl,beq_self_eq_true,Bool.or_true,Bool.not_true,Bool.false_or]at this;exact this
def lG{X:Cx}{cls:List (Str × Addr)}{scope:Scope}{Ca:Addr}{fp:List Addr}{s:Shared}{H:Hp}{pins:List (Addr × Obj)}{s':Shared}{σ:L2.St}{H':Hp}{Q:Bool->Hp->Prop}(I:Inv (L2.blk X scope cls Ca fp s H) pins σ H' s')(q:ke σ H' Q) :
  wpAny (model X.prog X.w) X.A (fP [] (compEnvC scope cls Ca X.env)) (TP (L2.blk X scope cls Ca fp s H) pins σ Q) (fun _ _=>False) s':=by
 unfold fP;exact wpAny_pure ⟨H',I,q⟩
def lS{X:Cx}{cls:List (Str × Addr)}{scope:Scope}{Ca:Addr}{fp:List Addr}{s:Shared}{H:Hp}{pins:List (Addr × Obj)}{s':Shared}{σ:L2.St}{H':Hp}{Q:Bool->Hp->Prop}{c:Expr}{t:TT}(hc:PT (L2.blk X scope cls Ca fp s H) c t)(I:Inv (L2.blk X scope cls Ca fp s H) pins σ H' s')(q:t σ H' Q) :
  wpAny (model X.prog X.w) X.A (fP [c] (compEnvC scope cls Ca X.env)) (TP (L2.blk X scope cls Ca fp s H) pins σ Q) (fun _ _=>False) s':=by
 have h:=hc pins s' σ H' Q I q;unfold fP;simp only[List.forIn_cons,List.forIn_nil,if_true];refine wpAny_bind (wpAny_bind (thn h fun b s1 hb=>wpAny_pure ?_));exact wpAny_pure hb
def kf(h:XOk C X cl){scope:Scope}{cls:List (Str × Addr)}{Ca:Addr}{fp:List Addr}{s:Shared}{H:Hp}{tg:List Nat}(ha:jL C scope tg=true){tgE:Expr}(hc:ku (C.inner scope) tg tgE=true):PG (L2.blk X scope cls Ca fp s H) tgE (gT X.K tg):=by
 have hb:=h.blk (scope:=scope) cls Ca fp s H;unfold jL at ha;rw[List.all_eq_true]at ha;refine nX hb (fun i x hi hx=>?_) hc;have:=ha i hi;have hx:X.N[i]?=some x:=hx;rw[h.names]at hx;rw[hx]at this;simp only[Bool.or_eq_true,beq_iff_eq]at this;rcases this with z | z
 ·exact .inr (lookup_relabel_local z)
 ·exact .inl (by show(scope.names.lookup x == some .cell)=true;rw[z];rfl)
def eC{α:Type}{o:Option α}(h:o.isNone=true):o=none:=by
 cases o with
 | none=>rfl
 | some _=>cases h
end
mutual
theorem au{cl:RL.Cl}:∀ (e':RL.E) {C:CC} {X:Cx} (h:XOk C X cl) (e:Expr),nL X cl e e' (chk C false e' e) (chk C true e' e)
 | .var i,C,X,h,e=>aL (b:=chk C false (.var i) e) fun z=>by
  obtain⟨x,p,rfl,g1,g2,g3,g4⟩:=gX h z;exact⟨An g1 g2 g3 g4,rfl⟩
 | .cst d,C,X,h,e=>aL (b:=chk C false (.cst d) e) fun z=>by
  obtain⟨k,z0,z⟩:=aq z;obtain⟨j,p,rfl⟩:=gY z0;exact⟨AG z,rfl⟩
 | .glb y i,C,X,h,e=>aL (b:=chk C false (.glb y i) e) fun z=>by
  obtain⟨x,z0,z⟩:=aq z;obtain⟨p,rfl⟩:=bG z0;obtain⟨z,z3⟩:=ag z;obtain⟨z1,z2⟩:=ag z;rw[beq_iff_eq]at z1 z3;subst z1;exact⟨zg h z2 z3,rfl⟩
 | .bin o a b,C,X,h,e=>aL (b:=chk C false (.bin o a b) e) fun z=>by
  obtain⟨⟨l,op,r⟩,z0,z⟩:=aq z;obtain⟨p,rfl⟩:=oZ z0;obtain⟨z,z3⟩:=ag z;obtain⟨z1,z2⟩:=ag z;rw[beq_iff_eq]at z1;have z1:op=oa o:=z1;subst z1;exact⟨ze ((au a h l).1 z2) ((au b h r).1 z3),rfl⟩
 | .neg a,C,X,h,e=>aL (b:=chk C false (.neg a) e) fun z=>by
  obtain⟨⟨op,x⟩,z0,z⟩:=aq z;obtain⟨p,rfl⟩:=oA z0;obtain⟨z1,z2⟩:=ag z;rw[beq_iff_eq]at z1;have z1:op=.USub:=z1;subst z1;exact⟨zY ((au a h x).1 z2),rfl⟩
 | .cmp c a b,C,X,h,e=>fZ (b:=chk C false (.cmp c a b) e) fun z=>by
  obtain⟨⟨l,os,rs⟩,z0,z⟩:=aq z;obtain⟨p,rfl⟩:=gU z0;obtain⟨op,y1,z⟩:=aS z;obtain⟨r,y2,z⟩:=aS z;have y1:os=[op]:=y1;have y2:rs=[r]:=y2;subst y1 y2;obtain⟨z,z3⟩:=ag z;obtain⟨z1,z2⟩:=ag z;rw[beq_iff_eq]at z1;subst z1;exact⟨zI h.hu ((au a h l).1 z2) ((au b h r).1 z3),Bj h.hu ((au a h l).1 z2) ((au b h r).1 z3),rfl⟩
 | .chain c c' a b d,C,X,h,e=>fZ (b:=chk C false (.chain c c' a b d) e) fun z=>by
  obtain⟨⟨l,os,rs⟩,z0,z⟩:=aq z;obtain⟨p,rfl⟩:=gU z0;obtain⟨op,op',y1,z⟩:=cj z;obtain⟨r,s,y2,z⟩:=cj z;have y1:os=[op,op']:=y1;have y2:rs=[r,s]:=y2;subst y1 y2;obtain⟨z,z5⟩:=ag z;obtain⟨z,z4⟩:=ag z;obtain⟨z,z3⟩:=ag z;obtain⟨z1,z2⟩:=ag z;rw[beq_iff_eq]at z1 z2;subst z1 z2;exact⟨vy h.hu ((au a h l).1 z3) ((au b h r).1 z4) ((au d h s).1 z5),vx h.hu ((au a h l).1 z3) ((au b h r).1 z4) ((au d h s).1 z5),rfl⟩
 | .isN neg a,C,X,h,e=>fZ (b:=chk C false (.isN neg a) e) fun z=>by
  obtain⟨⟨l,os,rs⟩,z0,z⟩:=aq z;obtain⟨p,rfl⟩:=gU z0;obtain⟨op,y1,z⟩:=aS z;obtain⟨r,y2,z⟩:=aS z;have y1:os=[op]:=y1;have y2:rs=[r]:=y2;subst y1 y2;obtain⟨z,z3⟩:=ag z;obtain⟨z1,z2⟩:=ag z;rw[beq_iff_eq]at z1;subst z1;obtain⟨k,w0,w⟩:=aq z2;obtain⟨j,q,rfl⟩:=gY w0;have w:=xV w;subst w;exact⟨AJ ((au a h l).1 z3),zh ((au a h l).1 z3),rfl⟩
 | .inn neg a b,C,X,h,e=>fZ (b:=chk C false (.inn neg a b) e) fun z=>by
  obtain⟨⟨l,os,rs⟩,z0,z⟩:=aq z;obtain⟨p,rfl⟩:=gU z0;obtain⟨op,y1,z⟩:=aS z;obtain⟨r,y2,z⟩:=aS z;have y1:os=[op]:=y1;have y2:rs=[r]:=y2;subst y1 y2;obtain⟨z,z4⟩:=ag z;obtain⟨z,z3⟩:=ag z;obtain⟨z1,z2⟩:=ag z;rw[beq_iff_eq]at z1;subst z1;exact⟨A4 ((au a h l).1 z3) ((au b h r).1 z4) z2,By ((au a h l).1 z3) ((au b h r).1 z4) z2,rfl⟩
 | .inG g ks a,C,X,h,e=>fZ (b:=chk C false (.inG g ks a) e) fun z=>by
  obtain⟨⟨l,os,rs⟩,z0,z⟩:=aq z;obtain⟨p,rfl⟩:=gU z0;obtain⟨op,y1,z⟩:=aS z;obtain⟨r,y2,z⟩:=aS z;have y1:os=[op]:=y1;have y2:rs=[r]:=y2;subst y1 y2;obtain⟨z,z3⟩:=ag z;obtain⟨z1,z2⟩:=ag z;rw[beq_iff_eq]at z1;obtain⟨x,w0,w⟩:=aq z2;obtain⟨q,rfl⟩:=bG w0;obtain⟨w,w3⟩:=ag w;obtain⟨w1,w2⟩:=ag w;obtain⟨tbl,w4,w5⟩:=aq w3;rw[beq_iff_eq]at w1 w5;subst z1 w1;obtain⟨d,kvs,d1,d2,d3,_⟩:=h.gds x tbl w4;obtain⟨g1,g2⟩:=h.gl w2;rw[<-w5];exact⟨Av ((au a h l).1 z3) g1 d1 (bw g2).1 d2 d3,zu ((au a h l).1 z3) g1 d1 (bw g2).1 d2 d3,rfl⟩
 | .and a b,C,X,h,e=>⟨(fun z=>by
   obtain⟨⟨op,es,p⟩,z0,z⟩:=aq z;obtain⟨l,r,rest,y1,z⟩:=kq z;have e0:=i7 z0;have y1:es=l::r::rest:=y1;obtain⟨z,z3⟩:=ag z;obtain⟨z1,z2⟩:=ag z;rw[beq_iff_eq]at z1;have z1:op=.And:=z1;subst y1 z1 e0;refine AD ((au a h l).1 z2) ?_;split at z3
   ·rename_i hr;rw[List.isEmpty_iff]at hr;subst hr;exact sH ((au b h r).1 z3)
   ·exact(au b h _).1 z3),(fun z=>by
   obtain⟨⟨op,es,p⟩,z0,z⟩:=aq z;obtain⟨l,r,rest,y1,z⟩:=kq z;have e0:=i7 z0;have y1:es=l::r::rest:=y1;obtain⟨z,z3⟩:=ag z;obtain⟨z1,z2⟩:=ag z;rw[beq_iff_eq]at z1;have z1:op=.And:=z1;subst y1 z1 e0
   have w:SW X cl (.BoolOp .And (l::r::rest) p) (.and a b):=by
    refine Af ((au a h l).2 z2).1 ?_;split at z3
    ·rename_i hr;rw[List.isEmpty_iff]at hr;subst hr;exact ui ((au b h r).2 z3).1
    ·exact((au b h _).2 z3).2 rfl
   exact⟨w.pt,fun _=>w⟩)⟩
 | .or a b,C,X,h,e=>⟨(fun z=>by
   obtain⟨⟨op,es,p⟩,z0,z⟩:=aq z;obtain⟨l,r,rest,y1,z⟩:=kq z;have e0:=i7 z0;have y1:es=l::r::rest:=y1;obtain⟨z,z3⟩:=ag z;obtain⟨z1,z2⟩:=ag z;rw[beq_iff_eq]at z1;have z1:op=.Or:=z1;subst y1 z1 e0;refine Cw ((au a h l).1 z2) ?_;split at z3
   ·rename_i hr;rw[List.isEmpty_iff]at hr;subst hr;exact sH ((au b h r).1 z3)
   ·exact(au b h _).1 z3),(fun z=>by
   obtain⟨⟨op,es,p⟩,z0,z⟩:=aq z;obtain⟨l,r,rest,y1,z⟩:=kq z;have e0:=i7 z0;have y1:es=l::r::rest:=y1;obtain⟨z,z3⟩:=ag z;obtain⟨z1,z2⟩:=ag z;rw[beq_iff_eq]at z1;have z1:op=.Or:=z1;subst y1 z1 e0
   have w:SW X cl (.BoolOp .Or (l::r::rest) p) (.or a b):=by
    refine Cq ((au a h l).2 z2).1 ?_;split at z3
    ·rename_i hr;rw[List.isEmpty_iff]at hr;subst hr;exact ui ((au b h r).2 z3).1
    ·exact((au b h _).2 z3).2 rfl
   exact⟨w.pt,fun _=>w⟩)⟩
 | .not a,C,X,h,e=>⟨(fun z=>by
   obtain⟨⟨op,x⟩,z0,z⟩:=aq z;obtain⟨p,rfl⟩:=oA z0;obtain⟨z1,z2⟩:=ag z;rw[beq_iff_eq]at z1;have z1:op=.Not:=z1;subst z1
   exact A7 ((au a h x).1 z2)),(fun z=>by
   obtain⟨⟨op,x⟩,z0,z⟩:=aq z;obtain⟨p,rfl⟩:=oA z0;obtain⟨z1,z2⟩:=ag z;rw[beq_iff_eq]at z1;have z1:op=.Not:=z1;subst z1
   exact⟨Bf ((au a h x).2 z2).1,fun q=>by cases q⟩)⟩
 | .tup es,C,X,h,e=>aL (b:=chk C false (.tup es) e) fun z=>by
  obtain⟨xs,z0,z⟩:=aq z;obtain⟨k,p,rfl⟩:=cx z0;obtain⟨z1,z2⟩:=ag z;exact⟨zG (eu es h _ z1).1 (by simpa using z2),rfl⟩
 | .lst es,C,X,h,e=>aL (b:=chk C false (.lst es) e) fun z=>by
  obtain⟨xs,z0,z⟩:=aq z;obtain⟨p,rfl⟩:=yG z0;obtain⟨z1,z2⟩:=ag z;exact⟨Bg (eu es h _ z1).1 (by simpa using z2),rfl⟩
 | .ix a b,C,X,h,e=>aL (b:=chk C false (.ix a b) e) fun z=>by
  obtain⟨⟨l,r⟩,z0,z⟩:=aq z;obtain⟨p,rfl⟩:=gE z0;obtain⟨z,z3⟩:=ag z;obtain⟨z1,z2⟩:=ag z;exact⟨Cp ((au a h l).1 z2) ((au b h r).1 z3) z1,rfl⟩
 | .slT a b,C,X,h,e=>aL (b:=chk C false (.slT a b) e) fun z=>by
  obtain⟨⟨l,s⟩,z0,z⟩:=aq z;obtain⟨p,rfl⟩:=gE z0;obtain⟨z1,z⟩:=ag z;obtain⟨⟨s1,s2,s3⟩,z0,z⟩:=aq z;obtain⟨q,e0⟩:=uc z0;have e0:s=.Slice s1 s2 s3 q:=e0;obtain⟨z,z4⟩:=ag z;obtain⟨z2,z3⟩:=ag z;have w2:s1=none:=eC z2;have w3:s3=none:=eC z3;obtain⟨r,y0,z4⟩:=aq z4;have y1:s2=some r:=y0;rw[w2,w3,y1]at e0;subst e0;exact⟨Ax ((au a h l).1 z1) ((au b h r).1 z4),rfl⟩
 | .slF a b,C,X,h,e=>aL (b:=chk C false (.slF a b) e) fun z=>by
  obtain⟨⟨l,s⟩,z0,z⟩:=aq z;obtain⟨p,rfl⟩:=gE z0;obtain⟨z1,z⟩:=ag z;obtain⟨⟨s1,s2,s3⟩,z0,z⟩:=aq z;obtain⟨q,e0⟩:=uc z0;have e0:s=.Slice s1 s2 s3 q:=e0;obtain⟨z,z4⟩:=ag z;obtain⟨z2,z3⟩:=ag z;have w2:s2=none:=eC z2;have w3:s3=none:=eC z3;obtain⟨r,y0,z4⟩:=aq z4;have y1:s1=some r:=y0;rw[w2,w3,y1]at e0;subst e0;exact⟨A9 ((au a h l).1 z1) ((au b h r).1 z4),rfl⟩
 | .call f es,C,X,h,e=>aL (b:=chk C false (.call f es) e) fun z=>by
  obtain⟨zc,z⟩:=ag z;obtain⟨⟨g,as,ks,p⟩,z0,z⟩:=aq z;have z0:=dk z0;subst z0;obtain⟨z,z4⟩:=ag z;obtain⟨z,z3⟩:=ag z;obtain⟨z1,z2⟩:=ag z;obtain⟨x,y0,z1⟩:=aq z1;obtain⟨q,e0⟩:=bG y0;have e0:g=.Name x q:=e0;obtain⟨y1,y2⟩:=ag z1;rw[beq_iff_eq]at y2
  have w2:ks=[]:=by rw[List.isEmpty_iff]at z2;exact z2
  subst e0 w2;obtain⟨q1,q2,q3⟩:=eu es h _ z4;dsimp only at z3 q1 q2 q3
  cases as with
  | nil=>cases z3
  |cons y ys=>
   rw[List.all_cons]at q3;exact⟨yM zc h y1 y2 q1 q2 (ag q3).1 (ag q3).2,rfl⟩
 | .bi o a,C,X,h,e=>by
  have gen:(∀ t,chk C t (.bi o a) e=(C.calm&&(qe o).any fun x=>bW C e x fun ys=>of1 ys fun y=>chk C false a y))->nL X cl e (.bi o a) (chk C false (.bi o a) e) (chk C true (.bi o a) e):=fun heq=>by
   rw[heq,heq];refine aL fun z=>?_;obtain⟨zc,z⟩:=ag z;obtain⟨x,y0,z⟩:=aq z;obtain⟨p,as,pos,rfl,b1,b2,z3,z4⟩:=bL h z;obtain⟨y,rfl,z4⟩:=aS z4;exact⟨Cj (h.calm zc) y0 b1 b2 ((au a h y).1 z4) (all1 z3),rfl⟩
  cases o
  case lenSet=>exact BS (Bool.and_false _) (Bool.and_false _)
  all_goals exact gen fun t=>rfl
 | .max a b,C,X,h,e=>aL (b:=chk C false (.max a b) e) fun z=>by
  obtain⟨zc,z⟩:=ag z;obtain⟨p,as,pos,rfl,b1,b2,z3,z4⟩:=bL h z;obtain⟨y,u,rfl,z4⟩:=cj z4;exact⟨zx (h.calm zc) b1 b2 ((au a h y).1 (ag z4).1) ((au b h u).1 (ag z4).2) (all2 z3).1 (all2 z3).2,rfl⟩
 | .min a b,C,X,h,e=>aL (b:=chk C false (.min a b) e) fun z=>by
  obtain⟨zc,z⟩:=ag z;obtain⟨p,as,pos,rfl,b1,b2,z3,z4⟩:=bL h z;obtain⟨y,u,rfl,z4⟩:=cj z4;exact⟨BL (h.calm zc) b1 b2 ((au a h y).1 (ag z4).1) ((au b h u).1 (ag z4).2) (all2 z3).1 (all2 z3).2,rfl⟩
 | .isi a ty,C,X,h,e=>aL (b:=chk C false (.isi a ty) e) fun z=>by
  have z:(bW C e "isinstance" fun ys=>of2 ys fun y z=>(c5 z).any (fun x=>x == mM ty&&jD C x)&&chk C false a y)=true:=z;obtain⟨p,as,pos,rfl,b1,b2,z3,z4⟩:=bL h z;obtain⟨y,u,rfl,z4⟩:=cj z4;obtain⟨z5,z6⟩:=ag z4;obtain⟨x,w0,w⟩:=aq z5;obtain⟨q,rfl⟩:=bG w0;obtain⟨w1,w2⟩:=ag w;rw[beq_iff_eq]at w1;subst w1;obtain⟨t1,t2,t3⟩:=rQ ty;exact⟨AV b1 b2 (h.bl w2).1 (h.bl w2).2 t1 t2 t3 ((au a h y).1 z6) (all2 z3).1,rfl⟩
 | .rng1 a,C,X,h,e=>aL (b:=chk C false (.rng1 a) e) fun z=>by
  obtain⟨zc,z⟩:=ag z;obtain⟨p,as,pos,rfl,b1,b2,z3,z4⟩:=bL h z;obtain⟨y,rfl,z5⟩:=aS z4;obtain⟨p',as',pos',rfl,b1',b2',z3',z6⟩:=bL h z5;obtain⟨y,rfl,z7⟩:=aS z6;exact⟨yO (h.calm zc) b1 b2 b1' b2' ((au a h y).1 z7) (all1 z3'),rfl⟩
 | .rng3 c a b,C,X,h,e=>aL (b:=chk C false (.rng3 c a b) e) fun z=>by
  obtain⟨zc,z⟩:=ag z;obtain⟨p,as,pos,rfl,b1,b2,z3,z4⟩:=bL h z;obtain⟨y,rfl,z5⟩:=aS z4;obtain⟨p',as',pos',rfl,b1',b2',z3',z6⟩:=bL h z5;obtain⟨y,u,q,rfl,z7⟩:=rM z6;obtain⟨z7,z9⟩:=ag z7;obtain⟨z7,z8⟩:=ag z7;exact⟨yJ (h.calm zc) b1 b2 b1' b2' ((au a h y).1 z8) ((au b h u).1 z9) (lh z3').1 (lh z3').2.1 z7,rfl⟩
 | .comp d tg it c,C,X,h,e=>aL (b:=chk C false (.comp d tg it c) e) fun z=>by
  obtain⟨⟨elt,gens,scope,p⟩,z0,z⟩:=aq z;have z0:=m5 z0;subst z0;obtain⟨⟨tgE,iter,ifs,asy⟩,y1,z⟩:=aS z;have y1:gens=[⟨tgE,iter,ifs,asy⟩]:=y1;obtain⟨w,y2,z⟩:=aS z;have y2:ifs=[w]:=y2;obtain⟨z,zc⟩:=ag z;obtain⟨z,z8⟩:=ag z;obtain⟨z,z7⟩:=ag z;obtain⟨z,z6⟩:=ag z;obtain⟨z,z5⟩:=ag z;obtain⟨z,z4⟩:=ag z;obtain⟨z,z3⟩:=ag z;obtain⟨z,z2⟩:=ag z;obtain⟨z0,z1⟩:=ag z;rw[beq_iff_eq]at z0;have w0:asy=0:=z0;subst y1 w0;subst y2
  have B:iA X cl scope tgE tg elt d (tT X.K cl c) [w]:=⟨fun cls Ca fp s H=>kf h z5 z4,fun cls Ca fp s H pins s' σ H' Q I q=>lS ((au c (h.blk cls Ca fp s H) _).2 z8).1 I q,fun cls Ca fp s H=>(au d (h.blk cls Ca fp s H) _).1 z7,fun i x hx hl=>ic z2 i x (by rw[<-h.names];exact hx) hl⟩
  by_cases hc:C.calm=true
  ·exact⟨mP (fun _ _ _ _=>h.calm hc) (by rw[h.scope];exact kc z1) (f9 it h _ _ z6) B (dn z3 _),rfl⟩
  ·have hz:qo it=true:=by simpa[hc]using zc
   exact⟨mP (CM:=fun _=>True) (fun _ _ _ _=>trivial) (by rw[h.scope];exact kc z1) (xF it h _ _ z6 hz) B (dn z3 _),rfl⟩
 | .compA d tg it,C,X,h,e=>aL (b:=chk C false (.compA d tg it) e) fun z=>by
  obtain⟨⟨elt,gens,scope,p⟩,z0,z⟩:=aq z;have z0:=m5 z0;subst z0;obtain⟨⟨tgE,iter,ifs,asy⟩,y1,z⟩:=aS z;have y1:gens=[⟨tgE,iter,ifs,asy⟩]:=y1;obtain⟨z,zc⟩:=ag z;obtain⟨z,z7⟩:=ag z;obtain⟨z,z6⟩:=ag z;obtain⟨z,z5⟩:=ag z;obtain⟨z,z4⟩:=ag z;obtain⟨z,z3⟩:=ag z;obtain⟨z,z2⟩:=ag z;obtain⟨z,z1⟩:=ag z;obtain⟨y2,z0⟩:=ag z;rw[beq_iff_eq]at z0;have w0:asy=0:=z0
  have w2:ifs=[]:=by rw[List.isEmpty_iff]at y2;exact y2
  subst y1 w0;subst w2;refine⟨wt (h.calm zc) (by rw[h.scope];exact kc z1) (f9 it h _ _ z6) ?_ (dn z3 _),rfl⟩;exact⟨fun cls Ca fp s H=>kf h z5 z4,fun cls Ca fp s H pins s' σ H' Q I q=>lG I q,fun cls Ca fp s H=>(au d (h.blk cls Ca fp s H) _).1 z7,fun i x hx hl=>ic z2 i x (by rw[<-h.names];exact hx) hl⟩
 | .frz a,C,X,h,e=>aL (b:=chk C false (.frz a) e) fun z=>by
  obtain⟨z1,z2⟩:=ag z;exact⟨A8 ((au a h e).1 z2),by cases e<;>first | rfl | exact Bool.noConfusion z1⟩
 | .cat a b,C,X,h,e=>aL (b:=chk C false (.cat a b) e) fun z=>by
  obtain⟨⟨l,op,r⟩,z0,z⟩:=aq z;obtain⟨p,rfl⟩:=oZ z0;obtain⟨z,z3⟩:=ag z;obtain⟨z1,z2⟩:=ag z;rw[beq_iff_eq]at z1;have z1:op=.Add:=z1;subst z1;exact⟨B4 ((au a h l).1 z2) ((au b h r).1 z3),rfl⟩
 | .join a,C,X,h,e=>aL (b:=chk C false (.join a) e) fun z=>by
  obtain⟨⟨g,as,ks,p⟩,z0,z⟩:=aq z;have z0:=dk z0;obtain⟨z,z3⟩:=ag z;obtain⟨z1,z2⟩:=ag z;obtain⟨⟨o,nm,apos⟩,y0,z1⟩:=aq z1;have e1:=jC y0;have e1:g=.Attribute o nm apos:=e1;obtain⟨z1,y3⟩:=ag z1;obtain⟨y1,y2⟩:=ag z1;rw[beq_iff_eq]at y1;have y1:nm = "join" := y1;obtain⟨kk,w0,w⟩:=aq y3;obtain⟨j,q,e2⟩:=gY w0;have e2:o=.Constant kk j q:=e2
  have e4:kk=.str ⟨#[]⟩:=by
   cases kk<;>simp only[gx]at w<;>first | (cases w;done) | skip
   rw[beq_iff_eq]at w;rw[<-w]
  have w2:ks=[]:=by rw[List.isEmpty_iff]at z2;exact z2
  obtain⟨y,e3,z3⟩:=aS z3;have e3:as=[y]:=e3;obtain⟨z3,z5⟩:=ag z3;rw[e1,y1,e2,e4,w2,e3]at z0;subst z0;exact⟨yg ((au a h y).1 z5) z3 y2,rfl⟩
 | .isx a c,C,X,h,e=>aL (b:=chk C false (.isx a c) e) fun z=>by
  have z:(bW C e "isinstance" fun ys=>of2 ys fun y z=>(c5 z).any (fun x=>x == c&&(if c == ("ValueError" : Str)then jD C x else glB C x&&C.Xs.contains x&&bQ.contains x))&&chk C false a y)=true:=z;obtain⟨p,as,pos,rfl,b1,b2,z3,z4⟩:=bL h z;obtain⟨y,u,rfl,z4⟩:=cj z4;obtain⟨z5,z6⟩:=ag z4;obtain⟨x,w0,w⟩:=aq z5;obtain⟨q,rfl⟩:=bG w0;obtain⟨w1,w2⟩:=ag w;rw[beq_iff_eq]at w1;subst w1;split at w2
  ·rename_i hv;rw[beq_iff_eq]at hv;subst hv;exact⟨Bl b1 b2 (h.bl w2).1 (h.bl w2).2 ((au a h y).1 z6) (all2 z3).1,rfl⟩
  ·obtain⟨w2,w4⟩:=ag w2;obtain⟨w2,w3⟩:=ag w2;obtain⟨D,d1,d2⟩:=h.ref x w3;exact⟨AI b1 b2 (h.gl w2).1 d1 d2 (by simpa using w4) (bw (h.gl w2).2).1 ((au a h y).1 z6) (all2 z3).1,rfl⟩
 | .fld a,C,X,h,e=>aL (b:=chk C false (.fld a) e) fun z=>by
  obtain⟨⟨o,nm,apos⟩,z0,z⟩:=aq z;have z0:=jC z0;obtain⟨z,z3⟩:=ag z;obtain⟨z1,z2⟩:=ag z;rw[beq_iff_eq]at z1;have z1:nm = "at" := z1;obtain⟨x,z2⟩:=Option.isSome_iff_exists.mp z2;obtain⟨p,z2⟩:=bG z2;have z2:o=.Name x p:=z2;subst z0 z1 z2;exact⟨Bv ((au a h _).1 z3),rfl⟩
theorem eu{cl:RL.Cl}:∀ (es':RL.Es) {C:CC} {X:Cx} (h:XOk C X cl) (es:List Expr),iF C es' es=true->SEs X cl es es'/\dC es'=es.length/\es.all noStar=true
 | .nil,C,X,h,es,z=>by
  have z:es=[]:=List.isEmpty_iff.mp z;subst z;exact⟨dz,rfl,rfl⟩
 | .cons e' es',C,X,h,es,z=>by
  cases es with
  | nil=>cases z
  |cons e es=>
   obtain⟨z,z3⟩:=ag z;obtain⟨z1,z2⟩:=ag z;obtain⟨q1,q2,q3⟩:=eu es' h es z3;exact⟨bY ((au e' h e).1 z2) q1 z1,by rw[dC,q2,List.length_cons],by rw[List.all_cons,z1,q3];rfl⟩
theorem f9{cl:RL.Cl}:∀ (it:RL.It) {C:CC} {X:Cx} (h:XOk C X cl) (tg e:Expr),nV C it tg e=true->SI X cl tg e it
 | .seq a,C,X,h,tg,e,z=>yx ((au a h e).1 z)
 | .rng1 a,C,X,h,tg,e,z=>by
  have z:(bW C e "range" fun ys=>of1 ys fun y=>chk C false a y)=true:=z;obtain⟨p,as,pos,rfl,b1,b2,z3,z4⟩:=bL h z;obtain⟨y,rfl,z4⟩:=aS z4;exact za b1 b2 ((au a h y).1 z4) (all1 z3)
 | .rng3 c a b,C,X,h,tg,e,z=>by
  have z:(bW C e "range" fun ys=>of3 ys fun y z q=>gd c q&&chk C false a y&&chk C false b z)=true:=z;obtain⟨p,as,pos,rfl,b1,b2,z3,z4⟩:=bL h z;obtain⟨y,u,q,rfl,z4⟩:=rM z4;obtain⟨z4,z6⟩:=ag z4;obtain⟨z4,z5⟩:=ag z4;exact yh b1 b2 ((au a h y).1 z5) ((au b h u).1 z6) (lh z3).1 (lh z3).2.1 z4
 | .enm a,C,X,h,tg,e,z=>by
  obtain⟨z0,zz⟩:=ag z;obtain⟨ts,z0⟩:=Option.isSome_iff_exists.mp z0;obtain⟨k,tp,rfl⟩:=cx z0;obtain⟨p,as,pos,rfl,b1,b2,z3,z4⟩:=bL h zz;obtain⟨y,rfl,z4⟩:=aS z4;exact yi b1 b2 ((au a h y).1 z4) (all1 z3)
 | .zip a b,C,X,h,tg,e,z=>by
  obtain⟨z0,zz⟩:=ag z;obtain⟨ts,z0⟩:=Option.isSome_iff_exists.mp z0;obtain⟨k,tp,rfl⟩:=cx z0;obtain⟨p,as,pos,rfl,b1,b2,z3,z4⟩:=bL h zz;obtain⟨y,u,rfl,z4⟩:=cj z4;exact PI'.calm (t9 b1 b2 ((au a h y).1 (ag z4).1) ((au b h u).1 (ag z4).2) (all2 z3).1 (all2 z3).2)
theorem xF{cl:RL.Cl}:∀ (it:RL.It) {C:CC} {X:Cx} (h:XOk C X cl) (tg e:Expr),nV C it tg e=true->qo it=true->PI' (fun _=>True) X tg e (tI X.K cl it)
 | .zip a b,C,X,h,tg,e,z,_=>by
  obtain⟨z0,zz⟩:=ag z;obtain⟨ts,z0⟩:=Option.isSome_iff_exists.mp z0;obtain⟨k,tp,rfl⟩:=cx z0;obtain⟨p,as,pos,rfl,b1,b2,z3,z4⟩:=bL h zz;obtain⟨y,u,rfl,z4⟩:=cj z4;exact t9 b1 b2 ((au a h y).1 (ag z4).1) ((au b h u).1 (ag z4).2) (all2 z3).1 (all2 z3).2
 | .seq _,C,X,h,tg,e,z,w=>by cases w
 | .rng1 _,C,X,h,tg,e,z,w=>by cases w
 | .rng3 _ _ _,C,X,h,tg,e,z,w=>by cases w
 | .enm _,C,X,h,tg,e,z,w=>by cases w
end
abbrev eG:Expr->Bool
 | .ListComp _ _ _ _=>false
 | .SetComp _ _ _ _=>false
 | .DictComp _ _ _ _ _=>false
 | _=>true
abbrev nK:Expr->Bool
 | .Tuple vs _ _=>vs.all (foldedForSure 8)
 | _=>true
abbrev qf(e:Expr):Bool:=match e with
 | .SetComp _ _ _ _=>false
 | .DictComp _ _ _ _ _=>false
 | _=>true
abbrev qr(C:CC)(x y:Str)(px py:Pos)(a b:Expr):Bool :=
 C.sc.kind == .function&&C.sc.names.lookup x == some .local&&C.sc.names.lookup y == some .local&&px.line == py.line && !(x == y)&&noStar a&&noStar b && !(foldedForSure 8 a&&foldedForSure 8 b) && !(constantsAlone 8 a&&constantsAlone 8 b)
abbrev pb(M:List Nat):RL.E->Bool
 | .var i=>M.contains i
 | _=>false
abbrev iV:Expr->Option (Str × Pos)
 | .Name x p=>some (x,p)
 | _=>none
def gv{e:Expr}{x:Str}{p:Pos}(h:iV e=some (x,p)):e=.Name x p:=by
 cases e
 case Name=>cases h;rfl
 all_goals exact nos h
abbrev rl(C:CC)(i:Nat)(nm:Str)(e:Expr)(f:List Expr->Bool):Bool:=(f7 e).any fun q=>(ml q.1).any (fun a=>jJ C i a.1&&a.2.1 == nm&&a.2.2.endLine == q.2.2.2.line)&&q.2.2.1.isEmpty&&f q.2.1
abbrev mR(C:CC):List Expr->RL.Es->Bool
 | [],ps=>match ps with
  | .nil=>true
  | _=>false
 | v::vs,ps=>match kS v with
  | some (.str y)=>decide (y.length<=3000)&&mR C vs ps
  | some _=>false
  | none=>(Ae v).any fun q=>q.2.1 == -1&&q.2.2.isNone&&match ps with
   | .cons e es=>chk C false e q.1&&mR C vs es
   | .nil=>false
abbrev B2:Const->Bool
 | .str _=>true
 | _=>false
abbrev isNil:RL.Es->Bool
 | .nil=>true
 | _=>false
abbrev wa(C:CC)(ps:RL.Es)(a:Expr):Bool:=((kS a).any B2&&isNil ps) || (xf a).any fun vs=>decide (2<=vs.length)&&decide (vs.length<=100)&&mR C vs ps
abbrev qt(C:CC)(c:Str):Bool:=C.Xr.contains c || C.Xi.contains c
mutual
noncomputable def uK(C:CC)(M:List Nat):RL.S->Stmt->Bool
 | .asg i e'=>fun st=>(iZ st).any fun q=>of1 q.1 fun t=>eL C i t && !M.contains i&&qf q.2&&chk C false e' q.2&&(C.calm || eG q.2)
 | .own i e'=>fun st=>(iZ st).any fun q=>of1 q.1 fun t=>eL C i t&&M.contains i&&decide (M.count i<2)&&qf q.2&&chk C false e' q.2&&(C.calm || eG q.2)
 | .unp is e'=>fun st=>(iZ st).any fun q=>of1 q.1 fun t=>(fJ t).any fun ts=>jx C is ts&&is.all (fun i=>!M.contains i)&&nK q.2&&chk C false e' q.2
 | .par i j a' b'=>fun st=>(iZ st).any fun q=>of1 q.1 fun t=>(fJ t).any fun ts=>of2 ts fun s u=>(iV s).any fun x=>(iV u).any fun y=>(fJ q.2).any fun vs=>of2 vs fun a b=>nmB C i x.1&&nmB C j y.1 && !(i == j) && !M.contains i && !M.contains j&&qr C x.1 y.1 x.2 y.2 a b&&chk C false a' a&&chk C false b' b&&C.calm
 | .parL i j a' b'=>fun st=>C.calm&&((iZ st).any fun q=>of1 q.1 fun t=>(fJ t).any fun ts=>of2 ts fun s u=>(iV s).any fun x=>(iV u).any fun y=>(fJ q.2).any fun vs=>of2 vs fun a b=>nmB C i x.1&&nmB C j y.1 && !(i == j) && !M.contains i && !M.contains j&&qr C x.1 y.1 x.2 y.2 a b&&chk C false a' a&&chk C false b' b)
 | .star i j e'=>fun st=>C.calm&&((iZ st).any fun q=>of1 q.1 fun t=>(fJ t).any fun ts=>of2 ts fun s u=>(wY u).any fun y=>eL C i s&&eL C j y && !M.contains i && !M.contains j&&nK q.2&&chk C false e' q.2)
 | .app i e'=>fun st=>(vQ st).any fun e=>rl C i "append" e fun as=>of1 as fun y=>M.contains i&&noStar y&&chk C false e' y
 | .ife c' a' b'=>fun st=>(wIf st).any fun q=>chk C true c' q.1&&cH C M a' q.2.1&&cH C M b' q.2.2
 | .forr tg it b'=>fun st=>(Al st).any fun q=>q.2.2.2.isEmpty&&nV C it q.1 q.2.1&&ku C tg q.1&&jS q.2.1&&RL.oy M it&&tg.all (fun i=>!M.contains i)&&cH C M b' q.2.2.1&&C.calm
 | .ret e'=>fun st=>(vn st).any fun o=>o.any fun e=>chk C false e' e
 | .exc e'=>fun st=>(vQ st).any fun e=>eG e&&chk C false e' e
 | .rais c ps=>fun st=>(oC st).any fun q=>C.calm&&C.Xr.contains c&&(glB C c&&(RL.dE c).isNone)&&q.2.isNone&&q.1.any fun e=>(f7 e).any fun u=>(c5 u.1).any (fun x=>x == c)&&u.2.2.1.isEmpty&&of1 u.2.1 fun a=>noStar a&&wa C ps a
 | .raiI c e'=>fun st=>(oC st).any fun q=>C.calm&&C.Xi.contains c&&(glB C c&&(RL.dE c).isNone)&&q.2.isNone&&q.1.any fun e=>(f7 e).any fun u=>(c5 u.1).any (fun x=>x == c)&&u.2.2.1.isEmpty&&of1 u.2.1 fun a=>noStar a&&chk C false e' a
 | .try2 b c i hh c2 hh2=>fun st=>(Aa st).any fun q=>C.calm&&q.2.2.1.isEmpty&&q.2.2.2.isEmpty&&(qt C c&&bQ.contains c&&glB C c)&&(qt C c2&&bQ.contains c2&&glB C c2) && !M.contains i&&of2 q.2.1 (fun hd hd2=>((fm hd).1.any (fun t=>(c5 t).any fun x=>x == c)&&(fm hd).2.1.any (fun n=>nmB C i n&&C.sc.names.lookup n == some .local) && !(fm hd).2.2.isEmpty&&cH { C with calm:=false } M hh (fm hd).2.2)&&((fm hd2).1.any (fun t=>(c5 t).any fun x=>x == c2)&&(fm hd2).2.1 == (fm hd).2.1 && !(fm hd2).2.2.isEmpty&&cH { C with calm:=false } M hh2 (fm hd2).2.2))&&cH C M b q.1
noncomputable def cH(C:CC)(M:List Nat):RL.Ss->List Stmt->Bool
 | .nil=>fun xs=>xs.isEmpty
 | .cons s r=>fun xs=>match xs with
  | x::xs=>uK C M s x&&cH C M r xs
  | []=>false
 | .act i g tbl a' es=>fun xs=>C.calm&&(of2 xs fun s1 s2=>(iZ s1).any fun q=>of1 q.1 (fun t=>eL C i t&&jJ C i t)&&(oq q.2).any (fun u=>(c5 u.1).any (fun x=>x == g&&glB C x&&C.W.lookup x == some tbl)&&mK u.2&&chk C false a' u.2)&&(vn s2).any fun o=>o.any fun e=>(f7 e).any fun c=>jJ C i c.1&&c.2.2.1.isEmpty && !c.2.1.isEmpty&&iF C es c.2.1)
 | .opn _ _ _=>fun _=>false
end
structure YOk(C:CC)(X:Cx)(cl:RL.Cl):Prop extends XOk C X cl where
 fn:∀ x,X.fn x=true
 st:X.stack=X.env::X.outer/\X.env.frame=some X.env.locals/\X.ex=[]
 fnx:∀ (f:Nat) (x:Str),C.calm=true->C.F[f]?=some (x,[])->∃ k fa fd ps,cu X.prog X.w X.K X.mg X.base (CXE X.prog X.w) k fa fd ps (spX X.K cl f)/\bB k X.A/\X.mg x=some (.ref fa)/\PySem.W.keepIn X.K (.ref fa)=true/\Binds X.K fd ps []
structure ROk(C:CC)(X:Cx)(cl:RL.Cl)(EX:L2.St->XK):Prop where
 y:YOk C X.nox cl
 cal:C.calm=true
 pass:∀ pins σ H s e s',Inv X pins σ H s->CXE X.prog X.w X.stack H s (EX σ) e s'->X.xe e s'
 made:∀ pins σ H s h' e C vs,Inv X pins σ H s->Heap.MadeExcOf s.heap h' e (.ref C) vs->EX σ (.ref C) none H->X.xe (.ref e) { s with heap:=h' }
 uN:∀ pins σ H s C i e od H' s',Inv X pins σ H s->mF X H s C (some i) e od H' s'->EX σ (.ref C) od H'->X.xe (.ref e) s'
 own:PassesOwn (model X.prog X.w) X.A X.env X.xe
section
variable{C:CC}{X:Cx}{cl:RL.Cl}{M:List Nat}{st:Stmt}{e:Expr}{e' k':RL.E}{i:Nat}
def fK{t:Option Expr}{l:Nat}{env:Env}(h:eG e=true):swapsWith e t l env=pure false:=by
 cases e<;>first | rfl | (cases h;done)
def wH{t:Expr}{spos:Pos}(hcal:(C.calm || eG e)=true)(h:YOk C X cl)(hn:eL C i t=true)(ha:qf e=true)(hc:chk C false e' e=true):SA X cl (.Assign [t] e spos) i e':=by
 obtain⟨y,py,rfl,hN,hl⟩:=dP h.toXOk hn
 have plain:swapsWith e (some (.Name y py)) spos.line X.env=pure false->SA X cl (.Assign [.Name y py] e spos) i e':=fun z =>
  wd h.ndX hN hl ((au e' h.toXOk e).1 hc) (.inl (h.fn y)) z trivial
 by_cases hcomp:eG e=true
 ·exact plain (fK hcomp)
 ·have hcm:X.calm=true:=h.calm (by simpa[hcomp]using hcal)
  have:∃ elt gens scope p,e=.ListComp elt gens scope p:=by
   cases e<;>first | exact absurd rfl hcomp | exact Bool.noConfusion ha | exact⟨_,_,_,_,rfl⟩
  obtain⟨elt,gens,scope,p,rfl⟩:=this;have hsw:swapsWith (.ListComp elt gens scope p) (some (.Name y py)) spos.line X.env=pure (X.env.blockKind == .function&&X.env.kindOf y == some .local&&py.line == p.line && !(scope.names.any fun(n,k)=>n == y&&(k == .local || k == .cell))):=rfl;by_cases hb:(X.env.blockKind == .function&&X.env.kindOf y == some .local&&py.line == p.line && !(scope.names.any fun(n,k)=>n == y&&(k == .local || k == .cell)))=true
  ·have hy:X.env.scope.names.lookup y=some .local:=by
    obtain⟨q,_⟩:=ag (ag hb).1;have q2:=(ag q).2;rw[beq_iff_eq]at q2;exact q2
   rw[hb]at hsw;by_cases hk:∃ d tg it c,e'=.comp d tg it c
   ·obtain⟨d,tg,it,c,rfl⟩:=hk;obtain⟨⟨tgE,iter,ifs,asy⟩,y1,z⟩:=aS hc;have y1:gens=[⟨tgE,iter,ifs,asy⟩]:=y1;obtain⟨w,y2,z⟩:=aS z;have y2:ifs=[w]:=y2;obtain⟨z,zc⟩:=ag z;obtain⟨z,z8⟩:=ag z;obtain⟨z,z7⟩:=ag z;obtain⟨z,z6⟩:=ag z;obtain⟨z,z5⟩:=ag z;obtain⟨z,z4⟩:=ag z;obtain⟨z,z3⟩:=ag z;obtain⟨z,z2⟩:=ag z;obtain⟨z0,z1⟩:=ag z;rw[beq_iff_eq]at z0;have w0:asy=0:=z0;subst y1 w0;subst y2;refine uS hcm h.ndX hN hy (by rw[h.scope];exact kc z1) (f9 it h.toXOk _ _ z6) ?_ (dn z3 _) hsw;exact⟨fun cls Ca fp s H=>kf h.toXOk z5 z4,fun cls Ca fp s H pins s' σ H' Q I q=>lS ((au c (h.toXOk.blk cls Ca fp s H) _).2 z8).1 I q,fun cls Ca fp s H=>(au d (h.toXOk.blk cls Ca fp s H) _).1 z7,fun i x hx hl=>ic z2 i x (by rw[<-h.names];exact hx) hl⟩
   ·by_cases hk2:∃ d tg it,e'=.compA d tg it
    ·obtain⟨d,tg,it,rfl⟩:=hk2;obtain⟨⟨tgE,iter,ifs,asy⟩,y1,z⟩:=aS hc;have y1:gens=[⟨tgE,iter,ifs,asy⟩]:=y1;obtain⟨z,zc⟩:=ag z;obtain⟨z,z7⟩:=ag z;obtain⟨z,z6⟩:=ag z;obtain⟨z,z5⟩:=ag z;obtain⟨z,z4⟩:=ag z;obtain⟨z,z3⟩:=ag z;obtain⟨z,z2⟩:=ag z;obtain⟨z,z1⟩:=ag z;obtain⟨y2,z0⟩:=ag z;rw[beq_iff_eq]at z0;have w0:asy=0:=z0
     have w2:ifs=[]:=by rw[List.isEmpty_iff]at y2;exact y2
     subst y1 w0;subst w2;refine vC hcm h.ndX hN hy (by rw[h.scope];exact kc z1) (f9 it h.toXOk _ _ z6) ?_ (dn z3 _) hsw;exact⟨fun cls Ca fp s H=>kf h.toXOk z5 z4,fun cls Ca fp s H pins s' σ H' Q I q=>lG I q,fun cls Ca fp s H=>(au d (h.toXOk.blk cls Ca fp s H) _).1 z7,fun i x hx hl=>ic z2 i x (by rw[<-h.names];exact hx) hl⟩
    ·cases e'<;>first | exact Bool.noConfusion hc | exact absurd ⟨_,_,_,_,rfl⟩ hk | exact absurd ⟨_,_,_,rfl⟩ hk2 | (obtain⟨_,hc⟩:=ag hc;exact Bool.noConfusion hc) | (rename_i b a;cases b<;>(obtain⟨_,hc⟩:=ag hc;exact Bool.noConfusion hc))
  ·have hb':=Bool.not_eq_true _▸hb;rw[hb']at hsw;exact plain hsw
def kC{is:List Nat}(h:is.all (fun i=>!M.contains i)=true):∀ i∈is,M.contains i=false:=fun i hi=>by
 rw[List.all_eq_true]at h;simpa using h i hi
def eW{b:Bool}(h:(!b)=true):b=false:=by simpa using h
def yo{nm:Str}{f:List Expr->Bool}(h:XOk C X cl)(z:rl C i nm e f=true):∃ x p apos as pos,e=.Call (.Attribute (.Name x p) nm apos) as [] pos/\X.N[i]?=some x/\Vis X.env.scope x/\(x == ("__debug__" : Str))=false/\(x == ("__classdict__" : Str))=false/\(apos.endLine == pos.line)=true/\f as=true:=by
 unfold rl at z;obtain⟨⟨g,as,ks,pos⟩,z0,z⟩:=aq z;have e0:=dk z0;obtain⟨z,z3⟩:=ag z;obtain⟨z1,z2⟩:=ag z;obtain⟨⟨o,a,apos⟩,y0,z1⟩:=aq z1;have e1:=jC y0;have e1:g=.Attribute o a apos:=e1;obtain⟨z1,y3⟩:=ag z1;obtain⟨y1,y2⟩:=ag z1;rw[beq_iff_eq]at y2;have y2:a=nm:=y2
 have w2:ks=[]:=by rw[List.isEmpty_iff]at z2;exact z2
 obtain⟨x,p,e2,g1,g2,g3,g4⟩:=gX h y1;have e2:o=.Name x p:=e2;rw[e1,w2,y2,e2]at e0;exact⟨x,p,apos,as,pos,e0,g1,g2,g3,g4,y3,z3⟩
def iY{us:List Expr}{kk:Nat}{tp:Pos}{env:Env}(h:nK e=true):swappedStores [.Tuple us kk tp] e env=pure none:=by
 cases e with
 |Tuple vs k p=>
  have h:vs.all (foldedForSure 8)=true:=h;unfold swappedStores;dsimp only;split
  ·rfl
  ·split
   ·rfl
   ·split
    ·rfl
    ·first | rfl | (rw[if_pos h];rfl)
 | _=>rfl
def rP{x y:Str}{px py pt pt2:Pos}{kt k2:Nat}{a b:Expr}(h:XOk C X cl)(hp:qr C x y px py a b=true):swappedStores [.Tuple [.Name x px,.Name y py] kt pt] (.Tuple [a,b] k2 pt2) X.env=pure (some [x,y]) /\
  X.env.scope.names.lookup x=some .local/\X.env.scope.names.lookup y=some .local/\noStar a=true/\noStar b=true:=by
 unfold qr at hp;obtain⟨hp,h9⟩:=ag hp;obtain⟨hp,h8⟩:=ag hp;obtain⟨hp,h7⟩:=ag hp;obtain⟨hp,h6⟩:=ag hp;obtain⟨hp,h5⟩:=ag hp;obtain⟨hp,h4⟩:=ag hp;obtain⟨hp,h3⟩:=ag hp;obtain⟨h1,h2⟩:=ag hp;rw[beq_iff_eq]at h1 h2 h3 h4;rw[<-h.scope]at h1 h2 h3;refine⟨?_,h2,h3,h6,h7⟩
 have bk:X.env.blockKind=.function:=by
  unfold Env.blockKind;rw[h1];rfl
 have k1:X.env.kindOf x=some .local:=h2;have k2:X.env.kindOf y=some .local:=h3
 have hxy:x≠y:=by simpa using h5
 have fs':foldedForSure 8 a=true->foldedForSure 8 b=false:=fun z=>by simpa[z]using h8
 have ca':constantsAlone 8 a=true->constantsAlone 8 b=false:=fun z=>by simpa[z]using h9
 have ed:[x,y].eraseDups=[x,y]:=by
  rw[List.eraseDups_cons];simp[Ne.symm hxy];rfl
 unfold swappedStores;simp only[bk];simp[show ∀ (x:Str) (p:Pos),(Expr.Name x p).pos=p from fun _ _=>rfl,k1,k2,h4,ed];refine(if_neg ?_).trans ((if_neg ?_).trans (if_neg ?_))
 ·intro hh;rcases hh with hh | hh
  ·cases a<;>first | exact Bool.noConfusion (show false=true from hh) | exact Bool.noConfusion (show false=true from h6)
  ·cases b<;>first | exact Bool.noConfusion (show false=true from hh) | exact Bool.noConfusion (show false=true from h7)
 ·intro hh;have:=fs' hh.1;rw[hh.2]at this;cases this
 ·intro hh;have:=ca' hh.1;rw[hh.2]at this;cases this
end
section
variable{cl:RL.Cl}
def yp{X:Cx}{C:CC}{EX:L2.St->XK}{x:Str}{f:Nat}{p pos:Pos}{y:Expr}{ys:List Expr}{es:RL.Es}(h:ROk C X cl EX)(hg:glB C x=true)(hf:C.F[f]?=some (x,[]))(he:SEs X.nox cl (y::ys) es)(ha:RA X EX cl (y::ys) es)(hn:noStar y=true)(hns:ys.all noStar=true) :
  RE X EX cl (.Call (.Name x p) (y::ys) [] pos) (.call f es):=by
 obtain⟨k,fa,fd,ps,F,hr,hm,hk,hb⟩:=h.y.fnx f x h.cal hf;obtain⟨g1,g2⟩:=h.y.gl hg;exact yU F hr g1 hm hk hb h.pass (PA.nox he) ha (bw g2).1 hn hns
mutual
theorem fD:∀ (e':RL.E) {X:Cx} {C:CC} {EX:L2.St->XK} (h:ROk C X cl EX) (e:Expr),chk C false e' e=true->RE X EX cl e e'
 | .call f es,X,C,EX,h,e,z=>by
  obtain⟨zc,z⟩:=ag z;obtain⟨⟨g,as,ks,p⟩,z0,z⟩:=aq z;have z0:=dk z0;subst z0;obtain⟨z,z4⟩:=ag z;obtain⟨z,z3⟩:=ag z;obtain⟨z1,z2⟩:=ag z;obtain⟨x,y0,z1⟩:=aq z1;obtain⟨q,e0⟩:=bG y0;have e0:g=.Name x q:=e0;obtain⟨y1,y2⟩:=ag z1;rw[beq_iff_eq]at y2
  have w2:ks=[]:=by rw[List.isEmpty_iff]at z2;exact z2
  subst e0 w2;obtain⟨q1,q2,q3⟩:=eu es h.y.toXOk _ z4;have ha:=lM es h _ z4;dsimp only at z3 q1 q2 q3 ha
  cases as with
  | nil=>cases z3
  |cons y ys=>
   rw[List.all_cons]at q3;exact yp h y1 y2 q1 ha (ag q3).1 (ag q3).2
 | .ix a b,X,C,EX,h,e,z=>by
  obtain⟨⟨l,r⟩,z0,z⟩:=aq z;obtain⟨p,rfl⟩:=gE z0;obtain⟨z,z3⟩:=ag z;obtain⟨z1,z2⟩:=ag z;exact PE.weak (xi uG (fD a h l z2) (PE.nox ((au b h.y.toXOk r).1 z3)) (pT z1)) fun σ H Q q=>q
 | .var _,X,C,EX,h,e,z=>bo fun _=>rfl
 | .cst _,X,C,EX,h,e,z=>bo fun _=>rfl
 | .glb _ _,X,C,EX,h,e,z=>bo fun _=>rfl
 | .bin _ _ _,X,C,EX,h,e,z=>bo fun _=>rfl
 | .cmp _ _ _,X,C,EX,h,e,z=>bo fun _=>rfl
 | .chain _ _ _ _ _,X,C,EX,h,e,z=>bo fun _=>rfl
 | .isN _ _,X,C,EX,h,e,z=>bo fun _=>rfl
 | .inn _ _ _,X,C,EX,h,e,z=>bo fun _=>rfl
 | .and _ _,X,C,EX,h,e,z=>bo fun _=>rfl
 | .or _ _,X,C,EX,h,e,z=>bo fun _=>rfl
 | .not _,X,C,EX,h,e,z=>bo fun _=>rfl
 | .tup _,X,C,EX,h,e,z=>bo fun _=>rfl
 | .lst _,X,C,EX,h,e,z=>bo fun _=>rfl
 | .slT _ _,X,C,EX,h,e,z=>bo fun _=>rfl
 | .slF _ _,X,C,EX,h,e,z=>bo fun _=>rfl
 | .bi _ _,X,C,EX,h,e,z=>bo fun _=>rfl
 | .max _ _,X,C,EX,h,e,z=>bo fun _=>rfl
 | .min _ _,X,C,EX,h,e,z=>bo fun _=>rfl
 | .isi _ _,X,C,EX,h,e,z=>bo fun _=>rfl
 | .rng1 _,X,C,EX,h,e,z=>bo fun _=>rfl
 | .rng3 _ _ _,X,C,EX,h,e,z=>bo fun _=>rfl
 | .neg _,X,C,EX,h,e,z=>bo fun _=>rfl
 | .comp _ _ _ _,X,C,EX,h,e,z=>bo fun _=>rfl
 | .compA _ _ _,X,C,EX,h,e,z=>bo fun _=>rfl
 | .join _,X,C,EX,h,e,z=>bo fun _=>rfl
 | .isx _ _,X,C,EX,h,e,z=>bo fun _=>rfl
 | .fld _,X,C,EX,h,e,z=>bo fun _=>rfl
 | .frz _,X,C,EX,h,e,z=>bo fun _=>rfl
 | .cat _ _,X,C,EX,h,e,z=>bo fun _=>rfl
 | .inG _ _ _,X,C,EX,h,e,z=>bo fun _=>rfl
theorem lM:∀ (es':RL.Es) {X:Cx} {C:CC} {EX:L2.St->XK} (h:ROk C X cl EX) (es:List Expr),iF C es' es=true->RA X EX cl es es'
 | .nil,X,C,EX,h,es,z=>zy
 | .cons e' es',X,C,EX,h,es,z=>by
  cases es with
  | nil=>cases z
  |cons e es=>
   obtain⟨z,z3⟩:=ag z;obtain⟨z1,z2⟩:=ag z;exact zb (PE.nox ((au e' h.y.toXOk e).1 z2)) (fD e' h e z2) (lM es' h es z3) (aC es z1)
end
section
variable{X:Cx}{C:CC}{EX:L2.St->XK}{M:List Nat}
def yF{X:Cx}{st:Stmt}{c:Str}{ps:RL.Es}:SS X cl M st (.rais c ps):=fun pins s σ H D I ⟨σD,r,σD',_,e,_⟩=>by
 cases e
def sX{t e:Expr}{spos:Pos}{i:Nat}{e':RL.E}{s:RL.S}(h:ROk C X cl EX)(hn:eL C i t=true)(ha:qf e=true)(hc:chk C false e' e=true)(he:∀ σD,RL.iL cl M s σD=(RL.evX cl σD e').map fun x=>(x,σD)):RZ X EX cl M (.Assign [t] e spos) s:=by
 obtain⟨y,py,rfl,hN,hl⟩:=dP h.y.toXOk hn;by_cases hcomp:eG e=true
 ·exact mi (nB (X:=X) h.y.ndX hN hl (fD e' h e hc) (fK hcomp) (.inl (h.y.fn y))) he
 ·refine jl fun σD=>?_;rw[he]
  have:∃ elt gens scope p,e=.ListComp elt gens scope p:=by
   cases e<;>first | exact absurd rfl hcomp | exact Bool.noConfusion ha | exact⟨_,_,_,_,rfl⟩
  obtain⟨elt,gens,scope,p,rfl⟩:=this
  cases e' with
  |call f es=>
   obtain⟨_,z⟩:=ag hc;exact Bool.noConfusion z
  | ix a b=>exact Bool.noConfusion hc
  | _=>rfl
abbrev tW(K:PySem.W.Frag)(cl:RL.Cl):RL.Es->TA
 | .nil=>iD
 | .cons e es=>sv (tE K cl e) (tW K cl es)
def wQ{K:PySem.W.Frag}{σD:RL.St}{σ:L2.St}:∀ {ps:RL.Es} {ds:List RL.D} {H:Hp} {Q:List V->Hp->Prop},RV0 K σD σ H->RL.evs cl σD ps=some ds->ds.all RL.written=true->(∀ vs H1,aD H H1->Q vs H1)->tW K cl ps σ H Q
 | .nil,ds,H,Q,rv,e,w,k=>k [] H (aD.refl _)
 | .cons p ps,ds,H,Q,rv,e,w,k=>by
  rw[RL.evs]at e;obtain⟨d,e1,e⟩:=bind_some e;obtain⟨ds',e2,e3⟩:=map_some e;subst e3;rw[List.all_cons,Bool.and_eq_true]at w
  cases d with
  |int i=>
   refine⟨σD,.int i,rv,e1,fun v H1 r1=>⟨i,ar r1.rep,by simpa[RL.written]using w.1,wQ (rv.same r1.same) e2 w.2 fun vs H2 sm=>k vs H2 (r1.same.trans sm)⟩⟩
  | _=>cases w.1
def ky{X:Cx}(h:XOk C X cl):∀ {vs:List Expr} {ps:RL.Es},mR C vs ps=true->PJ X vs (tW X.K cl ps)
 | [],.nil,z=>su
 | [],.cons _ _,z=>by cases z
 | v::vs,ps,z=>by
  rw[mR]at z;split at z
  ·rename_i y hv;obtain⟨j,p,rfl⟩:=gY hv;obtain⟨z1,z2⟩:=ag z;exact kZ (ky h z2) (by simpa using z1)
  ·cases z
  ·obtain⟨⟨e,cv,sp⟩,z0,z⟩:=aq z;obtain⟨p,rfl⟩:=yV z0;obtain⟨z,z3⟩:=ag z;obtain⟨z1,z2⟩:=ag z;rw[beq_iff_eq]at z1;have y1:cv=-1:=z1;have y2:sp=none:=eC z2;clear z1 z2 z z0;subst y1 y2
   cases ps with
   | nil=>cases z3
   |cons q qs=>
    obtain⟨z4,z5⟩:=ag z3;exact uv ((au q h e).1 z4) (ky h z5)
def uI{c:Str}{ps:RL.Es}{a:Expr}{np cpos pos:Pos}(h:ROk C X cl EX)(z1:C.calm=true)(z2:C.Xr.contains c=true)(z3:(glB C c&&(RL.dE c).isNone)=true)(hn:noStar a=true)(z4:wa C ps a=true):RZ X EX cl M (.Raise (some (.Call (.Name c np) [a] [] cpos)) none pos) (.rais c ps):=by
 obtain⟨D,d1,d2,d3⟩:=h.y.cls c z2;obtain⟨z3,zf⟩:=Bool.and_eq_true_iff.mp z3;have zf:RL.dE c=none:=Option.isNone_iff_eq_none.mp zf;obtain⟨g1,g2⟩:=h.y.gl z3
 have key:∀ {ta:TE},PE X a ta->(∀ σD σ H ds (Q:VK),RV0 X.K σD σ H->RL.evs cl σD ps=some ds->ds.all RL.written=true->(∀ v H1,aD H H1->Q v H1)->ta σ H Q)->RZ X EX cl M (.Raise (some (.Call (.Name c np) [a] [] cpos)) none pos) (.rais c ps):=fun {ta} pe rd=>by
  intro pins s σ H Dn I q;refine PS.weak (v8 (np:=np) (cpos:=cpos) (pos:=pos) (I.ok.hd.1 (h.y.calm z1)) g1 d1 (bw g2).1 d3 (fun pins σ H s h' e vs I m q=>h.made pins σ H s h' e D vs I m q) (ba pe cA (aC [] hn)) (aC [] hn)) (fun Dn σ H q=>?_) pins s σ H Dn I q;obtain⟨σD,x,σD',rv,e,k⟩:=q;obtain⟨ds,e1,e2⟩:=bind_some e;obtain⟨hw,e2⟩:=bq e2;cases e2
  exact rd σD σ H ds _ rv.rv0 e1 hw fun v H1 sm=>⟨by show 1<=sizeLine;decide,k σ H1 D none ⟨by rw[RL.xY zf];exact d2,by rw[zf];rfl⟩ (rv.same sm) (Fr'.same sm)⟩
 unfold wa at z4;rcases Bool.or_eq_true_iff.mp z4 with z | z
 ·obtain⟨w1,w2⟩:=ag z;obtain⟨kk,q0,q⟩:=aq w1;obtain⟨j,p,rfl⟩:=gY q0
  cases kk with
  | str y=>exact key oz fun σD σ H ds Q rv e w k=>k _ H (aD.refl _)
  | _=>cases q
 ·obtain⟨vs,q0,z⟩:=aq z;obtain⟨p,rfl⟩:=wj q0;obtain⟨z,w3⟩:=ag z;obtain⟨w1,w2⟩:=ag z;rw[decide_eq_true_eq]at w1 w2
  match vs,w1,w2,w3 with
  |v::v2::vs,_,w2,w3=>
   exact key (PE.nox (ly (ky h.y.toXOk w3) (by simp at w2;omega))) fun σD σ H ds Q rv e w k=>wQ rv e w fun vs H1 sm x=>k _ H1 sm
def xQ{X:Cx}{st:Stmt}{c:Str}{e':RL.E}:SS X cl M st (.raiI c e'):=fun pins s σ H D I ⟨σD,r,σD',_,e,_⟩=>by
 cases e
def yZ{c:Str}{e':RL.E}{a:Expr}{np cpos pos:Pos}(h:ROk C X cl EX)(z1:C.calm=true)(z2:C.Xi.contains c=true)(z3:(glB C c&&(RL.dE c).isNone)=true)(hn:noStar a=true)(z4:chk C false e' a=true):RZ X EX cl M (.Raise (some (.Call (.Name c np) [a] [] cpos)) none pos) (.raiI c e'):=by
 obtain⟨D,R,fI,fd,d1,d2,d3,d4,d5,d6⟩:=h.y.cli c z2;obtain⟨z3,zf⟩:=Bool.and_eq_true_iff.mp z3;obtain⟨g1,g2⟩:=h.y.gl z3;refine PS.weak (rW (EX:=EX) (np:=np) (cpos:=cpos) (pos:=pos) d3 d4 (d5 z1) d6 g1 d1 (bw g2).1 (fun pins σ H s i e od H' s' I nx q=>h.uN pins σ H s D i e od H' s' I nx q) (ba (PE.nox ((au e' h.y.toXOk a).1 z4)) cA (aC [] hn)) (aC [] hn)) fun Dn σ H q=>?_;obtain⟨σD,x,σD',rv,e,k⟩:=q;obtain⟨y,e1,e2⟩:=map_some (show((RL.ev cl σD e').bind (RL.vD c)).map (fun x=>(x,σD))=some (x,σD')from e);cases e2;obtain⟨d,e4,e3⟩:=bind_some e1
 cases d with
 |int i=>
  obtain⟨⟨hi,hw⟩,rfl⟩:=bq (show(if 0<=i/\RL.written (.int i)=true then some (RL.mkR c i.toNat)else none)=some x from e3);refine⟨σD,.int i,rv.rv0,e4,fun v H1 r1=>⟨i.toNat,?_,?_,fun od H' hf sm=>k σ H' D od ⟨by rw[RL.yH];exact d2,by rw[RL.uA];exact hf⟩ (rv.same (r1.same.trans sm)) (Fr'.same (r1.same.trans sm))⟩⟩
  ·rw[ar r1.rep,Int.toNat_of_nonneg hi]
  ·have:=of_decide_eq_true hw;lia
 | _=>cases e3
end
def YOk.zd{C:CC}{X:Cx}(h:YOk C X cl){c:Str}(z:qt C c=true):∃ D,X.mg c=some (.ref D)/\Cls X.K c D:=by
 unfold qt at z;rcases Bool.or_eq_true_iff.mp z with z | z
 ·obtain⟨D,d1,d2,_⟩:=h.cls c z;exact⟨D,d1,d2⟩
 ·obtain⟨D,R,fI,fd,d1,d2,_⟩:=h.cli c z;exact⟨D,d1,d2⟩
def YOk.rok{C:CC}{X:Cx}(h:YOk C X cl)(pn:List (Addr × Obj))(E:Value->Shared->Prop)(EX:L2.St->XK)(hc:C.calm=true)(ou:vS (CxX X pn E) EX)(ow:PassesOwn (model X.prog X.w) X.A X.env E):ROk C (CxX X pn E) cl EX where
 y:={ scope:=h.scope,names:=h.names,nd:=h.nd,calm:=h.calm,xe:=rfl,hu:=h.hu,blt:=h.blt,glb:=h.glb,fns:=h.fns,gds:=h.gds,hfn:=h.hfn,cls:=h.cls,cli:=h.cli,ref:=h.ref,fn:=h.fn,st:=h.st,fnx:=h.fnx }
 cal:=hc
 pass:=ou.1
 made:=ou.2.1
 uN:=ou.2.2
 own:=ow
def YOk.bj{C:CC}{X:Cx}(h:YOk C X cl)(e:Addr)(oe:Obj):YOk { C with calm:=false } (X.bj e oe) cl where
 scope:=h.scope
 names:=h.names
 nd:=h.nd
 calm:=fun z=>nomatch z
 xe:=h.xe
 hu:=h.hu
 blt:=h.blt
 glb:=h.glb
 fns:=fun _ _ _ z=>nomatch z
 gds:=h.gds
 hfn:=fun f x a b=>by
  obtain⟨k,fa,fd,ps,F,hr,r⟩:=h.hfn f x a b;exact⟨k,fa,fd,ps,F,⟨hr.dp,hr.un⟩,r⟩
 cls:=h.cls
 cli:=fun c hc=>let ⟨D,R,fI,fd,d1,d2,d3,d4,d5,d6⟩:=h.cli c hc;⟨D,R,fI,fd,d1,d2,d3,d4,(fun z=>nomatch z),d6⟩
 ref:=h.ref
 fn:=h.fn
 st:=h.st
 fnx:=fun _ _ z=>nomatch z
end
section
variable{cl:RL.Cl}
mutual
theorem pV:∀ (s:RL.S) {X:Cx} {C:CC} {M:List Nat} (h:YOk C X cl) (st:Stmt),uK C M s st=true->SS X cl M st s
 | .asg i e',X,C,M,h,st,z=>by
  obtain⟨⟨ts,e⟩,z0,z⟩:=aq z;obtain⟨p,rfl⟩:=cT z0;obtain⟨t,y1,z⟩:=aS z;have y1:ts=[t]:=y1;obtain⟨z,zc⟩:=ag z;obtain⟨z,z4⟩:=ag z;obtain⟨z,z3⟩:=ag z;obtain⟨z1,z2⟩:=ag z;subst y1;exact zO (wH zc h z1 z3 z4) (eW z2)
 | .own i e',X,C,M,h,st,z=>by
  obtain⟨⟨ts,e⟩,z0,z⟩:=aq z;obtain⟨p,rfl⟩:=cT z0;obtain⟨t,y1,z⟩:=aS z;have y1:ts=[t]:=y1;obtain⟨z,zc⟩:=ag z;obtain⟨z,z5⟩:=ag z;obtain⟨z,z4⟩:=ag z;obtain⟨z,z3⟩:=ag z;obtain⟨z1,z2⟩:=ag z;subst y1;exact Bt (wH zc h z1 z4 z5) z2 (by simpa using z3)
 | .unp is e',X,C,M,h,st,z=>by
  obtain⟨⟨ts,e⟩,z0,z⟩:=aq z;obtain⟨p,rfl⟩:=cT z0;obtain⟨t,y1,z⟩:=aS z;have y1:ts=[t]:=y1;obtain⟨us,y2,z⟩:=aq z;obtain⟨k,tp,rfl⟩:=cx y2;obtain⟨z,z4⟩:=ag z;obtain⟨z,z3⟩:=ag z;obtain⟨z1,z2⟩:=ag z;subst y1;obtain⟨g1,g2,g3⟩:=jh h.toXOk (T:=is) (fun i x _ _=>.inl (h.fn x)) (fun _ h=>h) z1;refine y9 (nS ((au e' h.toXOk e).1 z4) (ng (la g1 g2 g3) (kY g1 g2 g3)) ?_ (iY z3) rfl) (kC z2);cases e<;>rfl
 | .par i j a' b',X,C,M,h,st,z=>by
  obtain⟨⟨ts,e⟩,z0,z⟩:=aq z;obtain⟨p,rfl⟩:=cT z0;obtain⟨t,y1,z⟩:=aS z;have y1:ts=[t]:=y1;obtain⟨us,y2,z⟩:=aq z;obtain⟨k,tp,e2⟩:=cx y2;obtain⟨s1,s2,y3,z⟩:=cj z;obtain⟨⟨x,px⟩,y4,z⟩:=aq z;obtain⟨⟨y,py⟩,y5,z⟩:=aq z;obtain⟨vs,y6,z⟩:=aq z;obtain⟨k',tp',e6⟩:=cx y6;have e6:e=.Tuple vs k' tp':=e6;obtain⟨a,b,y7,w⟩:=cj z;rw[gv y4,gv y5]at y3;rw[y3]at e2
  have e7:e=.Tuple [a,b] k' tp':=by rw[<-y7];exact e6
  rw[e2]at y1;subst y1 e7;obtain⟨w,zc⟩:=ag w;obtain⟨w,z8⟩:=ag w;obtain⟨w,z7⟩:=ag w;obtain⟨w,z6⟩:=ag w;obtain⟨w,z5⟩:=ag w;obtain⟨w,z4⟩:=ag w;obtain⟨w,z3⟩:=ag w;obtain⟨z1,z2⟩:=ag w;obtain⟨g1,g2,g3,g4,g5⟩:=rP h.toXOk z6;exact Bx (ue (h.calm zc) h.ndX (h.nm z1).1 (h.nm z2).1 (by simpa using z3) g2 g3 (bY (cl:=cl) ((au a' h.toXOk a).1 z7) (bY ((au b' h.toXOk b).1 z8) dz g5) g4) g1 rfl) (eW z4) (eW z5)
 | .parL i j a' b',X,C,M,h,st,z=>by
  obtain⟨zc,z⟩:=ag z;obtain⟨⟨ts,e⟩,z0,z⟩:=aq z;obtain⟨p,rfl⟩:=cT z0;obtain⟨t,y1,z⟩:=aS z;have y1:ts=[t]:=y1;obtain⟨us,y2,z⟩:=aq z;obtain⟨k,tp,e2⟩:=cx y2;obtain⟨s1,s2,y3,z⟩:=cj z;obtain⟨⟨x,px⟩,y4,z⟩:=aq z;obtain⟨⟨y,py⟩,y5,z⟩:=aq z;obtain⟨vs,y6,z⟩:=aq z;obtain⟨k',tp',e6⟩:=cx y6;have e6:e=.Tuple vs k' tp':=e6;obtain⟨a,b,y7,w⟩:=cj z;rw[gv y4,gv y5]at y3;rw[y3]at e2
  have e7:e=.Tuple [a,b] k' tp':=by rw[<-y7];exact e6
  rw[e2]at y1;subst y1 e7;obtain⟨w,z8⟩:=ag w;obtain⟨w,z7⟩:=ag w;obtain⟨w,z6⟩:=ag w;obtain⟨w,z5⟩:=ag w;obtain⟨w,z4⟩:=ag w;obtain⟨w,z3⟩:=ag w;obtain⟨z1,z2⟩:=ag w;obtain⟨g1,g2,g3,g4,g5⟩:=rP h.toXOk z6;exact yf (ue (h.calm zc) h.ndX (h.nm z1).1 (h.nm z2).1 (by simpa using z3) g2 g3 (ba ((au a' h.toXOk a).1 z7) (ba ((au b' h.toXOk b).1 z8) cA (aC [] g5)) (aC [b] g4)) g1 rfl) (eW z4) (eW z5)
 | .star i j e',X,C,M,h,st,z=>by
  obtain⟨zc,z⟩:=ag z;obtain⟨⟨ts,e⟩,z0,z⟩:=aq z;obtain⟨p,rfl⟩:=cT z0;obtain⟨t,y1,z⟩:=aS z;have y1:ts=[t]:=y1;obtain⟨us,y2,z⟩:=aq z;obtain⟨k,tp,e2⟩:=cx y2;obtain⟨s,u,y3,z⟩:=cj z;obtain⟨y,y4,z⟩:=aq z;obtain⟨sp,e4⟩:=vM y4;obtain⟨z,z6⟩:=ag z;obtain⟨z,z5⟩:=ag z;obtain⟨z,z4⟩:=ag z;obtain⟨z,z3⟩:=ag z;obtain⟨z1,z2⟩:=ag z;obtain⟨x1,p1,e5,n1,l1⟩:=dP h.toXOk z1;obtain⟨x2,p2,e6,n2,l2⟩:=dP h.toXOk z2;rw[e4,e5,e6]at y3;rw[y3]at e2;rw[e2]at y1;subst y1;refine yv (nS ((au e' h.toXOk e).1 z6) (yu (h.calm zc) (jy h.ndX n1 l1 (.inl (h.fn x1))) (jy h.ndX n2 l2 (.inl (h.fn x2)))) ?_ (iY z5) rfl) (eW z3) (eW z4);cases e<;>rfl
 | .app i e',X,C,M,h,st,z=>by
  obtain⟨e,z0,z8⟩:=aq z;obtain⟨p0,rfl⟩:=kD z0;obtain⟨x,p,apos,as,pos,rfl,g1,g2,g3,g4,z6,z7⟩:=yo h.toXOk z8;obtain⟨y,rfl,z9⟩:=aS z7;obtain⟨z9,z7⟩:=ag z9;obtain⟨z4,z5⟩:=ag z9;refine AY (jo (xn PySem.F.plainAttrs_list PySem.F.slot_list_append PySem.F.type_list_append l7 (gO g1 g2 g3 g4) (bY (cl:=cl) ((au e' h.toXOk y).1 z7) dz z5) rfl ?_ z6 (aC [] z5) rfl) rfl) z4;rw[aC [] z5];rfl
 | .ife c' a' b',X,C,M,h,st,z=>by
  obtain⟨⟨c,a,b⟩,z0,z⟩:=aq z;obtain⟨p,rfl⟩:=sI z0;obtain⟨z,z3⟩:=ag z;obtain⟨z1,z2⟩:=ag z;exact BV ((au c' h.toXOk c).2 z1).1 (cD a' h a z2) (cD b' h b z3)
 | .forr tg it b',X,C,M,h,st,z=>by
  obtain⟨⟨t,it',b,o⟩,z0,z⟩:=aq z;obtain⟨p,rfl⟩:=oQ z0;obtain⟨z,zc⟩:=ag z;obtain⟨z,z7⟩:=ag z;obtain⟨z,z6⟩:=ag z;obtain⟨z,z5⟩:=ag z;obtain⟨z,z4⟩:=ag z;obtain⟨z,z3⟩:=ag z;obtain⟨z1,z2⟩:=ag z;have z1:o=[]:=List.isEmpty_iff.mp z1;subst z1;exact zQ h.xe (h.calm zc) (f9 it h.toXOk t it' z2) (nX h.toXOk (fun i x _ _=>.inl (h.fn x)) z3) (cD b' h b z7) (dn z4 _) z5 (kC z6)
 | .ret e',X,C,M,h,st,z=>by
  obtain⟨o,z0,z⟩:=aq z;obtain⟨p,rfl⟩:=kA z0;obtain⟨e,rfl,zz⟩:=aq z;by_cases hv:pb M e'=true
  ·have:∃ i,e'=.var i:=by
    cases e'<;>first | exact⟨_,rfl⟩ | exact Bool.noConfusion hv
   obtain⟨i,rfl⟩:=this;obtain⟨x,q,rfl,g1,g2,g3,g4⟩:=gX h.toXOk zz;exact xv g1 g2 g3 g4 hv
  ·exact zi ((au e' h.toXOk e).1 zz) fun i hi=>by
    subst hi;simpa[pb]using hv
 | .exc e',X,C,M,h,st,z=>by
  obtain⟨e,z0,z⟩:=aq z;obtain⟨p0,rfl⟩:=kD z0;obtain⟨z1,z2⟩:=ag z;exact BI (jo ((au e' h.toXOk e).1 z2) (fK z1))
 | .rais _ _,X,C,M,h,st,z=>yF
 | .raiI _ _,X,C,M,h,st,z=>xQ
 | .try2 b c i hh c2 hh2,X,C,M,h,st,z=>by
  obtain⟨⟨bd,hs,oe,fi⟩,z0,z⟩:=aq z;obtain⟨p,rfl⟩:=xR z0;obtain⟨z,z9⟩:=ag z;obtain⟨z,z8⟩:=ag z;obtain⟨z,z7⟩:=ag z;obtain⟨z,z6⟩:=ag z;obtain⟨z,z5⟩:=ag z;obtain⟨z,z3⟩:=ag z;obtain⟨z1,z2⟩:=ag z;obtain⟨z5,a3⟩:=ag z5;obtain⟨a1,a2⟩:=ag z5;obtain⟨z6,b3⟩:=ag z6;obtain⟨b1,b2⟩:=ag z6;have v2:oe=[]:=List.isEmpty_iff.mp z2;have v3:fi=[]:=List.isEmpty_iff.mp z3;obtain⟨hd,hd2,y1,z8⟩:=cj z8;have v1:hs=[hd,hd2]:=y1;obtain⟨ht,hn,hb,hp⟩:=hd;obtain⟨ht2,hn2,hb2,hp2⟩:=hd2;obtain⟨w,w'⟩:=ag z8;obtain⟨w,w4⟩:=ag w;obtain⟨w,w3⟩:=ag w;obtain⟨w1,w2⟩:=ag w;obtain⟨te,q1,w5⟩:=aq w1;have u1:ht=some te:=q1;obtain⟨x,q2,w6⟩:=aq w5;obtain⟨np,q4⟩:=bG q2;rw[beq_iff_eq]at w6;obtain⟨n,q3,w7⟩:=aq w2;have u3:hn=some n:=q3;obtain⟨n1,n2⟩:=ag w7;rw[beq_iff_eq]at n2;obtain⟨w',x4⟩:=ag w';obtain⟨w',x3⟩:=ag w';obtain⟨x1,x2⟩:=ag w';obtain⟨te2,r1,x5⟩:=aq x1;have u4:ht2=some te2:=r1;obtain⟨x',r2,x6⟩:=aq x5;obtain⟨np2,r4⟩:=bG r2;rw[beq_iff_eq]at x6 x2;have u5:hn2=hn:=x2;have z9:cH C M b bd=true:=z9;have w4:cH { C with calm:=false } M hh hb=true:=w4;have w3:(!hb.isEmpty)=true:=w3;have x4:cH { C with calm:=false } M hh2 hb2=true:=x4;have x3:(!hb2.isEmpty)=true:=x3;clear z2 z3 y1 q1 q3 z0 z w1 w5 q2 x1 x5 r2 r1 x2;subst v2 v3 u1 u4 u5 u3 q4 r4 w6 x6
  cases hb with
  | nil=>cases w3
  |cons b0 bj=>
   cases hb2 with
   | nil=>cases x3
   |cons b0' suite'=>
    subst v1;obtain⟨R,r1,r2⟩:=h.zd a1;obtain⟨R',r1',r2'⟩:=h.zd b1;refine yE h.xe h.st.1 h.st.2.1 h.st.2.2 (cD b h bd z9) (fun pn E EX ou ow=>dQ b (h.rok pn E EX z1 ou ow) bd z9) (fun e oe=>cD hh (h.bj e oe) (b0::bj) w4) r2 (by simpa using a2) (h.gl a3).1 r1 (bw (h.gl a3).2).1 (fun e oe=>cD hh2 (h.bj e oe) (b0'::suite') x4) r2' (by simpa using b2) (h.gl b3).1 r1' (bw (h.gl b3).2).1 h.ndX (h.nm n1).1 (by rw[h.scope];exact n2) (eW z7)
theorem cD:∀ (s:RL.Ss) {X:Cx} {C:CC} {M:List Nat} (h:YOk C X cl) (st:List Stmt),cH C M s st=true->SSs X cl M st s
 | .nil,X,C,M,h,st,z=>by
  have z:st=[]:=List.isEmpty_iff.mp z;subst z;exact yy
 | .cons s r,X,C,M,h,st,z=>by
  cases st with
  | nil=>cases z
  |cons x xs=>
   obtain⟨z1,z2⟩:=ag z;exact wo (pV s h x z1) (cD r h xs z2)
 | .act i g tbl a' es,X,C,M,h,st,z=>by
  obtain⟨zc,z⟩:=ag z;obtain⟨s1,s2,rfl,z⟩:=cj z;obtain⟨⟨ts,v⟩,z0,z⟩:=aq z;obtain⟨p,rfl⟩:=cT z0;obtain⟨z,z3⟩:=ag z;obtain⟨z1,z2⟩:=ag z;obtain⟨t,y1,z1⟩:=aS z1;have y1:ts=[t]:=y1;subst y1;obtain⟨z1,z1'⟩:=ag z1;obtain⟨n,np,rfl,n1,l1⟩:=dP h.toXOk z1;obtain⟨n',np',e1,m1,m2,m3,m4⟩:=gX h.toXOk z1';cases e1;obtain⟨⟨o,k⟩,y2,z2⟩:=aq z2;obtain⟨sp,e2⟩:=gE y2;have e2:v=.Subscript o k sp:=e2;subst e2;obtain⟨z2,w3⟩:=ag z2;obtain⟨w1,w2⟩:=ag z2;obtain⟨x,y3,w1⟩:=aq w1;obtain⟨gp,rfl⟩:=bG y3;obtain⟨w1,w6⟩:=ag w1;obtain⟨w4,w5⟩:=ag w1;rw[beq_iff_eq]at w4 w6;subst w4;obtain⟨ro,y4,b1⟩:=aq z3;obtain⟨rp,rfl⟩:=kA y4;obtain⟨ce,rfl,b2⟩:=aq b1;obtain⟨⟨f,as,ks,cpos⟩,y5,b3⟩:=aq b2;have e5:=dk y5;subst e5;obtain⟨b3,u4⟩:=ag b3;obtain⟨b3,u3⟩:=ag b3;obtain⟨u1,u2⟩:=ag b3;obtain⟨n2,cp,e6,k1,k2,k3,k4⟩:=gX h.toXOk u1;have e6:f=.Name n2 cp:=e6;subst e6
  have en:n2=n:=by
   have q:=k1;rw[n1]at q;exact(Option.some.inj q).symm
  subst en
  have e7:ks=[]:=by rw[List.isEmpty_iff]at u2;exact u2
  subst e7
  cases as with
  | nil=>cases u3
  |cons e0 es0=>
   obtain⟨q1,_,q3⟩:=eu es h.toXOk (e0::es0) u4;rw[List.all_cons]at q3;obtain⟨q2,q3⟩:=ag q3;obtain⟨d,kvs,d1,d2,d3,d4⟩:=h.gds x tbl w6;obtain⟨g1,g2⟩:=h.gl w5;refine yI h.ndX n1 l1 k2 k3 k4 (.inl (h.fn _)) ((au a' h.toXOk k).1 w3) (uy w2) g1 d1 (bw g2).1 d2 (fun y m e=>?_) q1 q2 q3 (fK rfl);obtain⟨q,nm,f1,f2,f3⟩:=d4 y m e;obtain⟨kk,fa,fd,ps,F,hr,hm,hk,hb⟩:=h.fns m nm [] zc f2;rw[if_pos rfl]at F;rw[f3]at hm;cases hm;exact⟨q,kk,fd,ps,f1,F,hr,hk,hb⟩
 | .opn _ _ _,X,C,M,h,st,z=>by cases z
theorem vI:∀ (s:RL.S) {X:Cx} {C:CC} {M:List Nat} {EX:L2.St->XK} (h:ROk C X cl EX) (st:Stmt),uK C M s st=true->RZ X EX cl M st s
 | .asg i e',X,C,M,EX,h,st,z=>by
  obtain⟨⟨ts,e⟩,z0,z⟩:=aq z;obtain⟨p,rfl⟩:=cT z0;obtain⟨t,y1,z⟩:=aS z;have y1:ts=[t]:=y1;obtain⟨z,zc⟩:=ag z;obtain⟨z,z4⟩:=ag z;obtain⟨z,z3⟩:=ag z;obtain⟨z1,z2⟩:=ag z;subst y1;exact sX h z1 z3 z4 (fun _=>rfl)
 | .own i e',X,C,M,EX,h,st,z=>by
  obtain⟨⟨ts,e⟩,z0,z⟩:=aq z;obtain⟨p,rfl⟩:=cT z0;obtain⟨t,y1,z⟩:=aS z;have y1:ts=[t]:=y1;obtain⟨z,zc⟩:=ag z;obtain⟨z,z5⟩:=ag z;obtain⟨z,z4⟩:=ag z;obtain⟨z,z3⟩:=ag z;obtain⟨z1,z2⟩:=ag z;subst y1;exact sX h z1 z4 z5 (fun _=>rfl)
 | .unp is e',X,C,M,EX,h,st,z=>by
  obtain⟨⟨ts,e⟩,z0,z⟩:=aq z;obtain⟨p,rfl⟩:=cT z0;obtain⟨t,y1,z⟩:=aS z;have y1:ts=[t]:=y1;obtain⟨us,y2,z⟩:=aq z;obtain⟨k,tp,rfl⟩:=cx y2;obtain⟨z,z4⟩:=ag z;obtain⟨z,z3⟩:=ag z;obtain⟨z1,z2⟩:=ag z;subst y1;obtain⟨g1,g2,g3⟩:=jh h.y.toXOk (T:=is) (fun i x _ _=>.inl (h.y.fn x)) (fun _ h=>h) z1;refine mi (nS (fD e' h e z4) (PG.nox (ng (la g1 g2 g3) (kY g1 g2 g3))) ?_ (iY z3) rfl) fun _=>rfl;cases e<;>rfl
 | .exc e',X,C,M,EX,h,st,z=>by
  obtain⟨e,z0,z⟩:=aq z;obtain⟨p0,rfl⟩:=kD z0;obtain⟨z1,z2⟩:=ag z;exact mi (jo (fD e' h e z2) (fK z1)) fun _=>rfl
 | .ret e',X,C,M,EX,h,st,z=>by
  obtain⟨o,z0,z⟩:=aq z;obtain⟨p,rfl⟩:=kA z0;obtain⟨e,rfl,zz⟩:=aq z;exact mi (g:=fun D _=>D.rt) (jR (fD e' h e zz)) fun _=>rfl
 | .ife c' a' b',X,C,M,EX,h,st,z=>by
  obtain⟨⟨c,a,b⟩,z0,z⟩:=aq z;obtain⟨p,rfl⟩:=sI z0;obtain⟨z,z3⟩:=ag z;obtain⟨z1,z2⟩:=ag z;exact C9 (PT.nox ((au c' h.y.toXOk c).2 z1).1) (dQ a' h a z2) (dQ b' h b z3)
 | .forr tg it b',X,C,M,EX,h,st,z=>by
  obtain⟨⟨t,it',b,o⟩,z0,z⟩:=aq z;obtain⟨p,rfl⟩:=oQ z0;obtain⟨z,zc⟩:=ag z;obtain⟨z,z7⟩:=ag z;obtain⟨z,z6⟩:=ag z;obtain⟨z,z5⟩:=ag z;obtain⟨z,z4⟩:=ag z;obtain⟨z,z3⟩:=ag z;obtain⟨z1,z2⟩:=ag z;have z1:o=[]:=List.isEmpty_iff.mp z1;subst z1;exact zL h.own (h.y.calm zc) (PI.nox (f9 it h.y.toXOk t it' z2)) (PG.nox (nX h.y.toXOk (fun i x _ _=>.inl (h.y.fn x)) z3)) (PSs.nox (cD b' h.y b z7)) (dQ b' h b z7) (dn z4 _) z5 (kC z6)
 | .rais c ps,X,C,M,EX,h,st,z=>by
  obtain⟨⟨eo,co⟩,z0,z⟩:=aq z;obtain⟨p,rfl⟩:=l3 z0;obtain⟨z,z5⟩:=ag z;obtain⟨z,z4⟩:=ag z;obtain⟨z,z3⟩:=ag z;obtain⟨z1,z2⟩:=ag z;have z4:co=none:=eC z4;obtain⟨e,q1,z5⟩:=aq z5;have q1:eo=some e:=q1;obtain⟨⟨g,as,ks,cp⟩,w0,w⟩:=aq z5;have w0:=dk w0;obtain⟨w,w3⟩:=ag w;obtain⟨w1,w2⟩:=ag w;obtain⟨x,q2,w1⟩:=aq w1;obtain⟨np,q3⟩:=bG q2;have q3:g=.Name x np:=q3;rw[beq_iff_eq]at w1;subst w1;have w2:ks=[]:=List.isEmpty_iff.mp w2;obtain⟨a,q4,w3⟩:=aS w3;have q4:as=[a]:=q4;obtain⟨w3,w4⟩:=ag w3;rw[q3,w2,q4]at w0;subst w0 z4 q1;exact uI h z1 z2 z3 w3 w4
 | .raiI c e',X,C,M,EX,h,st,z=>by
  obtain⟨⟨eo,co⟩,z0,z⟩:=aq z;obtain⟨p,rfl⟩:=l3 z0;obtain⟨z,z5⟩:=ag z;obtain⟨z,z4⟩:=ag z;obtain⟨z,z3⟩:=ag z;obtain⟨z1,z2⟩:=ag z;have z4:co=none:=eC z4;obtain⟨e,q1,z5⟩:=aq z5;have q1:eo=some e:=q1;obtain⟨⟨g,as,ks,cp⟩,w0,w⟩:=aq z5;have w0:=dk w0;obtain⟨w,w3⟩:=ag w;obtain⟨w1,w2⟩:=ag w;obtain⟨x,q2,w1⟩:=aq w1;obtain⟨np,q3⟩:=bG q2;have q3:g=.Name x np:=q3;rw[beq_iff_eq]at w1;subst w1;have w2:ks=[]:=List.isEmpty_iff.mp w2;obtain⟨a,q4,w3⟩:=aS w3;have q4:as=[a]:=q4;obtain⟨w3,w4⟩:=ag w3;rw[q3,w2,q4]at w0;subst w0 z4 q1;exact yZ h z1 z2 z3 w3 w4
 | .par _ _ _ _,X,C,M,EX,h,st,z=>jl fun _=>rfl
 | .parL _ _ _ _,X,C,M,EX,h,st,z=>jl fun _=>rfl
 | .star _ _ _,X,C,M,EX,h,st,z=>jl fun _=>rfl
 | .app _ _,X,C,M,EX,h,st,z=>jl fun _=>rfl
 | .try2 _ _ _ _ _ _,X,C,M,EX,h,st,z=>jl fun _=>rfl
theorem dQ:∀ (s:RL.Ss) {X:Cx} {C:CC} {M:List Nat} {EX:L2.St->XK} (h:ROk C X cl EX) (st:List Stmt),cH C M s st=true->RZs X EX cl M st s
 | .nil,X,C,M,EX,h,st,z=>yR
 | .opn j e' r,X,C,M,EX,h,st,z=>xI
 | .act _ _ _ _ _,X,C,M,EX,h,st,z=>yS
 | .cons s r,X,C,M,EX,h,st,z=>by
  cases st with
  | nil=>cases z
  |cons x xs=>
   obtain⟨z1,z2⟩:=ag z;exact v9 (PS.nox (pV s h.y x z1)) (vI s h x z1) (dQ r h xs z2)
end
end
structure d9 where
 name:Str
 st:Stmt
 ps:List Str
 N:List Str
 h:Bool
structure PT' where
 B:List Str
 G:List (Str × Int)
 Ds:List d9
 T:List RL.Fn
 Xr:List Str
 Xs:List Str
 Xi:List Str
 W:List (Str × List (Str × Nat)):=[]
abbrev PT'.F(p:PT'):List (Str × List Nat):=(p.Ds.zip p.T).map fun q=>(q.1.name,q.2.mp)
abbrev PT'.hf(p:PT'):List Nat:=(List.range p.Ds.length).filter fun f=>(p.Ds[f]?).any (·.h)
abbrev PT'.cc(p:PT')(d:d9):CC:=⟨d.N,aF d.st,p.B,p.G,p.F,true,p.hf,p.Xr,p.Xs,p.Xi,p.W⟩
abbrev mW(N ps:List Str)(sc:Scope):Bool :=
 sc.kind == .function && !sc.isCoroutine && !sc.isGenerator&&decide N.Nodup&&N.take ps.length == ps&&ps.all (fun x=>sc.names.lookup x == some .local || sc.names.lookup x == some .cell)&&sc.names.all (fun y=>!(y.2 == .free))
abbrev fnB(p:PT')(d:d9)(fn:RL.Fn):Bool :=
 mW d.N d.ps (aF d.st)&&fn.ps == d.ps.length&&fn.nn == d.N.length&&decide (d.ps.length<=d.N.length)&&(List.range fn.ps).all (fun i=>!fn.M.contains i || fn.mp.contains i)&&fn.mp.all (fun i=>decide (i<fn.ps)&&decide (2<=fn.M.count i))&&cH (p.cc d) fn.M fn.body (bE d.st)&&(!d.h || cH { p.cc d with calm:=false } fn.M fn.body (bE d.st))
abbrev PT'.ok(p:PT'):Bool:=decide (p.T.length<=1000)&&p.Ds.length == p.T.length&&(p.Ds.zip p.T).all fun q=>fnB p q.1 q.2
def nz{N ps:List Str}{sc:Scope}(h:mW N ps sc=true):dS N ps sc:=by
 unfold mW at h;obtain⟨h,h7⟩:=ag h;obtain⟨h,h6⟩:=ag h;obtain⟨h,h5⟩:=ag h;obtain⟨h,h4⟩:=ag h;obtain⟨h,h3⟩:=ag h;obtain⟨h1,h2⟩:=ag h;refine⟨by simpa using h1,by simpa using h2,by simpa using h3,by simpa using h4,by simpa using h5,fun x hx=>?_,fun y hy=>?_⟩
 ·rw[List.all_eq_true]at h6;have:=h6 x hx;rw[Bool.or_eq_true,beq_iff_eq,beq_iff_eq]at this;exact this
 ·rw[List.all_eq_true]at h7;have:=h7 y hy;intro z;rw[z]at this;simp at this
structure qb(p:PT')(w:World)(K:PySem.W.Frag)(mg:Str->Option Value):Prop where
 defs:∀ (f:Nat) (d:d9),p.Ds[f]?=some d->∃ fa fd,mg d.name=some (.ref fa)/\Fun K d.name d.name d.st fa fd/\PySem.W.keepIn K (.ref fa)=true/\Binds K fd d.ps []
 blt:∀ x∈p.B,mg x=none
 glb:∀ x i,p.G.lookup x=some i->∃ u,mg x=some u/\RelV (.int i) u
 cls:∀ c,p.Xr.contains c=true->∃ D,mg c=some (.ref D)/\Cls K c D/\PySem.W.excIn K D VE "ValueError.__new__" = true
 cli:∀ c,p.Xi.contains c=true->∃ D R fI fd st qual,mg c=some (.ref D)/\Cls K c D/\dG K R D fI/\qI st/\Fun K "__init__" qual st fI fd/\mg "RibbonError" = some (.ref R)/\Binds K fd ["self", "at"] []
 ref:∀ c,p.Xs.contains c=true->∃ D,mg c=some (.ref D)/\PySem.W.nsIn K mainGlobals c=some (some (.ref D))
 gds:∀ x tbl,p.W.lookup x=some tbl->∃ (d:Addr) (kvs:List (Str × Addr)),mg x=some (.ref d)/\((d == sysModules)=false/\∀ (P:Program) (h:Heap),K.In h->h.DictOf (bp P w) d (kvs.map fun q=>((Sum.inr q.1:Key),Value.ref q.2)))/\kvs.map (·.1)=tbl.map (·.1)/\∀ y m,RL.fH tbl (.str y)=some m->∃ q nm,(kvs.find? fun q=>decide (q.1=y))=some q/\p.F[m]?=some (nm,[])/\mg nm=some (.ref q.2)
section
variable{p:PT'}{K:PySem.W.Frag}{mg:Str->Option Value}{base:Heap}{P:Program}{w:World}
abbrev kJ(K:PySem.W.Frag)(cl:RL.Cl)(mp:List Nat)(f:Nat):Sp:=if mp=[]then spF K cl f else spM K cl mp f
def bg{α:Type}(vs:List α)(k:Nat)(i:Nat)(v:α):(vs.map some++List.replicate k none)[i]?=some (some v)↔vs[i]?=some v:=by
 by_cases h:i<vs.length
 ·rw[List.getElem?_append_left (by simpa using h)];simp[h]
 ·rw[List.getElem?_append_right (by simpa using h)];constructor
  ·intro e;rw[List.getElem?_replicate]at e;split at e<;>cases e
  ·intro e;have:=(List.getElem?_eq_some_iff.mp e).1;lia
def oP{ds:List RL.D}{vs:List V}{H:Hp}{M:List Nat}{k n:Nat}(r:ai nP K H ds vs)(hM:∀ i,i<n->M.contains i=false)(hn:ds.length=n):RVm K M (ds.map some++List.replicate k none) (vs.map some++List.replicate k none) H:=by
 have nA:∀ a,¬ bz M (vs.map some++List.replicate k none) a:=fun a ⟨i,hi,e⟩=>by
  rw[bg]at e;have:=(List.getElem?_eq_some_iff.mp e).1;rw[hM i (by rw[<-hn,r.length];exact this)]at hi;cases hi
 refine⟨by simp[r.length],fun i d e=>?_,fun i v e=>?_,fun i j a hi hj e1 e2=>(nA a ⟨i,hi,e1⟩).elim⟩
 ·rw[bg]at e;obtain⟨v,h1,h2⟩:=r.get e;have hl:=(List.getElem?_eq_some_iff.mp e).1;refine⟨v,(bg _ _ _ _).mpr h1,?_⟩;rw[if_neg (by rw[hM i (by lia)];decide)];exact h2.weak fun a ha=>nA a ha
 ·rw[bg]at e;have hl:=(List.getElem?_eq_some_iff.mp e).1;exact⟨ds[i]'(by rw[r.length];exact hl),(bg _ _ _ _).mpr (by simp)⟩
def xN{ds:List RL.D}{vs:List V}{H:Hp}{M mp:List Nat}{k n:Nat}(a:Aq K mp ds vs H)(hM:∀ i,i<n->M.contains i=true->i∈mp)(hp:∀ i∈mp,M.contains i=true)(hn:ds.length=n):RVm K M (ds.map some++List.replicate k none) (vs.map some++List.replicate k none) H:=by
 have r:=a.vO
 have inM:∀ i v,(vs.map some++List.replicate k none)[i]?=some (some v)->M.contains i=true->i∈mp/\vs[i]?=some v:=fun i v e hi=>by
  rw[bg]at e;have:=(List.getElem?_eq_some_iff.mp e).1;exact⟨hM i (by rw[<-hn,r.length];exact this) hi,e⟩
 refine⟨by simp[r.length],fun i d e=>?_,fun i v e=>?_,fun i j b hi hj e1 e2=>?_⟩
 ·rw[bg]at e;obtain⟨v,h1,h2⟩:=r.get e;have hl:=(List.getElem?_eq_some_iff.mp e).1;refine⟨v,(bg _ _ _ _).mpr h1,?_⟩;by_cases hm:M.contains i=true
  ·rw[if_pos hm];obtain⟨d',b,g1,g2,g3⟩:=a.own i (hM i (by lia) hm);rw[e]at g1;cases g1;rw[h1]at g2;cases g2;exact g3
  ·rw[if_neg hm];refine(a.oth i d v (fun z=>hm (hp i z)) e h1).weak fun b ⟨j,hj,ej⟩=>?_;obtain⟨q1,q2⟩:=inM j _ ej hj;exact⟨j,q1,q2⟩
 ·rw[bg]at e;have hl:=(List.getElem?_eq_some_iff.mp e).1;exact⟨ds[i]'(by rw[r.length];exact hl),(bg _ _ _ _).mpr (by simp)⟩
 ·obtain⟨q1,q2⟩:=inM i _ e1 hi;obtain⟨q3,q4⟩:=inM j _ e2 hj;exact a.sep i q1 j q3 b q2 q4
def oi{σ:RL.St}:∀ {mp:List Nat} {outs:List RL.D},RL.gW σ mp=some outs->outs.length=mp.length/\∀ (k i:Nat) o,mp[k]?=some i->outs[k]?=some o->σ[i]?=some (some o)
 | [],outs,h=>by
  rw[RL.gW]at h;cases h;exact⟨rfl,fun k i o e=>by simp at e⟩
 | m::mp,outs,h=>by
  rw[RL.gW]at h;obtain⟨d,h1,h⟩:=bind_some h;obtain⟨os,h2,h3⟩:=map_some h;subst h3;obtain⟨g1,g2⟩:=oi h2;refine⟨by simp[g1],fun k i o e1 e2=>?_⟩
  cases k with
  |zero=>
   simp at e1 e2;subst e1 e2;exact slot_get h1
  | succ k=>exact g2 k i o (by simpa using e1) (by simpa using e2)
def rJ{fn:RL.Fn}{d r:RL.D}{σ:RL.St}(h:RL.bK fn d σ=some r)(hm:fn.mp=[]):r=d:=by
 unfold RL.bK at h;rw[hm]at h;simpa using h.symm
def AB{fn:RL.Fn}{d r:RL.D}{σ:RL.St}(h:RL.bK fn d σ=some r)(hm:fn.mp≠[]):d.imm=true/\∃ outs,RL.gW σ fn.mp=some outs/\r=.tup (d::outs):=by
 unfold RL.bK at h;rw[if_neg (by simpa using hm)]at h;split at h
 ·rename_i im;obtain⟨os,h1,h2⟩:=map_some h;exact⟨im,os,h1,h2.symm⟩
 ·cases h
structure FnB(p:PT')(d:d9)(fn:RL.Fn):Prop where
 sc:dS d.N d.ps (aF d.st)
 ps:fn.ps=d.ps.length
 nn:fn.nn=d.N.length
 hM:∀ i,i<fn.ps->fn.M.contains i=true->i∈fn.mp
 mp:∀ i∈fn.mp,i<fn.ps/\2<=fn.M.count i
 body:cH (p.cc d) fn.M fn.body (bE d.st)=true
 hb:d.h=true->cH { p.cc d with calm:=false } fn.M fn.body (bE d.st)=true
def AW{d:d9}{fn:RL.Fn}(hB:fnB p d fn=true):FnB p d fn:=by
 unfold fnB at hB;obtain⟨hB,b8⟩:=ag hB;obtain⟨hB,b7⟩:=ag hB;obtain⟨hB,b6⟩:=ag hB;obtain⟨hB,b5⟩:=ag hB;obtain⟨hB,b4⟩:=ag hB;obtain⟨hB,b3⟩:=ag hB;obtain⟨b1,b2⟩:=ag hB;rw[beq_iff_eq]at b2 b3;rw[List.all_eq_true]at b5 b6;refine⟨nz b1,b2,b3,fun i hi hm=>?_,fun i hi=>by simpa using b6 i hi,b7,fun hh=>by simpa[hh]using b8⟩;have:=b5 i (List.mem_range.mpr hi);rw[hm]at this;simpa using this
def u7{f:Nat}(h:p.hf.contains f=true):∃ d,p.Ds[f]?=some d/\d.h=true:=by
 unfold PT'.hf at h;rw[List.contains_iff_mem,List.mem_filter]at h;exact aq h.2
def um{cl:RL.Cl}{f:Nat}{d:d9}{fn:RL.Fn}{vs:List V}{H:Hp}{Q:VK}{ds:List RL.D}{r:RL.D}{o:RL.Out}{σ':RL.St}(B:FnB p d fn)(hmp:fn.mp=[])(r1:ai nP K H ds vs)(hlen:ds.length=fn.ps)(e2:(match o with | .nx=>RL.bK fn .non σ' | .rt d=>RL.bK fn d σ')=some r)(e1:RL.aw cl fn.M fn.body (ds.map some++List.replicate (fn.nn-fn.ps) none)=some (o,σ'))
 (k:∀ v H',aD H H'->Rep (fun p=>H p≠none) K H' r v->Q v H'):tS K fn.M (RL.aw cl fn.M fn.body) { nx:=fun _ H'=>Q .non H',rt:=Q } (start d.N vs) H:=by
 have hst:start d.N vs=vs.map some++List.replicate (d.N.length-vs.length) none:=rfl
 have hvl:vs.length=fn.ps:=by rw[<-r1.length];exact hlen
 refine⟨_,o,σ',?_,e1,?_⟩
 ·rw[hst,hvl,<-B.nn]
  exact oP r1 (fun i hi=>by
   cases hc:fn.M.contains i with
   | false=>rfl
   |true=>
    have:=B.hM i hi hc;rw[hmp]at this
    cases this) hlen
 ·have noA:∀ a,¬ bz fn.M (start d.N vs) a:=fun a ⟨i,hi,ei⟩=>by
   rw[hst,bg]at ei;have h3:=(List.getElem?_eq_some_iff.mp ei).1;have:=B.hM i (by lia) hi;rw[hmp]at this;cases this
  cases o with
  |nx=>
   have hr':=rJ (d:=.non) e2 hmp;subst hr';intro σ1 H1 rv1 fr1;refine k .non H1 (fun b u eb=>(fr1.1 b u eb (noA b)).1) (by rw[Rep])
  |rt d0=>
   have hr':=rJ (d:=d0) e2 hmp;subst hr';intro σ1 H1 v H' rv1 fr1 sm rp;refine k v H' (fun b u eb=>sm _ _ (fr1.1 b u eb (noA b)).1) (rp _ fun q hq=>?_);obtain⟨u,hu⟩:=Option.ne_none_iff_exists'.mp hq;have:=fr1.1 q u hu (noA q);exact⟨(by rw[this.1];exact fun z=>nomatch z),this.2⟩
def Ao{cl:RL.Cl}{d:d9}{fn:RL.Fn}{vs:List V}{H:Hp}{E:XK}{ds:List RL.D}{x:Str}{σ':RL.St}{D:Ends}(B:FnB p d fn)(hmp:fn.mp=[])(r1:ai nP K H ds vs)(hlen:ds.length=fn.ps)(e1:RL.bu cl fn.M fn.body (ds.map some++List.replicate (fn.nn-fn.ps) none)=some (x,σ'))
 (k:∀ C od H',CO K x C od H'->aD H H'->E (.ref C) od H'):tXS K fn.M (fun _=>E) (RL.bu cl fn.M fn.body) D (start d.N vs) H:=by
 have hst:start d.N vs=vs.map some++List.replicate (d.N.length-vs.length) none:=rfl
 have hvl:vs.length=fn.ps:=by rw[<-r1.length];exact hlen
 refine⟨_,x,σ',?_,e1,fun σ1 H1 C od hc rv1 fr1=>k C od H1 hc fun b u eb=>(fr1.1 b u eb fun⟨i,hi,ei⟩=>?_).1⟩
 ·rw[hst,hvl,<-B.nn]
  exact oP r1 (fun i hi=>by
   cases hc:fn.M.contains i with
   | false=>rfl
   |true=>
    have:=B.hM i hi hc;rw[hmp]at this
    cases this) hlen
 ·rw[hst,bg]at ei;have h3:=(List.getElem?_eq_some_iff.mp ei).1;have:=B.hM i (by lia) hi;rw[hmp]at this;cases this
structure D0(P:Program)(w:World)(K:PySem.W.Frag)(mg:Str->Option Value)(base:Heap)(p:PT')(n f:Nat)(d:d9)(fn:RL.Fn)(fa:Addr)(fd:FuncData):Prop where
 nor:cu P w K mg base CX0 (n+3) fa fd d.ps (kJ K (RL.ao p.T n) fn.mp f)
 ref:fn.mp=[]->cu P w K mg base (CXE P w) (n+3) fa fd d.ps (spX K (RL.ao p.T n) f)
 sui:d.h=true->fn.mp=[]->kn P w K mg base (n+3) fa fd d.ps (spF K (RL.ao p.T n) f)
def gG(hok:p.ok=true)(tp:qb p w K mg):∀ (n f:Nat) (d:d9) (fn:RL.Fn),p.Ds[f]?=some d->p.T[f]?=some fn->∀ fa fd,Fun K d.name d.name d.st fa fd->D0 P w K mg base p n f d fn fa fd
 | 0,f,d,fn,hd,hf,fa,fd,F=>by
  have no:∀ vs H Q E,¬ kJ K (RL.ao p.T 0) fn.mp f vs H Q E:=fun vs H Q E h=>by
   unfold kJ at h;split at h
   ·obtain⟨ds,r,_,e,_⟩:=h;cases e
   ·obtain⟨ds,r,o,e,_⟩:=h;cases e
  have noF:∀ vs H Q E,¬ spF K (RL.ao p.T 0) f vs H Q E:=fun vs H Q E h=>by
   obtain⟨ds,r,_,e,_⟩:=h;cases e
  have noX:∀ vs H Q E,¬ spX K (RL.ao p.T 0) f vs H Q E:=fun vs H Q E h=>by
   obtain⟨ds,r,_,e,_⟩:=h;cases e
  exact⟨⟨fun vs H Q E h=>(no vs H Q E h).elim,fun A outer s H args us vs Q E _ _ _ _ h=>(no vs H Q E h).elim⟩,fun _=>⟨fun vs H Q E h=>(noX vs H Q E h).elim,fun A outer s H args us vs Q E _ _ _ _ h=>(noX vs H Q E h).elim⟩,fun _ _=>⟨fun vs H Q h=>(noF vs H Q E0 h).elim,fun A outer s H us vs Q _ _ _ _ _ h=>(noF vs H Q E0 h).elim⟩⟩
 | n+1,f,d,fn,hd,hf,fa,fd,F=>by
  have hok':=hok;unfold PT'.ok at hok';obtain⟨hok',hall⟩:=ag hok';obtain⟨hT,hl⟩:=ag hok';rw[beq_iff_eq]at hl;rw[decide_eq_true_eq]at hT;rw[List.all_eq_true]at hall
  have hz:(p.Ds.zip p.T)[f]?=some (d,fn):=by
   rw[List.getElem?_zip_eq_some];exact⟨hd,hf⟩
  have B:=AW (hall (d,fn) (List.mem_of_getElem? hz))
  have unf:∀ ds r,RL.ao p.T (n+1) f ds=some r->ds.length=fn.ps/\∃ o σ',RL.aw (RL.ao p.T n) fn.M fn.body (ds.map some++List.replicate (fn.nn-fn.ps) none)=some (o,σ')/\(match o with | .nx=>RL.bK fn .non σ' | .rt d=>RL.bK fn d σ')=some r:=by
   intro ds r h;rw[RL.ao,hf]at h;dsimp only at h;split at h
   ·rename_i hlen;obtain⟨⟨o,σ'⟩,h1,h2⟩:=bind_some h;exact⟨hlen,o,σ',h1,h2⟩
   ·cases h
  have unx:∀ ds x,RL.clX (RL.ao p.T (n+1)) f ds=some x->ds.length=fn.ps/\fn.mp=[]/\∃ σ',RL.bu (RL.ao p.T n) fn.M fn.body (ds.map some++List.replicate (fn.nn-fn.ps) none)=some (x,σ'):=by
   intro ds x h;unfold RL.clX at h;obtain⟨r,h1,h2⟩:=bind_some h;have hT2:p.T[f+1000]?=none:=List.getElem?_eq_none_iff.mpr (by lia);rw[RL.ao,hT2]at h1;dsimp only at h1;rw[Nat.add_sub_cancel,hf]at h1;dsimp only[Option.bind_some]at h1;split at h1
   ·rename_i hlen;obtain⟨⟨y,σ'⟩,h3,h4⟩:=map_some h1;subst h4;cases h2;exact⟨hlen.1,hlen.2,σ',h3⟩
   ·cases h1
  have look:∀ {g:Nat} {x:Str} {mp:List Nat},p.F[g]?=some (x,mp)->∃ d' fn',p.Ds[g]?=some d'/\p.T[g]?=some fn'/\d'.name=x/\fn'.mp=mp:=fun {g x mp} hg=>by
   unfold PT'.F at hg;rw[List.getElem?_map]at hg;obtain⟨⟨d',fn'⟩,q1,q2⟩:=map_some hg;cases q2;rw[List.getElem?_zip_eq_some]at q1;exact⟨d',fn',q1.1,q1.2,rfl,rfl⟩
  have Y:∀ (CX:CXT) (E:XK) (cdv:Value) (A:Around) (outer:List Env) (s:Shared) (H:Hp),bB (n+3) (A.deeper (envOfC d.name (aF d.st) s.heap.objs.size fa cdv))->YOk (p.cc d) (fj CX P w K mg base d.N d.name (aF d.st) fa cdv A outer s H E).nox (RL.ao p.T n):=fun CX E cdv A outer s H hr=>{
   scope:=rfl
   names:=rfl
   nd:=B.sc.nd
   calm:=fun _=>rfl
   xe:=rfl
   hu:=by
    have:=hr.un;show(A.deeper _).units+100<cLine;lia
   blt:=tp.blt
   glb:=tp.glb
   gds:=fun x tbl hx=>let ⟨d,kvs,a,b,c⟩:=tp.gds x tbl hx;⟨d,kvs,a,⟨b.1,fun h q=>b.2 _ h q⟩,c⟩
   fns:=fun g x mp _ hg=>by
    obtain⟨d',fn',q1,q2,rfl,rfl⟩:=look hg;obtain⟨fa',fd',t1,t2,t3,t4⟩:=tp.defs g d' q1;exact⟨n+3,fa',fd',d'.ps,(gG hok tp n g d' fn' q1 q2 fa' fd' t2).nor,hr,t1,t3,t4⟩
   hfn:=fun g x hh hg=>by
    obtain⟨d',fn',q1,q2,rfl,q3⟩:=look hg;obtain⟨d2,q4,q5⟩:=u7 hh;rw[q1]at q4;cases q4;obtain⟨fa',fd',t1,t2,t3,t4⟩:=tp.defs g d' q1;exact⟨n+3,fa',fd',d'.ps,(gG hok tp n g d' fn' q1 q2 fa' fd' t2).sui q5 q3,hr.h,t1,t3,t4⟩
   cls:=tp.cls
   cli:=fun c hc=>let ⟨D,R,fI,fd,st,qual,a1,a2,a3,a4,a5,a6,a7⟩:=tp.cli c hc;⟨D,R,fI,fd,a1,a2,a3,pk a3 a4 a5 a6,fun _=>hr.mono (by lia),a7⟩
   ref:=tp.ref
   fn:=fun _=>rfl
   st:=⟨rfl,rfl,rfl⟩
   fnx:=fun g x _ hg=>by
    obtain⟨d',fn',q1,q2,rfl,q3⟩:=look hg;obtain⟨fa',fd',t1,t2,t3,t4⟩:=tp.defs g d' q1
    exact⟨n+3,fa',fd',d'.ps,(gG hok tp n g d' fn' q1 q2 fa' fd' t2).ref q3,hr,t1,t3,t4⟩ }
  refine⟨?_,fun hmp=>?_,fun hh hmp=>?_⟩
  ·refine Fun.ok F B.sc (fun vs H Q E h=>?_) fun cdv A outer s H vs Q E hr h=>?_
   ·unfold kJ at h;split at h
    ·obtain⟨ds,r,r1,e,_⟩:=h;rw[<-r1.length,(unf ds r e).1,B.ps]
    ·obtain⟨ds,r,o,e,a,_⟩:=h;rw[<-a.vO.length,(unf ds _ e).1,B.ps]
   ·refine⟨_,cD fn.body (Y CX0 E cdv A outer s H hr) (M:=fn.M) _ B.body,?_⟩;have hst:start d.N vs=vs.map some++List.replicate (d.N.length-vs.length) none:=rfl;unfold kJ at h;split at h
    ·rename_i hmp;obtain⟨ds,r,r1,e,k⟩:=h;obtain⟨hlen,o,σ',e1,e2⟩:=unf ds r e;exact um (f:=f) B hmp r1 hlen e2 e1 k
    ·rename_i hmp;obtain⟨ds,r,outs,e,a,k⟩:=h;obtain⟨hlen,o,σ',e1,e2⟩:=unf ds _ e
     have hvl:vs.length=fn.ps:=by rw[<-a.vO.length];exact hlen
     refine⟨_,o,σ',?_,e1,?_⟩
     ·rw[hst,hvl,<-B.nn];exact xN a B.hM (fun i hi=>gP (B.mp i hi).2) hlen
     ·-- the lists behind it
      have fin:∀ (d0:RL.D) (σ1:L2.St) (H1 H':Hp) (v:V),RL.bK fn d0 σ'=some (.tup (r::outs))->RVm K fn.M σ' σ1 H1->Fr' fn.M (start d.N vs) H σ1 H1->aD H1 H'->(d0.imm=true->Rep nP K H' d0 v)->Q v H':=by
       intro d0 σ1 H1 H' v ht rv1 fr1 sm rp;obtain⟨im,os,g1,g2⟩:=AB ht hmp;cases g2;obtain⟨l1,l2⟩:=oi g1;refine k v H' (fun b u nb eb=>sm _ _ (fr1.1 b u eb fun⟨i,hi,ei⟩=>?_).1) (rp im) im ⟨l1,fun kk pp oo hk ho=>?_⟩
       ·rw[hst,bg]at ei;have h3:=(List.getElem?_eq_some_iff.mp ei).1;exact nb ⟨i,B.hM i (by lia) hi,ei⟩
       ·have hpm:=List.mem_of_getElem? hk;obtain⟨dp,ap,g3,g4,g5⟩:=a.own pp hpm;have g6:=fr1.2 pp (B.mp pp hpm).2
        have g7:(start d.N vs)[pp]?=some (some (.ref ap)):=by rw[hst,bg];exact g4
        rw[g7]at g6;obtain⟨v',g8,g9⟩:=rv1.val pp oo (l2 kk pp oo hk ho);rw[g6]at g8;cases g8;rw[if_pos (gP (B.mp pp hpm).2)]at g9;exact⟨ap,g4,g9.same sm⟩
      cases o with
      |nx=>
       intro σ1 H1 rv1 fr1
       exact fin .non σ1 H1 H1 .non e2 rv1 fr1 (aD.refl _) fun _=>by rw[Rep]
      |rt d0=>
       intro σ1 H1 v H' rv1 fr1 sm rp;exact fin d0 σ1 H1 H' v e2 rv1 fr1 sm fun im=>rp nP fun _ z=>z.elim
  ·refine Fun.okX F B.sc (fun vs H Q E h=>?_) fun cdv A outer s H vs Q E hr h=>?_
   ·obtain⟨ds,x,r1,e,_⟩:=h;rw[<-r1.length,(unx ds x e).1,B.ps]
   ·have R:ROk (p.cc d) (fj (CXE P w) P w K mg base d.N d.name (aF d.st) fa cdv A outer s H E) (RL.ao p.T n) (fun _=>E):={
     y:=Y (CXE P w) E cdv A outer s H hr
     cal:=rfl
     pass:=fun pins σ H1 s1 e s' I z=>by
      obtain⟨x,C,od,H',rfl,hE,I',ex,_⟩:=I.refused rfl z;exact j9 I' rfl rfl rfl ex hE I'.ok.frames
     made:=fun pins σ H1 s1 h' e C vs I m z=>by
      obtain⟨I',ex⟩:=I.newExc rfl m;exact j9 I' rfl rfl rfl ex z I'.ok.frames
     uN:=fun pins σ H1 s1 C i e od H' s' I nx z=>by
      obtain⟨I',ex⟩:=I.newX rfl nx;exact j9 I' rfl rfl rfl ex z I'.ok.frames
     own:=PassesOwn.leaving }
    obtain⟨ds,x,r1,e,k⟩:=h;obtain⟨hlen,_,σ',e1⟩:=unx ds x e;exact⟨_,dQ fn.body R (M:=fn.M) _ B.body,Ao B hmp r1 hlen e1 k⟩
  ·refine Fun.okH F B.sc (fun vs H Q h=>?_) fun cdv A outer s H vs Q hr h=>?_
   ·obtain⟨ds,r,r1,e,_⟩:=h;rw[<-r1.length,(unf ds r e).1,B.ps]
   ·have Z:YOk { p.cc d with calm:=false } (cxH P w K mg base d.N d.name (aF d.st) fa cdv A outer s H) (RL.ao p.T n):={
     scope:=rfl
     names:=rfl
     nd:=B.sc.nd
     calm:=fun z=>(nomatch z)
     xe:=rfl
     hu:=by
      have:=hr.un;show(A.deeper _).units+100<cLine;lia
     blt:=tp.blt
     glb:=tp.glb
     gds:=fun x tbl hx=>let ⟨d,kvs,a,b,c⟩:=tp.gds x tbl hx;⟨d,kvs,a,⟨b.1,fun h q=>b.2 _ h q⟩,c⟩
     fns:=fun _ _ _ z=>(nomatch z)
     hfn:=fun g x hh hg=>by
      obtain⟨d',fn',q1,q2,rfl,q3⟩:=look hg;obtain⟨d2,q4,q5⟩:=u7 hh;rw[q1]at q4;cases q4;obtain⟨fa',fd',t1,t2,t3,t4⟩:=tp.defs g d' q1;exact⟨n+3,fa',fd',d'.ps,(gG hok tp n g d' fn' q1 q2 fa' fd' t2).sui q5 q3,hr,t1,t3,t4⟩
     cls:=tp.cls
     cli:=fun c hc=>let ⟨D,R,fI,fd,st,qual,a1,a2,a3,a4,a5,a6,a7⟩:=tp.cli c hc;⟨D,R,fI,fd,a1,a2,a3,pk a3 a4 a5 a6,(fun z=>nomatch z),a7⟩
     ref:=tp.ref
     fn:=fun _=>rfl
     st:=⟨rfl,rfl,rfl⟩
     fnx:=fun _ _ z=>(nomatch z) }
    obtain⟨ds,r,r1,e,k⟩:=h;obtain⟨hlen,o,σ',e1,e2⟩:=unf ds r e;exact⟨_,cD fn.body Z (M:=fn.M) _ (B.hb hh),um (f:=f) B hmp r1 hlen e2 e1 k⟩
def AF(hok:p.ok=true)(tp:qb p w K mg):∀ (n f:Nat) (d:d9) (fn:RL.Fn),p.Ds[f]?=some d->p.T[f]?=some fn->∀ fa fd,Fun K d.name d.name d.st fa fd->cu P w K mg base CX0 (n+3) fa fd d.ps (kJ K (RL.ao p.T n) fn.mp f):=fun n f d fn a b fa fd F=>(gG hok tp n f d fn a b fa fd F).nor
end
abbrev spL(n:Nat)(p:PT')(f:Nat)(K:PySem.W.Frag):Sp:=spF K (RL.ao p.T n) f
def zJ{n:Nat}{p:PT'}{f:Nat}{K:PySem.W.Frag}{H:Hp}{a:Addr}{ns:List Int}(hO:ot H)(hS:SqL K H a (ns.map V.int))(h:RL.ao p.T n f [.scr (ns.map RL.D.int)]=some (.bl true)):spL n p f K [.ref a] H (fun v _=>v=.bl true) fun _ _ _=>False:=by
 refine⟨_,_,?_,h,fun v H' _ r=>bf r⟩;refine ai.cons ?_ ai.nil;rw[Rep];refine⟨a,ns.map V.int,rfl,?_,?_⟩
 ·rcases hS with(z | ⟨o,z⟩) | z
  ·rcases hO a with q | ⟨o,xs,q⟩
   ·rw[q]at z;cases z
   ·rw[q]at z;cases z
  ·exact .inl ⟨o,z⟩
  ·exact .inr (.inr z)
 ·clear hS h
  induction ns with
  | nil=>exact ai.nil
  | cons i r ih=>exact ai.cons aV ih
end RS
namespace K30
open PySem PySem.Spec PyProof.Rows L2
abbrev top(i:Nat):Stmt:=PySem.Challenge.pw_ribbonloft_k30_single_trades.main.body.getD i (.Pass ⟨0,0,0,0⟩)
abbrev mkD(x:Str)(i n:Nat)(N:List Str)(b:Bool:=false):RS.d9:=⟨x,top i,N.take n,N,b⟩
abbrev Ds:List RS.d9:=[
 mkD "is_number" 19 1 ["value"],
 mkD "is_peg_count" 20 1 ["value"],
 mkD "check_pegs" 21 1 ["pegs"],
 mkD "is_hook" 23 2 ["pegs", "number"],
 mkD "check_row" 24 2 ["pegs", "row", "number"],
 mkD "traded" 26 4 ["pegs", "rings", "row", "trade"],
 mkD "walked" 27 4 ["pegs", "rings", "row", "trades", "pair", "at", "trade"],
 mkD "swapped" 28 3 ["rings", "row", "at"],
 mkD "dropped" 29 3 ["rings", "row", "at"],
 mkD "doubled" 30 3 ["rings", "row", "at"],
 mkD "shortened" 31 3 ["rings", "row", "at"],
 mkD "grown" 32 5 ["pegs", "rings", "row", "at", "number"],
 mkD "pair_behind" 34 3 ["pegs", "pair", "trade", "rings", "row", "word", "action", "numbers"],
 mkD "has_places" 35 3 ["row", "at", "many"],
 mkD "_law_kin" 37 1 ["_law_e", "_law_found", "_law_words", "_law_word_here", "_law_kin_here"] true,
 mkD "_law_mix" 38 1 ["_law_seed", "_law_one", "_law_two"],
 mkD "_law_raw" 39 2 ["_law_script", "_law_k", "_law_cell", "_law_found", "_law_turn"],
 mkD "_law_digits" 40 3 ["_law_script", "_law_k", "_law_sizes", "_law_rest", "_law_found", "_law_size"],
 mkD "_law_hooks" 41 4 ["_law_script", "_law_k", "_law_pegs", "_law_size", "_law_found", "_law_start", "_law_steps", "_law_step", "_law_number"],
 mkD "_law_after" 42 3 ["_law_pegs", "_law_pair", "_law_trade", "_law_rings", "_law_line", "_law_word_here", "_law_at", "_law_here", "_law_rest"],
 mkD "_law_some_trade" 43 4 ["_law_script", "_law_k", "_law_pegs", "_law_pair", "_law_at", "_law_good", "_law_place", "_law_way", "_law_number", "_law_far", "_law_odd", "_law_trade", "_law_word_here", "_law_step"],
 mkD "_law_same" 44 2 ["_law_told", "_law_due", "_law_one", "_law_other"],
 mkD "_law_word" 45 3 ["_law_pegs", "_law_pair", "_law_trade", "_law_found", "_law_e"],
 mkD "law" 46 1 ["_law_script", "_law_k", "_law_bad", "_law_words", "_law_pegs", "_law_rings", "_law_pair", "_law_trade", "_law_due", "_law_handed", "_law_size", "_law_way", "_law_line"]]
abbrev p:RS.PT':=⟨["ValueError", "abs", "all", "bool", "enumerate", "int", "isinstance", "len", "list", "max", "min", "range", "str", "tuple", "zip"],[("MOST_PEGS",10)],Ds,T,["BadHook", "BadPegs", "RibbonError"],["BadFrame", "BadHalf", "BadHook", "BadName", "BadPage", "BadPegs", "BadTrade", "Full", "Hangs", "NoFrame", "NoNumber", "NoPlace", "NoStack", "NothingThere", "Taken"],["BadTrade"],[("TRADES_AT_A_PLACE",[("swap",7),("drop",8),("double",9),("cut",10)])]⟩
def DC:p.ok=true:=by decide +kernel
def all1{P:List Value->Prop}(h:∀ a0,P [a0]):∀ us:List Value,us.length=1->P us
 | [a0],_=>h a0
def all2{P:List Value->Prop}(h:∀ a0 a1,P [a0,a1]):∀ us:List Value,us.length=2->P us
 | [a0,a1],_=>h a0 a1
def lh{P:List Value->Prop}(h:∀ a0 a1 a2,P [a0,a1,a2]):∀ us:List Value,us.length=3->P us
 | [a0,a1,a2],_=>h a0 a1 a2
def Dw{P:List Value->Prop}(h:∀ a0 a1 a2 a3,P [a0,a1,a2,a3]):∀ us:List Value,us.length=4->P us
 | [a0,a1,a2,a3],_=>h a0 a1 a2 a3
def Dk{P:List Value->Prop}(h:∀ a0 a1 a2 a3 a4,P [a0,a1,a2,a3,a4]):∀ us:List Value,us.length=5->P us
 | [a0,a1,a2,a3,a4],_=>h a0 a1 a2 a3 a4
section
variable{K:PySem.W.Frag}{h:Heap}{mg:Str->Option Value}{x:Str}{st:Stmt}{f:Addr}{oc kV dc pm cd ct:Value}{od an:Option Addr}{sl:Array (Option Value)}{ps:List Str}
abbrev At(K:PySem.W.Frag)(mg:Str->Option Value)(x:Str)(st:Stmt)(ps:List Str):Prop:=∃ f fd,mg x=some (.ref f)/\Fun K x x st f fd/\PySem.W.keepIn K (.ref f)=true/\Binds K fd ps []
def B3(X:K.In h)(G:h.Ns mainGlobals mg)(a:PySem.W.nsIn K mainGlobals x=some (some (.ref f)))(l:K.lookup f=some ⟨oc,od,.func (PySem.W.fnOf x x (cU st) (bE st) (aF st) .none kV dc pm an cd ct),sl⟩)(c:PySem.W.codeIn K cd x=true)(k:PySem.W.keepIn K (.ref f)=true)
 (b:∀ (kV doc pm:Value) (an:Option Addr) (cdv ct:Value) (us:List Value),us.length=ps.length->bindArgs (PySem.W.fnOf x x (cU st) (bE st) (aF st) .none kV doc pm an cdv ct) ⟨us,[]⟩=pure (ps.zip us)):At K mg x st ps :=
 ⟨f,_,PySem.W.mg_of X G a,kj (st:=st) l c k,k,(kj (st:=st) l c k).binds b⟩
abbrev kz(K:PySem.W.Frag)(mg:Str->Option Value):List RS.d9->Prop
 | []=>True
 | d::r=>At K mg d.name d.st d.ps/\kz K mg r
def kz.get:∀ {l:List RS.d9} {f:Nat} {d:RS.d9},kz K mg l->l[f]?=some d->At K mg d.name d.st d.ps
 | [],_,_,_,e=>by cases e
 | _::_,0,_,h,e=>by cases e;exact h.1
 | _::_,f+1,_,h,e=>kz.get (f:=f) h.2 e
abbrev AllP(P:Str->Prop):List Str->Prop
 | []=>True
 | x::r=>P x/\AllP P r
def AllP.get{P:Str->Prop}:∀ {l:List Str},AllP P l->x∈l->P x
 | _::_,h,e=>(List.mem_cons.mp e).elim (fun z=>z▸h.1) fun z=>AllP.get h.2 z
abbrev kI(K:PySem.W.Frag):List (Str × Int)->Prop
 | []=>True
 | q::r=>(∃ t,PySem.W.nsIn K mainGlobals q.1=some (some (.int q.2 t)))/\kI K r
def kI.get{i:Int}:∀ {l:List (Str × Int)},kI K l->l.lookup x=some i->∃ t,PySem.W.nsIn K mainGlobals x=some (some (.int i t))
 | [],_,e=>by cases e
 | q::_,h,e=>by
  rw[List.lookup_cons]at e
  cases hb:x == q.1 with
  | true=>rw[hb]at e;cases e;rw[eq_of_beq hb];exact h.1
  | false=>rw[hb]at e;exact kI.get h.2 e
abbrev ini:Stmt:=match top 14 with
 | .ClassDef _ _ _ b ..=>b.getD 0 (.Pass ⟨0,0,0,0⟩)
 | s=>s
def C1:L2.qI ini where
 body:=⟨_,_,_,_,_,_,_,_,_,_,_,_,_,_,_,_,_,_,rfl,by decide +kernel,by decide +kernel,by decide +kernel⟩
 sc:=RS.nz (by decide +kernel)
 g:=by decide +kernel
 v1:=by decide +kernel
 v2:=by decide +kernel
def ye{P:List Value->Prop}(h:∀ a b,P [a,b]):∀ us:List Value,us.length=2->P us
 | [a,b],_=>h a b
def rO(l:K.lookup f=some ⟨oc,od,.func (PySem.W.fnOf "__init__" "BadTrade.__init__" (cU ini) (bE ini) (aF ini) .none kV dc pm an cd ct),sl⟩)(c:PySem.W.codeIn K cd "BadTrade.__init__" = true)(k:PySem.W.keepIn K (.ref f)=true):Fun K "__init__" "BadTrade.__init__" ini f (PySem.W.fnOf "__init__" "BadTrade.__init__" (cU ini) (bE ini) (aF ini) .none kV dc pm an cd ct)/\Binds K (PySem.W.fnOf "__init__" "BadTrade.__init__" (cU ini) (bE ini) (aF ini) .none kV dc pm an cd ct) ["self", "at"] [] :=
 ⟨kj (st:=ini) l c k,(kj (st:=ini) l c k).binds fun _ _ _ _ _ _=>ye fun _ _=>rfl⟩
def Cn{D R N fI:Addr}{nm qn:Str}{bs sub:List Value}{sn:List Str}{ab:Bool}{col:Option Bool}{dd odN odF:Option Addr}{k0 k1 k2 k3 k5:Option Value}{ocN:Value}{es:Array DictEntry}{ep:Nat}{slN slF:Array (Option Value)}(n1:PySem.W.nsIn K mainGlobals "BadTrade" = some (some (.ref D)))(n2:PySem.W.nsIn K mainGlobals "RibbonError" = some (some (.ref R)))
 (lC:K.lookup D=some (excClassObj nm qn D N bs (.ref R::RS.VE) true sn sub ab col dd k0 k1 k2 k3 k5 "ValueError.__new__"))(eR:PySem.W.excIn K R RS.VE "ValueError.__new__" = true)(lN:K.lookup N=some ⟨ocN,odN,.dict es ep,slN⟩)(okN:(es.toList.all fun e=>match e.key with | .str _ _=>true | _=>false)=true)(iN:PySem.W.nsIn K N "__init__" = some (some (.ref fI)))
 (rd:PySem.W.readsIn K R (.type "type")=true)(fc:PySem.W.findCls K (.ref R) (.type "type") "__init__" = some (.val (.builtin "ValueError.__init__")))(sp:PySem.W.specialIn K (.ref R) "__getattribute__" = some (some (.builtin "type.__getattribute__")))(sa:PySem.W.findIn K (.ref D) "__setattr__" = some (some (.builtin "object.__setattr__")))(mo:PySem.W.mroIn K D (.type "object")=some true)(na:PySem.W.findIn K (.ref D) "at" = some none)(kp:PySem.W.keepIn K (.ref D)=true)
 (lF:K.lookup fI=some ⟨.type "function",odF,.func (PySem.W.fnOf "__init__" "BadTrade.__init__" (cU ini) (bE ini) (aF ini) .none kV dc pm an cd ct),slF⟩)(cF:PySem.W.codeIn K cd "BadTrade.__init__" = true)(kF:PySem.W.keepIn K (.ref fI)=true)(ans:RS.gh K D=true->RS.uq K "BadTrade" D) :
  ∃ D R fI fd,PySem.W.nsIn K mainGlobals "BadTrade" = some (some (.ref D))/\RS.eI K "BadTrade" D=true/\L2.dG K R D fI/\Fun K "__init__" "BadTrade.__init__" ini fI fd/\PySem.W.nsIn K mainGlobals "RibbonError" = some (some (.ref R))/\Binds K fd ["self", "at"] [] :=
 ⟨D,R,fI,_,n1,RS.uf (ans (RS.pU lC eR).2),L2.vP lC eR lN okN iN rd fc sp sa mo na kp lF,(rO lF cF kF).1,n2,(rO lF cF kF).2⟩
structure Tp(w:World)(K:PySem.W.Frag)(mg:Str->Option Value):Prop where
 t1:kz K mg Ds
 t2:AllP (fun x=>PySem.W.nsIn K mainGlobals x=some none) p.B
 t3:kI K p.G
 t6:∃ (d a0 a1 a2 a3:Addr) (es:List DictEntry) (ep:Nat),PySem.W.nsIn K mainGlobals "TRADES_AT_A_PLACE" = some (some (.ref d))/\(d == sysModules)=false/\K.lookup d=some ⟨.type "dict",none,.dict es.toArray ep,#[]⟩/\PySem.W.nsIn K mainGlobals "swapped" = some (some (.ref a0))/\PySem.W.nsIn K mainGlobals "dropped" = some (some (.ref a1))/\PySem.W.nsIn K mainGlobals "doubled" = some (some (.ref a2))/\PySem.W.nsIn K mainGlobals "shortened" = some (some (.ref a3))/\RS.Ent w es [("swap",a0),("drop",a1),("double",a2),("cut",a3)]
 t4:AllP (fun c=>∃ D,PySem.W.nsIn K mainGlobals c=some (some (.ref D))/\RS.eI K c D=true/\PySem.W.excIn K D RS.VE "ValueError.__new__" = true) p.Xr
 t5:AllP (fun c=>∃ D,PySem.W.nsIn K mainGlobals c=some (some (.ref D))) p.Xs
 t7:∃ D R fI fd,PySem.W.nsIn K mainGlobals "BadTrade" = some (some (.ref D))/\RS.eI K "BadTrade" D=true/\L2.dG K R D fI/\Fun K "__init__" "BadTrade.__init__" ini fI fd/\PySem.W.nsIn K mainGlobals "RibbonError" = some (some (.ref R))/\Binds K fd ["self", "at"] []
def Am{w:World}(X:K.In h)(G:h.Ns mainGlobals mg)(A:Tp w K mg):RS.qb p w K mg where
 gds:=by
  obtain⟨d,a0,a1,a2,a3,es,ep,n0,n1,l,b0,b1,b2,b3,E⟩:=A.t6;exact RS.yk (PySem.W.mg_of X G n0) n1 (RS.Cb l E (show(["swap", "drop", "double", "cut"]:List Str).Nodup by decide +kernel)) (.cons rfl (PySem.W.mg_of X G b0) (.cons rfl (PySem.W.mg_of X G b1) (.cons rfl (PySem.W.mg_of X G b2) (.cons rfl (PySem.W.mg_of X G b3) .nil))))
 defs:=fun f d e=>A.t1.get e
 blt:=fun x hx=>PySem.W.mg_none_of X G (A.t2.get hx)
 glb:=fun x i hx=>let ⟨t,ht⟩:=A.t3.get hx;⟨_,PySem.W.mg_of X G ht,t,rfl⟩
 cls:=fun c hc=>let ⟨D,a,b,e⟩:=A.t4.get (by simpa using hc);⟨D,PySem.W.mg_of X G a,⟨a,b⟩,e⟩
 cli:=fun c hc=>by
  have e:c = "BadTrade" := by simpa[p]using hc
  subst e;obtain⟨D,R,fI,fd,a1,a2,a3,a4,a5,a6⟩:=A.t7;exact⟨D,R,fI,fd,ini,_,PySem.W.mg_of X G a1,⟨a1,a2⟩,a3,C1,a4,PySem.W.mg_of X G a5,a6⟩
 ref:=fun c hc=>let ⟨D,a⟩:=A.t5.get (by simpa using hc);⟨D,PySem.W.mg_of X G a,a⟩
end
end K30
end
namespace PySem.W.Fast
local macro_rules|`(universe $x*)=>do pure (Lean.mkNullNode (<-x.mapM fun x=>`(theorem $(Lean.mkIdent (.mkSimple s!"tw{x.getId.toString.foldl (fun a c=>52*a+c.toNat-if c.toNat<97 then 65 else 71) 0}")) :True:=trivial)))
universe BmoFgkzDLAQA jfvBzCdhHmY rLkZlbHNhEg BRNguEoBnoDE BvjszsURfhFM CDfmIDfDWWNc CGQHfdFRdcWo CIljCKWMHKkw BsBbvYOdsAMw GodxVBLlFXk BmjPiDmkJnSo iDinxTlmszE CRzUreZTZULE lGPZgxLtLVs ZbsUdTWvzEB CXRMXSgigQGJ BkFbxttUemup BoufrhpaiUZN BrKygeNooBWZ CJmyLmxLJCcx BpwMovKerfOZ CVouMyevMvSp BMtvEZtwneWp BNDBdUVIyjF BSOeOwCYOCmJ BOywgAfpjWZt CVODdLVPIYoB CHEVCzgapYUx wsBTNzRXepN BLMGPWUeBChN BOIMcUmkyaKZ BIgaAunHCZdN BsviwJHPlAgB CFsEAJuBPAAB CNQwZhUpRPPF BTQmfFxSjWwi BurLgzKOdWKa rPoWGkDuGsy zvpjWuQnlHm BMvtaZsEshKq HuJXVhlqPJe WLTdOUvIkrm rwxsNGjpqpO tOEOmaQILVO BxWmPYpTFxWa padyDrYVIrG urtNxiHALCq tzOGgMMZhBf GeIMXKhpabH CVclZfeirADn ucSwWRQqpPn GwfJZJPDpHH BDdCcVHDcaFf vsGPeckWdpf BXfsjLczMnVv BfcDeONZMpLX BbNoljwZDEWr cNJXwIcCkGs SDYtgrEgHLY CAFpolpZPJvo BOVciPZjIkQk BrfsGAtufltw MaZhoJAKHhA BGsIXEVBJAYk eBJGzsjDxZg UePpSmXKxWc BQRRLtqPKLec BuPlktXLAKGs LMFJlzsffSs XhpaWaPnSqc zaXuMlVrYzo NGfwoNEaFKs BugiKUkunuic qhgczFkmOVg COoienieFjwU BwcosbNzIAOt aMXrQkgcNph gGztQYkIFJh GdjMYVwJZh fRgewjulBgV ntzOzNjvaFh COolxjwghYV BwBaMXqwYCOt BzHDSJgSoQad XCqZvpFJjqt uRQZIPFTAfZ cZeLxiiMoSd dmbXCCsqSsV CJAEOnvcctcG BkzvIyjtvWna CAIkwIRqYbkG BuNxByGEsakW BVtsAWpOrVSu eMNzDJosVCu aXHxWSEtlOe BkbEEgqWxQW BvmFmyahqzfK RBxyzfUsCNC njebfcVnAeO FSQOxckubcn BlMSqGiiQxFT BYYStigalquP HWudxueREmP BEphAXkrsmJz aFMEPavorgX ZxIFxuNBvRD CRiPqmKKwREH CWsaMKvvUQwn ebiPlndQnfL BTNYaqAqXDZj HVBMTFWuQmQ IcoATMZDuIo CVsmwRAerJJE CJvmIfRUcxoY BZZYagpEiSFE eNAGYqDLVPM CVbahiZeHniQ BqCxetNWysDM tiiuMcLHrTc euWysqhrYcY BGPWnKvJoyQo CGpYuMPTUSYI jIvxQRHrDhE uHRUEvhRMLM BgGssRTkuajM gsfvWcOVGTs OqWLlQSCgtk BEyRmPXGiUCh BSDhtTNFaoXd mwivvddCFWB CNgNHnHKwcAJ BihyZWNAuGFF BtqCYuBHfsRV ByDzWruHgTLd PbHKHmbavzd ygujMzXBFzd BYwbGHkLebeh CFlHKdxYwLBm oOCwXzyJSGS BlaiuXQKEzkq pRSPdhTYqDu GRQDwqNZpoa YyhjArwAJga CCqrJrAOsIYK CLfCFEzqrNdW BjVHbYraLQzO sEYWFDkYdG BfYBVadFirvu ZFAFhKvjofe BSWONhRgpSey BwFGpCcfevhm BSffjaZqsCgL CHWnewYiqKaD dcrYBWyTjKT BkEqwfcUPHEL VjVASXLBIrv qGbvZxvmEtn CQBbRtvwDkKj BsQOEdvDfwcb gdKtigOtcDv eLjPXKAvgLv CPbSmjiZlRCT BxNaQWldfEIr oqMwUdFWBX CWxsIKOaFZUM BEqcbnzgzHOE auzJjxggJY BegloWreBYqE ygdVAIBAodo ZjFShROFMMc CUnPsGlwGjrg bUXKrrqlCEc BIdPsKVqvPPw BBoMLvEdjqU mGfuJbthDss HfndJxAowKk BGrkjyZrnvPQ oVfbWboNZPw BkRIVtyVGTNY BtkkbOEzriAM sxkdyRVtedJ CQkJiIZcNsQN BoykzHwBopWF BZbjzZQnivNZ BcfoEHUIQlJJ CSJrOCkRGgMd PipXDsuIHPR BrhsbpUXMbx BvmeWXCiNtSV BgllXtpuPRbB BUETKGmqcpBJ BlsyZFutLQgN CKaXYQxuKlYd hauMIEAmMVJ sEOhkZZSsLR BCihYFApUzJp BuuIbodfwuLR CBWoattkBceV PfQuUzaVSrR BbBdSvYxZszR gcLdnLdodeF lvpDFvjizjh BSatqNRYNCfB BkNkyhuvQJZ BLHJQToqApWl BiDqFQeanRbh rXkatMQyDcu BhiFZjOcZMyG BdwDhgaYBtTi epusgIqFuMe YsDGvNgNfum BpuJpTagVNvS CJlLEnVitmfC uryyySYbKPC CyNOAWMXlSW BtCUbzYefMSm BUfpSEPFDpJq YVlKLYWXmlq CHoWrUvLxFOG WVdWvIMLGin BLIVnAWlgdZr BkQucmkqMtBr gwMjzVzkZIf meErkukSpNb BKTasvyXWlsP QoCcqghTmVr BTsxNZguJhuH MTeZqEVDyLT JObvNuQgkiH BumqVtQmWHnT BQPoOSgvHMGX yzurswsvdjE BwldsxjRhetM CAycXzfaVPwA CTFHbYYtoyvk BtaGkFOhsWEA gZrgbcDlJEQ sMhbstiRqhc unOFkMhBwGY DxRtOHwExog BKrmlSLkqDMw dxdBjhOMEmY IphstHNNUNs BZElnyqVDniY DzmMyVMTKhd GwGIoPJTPHV TsfFjPlJYOZ iPWbidMlgqp BiHLiNORIqkh cIRlpcOxdsx BjAUxABXNwWZ BgNDLboVOidt CXNhHmNdMcaK BoohHBcPCEaq BxMXsNeVTRYi BDtXNDhMimvG BvxfCMaqPzfW BQRRVAmmqINu NehqRpbXTHW LkjDYfubSoS BGEVDPEdwHPW CQqWbSMgqqyq PzrHmcrbbrG BNBgySTVEzKa sTcQDMJhggy yFkzSllCbQC BZReZnrSEUwT ZzmjKodHurX BjajZZIGQKYT BuLqbBFhCuQT BLWCVbMIvmrX ijCpnISGGVP JZccYzwJmqL cYZIsTHlPcz uIXWkqvKsbX BGhjnpvWeAMj EzzhMrmCJOL BCzHEouREnpv kcwVxZISzHX BCcOMPyWqelv CSaPIGDkmBsz BFyeTkOcyoQU CKSmhLkDydWM wjnQChHimJg KOLcZdbpQcE jXlEbBbPhic BtlicQEZrSCM CItGMuEGFRcU aDdwmTDJWRg CWCsXfCBMSpA BMViBDRiKrdg CEAeWasZFuHo BaYisllWWXLo CJiqgUfSlrVg kCaFjJHREEE QtwujQhfXWs BVNuAeWPlmtQ CQRqxpvLESck BbgTfhMUIpIF BUfaDUuPxACN MeVUBgcqHfZ yrXAjjziwph BrwTweaDutZx CEjctPwrQhIl DEBeUNQnJwl BeKNPdAsrdxx CZweDOaXuwV BVzRSruaroCN CKndPQkHNDTJ BbFbTiySJSkl yOGFeDdLMat BRDBeJAgHcMF mKxWJXxPHad BAylqFBjOOPp vGMbnaEjAnJ BXviSCbSqIGe WxDDJaJOupC BVVWNOcvhbK tWJuFUkfUja BTjCOqLQkzdC BqpIeEngGwPq COCXfIirhPOu fbbWZDSxwlS ryVvCinOqJi YjSDTBLWlrK CPRDwbRLaXSe BWOANekbXqiO BEPmJcRYpzBy BKotygmSzhAm UnmZdWzjphy CSZpLnKUIzeO BowGlrrRmbae tmZgNoEaPBS BcUzFfPwSMKu ubYzWYZIuhC BkKtFLmGXQBC BeqeufadNUBD nBpNcBZeHVj onXwkDaKjXb BOFnicdzfQfL BCHqTarSyIBj COOwusldSRzr BryeoVtGGZpz CSSssxIdjQDb QaGoHEuicyP VQKiRNdyBuv CXJDeSzXfZJz rfttMsqelcY hAMIzpgCNpU KVBpsDMTIBk CVzLALVOKIKw BUUqKPdLUIEo cDHUqekSNIo FMnlNamPFVE CCHtCIPbioKQ znWrRGVqofM BHGrkGxGIpuQ rMSvMVgvwrc CUptbLEYevrM VuXtumISjMY mhaWAsaAmRE GdmSswukBuQ nyTxKmYlCg PsbOXEVBAtU BdZrygNEdsMo BRuNDaAJWhih CLQeUhdBPkoZ BkzpxzTzoDSB NgYNfATjRMZ CRysMHmJzRGR GFiixVYPqSx BqhDDRCTyghl CKhboaidJoBF BCJFgweCqfJV BfVsKFUvHkBG BLdlHLzRKvLO BNTRvJgZXevO QqZmghvJVVG BAIkZgndXKay BWDyCYxFAMui BWtIPEGoTjmS BaeaiIuWPVNG BfLkpJbwocTe CUCzumpBpKmi KTwCGPgAffe CFXdXwDRKfHe BfzwkFGqEEbe sbjTGqyfjVm BdygdzYALmnu BSKPgeaWKMKy CUeaEiOlVmPO gfTDmWwQNij BnLLStMXHxQL BcLDtshpNegb BntOZGhbTydX BHYxHhfLUFnf svHRvvGIJH BZmdIjxCUPln tOVTVvdasOD NnnCiXNnUVX BysATeBVONbv sbIFkBbrpln RwhQAmSewiz BxOMQlLkppbP BGPTRuIjhmob GXCEuzjAkL BOEUyYBimIBn BwOdNHaAwxEb RSylePwIdez BfASPJWymQpH gEsefTLwDBX BzzMhgNzPlzv BOtaIMZJkaNX CMWtfrLQOdSj cnCawAppgIb BRRlHZqiadlo CBCNtuxXYVwM dotUCctXbvg BYUcpHFxSmmk LQmwjRWdtmU CQostjzcsPAs BpbhPGqzaoTg BTJgArNxRySU BwuEHhdduPuU kBeZzcFSbLw rkZTriBrvAM BkKyuVMPnFNI gYyVfLqzTtI CIIbeVTuBsSU KSnZhHsffIM dxsPejfkFjQ BwnUcCeoUdrR BJgTxfNjkkUN BOtGCDnDlTzx BCnsoHzSQBUd CDNlxTXPTrUd BfKDguAdsKmF BmBqKURoPpZ BftszsnzCXbx BetfRaQDyTCl tbKkJKYnZJZ jCQvkIOLzql gqYrnIoVXJZ sYtudxWwJfh BGEWeLNiedwt BWtFaZAJhxTR pycvVFBWXXC BtsAQzREBmKW URftGWMPZgu CCNHXIvkOuLi dfadIWcBJvC xPRfiyVwcLC BACXEgoOpihq BkPjDvgMExse BpRWyCaVkFYu BcBUjAdoVNVq SwJqSMmKsEv kURmLxMiYtb tWfUAiWIqwf BqTKhGusrHJb GuFquxMkzxb BGcPfzRslTNr CiQpMGaEErD bdYoymCPcbD BbLNXXrnween COSXsAYxPgWn qCplqPZfbvj SzoeMiWabQv vnzsvtGLPYP KiWibYvYEof BLNOSWxZzQxr BTpZiOUllOEP BaykuwcNIHTJ
end PySem.W.Fast
open PySem PySem.W PyProof.Rows
set_option maxRecDepth 100000 in
set_option maxHeartbeats 0 in
theorem PySem.Challenge.cw_ribbonloft_k30_single_trades_holds : PySem.Challenge.rw_ribbonloft_k30_single_trades.Holds := by
 w_on;o_law;k_head;(case hw=>w_witness2)
 k_fill
 refine L2.wx (l:=PySem.Challenge.rw_ribbonloft_k30_single_trades) (n:=63) (k:=33) (x := "_law_script") (CX:=L2.CX0) (sp:=RS.spL 30 K30.p 23) rfl (by decide) rfl ⟨rfl,by decide,by decide⟩ (fun w h Y=>PySem.W.kIn_of Y) ?F ?S ?C
 case F =>
  intro w mg fa h KX G hmg
  have T:K30.Tp w (L2.KOf KX) mg:=by
   dsimp only[L2.KOf];constructor
   ·dsimp only[K30.kz,K30.Ds,K30.mkD,List.take]
    iterate 24 (refine' ⟨K30.B3 KX G ?a ?l ?c ?k ?b,?_⟩;(case a=>k_is);(case l=>k_is);(case c=>k_is);(case k=>k_is);(case b=>first | exact fun _ _ _ _ _ _=>K30.all1 fun _=>rfl | exact fun _ _ _ _ _ _=>K30.all2 fun _ _=>rfl | exact fun _ _ _ _ _ _=>K30.lh fun _ _ _=>rfl | exact fun _ _ _ _ _ _=>K30.Dw fun _ _ _ _=>rfl | exact fun _ _ _ _ _ _=>K30.Dk fun _ _ _ _ _=>rfl))
    exact True.intro
   ·dsimp only[K30.AllP,K30.p]
    iterate 15 (refine' ⟨?a,?_⟩;(case a=>k_is))
    exact True.intro
   ·dsimp only[K30.kI,K30.p]
    iterate 1 (refine⟨⟨_,by k_is⟩,?_⟩)
    exact True.intro
   ·refine⟨_,_,_,_,_,_,_,by k_is,?d,by k_is,by k_is,by k_is,by k_is,by k_is,?e⟩
    case d=>rfl
    case e=>exact .cons rfl rfl rfl (.cons rfl rfl rfl (.cons rfl rfl rfl (.cons rfl rfl rfl .nil)))
   ·dsimp only[K30.AllP,K30.p]
    iterate 3 (refine' ⟨⟨_,?n,RS.uf ?c,?exc1⟩,?_⟩;(case n=>k_is);(case exc1=>k_exc);(case c=>constructor;(refine RS.ym ?_;k_exc);(iterate 9 k_is);kit_is;(iterate 16 (refine' RS.u9 ?n ?k ?s ?e;(case n=>k_is);(case k=>kit_is);(case s=>k_is);(case e=>decide +kernel)))))
    exact True.intro
   ·dsimp only[K30.AllP,K30.p]
    iterate 15 (refine⟨⟨_,by k_is⟩,?_⟩)
    exact True.intro
   ·refine' K30.Cn ?n1 ?n2 ?lC ?eR ?lN ?okN ?iN ?rd ?fc ?sp ?sa ?mo ?na ?kp ?lF ?cF ?kF ?an
    case n1=>k_is
    case n2=>k_is
    case lC=>k_is
    case eR=>k_exc
    case lN=>k_is
    case okN=>rfl
    case iN=>k_is
    case rd=>k_is
    case fc=>k_is
    case sp=>k_is
    case sa=>k_is
    case mo=>k_is
    case na=>k_is
    case kp=>k_is
    case lF=>k_is
    case cF=>k_is
    case kF=>k_is
    case an=>intro j;constructor;exact j;(iterate 9 k_is);kit_is;(iterate 16 (refine' RS.u9 ?n ?k ?s ?e;(case n=>k_is);(case k=>kit_is);(case s=>k_is);(case e=>decide +kernel)))
  have tp:=K30.Am KX G T;obtain⟨fa',fd,h1,h2,h3,h4⟩:=tp.defs 23 _ rfl;have e0:=hmg.symm.trans h1;cases e0;refine⟨fd,fun s u=>?_,fun base kb nb=>RS.AF K30.DC tp 30 23 _ _ rfl rfl _ _ h2⟩;obtain⟨oc,od,kV,doc,pm,an,cdv,ct,osl,e9,_,_⟩:=h2.ex;subst e9;exact .of_eq rfl
 case S=>exact fun K H a ns hl hO hS=>RS.zJ hO hS (K30.main ns hl)
 case C=>exact fun _ _ _ _ h=>h
