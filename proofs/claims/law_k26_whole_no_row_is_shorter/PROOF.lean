import PyProof.Rows.All
import Wide.All
import OpenK.AllK
import Wide.FinOn
import PyProof.EqAt
import PyProof.EqKinds
import PyProof.TupleCall
import PySem.Str
import PyProof.NeKinds
import PyProof.CompMap
import PyProof.CompFree
import PyProof.EnumMake
import PyProof.Draws
import PyProof.ListRange
import PyProof.ConsumeWalk
import PyProof.Rows.SetFrom
import PyProof.SetRoads
import PyProof.ZipIter
import PyProof.Rows.SumAny
import PyProof.Rows.SortWalk
import PyProof.Rows.SeqMore2
import PyProof.Rows.SeqMore
import PyProof.StrWalks
import PyProof.SliceStr2
import PyProof.StrBlockI
import PyProof.StrOps2
import PySem.SetOps
import PyProof.SetScanFacts
import KE.KDictSum
import PyProof.DictWalks
import PyProof.DictRoadsH
import PyProof.MeetsSeq3
import PyProof.MinMaxWalk
import PyProof.WalkInts
import PyProof.MeetsIn
import PyProof.Rows.TupDisplay
import PyProof.TableCode
import PySem.Challenge.RW_ribbonloft_k26_whole_no_row_is_shorter
set_option Elab.async false
set_option linter.all false
set_option maxRecDepth 100000
set_option maxHeartbeats 4000000
set_option autoImplicit true
set_option relaxedAutoImplicit true
set_option genSizeOf false
set_option genSizeOfSpec false
set_option genInjectivity false
section
local macro_rules
|`(def $d $s:optDeclSig $v:declVal)=>`(theorem $d $(Lean.TSyntax.mk (Lean.mkNode ``Lean.Parser.Command.declSig #[s.raw[0],s.raw[1][0]])):declSig $v:declVal)
|`(abbrev $d $s:optDeclSig $v:declVal)=>`(noncomputable def $d $s:optDeclSig $v:declVal)
namespace RL
open PySem (Str)
@[reducible]noncomputable def Ky:=Sum Int Str
set_option genInjectivity true in
inductive D where
 | non
 | bl (b:Bool)
 | int (i:Int)
 | str (x:Str)
 | tup (xs:List D)
 | lst (xs:List D)
 | dK (ks:List Ky) (vs:List D)
 | dT (ks:List (List Ky)) (vs:List D)
 | scr (xs:List D)
 | exc (c:Str)
 | fT (ks:List (List Ky)) (vs:List D)
 | fL (xs:List D)
 deriving Inhabited
mutual
noncomputable def D.imm:D->Bool
 | .tup xs=>ah xs
 | .lst _=>false
 | .dK _ _=>false
 | .dT _ _=>false
 | .scr xs=>ah xs
 | .fT _ vs=>ah vs
 | .fL xs=>ah xs
 | _=>true
noncomputable def ah:List D->Bool
 | []=>true
 | d::r=>d.imm&&ah r
end
inductive Bop where | add | sub | mul | fdiv | mod | pow
 deriving DecidableEq
inductive Cop where | lt | le | gt | ge | eq | ne
 deriving DecidableEq
inductive Bi where | len | list | tuple | int | all | any | lenSet | sorted | sortedSet | abs | sum | sortedS
 deriving DecidableEq
inductive Ty where | int | bool | list | tuple | str
 deriving DecidableEq
mutual
inductive E where
 | var (i:Nat)
 | cst (d:D)
 | glb (x:Str) (i:Int)
 | bin (o:Bop) (a b:E)
 | cmp (c:Cop) (a b:E)
 | chain (c c':Cop) (a b e:E)
 | isN (neg:Bool) (a:E)
 | inD (neg:Bool) (a b:E)
 | and (a b:E)
 | or (a b:E)
 | not (a:E)
 | ifx (t a b:E)
 | tup (es:Es)
 | lst (es:Es)
 | ix (a b:E)
 | ixD (a b:E)
 | slT (a b:E)
 | rev (a:E)
 | call (f:Nat) (es:Es)
 | bi (b:Bi) (a:E)
 | get (a b c:E)
 | isi (a:E) (t:Ty)
 | rng1 (a:E)
 | rng2 (a b:E)
 | neg (a:E)
 | comp (e:E) (tg:List Nat) (it:It) (c:E)
 | compA (e:E) (tg:List Nat) (it:It)
 | compL (e:E) (tg:List Nat) (it:It)
 | frz (a:E)
 | cat (a b:E)
 | dt1 (k v:E)
 | lsD (a:E)
 | minL (a:E)
 | dk0
 | dt0
inductive Es where
 | nil
 | cons (e:E) (es:Es)
inductive It where
 | seq (e:E)
 | rng1 (a:E)
 | rng2 (a b:E)
 | key (e:E)
 | enm (e:E)
 | zip (a b:E)
end
mutual
inductive S where
 | asg (i:Nat) (e:E)
 | own (i:Nat) (e:E)
 | unp (is:List Nat) (e:E)
 | par (i j:Nat) (a b:E)
 | app (i:Nat) (e:E)
 | put (i:Nat) (k e:E)
 | ife (t:E) (a b:Ss)
 | ifp (i:Nat) (e:E) (a b:Ss)
 | forr (tg:List Nat) (it:It) (b:Ss)
 | whil (t:E) (b:Ss)
 | mexc (f:Nat) (es:Es) (ps ms:List Nat)
 | ret (e:E)
 | exc (e:E)
 | rais (c:Str) (ps:Es)
inductive Ss where
 | nil
 | cons (s:S) (r:Ss)
 | opn (j:Nat) (e:E) (r:Sq)
inductive Sq where
 | cls (r:Ss)
 | cons (s:S) (r:Sq)
 | opn (j:Nat) (e:E) (r:Sq)
 | frz (j:Nat) (r:Ss)
 | fz (j:Nat) (r:Sq)
end
@[reducible]noncomputable def St:=List (Option D)
@[reducible]noncomputable def Cl:=Nat->List D->Option D
abbrev most:Nat:=100000
abbrev bB{α:Type}(xs:List α)(i:Int):Option α :=
 if 0<=i then xs[i.toNat]? else if -(xs.length:Int)<=i then xs[(i+xs.length).toNat]? else none
abbrev vk(n:Nat)(i:Int):Option Nat :=
 if 0<=i then(if i<n then some i.toNat else none)else if -(n:Int)<=i then some (i+n).toNat else none
abbrev cutAt(n:Nat)(i:Int):Nat:=if 0<=i then min i.toNat n else(i+n).toNat
abbrev aQ:Bop->D->D->Option D
 | .add,.int a,.int b=>some (.int (a+b))
 | .add,.str a,.str b=>if a.length+b.length<=most then some (.str (a++b))else none
 | .add,.lst a,.lst b=>if a.length+b.length<=most then some (.lst (a++b))else none
 | .add,.tup a,.tup b=>if a.length+b.length<=most/\0<a.length then some (.tup (a++b))else none
 | .sub,.int a,.int b=>some (.int (a-b))
 | .mul,.int a,.int b=>if(-(2 ^ 64)<a/\a<2 ^ 64)\/(-(2 ^ 64)<b/\b<2 ^ 64)then some (.int (a*b))else none
 | .mul,.lst a,.int b=>if 0<=b/\b<=most/\a.length*b.toNat<=most then some (.lst (List.replicate b.toNat a).flatten)else none
 | .fdiv,.int a,.int b=>if 0<b/\b<2 ^ 200 then some (.int (a / b))else none
 | .mod,.int a,.int b=>if 0<b then some (.int (a%b))else none
 | .pow,.int a,.int b=>if 0<=b/\b<=1000/\a.natAbs<2 ^ 64 then some (.int (a ^ b.toNat))else none
 | _,_,_=>none
abbrev eqs(f:D->D->Option Bool):List D->List D->Option Bool
 | a::r,b::s=>(f a b).bind fun e=>(eqs f r s).map fun k=>e&&k
 | _,_=>some true
abbrev eqD:Nat->D->D->Option Bool
 | _,.int a,.int b=>some (a == b)
 | _,.str a,.str b=>some (a == b)
 | _,.bl a,.bl b=>some (a == b)
 | n+1,.tup a,.tup b=>(eqs (eqD n) a b).map fun k=>k&&a.length == b.length
 | n+1,.lst a,.lst b=>(eqs (eqD n) a b).map fun k=>k&&a.length == b.length
 | _,_,_=>none
abbrev br:Cop->D->D->Option Bool
 | .lt,.int a,.int b=>some (decide (a<b))
 | .le,.int a,.int b=>some (decide (a<=b))
 | .gt,.int a,.int b=>some (decide (b<a))
 | .ge,.int a,.int b=>some (decide (b<=a))
 | .eq,a,b=>eqD 8 a b
 | .ne,a,b=>(eqD 8 a b).map not
 | _,_,_=>none
abbrev truth:D->Option Bool
 | .bl b=>some b
 | .lst xs=>some (!xs.isEmpty)
 | .tup xs=>some (!xs.isEmpty)
 | .int i=>some (i != 0)
 | _=>none
abbrev aN:List D->Option (List Int)
 | []=>some []
 | .int i::r=>(aN r).map (i :: ·)
 | _=>none
abbrev fq:List D->Option (List Bool)
 | []=>some []
 | .bl i::r=>(fq r).map (i :: ·)
 | _=>none
abbrev strs?:List D->Option (List Str)
 | []=>some []
 | .str i::r=>(strs? r).map (i :: ·)
 | _=>none
abbrev cS(a:Int):List Int->List Int
 | []=>[a]
 | b::r=>if a<=b then a::b::r else b::cS a r
abbrev sortI:List Int->List Int
 | []=>[]
 | a::r=>cS a (sortI r)
abbrev bG(xs:List Int):List Int:=xs.foldl (fun m k=>if m.any (· == k)then m else m++[k]) []
abbrev items:D->Option (List D)
 | .lst xs=>some xs
 | .tup xs=>some xs
 | .fL xs=>some xs
 | _=>none
abbrev gA:D->Option (List D)
 | .fL xs=>some xs
 | .lst xs=>some xs
 | .tup xs=>some xs
 | _=>none
@[simp] theorem itemsS_lst:gA (.lst xs)=some xs:=rfl
@[simp] theorem itemsS_tup:gA (.tup xs)=some xs:=rfl
abbrev mQ:D->Option (List D)
 | .lst xs=>some xs
 | .tup xs=>some xs
 | .str x=>some (x.cps.toList.map fun c=>.str ⟨#[c]⟩)
 | _=>none
abbrev zu:List Str->Bool
 | a::b::r=>!decide (b.cps.toList<a.cps.toList)&&zu (b::r)
 | _=>true
abbrev biV:Bi->D->Option D
 | .len,.str x=>if x.length<=most then some (.int x.length)else none
 | .len,.dK ks _=>some (.int ks.length)
 | .len,.dT ks _=>some (.int ks.length)
 | .len,.fT ks _=>some (.int ks.length)
 | .len,d=>(items d).map fun xs=>.int xs.length
 | .list,d=>(items d).map .lst
 | .tuple,d=>(items d).map .tup
 | .int,.bl b=>some (.int (if b then 1 else 0))
 | .int,.int i=>some (.int i)
 | .int,_=>none
 | .all,.lst xs=>(fq xs).map fun bs=>.bl (bs.all id)
 | .any,.lst xs=>(fq xs).map fun bs=>.bl (bs.any id)
 | .all,_=>none
 | .any,_=>none
 | .lenSet,.lst xs=>if xs.length<=1000 then(aN xs).map fun is=>.int (bG is).length else none
 | .lenSet,_=>none
 | .sorted,.lst xs=>if xs.length<64 then(aN xs).map fun is=>.lst ((sortI is).map .int)else none
 | .sorted,_=>none
 | .sortedSet,.lst xs=>if xs.length<=5 then(aN xs).map fun is=>.lst ((sortI (bG is)).map .int)else(aN xs).bind fun is=>if(bG is).length<=4 then some (.lst ((sortI (bG is)).map .int))else none
 | .sortedSet,_=>none
 | .abs,.int i=>some (.int (if i<0 then -i else i))
 | .abs,_=>none
 | .sortedS,.lst xs=>(strs? xs).bind fun ss=>if zu ss then some (.lst xs)else none
 | .sortedS,_=>none
 | .sum,.lst xs=>(aN xs).map fun is=>.int is.sum
 | .sum,_=>none
abbrev AU:Ty->D->Option Bool
 | .int,.int _=>some true
 | .int,.bl _=>some true
 | .bool,.bl _=>some true
 | .list,.lst _=>some true
 | .list,.fL _=>some true
 | .tuple,.tup _=>some true
 | .str,.str _=>some true
 | _,.non=>some false
 | _,.bl _=>some false
 | _,.int _=>some false
 | _,.str _=>some false
 | _,.tup _=>some false
 | _,.lst _=>some false
 | _,.fL _=>some false
 | _,_=>none
abbrev keyOf:D->Option Ky
 | .int i=>some (.inl i)
 | .str x=>some (.inr x)
 | _=>none
abbrev keysOf:List D->Option (List Ky)
 | []=>some []
 | d::r=>(keyOf d).bind fun k=>(keysOf r).map (k :: ·)
abbrev a4{κ:Type} [DecidableEq κ]:List κ->List D->κ->Option D
 | k::ks,v::vs,x=>if k=x then some v else a4 ks vs x
 | _,_,_=>none
abbrev putD{κ:Type} [DecidableEq κ](ks:List κ)(vs:List D)(x:κ)(d:D):List κ × List D :=
 if x∈ks then(ks,List.zipWith (fun k v=>if k=x then d else v) ks vs)else(ks++[x],vs++[d])
abbrev ixV:D->D->Option D
 | .lst xs,.int i=>bB xs i
 | .tup xs,.int i=>bB xs i
 | .str x,.int i=>if x.length<=most then(bB x.cps.toList i).map fun c=>.str ⟨#[c]⟩else none
 | .fL xs,.int i=>if ah xs then bB xs i else none
 | _,_=>none
abbrev iS:D->D->Option D
 | .dK ks vs,k=>(keyOf k).bind (a4 ks vs)
 | .dT ks vs,.tup k=>(keysOf k).bind (a4 ks vs)
 | .fT ks vs,.tup k=>(keysOf k).bind (a4 ks vs)
 | _,_=>none
abbrev AF:D->D->D->Option D
 | .dK ks vs,k,z=>(keyOf k).map fun q=>(a4 ks vs q).getD z
 | .dT ks vs,.tup k,z=>(keysOf k).map fun q=>(a4 ks vs q).getD z
 | _,_,_=>none
abbrev my:D->D->Option Bool
 | .dK ks vs,k=>(keyOf k).map fun k=>(a4 ks vs k).isSome
 | .dT ks vs,.tup k=>(keysOf k).map fun k=>(a4 ks vs k).isSome
 | .fT ks _,.tup k=>(keysOf k).map fun k=>ks.any fun x=>decide (x=k)
 | _,_=>none
abbrev flat:D->Bool
 | .int _=>true
 | .str _=>true
 | _=>false
abbrev eqF:D->D->Bool
 | .int a,.int b=>a == b
 | .str a,.str b=>a == b
 | _,_=>false
abbrev inV(a b:D):Option Bool :=
 (items b).bind fun xs=>if flat a&&xs.all flat then some (xs.any fun x=>eqF x a)else none
abbrev nF:D->D->Option D
 | .scr xs,.int k=>some (.lst (xs.take (cutAt xs.length k)))
 | .lst xs,.int k=>some (.lst (xs.take (cutAt xs.length k)))
 | .tup xs,.int k=>if cutAt xs.length k<xs.length then some (.tup (xs.take (cutAt xs.length k)))else none
 | _,_=>none
abbrev bu(lo:Int):Nat->List D
 | 0=>[]
 | n+1=>.int lo::bu (lo+1) n
abbrev dH(c lo:Int):Nat->List D
 | 0=>[]
 | n+1=>.int lo::dH c (lo+c) n
abbrev bQ(c a b:Int):Nat:=(if c > 0 then(if a<b then(b-a-1) / c+1 else 0)else(if a > b then(a-b-1) / (-c)+1 else 0)).toNat
abbrev ck:D->D->Option (List D)
 | .int a,.int b=>if(b-a).toNat<=most/\-(2 ^ 60)<=a/\a<2 ^ 60/\-(2 ^ 60)<=b/\b<2 ^ 60 then some (bu a (b-a).toNat)else none
 | _,_=>none
abbrev DP(c:Int):D->D->Option (List D)
 | .int a,.int b=>if c≠0/\-(2 ^ 60)<c/\c<2 ^ 60/\bQ c a b<=most/\-(2 ^ 60)<=a/\a<2 ^ 60/\-(2 ^ 60)<=b/\b<2 ^ 60 then some (dH c a (bQ c a b))else none
 | _,_=>none
abbrev d5(i:Int):List D->List D
 | []=>[]
 | d::r=>.tup [.int i,d]::d5 (i+1) r
abbrev eX:List D->List D->List D
 | a::r,b::s=>.tup [a,b]::eX r s
 | _,_=>[]
abbrev ba:List Nat->List D->St->Option St
 | [],[],σ=>some σ
 | i::is,d::ds,σ=>ba is ds (σ.set i (some d))
 | _,_,_=>none
abbrev bc(tg:List Nat)(d:D)(σ:St):Option St :=
 match tg with
 | [i]=>some (σ.set i (some d))
 | tg=>match d with
  | .tup ds=>ba tg ds σ
  | .lst ds=>ba tg ds σ
  | _=>none
abbrev jP(y:Option D)(ys:List D):Option (List D) :=
 match y with
 | some e=>if e.imm then some (e::ys)else none
 | none=>some ys
abbrev bM(f:St->Option (Option D))(tg:List Nat)(σ:St):List D->Option (List D)
 | []=>some []
 | d::r=>(bc tg d σ).bind fun σ1=>(f σ1).bind fun y=>(bM f tg σ r).bind (jP y)
abbrev aI:D->Bool
 | .lst xs=>ah xs
 | .dK _ vs=>ah vs
 | .dT _ vs=>ah vs
 | _=>false
abbrev gw(f:St->Option D)(fr:Bool)(tg:List Nat)(σ:St):List D->Option (List D)
 | []=>some []
 | d::r=>(bc tg d σ).bind fun σ1=>(f σ1).bind fun y=>if aI y&&fr then(gw f fr tg σ r).map (y :: ·)else none
abbrev fits(xs:List D):Option (List D):=if xs.length<=most then some xs else none
abbrev az:E->Bool
 | .lst _=>true
 | .tup _=>true
 | .comp _ _ _ _=>true
 | .compA _ _ _=>true
 | .compL _ _ _=>true
 | .bin _ _ _=>true
 | .cat _ _=>true
 | .slT _ _=>true
 | .rev _=>true
 | .call _ _=>true
 | .bi _ _=>true
 | .rng1 _=>true
 | .rng2 _ _=>true
 | .dk0=>true
 | .dt0=>true
 | .dt1 _ _=>true
 | .lsD _=>true
 | _=>false
abbrev wb(n c:Str):Bool:=n == c || c == "RibbonError" || c == "ValueError"
abbrev DO(neg:Bool):D->Option D
 | .non=>some (.bl (!neg))
 | .dK _ _=>none
 | .dT _ _=>none
 | .fT _ _=>none
 | _=>some (.bl neg)
abbrev pN(y:Option D):D->Option D
 | .bl true=>y
 | .bl false=>some (.bl false)
 | _=>none
abbrev orV(y:Option D):D->Option D
 | .bl false=>y
 | .bl true=>some (.bl true)
 | _=>none
abbrev DC:D->Option D
 | .lst xs=>some (.lst xs.reverse)
 | .tup xs=>some (.tup xs.reverse)
 | _=>none
abbrev Aw:D->Option D
 | .int i=>some (.int (-i))
 | _=>none
abbrev DU:D->D->Option D
 | .str x,.str y=>match y.cps.toList with
  | [c]=>some (.int (x.cps.toList.count c:Nat))
  | _=>none
 | _,_=>none
abbrev Ea:D->D->Option D
 | .str x,.int k=>if 0<=k/\x.length<=most then some (.str ⟨(x.cps.toList.take k.toNat).toArray⟩)else none
 | _,_=>none
abbrev Eb:D->D->Option D
 | .str x,.int k=>if 0<=k/\x.length<=most then some (.str ⟨(x.cps.toList.drop k.toNat).toArray⟩)else none
 | _,_=>none
abbrev DW:D->D->D->D->Option D
 | .str x,y,.str z,w=>if x≠z/\y.imm=true/\w.imm=true then some (.dK [.inr x,.inr z] [y,w])else none
 | _,_,_,_=>none
abbrev DT:D->D->Option D
 | .str x,.int n=>if 1<n/\n<=1000/\0<x.length/\x.length<=100 then some (.str ⟨(List.replicate n.toNat x.cps.toList).flatten.toArray⟩)else none
 | _,_=>none
abbrev kyD:Ky->D
 | .inl i=>.int i
 | .inr x=>.str x
abbrev pU:D->Option (List D)
 | .fT ks _=>some (ks.map fun k=>.tup (k.map kyD))
 | _=>none
abbrev Dt:D->Option D
 | .lst xs=>if ah xs then some (.fL xs)else none
 | _=>none
abbrev DM:D->D->Option D
 | .fL a,.lst b=>if a.length+b.length<=most then some (.lst (a++b))else none
 | .lst a,.fL b=>if a.length+b.length<=most then some (.lst (a++b))else none
 | _,_=>none
abbrev Dj:D->D->Option D
 | .tup k,v=>(keysOf k).bind fun q=>if v.imm then some (.dT [q] [v])else none
 | _,_=>none
abbrev lq:List D->Option (List (List Int))
 | []=>some []
 | .fL ds::r=>(aN ds).bind fun is=>(lq r).map (is :: ·)
 | _=>none
abbrev ltL:List Int->List Int->Bool
 | [],[]=>false
 | [],_::_=>true
 | _::_,[]=>false
 | a::r,b::s=>if a=b then ltL r s else decide (a<b)
abbrev gr:List Int->List (List Int)->List Int
 | b,[]=>b
 | b,x::r=>gr (if ltL x b then x else b) r
abbrev vY:D->Option D
 | .lst xs=>(lq xs).bind fun rs=>match rs with
  | []=>none
  | x::r=>some (.fL ((gr x r).map .int))
 | _=>none
abbrev zM:D->Option D
 | .dT ks vs=>some (.fT ks vs)
 | _=>none
@[simp] theorem sv_andt {y:Option D}:pN y (.bl true)=y:=rfl
@[simp] theorem sv_andf {y:Option D}:pN y (.bl false)=some (.bl false):=rfl
@[simp] theorem sv_ort {y:Option D}:orV y (.bl true)=some (.bl true):=rfl
@[simp] theorem sv_orf {y:Option D}:orV y (.bl false)=y:=rfl
@[simp] theorem sv_neg {i:Int}:Aw (.int i)=some (.int (-i)):=rfl
mutual
noncomputable def ev(cl:Cl)(σ:St):E->Option D
 | .var i=>(σ[i]?).bind id
 | .cst d=>some d
 | .glb _ i=>some (.int i)
 | .bin o a b=>(ev cl σ a).bind fun x=>(ev cl σ b).bind fun y=>aQ o x y
 | .cmp c a b=>(ev cl σ a).bind fun x=>(ev cl σ b).bind fun y=>(br c x y).map .bl
 | .chain c c' a b e=>(ev cl σ a).bind fun x=>(ev cl σ b).bind fun y=>(br c x y).bind fun k=>if k then(ev cl σ e).bind fun z=>(br c' y z).map .bl else some (.bl false)
 | .isN neg a=>(ev cl σ a).bind (DO neg)
 | .inD neg a b=>(ev cl σ a).bind fun x=>(ev cl σ b).bind fun y=>(my y x).map fun k=>.bl (if neg then !k else k)
 | .and a b=>(ev cl σ a).bind (pN (ev cl σ b))
 | .or a b=>(ev cl σ a).bind (orV (ev cl σ b))
 | .not a=>((ev cl σ a).bind truth).map fun k=>.bl (!k)
 | .ifx t a b=>((ev cl σ t).bind truth).bind fun k=>if k then ev cl σ a else ev cl σ b
 | .tup es=>(evs cl σ es).map .tup
 | .lst es=>(evs cl σ es).map .lst
 | .ix a b=>(ev cl σ a).bind fun x=>(ev cl σ b).bind fun y=>ixV x y
 | .ixD a b=>(ev cl σ a).bind fun x=>(ev cl σ b).bind fun y=>iS x y
 | .slT a b=>(ev cl σ a).bind fun x=>(ev cl σ b).bind fun y=>nF x y
 | .rev a=>(ev cl σ a).bind DC
 | .call f es=>(evs cl σ es).bind fun ds=>cl f ds
 | .bi b a=>(ev cl σ a).bind fun x=>biV b x
 | .get a b c=>(ev cl σ a).bind fun x=>(ev cl σ b).bind fun y=>(ev cl σ c).bind fun z=>AF x y z
 | .isi a t=>(ev cl σ a).bind fun x=>(AU t x).map .bl
 | .rng1 a=>(ev cl σ a).bind fun x=>(ck (.int 0) x).map .lst
 | .rng2 a b=>(ev cl σ a).bind fun x=>(ev cl σ b).bind fun y=>(ck x y).map .lst
 | .neg a=>(ev cl σ a).bind Aw
 | .comp e tg it c=>(bj cl σ it).bind fun ds=>(fits ds).bind fun ds=>(bM (fun σ1=>((ev cl σ1 c).bind truth).bind fun k=>if k then(ev cl σ1 e).map some else some none) tg σ ds).map .lst
 | .compA e tg it=>(bj cl σ it).bind fun ds=>(fits ds).bind fun ds=>(bM (fun σ1=>(ev cl σ1 e).map some) tg σ ds).map .lst
 | .compL e tg it=>(bj cl σ it).bind fun ds=>(fits ds).bind fun ds=>(gw (fun σ1=>ev cl σ1 e) (az e) tg σ ds).map .lst
 | .frz a=>(ev cl σ a).bind fun x=>if az a then Dt x else none
 | .cat a b=>(ev cl σ a).bind fun x=>(ev cl σ b).bind fun y=>DM x y
 | .dt1 a b=>(ev cl σ a).bind fun x=>(ev cl σ b).bind fun y=>Dj x y
 | .lsD a=>((ev cl σ a).bind pU).map .lst
 | .minL a=>(ev cl σ a).bind vY
 | .dk0=>some (.dK [] [])
 | .dt0=>some (.dT [] [])
noncomputable def evs(cl:Cl)(σ:St):Es->Option (List D)
 | .nil=>some []
 | .cons e es=>(ev cl σ e).bind fun d=>(evs cl σ es).map (d :: ·)
noncomputable def bj(cl:Cl)(σ:St):It->Option (List D)
 | .seq e=>(ev cl σ e).bind gA
 | .rng1 a=>(ev cl σ a).bind fun x=>ck (.int 0) x
 | .rng2 a b=>(ev cl σ a).bind fun x=>(ev cl σ b).bind fun y=>ck x y
 | .key e=>(ev cl σ e).bind pU
 | .enm e=>(ev cl σ e).bind fun x=>(mQ x).map (d5 0)
 | .zip a b=>(ev cl σ a).bind fun x=>(ev cl σ b).bind fun y=>(items x).bind fun xs=>(items y).bind fun ys=>if xs.length=ys.length then some (eX xs ys)else none
end
abbrev clX(cl:Cl)(f:Nat)(ds:List D):Option Str:=(cl (f+1000) ds).bind fun d=>match d with
 | .str x=>some x
 | _=>none
mutual
noncomputable def evX(cl:Cl)(σ:St):E->Option Str
 | .call f es=>match evs cl σ es with
  | some ds=>clX cl f ds
  | none=>zP cl σ es
 | .ix a _=>evX cl σ a
 | _=>none
noncomputable def zP(cl:Cl)(σ:St):Es->Option Str
 | .nil=>none
 | .cons e es=>match ev cl σ e with
  | some _=>zP cl σ es
  | none=>evX cl σ e
end
abbrev written:D->Bool
 | .int i=>decide (i.natAbs<2 ^ 1900)
 | _=>false
inductive Out where
 | nx
 | rt (d:D)
abbrev avE(M:List Nat):E->Bool
 | .var j=>!M.contains j
 | .ix a _=>avE M a
 | .ixD a _=>avE M a
 | .call _ _=>true
 | .compL _ _ _=>true
 | .ifx _ a b=>avE M a&&avE M b
 | _=>false
abbrev pb(M:List Nat):It->Bool
 | .seq e=>avE M e || az e
 | .enm e=>avE M e || az e
 | .zip a b=>(avE M a || az a)&&(avE M b || az b)
 | _=>true
abbrev gm(M:List Nat)(e:E)(d:D):Bool :=
 d.imm || (aI d&&(az e || match e with | .var i=>M.contains i | _=>false))
abbrev b8(M:List Nat)(e:E)(d:D):Bool:=d.imm || (aI d&&az e) || avE M e
abbrev isVar:E->Bool
 | .var _=>true
 | _=>false
abbrev gR(M ps:List Nat):Nat->Es->List D->Bool
 | _,.nil,[]=>true
 | q,.cons e es,d::ds=>(if ps.contains q then isVar e else b8 M e d)&&gR M ps (q+1) es ds
 | _,_,_=>false
abbrev dG:D->D->D->Option D
 | .lst xs,.int k,d=>(vk xs.length k).map fun j=>.lst (xs.set j d)
 | .dK ks vs,k,d=>(keyOf k).bind fun k=>if ks.length<most then some (.dK (putD ks vs k d).1 (putD ks vs k d).2)else none
 | .dT ks vs,.tup k,d=>(keysOf k).bind fun k=>if ks.length<most then some (.dT (putD ks vs k d).1 (putD ks vs k d).2)else none
 | _,_,_=>none
abbrev aP(f:St->Option (Out × St))(tg:List Nat):List D->St->Option (Out × St)
 | [],σ=>some (.nx,σ)
 | d::r,σ=>if d.imm then(bc tg d σ).bind fun σ1=>(f σ1).bind fun p=>match p.1 with
   | .nx=>aP f tg r p.2
   | .rt d=>some (.rt d,p.2)
  else none
abbrev whF(t:St->Option Bool)(f:St->Option (Out × St)):Nat->St->Option (Out × St)
 | 0,_=>none
 | n+1,σ=>(t σ).bind fun k=>if k then(f σ).bind fun p=>match p.1 with
   | .nx=>whF t f n p.2
   | .rt d=>some (.rt d,p.2)
  else some (.nx,σ)
abbrev vG(f:St->Option (Out × St))(fx:St->Option (Str × St))(tg:List Nat):List D->St->Option (Str × St)
 | [],_=>none
 | d::r,σ=>if d.imm then(bc tg d σ).bind fun σ1=>match f σ1 with
   | some p=>match p.1 with
    | .nx=>vG f fx tg r p.2
    | .rt _=>none
   | none=>fx σ1
  else none
abbrev DV:D->Option (D × D)
 | .lst xs=>(xs[xs.length-1]?).map fun d=>(d,.lst xs.dropLast)
 | _=>none
abbrev DY:D->Option D
 | .lst xs=>some (.lst xs.reverse)
 | _=>none
abbrev DS(σ:St)(r w:Nat)(l:D):D->Option (Out × St)
 | .tup [_,R]=>some (.nx,(σ.set w (some l)).set r (some R))
 | _=>none
abbrev DR:D->D->Option D
 | .str a,.str b=>if a.length+b.length<=most then some (.str (a++b))else none
 | _,_=>none
mutual
noncomputable def evS(cl:Cl)(M:List Nat):S->St->Option (Out × St)
 | .asg i e,σ=>(ev cl σ e).bind fun d=>if b8 M e d then some (.nx,σ.set i (some d))else none
 | .own i e,σ=>(ev cl σ e).bind fun d=>if aI d&&az e then some (.nx,σ.set i (some d))else none
 | .unp is e,σ=>(ev cl σ e).bind fun d=>(items d).bind fun ds=>if ah ds then(ba is ds σ).map fun σ1=>(.nx,σ1)else none
 | .par i j a b,σ=>(ev cl σ a).bind fun x=>(ev cl σ b).bind fun y=>if x.imm&&y.imm then some (.nx,(σ.set i (some x)).set j (some y))else none
 | .app i e,σ=>(ev cl σ e).bind fun d=>((σ[i]?).bind id).bind fun l=>match l with
  | .lst xs=>if d.imm&&decide (xs.length<most)then some (.nx,σ.set i (some (.lst (xs++[d]))))else none
  | _=>none
 | .put i k e,σ=>(ev cl σ e).bind fun d=>(ev cl σ k).bind fun kk=>((σ[i]?).bind id).bind fun l=>if d.imm then(dG l kk d).map fun l'=>(.nx,σ.set i (some l'))else none
 | .ife t a b,σ=>((ev cl σ t).bind truth).bind fun k=>if k then ak cl M a σ else ak cl M b σ
 | .ifp i e a b,σ=>((σ[i]?).bind id).bind fun l=>match l with
  | .lst xs=>(xs[xs.length-1]?).bind fun d=>(ev cl (σ.set i (some (.lst xs.dropLast))) e).bind fun y=>match d,y with
   | .int p,.int q=>if decide (p=q)then ak cl M b (σ.set i (some (.lst xs.dropLast)))else ak cl M a (σ.set i (some (.lst xs.dropLast)))
   | _,_=>none
  | _=>none
 | .forr tg it b,σ=>(bj cl σ it).bind fun ds=>aP (ak cl M b) tg ds σ
 | .whil t b,σ=>whF (fun σ=>(ev cl σ t).bind truth) (ak cl M b) most σ
 | .mexc f es ps ms,σ=>(evs cl σ es).bind fun ds=>if gR M ps 0 es ds then(cl f ds).bind fun r=>match r with
  | .tup (_::outs)=>(ba ms outs σ).map fun σ1=>(.nx,σ1)
  | _=>none
  else none
 | .ret e,σ=>(ev cl σ e).bind fun d=>if gm M e d then some (.rt d,σ)else none
 | .exc e,σ=>(ev cl σ e).map fun _=>(.nx,σ)
 | .rais _ _,_=>none
noncomputable def ak(cl:Cl)(M:List Nat):Ss->St->Option (Out × St)
 | .nil,σ=>some (.nx,σ)
 | .cons s r,σ=>(evS cl M s σ).bind fun p=>match p.1 with
  | .nx=>ak cl M r p.2
  | .rt d=>some (.rt d,p.2)
 | .opn j e r,σ=>(ev cl σ e).bind fun d=>if aI d&&az e then cq cl M (j::M) r (σ.set j (some d))else none
noncomputable def cq(cl:Cl)(M:List Nat):List Nat->Sq->St->Option (Out × St)
 | _,.cls r,σ=>ak cl M r σ
 | M1,.cons s r,σ=>(evS cl M1 s σ).bind fun p=>match p.1 with
  | .nx=>cq cl M M1 r p.2
  | .rt _=>none
 | M1,.opn j e r,σ=>(ev cl σ e).bind fun d=>if aI d&&az e then cq cl M (j::M1) r (σ.set j (some d))else none
 | _,.frz j r,σ=>(((σ[j]?).bind id).bind zM).bind fun d=>ak cl M r (σ.set j (some d))
 | M1,.fz j r,σ=>(((σ[j]?).bind id).bind zM).bind fun d=>cq cl M M1.tail r (σ.set j (some d))
noncomputable def D7(cl:Cl)(M:List Nat):S->St->Option (Str × St)
 | .asg _ e,σ=>(evX cl σ e).map fun x=>(x,σ)
 | .own _ e,σ=>(evX cl σ e).map fun x=>(x,σ)
 | .unp _ e,σ=>(evX cl σ e).map fun x=>(x,σ)
 | .exc e,σ=>(evX cl σ e).map fun x=>(x,σ)
 | .ret e,σ=>(evX cl σ e).map fun x=>(x,σ)
 | .ife t a b,σ=>((ev cl σ t).bind truth).bind fun k=>if k then jf cl M a σ else jf cl M b σ
 | .forr tg it b,σ=>(bj cl σ it).bind fun ds=>vG (ak cl M b) (jf cl M b) tg ds σ
 | .rais c ps,σ=>(evs cl σ ps).bind fun ds=>if ds.all written then some (c,σ)else none
 | _,_=>none
noncomputable def jf(cl:Cl)(M:List Nat):Ss->St->Option (Str × St)
 | .nil,_=>none
 | .cons s r,σ=>match evS cl M s σ with
  | some p=>match p.1 with
   | .nx=>jf cl M r p.2
   | .rt _=>none
  | none=>D7 cl M s σ
 | .opn _ _ _,_=>none
end
def bW:ev cl σ (.var i)=((σ[i]?).bind id):=rfl
def i4:ev cl σ (.cst d)=(some d):=rfl
def j7:ev cl σ (.bin o a b)=((ev cl σ a).bind fun x=>(ev cl σ b).bind fun y=>aQ o x y):=rfl
def kY:ev cl σ (.cmp c a b)=((ev cl σ a).bind fun x=>(ev cl σ b).bind fun y=>(br c x y).map .bl):=rfl
def pY:ev cl σ (.inD neg a b)=((ev cl σ a).bind fun x=>(ev cl σ b).bind fun y=>(my y x).map fun k=>.bl (if neg then !k else k)):=rfl
def pz:ev cl σ (.and a b)=((ev cl σ a).bind (pN (ev cl σ b))):=rfl
def Dw:ev cl σ (.or a b)=((ev cl σ a).bind (orV (ev cl σ b))):=rfl
def jC:ev cl σ (.tup es)=((evs cl σ es).map .tup):=rfl
def j4:ev cl σ (.lst es)=((evs cl σ es).map .lst):=rfl
def lH:ev cl σ (.ix a b)=((ev cl σ a).bind fun x=>(ev cl σ b).bind fun y=>ixV x y):=rfl
def pR:ev cl σ (.ixD a b)=((ev cl σ a).bind fun x=>(ev cl σ b).bind fun y=>iS x y):=rfl
def BN:ev cl σ (.slT a b)=((ev cl σ a).bind fun x=>(ev cl σ b).bind fun y=>nF x y):=rfl
def nC:ev cl σ (.call f es)=((evs cl σ es).bind fun ds=>cl f ds):=rfl
def mN:ev cl σ (.bi b a)=((ev cl σ a).bind fun x=>biV b x):=rfl
def Ac:ev cl σ (.comp e tg it c)=((bj cl σ it).bind fun ds=>(fits ds).bind fun ds=>(bM (fun σ1=>((ev cl σ1 c).bind truth).bind fun k=>if k then(ev cl σ1 e).map some else some none) tg σ ds).map .lst):=rfl
def xS:ev cl σ (.compA e tg it)=((bj cl σ it).bind fun ds=>(fits ds).bind fun ds=>(bM (fun σ1=>(ev cl σ1 e).map some) tg σ ds).map .lst):=rfl
def C9:ev cl σ (.dk0)=(some (.dK [] [])):=rfl
def CN:ev cl σ (.dt0)=(some (.dT [] [])):=rfl
def gn:evS cl M (.asg i e) σ=((ev cl σ e).bind fun d=>if b8 M e d then some (.nx,σ.set i (some d))else none):=rfl
def p7:evS cl M (.own i e) σ=((ev cl σ e).bind fun d=>if aI d&&az e then some (.nx,σ.set i (some d))else none):=rfl
def Ci:evS cl M (.unp is e) σ=((ev cl σ e).bind fun d=>(items d).bind fun ds=>if ah ds then(ba is ds σ).map fun σ1=>(.nx,σ1)else none):=rfl
def C5:evS cl M (.par i j a b) σ=((ev cl σ a).bind fun x=>(ev cl σ b).bind fun y=>if x.imm&&y.imm then some (.nx,(σ.set i (some x)).set j (some y))else none):=rfl
def vT:evS cl M (.app i e) σ=((ev cl σ e).bind fun d=>((σ[i]?).bind id).bind fun l=>match l with
  | .lst xs=>if d.imm&&decide (xs.length<most)then some (.nx,σ.set i (some (.lst (xs++[d]))))else none
  | _=>none):=rfl
def l4:evS cl M (.put i k e) σ=((ev cl σ e).bind fun d=>(ev cl σ k).bind fun kk=>((σ[i]?).bind id).bind fun l=>if d.imm then(dG l kk d).map fun l'=>(.nx,σ.set i (some l'))else none):=rfl
def jm:evS cl M (.ife t a b) σ=(((ev cl σ t).bind truth).bind fun k=>if k then ak cl M a σ else ak cl M b σ):=rfl
def jl:evS cl M (.forr tg it b) σ=((bj cl σ it).bind fun ds=>aP (ak cl M b) tg ds σ):=rfl
def pq:evS cl M (.ret e) σ=((ev cl σ e).bind fun d=>if gm M e d then some (.rt d,σ)else none):=rfl
def zG:aQ .mul (.int a) (.int b)=(if(-(2 ^ 64)<a/\a<2 ^ 64)\/(-(2 ^ 64)<b/\b<2 ^ 64)then some (.int (a*b))else none):=rfl
def De:aQ .fdiv (.int a) (.int b)=(if 0<b/\b<2 ^ 200 then some (.int (a / b))else none):=rfl
def CU:aQ .mod (.int a) (.int b)=(if 0<b then some (.int (a%b))else none):=rfl
def AZ:br .ge (.int a) (.int b)=(some (decide (b<=a))):=rfl
def Ax:br .eq a b=(eqD 8 a b):=rfl
def yV:dG (.dK ks vs) k d=((keyOf k).bind fun k=>if ks.length<most then some (.dK (putD ks vs k d).1 (putD ks vs k d).2)else none):=rfl
def zg:dG (.dT ks vs) (.tup k) d=((keysOf k).bind fun k=>if ks.length<most then some (.dT (putD ks vs k d).1 (putD ks vs k d).2)else none):=rfl
def jE:bc [i] d σ=some (σ.set i (some d)):=rfl
def za:eqD n (.int a) (.int b)=some (a == b):=by cases n<;>rfl
def B3:eqD n (.str a) (.str b)=some (a == b):=by cases n<;>rfl
def Bz:eqD n (.bl a) (.bl b)=some (a == b):=by cases n<;>rfl
def Ck:biV .len (.tup xs)=some (.int xs.length):=rfl
def DI:biV .tuple d=(items d).map .tup:=rfl
def yZ:biV .int (.bl b)=some (.int (if b then 1 else 0)):=rfl
def vE:biV .lenSet (.lst xs)=if xs.length<=1000 then(aN xs).map fun is=>.int (bG is).length else none:=rfl
def Cj:biV .len (.str x)=if x.length<=most then some (.int x.length)else none:=rfl
def BR:biV .sorted (.lst xs)=if xs.length<64 then(aN xs).map fun is=>.lst ((sortI is).map .int)else none:=rfl
def Co:biV .sortedSet (.lst xs)=if xs.length<=5 then(aN xs).map fun is=>.lst ((sortI (bG is)).map .int)else(aN xs).bind fun is=>if(bG is).length<=4 then some (.lst ((sortI (bG is)).map .int))else none:=rfl
def AG:avE M (.var j)=!M.contains j:=rfl
set_option autoImplicit false
structure Fn where
 ps:Nat
 nn:Nat
 M:List Nat
 mp:List Nat
 body:Ss
abbrev fo(σ:St):List Nat->Option (List D)
 | []=>some []
 | i::is=>((σ[i]?).bind id).bind fun d=>(fo σ is).map (d :: ·)
abbrev bE(fn:Fn)(d:D)(σ:St):Option D :=
 if fn.mp.isEmpty then some d else if d.imm then(fo σ fn.mp).map fun os=>.tup (d::os)else none
abbrev aK(T:List Fn):Nat->Cl
 | 0,_,_=>none
 | n+1,f,ds=>match T[f]? with
  | some fn=>if ds.length=fn.ps then(ak (aK T n) fn.M fn.body (ds.map some++List.replicate (fn.nn-fn.ps) none)).bind fun p=>match p.1 with
   | .nx=>bE fn .non p.2
   | .rt d=>bE fn d p.2
   else none
  | none=>(T[f-1000]?).bind fun fn=>if ds.length=fn.ps/\fn.mp=[]then(jf (aK T n) fn.M fn.body (ds.map some++List.replicate (fn.nn-fn.ps) none)).map fun p=>.str p.1 else none
end RL
namespace RT
open RL
abbrev nI:Fn :=
 ⟨1,1,[],[],(.cons (.ret (.and (.isi (.var 0) .int) (.not (.isi (.var 0) .bool)))) .nil)⟩
abbrev jM(f_is_number:Nat):Fn :=
 ⟨1,1,[],[],(.cons (.ret (.and (.call f_is_number (.cons (.var 0) .nil)) (.chain .le .le (.cst (.int 1)) (.var 0) (.glb "MOST_PEGS" 10)))) .nil)⟩
abbrev BS:Fn :=
 ⟨3,3,[0,0],[0],(.cons (.put 0 (.var 1) (.var 2)) (.cons (.put 0 (.var 2) (.var 1)) .nil))⟩
abbrev qA:Fn :=
 ⟨1,1,[],[],(.cons (.ret (.bin .fdiv (.bi .len (.var 0)) (.cst (.int 2)))) .nil)⟩
abbrev gS:Fn :=
 ⟨1,3,[],[],(.cons (.asg 1 (.bin .mod (.bin .add (.bin .mul (.var 0) (.cst (.int 48271))) (.cst (.int 11))) (.cst (.int 2147483647)))) (.cons (.asg 2 (.bin .mod (.bin .add (.bin .add (.bin .mul (.var 1) (.var 1)) (.bin .mul (.cst (.int 40692)) (.var 1))) (.var 0)) (.cst (.int 2147483399)))) (.cons (.ret (.bin .mod (.bin .add (.bin .add (.bin .mul (.var 2) (.var 2)) (.bin .mul (.cst (.int 69621)) (.var 2))) (.var 1)) (.cst (.int 2147483563)))) .nil)))⟩
abbrev gi(f_law_mix:Nat):Ss :=
 (.cons (.asg 3 (.bin .add (.bin .mul (.var 3) (.cst (.int 2147483563))) (.call f_law_mix (.cons (.bin .add (.bin .add (.var 2) (.bin .mul (.cst (.int 1009)) (.var 1))) (.bin .mul (.cst (.int 7919)) (.var 4))) .nil)))) .nil)
abbrev gG(f_law_mix:Nat):Fn :=
 ⟨2,5,[],[],(.cons (.asg 2 (.bin .add (.bin .mul (.cst (.int 7)) (.var 1)) (.cst (.int 3)))) (.cons (.ife (.cmp .gt (.bi .len (.var 0)) (.cst (.int 0))) (.cons (.asg 2 (.bin .add (.ix (.var 0) (.bin .mod (.var 1) (.bi .len (.var 0)))) (.bin .mul (.cst (.int 9973)) (.bin .fdiv (.var 1) (.bi .len (.var 0)))))) .nil) .nil) (.cons (.ife (.and (.cmp .lt (.var 1) (.bi .len (.var 0))) (.cmp .ge (.var 2) (.bin .pow (.cst (.int 10)) (.cst (.int 18))))) (.cons (.ret (.bin .sub (.var 2) (.bin .pow (.cst (.int 10)) (.cst (.int 18))))) .nil) .nil) (.cons (.asg 3 (.cst (.int 0))) (.cons (.forr [4] (.rng1 (.cst (.int 40))) (gi f_law_mix)) (.cons (.ret (.var 3)) .nil))))))⟩
abbrev d3(f_law_raw:Nat):Ss :=
 (.cons (.app 4 (.bin .mod (.var 3) (.var 5))) (.cons (.asg 3 (.bin .fdiv (.var 3) (.var 5))) .nil))
abbrev cK(f_law_raw:Nat):Fn :=
 ⟨3,6,[4],[],(.cons (.asg 3 (.call f_law_raw (.cons (.var 0) (.cons (.var 1) .nil)))) (.cons (.own 4 (.lst .nil)) (.cons (.forr [5] (.seq (.var 2)) (d3 f_law_raw)) (.cons (.ret (.var 4)) .nil))))⟩
abbrev mh(f_names_back:Nat):Fn :=
 ⟨1,2,[],[],(.cons (.ret (.and (.isi (.var 0) .tuple) (.bi .all (.compA (.call f_names_back (.cons (.var 0) (.cons (.var 1) .nil))) [1] (.rng1 (.bi .len (.var 0))))))) .nil)⟩
abbrev mI(f_is_number:Nat):Fn :=
 ⟨2,3,[],[],(.cons (.asg 2 (.ix (.var 0) (.var 1))) (.cons (.ret (.and (.call f_is_number (.cons (.var 2) .nil)) (.and (.chain .le .lt (.cst (.int 0)) (.var 2) (.bi .len (.var 0))) (.cmp .eq (.ix (.var 0) (.var 2)) (.var 1))))) .nil))⟩
abbrev jq:Ss :=
 (.cons (.ife (.cmp .gt (.var 3) (.var 2)) (.cons (.app 1 (.var 2)) .nil) (.cons (.ife (.cmp .eq (.var 3) (.var 2)) (.cons (.ife (.var 1) (.cons (.ret (.cst (.bl false))) .nil) .nil) .nil) (.cons (.ifp 1 (.var 3) (.cons (.ret (.cst (.bl false))) .nil) .nil) .nil)) .nil)) .nil)
abbrev jO:Fn :=
 ⟨1,4,[1],[],(.cons (.own 1 (.lst .nil)) (.cons (.forr [2,3] (.enm (.var 0)) (jq)) (.cons (.ret (.cst (.bl true))) .nil)))⟩
abbrev ph(f_is_uncrossed f_in_round f_is_pairing f_is_peg_count f_pegs_of:Nat):Fn :=
 ⟨1,5,[],[],(.cons (.asg 1 (.call f_pegs_of (.cons (.var 0) .nil))) (.cons (.ife (.or (.cmp .ne (.bi .len (.var 0)) (.bin .mul (.cst (.int 2)) (.var 1))) (.or (.not (.call f_is_peg_count (.cons (.var 1) .nil))) (.not (.call f_is_pairing (.cons (.var 0) .nil))))) (.cons (.ret (.cst (.bl false))) .nil) .nil) (.cons (.asg 2 (.comp (.var 3) [3,4] (.enm (.var 0)) (.cmp .eq (.var 3) (.var 4)))) (.cons (.ret (.and (.not (.var 2)) (.call f_is_uncrossed (.cons (.call f_in_round (.cons (.var 0) .nil)) .nil)))) .nil))))⟩
abbrev kX(f_is_frame:Nat):Fn :=
 ⟨1,1,[],[],(.cons (.ife (.not (.call f_is_frame (.cons (.var 0) .nil))) (.cons (.rais "BadFrame" .nil) .nil) .nil) .nil)⟩
abbrev AN(f_check_frame:Nat):Fn :=
 ⟨1,3,[],[],(.cons (.exc (.call f_check_frame (.cons (.var 0) .nil))) (.cons (.ret (.comp (.tup (.cons (.var 1) (.cons (.var 2) .nil))) [1,2] (.enm (.var 0)) (.cmp .lt (.var 1) (.var 2)))) .nil))⟩
abbrev kP:Fn :=
 ⟨2,2,[],[],(.cons (.ret (.ifx (.cmp .lt (.var 1) (.var 0)) (.var 1) (.bin .sub (.bin .sub (.bin .mul (.cst (.int 3)) (.var 0)) (.cst (.int 1))) (.var 1)))) .nil)⟩
abbrev qg(f_moved f_round_place f_pegs_of:Nat):Fn :=
 ⟨1,3,[],[],(.cons (.asg 1 (.call f_pegs_of (.cons (.var 0) .nil))) (.cons (.ret (.call f_moved (.cons (.var 0) (.cons (.compA (.call f_round_place (.cons (.var 1) (.cons (.var 2) .nil))) [2] (.rng1 (.bin .mul (.cst (.int 2)) (.var 1)))) .nil)))) .nil))⟩
abbrev tq:Ss :=
 (.cons (.put 2 (.ix (.var 1) (.var 3)) (.ix (.var 1) (.var 4))) .nil)
abbrev xj:Fn :=
 ⟨2,5,[2],[],(.cons (.own 2 (.bin .mul (.lst (.cons (.cst (.int 0)) .nil)) (.bi .len (.var 0)))) (.cons (.forr [3,4] (.enm (.var 0)) (tq)) (.cons (.ret (.bi .tuple (.var 2))) .nil)))⟩
abbrev nJ:Fn :=
 ⟨1,2,[],[],(.cons (.ret (.bi .tuple (.bin .add (.compA (.bin .add (.var 0) (.var 1)) [1] (.rng1 (.var 0))) (.rng1 (.var 0))))) .nil)⟩
abbrev nK(f_law_plain:Nat):Ss :=
 (.cons (.put 2 (.var 3) (.bin .add (.var 3) (.cst (.int 1)))) (.cons (.put 2 (.bin .add (.var 3) (.cst (.int 1))) (.var 3)) .nil))
abbrev qk(f_law_plain:Nat):Fn :=
 ⟨2,4,[2],[],(.cons (.own 2 (.bi .list (.call f_law_plain (.cons (.var 0) .nil)))) (.cons (.forr [3] (.seq (.tup (.cons (.var 1) (.cons (.bin .add (.var 0) (.var 1)) .nil)))) (nK f_law_plain)) (.cons (.ret (.bi .tuple (.var 2))) .nil)))⟩
abbrev bN:Ss :=
 (.cons (.ife (.cmp .eq (.ixD (.var 4) (.var 7)) (.var 9)) (.cons (.put 4 (.var 7) (.var 8)) .nil) .nil) .nil)
abbrev cH:Ss :=
 (.cons (.par 8 9 (.ixD (.var 4) (.var 5)) (.ixD (.var 4) (.var 6))) (.cons (.forr [7] (.seq (.var 2)) (bN)) .nil))
abbrev eP:Ss :=
 (.cons (.forr [6] (.seq (.tup (.cons (.ix (.var 1) (.var 5)) (.cons (.bin .sub (.ix (.var 0) (.bin .add (.var 3) (.var 5))) (.var 3)) .nil)))) (cH)) .nil)
abbrev eF:Ss :=
 (.cons (.put 4 (.var 5) (.var 5)) .nil)
abbrev cO:Fn :=
 ⟨3,10,[4],[],(.cons (.asg 3 (.bin .fdiv (.bi .len (.var 0)) (.cst (.int 2)))) (.cons (.own 4 .dk0) (.cons (.forr [5] (.seq (.var 2)) (eF)) (.cons (.forr [5] (.seq (.var 2)) (eP)) (.cons (.ret (.bi .lenSet (.compA (.ixD (.var 4) (.var 5)) [5] (.seq (.var 2))))) .nil)))))⟩
abbrev bK(f_law_rings_by:Nat):Ss :=
 (.cons (.ife (.cmp .eq (.cmp .eq (.ix (.var 7) (.cst (.int 0))) (.cst (.str "high"))) (.cmp .ge (.ix (.var 7) (.cst (.int 1))) (.var 2))) (.cons (.put 6 (.bin .mod (.ix (.var 7) (.cst (.int 1))) (.var 2)) (.cst (.bl true))) (.cons (.asg 7 (.ixD (.var 3) (.tup (.cons (.ix (.lst (.cons (.cst (.str "high")) (.cons (.cst (.str "low")) .nil))) (.bi .int (.cmp .eq (.ix (.var 7) (.cst (.int 0))) (.cst (.str "high"))))) (.cons (.bin .mod (.bin .add (.ix (.var 7) (.cst (.int 1))) (.var 2)) (.bin .mul (.cst (.int 2)) (.var 2))) .nil))))) .nil)) .nil) .nil)
abbrev da(f_law_rings_by:Nat):Ss :=
 (.cons (.asg 7 (.ixD (.var 3) (.tup (.cons (.ix (.lst (.cons (.cst (.str "high")) (.cons (.cst (.str "low")) .nil))) (.bi .int (.cmp .ge (.var 4) (.var 2)))) (.cons (.var 4) .nil))))) (.cons (.forr [8] (.rng1 (.bin .mul (.cst (.int 4)) (.var 2))) (bK f_law_rings_by)) (.cons (.app 5 (.ix (.var 7) (.cst (.int 1)))) .nil)))
abbrev cY(f_law_rings_by:Nat):Ss :=
 (.cons (.put 3 (.tup (.cons (.cst (.str "high")) (.cons (.var 4) .nil))) (.tup (.cons (.cst (.str "high")) (.cons (.ix (.var 0) (.var 4)) .nil)))) (.cons (.put 3 (.tup (.cons (.cst (.str "low")) (.cons (.var 4) .nil))) (.tup (.cons (.cst (.str "low")) (.cons (.ix (.var 1) (.var 4)) .nil)))) .nil))
abbrev d6(f_law_rings_by:Nat):Fn :=
 ⟨2,9,[3,5,6],[],(.cons (.asg 2 (.bin .fdiv (.bi .len (.var 0)) (.cst (.int 2)))) (.cons (.own 3 .dt0) (.cons (.forr [4] (.rng1 (.bin .mul (.cst (.int 2)) (.var 2))) (cY f_law_rings_by)) (.cons (.own 5 (.lst .nil)) (.cons (.own 6 .dk0) (.cons (.forr [4] (.rng1 (.bin .mul (.cst (.int 2)) (.var 2))) (da f_law_rings_by)) (.cons (.ret (.tup (.cons (.bi .tuple (.var 5)) (.cons (.call f_law_rings_by (.cons (.var 0) (.cons (.var 1) (.cons (.comp (.var 4) [4] (.rng1 (.var 2)) (.inD true (.var 4) (.var 6))) .nil)))) .nil)))) .nil)))))))⟩
abbrev pP(f_law_same:Nat):Fn :=
 ⟨2,4,[],[],(.cons (.ife (.isN false (.var 1)) (.cons (.ret (.isN false (.var 0))) .nil) .nil) (.cons (.ife (.or (.cmp .ne (.isi (.var 0) .bool) (.isi (.var 1) .bool)) (.cmp .ne (.isi (.var 0) .int) (.isi (.var 1) .int))) (.cons (.ret (.cst (.bl false))) .nil) .nil) (.cons (.ife (.or (.cmp .ne (.isi (.var 0) .list) (.isi (.var 1) .list)) (.cmp .ne (.isi (.var 0) .tuple) (.isi (.var 1) .tuple))) (.cons (.ret (.cst (.bl false))) .nil) .nil) (.cons (.ife (.and (.not (.isi (.var 1) .list)) (.not (.isi (.var 1) .tuple))) (.cons (.ret (.and (.cmp .eq (.isi (.var 0) .str) (.isi (.var 1) .str)) (.cmp .eq (.var 0) (.var 1)))) .nil) .nil) (.cons (.ret (.and (.cmp .eq (.bi .len (.var 0)) (.bi .len (.var 1))) (.bi .all (.compA (.call f_law_same (.cons (.var 2) (.cons (.var 3) .nil))) [2,3] (.zip (.var 0) (.var 1)))))) .nil)))))⟩
abbrev yb(f_ties f_pegs_of:Nat):Fn :=
 ⟨1,8,[],[],(.cons (.asg 1 (.call f_pegs_of (.cons (.var 0) .nil))) (.cons (.asg 2 (.compL (.bi .sorted (.lst (.cons (.bin .mod (.var 4) (.var 1)) (.cons (.bin .mod (.var 5) (.var 1)) .nil)))) [4,5] (.seq (.call f_ties (.cons (.var 0) .nil))))) (.cons (.ret (.compA (.bi .len (.comp (.var 6) [6,7] (.seq (.var 2)) (.chain .le .lt (.var 6) (.var 3) (.var 7)))) [3] (.rng1 (.bin .sub (.var 1) (.cst (.int 1)))))) .nil)))⟩
abbrev uR(f_seams:Nat):Fn :=
 ⟨1,1,[],[],(.cons (.ret (.bin .fdiv (.bi .sum (.call f_seams (.cons (.var 0) .nil))) (.cst (.int 2)))) .nil)⟩
abbrev vc(f_neighbours_tied f_check_frame:Nat):Fn :=
 ⟨1,1,[],[],(.cons (.exc (.call f_check_frame (.cons (.var 0) .nil))) (.cons (.ret (.call f_neighbours_tied (.cons (.var 0) (.cons (.cst (.int 0)) .nil)))) .nil))⟩
abbrev wQ(f_neighbours_tied f_pegs_of f_check_frame:Nat):Fn :=
 ⟨1,1,[],[],(.cons (.exc (.call f_check_frame (.cons (.var 0) .nil))) (.cons (.ret (.call f_neighbours_tied (.cons (.var 0) (.cons (.call f_pegs_of (.cons (.var 0) .nil)) .nil)))) .nil))⟩
abbrev i8(f_pegs_of:Nat):Fn :=
 ⟨2,3,[],[],(.cons (.ret (.comp (.var 2) [2] (.rng1 (.bin .sub (.call f_pegs_of (.cons (.var 0) .nil)) (.cst (.int 1)))) (.cmp .eq (.ix (.var 0) (.bin .add (.var 1) (.var 2))) (.bin .add (.bin .add (.var 1) (.var 2)) (.cst (.int 1)))))) .nil)⟩
abbrev jj(f_neighbours_tied f_take_off f_check_frame:Nat):Ss :=
 (.cons (.app 2 (.ix (.var 3) (.cst (.int 0)))) (.cons (.mexc f_take_off (.cons (.var 1) (.cons (.ix (.var 3) (.cst (.int 0))) .nil)) [0] [1]) (.cons (.asg 3 (.call f_neighbours_tied (.cons (.var 1) (.cons (.cst (.int 0)) .nil)))) .nil)))
abbrev jS(f_neighbours_tied f_take_off f_check_frame:Nat):Fn :=
 ⟨1,4,[1,2],[],(.cons (.exc (.call f_check_frame (.cons (.var 0) .nil))) (.cons (.own 1 (.bi .list (.var 0))) (.cons (.own 2 (.lst .nil)) (.cons (.asg 3 (.call f_neighbours_tied (.cons (.var 1) (.cons (.cst (.int 0)) .nil)))) (.cons (.whil (.var 3) (jj f_neighbours_tied f_take_off f_check_frame)) (.cons (.ret (.var 2)) .nil))))))⟩
abbrev qb(f_tie f_next_across:Nat):Fn :=
 ⟨2,4,[0,0],[0],(.cons (.asg 2 (.call f_next_across (.cons (.var 0) (.cons (.var 1) .nil)))) (.cons (.asg 3 (.ix (.var 0) (.var 2))) (.cons (.mexc f_tie (.cons (.var 0) (.cons (.var 2) (.cons (.var 1) .nil))) [0] [0]) (.cons (.mexc f_tie (.cons (.var 0) (.cons (.var 3) (.cons (.bin .add (.var 1) (.cst (.int 1))) .nil))) [0] [0]) .nil))))⟩
abbrev kW(f_pegs_of:Nat):Fn :=
 ⟨2,5,[],[],(.cons (.asg 2 (.call f_pegs_of (.cons (.var 0) .nil))) (.cons (.asg 3 (.bin .add (.rev (.rng1 (.var 1))) (.rng2 (.var 2) (.bin .add (.bin .add (.var 2) (.var 1)) (.cst (.int 1)))))) (.cons (.ret (.ix (.comp (.var 4) [4] (.seq (.var 3)) (.cmp .gt (.bin .mod (.ix (.var 0) (.var 4)) (.var 2)) (.var 1))) (.cst (.int 0)))) .nil)))⟩
end RT
set_option maxHeartbeats 1000000
namespace K26
open RL RT
abbrev jw(f_law_hung f_law_hook f_law_plain:Nat):Ss :=
 (.cons (.asg 9 (.cat (.var 9) (.var 11))) .nil)
abbrev jz(f_law_hung f_law_hook f_law_plain:Nat):Ss :=
 (.cons (.put 1 (.var 7) (.minL (.compA (.var 10) [10,11] (.seq (.ixD (.var 5) (.var 7)))))) (.cons (.asg 9 (.compA (.ix (.var 10) (.cst (.int 0))) [10,11] (.seq (.ixD (.var 5) (.var 7))))) (.cons (.forr [10,11] (.seq (.ixD (.var 5) (.var 7))) (jw f_law_hung f_law_hook f_law_plain)) (.cons (.put 2 (.var 7) (.tup (.cons (.frz (.bi .sortedSet (.var 9))) (.cons (.frz (.bi .sortedSet (.compA (.ix (.var 10) (.neg (.cst (.int 1)))) [10,11] (.seq (.ixD (.var 5) (.var 7)))))) .nil)))) .nil))))
abbrev c7(f_law_hung f_law_hook f_law_plain:Nat):Ss :=
 (.cons (.asg 7 (.ix (.call f_law_hung (.cons (.var 6) (.cons (.call f_law_hook (.cons (.var 0) (.cons (.var 8) .nil))) .nil))) (.cst (.int 0)))) (.cons (.ife (.inD true (.var 7) (.var 1)) (.cons (.put 5 (.var 7) (.frz (.cat (.get (.var 5) (.var 7) (.frz (.lst .nil))) (.lst (.cons (.tup (.cons (.frz (.cat (.ixD (.var 1) (.var 6)) (.lst (.cons (.var 8) .nil)))) (.cons (.ix (.ixD (.var 2) (.var 6)) (.cst (.int 0))) .nil))) .nil))))) .nil) .nil) .nil))
abbrev cC(f_law_hung f_law_hook f_law_plain:Nat):Ss :=
 (.cons (.forr [8] (.rng1 (.bin .sub (.var 0) (.cst (.int 1)))) (c7 f_law_hung f_law_hook f_law_plain)) .nil)
abbrev cF(f_law_hung f_law_hook f_law_plain:Nat):Ss :=
 (.opn 5 .dt0 (.cons (.forr [6] (.seq (.var 3)) (cC f_law_hung f_law_hook f_law_plain)) (.frz 5 (.cons (.forr [7] (.key (.var 5)) (jz f_law_hung f_law_hook f_law_plain)) (.cons (.asg 3 (.lsD (.var 5))) .nil)))))
abbrev aO(f_law_hung f_law_hook f_law_plain:Nat):Fn :=
 ⟨1,12,[],[],(.opn 1 (.dt1 (.call f_law_plain (.cons (.var 0) .nil)) (.frz (.lst .nil))) (.opn 2 (.dt1 (.call f_law_plain (.cons (.var 0) .nil)) (.tup (.cons (.frz (.lst .nil)) (.cons (.frz (.lst .nil)) .nil)))) (.cons (.asg 3 (.lst (.cons (.call f_law_plain (.cons (.var 0) .nil)) .nil))) (.cons (.forr [4] (.rng1 (.bin .mul (.var 0) (.var 0))) (cF f_law_hung f_law_hook f_law_plain)) (.fz 2 (.frz 1 (.cons (.ret (.tup (.cons (.var 1) (.cons (.var 2) .nil)))) .nil)))))))⟩
abbrev AS(f_law_same f_firsts f_lasts f_length f_shortest_row f_law_shortest f_law_digits:Nat):Ss :=
 (.cons (.own 6 (.call f_shortest_row (.cons (.var 2) .nil))) (.cons (.ife (.not (.call f_law_same (.cons (.var 6) (.cons (.ixD (.var 3) (.var 2)) .nil)))) (.cons (.ret (.cst (.bl false))) .nil) .nil) (.cons (.app 6 (.cst (.int 0))) .nil)))
abbrev mW(f_law_same f_firsts f_lasts f_length f_shortest_row f_law_shortest f_law_digits:Nat):Ss :=
 (.cons (.forr [5] (.rng1 (.cst (.int 2))) (AS f_law_same f_firsts f_lasts f_length f_shortest_row f_law_shortest f_law_digits)) (.cons (.ife (.not (.call f_law_same (.cons (.call f_length (.cons (.var 2) .nil)) (.cons (.bi .len (.ixD (.var 3) (.var 2))) .nil)))) (.cons (.ret (.cst (.bl false))) .nil) .nil) (.cons (.ife (.not (.call f_law_same (.cons (.lst (.cons (.frz (.call f_firsts (.cons (.var 2) .nil))) (.cons (.frz (.call f_lasts (.cons (.var 2) .nil))) .nil))) (.cons (.lst (.cons (.ix (.ixD (.var 4) (.var 2)) (.cst (.int 0))) (.cons (.ix (.ixD (.var 4) (.var 2)) (.cst (.int 1))) .nil))) .nil)))) (.cons (.ret (.cst (.bl false))) .nil) .nil) .nil)))
abbrev vN(f_law_same f_firsts f_lasts f_length f_shortest_row f_law_shortest f_law_digits:Nat):Fn :=
 ⟨1,7,[6],[],(.cons (.asg 0 (.slT (.var 0) (.cst (.int 63)))) (.cons (.asg 1 (.bin .add (.cst (.int 1)) (.ix (.call f_law_digits (.cons (.var 0) (.cons (.cst (.int 0)) (.cons (.lst (.cons (.cst (.int 5)) .nil)) .nil)))) (.cst (.int 0))))) (.cons (.unp [3,4] (.call f_law_shortest (.cons (.var 1) .nil))) (.cons (.ife (.cmp .ne (.bi .len (.var 3)) (.ix (.lst (.cons (.cst (.int 1)) (.cons (.cst (.int 2)) (.cons (.cst (.int 5)) (.cons (.cst (.int 14)) (.cons (.cst (.int 42)) .nil)))))) (.bin .sub (.var 1) (.cst (.int 1))))) (.cons (.ret (.cst (.bl false))) .nil) .nil) (.cons (.forr [2] (.key (.var 3)) (mW f_law_same f_firsts f_lasts f_length f_shortest_row f_law_shortest f_law_digits)) (.cons (.ret (.cst (.bl true))) .nil))))))⟩
abbrev T:List Fn:=[nI,jM 0,mh 3,mI 0,jO,BS,ph 4 11 2 1 8,kX 6,qA,AN 7,kP,qg 12 10 8,xj,yb 9 8,uR 13,jS 18 19 7,vc 18 7,wQ 18 8 7,i8 8,qb 5 20,kW 8,nJ,cO,d6 22,qk 21,gS,gG 25,cK 26,pP 28,aO 23 24 21,vN 28 16 17 14 15 29 27]
end K26
namespace M
section
end
end M
namespace RL
abbrev evF(cl:Cl)(fn:Fn)(ds:List D):Option D:=if ds.length=fn.ps then(ak cl fn.M fn.body (ds.map some++List.replicate (fn.nn-fn.ps) none)).bind fun p=>match p.1 with
  | .nx=>bE fn .non p.2
  | .rt d=>bE fn d p.2
  else none
def cu(h:T[f]?=some fn):aK T (n+1) f ds=evF (aK T n) fn ds:=by
 rw[aK,h];rfl
abbrev L(xs:List Nat):List D:=xs.map fun(i:Nat)=>.int (i:Int)
def nT(I:List D->St->Prop):∀ (ds done:List D) (σ:St),(∀ pre d post σ,done++ds=pre++d::post->I pre σ->d.imm=true/\∃ σ2,(bc tg d σ).bind f=some (.nx,σ2)/\I (pre++[d]) σ2)->I done σ->∃ σ',aP f tg ds σ=some (.nx,σ')/\I (done++ds) σ'
 | [],done,σ,_,h=>⟨σ,rfl,by simpa using h⟩
 | d::ds,done,σ,hs,h=>by
  obtain⟨im,σ2,h1,h3⟩:=hs done d ds σ rfl h;obtain⟨σ',h4,h5⟩:=nT I ds (done++[d]) σ2 (fun pre e post σ he=>hs pre e post σ (by simpa using he)) h3;refine⟨σ',?_,by simpa using h5⟩;rw[aP,if_pos im]
  cases hb:bc tg d σ with
  | none=>rw[hb]at h1;cases h1
  |some σ1=>
   rw[hb]at h1;simp only[Option.bind_some]at h1 ⊢;rw[h1];exact h4
def xY(I:List D->St->Prop)(h0:I [] σ)(hs:∀ pre d post σ,ds=pre++d::post->I pre σ->d.imm=true/\∃ σ2,(bc tg d σ).bind f=some (.nx,σ2)/\I (pre++[d]) σ2):∃ σ',aP f tg ds σ=some (.nx,σ')/\I ds σ' :=
 nT I ds [] σ (by simpa using hs) h0
@[simp] theorem tf_lst:az (.lst a)=true:=rfl
@[simp] theorem tf_tup:az (.tup a)=true:=rfl
@[simp] theorem tf_comp:az (.comp a b c d)=true:=rfl
@[simp] theorem tf_compA:az (.compA a b c)=true:=rfl
@[simp] theorem tf_bin:az (.bin a b c)=true:=rfl
@[simp] theorem tf_slT:az (.slT a b)=true:=rfl
@[simp] theorem tf_rev:az (.rev a)=true:=rfl
@[simp] theorem tf_call:az (.call a b)=true:=rfl
@[simp] theorem tf_bi:az (.bi a b)=true:=rfl
@[simp] theorem tf_rng1:az (.rng1 a)=true:=rfl
@[simp] theorem tf_rng2:az (.rng2 a b)=true:=rfl
@[simp] theorem tf_dk0:az .dk0=true:=rfl
@[simp] theorem tf_dt0:az .dt0=true:=rfl
end RL
namespace RM
open RL RT
section basics
def uo:br .lt (.int a) (.int b)=some (decide (a<b)):=rfl
def DX:br .le (.int a) (.int b)=some (decide (a<=b)):=rfl
def BC:br .gt (.int a) (.int b)=some (decide (b<a)):=rfl
def vz:br .ge (.int a) (.int b)=some (decide (b<=a)):=rfl
def yH:br .eq (.int a) (.int b)=some (a == b):=rfl
def Di:br .ne (.int a) (.int b)=some (!(a == b)):=rfl
def cg:aQ .add (.int a) (.int b)=some (.int (a+b)):=rfl
def vV:aQ .sub (.int a) (.int b)=some (.int (a-b)):=rfl
def gh(h:0<b):aQ .mod (.int a) (.int b)=some (.int (a%b)):=CU.trans (if_pos h)
def qc(h:0<b)(h':b<2 ^ 200):aQ .fdiv (.int a) (.int b)=some (.int (a / b)):=De.trans (if_pos ⟨h,h'⟩)
def bP(h1:-(2 ^ 64)<a)(h2:a<2 ^ 64):aQ .mul (.int a) (.int b)=some (.int (a*b)):=zG.trans (if_pos (.inl ⟨h1,h2⟩))
def qE(h1:-(2 ^ 64)<b)(h2:b<2 ^ 64):aQ .mul (.int a) (.int b)=some (.int (a*b)):=zG.trans (if_pos (.inr ⟨h1,h2⟩))
def DZ(k:Bool):truth (.bl k)=some k:=rfl
end basics
def wF(h:L xs=pre++d::post):∃ p x q,xs=p++x::q/\pre=L p/\d=.int (x:Nat)/\post=L q:=by
 unfold L at h;obtain⟨p,r,rfl,h1,h2⟩:=List.map_eq_append_iff.mp h;obtain⟨x,q,rfl,h3,h4⟩:=List.map_eq_cons_iff.mp h2;exact⟨p,x,q,rfl,h1.symm,h3.symm,h4.symm⟩
def pO:∀ {a b:List Nat},L a=L b->a=b
 | [],[],_=>rfl
 | [],_::_,h=>by simp[L]at h
 | _::_,[],h=>by simp[L]at h
 | x::a,y::b,h=>by
  unfold L at h;rw[List.map_cons,List.map_cons,List.cons.injEq]at h
  have h1:(x:Int)=y:=by injection h.1
  rw[pO (a:=a) (b:=b) h.2,Int.ofNat_inj.mp h1]
def dh(I:List Nat->St->Prop)(h0:I [] σ)(hs:∀ p x q σ,xs=p++x::q->I p σ->∃ σ2,(bc tg (.int (x:Nat)) σ).bind f=some (.nx,σ2)/\I (p++[x]) σ2):∃ σ',aP f tg (L xs) σ=some (.nx,σ')/\I xs σ':=by
 obtain⟨σ',e,p,hp,hi⟩:=xY (f:=f) (tg:=tg) (ds:=L xs) (σ:=σ) (fun pre σ=>∃ p,pre=L p/\I p σ) ⟨[],rfl,h0⟩ (by
  rintro pre d post σ hd ⟨p',hp',hi⟩;obtain⟨p,x,q,rfl,rfl,rfl,rfl⟩:=wF hd;have:=pO hp';subst this;obtain⟨σ2,h1,h2⟩:=hs p x q σ rfl hi
  exact⟨rfl,σ2,h1,p++[x],by simp[L],h2⟩)
 have:=pO hp;subst this;exact⟨σ',e,hi⟩
def hU(xs:List Nat):(L xs).length=xs.length:=by simp[L]
def CA(xs:List Nat)(i:Nat):(L xs)[i]?=(xs[i]?).map fun(i:Nat)=>.int (i:Int):=by simp[L]
def hJ:∀ xs:List Nat,ah (L xs)=true
 | []=>rfl
 | x::xs=>by
  show((D.int x).imm&&ah (L xs))=true;rw[hJ xs];rfl
def uc(xs ys:List Nat):L (xs++ys)=L xs++L ys:=by simp[L]
def lZ(xs:List α)(i:Nat):bB xs (i:Int)=xs[i]?:=by
 unfold bB;rw[if_pos (Int.natCast_nonneg i)];rfl
def iG(a:Nat):∀ n:Nat,bu (a:Int) n=L (List.range' a n)
 | 0=>rfl
 | n+1=>by
  rw[bu,List.range'_succ];have:=iG (a+1) n;rw[show((a+1:Nat):Int)=(a:Int)+1 by lia]at this;rw[this];rfl
def qO{a b:Nat}(h1:a<=1000)(h2:b<=1000):ck (.int a) (.int b)=some (L (List.range' a (b-a))):=by
 dsimp only[ck]
 have:((b:Int)-a).toNat=b-a:=by lia
 rw[if_pos ⟨by unfold most;lia,by lia,by lia,by lia,by lia⟩,this,iG]
section
abbrev at'(f:List Nat)(x:Nat):Nat:=(f[x]?).getD x
structure Frm(n:Nat)(f:List Nat):Prop where
 len:f.length=2*n
 lt:∀ x,x<2*n->at' f x<2*n
 inv:∀ x,at' f (at' f x)=x
 no:∀ x,x<2*n->at' f x≠x
def wq(h:x<f.length):f[x]?=some (at' f x):=by simp[at',h]
def zi(h:f.length<=x):at' f x=x:=by simp[at',h]
end
section
end
end RM
namespace RL
section
def cb:ak cl M .nil σ=some (.nx,σ):=by rw[ak]
def eL(h:evS cl M s σ=some (.nx,σ'))(k:ak cl M r σ'=res):ak cl M (.cons s r) σ=res:=by
 rw[ak,h];exact k
def v8(h:evS cl M s σ=some (.rt d,σ')):ak cl M (.cons s r) σ=some (.rt d,σ'):=by
 rw[ak,h];rfl
def bZ(h:ev cl σ e=some d)(ok:b8 M e d=true)(k:ak cl M r (σ.set i (some d))=res):ak cl M (.cons (.asg i e) r) σ=res :=
 eL (by rw[gn,h];show(if b8 M e d=true then _ else _)=_;rw[if_pos ok]) k
def Bu(h:ev cl σ e=some d)(ok:(aI d&&az e)=true)(k:ak cl M r (σ.set i (some d))=res):ak cl M (.cons (.own i e) r) σ=res :=
 eL (by rw[p7,h];show(if(aI d&&az e)=true then _ else _)=_;rw[if_pos ok]) k
def gE(h:ev cl σ e=some d)(ok:gm M e d=true):ak cl M (.cons (.ret e) r) σ=some (.rt d,σ) :=
 v8 (by rw[pq,h];show(if gm M e d=true then _ else _)=_;rw[if_pos ok])
def sr(h:(ev cl σ t).bind truth=some true)(h1:ak cl M a σ=some (.nx,σ'))(k:ak cl M r σ'=res):ak cl M (.cons (.ife t a b) r) σ=res :=
 eL (by rw[jm,h];exact h1) k
def x6(h:(ev cl σ t).bind truth=some true)(h1:ak cl M a σ=some (.rt d,σ')):ak cl M (.cons (.ife t a b) r) σ=some (.rt d,σ') :=
 v8 (by rw[jm,h];exact h1)
def Bp(h:(ev cl σ t).bind truth=some false)(h1:ak cl M b σ=some (.nx,σ'))(k:ak cl M r σ'=res):ak cl M (.cons (.ife t a b) r) σ=res :=
 eL (by rw[jm,h];exact h1) k
def ip(h:(ev cl σ t).bind truth=some false)(k:ak cl M r σ=res):ak cl M (.cons (.ife t a .nil) r) σ=res:=Bp h cb k
def zL(h:ev cl σ e=some d)(hd:items d=some ds)(im:ah ds=true)(hs:ba is ds σ=some σ')(k:ak cl M r σ'=res):ak cl M (.cons (.unp is e) r) σ=res :=
 eL (by rw[Ci,h,Option.bind_some,hd];show(if ah ds=true then _ else _)=_;rw[if_pos im,hs];rfl) k
def sM(h:ev cl σ e=some x)(h':ev cl σ e'=some y)(im:(x.imm&&y.imm)=true)(k:ak cl M r ((σ.set i (some x)).set j (some y))=res):ak cl M (.cons (.par i j e e') r) σ=res :=
 eL (by rw[C5,h,Option.bind_some,h'];show(if(x.imm&&y.imm)=true then _ else _)=_;rw[if_pos im]) k
def rK(h:ev cl σ e'=some x)(h':ev cl σ e=some kk)(hi:(σ[i]?).bind id=some l)(im:x.imm=true)(hp:dG l kk x=some l')(k:ak cl M r (σ.set i (some l'))=res):ak cl M (.cons (.put i e e') r) σ=res :=
 eL (by rw[l4,h,Option.bind_some,h',Option.bind_some,hi,Option.bind_some,if_pos im,hp];rfl) k
def eA(h:bj cl σ it=some ds)(h1:aP (ak cl M b) tg ds σ=some (.nx,σ'))(k:ak cl M r σ'=res):ak cl M (.cons (.forr tg it b) r) σ=res :=
 eL (by rw[jl,h];exact h1) k
def aq(h:(σ[i]?).bind id=some d):ev cl σ (.var i)=some d:=by rw[bW];exact h
def aB:ev cl σ (.cst d)=some d:=by rw[i4]
def x_call(h:evs cl σ es=some ds)(hc:cl f ds=some d):ev cl σ (.call f es)=some d:=by rw[nC,h];exact hc
def jg:evs cl σ .nil=some []:=by rw[evs]
def bI(h:ev cl σ e=some d)(hr:evs cl σ es=some ds):evs cl σ (.cons e es)=some (d::ds):=by rw[evs,h,Option.bind_some,hr];rfl
def yq(h:ev cl σ e=some d)(hc:cl f [d]=some x):ev cl σ (.call f (.cons e .nil))=some x:=x_call (bI h jg) hc
def D0(h:ev cl σ e=some d)(h':ev cl σ e'=some d')(h'':ev cl σ e''=some d'')(hc:cl f [d,d',d'']=some x):ev cl σ (.call f (.cons e (.cons e' (.cons e'' .nil))))=some x:=x_call (bI h (bI h' (bI h'' jg))) hc
def aC(h:ev cl σ e=some x)(h':ev cl σ e'=some y)(hb:aQ o x y=some d):ev cl σ (.bin o e e')=some d:=by rw[j7,h,Option.bind_some,h'];exact hb
def cD(h:ev cl σ e=some x)(h':ev cl σ e'=some y)(hb:br o x y=some k):ev cl σ (.cmp o e e')=some (.bl k):=by rw[kY,h,Option.bind_some,h',Option.bind_some,hb];rfl
def mC(h:ev cl σ e=some x)(h':ev cl σ e'=some y)(hb:ixV x y=some d):ev cl σ (.ix e e')=some d:=by rw[lH,h,Option.bind_some,h'];exact hb
def dS(h:ev cl σ e=some x)(hb:biV o x=some d):ev cl σ (.bi o e)=some d:=by rw[mN,h];exact hb
def Cq(h:ev cl σ e=some x)(h':ev cl σ e'=some y)(hb:nF x y=some d):ev cl σ (.slT e e')=some d:=by rw[BN,h,Option.bind_some,h'];exact hb
def fI(h:ev cl σ e=some x)(h':ev cl σ e'=some y)(hb:iS x y=some d):ev cl σ (.ixD e e')=some d:=by rw[pR,h,Option.bind_some,h'];exact hb
def vI(h:evs cl σ es=some ds):ev cl σ (.lst es)=some (.lst ds):=by rw[j4,h];rfl
def BO(h:evs cl σ es=some ds):ev cl σ (.tup es)=some (.tup ds):=by rw[jC,h];rfl
def vX(h:ev cl σ e=some (.bl true))(h':ev cl σ e'=some d):ev cl σ (.and e e')=some d:=by rw[pz,h];exact h'
def rB(h:ev cl σ e=some (.bl false)):ev cl σ (.and e e')=some (.bl false):=by rw[pz,h];rfl
def fZ(h:ev cl σ e=some (.bl k)):(ev cl σ e).bind truth=some k:=by rw[h];rfl
def wI(h:bj cl σ it=some ds)(hf:ds.length<=most)(hm:bM (fun σ1=>(ev cl σ1 e).map some) tg σ ds=some ys):ev cl σ (.compA e tg it)=some (.lst ys):=by
 rw[xS,h,Option.bind_some,fits,if_pos hf,Option.bind_some,hm];rfl
def yU(h:ev cl σ e=some x)(hr:ck (.int 0) x=some ds):bj cl σ (.rng1 e)=some ds:=by rw[bj,h];exact hr
def zq(h:ev cl σ e=some x)(hr:gA x=some ds):bj cl σ (.seq e)=some ds:=by rw[bj,h];exact hr
def iq(h:ev cl σ e=some x)(hr:items x=some ds):bj cl σ (.seq e)=some ds:=zq h (by
 cases x with
 | lst _=>exact hr
 | tup _=>exact hr
 | fL _=>exact hr
 | _=>cases hr)
end
def zr:aP f tg [] σ=some (.nx,σ):=rfl
def jT(im:d.imm=true)(hb:bc tg d σ=some σ1)(h:f σ1=some (.nx,σ2))(k:aP f tg r σ2=res):aP f tg (d::r) σ=res:=by
 rw[aP,if_pos im,hb,Option.bind_some,h];exact k
def eu(hl:ds.length=fn.ps)(hm:fn.mp=[])(h:ak cl fn.M fn.body (ds.map some++List.replicate (fn.nn-fn.ps) none)=some (.rt d,σ')):evF cl fn ds=some d:=by
 unfold evF;rw[if_pos hl,h];show bE fn d σ'=_;unfold bE;rw[hm];rfl
end RL
namespace RM
open RL RT
abbrev LI(xs:List Int):List D:=xs.map D.int
def BD(xs:List Int):(LI xs).length=xs.length:=by simp[LI]
def qt:∀ xs:List Int,ah (LI xs)=true
 | []=>rfl
 | x::xs=>by
  show((D.int x).imm&&ah (LI xs))=true;rw[qt xs];rfl
section
def mod_lt{a b:Int}(h:0<b):0<=a%b/\a%b<b:=⟨Int.emod_nonneg _ (by lia),Int.emod_lt_of_pos _ h⟩
def wK(s:Int):∃ m:Int,evF cl gS [.int s]=some (.int m):=by
 have a1:=mod_lt (a:=s*48271+11) (b:=2147483647) (by decide);generalize h1:(s*48271+11)%2147483647=one at a1;have a2:=mod_lt (a:=one*one+40692*one+s) (b:=2147483399) (by decide);generalize h2:(one*one+40692*one+s)%2147483399=two at a2
 exact⟨_,eu rfl rfl (bZ (d:=.int one) (aC (aC (aC (aq rfl) aB (qE (by decide) (by decide))) aB cg) aB (by rw[gh (by decide),h1])) rfl
  (bZ (d:=.int two) (aC (aC (aC (aC (aq rfl) (aq rfl) (bP (by lia) (by lia))) (aC aB (aq rfl) (bP (by decide) (by decide))) cg) (aq rfl) cg) aB (by rw[gh (by decide),h2])) rfl
  (gE (aC (aC (aC (aC (aq rfl) (aq rfl) (bP (by omega) (by omega))) (aC aB (aq rfl) (bP (by decide) (by decide))) cg) (aq rfl) cg) aB (gh (by decide))) rfl)))⟩
def xm{f:Nat}(h:∀ s:Int,∃ m:Int,cl f [.int s]=some (.int m)){ns:List Int}(hl:ns.length<=63){k:Nat}(hk:k<=1000):∃ r:Int,evF cl (gG f) [.lst (LI ns),.int k]=some (.int r):=by
 have pw:aQ .pow (.int 10) (.int 18)=some (.int 1000000000000000000):=rfl
 have rest:∀ c:Int,∃ r σ',ak cl [] (.cons (.asg 3 (.cst (.int 0))) (.cons (.forr [4] (.rng1 (.cst (.int 40))) (gi f)) (.cons (.ret (.var 3)) .nil))) [some (.lst (LI ns)),some (.int k),some (.int c),none,none]=some (.rt (.int r),σ'):=by
  intro c;have hr:ck (.int 0) (.int 40)=some (L (List.range' 0 40)):=congrArg some (iG 0 40)
  obtain⟨σ',e,r,o,rfl⟩:=dh (f:=ak cl [] (gi f)) (tg:=[4]) (xs:=List.range' 0 40) (σ:=[some (.lst (LI ns)),some (.int k),some (.int c),some (.int 0),none])
   (fun p σ=>∃ (r:Int) (o:Option D),σ=[some (.lst (LI ns)),some (.int k),some (.int c),some (.int r),o]) ⟨0,none,rfl⟩ (by
    rintro p x q σ hx ⟨r,o,rfl⟩;obtain⟨m,hm⟩:=h (c+1009*k+7919*x)
    exact⟨_,bZ (aC (aC (aq rfl) aB (qE (by decide) (by decide))) (yq (aC (aC (aq rfl) (aC aB (aq rfl) (bP (by decide) (by decide))) cg) (aC aB (aq rfl) (bP (by decide) (by decide))) cg) hm) cg) rfl cb,_,_,rfl⟩)
  exact⟨r,_,bZ aB rfl (eA (yU aB hr) e (gE (aq rfl) rfl))⟩
 have len:biV .len (.lst (LI ns))=some (.int ns.length):=congrArg (fun n:Nat=>some (D.int n)) (BD ns)
 have first:ev cl [some (.lst (LI ns)),some (.int k),none,none,none] (.bin .add (.bin .mul (.cst (.int 7)) (.var 1)) (.cst (.int 3)))=some (.int (7*k+3)):=aC (aC aB (aq rfl) (bP (by decide) (by decide))) aB cg
 by_cases h0:0<ns.length
 ·have hmod:=mod_lt (a:=(k:Int)) (b:=(ns.length:Int)) (by lia);obtain⟨j,hj⟩:=Int.eq_ofNat_of_zero_le hmod.1
  have hjl:j<ns.length:=by lia
  have ix:ixV (.lst (LI ns)) (.int ((k:Int)%ns.length))=some (.int ns[j]):=by
   show bB (LI ns) _=_;rw[hj,lZ];simp[LI,hjl]
  obtain⟨r,σ',hr⟩:=rest (ns[j]+9973*((k:Int) / ns.length));generalize hc:ns[j]+9973*((k:Int) / ns.length)=cell at hr
  have cel:∀ {r':Ss} {res:Option (Out × St)},ak cl [] r' [some (.lst (LI ns)),some (.int k),some (.int cell),none,none]=res->ak cl [] (.cons (.asg 2 (.bin .add (.bin .mul (.cst (.int 7)) (.var 1)) (.cst (.int 3)))) (.cons (.ife (.cmp .gt (.bi .len (.var 0)) (.cst (.int 0))) (.cons (.asg 2 (.bin .add (.ix (.var 0) (.bin .mod (.var 1) (.bi .len (.var 0)))) (.bin .mul (.cst (.int 9973)) (.bin .fdiv (.var 1) (.bi .len (.var 0)))))) .nil) .nil) r')) [some (.lst (LI ns)),some (.int k),none,none,none]=res:=fun z =>
   bZ first rfl (sr (fZ (cD (dS (aq rfl) len) aB (by rw[BC,decide_eq_true (by lia)]))) (bZ (d:=.int cell) (aC (mC (aq rfl) (aC (aq rfl) (dS (aq rfl) len) (gh (by lia))) ix) (aC aB (aC (aq rfl) (dS (aq rfl) len) (qc (by lia) (by lia))) (bP (by decide) (by decide))) (by rw[cg,hc])) rfl cb) z)
  by_cases h1:k<ns.length
  ·have c1:br .lt (.int (k:Nat)) (.int (ns.length:Nat))=some true:=by rw[uo,decide_eq_true (by lia)]
   by_cases h2:(1000000000000000000:Int)<=cell
   ·exact⟨_,eu rfl rfl (cel (x6 (fZ (vX (cD (aq rfl) (dS (aq rfl) len) c1) (cD (aq rfl) (aC aB aB pw) (by rw[vz,decide_eq_true h2])))) (gE (aC (aq rfl) (aC aB aB pw) vV) rfl)))⟩
   ·exact⟨r,eu rfl rfl (cel (ip (fZ (vX (cD (aq rfl) (dS (aq rfl) len) c1) (cD (aq rfl) (aC aB aB pw) (by rw[vz,decide_eq_false h2])))) hr))⟩
  ·exact⟨r,eu rfl rfl (cel (ip (fZ (rB (cD (aq rfl) (dS (aq rfl) len) (by rw[uo,decide_eq_false (by lia)])))) hr))⟩
 ·obtain⟨r,σ',hr⟩:=rest (7*k+3);exact⟨r,eu rfl rfl (bZ first rfl (ip (fZ (cD (dS (aq rfl) len) aB (by rw[BC,decide_eq_false (by lia)]))) (ip (fZ (rB (cD (aq rfl) (dS (aq rfl) len) (by rw[uo,decide_eq_false (by lia)])))) hr)))⟩
end
section
abbrev iI(ds sizes:List Nat):Prop:=ds.length=sizes.length/\∀ (i d s:Nat),ds[i]?=some d->sizes[i]?=some s->d<s
def iI.snoc(h:iI ds sizes)(hd:d<s):iI (ds++[d]) (sizes++[s]):=by
 refine⟨by simp[h.1],fun i x y h1 h2=>?_⟩;by_cases hi:i<ds.length
 ·rw[List.getElem?_append_left hi]at h1;rw[List.getElem?_append_left (by rw[<-h.1];exact hi)]at h2;exact h.2 i x y h1 h2
 ·rw[List.getElem?_append_right (by lia)]at h1;rw[List.getElem?_append_right (by rw[<-h.1];lia)]at h2;rw[h.1]at h1
  cases hk:i-sizes.length with
  | zero=>rw[hk]at h1 h2;simp at h1 h2;lia
  | succ k=>rw[hk]at h1;simp at h1
def qh(h:cl f [scr,.int k]=some (.int r))(hp:∀ s∈sizes,0<s/\s<2 ^ 200)(hlen:sizes.length<=1000):∃ ds:List Nat,iI ds sizes/\evF cl (cK f) [scr,.int k,.lst (L sizes)]=some (.lst (L ds)):=by
 obtain⟨σ',e,r',ds,o,hds,rfl⟩:=dh (f:=ak cl [4] (d3 f)) (tg:=[5]) (xs:=sizes) (σ:=[some scr,some (.int k),some (.lst (L sizes)),some (.int r),some (.lst []),none])
  (fun p σ=>∃ (r:Int) (ds:List Nat) (o:Option D),iI ds p/\σ=[some scr,some (.int k),some (.lst (L sizes)),some (.int r),some (.lst (L ds)),o]) ⟨r,[],none,⟨rfl,by simp⟩,rfl⟩ (by
   rintro p x q σ hx ⟨r,ds,o,hds,rfl⟩;have hx0:=hp x (by rw[hx];simp)
   have hpl:p.length<1000:=by
    have:=congrArg List.length hx;simp at this;lia
   have hx1:(0:Int)<x:=by lia
   have hx2:(x:Int)<2 ^ 200:=by
    have:=hx0.2;lia
   obtain⟨d,hd⟩:=Int.eq_ofNat_of_zero_le (Int.emod_nonneg r (show(x:Int)≠0 by lia))
   have hdx:d<x:=by
    have:=Int.emod_lt_of_pos r hx1;lia
   refine⟨[some scr,some (.int k),some (.lst (L sizes)),some (.int (r / x)),some (.lst (L (ds++[d]))),some (.int x)],?_,_,_,_,hds.snoc hdx,rfl⟩
   have hl:(L ds).length<most:=by
    rw[hU,hds.1];unfold most;lia
   simp[jE,d3,ak,vT,gn,j7,bW,gh hx1,qc hx1 hx2,hd,D.imm,hl,b8,uc]
   rfl)
 refine⟨ds,hds,?_⟩;simp[evF,cK,ak,gn,jl,p7,pq,j4,bW,nC,evs,bj,items,h,b8,D.imm,aI,ah];simp[e,gm,aI,hJ,bE]
end
section
end
section
end
def eV(h:(List.range k).map g=p++x::q):p.length<k/\x=g p.length:=by
 have l:((List.range k).map g).length=(p++x::q).length:=by rw[h]
 have e:((List.range k).map g)[p.length]?=(p++x::q)[p.length]?:=by rw[h]
 simp at l e;obtain⟨y,hy,e⟩:=e;refine⟨by lia,?_⟩;rw[List.getElem?_range (by lia)]at hy;cases hy;exact e.symm
def qW(im:∀ x,(g x).imm=true):∀ xs:List Nat,(∀ x∈xs,(bc tg (.int (x:Nat)) σ).bind F=some (if c x then some (g x)else none))->bM F tg σ (L xs)=some ((xs.filter c).map g)
 | [],_=>rfl
 | x::r,h=>by
  have a:=h x (by simp);have b:=qW im r (fun y hy=>h y (by simp[hy]));rw[show L (x::r)=.int x::L r from rfl,bM]
  cases hb:bc tg (.int (x:Nat)) σ with
  | none=>rw[hb]at a;cases a
  |some σ1=>
   rw[hb]at a;simp only[Option.bind_some]at a ⊢;rw[a,b];cases hc:c x<;>simp[jP,im,hc]
def zk(h:xs.length<=1000):fits (L xs)=some (L xs):=by
 unfold fits;rw[if_pos (by rw[hU];unfold most;lia)]
def iH{n:Nat}(h:n<=1000):ck (.int 0) (.int n)=some (L (List.range n)):=by
 have e2:=qO (a:=0) (b:=n) (by lia) h;rw[Nat.sub_zero,<-List.range_eq_range']at e2;exact e2
set_option synthInstance.maxSize 10000 in
set_option synthInstance.maxHeartbeats 0 in
def half{xs:List D}(h:xs.length=2*n):biV .len (.tup xs)=some (.int (2*n)):=by
 simp[Ck,h]
def BK(n:Nat):aQ .fdiv (.int (2*(n:Int))) (.int 2)=some (.int n):=by
 rw[qc (by decide) (by decide)];congr 2;lia
def fB(h:x<f.length):ixV (.tup (L f)) (.int (x:Nat))=some (.int (at' f x:Nat)):=by
 show bB _ _=_;rw[lZ,CA,wq h];rfl
section dicts
variable [DecidableEq κ]
def nq:∀ {ks:List κ} {vs:List D} {x:κ} {d:D} {y:κ},ks.length=vs.length->x∉ks->a4 (ks++[x]) (vs++[d]) y=if x=y then some d else a4 ks vs y
 | [],[],x,d,y,_,_=>by simp[a4]
 | k::ks,v::vs,x,d,y,h,hn=>by
  simp at h hn;have:=nq (ks:=ks) (vs:=vs) (x:=x) (d:=d) (y:=y) h hn.2;simp only[List.cons_append,a4];by_cases e:k=y
  ·rw[if_pos e,if_pos e,if_neg (fun c=>hn.1 (c.trans e.symm))]
  ·rw[if_neg e,if_neg e,this]
def lJ:∀ {ks:List κ} {vs:List D} {x:κ} {d:D} {y:κ},ks.length=vs.length->x∈ks->a4 ks (List.zipWith (fun k v=>if k=x then d else v) ks vs) y=if x=y then some d else a4 ks vs y
 | k::ks,v::vs,x,d,y,h,hm=>by
  simp at h;simp only[List.zipWith_cons_cons,a4];by_cases e:k=y
  ·rw[if_pos e,if_pos e];by_cases e':k=x
   ·rw[if_pos e',if_pos (e'.symm.trans e)]
   ·rw[if_neg e',if_neg (fun c=>e' (e.trans c.symm))]
  ·rw[if_neg e,if_neg e];by_cases hx:x∈ks
   ·exact lJ h hx
   ·have kx:x=k:=by simpa[hx]using hm
    rw[if_neg (fun c=>e (kx.symm.trans c))]
    have:List.zipWith (fun k v=>if k=x then d else v) ks vs=vs:=by
     clear e hm kx
     induction ks generalizing vs with
     | nil=>cases vs with | nil=>rfl | cons _ _=>simp at h
     | cons a ks ih=>cases vs with
      | nil=>simp at h
      |cons b vs=>
       simp at h hx;simp only[List.zipWith_cons_cons];rw[if_neg (fun c=>hx.1 c.symm),ih (vs:=vs) (h:=h) (hx:=hx.2)]
    rw[this]
def cV{ks:List κ}(h:ks.length=vs.length):a4 (putD ks vs x d).1 (putD ks vs x d).2 y=if x=y then some d else a4 ks vs y:=by
 unfold putD;split
 ·exact lJ h ‹_›
 ·exact nq h ‹_›
def dC{ks:List κ}(h:ks.length=vs.length):(putD ks vs x d).1.length=(putD ks vs x d).2.length/\(putD ks vs x d).1.length<=ks.length+1:=by
 unfold putD;split<;>simp[h]
end dicts
abbrev sd(b:Bool):PySem.Str:=if b then PySem.Str.ofString "high" else PySem.Str.ofString "low"
def lu(b:Bool):(sd b == PySem.Str.ofString "high")=b:=by cases b<;>decide +kernel
def zb(h:sd a=sd b):a=b:=by
 have:=lu a;rw[h,lu]at this;exact this.symm
abbrev nk(b:Bool)(p:Nat):List Ky:=[.inr (sd b),.inl (p:Int)]
def mB(h:nk a p=nk b q):a=b/\p=q:=by
 unfold nk at h;injection h with h1 h2;injection h1 with h1;injection h2 with h2;injection h2 with h2;exact⟨zb h1,by lia⟩
abbrev aJ(b:Bool)(x:Nat):D:=.tup [.str (sd b),.int x]
abbrev pick(h l:List Nat)(b:Bool):List Nat:=if b then h else l
abbrev gM(h l:List Nat)(k:Nat)(ks:List (List Ky))(vs:List D):Prop:=ks.length=vs.length/\ks.length<=2*k/\∀ b p,p<k->a4 ks vs (nk b p)=some (aJ b (at' (pick h l b) p))
def gM.next{h l:List Nat}(N:gM h l k ks vs):gM h l (k+1) (putD (putD ks vs (nk true k) (aJ true (at' h k))).1 (putD ks vs (nk true k) (aJ true (at' h k))).2 (nk false k) (aJ false (at' l k))).1 (putD (putD ks vs (nk true k) (aJ true (at' h k))).1 (putD ks vs (nk true k) (aJ true (at' h k))).2 (nk false k) (aJ false (at' l k))).2:=by
 obtain⟨n1,n2,n3⟩:=N;obtain⟨a1,a2⟩:=dC (x:=nk true k) (d:=aJ true (at' h k)) n1;obtain⟨b1,b2⟩:=dC (x:=nk false k) (d:=aJ false (at' l k)) a1;refine⟨b1,by lia,fun b p hp=>?_⟩;rw[cV a1,cV n1];by_cases e:p=k
 ·subst e;cases b
  ·rw[if_pos rfl];rfl
  ·rw[if_neg (fun c=>by have:=(mB c).1;cases this),if_pos rfl];rfl
 ·rw[if_neg (fun c=>e (mB c).2.symm),if_neg (fun c=>e (mB c).2.symm)];exact n3 b p (by lia)
def qr{fr:Nat}(hn:n<=10)(hh:h.length=2*n)(hl:l.length=2*n):∃ ks vs o,gM h l (2*n) ks vs/\aP (ak cl [3,5,6] (cY fr)) [4] (L (List.range (2*n))) [some (.tup (L h)),some (.tup (L l)),some (.int n),some (.dT [] []),none,none,none,none,none]=some (.nx,[some (.tup (L h)),some (.tup (L l)),some (.int n),some (.dT ks vs),o,none,none,none,none]):=by
 obtain⟨σ',e,ks,vs,o,rfl,N⟩:=dh (f:=ak cl [3,5,6] (cY fr)) (tg:=[4]) (xs:=List.range (2*n)) (σ:=[some (.tup (L h)),some (.tup (L l)),some (.int n),some (.dT [] []),none,none,none,none,none])
  (fun p σ=>∃ ks vs o,σ=[some (.tup (L h)),some (.tup (L l)),some (.int n),some (.dT ks vs),o,none,none,none,none]/\gM h l p.length ks vs) ⟨[],[],none,rfl,rfl,by simp,by simp⟩ (by
   rintro p x q σ hx ⟨ks,vs,o,rfl,N⟩;obtain⟨h1,h2⟩:=eV (g:=id) (by simpa using hx);simp only[id]at h2;subst h2;have i1:=fB (f:=h) (x:=p.length) (by lia);have i2:=fB (f:=l) (x:=p.length) (by lia);have a:=dC (x:=nk true p.length) (d:=aJ true (at' h p.length)) N.1
   have m1:ks.length<most:=by have:=N.2.1;unfold most;lia
   have m2:(putD ks vs (nk true p.length) (aJ true (at' h p.length))).1.length<most:=by have:=N.2.1;unfold most;lia
   refine⟨_,?_,_,_,some (.int (p.length:Int)),rfl,by simpa using N.next⟩;have k1:keysOf [.str (PySem.Str.ofString "high"),.int (p.length:Int)]=some (nk true p.length):=rfl;have k2:keysOf [.str (PySem.Str.ofString "low"),.int (p.length:Int)]=some (nk false p.length):=rfl
   have u1:dG (.dT ks vs) (.tup [.str (PySem.Str.ofString "high"),.int (p.length:Int)]) (.tup [.str (PySem.Str.ofString "high"),.int (at' h p.length:Nat)])=some (.dT (putD ks vs (nk true p.length) (aJ true (at' h p.length))).1 (putD ks vs (nk true p.length) (aJ true (at' h p.length))).2):=by
    rw[zg];rw[k1,Option.bind_some,if_pos m1];rfl
   have u2:∀ ks vs,ks.length<most->dG (.dT ks vs) (.tup [.str (PySem.Str.ofString "low"),.int (p.length:Int)]) (.tup [.str (PySem.Str.ofString "low"),.int (at' l p.length:Nat)])=some (.dT (putD ks vs (nk false p.length) (aJ false (at' l p.length))).1 (putD ks vs (nk false p.length) (aJ false (at' l p.length))).2):=by
    intro ks vs m;rw[zg];rw[k2,Option.bind_some,if_pos m];rfl
   simp only[jE,cY,ak,l4,i4,lH,jC,bW,evs,List.set,Option.bind_some,List.getElem?_cons_zero,List.getElem?_cons_succ,id,i1,i2,Option.map_some,D.imm,ah,Bool.and_self,if_true,u1,u2 _ _ m2])
 simp only[List.length_range]at N;exact⟨ks,vs,o,N,e⟩
abbrev stp(n:Nat)(h l:List Nat)(s:Bool × Nat):Bool × Nat:=if s.1=decide (n<=s.2)then(!s.1,at' (pick h l (!s.1)) ((s.2+n)%(2*n)))else s
abbrev itr(n:Nat)(h l:List Nat):Nat->Bool × Nat->Bool × Nat
 | 0,s=>s
 | i+1,s=>stp n h l (itr n h l i s)
abbrev Tr(n:Nat)(s:Bool × Nat)(m:Nat):Prop:=s.1=decide (n<=s.2)/\s.2%n=m
abbrev GD(gk:List Ky)(gv:List D)(k:Nat)(P:Nat->Prop):Prop:=gk.length=gv.length/\gk.length<=k/\∀ m:Nat,(a4 gk gv (.inl (m:Int))).isSome=true↔P m
def GD.put(G:GD gk gv k P)(m0:Nat)(d:D):GD (putD gk gv (.inl (m0:Int)) d).1 (putD gk gv (.inl (m0:Int)) d).2 (k+1) (fun m=>P m\/m0=m):=by
 obtain⟨g1,g2,g3⟩:=G;obtain⟨a1,a2⟩:=dC (x:=(.inl (m0:Int):Ky)) (d:=d) g1;refine⟨a1,by lia,fun m=>?_⟩;rw[cV g1];by_cases e:m0=m
 ·subst e;simp
 ·rw[if_neg (fun c=>e (by injection c;lia)),g3];simp[e]
def GD.mono(G:GD gk gv k P)(hk:k<=k')(h:∀ m,P m↔Q m):GD gk gv k' Q :=
 ⟨G.1,by have:=G.2.1;lia,fun m=>(G.2.2 m).trans (h m)⟩
abbrev hst(n:Nat)(h l:List Nat)(ks:List (List Ky))(vs:List D)(o4:Option D)(fnd:List Nat)(gk:List Ky)(gv:List D)(o7 o8:Option D):St :=
 [some (.tup (L h)),some (.tup (L l)),some (.int n),some (.dT ks vs),o4,some (.lst (L fnd)),some (.dK gk gv),o7,o8]
section
def mE(b:Bool)(x:Nat):ixV (aJ b x) (.int 0)=some (.str (sd b)):=rfl
def iJ(b:Bool)(x:Nat):ixV (aJ b x) (.int 1)=some (.int (x:Nat)):=rfl
def je(b:Bool):ixV (.lst [.str (PySem.Str.ofString "high"),.str (PySem.Str.ofString "low")]) (.int (if b=true then 1 else 0))=some (.str (sd !b)):=by cases b<;>rfl
def xF(h1:1<=n)(hn:n<=10)(N:gM h l (2*n) ks vs)(hx:x<2*n)(G:GD gk gv k P)(hk:k<=2000)(o4 o8:Option D)(t:D) :
  ∃ gk' gv',GD gk' gv' (k+1) (fun m=>P m\/Tr n (b,x) m)/\(bc [8] t (hst n h l ks vs o4 fnd gk gv (some (aJ b x)) o8)).bind (ak cl [3,5,6] (bK fr))=some (.nx,hst n h l ks vs o4 fnd gk' gv' (some (aJ (stp n h l (b,x)).1 (stp n h l (b,x)).2)) (some t)):=by
 have e1:aQ .mul (.int 2) (.int n)=some (.int (2*n)):=bP (by decide) (by decide)
 have cnd:ev cl (hst n h l ks vs o4 fnd gk gv (some (aJ b x)) (some t)) (.cmp .eq (.cmp .eq (.ix (.var 7) (.cst (.int 0))) (.cst (.str "high"))) (.cmp .ge (.ix (.var 7) (.cst (.int 1))) (.var 2)))=some (.bl (b == decide (n<=x))):=by
  simp only[hst,kY,lH,bW,i4,Option.bind_some,List.getElem?_cons_zero,List.getElem?_cons_succ,id,mE,iJ,AZ,Ax,B3,Bz,za,lu,Option.map_some];simp
 by_cases e:b=decide (n<=x)
 ·refine⟨_,_,(G.put (x%n) (.bl true)).mono (Nat.le_refl _) (fun m=>by simp[Tr,e]),?_⟩
  have m1:aQ .mod (.int (x:Nat)) (.int n)=some (.int ((x%n:Nat):Int)):=by rw[gh (by lia)];simp
  have m2:aQ .mod (.int ((x:Nat)+(n:Int))) (.int (2*(n:Int)))=some (.int (((x+n)%(2*n):Nat):Int)):=by rw[gh (by lia)];simp
  have u:dG (.dK gk gv) (.int ((x%n:Nat):Int)) (.bl true)=some (.dK (putD gk gv (.inl ((x%n:Nat):Int)) (.bl true)).1 (putD gk gv (.inl ((x%n:Nat):Int)) (.bl true)).2):=by
   rw[yV];dsimp only[keyOf];rw[Option.bind_some,if_pos (by have:=G.2.1;unfold most;lia)]
  have lk:iS (.dT ks vs) (.tup [.str (sd !b),.int (((x+n)%(2*n):Nat):Int)])=some (aJ (!b) (at' (pick h l !b) ((x+n)%(2*n)))):=by
   have:=N.2.2 (!b) ((x+n)%(2*n)) (Nat.mod_lt _ (by lia));rw[<-this];rfl
  have s1:stp n h l (b,x)=(!b,at' (pick h l !b) ((x+n)%(2*n))):=by unfold stp;rw[if_pos e]
  rw[s1]
  have eb:(b == decide (n<=x))=true:=by simp[e]
  rw[eb]at cnd;simp only[jE,hst,List.set,Option.bind_some,bK,ak,gn,jm,l4]at cnd ⊢;rw[cnd];simp only[Option.bind_some,truth,if_true,ak,mN,j7,kY,i4,lH,pR,j4,jC,bW,evs,List.getElem?_cons_zero,List.getElem?_cons_succ,id,mE,iJ,m1,u,D.imm,Option.map_some,List.set,AZ,Ax,B3,Bz,za,lu,yZ,je,cg,e1,m2,lk];have ok:b8 [3,5,6] (.ixD (.var 3) (.tup (.cons (.ix (.lst (.cons (.cst (.str "high")) (.cons (.cst (.str "low")) .nil))) (.bi .int (.cmp .eq (.ix (.var 7) (.cst (.int 0))) (.cst (.str "high"))))) (.cons (.bin .mod (.bin .add (.ix (.var 7) (.cst (.int 1))) (.var 2)) (.bin .mul (.cst (.int 2)) (.var 2))) .nil)))) (aJ (!b) (at' (pick h l !b) ((x+n)%(2*n))))=true:=rfl;rw[if_pos ok];rfl
 ·refine⟨gk,gv,G.mono (by lia) (fun m=>by simp[Tr,e]),?_⟩
  have s1:stp n h l (b,x)=(b,x):=by unfold stp;rw[if_neg e]
  rw[s1]
  have eb:(b == decide (n<=x))=false:=by simp[e]
  rw[eb]at cnd;simp only[jE,hst,List.set,Option.bind_some,bK,ak,gn,jm,l4]at cnd ⊢;rw[cnd];simp[truth,ak]
def AM(hh:∀ x,x<2*n->at' h x<2*n)(hl:∀ x,x<2*n->at' l x<2*n)(hs:s.2<2*n):(stp n h l s).2<2*n:=by
 unfold stp;split
 ·have m:(s.2+n)%(2*n)<2*n:=Nat.mod_lt _ (by lia);cases s.1
  ·exact hh _ m
  ·exact hl _ m
 ·exact hs
def ff(hh:∀ x,x<2*n->at' h x<2*n)(hl:∀ x,x<2*n->at' l x<2*n)(hs:s.2<2*n):∀ i,(itr n h l i s).2<2*n
 | 0=>hs
 | i+1=>AM hh hl (ff hh hl hs i)
abbrev Met(n:Nat)(h l:List Nat)(s:Bool × Nat)(i:Nat)(m:Nat):Prop:=∃ j,j<i/\Tr n (itr n h l j s) m
def xM(h1:1<=n)(hn:n<=10)(N:gM h l (2*n) ks vs)(hh:∀ x,x<2*n->at' h x<2*n)(hl:∀ x,x<2*n->at' l x<2*n)(hs:s.2<2*n)(G:GD gk gv k P)(hk:k<=1000)(o4 o8:Option D) :
  ∃ gk' gv' o8',GD gk' gv' (k+4*n) (fun m=>P m\/Met n h l s (4*n) m)/\aP (ak cl [3,5,6] (bK fr)) [8] (L (List.range (4*n))) (hst n h l ks vs o4 fnd gk gv (some (aJ s.1 s.2)) o8)=some (.nx,hst n h l ks vs o4 fnd gk' gv' (some (aJ (itr n h l (4*n) s).1 (itr n h l (4*n) s).2)) o8'):=by
 obtain⟨σ',e,gk',gv',o8',rfl,G'⟩:=dh (f:=ak cl [3,5,6] (bK fr)) (tg:=[8]) (xs:=List.range (4*n)) (σ:=hst n h l ks vs o4 fnd gk gv (some (aJ s.1 s.2)) o8)
  (fun p σ=>∃ gk' gv' o8',σ=hst n h l ks vs o4 fnd gk' gv' (some (aJ (itr n h l p.length s).1 (itr n h l p.length s).2)) o8'/\GD gk' gv' (k+p.length) (fun m=>P m\/Met n h l s p.length m))
  ⟨gk,gv,o8,rfl,G.mono (by simp) (fun m=>by simp[Met])⟩ (by
   rintro p x q σ hx ⟨gk',gv',o8',rfl,G'⟩;obtain⟨a1,a2⟩:=eV (g:=id) (by simpa using hx);obtain⟨gk2,gv2,G2,e2⟩:=xF (cl:=cl) (fr:=fr) (fnd:=fnd) h1 hn N (ff hh hl hs p.length) G' (by lia) o4 o8' (.int (x:Nat)) (b:=(itr n h l p.length s).1);refine⟨_,e2,gk2,gv2,_,by rw[List.length_append];rfl,G2.mono (by simp;lia) (fun m=>?_)⟩;simp only[Met,List.length_append,List.length_singleton];constructor
   ·rintro((hp | ⟨j,h1,h2⟩) | h2)
    ·exact .inl hp
    ·exact .inr ⟨j,by lia,h2⟩
    ·exact .inr ⟨p.length,by lia,h2⟩
   ·rintro(hp | ⟨j,h1,h2⟩)
    ·exact .inl (.inl hp)
    ·by_cases hj:j=p.length
     ·subst hj;exact .inr h2
     ·exact .inl (.inr ⟨j,by lia,h2⟩))
 simp only[List.length_range]at G' e;exact⟨gk',gv',o8',G',e⟩
abbrev beg(n:Nat)(h l:List Nat)(p:Nat):Bool × Nat:=(decide (p<n),at' (pick h l (decide (p<n))) p)
abbrev dJ(n:Nat)(h l:List Nat):List Nat:=(List.range (2*n)).map fun p=>(itr n h l (4*n) (beg n h l p)).2
abbrev Gn(n:Nat)(h l:List Nat)(k m:Nat):Prop:=∃ p,p<k/\Met n h l (beg n h l p) (4*n) m
def CT(b:Bool):ixV (.lst [.str (PySem.Str.ofString "high"),.str (PySem.Str.ofString "low")]) (.int (if b=true then 1 else 0))=some (.str (sd !b)):=je b
def ya(h1:1<=n)(hn:n<=10)(N:gM h l (2*n) ks vs)(hh:∀ x,x<2*n->at' h x<2*n)(hl:∀ x,x<2*n->at' l x<2*n)(o4 o7 o8:Option D) :
  ∃ gk gv o4' o7' o8',GD gk gv 1000 (Gn n h l (2*n))/\aP (ak cl [3,5,6] (da fr)) [4] (L (List.range (2*n))) (hst n h l ks vs o4 [] [] [] o7 o8)=some (.nx,hst n h l ks vs o4' (dJ n h l) gk gv o7' o8'):=by
 have e4:aQ .mul (.int 4) (.int n)=some (.int (4*n)):=bP (by decide) (by decide);have r4:=iH (n:=4*n) (by lia);rw[show((4*n:Nat):Int)=4*(n:Int) by lia]at r4
 obtain⟨σ',e,gk,gv,o4',o7',o8',rfl,G⟩:=dh (f:=ak cl [3,5,6] (da fr)) (tg:=[4]) (xs:=List.range (2*n)) (σ:=hst n h l ks vs o4 [] [] [] o7 o8)
  (fun p σ=>∃ gk gv o4' o7' o8',σ=hst n h l ks vs o4' ((List.range p.length).map fun p=>(itr n h l (4*n) (beg n h l p)).2) gk gv o7' o8'/\GD gk gv (40*p.length) (Gn n h l p.length))
  ⟨[],[],o4,o7,o8,rfl,rfl,by simp,fun m=>by simp[a4,Gn]⟩ (by
   rintro p x q σ hx ⟨gk,gv,o4',o7',o8',rfl,G⟩;obtain⟨a1,a2⟩:=eV (g:=id) (by simpa using hx);simp only[id]at a2;subst a2
   have hb:(beg n h l p.length).2<2*n:=by
    unfold beg pick;cases decide (p.length<n)
    ·exact hl _ a1
    ·exact hh _ a1
   obtain⟨gk2,gv2,o82,G2,e2⟩:=xM (cl:=cl) (fr:=fr) (fnd:=(List.range p.length).map fun p=>(itr n h l (4*n) (beg n h l p)).2) h1 hn N hh hl hb G (by lia) (some (.int (p.length:Nat))) o8'
   have c1:br .ge (.int (p.length:Nat)) (.int n)=some (!decide (p.length<n)):=by
    rw[vz];congr 1;by_cases c:p.length<n
    ·simp[c]
    ·simp[c];lia
   have lk:iS (.dT ks vs) (.tup [.str (sd (decide (p.length<n))),.int (p.length:Nat)])=some (aJ (beg n h l p.length).1 (beg n h l p.length).2):=by
    have:=N.2.2 (decide (p.length<n)) p.length a1;rw[show aJ (beg n h l p.length).1 (beg n h l p.length).2=aJ (decide (p.length<n)) (at' (pick h l (decide (p.length<n))) p.length)from rfl,<-this];rfl
   have sx:=je (!decide (p.length<n));rw[Bool.not_not]at sx;refine⟨hst n h l ks vs (some (.int (p.length:Nat))) ((List.range (p++[p.length]).length).map fun p=>(itr n h l (4*n) (beg n h l p)).2) gk2 gv2 (some (aJ (itr n h l (4*n) (beg n h l p.length)).1 (itr n h l (4*n) (beg n h l p.length)).2)) o82,?_,gk2,gv2,_,_,_,rfl,G2.mono (by simp;lia) (fun m=>?_)⟩
   ·have ok:b8 [3,5,6] (.ixD (.var 3) (.tup (.cons (.ix (.lst (.cons (.cst (.str "high")) (.cons (.cst (.str "low")) .nil))) (.bi .int (.cmp .ge (.var 4) (.var 2)))) (.cons (.var 4) .nil)))) (aJ (beg n h l p.length).1 (beg n h l p.length).2)=true:=rfl;simp only[jE,hst,List.set,Option.bind_some,da,ak,vT,gn,jl,j7,i4,lH,bW,pR,j4,jC,mN,kY,evs,bj,itemsS_lst,itemsS_tup,List.getElem?_cons_zero,List.getElem?_cons_succ,id,c1,Option.map_some,yZ,sx,lk,e4,r4]at e2 ⊢;rw[if_pos ok];simp only[Option.bind_some,e4,r4,List.getElem?_cons_zero,List.getElem?_cons_succ,id,e2,iJ]
    have ml:((D.int (((itr n h l (4*n) (beg n h l p.length)).2:Nat):Int)).imm&&decide ((L (List.map (fun p=>(itr n h l (4*n) (beg n h l p)).snd) (List.range p.length))).length<most))=true:=by
     simp[D.imm,hU,most];lia
    rw[if_pos ml];simp[L,List.range_succ]
   ·simp only[Gn,List.length_append,List.length_singleton];constructor
    ·rintro(⟨j,h1,h2⟩ | h2)
     ·exact⟨j,by lia,h2⟩
     ·exact⟨p.length,by lia,h2⟩
    ·rintro⟨j,h1,h2⟩;by_cases hj:j=p.length
     ·subst hj;exact .inr h2
     ·exact .inl ⟨j,by lia,h2⟩)
 simp only[List.length_range]at G e;exact⟨gk,gv,o4',o7',o8',G.mono (by lia) (fun _=>Iff.rfl),e⟩
def uZ(h1:1<=n)(hn:n<=10)(h2:h.length=2*n)(l2:l.length=2*n)(hh:∀ x,x<2*n->at' h x<2*n)(hl:∀ x,x<2*n->at' l x<2*n) :
  ∃ inner:List Nat,(∀ m,m∈inner↔m<n/\¬ Gn n h l (2*n) m)/\inner.length<=n/\∀ r:Int,cl fr [.tup (L h),.tup (L l),.lst (L inner)]=some (.int r)->evF cl (d6 fr) [.tup (L h),.tup (L l)]=some (.tup [.tup (L (dJ n h l)),.int r]):=by
 have e1:aQ .mul (.int 2) (.int n)=some (.int (2*n)):=bP (by decide) (by decide);have r2:=iH (n:=2*n) (by lia);rw[show((2*n:Nat):Int)=2*(n:Int) by lia]at r2;have r1:=iH (n:=n) (by lia);obtain⟨ks,vs,o,N,en⟩:=qr (cl:=cl) (fr:=fr) hn h2 l2;obtain⟨gk,gv,o4,o7,o8,G,eb⟩:=ya (cl:=cl) (fr:=fr) h1 hn N hh hl o none none;refine⟨(List.range n).filter fun m:Nat=>!(a4 gk gv (.inl (m:Int))).isSome,fun m=>?_,?_,?_⟩
 ·have:=G.2.2 m;simp[<-this]
 ·have:=List.length_filter_le (fun m:Nat=>!(a4 gk gv (.inl (m:Int))).isSome) (List.range n);simpa using this
 ·intro r hr;have e6:=half (xs:=L h) (n:=n) (by rw[hU,h2]);have e7:=BK n;have ft:=zk (xs:=List.range n) (by simp;lia)
  have mc:=qW (F:=fun σ1=>((ev cl σ1 (.inD true (.var 4) (.var 6))).bind truth).bind fun k=>if k then(ev cl σ1 (.var 4)).map some else some none) (tg:=[4]) (σ:=hst n h l ks vs o4 (dJ n h l) gk gv o7 o8) (g:=fun m=>.int (m:Nat)) (c:=fun m=>!(a4 gk gv (.inl (m:Int))).isSome) (fun _=>rfl) (List.range n) (by
   intro x _;simp only[jE,hst,List.set,Option.bind_some,pY,bW,List.getElem?_cons_zero,List.getElem?_cons_succ,id,my,keyOf,Option.map_some,truth,if_true]
   cases(a4 gk gv (.inl (x:Int))).isSome<;>rfl)
  simp only[evF,d6,ak,gn,jl,p7,pq,mN,j7,i4,bW,j4,jC,C9,CN,bj,itemsS_lst,itemsS_tup];simp[e6,e7,b8,D.imm,aI,ah,e1,r2];rw[en];simp[ak,mN,nC,Ac,bW,pY,evs,bj,e1,r2,aI,ah,D.imm];simp[hst]at eb;rw[show L []=[]from rfl]at eb;rw[eb];simp[ak,evs,bj,r1,ft,DI,items];simp[pY,bW,hst]at mc;rw[mc];rw[show(List.map (fun m:Nat=>D.int (m:Int)) (List.filter (fun m:Nat=>(a4 gk gv (Sum.inl (m:Int))).isNone) (List.range n)))=L (List.filter (fun m:Nat=>(a4 gk gv (Sum.inl (m:Int))).isNone) (List.range n))from rfl];simp at hr;simp[hr,gm,D.imm,ah,hJ,bE]
end
end RM
set_option maxHeartbeats 1000000
namespace K26
open RL RT RM
@[reducible]noncomputable def En:=List Nat × List Nat × List Nat × List Nat
abbrev t1:List En:=[([1,0],[],[],[])]
abbrev t2:List En:=[([2,3,0,1],[],[],[]),([1,0,3,2],[0],[0],[0])]
abbrev t3:List En:=[([3,4,5,0,1,2],[],[],[]),([1,0,5,4,3,2],[0],[0],[0]),([3,2,1,0,5,4],[1],[1],[1]),([1,0,3,2,5,4],[0,1],[0],[1]),([5,2,1,4,3,0],[1,0],[1],[0])]
abbrev t4:List En:=[([4,5,6,7,0,1,2,3],[],[],[]),([1,0,6,7,5,4,2,3],[0],[0],[0]),([4,2,1,7,0,6,5,3],[1],[1],[1]),([4,5,3,2,0,1,7,6],[2],[2],[2]),([1,0,4,7,2,6,5,3],[0,1],[0],[1]),([1,0,3,2,5,4,7,6],[0,2],[0,2],[0,2]),([6,2,1,7,5,4,0,3],[1,0],[1],[0]),([4,2,1,5,0,3,7,6],[1,2],[1],[2]),([4,7,3,2,0,6,5,1],[2,1],[2],[1]),([1,0,4,5,2,3,7,6],[0,1,2],[0],[2]),([1,0,3,2,7,6,5,4],[0,2,1],[0,2],[1]),([3,2,1,0,5,4,7,6],[1,0,2],[1],[0,2]),([6,7,3,2,5,4,0,1],[2,1,0],[2],[0]),([3,2,1,0,7,6,5,4],[1,0,2,1],[1],[1])]
abbrev t5:List En:=[([5,6,7,8,9,0,1,2,3,4],[],[],[]),([1,0,7,8,9,6,5,2,3,4],[0],[0],[0]),([5,2,1,8,9,0,7,6,3,4],[1],[1],[1]),([5,6,3,2,9,0,1,8,7,4],[2],[2],[2]),([5,6,7,4,3,0,1,2,9,8],[3],[3],[3]),([1,0,5,8,9,2,7,6,3,4],[0,1],[0],[1]),([1,0,3,2,9,6,5,8,7,4],[0,2],[0,2],[0,2]),([1,0,7,4,3,6,5,2,9,8],[0,3],[0,3],[0,3]),([7,2,1,8,9,6,5,0,3,4],[1,0],[1],[0]),([5,2,1,6,9,0,3,8,7,4],[1,2],[1],[2]),([5,2,1,4,3,0,7,6,9,8],[1,3],[1,3],[1,3]),([5,8,3,2,9,0,7,6,1,4],[2,1],[2],[1]),([5,6,3,2,7,0,1,4,9,8],[2,3],[2],[3]),([5,6,9,4,3,0,1,8,7,2],[3,2],[3],[2]),([1,0,5,6,9,2,3,8,7,4],[0,1,2],[0],[2]),([1,0,5,4,3,2,7,6,9,8],[0,1,3],[0,3],[1,3]),([1,0,3,2,9,8,7,6,5,4],[0,2,1],[0,2],[1]),([1,0,3,2,7,6,5,4,9,8],[0,2,3],[0,2],[0,3]),([1,0,9,4,3,6,5,8,7,2],[0,3,2],[0,3],[0,2]),([3,2,1,0,9,6,5,8,7,4],[1,0,2],[1],[0,2]),([7,2,1,4,3,6,5,0,9,8],[1,0,3],[1,3],[0,3]),([5,2,1,6,7,0,3,4,9,8],[1,2,3],[1],[3]),([5,2,1,4,3,0,9,8,7,6],[1,3,2],[1,3],[2]),([7,8,3,2,9,6,5,0,1,4],[2,1,0],[2],[0]),([5,4,3,2,1,0,7,6,9,8],[2,1,3],[2],[1,3]),([5,8,9,4,3,0,7,6,1,2],[3,2,1],[3],[1]),([1,0,5,6,7,2,3,4,9,8],[0,1,2,3],[0],[3]),([1,0,5,4,3,2,9,8,7,6],[0,1,3,2],[0,3],[2]),([1,0,3,2,5,4,7,6,9,8],[0,2,1,3],[0,2],[1,3]),([1,0,9,4,3,8,7,6,5,2],[0,3,2,1],[0,3],[1]),([3,2,1,0,9,8,7,6,5,4],[1,0,2,1],[1],[1]),([3,2,1,0,7,6,5,4,9,8],[1,0,2,3],[1],[0,3]),([9,2,1,4,3,6,5,8,7,0],[1,0,3,2],[1,3],[0,2]),([7,4,3,2,1,6,5,0,9,8],[2,1,0,3],[2],[0,3]),([5,4,3,2,1,0,9,8,7,6],[2,1,3,2],[2],[2]),([7,8,9,4,3,6,5,0,1,2],[3,2,1,0],[3],[0]),([1,0,3,2,5,4,9,8,7,6],[0,2,1,3,2],[0,2],[2]),([3,2,1,0,5,4,7,6,9,8],[1,0,2,1,3],[1],[1,3]),([9,2,1,4,3,8,7,6,5,0],[1,0,3,2,1],[1,3],[1]),([9,4,3,2,1,6,5,8,7,0],[2,1,0,3,2],[2],[0,2]),([3,2,1,0,5,4,9,8,7,6],[1,0,2,1,3,2],[1],[2]),([9,4,3,2,1,8,7,6,5,0],[2,1,0,3,2,1],[2],[1])]
abbrev tb:Nat->List En
 | 1=>t1
 | 2=>t2
 | 3=>t3
 | 4=>t4
 | _=>t5
abbrev il(a:List D):Option (List Nat):=(aN a).bind fun is=>if(is.map Int.toNat).map Int.ofNat=is then some (is.map Int.toNat)else none
abbrev rr(n:Nat)(f g:List Nat):Int:=Classical.epsilon fun r:Int=>aK T 28 23 [.tup (L f),.tup (L g)]=some (.tup [.tup (L (dJ n f g)),.int r])
abbrev vP(n:Nat):List D->Option D
 | [.tup a,.tup b]=>(il a).bind fun f=>(il b).bind fun g=>if(tb n).any (fun e=>e.1 == f)&&(tb n).any (fun e=>e.1 == g)then some (.tup [.tup (L (dJ n f g)),.int (rr n f g)])else none
 | _=>none
abbrev clF(n m:Nat):Cl:=fun f ds=>if f=23 then vP n ds else aK T m f ds
abbrev kyL(f:List Nat):List Ky:=f.map fun(x:Nat)=>Sum.inl (x:Int)
abbrev out(t:List En):D:=.tup [.fT (t.map fun e=>kyL e.1) (t.map fun e=>.fL (L e.2.1)),.fT (t.map fun e=>kyL e.1) (t.map fun e=>.tup [.fL (L e.2.2.1),.fL (L e.2.2.2)])]
def k1:evF (clF 1 28) (aO 23 24 21) [.int 1]=some (out t1):=by kernel_rfl
def k2:evF (clF 2 28) (aO 23 24 21) [.int 2]=some (out t2):=by kernel_rfl
def k3:evF (clF 3 28) (aO 23 24 21) [.int 3]=some (out t3):=by kernel_rfl
def k4:evF (clF 4 28) (aO 23 24 21) [.int 4]=some (out t4):=by kernel_rfl
def k5:evF (clF 5 28) (aO 23 24 21) [.int 5]=some (out t5):=by kernel_rfl
abbrev ro(t:List En):D:=.fT (t.map fun e=>kyL e.1) (t.map fun e=>.fL (L e.2.1))
abbrev be(t:List En):D:=.fT (t.map fun e=>kyL e.1) (t.map fun e=>.tup [.fL (L e.2.2.1),.fL (L e.2.2.2)])
abbrev tn(n:Nat)(s:D)(o5 o6:Option D)(e:En):Option (Out × St):=ak (aK T 29) [6] (mW 28 16 17 14 15 29 27) [some s,some (.int (n:Nat)),some (.tup (L e.1)),some (ro (tb n)),some (be (tb n)),o5,o6]
abbrev af(n:Nat)(s:D)(e:En):Option (Out × St):=some (.nx,[some s,some (.int (n:Nat)),some (.tup (L e.1)),some (ro (tb n)),some (be (tb n)),some (.int 1),some (.lst (L e.2.1++[.int 0]))])
def r1(s:D)(o5 o6:Option D):t1.map (tn 1 s o5 o6)=t1.map (af 1 s):=by kernel_rfl
def r2(s:D)(o5 o6:Option D):t2.map (tn 2 s o5 o6)=t2.map (af 2 s):=by kernel_rfl
def r3(s:D)(o5 o6:Option D):t3.map (tn 3 s o5 o6)=t3.map (af 3 s):=by kernel_rfl
def r4(s:D)(o5 o6:Option D):t4.map (tn 4 s o5 o6)=t4.map (af 4 s):=by kernel_rfl
def r5a(s:D)(o5 o6:Option D):(t5.take 14).map (tn 5 s o5 o6)=(t5.take 14).map (af 5 s):=by kernel_rfl
def r5b(s:D)(o5 o6:Option D):((t5.drop 14).take 14).map (tn 5 s o5 o6)=((t5.drop 14).take 14).map (af 5 s):=by kernel_rfl
def r5c(s:D)(o5 o6:Option D):(t5.drop 28).map (tn 5 s o5 o6)=(t5.drop 28).map (af 5 s):=by kernel_rfl
end K26
namespace RM
open RL RT
def mP [DecidableEq κ]:∀ {ks:List κ} {vs:List D} {x:κ} {d:D},a4 ks vs x=some d->x∈ks
 | k::ks,v::vs,x,d,h=>by
  rw[a4]at h;by_cases e:k=x
  ·simp[e]
  ·rw[if_neg e]at h;simp[mP h]
def uy{κ:Type} [DecidableEq κ]{ks:List κ}{vs:List D}{x:κ}(h:a4 ks vs x=some d):(putD ks vs x e).1=ks:=by
 unfold putD;rw[if_pos (mP h)]
abbrev HI(inner:List Nat)(hk:List Ky)(hv:List D):Prop:=hk.length=hv.length/\hk.length<=10/\∀ m∈inner,∃ v:Int,a4 hk hv (.inl (m:Int))=some (.int v)
def HI.put{inner:List Nat}{hk:List Ky}{hv:List D}(H:HI inner hk hv){m:Nat}(hm:m∈inner)(v:Int):HI inner (putD hk hv (.inl (m:Int)) (.int v)).1 (putD hk hv (.inl (m:Int)) (.int v)).2:=by
 obtain⟨a,b,c⟩:=H;obtain⟨v0,h0⟩:=c m hm;refine⟨(dC a).1,by rw[uy h0];exact b,fun i hi=>?_⟩;rw[cV a];by_cases e:(.inl (m:Int):Ky)=.inl (i:Int)
 ·rw[if_pos e];exact⟨v,rfl⟩
 ·rw[if_neg e];exact c i hi
abbrev rst(n:Nat)(h l inner:List Nat)(hk:List Ky)(hv:List D)(o5 o6 o7 o8 o9:Option D):St :=
 [some (.tup (L h)),some (.tup (L l)),some (.lst (L inner)),some (.int n),some (.dK hk hv),o5,o6,o7,o8,o9]
section
def gZ(e:a4 hk hv (.inl (m:Int))=some (.int v)):iS (.dK hk hv) (.int (m:Nat))=some (.int v):=e
def ints_map(v:Nat->Int):∀ xs:List Nat,aN (xs.map fun m=>.int (v m))=some (xs.map v)
 | []=>rfl
 | x::r=>by simp[aN,ints_map v r]
end
section
end
section
variable{n:Nat}
end
section
end
section
end
def su{β:Type}{F:St->Option (Option D)}{tg:List Nat}{σ:St}{h g:β->D}(im:∀ x,(g x).imm=true):∀ xs:List β,(∀ x∈xs,(bc tg (h x) σ).bind F=some (some (g x)))->bM F tg σ (xs.map h)=some (xs.map g)
 | [],_=>rfl
 | x::r,hh=>by
  have a:=hh x (by simp);have b:=su im r (fun y hy=>hh y (by simp[hy]));rw[List.map_cons,bM]
  cases hb:bc tg (h x) σ with
  | none=>rw[hb]at a;cases a
  |some σ1=>
   rw[hb]at a;simp only[Option.bind_some]at a ⊢;rw[a,b];simp[jP,im]
section
end
end RM
set_option maxHeartbeats 1000000
namespace RM
open RL RT
section
end
end RM
set_option maxHeartbeats 1000000
namespace RM
open RL RT
section
end
structure Dg(T:List Fn)(mx rw dg:Nat):Prop where
 D9:T[mx]?=some gS
 DE:T[rw]?=some (gG mx)
 Dn:T[dg]?=some (cK rw)
def Dg.digits{T:List Fn}{mx rw dg:Nat}(h:Dg T mx rw dg){ns:List Int}(hl:ns.length<=63)(n:Nat){k:Nat}{sizes:List Nat}(hk:k<=1000)(hp:∀ s∈sizes,0<s/\s<2 ^ 200)(hz:sizes.length<=1000) :
  ∃ ds:List Nat,iI ds sizes/\aK T (n+3) dg [.lst (LI ns),.int k,.lst (L sizes)]=some (.lst (L ds)):=by
 obtain⟨r,hr⟩:=xm (cl:=aK T (n+1)) (f:=mx) (fun s=>by
  obtain⟨m,hm⟩:=wK (cl:=aK T n) s
  exact⟨m,(cu h.D9).trans hm⟩) hl hk
 obtain⟨ds,h1,h2⟩:=qh (cl:=aK T (n+2)) (f:=rw) ((cu h.DE).trans hr) hp hz;exact⟨ds,h1,(cu h.Dn).trans h2⟩
section
variable{T:List Fn}{mx rw dg pl hk ci ft tx rg hu ov fr:Nat}
end
section
variable{T:List Fn}{nu pc pa nb un if' cf po rp ir mv:Nat}
end
def mY:∀ {a b:List Nat},a.Nodup->(∀ x∈a,x∈b)->a.length<=b.length
 | [],_,_,_=>Nat.zero_le _
 | x::r,b,hn,h=>by
  rw[List.nodup_cons]at hn;have hx:=h x List.mem_cons_self;have:=mY (a:=r) (b:=b.erase x) hn.2 fun y hy=>(List.mem_erase_of_ne (fun e=>hn.1 (by rw[<-e];exact hy))).mpr (h y (List.mem_cons_of_mem _ hy));rw[List.length_erase_of_mem hx]at this;have:0<b.length:=List.length_pos_of_mem hx;simp only[List.length_cons];lia
def BM(hl:ns.length<=63):nF (.scr (LI ns)) (.int 63)=some (.lst (LI ns)):=by
 show some (D.lst ((LI ns).take (cutAt (LI ns).length 63)))=_;rw[List.take_of_length_le]
 have:(LI ns).length=ns.length:=by simp[LI]
 rw[this];unfold cutAt;rw[if_pos (by decide)];have:(63:Int).toNat=63:=rfl;lia
section
end
section
variable{nu pc pa nb un if' cf po rp ir mv:Nat}
end
structure Two(m:Nat)(a b:Nat->Nat):Prop where
 al:∀ x,x<m->a x<m
 bl:∀ x,x<m->b x<m
 ai:∀ x,x<m->a (a x)=x
 bi:∀ x,x<m->b (b x)=x
abbrev wk(a b:Nat->Nat)(x:Nat):Nat->Nat
 | 0=>x
 | k+1=>if k%2=0 then b (wk a b x k)else a (wk a b x k)
abbrev Stp(a b:Nat->Nat)(x k:Nat):Prop:=wk a b x (k+1)=wk a b x k\/wk a b x (k+1)=x
noncomputable instance{a b:Nat->Nat}{x k:Nat}:Decidable (Stp a b x k):=inferInstanceAs (Decidable (_\/_))
section
def cj(h:k%2=0):wk a b x (k+1)=b (wk a b x k):=by rw[wk,if_pos h]
def eN(h:k%2=1):wk a b x (k+1)=a (wk a b x k):=by rw[wk,if_neg (by lia)]
def eK(T:Two m a b)(hx:x<m):∀ k,wk a b x k<m
 | 0=>hx
 | k+1=>by
  rw[wk];split
  ·exact T.bl _ (eK T hx k)
  ·exact T.al _ (eK T hx k)
def gW(T:Two m a b)(hx:x<m)(k:Nat):(if k%2=0 then b (wk a b x (k+1))else a (wk a b x (k+1)))=wk a b x k:=by
 have h:=eK T hx k;rw[wk];split
 ·exact T.bi _ h
 ·exact T.ai _ h
def yp(T:Two m a b)(hx:x<m)(hp:i%2=j%2)(h:wk a b x (i+1)=wk a b x (j+1)):wk a b x i=wk a b x j:=by
 rw[<-gW T hx i,<-gW T hx j,h,hp]
def oM(T:Two m a b)(hx:x<m)(hs:∀ j,j<k->¬ Stp a b x j)(hd:d%2=1):∀ i,i+(d+1)<=k->wk a b x i≠wk a b x (i+(d+1))
 | 0,hk,h=>hs d (by lia) (.inr (by rw[Nat.zero_add]at h;exact h.symm))
 | i+1,hk,h=>oM T hx hs hd i (by lia) (yp T hx (i:=i) (j:=i+(d+1)) (by lia) (by rw[h];congr 1;lia))
def rR(T:Two m a b)(hx:x<m)(hs:∀ j,j<k->¬ Stp a b x j):∀ (c i:Nat),i+(2*c+1)<=k->wk a b x i≠wk a b x (i+(2*c+1))
 | 0,i,hk,h=>hs i (by lia) (.inl h.symm)
 | c+1,i,hk,h=>by
  refine rR T hx hs c (i+1) (by lia) ?_;have h1:=gW T hx (i+(2*c+2));rw[show i+(2*c+2)+1=i+(2*(c+1)+1) by lia,<-h]at h1
  have h2:wk a b x (i+1)=if(i+(2*c+2))%2=0 then b (wk a b x i)else a (wk a b x i):=by
   rw[wk]
   have:(i+(2*c+2))%2=i%2:=by lia
   rw[this]
  rw[h2,h1];congr 1;lia
def lj(T:Two m a b)(hx:x<m)(hs:∀ j,j<k->¬ Stp a b x j)(hij:i<j)(hj:j<=k):wk a b x i≠wk a b x j:=by
 obtain⟨d,rfl⟩:∃ d,j=i+(d+1):=⟨j-i-1,by lia⟩
 by_cases c:d%2=1
 ·exact oM T hx hs c i hj
 ·obtain⟨e,rfl⟩:∃ e,d=2*e:=⟨d / 2,by lia⟩
  exact rR T hx hs e i hj
def least{P:Nat->Prop} [DecidablePred P]:∀ n,P n->∃ k,k<=n/\P k/\∀ j,j<k->¬ P j:=by
 intro n
 induction n using Nat.strongRecOn with
 |_ n ih=>
  intro h;by_cases c:∃ j,j<n/\P j
  ·obtain⟨j,hj,hp⟩:=c;obtain⟨k,h1,h2,h3⟩:=ih j hj hp;exact⟨k,by lia,h2,h3⟩
  ·exact⟨n,Nat.le_refl _,h,fun j hj hp=>c ⟨j,hj,hp⟩⟩
def me(T:Two m a b)(hx:x<m):∃ k,k<m/\Stp a b x k/\∀ j,j<k->¬ Stp a b x j:=by
 by_cases c:∃ k,k<m/\Stp a b x k
 ·obtain⟨k,h1,h2⟩:=c;obtain⟨j,h3,h4,h5⟩:=least k h2;exact⟨j,by lia,h4,h5⟩
 ·exfalso;have hs:∀ j,j<m->¬ Stp a b x j:=fun j hj h=>c ⟨j,hj,h⟩
  have nd:((List.range (m+1)).map (wk a b x)).Nodup:=by
   rw[List.nodup_iff_pairwise_ne,List.pairwise_map];refine List.Pairwise.imp_of_mem ?_ (List.pairwise_lt_range (n:=m+1));intro i j hi hj hlt;exact lj T hx hs hlt (by have:=List.mem_range.mp hj;lia)
  have:=mY nd (b:=List.range m) fun y hy=>by
   obtain⟨i,_,rfl⟩:=List.mem_map.mp hy;exact List.mem_range.mpr (eK T hx i)
  simp at this;lia
inductive Cn (a b:Nat->Nat) (x:Nat):Nat->Prop
 | refl:Cn a b x x
 | sa {y:Nat}:Cn a b x y->Cn a b x (a y)
 | sb {y:Nat}:Cn a b x y->Cn a b x (b y)
def Cn.lt(T:Two m a b)(hx:x<m)(h:Cn a b x y):y<m:=by
 induction h with
 | refl=>exact hx
 | sa _ ih=>exact T.al _ ih
 | sb _ ih=>exact T.bl _ ih
def Cn.trans(h:Cn a b x y)(h':Cn a b y z):Cn a b x z:=by
 induction h' with
 | refl=>exact h
 | sa _ ih=>exact .sa ih
 | sb _ ih=>exact .sb ih
def Cn.symm(T:Two m a b)(hx:x<m)(h:Cn a b x y):Cn a b y x:=by
 induction h with
 | refl=>exact .refl
 |@sa y h ih=>
  have:=Cn.sa (a:=a) (b:=b) (Cn.refl (x:=a y));rw[T.ai _ (h.lt T hx)]at this;exact this.trans ih
 |@sb y h ih=>
  have:=Cn.sb (a:=a) (b:=b) (Cn.refl (x:=b y));rw[T.bi _ (h.lt T hx)]at this;exact this.trans ih
def ll:∀ k,Cn a b x (wk a b x k)
 | 0=>.refl
 | k+1=>by
  rw[wk];split
  ·exact .sb (ll k)
  ·exact .sa (ll k)
def xP(T:Two m a b)(hx:x<m)(st:Stp a b x k)(hs:∀ j,j<k->¬ Stp a b x j)(h:a x=x\/∀ y,Cn a b x y->a y≠y/\b y≠y)(hy:Cn a b x y):∃ i,i<=k/\wk a b x i=y:=by
 have bx:∃ i,i<=k/\wk a b x i=b x:=by
  by_cases c:k=0
  ·subst c;refine⟨0,Nat.le_refl _,?_⟩;rcases st with st | st
   ·rw[cj rfl]at st;exact st.symm
   ·rw[cj rfl]at st;exact st.symm
  ·exact⟨1,by lia,cj rfl⟩
 have key:∀ j,0<j->j<=k->(∃ i,i<=k/\wk a b x i=a (wk a b x j))/\∃ i,i<=k/\wk a b x i=b (wk a b x j):=by
  intro j h0 hj;have prev:=gW T hx (j-1);rw[show j-1+1=j by omega]at prev
  have next:∃ i,i<=k/\wk a b x i=wk a b x (j+1):=by
   by_cases c:j<k
   ·exact⟨j+1,by lia,rfl⟩
   ·have:j=k:=by lia
    subst this;rcases st with st | st
    ·exact⟨j,Nat.le_refl _,st.symm⟩
    ·exact⟨0,by lia,st.symm⟩
  by_cases c:j%2=0
  ·rw[if_neg (by lia)]at prev
   rw[cj c]at next
   exact⟨⟨j-1,by lia,prev.symm⟩,next⟩
  ·rw[if_pos (by lia)]at prev
   rw[eN (by lia)]at next
   exact⟨next,⟨j-1,by omega,prev.symm⟩⟩
 have ax:∃ i,i<=k/\wk a b x i=a x:=by
  rcases h with h | h
  ·exact⟨0,by lia,h.symm⟩
  ·rcases st with st | st
   ·exfalso;have hc:=h _ (ll k);by_cases c:k%2=0
    ·rw[cj c]at st;exact hc.2 st
    ·rw[eN (by lia)]at st;exact hc.1 st
   ·by_cases c:k%2=0
    ·exfalso;rw[cj c]at st
     have e:wk a b x k=b x:=by
      have:=congrArg b st;rw[T.bi _ (eK T hx k)]at this;exact this
     by_cases k0:k=0
     ·subst k0;exact(h x .refl).2 e.symm
     ·have:wk a b x 1=b x:=cj rfl;exact lj T hx hs (i:=1) (j:=k) (by lia) (Nat.le_refl _) (by rw[this,e])
    ·rw[eN (by lia)]at st
     exact⟨k,Nat.le_refl _,by
      have:=congrArg a st;rw[T.ai _ (eK T hx k)]at this
      exact this⟩
 induction hy with
 | refl=>exact⟨0,by lia,rfl⟩
 |sa _ ih=>
  obtain⟨i,hi,rfl⟩:=ih;by_cases c:i=0
  ·subst c;exact ax
  ·exact(key i (by lia) hi).1
 |sb _ ih=>
  obtain⟨i,hi,rfl⟩:=ih;by_cases c:i=0
  ·subst c;exact bx
  ·exact(key i (by lia) hi).2
def oW(T:Two m a b)(hx:x<m)(st:Stp a b x k)(hs:∀ j,j<k->¬ Stp a b x j)(hb:∀ y,y<m->b y≠y)(ha:a x=x):k%2=1/\a (wk a b x k)=wk a b x k:=by
 have lk:=eK T hx k;by_cases c:k%2=0
 ·exfalso;rcases st with st | st
  ·rw[cj c]at st;exact hb _ lk st
  ·rw[cj c]at st
   have e:wk a b x k=b x:=by
    have:=congrArg b st;rw[T.bi _ lk]at this;exact this
   by_cases k0:k=0
   ·subst k0;exact hb x hx e.symm
   ·have:wk a b x 1=b x:=cj rfl;exact lj T hx hs (i:=1) (j:=k) (by lia) (Nat.le_refl _) (by rw[this,e])
 ·refine⟨by lia,?_⟩;rcases st with st | st
  ·rw[eN (by lia)]at st;exact st
  ·exfalso;rw[eN (by lia)]at st
   have e:wk a b x k=x:=by rw[<-T.ai _ lk,st,ha]
   exact lj T hx hs (i:=0) (j:=k) (by lia) (Nat.le_refl _) e.symm
end
structure vR(m:Nat)(a b:Nat->Nat)(S:List Nat):Prop where
 lt:∀ s∈S,s<m
 nd:S.Pairwise fun s t=>¬ Cn a b s t
 ring:∀ s∈S,∀ y,Cn a b s y->a y≠y/\b y≠y
 all:∀ x,x<m->(∃ s,s<m/\(a s=s\/b s=s)/\Cn a b s x)\/∃ s∈S,Cn a b s x
section
end
section
variable{cl:Cl}
abbrev Pth(m:Nat)(a b:Nat->Nat)(y:Nat):Prop:=∃ s,s<m/\(a s=s\/b s=s)/\Cn a b s y
end
abbrev jn(n x:Nat):Nat:=if x<n then x else if x<2*n then x+n else if x<3*n then x-n else x
abbrev rb(n:Nat)(h l:List Nat)(x:Nat):Nat:=if x<2*n then at' h x else 2*n+at' l (x-2*n)
abbrev out(n p:Nat):Nat:=if p<n then p else p+2*n
section
def two(F:Frm n h)(G:Frm n l):Two (4*n) (jn n) (rb n h l):=by
 refine⟨fun x hx=>?_,fun x hx=>?_,fun x hx=>?_,fun x hx=>?_⟩
 ·unfold jn;(repeat' split)<;>lia
 ·unfold rb;split
  ·have:=F.lt x (by lia);lia
  ·have:=G.lt (x-2*n) (by omega);lia
 ·unfold jn;(repeat' split)<;>lia
 ·unfold rb;by_cases c:x<2*n
  ·rw[if_pos c,if_pos (F.lt x c),F.inv]
  ·rw[if_neg c,if_neg (by lia),Nat.add_sub_cancel_left,G.inv];omega
def l7(F:Frm n h)(G:Frm n l)(hx:x<4*n):rb n h l x≠x:=by
 unfold rb;split
 ·rename_i c;exact F.no x c
 ·have:=G.no (x-2*n) (by omega);lia
def et(hp:p<2*n):out n p<4*n:=by unfold out;split<;>lia
def gD(hp:p<2*n):jn n (out n p)=out n p:=by unfold out jn;(repeat' split)<;>lia
def Ay(hx:x<4*n)(e:jn n x=x):∃ p,p<2*n/\x=out n p:=by
 by_cases c:x<n
 ·exact⟨x,by lia,by unfold out;rw[if_pos c]⟩
 ·have:3*n<=x:=by
   unfold jn at e
   (repeat' split at e)<;>lia
  exact⟨x-2*n,by lia,by unfold out;rw[if_neg (by lia)];lia⟩
abbrev en2(n:Nat)(s:Bool × Nat):Nat:=if s.1 then s.2 else 2*n+s.2
def zF(hs:s.2<2*n)(c:s.1=decide (n<=s.2)):en2 n (stp n h l s)=rb n h l (jn n (en2 n s)):=by
 obtain⟨b,q⟩:=s;unfold stp;rw[if_pos c];dsimp only at c hs ⊢;rw[c];clear c;by_cases c:n<=q
 ·have e:(q+n)%(2*n)=q-n:=by rw[Nat.mod_eq_sub_mod (by lia),Nat.mod_eq_of_lt (by omega)];lia
  have e2:jn n q=q+n:=by unfold jn;rw[if_neg (by lia),if_pos hs]
  simp only[c,decide_true,Bool.not_true,en2,pick,if_true,Bool.false_eq_true,if_false,e,e2,rb];rw[if_neg (by lia),show q+n-2*n=q-n by lia]
 ·have e:(q+n)%(2*n)=q+n:=Nat.mod_eq_of_lt (by lia)
  have e2:jn n (2*n+q)=n+q:=by unfold jn;rw[if_neg (by lia),if_neg (by lia),if_pos (by lia)];lia
  simp only[c,decide_false,Bool.not_false,en2,pick,if_true,Bool.false_eq_true,if_false,e,e2,rb];rw[if_pos (by lia),Nat.add_comm]
def vK(hs:s.2<2*n):s.1=decide (n<=s.2)↔jn n (en2 n s)≠en2 n s:=by
 obtain⟨b,q⟩:=s;dsimp only at hs;cases b
 ·simp only[en2,Bool.false_eq_true,if_false];by_cases c:n<=q
  ·simp only[c,decide_true,Bool.false_eq_true,false_iff,Classical.not_not];unfold jn;rw[if_neg (by lia),if_neg (by lia),if_neg (by lia)]
  ·simp only[c,decide_false,true_iff];unfold jn;rw[if_neg (by lia),if_neg (by lia),if_pos (by lia)];lia
 ·simp only[en2,if_true];by_cases c:n<=q
  ·simp only[c,decide_true,true_iff];unfold jn;rw[if_neg (by lia),if_pos hs];lia
  ·simp only[c,decide_false,Bool.true_eq_false,false_iff,Classical.not_not];unfold jn;rw[if_pos (by lia)]
def wj(c:¬ s.1=decide (n<=s.2)):stp n h l s=s:=by
 unfold stp;rw[if_neg c]
def A6(hp:p<2*n):en2 n (beg n h l p)=rb n h l (out n p):=by
 unfold beg en2 rb out pick;by_cases c:p<n
 ·simp only[c,decide_true,if_true];rw[if_pos (by lia)]
 ·simp only[c,decide_false,Bool.false_eq_true,if_false];rw[if_neg (by lia),show p+2*n-2*n=p by lia]
def iW(F:Frm n h)(G:Frm n l)(hp:p<2*n)(st:Stp (jn n) (rb n h l) (out n p) k)(hs:∀ j,j<k->¬ Stp (jn n) (rb n h l) (out n p) j) :
  ∀ j,en2 n (itr n h l j (beg n h l p))=wk (jn n) (rb n h l) (out n p) (if 2*j+1<=k then 2*j+1 else k):=by
 have T:=two F G;obtain⟨k1,k2⟩:=oW T (et hp) st hs (fun y hy=>l7 F G hy) (gD hp)
 have blt:(beg n h l p).2<2*n:=by
  unfold beg pick;dsimp only;split
  ·exact F.lt p hp
  ·exact G.lt p hp
 intro j
 induction j with
 |zero=>
  rw[if_pos (by lia)];show en2 n (beg n h l p)=_;rw[A6 hp];exact(cj (k:=0) rfl).symm
 |succ j ih=>
  have hl:=ff (fun x hx=>F.lt x hx) (fun x hx=>G.lt x hx) (h:=h) (l:=l) blt j;show en2 n (stp n h l (itr n h l j (beg n h l p)))=_;by_cases c:2*(j+1)+1<=k
  ·rw[if_pos (by lia)]at ih;rw[if_pos c]
   have ne:jn n (en2 n (itr n h l j (beg n h l p)))≠en2 n (itr n h l j (beg n h l p)):=by
    rw[ih];intro e;exact hs (2*j+1) (by lia) (.inl (by rw[eN (by lia)];exact e))
   rw[zF hl ((vK hl).mpr ne),ih,<-eN (a:=jn n) (b:=rb n h l) (x:=out n p) (k:=2*j+1) (by lia),<-cj (a:=jn n) (b:=rb n h l) (x:=out n p) (k:=2*j+1+1) (by lia)];congr 1
  ·rw[if_neg c]
   have e:(if 2*j+1<=k then 2*j+1 else k)=k:=by split<;>lia
   rw[e]at ih;rw[wj (fun z=>(vK hl).mp z (by rw[ih];exact k2)),ih]
end
section
def xg{β:Type}{σ:St}{e:E}{i:Nat}{u g:β->D}(im:∀ x,(g x).imm=true)(xs:List β)(h:∀ x∈xs,ev cl (σ.set i (some (u x))) e=some (g x)):bM (fun σ1=>(ev cl σ1 e).map some) [i] σ (xs.map u)=some (xs.map g) :=
 su im xs fun x hx=>by
  show Option.map some (ev cl (σ.set i (some (u x))) e)=_;rw[h x hx];rfl
def xq{σ:St}{e:E}{i:Nat}{g:Nat->D}(im:∀ x,(g x).imm=true)(xs:List Nat)(h:∀ x∈xs,ev cl (σ.set i (some (.int (x:Nat)))) e=some (g x)):bM (fun σ1=>(ev cl σ1 e).map some) [i] σ (L xs)=some (xs.map g) :=
 xg im xs h
end
section
def Pth.step{m:Nat}{a b:Nat->Nat}{x y:Nat}(h:Pth m a b x)(c:Cn a b x y):Pth m a b y:=by
 obtain⟨s,h1,h2,h3⟩:=h;exact⟨s,h1,h2,h3.trans c⟩
def km(hm:m<n):jn n (n+m)=2*n+m:=by unfold jn;rw[if_neg (by lia),if_pos (by lia)];lia
def p6(hm:m<n):jn n (2*n+m)=n+m:=by unfold jn;rw[if_neg (by lia),if_neg (by lia),if_pos (by lia)];lia
def pX(e:a x=y):Cn a b x y:=by rw[<-e];exact .sa .refl
def wa(e:b x=y):Cn a b x y:=by rw[<-e];exact .sb .refl
def lP(F:Frm n h)(G:Frm n l)(hm:m<n):Gn n h l (2*n) m↔Pth (4*n) (jn n) (rb n h l) (n+m):=by
 have T:=two F G;constructor
 ·rintro⟨p,hp,j,hj,t1,t2⟩;obtain⟨k,hk,st,hs⟩:=me T (et hp);have w:=iW F G hp st hs j;refine⟨out n p,et hp,.inl (gD hp),?_⟩
  have c:Cn (jn n) (rb n h l) (out n p) (en2 n (itr n h l j (beg n h l p))):=by rw[w];exact ll _
  have blt:(beg n h l p).2<2*n:=by
   unfold beg pick;dsimp only;split
   ·exact F.lt p hp
   ·exact G.lt p hp
  have hl:=ff (fun x hx=>F.lt x hx) (fun x hx=>G.lt x hx) (h:=h) (l:=l) blt j;generalize itr n h l j (beg n h l p)=s at *;obtain⟨b,q⟩:=s;dsimp only at t1 t2 hl;unfold en2 at c;cases b
  ·simp only[Bool.false_eq_true,if_false]at c
   have:q<n:=by
    apply Classical.byContradiction;intro z;rw[decide_eq_true (by lia)]at t1;cases t1
   rw[Nat.mod_eq_of_lt this]at t2;subst t2;have:=Cn.sa c;rw[p6 hm]at this;exact this
  ·rw[if_pos rfl]at c;have:n<=q:=of_decide_eq_true t1.symm;rw[Nat.mod_eq_sub_mod this,Nat.mod_eq_of_lt (by lia)]at t2;rw[show n+m=q by lia];exact c
 ·rintro⟨s,h1,h2,h3⟩;have h2:jn n s=s:=h2.resolve_right (l7 F G h1);obtain⟨p,hp,rfl⟩:=Ay h1 h2;obtain⟨k,hk,st,hs⟩:=me T (et hp);obtain⟨k1,k2⟩:=oW T (et hp) st hs (fun y hy=>l7 F G hy) (gD hp);obtain⟨i,hi,e⟩:=xP T (et hp) st hs (.inl (gD hp)) h3;have na:=km hm
  have i0:i≠0:=fun z=>by
   subst z;have:=gD hp;rw[show out n p=n+m from e,na]at this;lia
  have ik:i≠k:=fun z=>by
   subst z;rw[e,na]at k2;lia
  have blt:(beg n h l p).2<2*n:=by
   unfold beg pick;dsimp only;split
   ·exact F.lt p hp
   ·exact G.lt p hp
  by_cases c:i%2=1
  ·obtain⟨j,rfl⟩:∃ j,i=2*j+1:=⟨i / 2,by lia⟩
   have w:=iW F G hp st hs j;rw[if_pos hi,e]at w;have hl:=ff (fun x hx=>F.lt x hx) (fun x hx=>G.lt x hx) (h:=h) (l:=l) blt j;refine⟨p,hp,j,by lia,?_⟩;unfold Tr;generalize itr n h l j (beg n h l p)=s at *;obtain⟨b,q⟩:=s;unfold en2 at w;dsimp only at w hl ⊢;cases b
   ·rw[if_neg (by decide)]at w;lia
   ·rw[if_pos rfl]at w;subst w;exact⟨(decide_eq_true (by lia)).symm,by rw[Nat.mod_eq_sub_mod (by lia),Nat.mod_eq_of_lt (by lia)];lia⟩
  ·obtain⟨j,rfl⟩:∃ j,i=2*j+1+1:=⟨i / 2-1,by lia⟩
   have w:=iW F G hp st hs j;rw[eN (by lia)]at e
   have e':wk (jn n) (rb n h l) (out n p) (2*j+1)=2*n+m:=by
    have:=congrArg (jn n) e;rw[T.ai _ (eK T (et hp) _),na]at this;exact this
   rw[if_pos (by lia),e']at w;have hl:=ff (fun x hx=>F.lt x hx) (fun x hx=>G.lt x hx) (h:=h) (l:=l) blt j;refine⟨p,hp,j,by lia,?_⟩;unfold Tr;generalize itr n h l j (beg n h l p)=s at *;obtain⟨b,q⟩:=s;unfold en2 at w;dsimp only at w hl ⊢;cases b
   ·rw[if_neg (by decide)]at w
    have:q=m:=by lia
    subst this;exact⟨(decide_eq_false (by lia)).symm,Nat.mod_eq_of_lt hm⟩
   ·rw[if_pos rfl]at w;lia
def iF(F:Frm n h)(G:Frm n l)(hx:x<4*n)(np:¬ Pth (4*n) (jn n) (rb n h l) x):∃ m,m<n/\(x=n+m\/x=2*n+m)/\¬ Pth (4*n) (jn n) (rb n h l) (n+m):=by
 have no:jn n x≠x:=fun e=>np ⟨x,hx,.inl e,.refl⟩;by_cases c:x<2*n
 ·have:n<=x:=by
   apply Classical.byContradiction;intro z;exact no (by unfold jn;rw[if_pos (by lia)])
  exact⟨x-n,by omega,.inl (by lia),by rw[show n+(x-n)=x by lia];exact np⟩
 ·have:x<3*n:=by
   apply Classical.byContradiction;intro z;exact no (by unfold jn;rw[if_neg (by lia),if_neg (by lia),if_neg (by lia)])
  refine⟨x-2*n,by omega,.inr (by lia),fun z=>np (z.step ?_)⟩;have:=km (n:=n) (m:=x-2*n) (by omega);rw[show 2*n+(x-2*n)=x by lia]at this;exact pX this
def nt(F:Frm n h)(G:Frm n l)(hm:m<n)(np:¬ Pth (4*n) (jn n) (rb n h l) (n+m)):at' l m<n/\¬ Pth (4*n) (jn n) (rb n h l) (n+at' l m)/\Cn (jn n) (rb n h l) (n+m) (n+at' l m):=by
 have T:=two F G;have hl:=G.lt m (by lia)
 have e:rb n h l (2*n+m)=2*n+at' l m:=by unfold rb;rw[if_neg (by lia),show 2*n+m-2*n=m by lia]
 have c:Cn (jn n) (rb n h l) (n+m) (2*n+at' l m):=(pX (km hm)).trans (wa e);have np':¬ Pth (4*n) (jn n) (rb n h l) (2*n+at' l m):=fun z=>np (z.step (c.symm T (by lia)));obtain⟨j,hj,e1 | e1,e2⟩:=iF F G (by lia) np'
 ·lia
 ·have:at' l m=j:=by lia
  rw[this];refine⟨hj,e2,?_⟩;rw[this]at c;have:=Cn.sa c;rw[p6 hj]at this;exact this
def k7(F:Frm n h)(G:Frm n l)(hm:m<n)(np:¬ Pth (4*n) (jn n) (rb n h l) (n+m)):∃ j,j<n/\at' h (n+m)=n+j/\¬ Pth (4*n) (jn n) (rb n h l) (n+j)/\Cn (jn n) (rb n h l) (n+m) (n+j):=by
 have T:=two F G;have hl:=F.lt (n+m) (by lia)
 have e:rb n h l (n+m)=at' h (n+m):=by unfold rb;rw[if_pos (by lia)]
 have c:Cn (jn n) (rb n h l) (n+m) (at' h (n+m)):=wa e;have np':¬ Pth (4*n) (jn n) (rb n h l) (at' h (n+m)):=fun z=>np (z.step (c.symm T (by lia)));obtain⟨j,hj,e1 | e1,e2⟩:=iF F G (by lia) np'
 ·exact⟨j,hj,e1,e2,by rw[<-e1];exact c⟩
 ·lia
def um(F:Frm n h)(G:Frm n l){inner:List Nat}(hin:∀ m,m∈inner↔m<n/\¬ Pth (4*n) (jn n) (rb n h l) (n+m))
 (f1:∀ x∈inner,∀ y∈inner,f x=f y->Cn (jn n) (rb n h l) (n+x) (n+y))(f2:∀ m∈inner,f (at' l m)=f m)(f3:∀ m∈inner,∀ j,at' h (n+m)=n+j->f j=f m) :
  ∃ S,vR (4*n) (jn n) (rb n h l) S/\(bG (inner.map f)).length=S.length:=by
 have T:=two F G
 have f4:∀ x∈inner,∀ z,Cn (jn n) (rb n h l) (n+x) z->∃ m∈inner,(z=n+m\/z=2*n+m)/\f m=f x:=by
  intro x hx z c
  induction c with
  | refl=>exact⟨x,hx,.inl rfl,rfl⟩
  |sa _ ih=>
   obtain⟨m,hm,e | e,ef⟩:=ih
   ·exact⟨m,hm,.inr (by rw[e,km ((hin m).mp hm).1]),ef⟩
   ·exact⟨m,hm,.inl (by rw[e,p6 ((hin m).mp hm).1]),ef⟩
  |sb _ ih=>
   obtain⟨m,hm,e | e,ef⟩:=ih
   ·have mn:=((hin m).mp hm).1;obtain⟨j,h1,h2,h3,_⟩:=k7 F G ((hin m).mp hm).1 ((hin m).mp hm).2;exact⟨j,(hin j).mpr ⟨h1,h3⟩,.inl (by rw[e];unfold rb;rw[if_pos (by lia),h2]),by rw[f3 m hm j h2,ef]⟩
   ·obtain⟨h1,h2,_⟩:=nt F G ((hin m).mp hm).1 ((hin m).mp hm).2;exact⟨at' l m,(hin _).mpr ⟨h1,h2⟩,.inr (by rw[e];unfold rb;rw[if_neg (by lia),show 2*n+m-2*n=m by lia]),by rw[f2 m hm,ef]⟩
 have gH:∀ xs:List Nat,∃ R:List Nat,(∀ r∈R,r∈xs)/\R.map f=bG (xs.map f)/\(R.Pairwise fun r t=>f r≠f t)/\∀ x∈xs,∃ r∈R,f r=f x:=by
  intro xs
  suffices H:∀ (ys:List Nat) (R:List Nat) (done:List Nat),(∀ r∈R,r∈done)->(R.Pairwise fun r t=>f r≠f t)->(∀ x∈done,∃ r∈R,f r=f x)->∃ R':List Nat,(∀ r∈R',r∈done++ys)/\R'.map f=(ys.map f).foldl (fun m k=>if m.any (· == k)then m else m++[k]) (R.map f)/\(R'.Pairwise fun r t=>f r≠f t)/\∀ x∈done++ys,∃ r∈R',f r=f x by
   obtain⟨R,h1,h2,h3,h4⟩:=H xs [] [] (by simp) .nil (by simp);exact⟨R,by simpa using h1,h2,h3,by simpa using h4⟩
  intro ys
  induction ys with
  | nil=>intro R done h1 h2 h3;exact⟨R,by simpa using h1,rfl,h2,by simpa using h3⟩
  |cons y ys ih=>
   intro R done h1 h2 h3;by_cases c:(R.map f).any (· == f y)=true
   ·obtain⟨R',g1,g2,g3,g4⟩:=ih R (done++[y]) (fun r hr=>by simp[h1 r hr]) h2 (fun x hx=>by
     rcases List.mem_append.mp hx with hx | hx
     ·exact h3 x hx
     ·have:x=y:=by simpa using hx
      subst this
      simpa using c)
    exact⟨R',by simpa using g1,by rw[List.map_cons,List.foldl_cons,if_pos c];exact g2,g3,by simpa using g4⟩
   ·obtain⟨R',g1,g2,g3,g4⟩:=ih (R++[y]) (done++[y]) (fun r hr=>by
     rcases List.mem_append.mp hr with hr | hr
     ·simp[h1 r hr]
     ·simp at hr;simp[hr]) (by
     rw[List.pairwise_append];refine⟨h2,by simp,fun r hr t ht e=>c ?_⟩
     have:t=y:=by simpa using ht
     subst this
     simpa using⟨r,hr,e⟩) (fun x hx=>by
     rcases List.mem_append.mp hx with hx | hx
     ·obtain⟨r,a1,a2⟩:=h3 x hx;exact⟨r,by simp[a1],a2⟩
     ·have:x=y:=by simpa using hx
      subst this
      exact⟨x,by simp,rfl⟩)
    exact⟨R',by simpa using g1,by rw[List.map_cons,List.foldl_cons,if_neg c];simpa using g2,g3,by simpa using g4⟩
 obtain⟨R,r1,r2,r3,r4⟩:=gH inner;refine⟨R.map fun m=>n+m,⟨fun s hs=>?_,?_,fun s hs y hy=>?_,fun x hx=>?_⟩,by rw[<-r2];simp⟩
 ·obtain⟨m,hm,rfl⟩:=List.mem_map.mp hs;have:=((hin m).mp (r1 m hm)).1;lia
 ·rw[List.pairwise_map];refine List.Pairwise.imp_of_mem ?_ r3;intro a b ha hb ne c;obtain⟨m,hm,e | e,ef⟩:=f4 a (r1 a ha) _ c
  ·have:m=b:=by lia
   subst this;exact ne ef.symm
  ·have:=((hin m).mp hm).1;have:=((hin b).mp (r1 b hb)).1;lia
 ·obtain⟨m,hm,rfl⟩:=List.mem_map.mp hs;obtain⟨j,hj,e,_⟩:=f4 m (r1 m hm) y hy;have jn':=((hin j).mp hj).1;refine⟨?_,l7 F G (by rcases e with rfl | rfl<;>lia)⟩;rcases e with rfl | rfl
  ·rw[km jn'];lia
  ·rw[p6 jn'];lia
 ·by_cases np:Pth (4*n) (jn n) (rb n h l) x
  ·exact .inl np
  ·obtain⟨m,hm,e,nm⟩:=iF F G hx np;have mi:=(hin m).mpr ⟨hm,nm⟩;obtain⟨r,hr,er⟩:=r4 m mi;refine .inr ⟨n+r,List.mem_map.mpr ⟨r,hr,rfl⟩,?_⟩;have c:=f1 r (r1 r hr) m mi er;rcases e with rfl | rfl
   ·exact c
   ·exact c.trans (pX (km hm))
end
section
abbrev HF(inner:List Nat)(hk:List Ky)(hv:List D)(f:Nat->Int):Prop:=hk.length=hv.length/\hk.length<=10/\∀ m∈inner,a4 hk hv (.inl (m:Int))=some (.int (f m))
def HF.hi(H:HF inner hk hv f):HI inner hk hv:=⟨H.1,H.2.1,fun m hm=>⟨f m,H.2.2 m hm⟩⟩
def HF.put(H:HF inner hk hv f)(hm:m∈inner)(v:Int):HF inner (putD hk hv (.inl (m:Int)) (.int v)).1 (putD hk hv (.inl (m:Int)) (.int v)).2 (fun x=>if x=m then v else f x):=by
 obtain⟨p1,p2,_⟩:=H.hi.put hm v;refine⟨p1,p2,fun x hx=>?_⟩;rw[cV H.1];dsimp only;by_cases c:x=m
 ·subst c;rw[if_pos rfl,if_pos rfl]
 ·rw[if_neg (fun e=>c (by injection e with e;lia)),if_neg c];exact H.2.2 x hx
def so(hl:hk.length<=10)(x:Nat)(d:D):dG (.dK hk hv) (.int (x:Nat)) d=some (.dK (putD hk hv (.inl (x:Int)) d).1 (putD hk hv (.inl (x:Int)) d).2):=by
 rw[yV];dsimp only[keyOf];rw[Option.bind_some,if_pos (by unfold most;lia)]
def mR(H:HF inner hk hv f)(o5 o6 o7:Option D)(keep go:Int):∃ hk' hv' o7',HF inner hk' hv' (fun x=>if f x=go then keep else f x)/\aP (ak cl [4] bN) [7] (L inner) (rst n h l inner hk hv o5 o6 o7 (some (.int keep)) (some (.int go)))=some (.nx,rst n h l inner hk' hv' o5 o6 o7' (some (.int keep)) (some (.int go))):=by
 obtain⟨σ',e,hk',hv',o7',g,rfl,H',hg⟩:=dh (f:=ak cl [4] bN) (tg:=[7]) (xs:=inner) (σ:=rst n h l inner hk hv o5 o6 o7 (some (.int keep)) (some (.int go)))
  (fun p σ=>∃ (hk':List Ky) (hv':List D) (o7':Option D) (g:Nat->Int),σ=rst n h l inner hk' hv' o5 o6 o7' (some (.int keep)) (some (.int go))/\HF inner hk' hv' g/\∀ x,g x=if x∈p then(if f x=go then keep else f x)else f x) ⟨hk,hv,o7,f,rfl,H,fun x=>by simp⟩ (by
   rintro p x q σ hx ⟨hk',hv',o7',g,rfl,H',hg⟩
   have hm:x∈inner:=by rw[hx];simp
   have lk:=gZ (H'.2.2 x hm);show ∃ σ2,ak cl [4] bN (rst n h l inner hk' hv' o5 o6 (some (.int (x:Nat))) (some (.int keep)) (some (.int go)))=some (.nx,σ2)/\_;by_cases c:g x=go
   ·refine⟨rst n h l inner (putD hk' hv' (.inl (x:Int)) (.int keep)).1 (putD hk' hv' (.inl (x:Int)) (.int keep)).2 o5 o6 (some (.int (x:Nat))) (some (.int keep)) (some (.int go)),sr (fZ (cD (fI (aq rfl) (aq rfl) lk) (aq rfl) (by rw[yH];congr 1;simp[c]))) (rK (aq rfl) (aq rfl) rfl rfl (so H'.2.1 x _) cb) cb,_,_,_,_,rfl,H'.put hm keep,fun y=>?_⟩;by_cases e:y=x
    ·subst e;rw[if_pos rfl,if_pos (by simp)];rw[hg]at c;split at c
     ·split
      ·rfl
      ·rename_i z1 z2;rw[if_neg z2]at c;exact absurd c z2
     ·rw[if_pos c]
    ·rw[if_neg e,hg y];simp[e]
   ·refine⟨rst n h l inner hk' hv' o5 o6 (some (.int (x:Nat))) (some (.int keep)) (some (.int go)),ip (fZ (cD (fI (aq rfl) (aq rfl) lk) (aq rfl) (by rw[yH];congr 1;simp[c]))) cb,_,_,_,_,rfl,H',fun y=>?_⟩;by_cases e:y=x
    ·subst e;rw[if_pos (by simp)];rw[hg]at c ⊢;split at c
     ·rename_i z;rw[if_pos z]
     ·rename_i z;rw[if_neg z,if_neg c]
    ·rw[hg y]
     simp[e])
 refine⟨hk',hv',o7',⟨H'.1,H'.2.1,fun m hm=>?_⟩,e⟩;rw[H'.2.2 m hm,hg m,if_pos hm]
abbrev Tog(n:Nat)(h l inner:List Nat)(f:Nat->Int):Prop:=∀ x∈inner,∀ y∈inner,f x=f y->Cn (jn n) (rb n h l) (n+x) (n+y)
abbrev mg(f:Nat->Int)(m o x:Nat):Int:=if f x=f o then f m else f x
def jo(e:f a=f b):mg f m o a=mg f m o b:=by unfold mg;rw[e]
def vJ:mg f m o o=mg f m o m:=by
 unfold mg;rw[if_pos rfl];split<;>rfl
def Tog.merge(F:Frm n h)(G:Frm n l)(t:Tog n h l inner f)(hlt:∀ m∈inner,m<n)(hm:m∈inner)(ho:o∈inner)(c:Cn (jn n) (rb n h l) (n+m) (n+o)):Tog n h l inner (mg f m o):=by
 have T:=two F G;intro x hx y hy e;have lx:=hlt x hx;have ly:=hlt y hy;have lm:=hlt m hm;have lo:=hlt o ho;unfold mg at e;split at e
 ·rename_i e1;split at e
  ·rename_i e2;exact t x hx y hy (e1.trans e2.symm)
  ·exact(t x hx o ho e1).trans ((c.symm T (by lia)).trans (t m hm y hy e))
 ·split at e
  ·rename_i e2;exact(t x hx m hm e).trans (c.trans (t o ho y hy e2.symm))
  ·exact t x hx y hy e
def qe(h1:1<=n)(hn:n<=10)(F:Frm n h)(G:Frm n l)(hil:inner.length<=n)(hin:∀ m,m∈inner↔m<n/\¬ Pth (4*n) (jn n) (rb n h l) (n+m)):∃ S:List Nat,vR (4*n) (jn n) (rb n h l) S/\evF cl cO [.tup (L h),.tup (L l),.lst (L inner)]=some (.int (S.length:Nat)):=by
 have e6:=half (xs:=L h) (n:=n) (by rw[hU,F.len])
 obtain⟨σ1,l1,hk,hv,o5,rfl,H0,H1,H2⟩:=dh (f:=ak cl [4] eF) (tg:=[5]) (xs:=inner) (σ:=rst n h l inner [] [] none none none none none)
  (fun p σ=>∃ hk hv o5,σ=rst n h l inner hk hv o5 none none none none/\hk.length=hv.length/\hk.length<=p.length/\∀ m∈p,a4 hk hv (.inl (m:Int))=some (.int (m:Nat))) ⟨[],[],none,rfl,rfl,by simp,by simp⟩ (by
   rintro p x q σ hx ⟨hk,hv,o5,rfl,H0,H1,H2⟩
   have hp:p.length<10:=by
    have:=congrArg List.length hx;simp at this;lia
   have pl:=dC (x:=(.inl (x:Int):Ky)) (d:=.int (x:Nat)) H0;refine⟨rst n h l inner (putD hk hv (.inl (x:Int)) (.int (x:Nat))).1 (putD hk hv (.inl (x:Int)) (.int (x:Nat))).2 (some (.int (x:Nat))) none none none none,rK (cl:=cl) (M:=[4]) (σ:=rst n h l inner hk hv (some (.int (x:Nat))) none none none none) (r:=.nil) (aq rfl) (aq rfl) rfl rfl (so (by lia) x _) cb,_,_,_,rfl,pl.1,by have:=pl.2;simp;lia,fun m hm=>?_⟩;rw[cV H0];by_cases e:(.inl (x:Int):Ky)=.inl (m:Int)
   ·rw[if_pos e];injection e with e
    have:x=m:=by lia
    rw[this]
   ·rw[if_neg e];simp at hm;rcases hm with hm | hm
    ·exact H2 m hm
    ·exact absurd (by rw[hm]) e)
 have H:HF inner hk hv (fun m=>(m:Int)):=⟨H0,by lia,H2⟩
 obtain⟨σ2,l2',hk',hv',o5',o6',o7',o8',o9',f,rfl,H',t,pr⟩:=dh (f:=ak cl [4] eP) (tg:=[5]) (xs:=inner) (σ:=rst n h l inner hk hv o5 none none none none)
  (fun p σ=>∃ (hk:List Ky) (hv:List D) (o5 o6 o7 o8 o9:Option D) (f:Nat->Int),σ=rst n h l inner hk hv o5 o6 o7 o8 o9/\HF inner hk hv f/\Tog n h l inner f/\∀ m∈p,f (at' l m)=f m/\∀ j,at' h (n+m)=n+j->f j=f m) ⟨hk,hv,o5,none,none,none,none,_,rfl,H,fun x _ y _ e=>by
   have e:(x:Int)=(y:Int):=e
   have:x=y:=by lia
   subst this
   exact .refl,by simp⟩ (by
   rintro p x q σ hx ⟨hk',hv',o5',o6',o7',o8',o9',f,rfl,H',t,pr⟩
   have hm:x∈inner:=by rw[hx];simp
   have hsub:∀ m∈p,m∈inner:=fun m hm=>by rw[hx];simp[hm]
   have hlt:∀ m∈inner,m<n:=fun m hm=>((hin m).mp hm).1;have xn:=hlt x hm;obtain⟨ln,lp,lc⟩:=nt F G xn ((hin x).mp hm).2;obtain⟨j,jn',hjj,jp,jc⟩:=k7 F G xn ((hin x).mp hm).2;have li:=(hin _).mpr ⟨ln,lp⟩;have ji:=(hin _).mpr ⟨jn',jp⟩;obtain⟨hk2,hv2,o72,H2,e2⟩:=mR (cl:=cl) (n:=n) (h:=h) (l:=l) H' (some (.int (x:Nat))) (some (.int (at' l x:Nat))) o7' (f x) (f (at' l x));have t2:=t.merge F G hlt hm li lc;have H2:HF inner hk2 hv2 (mg f x (at' l x)):=H2;obtain⟨hk3,hv3,o73,H3,e3⟩:=mR (cl:=cl) (n:=n) (h:=h) (l:=l) H2 (some (.int (x:Nat))) (some (.int (j:Nat))) o72 (mg f x (at' l x) x) (mg f x (at' l x) j);have H3:HF inner hk3 hv3 (mg (mg f x (at' l x)) x j):=H3;have t3:=t2.merge F G hlt hm ji jc
   have s1:ak cl [4] cH (rst n h l inner hk' hv' (some (.int (x:Nat))) (some (.int (at' l x:Nat))) o7' o8' o9')=some (.nx,rst n h l inner hk2 hv2 (some (.int (x:Nat))) (some (.int (at' l x:Nat))) o72 (some (.int (f x))) (some (.int (f (at' l x))))) :=
    sM (fI (aq rfl) (aq rfl) (gZ (H'.2.2 x hm))) (fI (aq rfl) (aq rfl) (gZ (H'.2.2 _ li))) rfl (eA (iq (aq rfl) rfl) e2 cb)
   have s2:ak cl [4] cH (rst n h l inner hk2 hv2 (some (.int (x:Nat))) (some (.int (j:Nat))) o72 (some (.int (f x))) (some (.int (f (at' l x)))))=some (.nx,rst n h l inner hk3 hv3 (some (.int (x:Nat))) (some (.int (j:Nat))) o73 (some (.int (mg f x (at' l x) x))) (some (.int (mg f x (at' l x) j)))) :=
    sM (fI (aq rfl) (aq rfl) (gZ (H2.2.2 x hm))) (fI (aq rfl) (aq rfl) (gZ (H2.2.2 _ ji))) rfl (eA (iq (aq rfl) rfl) e3 cb)
   have i1:=fB (f:=l) (x:=x) (by rw[G.len];lia);have i2:=fB (f:=h) (x:=n+x) (by rw[F.len];lia);rw[hjj]at i2;refine⟨rst n h l inner hk3 hv3 (some (.int (x:Nat))) (some (.int (j:Nat))) o73 (some (.int (mg f x (at' l x) x))) (some (.int (mg f x (at' l x) j))),eA (cl:=cl) (M:=[4]) (σ:=rst n h l inner hk' hv' (some (.int (x:Nat))) o6' o7' o8' o9') (iq (x:=.tup [.int (at' l x:Nat),.int (j:Nat)]) (BO (bI (mC (aq rfl) (aq rfl) i1) (bI (aC (mC (aq rfl) (aC (aq rfl) (aq rfl) (by rw[cg];rfl)) i2) (aq rfl) (by rw[vV];congr 2;lia)) jg))) rfl) ?_ cb,_,_,_,_,_,_,_,_,rfl,H3,t3,fun m hm'=>?_⟩
   ·exact jT rfl rfl s1 (jT rfl rfl s2 zr)
   ·rcases List.mem_append.mp hm' with hp | hp
    ·obtain⟨q1,q2⟩:=pr m hp;exact⟨jo (jo q1),fun j' hj'=>jo (jo (q2 j' hj'))⟩
    ·have:m=x:=by simpa using hp
     subst this;refine⟨jo vJ,fun j' hj'=>?_⟩
     have:j'=j:=by lia
     subst this
     exact vJ)
 obtain⟨S,R,hS⟩:=um F G hin t (fun m hm=>(pr m hm).1) (fun m hm=>(pr m hm).2);refine⟨S,R,?_⟩;have mc:=xq (cl:=cl) (σ:=rst n h l inner hk' hv' o5' o6' o7' o8' o9') (e:=.ixD (.var 4) (.var 5)) (i:=5) (g:=fun m=>.int (f m)) (fun _=>rfl) inner (fun x hx=>fI (aq rfl) (aq rfl) (gZ (H'.2.2 x hx)))
 have ls:biV .lenSet (.lst (inner.map fun m=>.int (f m)))=some (.int (S.length:Nat)):=by
  rw[vE];rw[if_pos (by simp;lia),ints_map,<-hS];rfl
 exact eu rfl rfl (bZ (aC (dS (aq rfl) e6) aB (BK n)) rfl (Bu (d:=.dK [] []) rfl rfl (eA (iq (aq rfl) rfl) l1 (eA (iq (aq rfl) rfl) l2' (gE (dS (wI (iq (aq rfl) rfl) (by rw[hU];unfold most;lia) mc) ls) rfl)))))
end
end RM
set_option maxHeartbeats 1000000
namespace K26
open RL RT RM
abbrev Le(a b:Option α):Prop:=∀ d,a=some d->b=some d
def Le.rfl{a:Option α}:Le a a:=fun _ h=>h
def Le.bind{a b:Option α}{f g:α->Option β}(h:Le a b)(k:∀ x,Le (f x) (g x)):Le (a.bind f) (b.bind g):=fun d e=>by
 cases a with
 | none=>cases e
 | some x=>rw[h x (Eq.refl _)];exact k x d e
def Le.map{a b:Option α}{f:α->β}(h:Le a b):Le (a.map f) (b.map f):=fun d e=>by
 cases a with
 | none=>cases e
 | some x=>rw[h x (Eq.refl _)];exact e
def Le.loop{f g:St->Option (Out × St)}(h:∀ σ,Le (f σ) (g σ)):∀ (ds:List D) (σ:St),Le (aP f tg ds σ) (aP g tg ds σ)
 | [],σ=>Le.rfl
 | d::r,σ=>by
  rw[aP,aP];split
  ·refine Le.bind Le.rfl fun σ1=>Le.bind (h σ1) fun p=>?_;split
   ·exact Le.loop h r _
   ·exact Le.rfl
  ·exact Le.rfl
section
variable{cl cl':Cl}(H:∀ f ds,Le (cl f ds) (cl' f ds))
include H
def Le.row{s:S}{r:Ss}(h:Le (evS cl M s σ) (evS cl' M s σ))(k:∀ σ,Le (ak cl M r σ) (ak cl' M r σ)):Le (ak cl M (.cons s r) σ) (ak cl' M (.cons s r) σ):=Le.bind h fun p=>by
 obtain⟨o,σ'⟩:=p
 cases o with
 | nx=>exact k σ'
 | rt d=>exact Le.rfl
def Le.tL{s:S}{r:Sq}{N:List Nat}(h:Le (evS cl N s σ) (evS cl' N s σ))(k:∀ σ,Le (cq cl M N r σ) (cq cl' M N r σ)):Le (cq cl M N (.cons s r) σ) (cq cl' M N (.cons s r) σ):=Le.bind h fun p=>by
 obtain⟨o,σ'⟩:=p
 cases o with
 | nx=>exact k σ'
 | rt d=>exact Le.rfl
def b5(σ:St):Le (ak cl M (c7 23 24 21) σ) (ak cl' M (c7 23 24 21) σ) :=
 Le.row H (Le.bind (Le.bind (Le.bind (Le.bind Le.rfl fun d=>Le.map (Le.bind (Le.bind Le.rfl fun ds=>H 24 ds) fun d=>Le.rfl)) fun ds=>H 23 ds) fun x=>Le.rfl) fun d=>Le.rfl) fun σ=>Le.rfl
def b4(σ:St):Le (ak cl M (cC 23 24 21) σ) (ak cl' M (cC 23 24 21) σ) :=
 Le.row H (Le.bind Le.rfl fun ds=>Le.loop (b5 H) ds σ) fun σ=>Le.rfl
def b1(σ:St):Le (ak cl M (cF 23 24 21) σ) (ak cl' M (cF 23 24 21) σ):=Le.bind Le.rfl fun d=>by
 split
 ·exact Le.tL H (Le.bind Le.rfl fun ds=>Le.loop (b4 H) ds _) fun σ=>Le.rfl
 ·exact Le.rfl
def opn(h:Le (ev cl σ e) (ev cl' σ e))(k:∀ σ,Le (cq cl M (j::N) r σ) (cq cl' M (j::N) r σ)):Le (cq cl M N (.opn j e r) σ) (cq cl' M N (.opn j e r) σ):=Le.bind h fun d=>by
 split
 ·exact k _
 ·exact Le.rfl
def Dz(h:Le (ev cl σ e) (ev cl' σ e))(k:∀ σ,Le (cq cl M (j::M) r σ) (cq cl' M (j::M) r σ)):Le (ak cl M (.opn j e r) σ) (ak cl' M (.opn j e r) σ):=Le.bind h fun d=>by
 split
 ·exact k _
 ·exact Le.rfl
def sh(n:Int):Le (evF cl (aO 23 24 21) [.int n]) (evF cl' (aO 23 24 21) [.int n]):=by
 refine Le.bind (Dz H (Le.bind (Le.bind Le.rfl fun ds=>H 21 ds) fun x=>Le.rfl) fun σ=>opn H (Le.bind (Le.bind Le.rfl fun ds=>H 21 ds) fun x=>Le.rfl) fun σ=>Le.tL H (Le.bind (Le.map (Le.bind (Le.bind Le.rfl fun ds=>H 21 ds) fun x=>Le.rfl)) fun x=>Le.rfl) fun σ=>Le.tL H (Le.bind Le.rfl fun ds=>Le.loop (b1 H) ds σ) fun σ=>Le.rfl) fun p=>?_;split<;>exact Le.rfl
end
def fh:∀ {ds:List D} {is:List Int},aN ds=some is->ds=is.map .int
 | [],_,h=>by cases h;rfl
 | .int i::r,_,h=>by
  have h:(aN r).map (i :: ·)=_:=h
  cases e:aN r with
  | none=>rw[e]at h;cases h
  |some js=>
   rw[e]at h;cases h;rw[fh e,List.map_cons]
def ot(h:il a=some f):a=L f:=by
 unfold il at h
 cases e:aN a with
 | none=>rw[e]at h;cases h
 |some is=>
  rw[e,Option.bind_some]at h;split at h
  ·rename_i q;cases h;rw[fh e];unfold L
   conv=>lhs;rw[<-q]
   rw[List.map_map];rfl
  ·cases h
abbrev frB(n:Nat)(f:List Nat):Bool:=f.length == 2*n&&(List.range (2*n)).all fun x=>decide (at' f x<2*n)&&at' f (at' f x) == x&&at' f x != x
def Bf(h:frB n f=true):Frm n f:=by
 unfold frB at h;rw[Bool.and_eq_true,beq_iff_eq,List.all_eq_true]at h;obtain⟨h1,h2⟩:=h
 have h2:∀ x,x<2*n->at' f x<2*n/\at' f (at' f x)=x/\at' f x≠x:=fun x hx=>by
  have:=h2 x (List.mem_range.mpr hx);rw[Bool.and_eq_true,Bool.and_eq_true,decide_eq_true_eq,beq_iff_eq,bne_iff_ne]at this;exact⟨this.1.1,this.1.2,this.2⟩
 refine⟨h1,fun x hx=>(h2 x hx).1,fun x=>?_,fun x hx=>(h2 x hx).2.2⟩;by_cases hx:x<2*n
 ·exact(h2 x hx).2.1
 ·have q:at' f x=x:=zi (by omega);rw[q,q]
def BX:∀ n,n<6->n≠0->∀ e∈tb n,frB n e.1=true:=by decide +kernel
def rJ(h1:1<=n)(h5:n<=5)(h:(tb n).any (fun e=>e.1 == f)=true):Frm n f:=by
 obtain⟨e,he,q⟩:=List.any_eq_true.mp h;rw[<-eq_of_beq q];exact Bf (BX n (by omega) (by omega) e he)
def lh(m:Nat)(h1:1<=k)(hk:k<=10)(F:Frm k f)(G:Frm k g):∃ r:Int,aK T (m+2) 23 [.tup (L f),.tup (L g)]=some (.tup [.tup (L (dJ k f g)),.int r]):=by
 obtain⟨inner,i1,i2,i3⟩:=uZ (cl:=aK T (m+1)) (fr:=22) h1 hk F.len G.len F.lt G.lt
 obtain⟨S,R,e⟩:=qe (cl:=aK T m) h1 hk F G i2 (fun m=>by
  rw[i1 m]
  exact⟨fun⟨a,b⟩=>⟨a,fun z=>b ((lP F G a).mpr z)⟩,fun⟨a,b⟩=>⟨a,fun z=>b ((lP F G a).mp z)⟩⟩)
 exact⟨_,(cu (fn:=d6 22) rfl).trans (i3 _ ((cu (fn:=cO) rfl).trans e))⟩
def CP(h1:1<=n)(h5:n<=5)(f:Nat)(ds:List D):Le (clF n 28 f ds) (aK T 28 f ds):=fun d h=>by
 unfold clF at h;split at h
 ·rename_i q;subst q;unfold vP at h;split at h
  ·rename_i a b
   cases ea:il a with
   | none=>rw[ea]at h;cases h
   |some f=>
    cases eb:il b with
    | none=>rw[ea,eb]at h;cases h
    |some g=>
     rw[ea,eb,Option.bind_some,Option.bind_some]at h;split at h
     ·rename_i q;rw[Bool.and_eq_true]at q;cases h;rw[ot ea,ot eb];exact Classical.epsilon_spec (p:=fun r:Int=>aK T 28 23 [.tup (L f),.tup (L g)]=some (.tup [.tup (L (dJ n f g)),.int r])) (lh 26 h1 (by omega) (rJ h1 h5 q.1) (rJ h1 h5 q.2))
     ·cases h
  ·cases h
 ·exact h
def Cb(h1:1<=n)(h5:n<=5):aK T 29 29 [.int (n:Nat)]=some (out (tb n)):=by
 refine(cu (fn:=aO 23 24 21) rfl).trans (sh (CP h1 h5) n _ ?_)
 match n,h1,h5 with
 | 1,_,_=>exact k1
 | 2,_,_=>exact k2
 | 3,_,_=>exact k3
 | 4,_,_=>exact k4
 | 5,_,_=>exact k5
def ee{f g:α->β}{l:List α}(h:l.map f=l.map g):∀ e∈l,f e=g e:=by
 induction l with
 | nil=>intro e he;cases he
 |cons x r ih=>
  rw[List.map_cons,List.map_cons]at h;injection h with a b;intro e he;rcases List.mem_cons.mp he with rfl | he
  ·exact a
  ·exact ih b e he
def Cz(h1:1<=n)(h5:n<=5)(s:D)(o5 o6:Option D)(e:En)(he:e∈tb n):tn n s o5 o6 e=af n s e:=by
 match n,h1,h5 with
 | 1,_,_=>exact ee (r1 s o5 o6) e he
 | 2,_,_=>exact ee (r2 s o5 o6) e he
 | 3,_,_=>exact ee (r3 s o5 o6) e he
 | 4,_,_=>exact ee (r4 s o5 o6) e he
 |5,_,_=>
  have he:e∈t5:=he;rw[<-List.take_append_drop 14 t5,List.mem_append]at he;rcases he with he | he
  ·exact ee (r5a s o5 o6) e he
  ·rw[<-List.take_append_drop 14 (t5.drop 14),List.mem_append]at he;rcases he with he | he
   ·exact ee (r5b s o5 o6) e he
   ·rw[List.drop_drop]at he;exact ee (r5c s o5 o6) e he
def qV:∀ f:List Nat,(kyL f).map kyD=L f
 | []=>rfl
 | x::r=>congrArg _ (qV r)
def Ab(t:List En):pU (ro t)=some (t.map fun e=>.tup (L e.1)):=by
 show some (((t.map fun e=>kyL e.1).map fun k=>D.tup (k.map kyD)))=_;rw[List.map_map];refine congrArg some (List.map_congr_left fun e _=>?_);show D.tup ((kyL e.1).map kyD)=_;rw[qV]
def loop(h1:1<=n)(h5:n<=5)(s:D):∀ (t:List En),(∀ e∈t,e∈tb n)->∀ o2 o5 o6:Option D,∃ a b c,aP (ak (aK T 29) [6] (mW 28 16 17 14 15 29 27)) [2] (t.map fun e=>.tup (L e.1)) [some s,some (.int (n:Nat)),o2,some (ro (tb n)),some (be (tb n)),o5,o6]=some (.nx,[some s,some (.int (n:Nat)),a,some (ro (tb n)),some (be (tb n)),b,c])
 | [],_,o2,o5,o6=>⟨o2,o5,o6,rfl⟩
 | e::r,h,o2,o5,o6=>by
  obtain⟨a,b,c,k⟩:=loop h1 h5 s r (fun e he=>h e (by simp[he])) (some (.tup (L e.1))) (some (.int 1)) (some (.lst (L e.2.1++[.int 0])));exact⟨a,b,c,jT (by simp[D.imm,hJ]) rfl (Cz h1 h5 s o5 o6 e (h e (by simp))) k⟩
def CQ(h:iI ds [a]):∃ x,ds=[x]/\x<a:=by
 obtain⟨h1,h2⟩:=h
 match ds,h1 with
 | [x],_=>exact⟨x,rfl,h2 0 x a rfl rfl⟩
def dg:Dg T 25 26 27:=⟨rfl,rfl,rfl⟩
def C6:∀ t:List En,ah [ro t,be t]=true:=fun t=>by
 have a:∀ t:List En,ah (t.map fun e=>D.fL (L e.2.1))=true:=fun t=>by
  induction t with
  | nil=>rfl
  | cons e r ih=>rw[List.map_cons,ah,ih,D.imm,hJ];rfl
 have b:∀ t:List En,ah (t.map fun e=>D.tup [.fL (L e.2.2.1),.fL (L e.2.2.2)])=true:=fun t=>by
  induction t with
  | nil=>rfl
  | cons e r ih=>simp[ah,D.imm,hJ]at ih ⊢;exact ih
 unfold ro be;simp only[ah,D.imm,a,b,Bool.and_self]
def CS(h1:1<=n)(h5:n<=5)(σ:St)(h:σ[1]?=some (some (.int (n:Nat)))):ev (aK T 29) σ (.ix (.lst (.cons (.cst (.int 1)) (.cons (.cst (.int 2)) (.cons (.cst (.int 5)) (.cons (.cst (.int 14)) (.cons (.cst (.int 42)) .nil)))))) (.bin .sub (.var 1) (.cst (.int 1))))=some (.int ((tb n).length:Nat)):=by
 have v:ev (aK T 29) σ (.var 1)=some (.int (n:Nat)):=by rw[bW,h];rfl
 refine mC (vI (bI aB (bI aB (bI aB (bI aB (bI aB jg)))))) (aC v aB rfl) ?_
 match n,h1,h5 with
 | 1,_,_=>rfl
 | 2,_,_=>rfl
 | 3,_,_=>rfl
 | 4,_,_=>rfl
 | 5,_,_=>rfl
def main(ns:List Int)(hl:ns.length<=63):aK T 30 30 [.scr (ns.map D.int)]=some (.bl true):=by
 obtain⟨ds,hd,e2⟩:=dg.digits hl 26 (k:=0) (sizes:=[5]) (by omega) (by simp) (by simp);obtain⟨p,rfl,hp⟩:=CQ hd;have e0:aQ .add (.int 1) (.int (p:Nat))=some (.int ((1+p:Nat):Int)):=rfl
 have n1:1<=1+p:=by omega
 have n5:1+p<=5:=by omega
 generalize 1+p=n at *;obtain⟨a,b,c,lp⟩:=loop n1 n5 (.lst (LI ns)) (tb n) (fun e he=>he) none none none
 have ln:biV .len (ro (tb n))=some (.int ((tb n).length:Nat)):=by
  show some (D.int (((tb n).map fun e=>kyL e.1).length:Nat))=_;rw[List.length_map]
 exact(cu (fn:=vN 28 16 17 14 15 29 27) rfl).trans (eu rfl rfl (bZ (Cq (aq rfl) aB (BM hl)) (by simp[b8,D.imm,aI,qt])
  (bZ (aC aB (mC (D0 (aq rfl) aB (vI (bI aB jg)) e2) aB rfl) e0) rfl
  (zL (yq (aq rfl) (Cb n1 n5)) rfl (C6 _) rfl
  (ip (fZ (cD (dS (aq rfl) ln) (CS n1 n5 _ rfl) (by rw[Di,beq_self_eq_true];rfl)))
  (eA (by rw[bj,bW];exact Ab _) lp (gE aB rfl)))))))
end K26
namespace L2
open PySem PySem.Spec PyProof.Rows
@[reducible]noncomputable def Key:=Sum Int Str
abbrev iu:Key->Value->Bool
 | .inl k,v=>Value.isInt k v
 | .inr x,v=>Value.isStrOf x v
abbrev D5(w:World):Key->Int
 | .inl k=>hashInt k
 | .inr x=>hashStr w x
def aZ:∀ {k:Key} {v:Value},iu k v=true->(∃ i t,k=Sum.inl i/\v=Value.int i t)\/(∃ x t,k=Sum.inr x/\v=Value.str x t)
 | .inl i,v,h=>by
  obtain⟨t,e⟩:=Value.isInt_shape (k:=i) (v:=v) h;exact .inl ⟨i,t,rfl,e⟩
 | .inr x,v,h=>by
  obtain⟨t,e⟩:=Value.isStrOf_shape (x:=x) (v:=v) h;exact .inr ⟨x,t,rfl,e⟩
def rP(i:Int)(t:Tok):iu (.inl i) (.int i t)=true:=by simp[iu,Value.isInt]
def rn(x:Str)(t:Tok):iu (.inr x) (.str x t)=true:=by simp[iu,Value.isStrOf]
def AA(a b:Int):decide ((Sum.inl a:Key)=Sum.inl b)=(a == b):=by
 by_cases e:a=b
 ·subst e;simp
 ·have h:¬ (Sum.inl a:Key)=Sum.inl b:=fun q=>e (Sum.inl.inj q);rw[decide_eq_false h];exact(beq_eq_false_iff_ne.mpr e).symm
def BB(a b:Str):decide ((Sum.inr a:Key)=Sum.inr b)=decide (a=b):=by
 by_cases e:a=b
 ·subst e;simp
 ·have h:¬ (Sum.inr a:Key)=Sum.inr b:=fun q=>e (Sum.inr.inj q);rw[decide_eq_false h,decide_eq_false e]
def Bv(a:Int)(b:Str):decide ((Sum.inl a:Key)=Sum.inr b)=false:=decide_eq_false (fun q=>nomatch q)
def zI(a:Str)(b:Int):decide ((Sum.inr a:Key)=Sum.inl b)=false:=decide_eq_false (fun q=>nomatch q)
abbrev aT(prog:Program)(w:World):PySem.KeyKind prog w Key where
 is:=iu
 hash:=D5 w
 inj:=fun v a b ha hb=>by
  rcases aZ ha with⟨i,t,rfl,rfl⟩ | ⟨x,t,rfl,rfl⟩
  ·rcases aZ hb with⟨j,u,rfl,e⟩ | ⟨y,u,rfl,e⟩
   ·injection e with e1 _;rw[e1]
   ·exact nomatch e
  ·rcases aZ hb with⟨j,u,rfl,e⟩ | ⟨y,u,rfl,e⟩
   ·exact nomatch e
   ·injection e with e1 _;rw[e1]
 byValue:=fun k v h=>by
  rcases aZ h with⟨i,t,rfl,rfl⟩ | ⟨x,t,rfl,rfl⟩<;>rfl
 pyHash:=fun hv h=>by
  rcases aZ hv with⟨i,t,rfl,rfl⟩ | ⟨x,t,rfl,rfl⟩
  ·exact wpAny_pyHash_int h
  ·exact wpAny_pyHash_str h
 eqBool:=fun hu hv h=>by
  rcases aZ hu with⟨i,t,rfl,rfl⟩ | ⟨x,t,rfl,rfl⟩
  ·rcases aZ hv with⟨j,u,rfl,rfl⟩ | ⟨y,u,rfl,rfl⟩
   ·rw[AA]at h;exact wpAny_eqBool_int h
   ·rw[Bv]at h;exact SeqAt.EqAt.int_str i t y u _ _ _ _ h
  ·rcases aZ hv with⟨j,u,rfl,rfl⟩ | ⟨y,u,rfl,rfl⟩
   ·rw[zI]at h;exact SeqAt.EqAt.str_int x t j u _ _ _ _ h
   ·rw[BB]at h;exact wpAny_eqBool_str h
 «strs»:=fun k x t v h=>by
  rcases aZ h with⟨i,u,rfl,e⟩ | ⟨y,u,rfl,e⟩
  ·exact nomatch e
  ·injection e with e1 _;subst e1;cases v<;>rfl
def nM(prog:Program)(w:World)(i:Int)(t:Tok):(aT prog w).is (.inl i) (.int i t)=true:=rP i t
def nH(prog:Program)(w:World)(x:Str)(t:Tok):(aT prog w).is (.inr x) (.str x t)=true:=rn x t
set_option genInjectivity true in
inductive V where
 | non | bl (b:Bool) | int (i:Int) | str (x:Str) | byt (b:Array UInt8) | flt (b:UInt64) | ref (a:Addr) | ty (n:String)
 deriving DecidableEq
abbrev RelV:V->Value->Prop
 | .non,u=>u=Value.none
 | .bl b,u=>u=Value.bool b
 | .int i,u=>∃ t,u=Value.int i t
 | .str x,u=>∃ t,u=Value.str x t
 | .byt b,u=>∃ t,u=Value.bytes b t
 | .flt b,u=>∃ t,u=Value.float b t
 | .ref a,u=>u=Value.ref a
 | .ty n,u=>u=Value.type n
@[reducible]noncomputable def Vals:List V->List Value->Prop:=Paired RelV
def Vals.length(r:Vals xs us):xs.length=us.length:=Paired.length r
def Vals.get:∀ {xs:List V} {us:List Value} {i:Nat} {x:V},Vals xs us->xs[i]?=some x->∃ u,us[i]?=some u/\RelV x u
 | _,_,_,_,.nil,e=>by simp at e
 | _,_,0,_,.cons r _,e=>by simp at e;subst e;exact⟨_,rfl,r⟩
 | _,_,i+1,x,.cons _ t,e=>by
  obtain⟨u,h1,h2⟩:=Vals.get (i:=i) (x:=x) t (by simpa using e);exact⟨u,by simpa using h1,h2⟩
def Vals.set(r:RelV x u):∀ {xs:List V} {us:List Value} (i:Nat),Vals xs us->Vals (xs.set i x) (us.set i u)
 | _,_,_,.nil=>.nil
 | _,_,0,.cons _ t=>.cons r t
 | _,_,i+1,.cons q t=>.cons q (Vals.set r i t)
def Vals.append:∀ {xs ys:List V} {us ws:List Value},Vals xs us->Vals ys ws->Vals (xs++ys) (us++ws)
 | _,_,_,_,.nil,s=>s
 | _,_,_,_,.cons r t,s=>.cons r (Vals.append t s)
def Vals.take:∀ {xs:List V} {us:List Value} (n:Nat),Vals xs us->Vals (xs.take n) (us.take n)
 | _,_,0,_=>.nil
 | _,_,_+1,.nil=>.nil
 | _,_,n+1,.cons r t=>.cons r (Vals.take n t)
def Vals.drop:∀ {xs:List V} {us:List Value} (n:Nat),Vals xs us->Vals (xs.drop n) (us.drop n)
 | _,_,0,r=>r
 | _,_,_+1,.nil=>.nil
 | _,_,n+1,.cons _ t=>Vals.drop n t
abbrev cR:Option V->Option Value->Prop
 | some v,some u=>RelV v u
 | none,none=>True
 | _,_=>False
abbrev KV:List (κ × V)->List (κ × Value)->Prop:=Paired fun(p:κ × V) (q:κ × Value)=>p.1=q.1/\RelV p.2 q.2
abbrev kV:Key->V
 | .inl i=>.int i
 | .inr x=>.str x
inductive HO where
  | lst (xs:List V)
  | tup (xs:List V)
  | dK (kvs:List (Key × V)) | dT (kvs:List (List Key × V))
  | set (S:Int->Bool) (n:Nat)
  | ins (C dx:Addr) (fs:List (Str × V))
  | own (x:Addr)
  | xd (fs:List (Str × V))
  | met (f x:Addr)
  | rng (lo hi:Int)
  | frz (o:Obj) (u:HO)
  | tbl (ps:Array Value)
  | ext (φ:Heap->Prop)
@[reducible]noncomputable def Hp:=Addr->Option HO
abbrev upd(H:Hp)(a:Addr)(o:HO):Hp:=fun b=>if b=a then some o else H b
def a8:upd H a o a=some o:=by unfold upd;rw[if_pos rfl]
def a6(h:b≠a):upd H a o b=H b:=by unfold upd;rw[if_neg h]
def eC{H:Hp}(h:H a=some o)(h':H b=some u)(d:o≠u):a≠b:=by
 intro e;subst e;rw[h]at h';exact d (Option.some.inj h')
def a5{H:Hp}(h:H a=some o)(h':H b=none):a≠b:=by
 intro e;subst e;rw[h]at h';cases h'
section
variable(P:Program)(w:World)
abbrev aM(H:Hp)(h:Heap)(a:Addr):HO->Prop
 | .lst xs=>xs.length<=sizeLine/\∃ (its:List Value) (n:Nat),Vals xs its/\h.get? a=some { cls:=.type "list",data:=.seq its.toArray n }
 | .tup xs=>xs.length<=sizeLine/\∃ its:List Value,Vals xs its/\IsTup h a its.toArray
 | .dK kvs=>kvs.length<=sizeLine/\(a == sysModules)=false/\∃ vs,KV kvs vs/\h.DictOf (aT P w) a vs
 | .dT kvs=>kvs.length<=sizeLine/\(a == sysModules)=false/\∃ xs:List (List Key × Addr × Value),
   Paired (fun(p:List Key × V) (q:List Key × Addr × Value)=>p.1=q.1/\H q.2.1=some (.tup (p.1.map kV))/\RelV p.2 q.2.2) kvs xs /\
   ∃ o es ep,h.get? a=some o/\o.ExactDict/\o.data=.dict es ep/\es.toList=xs.map (entryOfKey (tupleKind (aT P w)))/\(xs.map (·.1)).Nodup
 | .set S n=>h.SetOf (intKind P w) a S n
 | .ins C dx fs=>H dx=some (.own a)/\fs.length<=1000/\dx≠a/\h.get? a=some (PySem.W.instObj C dx) /\
   ∃ mA,h.Ns1 dx mA/\(∀ f,cR (fs.lookup f) (mA f))/\PySem.Within mA (fs.map (·.1))
 | .own _=>∃ o,h.get? a=some o
 | .xd fs=>∃ mA,h.Ns1 a mA/\∀ f,cR (fs.lookup f) (mA f)
 | .rng lo hi=>∃ t u v,h.get? a=some { cls:=.type "range",data:=.fields #[.int lo t,.int hi u,.int 1 v] }
 | .frz o u=>h.get? a=some o/\aM H h a u
 | .tbl ps=>h.get? a=some { cls:=.none,data:=.fields ps }
 | .met f x=>h.get? a=some (PySem.W.methodObj (.ref f) (.ref x))
 | .ext φ=>φ h/\(∃ o,h.get? a=some o)/\∀ h1 h2:Heap,φ h1->(∀ o,h1.get? a=some o->h2.get? a=some o)->φ h2
abbrev HOk(H:Hp)(h:Heap):Prop:=∀ a o,H a=some o->aM P w H h a o
end
section
variable{P:Program}{w:World}{H H':Hp}{h h':Heap}{a:Addr}{o:HO}
def aM.lt(x:aM P w H h a o):a<h.objs.size:=by
 cases o with
 | lst xs=>obtain⟨_,_,_,_,e⟩:=x;exact Heap.lt_size e
 | tup xs=>obtain⟨_,_,_,p⟩:=x;exact p.lt
 | dK kvs=>obtain⟨_,_,_,_,o,_,_,e,_⟩:=x;exact Heap.lt_size e
 | dT kvs=>obtain⟨_,_,_,_,o,_,_,e,_⟩:=x;exact Heap.lt_size e
 | set S n=>obtain⟨o,_,_,_,e,_⟩:=x;exact Heap.lt_size e
 | ins C dx fs=>obtain⟨_,_,_,e,_⟩:=x;exact Heap.lt_size e
 | own y=>obtain⟨_,e⟩:=x;exact Heap.lt_size e
 | xd fs=>obtain⟨_,⟨_,_,_,e,_⟩,_⟩:=x;exact Heap.lt_size e
 | rng lo hi=>obtain⟨_,_,_,e⟩:=x;exact Heap.lt_size e
 | frz ob u=>obtain⟨e,_⟩:=x;exact Heap.lt_size e
 | tbl ps=>exact Heap.lt_size (show h.get? a=some _ from x)
 | met f y=>exact Heap.lt_size (show h.get? a=some _ from x)
 | ext φ=>obtain⟨_,⟨_,e⟩,_⟩:=x;exact Heap.lt_size e
def Paired.uL:∀ {l₁:List α} {l₂:List β},Paired F l₁ l₂->(∀ a b,F a b->G a b)->Paired G l₁ l₂
 | _,_,.nil,_=>.nil
 | _,_,.cons r t,f=>.cons (f _ _ r) (Paired.uL t f)
def aM.jG(x:aM P w H h a o)(k:∀ b u,(b=a\/H b=some (.own a))->h.get? b=some u->h'.get? b=some u)
 (ho:∀ b,H b=some (.own a)->H' b=some (.own a))(ht:∀ b xs,H b=some (.tup xs)->H' b=some (.tup xs)):aM P w H' h' a o:=by
 induction o with
 | lst xs=>obtain⟨z,its,n,r,e⟩:=x;exact⟨z,its,n,r,k _ _ (.inl rfl) e⟩
 | tup xs=>obtain⟨z,its,r,ob,e,c⟩:=x;exact⟨z,its,r,ob,k _ _ (.inl rfl) e,c⟩
 | dK kvs=>obtain⟨z,y,vs,r,ob,es,ep,e,c⟩:=x;exact⟨z,y,vs,r,ob,es,ep,k _ _ (.inl rfl) e,c⟩
 |dT kvs=>
  obtain⟨z,y,xs,r,ob,es,ep,e,c⟩:=x;exact⟨z,y,xs,Paired.uL r fun p q z=>⟨z.1,ht _ _ z.2.1,z.2.2⟩,ob,es,ep,k _ _ (.inl rfl) e,c⟩
 | set S n=>obtain⟨ob,es,ep,t,e,c⟩:=x;exact⟨ob,es,ep,t,k _ _ (.inl rfl) e,c⟩
 |ins C dx fs=>
  obtain⟨d,z,ne,e,mA,⟨od,es,ep,e2,c⟩,r⟩:=x;exact⟨ho _ d,z,ne,k _ _ (.inl rfl) e,mA,⟨od,es,ep,k _ _ (.inr d) e2,c⟩,r⟩
 | own y=>obtain⟨ob,e⟩:=x;exact⟨ob,k _ _ (.inl rfl) e⟩
 | xd fs=>obtain⟨mA,⟨od,es,ep,e,c⟩,r⟩:=x;exact⟨mA,⟨od,es,ep,k _ _ (.inl rfl) e,c⟩,r⟩
 | rng lo hi=>obtain⟨t,u,v,e⟩:=x;exact⟨t,u,v,k _ _ (.inl rfl) e⟩
 | frz ob u ih=>obtain⟨e,q⟩:=x;exact⟨k _ _ (.inl rfl) e,ih q⟩
 |tbl ps=>
  have e:h.get? a=some { cls:=.none,data:=.fields ps }:=x;show h'.get? a=some { cls:=.none,data:=.fields ps };exact k a _ (.inl rfl) e
 |met f y=>
  have e:h.get? a=some (PySem.W.methodObj (.ref f) (.ref y)):=x;show h'.get? a=some (PySem.W.methodObj (.ref f) (.ref y));exact k a _ (.inl rfl) e
 | ext φ=>obtain⟨p,⟨o,e⟩,st⟩:=x;exact⟨st _ _ p fun o q=>k _ _ (.inl rfl) q,⟨o,k _ _ (.inl rfl) e⟩,st⟩
def HOk.lt(x:HOk P w H h)(e:H a=some o):a<h.objs.size:=(x a o e).lt
def HOk.fresh(x:HOk P w H h)(e:h.objs.size<=a):H a=none:=by
 cases q:H a with
 | none=>rfl
 | some u=>exact absurd (Nat.lt_of_lt_of_le (x.lt q) e) (Nat.lt_irrefl _)
def HOk.kept(x:HOk P w H h)(k:∀ b u,h.get? b=some u->h'.get? b=some u):HOk P w H h':=fun a o e =>
 (x a o e).jG (fun b u _ q=>k b u q) (fun _ q=>q) fun _ _ q=>q
def HOk.laid(x:HOk P w H h)(k:∀ b u,h.get? b=some u->h'.get? b=some u)(hp:h.objs.size<=a)(new:aM P w (upd H a o) h' a o):HOk P w (upd H a o) h':=fun b u e=>by
 have hn:=x.fresh hp;by_cases hb:b=a
 ·subst hb;rw[a8]at e;cases e;exact new
 ·rw[a6 hb]at e
  exact(x b u e).jG (fun c v _ q=>k c v q) (fun c q=>by rw[a6 (a5 q hn)];exact q) fun c xs q=>by rw[a6 (a5 q hn)];exact q
end
abbrev Rd(H:Hp)(a:Addr)(u:HO):Prop:=H a=some u\/∃ o,H a=some (.frz o u)
def Rd.ok(r:Rd H a u)(x:HOk P w H h):aM P w H h a u:=by
 rcases r with r | ⟨o,r⟩
 ·exact x a u r
 ·obtain⟨_,q⟩:=x a _ r;exact q
abbrev Mut:Option HO->Prop
 | some (.lst _)=>True
 | some (.dK _)=>True
 | some (.dT _)=>True
 | some (.set _ _)=>True
 | some (.ins _ _ _)=>True
 | some (.ext _)=>True
 | _=>False
section
variable{P:Program}{w:World}{H:Hp}{h h':Heap}{x e:Addr}{o':HO}
def HOk.write(ok:HOk P w H h)(mu:Mut (H x))(he:e=x\/H e=some (.own x))(k:∀ b u,b≠e->h.get? b=some u->h'.get? b=some u)(heo:∃ u,h'.get? e=some u)
 (new:aM P w (upd H x o') h' x o'):HOk P w (upd H x o') h':=fun b u q=>by
 have nown:∀ c y,H c=some (.own y)->c≠x:=fun c y r z=>by subst z;rw[r]at mu;exact mu
 have ntup:∀ c xs,H c=some (.tup xs)->c≠x:=fun c xs r z=>by subst z;rw[r]at mu;exact mu
 by_cases hb:b=x
 ·subst hb;rw[a8]at q;cases q;exact new
 ·rw[a6 hb]at q;by_cases hbe:b=e
  ·have q':H b=some (.own x):=by
    rcases he with z | z
    ·exact absurd (hbe.trans z) hb
    ·rw[hbe];exact z
   rw[q]at q';cases q';obtain⟨v,hv⟩:=heo;exact⟨v,by rw[hbe];exact hv⟩
  ·refine(ok b u q).jG (fun c v hc r=>k c v ?_ r) (fun c r=>by rw[a6 (nown c b r)];exact r) fun c xs r=>by rw[a6 (ntup c xs r)];exact r
   rcases hc with rfl | hc
   ·exact hbe
   ·rintro rfl;rcases he with z | z
    ·exact nown c b hc z
    ·rw[hc]at z;cases z;exact hb rfl
end
structure Un(fs ex:List Addr)(H H':Hp)(h h':Heap):Prop where
 keep:∀ b o,h.get? b=some o->H b=none->b∉fs->b∉ex->h'.get? b=some o
 slot:∀ b o,h.get? b=some o->H b=none->b∈fs->b∉ex->∃ sl,h'.get? b=some { o with slots:=sl }
 free:∀ b o,h.get? b=some o->H b=none->b∉ex->H' b=none
 there:∀ b o,h.get? b=some o->b∉ex->∃ o',h'.get? b=some o'
 gI:∀ b xs,H b=some (.tup xs)->H' b=some (.tup xs)
 dO:∀ b o u,H b=some (.frz o u)->H' b=some (.frz o u)
 gy:∀ b ps,H b=some (.tbl ps)->∃ more,H' b=some (.tbl (ps++more))
section
variable{fs fs' ex ex':List Addr}{H H1 H2:Hp}{h h1 h2 h':Heap}{a x e:Addr}{o:HO}
def Un.any(u:Un fs ex H H1 h h1)(q:h.get? b=some ob)(n:H b=none)(hx:b∉ex):∃ sl,h1.get? b=some { ob with slots:=sl }:=by
 by_cases hb:b∈fs
 ·exact u.slot b ob q n hb hx
 ·exact⟨ob.slots,u.keep b ob q n hb hx⟩
def Un.kept(k:∀ b u,h.get? b=some u->h'.get? b=some u):Un fs ex H H h h' :=
 ⟨fun b ob q _ _ _=>k b ob q,fun b ob q _ _ _=>⟨ob.slots,k b ob q⟩,fun _ _ _ n _=>n,fun b ob q _=>⟨ob,k b ob q⟩,fun _ _ q=>q,fun _ _ _ q=>q,fun _ ps q=>⟨#[],by rw[q];simp⟩⟩
def Un.refl:Un fs ex H H h h:=Un.kept fun _ _ q=>q
def Un.laid(k:∀ b u,h.get? b=some u->h'.get? b=some u)(hp:h.objs.size<=a)(hn:H a=none):Un fs ex H (upd H a o) h h' where
 keep:=fun b u q _ _ _=>k b u q
 slot:=fun b u q _ _ _=>⟨u.slots,k b u q⟩
 free:=fun b u q n _=>by rw[a6 (Nat.ne_of_lt (Nat.lt_of_lt_of_le (Heap.lt_size q) hp))];exact n
 there:=fun b u q _=>⟨u,k b u q⟩
 gI:=fun b xs q=>by rw[a6 (a5 q hn)];exact q
 dO:=fun b u xs q=>by rw[a6 (a5 q hn)];exact q
 gy:=fun b ps q=>⟨#[],by rw[a6 (a5 q hn),q];simp⟩
def Un.write(mu:Mut (H x))(he:e=x\/H e=some (.own x))(k:∀ b u,b≠e->h.get? b=some u->h'.get? b=some u)(heo:∃ u,h'.get? e=some u):Un fs ex H (upd H x o) h h':=by
 have hx:∀ b,H b=none->b≠x:=fun b n z=>by subst z;rw[n]at mu;exact mu
 have hb:∀ b,H b=none->b≠e:=fun b n z=>by
  subst z;rcases he with r | r
  ·exact hx b n r
  ·rw[n]at r;cases r
 have hm:∀ b u,H b=some u->¬ Mut (some u)->b≠x:=fun b u q nm z=>by subst z;rw[q]at mu;exact nm mu
 refine⟨fun b u q n _ _=>k b u (hb b n) q,fun b u q n _ _=>⟨u.slots,k b u (hb b n) q⟩,fun b u q n _=>by rw[a6 (hx b n)];exact n,fun b u q _=>?_,
  fun b xs q=>by rw[a6 (hm b _ q fun z=>z)];exact q,fun b u xs q=>by rw[a6 (hm b _ q fun z=>z)];exact q,fun b ps q=>⟨#[],by rw[a6 (hm b _ q fun z=>z),q];simp⟩⟩
 by_cases hbe:b=e
 ·subst hbe;exact heo
 ·exact⟨u,k b u hbe q⟩
end
abbrev trk(h:Heap)(H:Hp):List Addr:=(List.range h.objs.size).filter fun a=>(H a).isSome
abbrev fR(h:Heap)(H:Hp):Heap:=PySem.W.hideAll h (trk h H)
def qS(h:Heap)(H:Hp):(fR h H).objs.size=h.objs.size:=PySem.W.hideAll_size _ _
def uk(e:h.get? b=some o)(n:H b=none):(fR h H).get? b=some o :=
 PySem.W.hideAll_get _ e fun hm=>by
  have q:(H b).isSome=true:=(List.mem_filter.mp hm).2;rw[n]at q;simp at q
def xT(e:(fR h H).get? b=some o):h.get? b=some o/\H b=none:=by
 have e':h.get? b=some o:=PySem.W.of_hideAll (trk h H) e;refine⟨e',?_⟩
 cases q:H b with
 | none=>rfl
 |some x=>
  have hm:b∈trk h H:=List.mem_filter.mpr ⟨List.mem_range.mpr (Heap.lt_size e'),by simp[q]⟩;have z:(fR h H).get? b=none:=PySem.W.hideAll_none (trk h H) hm;rw[z]at e;cases e
structure Mod(K:PySem.W.Frag)(mg:Str->Option Value)(base:Heap):Prop where
 kin:K.In base
 glob:base.Ns mainGlobals mg
 blt:∃ mb,base.Ns builtinsNs mb/\∀ x:Str,x ≠ "__name__" -> mb x=bootBuiltins x
 nolimit:base.NoLimit
structure Cx where
 prog:Program
 w:World
 K:PySem.W.Frag
 mg:Str->Option Value
 base:Heap
 A:Around
 N:List Str
 s₀:Shared
 H₀:Hp
 env:Env
 outer:List Env
 stack:List Env
 ex:List Addr
 fn:Str->Bool
 calm:Bool
 pn:List (Addr × Obj)
 xe:Value->Shared->Prop
abbrev frs(l:List Env):List Addr:=l.filterMap (·.frame)
@[reducible]noncomputable def Cx.fs(X:Cx):List Addr:=frs X.outer
abbrev Vis(sc:Scope)(x:Str):Prop:=sc.names.lookup x=some .local\/sc.names.lookup x=some .cell\/sc.names.lookup x=some .free
abbrev Loc(sc:Scope)(x:Str):Prop:=sc.names.lookup x=some .local\/sc.names.lookup x=some .cell
abbrev Look(env:Env)(h:Heap)(m:Str->Option Value)(x:Str)(u:Value):Prop :=
 (env.kindOf x=some .local/\m x=some u)\/((env.kindOf x=some .cell\/env.kindOf x=some .free)/\∃ c,env.cells.lookup x=some c/\h.IsCell c (some u))
abbrev HX(X:Cx):Prop:=X.A.handled=none\/∃ h o u vs,X.A.handled=some (.ref h)/\X.H₀ h=some (.frz o u)/\o.data=.fields vs/\vs[2]?=some .none
structure Cx.Ok(X:Cx):Prop where
 mod:Mod X.K X.mg X.base
 kind:X.env.scope.kind=.function
 glob:X.env.globals=mainGlobals
 blt:X.env.builtins=builtinsNs
 above:X.s₀.heap.objs.size<=X.env.locals
 inj:∀ x y c,X.env.cells.lookup x=some c->X.env.cells.lookup y=some c->x=y
 has:∀ x,(X.env.kindOf x=some .cell\/X.env.kindOf x=some .free)->∃ c,X.env.cells.lookup x=some c
 cab:∀ x c,X.fn x=true->X.env.cells.lookup x=some c->X.s₀.heap.objs.size<=c
 hd:(X.calm=true->X.A.handled=none)/\HX X
 frames:X.A.frames=some X.stack
 stk:X.stack=X.outer\/(X.stack=X.env::X.outer/\X.env.frame=some X.env.locals)
 exf:∀ b∈X.ex,b≠X.env.locals/\∀ x c,X.env.cells.lookup x=some c->c≠b
 bs:∀ b o,X.base.get? b=some o->X.s₀.heap.get? b=some o/\X.H₀ b=none
 bsz:X.base.objs.size<=X.s₀.heap.objs.size
 mL:∀ b o,X.base.get? b=some o->b∉X.ex
 mr:∀ b∈X.ex,b∉X.fs
 e8:X.s₀.heap.FunFrames X.base X.outer
 frf:∀ b∈X.fs,X.H₀ b=none
structure Inv(X:Cx)(pins:List (Addr × Obj))(σ:List (Option V))(H:Hp)(s:Shared):Prop where
 ok:X.Ok
 os:s.os=X.s₀.os
 bare:AllBare s.gens
 base:Un X.fs X.ex X.H₀ H X.s₀.heap s.heap
 loc:∃ m,s.heap.Ns X.env.locals m/\∀ (i:Nat) (x:Str) (v:V),X.N[i]?=some x->σ[i]?=some (some v)->Vis X.env.scope x->∃ u,RelV v u/\Look X.env s.heap m x u
 cell:∀ x c,X.env.cells.lookup x=some c->∃ v,s.heap.IsCell c v
 free:H X.env.locals=none
 cI:∀ x c,X.env.cells.lookup x=some c->H c=none
 pin:∀ p∈X.pn++pins,s.heap.get? p.1=some p.2/\H p.1=none/\p.1≠X.env.locals/\p.1∉X.fs/\∀ v,p.2.data≠.cell v
 hok:HOk X.prog X.w H s.heap
 len:σ.length=X.N.length
section
variable{X:Cx}{pins:List (Addr × Obj)}{σ:List (Option V)}{H H':Hp}{s:Shared}{h':Heap}
def Cx.Ok.CV(ok:X.Ok)(e:X.base.get? b=some o):b∉X.fs:=fun hb=>by
 have:=(ok.e8.mem hb).1;rw[e]at this;cases this
def Inv.bs(I:Inv X pins σ H s):∀ b o,X.base.get? b=some o->s.heap.get? b=some o/\H b=none:=fun b o e =>
 ⟨I.base.keep b o (I.ok.bs b o e).1 (I.ok.bs b o e).2 (I.ok.CV e) (I.ok.mL b o e),I.base.free b o (I.ok.bs b o e).1 (I.ok.bs b o e).2 (I.ok.mL b o e)⟩
def Inv.bk(I:Inv X pins σ H s):∀ b o,X.base.get? b=some o->s.heap.get? b=some o:=fun b o e=>(I.bs b o e).1
def Inv.mod(I:Inv X pins σ H s):Mod X.K X.mg X.base:=I.ok.mod
def Inv.kIn(I:Inv X pins σ H s):X.K.In s.heap:=I.ok.mod.kin.keeps I.bk
def Inv.lt(I:Inv X pins σ H s):X.env.locals<s.heap.objs.size:=let ⟨_,hn,_⟩:=I.loc;hn.lt
def Inv.sz(I:Inv X pins σ H s):X.s₀.heap.objs.size<=s.heap.objs.size:=Nat.le_trans I.ok.above (Nat.le_of_lt I.lt)
def Inv.D4(I:Inv X pins σ H s)(h:s.heap.objs.size<=a):a∉X.fs:=fun hb=>by
 obtain⟨_,o,ho,_⟩:=I.ok.e8.mem hb;exact absurd (Nat.lt_of_lt_of_le (Heap.lt_size ho) (Nat.le_trans I.sz h)) (Nat.lt_irrefl _)
def Inv.cne(I:Inv X pins σ H s):∀ x c,X.env.cells.lookup x=some c->c≠X.env.locals:=fun x c e z=>by
 obtain⟨v,o,ho,hd⟩:=I.cell x c e;obtain⟨m,⟨o',es,ep,ho',hd',_⟩,_⟩:=I.loc;rw[z,ho']at ho;cases ho;rw[hd']at hd;cases hd
def Inv.e8(I:Inv X pins σ H s):s.heap.FunFrames X.base X.outer:=by
 have all:∀ (l:List Env),(∀ b∈frs l,b∈X.fs)->X.s₀.heap.FunFrames X.base l->s.heap.FunFrames X.base l:=by
  intro l
  induction l with
  | nil=>intro _ _;trivial
  |cons env r ih=>
   intro hs hl;obtain⟨hk,⟨L,o,hf,hn,ho,hd⟩,hr⟩:=hl;have hL:L∈X.fs:=hs L (by unfold frs;rw[List.filterMap_cons,hf];exact List.mem_cons_self);obtain⟨sl,e⟩:=I.base.slot L o ho (I.ok.frf L hL) hL fun z=>I.ok.mr L z hL;exact⟨hk,⟨L,_,hf,hn,e,hd⟩,ih (fun b hb=>hs b (by unfold frs;rw[List.filterMap_cons,hf];exact List.mem_cons_of_mem _ hb)) hr⟩
 exact all X.outer (fun _ hb=>hb) I.ok.e8
def Inv.stack(I:Inv X pins σ H s):s.heap.FunFrames X.base X.stack:=by
 rcases I.ok.stk with e | ⟨e,hf⟩
 ·rw[e];exact I.e8
 ·rw[e];obtain⟨m,hn,_⟩:=I.loc;refine .cons (by rw[I.ok.kind];decide) hf hn ?_ I.e8;exact Heap.get?_none_of_le (Nat.le_trans I.ok.bsz I.ok.above)
def Inv.lK(I:Inv X pins σ H s):∀ b∈frs X.stack,b∈X.env.locals::X.fs:=fun b hb=>by
 rcases I.ok.stk with e | ⟨e,hf⟩
 ·rw[e]at hb;exact List.mem_cons_of_mem _ hb
 ·rw[e]at hb;unfold frs at hb;rw[List.filterMap_cons,hf]at hb;exact hb
def Inv.oh(I:Inv X pins σ H s):∀ b∈frs X.stack,H b=none:=fun b hb=>by
 rcases List.mem_cons.mp (I.lK b hb)with e | hb
 ·rw[e];exact I.free
 ·obtain⟨_,o,ho,_⟩:=I.ok.e8.mem hb;exact I.base.free b o ho (I.ok.frf b hb) fun z=>I.ok.mr b z hb
def Inv.step{g':Array GenState}{t':Nat}{d':Drawn}{ch:List Addr}(I:Inv X pins σ H s)
 (hch:∀ b∈ch,(b∈X.ex\/X.s₀.heap.objs.size<=b)/\b≠X.env.locals/\(∀ x c,X.env.cells.lookup x=some c->c≠b)/\∀ p∈X.pn++pins,p.1≠b)
 (keep:∀ b o,b≠X.env.locals->b∉X.fs->b∉ch->s.heap.get? b=some o->H b=none->h'.get? b=some o)
 (slot:∀ b o,b≠X.env.locals->b∈X.fs->b∉ch->s.heap.get? b=some o->H b=none->∃ sl,h'.get? b=some { o with slots:=sl })(free:∀ b o,b∉ch->s.heap.get? b=some o->H b=none->H' b=none)
 (there:∀ b o,b∉ch->s.heap.get? b=some o->∃ o',h'.get? b=some o')
 (gI:∀ b xs,H b=some (.tup xs)->H' b=some (.tup xs))(dO:∀ b o u,H b=some (.frz o u)->H' b=some (.frz o u))(gy:∀ b ps,H b=some (.tbl ps)->∃ more,H' b=some (.tbl (ps++more)))
 (ns:∀ m,s.heap.Ns X.env.locals m->h'.Ns X.env.locals m)(hok:HOk X.prog X.w H' h')(hg:AllBare g') :
  Inv X pins σ H' { s with heap:=h',gens:=g',drawn:=d',toks:=t' }:=by
 have neL:∀ b o,X.s₀.heap.get? b=some o->b≠X.env.locals:=fun b o e=>Nat.ne_of_lt (Nat.lt_of_lt_of_le (Heap.lt_size e) I.ok.above)
 have neC:∀ b o,X.s₀.heap.get? b=some o->b∉X.ex->b∉ch:=fun b o e hx hb=>by
  rcases(hch b hb).1 with z | z
  ·exact hx z
  ·exact absurd (Nat.lt_of_lt_of_le (Heap.lt_size e) z) (Nat.lt_irrefl _)
 have cellK:∀ x c,X.env.cells.lookup x=some c->∀ v,s.heap.IsCell c v->h'.IsCell c v:=fun x c e v ⟨o,ho,hd⟩=>by
  have nch:c∉ch:=fun z=>(hch c z).2.2.1 x c e rfl;by_cases hc:c∈X.fs
  ·obtain⟨sl,q⟩:=slot c o (I.cne x c e) hc nch ho (I.cI x c e);exact⟨_,q,hd⟩
  ·exact⟨o,keep c o (I.cne x c e) hc nch ho (I.cI x c e),hd⟩
 refine⟨I.ok,I.os,hg,⟨fun b o e n hb hx=>?_,fun b o e n hb hx=>?_,fun b o e n hx=>?_,fun b o e hx=>?_,fun b xs e=>gI b xs (I.base.gI b xs e),fun b o xs e=>dO b o xs (I.base.dO b o xs e),fun b ps e=>?_⟩,?_,fun x c e=>?_,?_,fun x c e=>?_,fun p hp=>?_,hok,I.len⟩
 ·exact keep b o (neL b o e) hb (neC b o e hx) (I.base.keep b o e n hb hx) (I.base.free b o e n hx)
 ·obtain⟨sl,e1⟩:=I.base.slot b o e n hb hx;obtain⟨sl',e2⟩:=slot b _ (neL b o e) hb (neC b o e hx) e1 (I.base.free b o e n hx);exact⟨sl',e2⟩
 ·obtain⟨o',e1⟩:=I.base.there b o e hx;exact free b o' (neC b o e hx) e1 (I.base.free b o e n hx)
 ·obtain⟨o',e1⟩:=I.base.there b o e hx;exact there b o' (neC b o e hx) e1
 ·obtain⟨m1,e1⟩:=I.base.gy b ps e;obtain⟨m2,e2⟩:=gy b _ e1;exact⟨m1++m2,by rw[e2,Array.append_assoc]⟩
 ·obtain⟨m,hn,hl⟩:=I.loc;refine⟨m,ns m hn,fun i x v e1 e2 e3=>?_⟩;obtain⟨u,r,l⟩:=hl i x v e1 e2 e3;refine⟨u,r,?_⟩
  rcases l with l | ⟨k,c,e,z⟩
  ·exact .inl l
  ·exact .inr ⟨k,c,e,cellK x c e _ z⟩
 ·obtain⟨v,z⟩:=I.cell x c e;exact⟨v,cellK x c e v z⟩
 ·obtain⟨m,⟨o,_,_,ho,_⟩,_⟩:=I.loc;exact free _ o (fun z=>(hch _ z).2.1 rfl) ho I.free
 ·obtain⟨v,o,ho,hd⟩:=I.cell x c e;exact free c o (fun z=>(hch c z).2.2.1 x c e rfl) ho (I.cI x c e)
 ·obtain⟨e,n,ne,nf,d⟩:=I.pin p hp;have nch:p.1∉ch:=fun z=>(hch p.1 z).2.2.2 p hp rfl;exact⟨keep p.1 p.2 ne nf nch e n,free p.1 p.2 nch e n,ne,nf,d⟩
def Inv.un(I:Inv X pins σ H s)(u:Un X.fs [] H H' s.heap h')(hok:HOk X.prog X.w H' h'):Inv X pins σ H' { s with heap:=h',toks:=t' }:=by
 obtain⟨m,⟨o,es,ep,ho,r⟩,_⟩:=id I.loc;obtain⟨sl,hL⟩:=u.any ho I.free (by simp)
 exact I.step (g':=s.gens) (d':=s.drawn) (ch:=[]) (fun _ z=>nomatch z) (fun b o _ hb _ e n=>u.keep b o e n hb (by simp)) (fun b o _ hb _ e n=>u.slot b o e n hb (by simp)) (fun b o _ e n=>u.free b o e n (by simp)) (fun b o _ e=>u.there b o e (by simp)) u.gI u.dO u.gy (fun m' hm=>by
  obtain⟨o',es',ep',ho',r'⟩:=hm;rw[ho]at ho';cases ho'
  exact⟨_,es',ep',hL,r'⟩) hok I.bare
def Inv.call(I:Inv X pins σ H s)(u:Un (frs X.stack) ch H H' s.heap h')(hok:HOk X.prog X.w H' h')(hg:AllBare g')
 (hch:∀ b∈ch,(b∈X.ex\/X.s₀.heap.objs.size<=b)/\b≠X.env.locals/\(∀ x c,X.env.cells.lookup x=some c->c≠b)/\∀ p∈X.pn++pins,p.1≠b) :
  Inv X pins σ H' { s with heap:=h',gens:=g',drawn:=d',toks:=t' }:=by
 obtain⟨m,⟨o,es,ep,ho,r⟩,_⟩:=id I.loc;obtain⟨sl,hL⟩:=u.any ho I.free fun z=>(hch _ z).2.1 rfl
 exact I.step (ch:=ch) hch (fun b o hL hb hc e n=>u.keep b o e n (fun z=>(List.mem_cons.mp (I.lK b z)).elim hL hb) hc) (fun b o _ _ hc e n=>u.any e n hc) (fun b o hc e n=>u.free b o e n hc) (fun b o hc e=>u.there b o e hc) u.gI u.dO u.gy (fun m' hm=>by
  obtain⟨o',es',ep',ho',r'⟩:=hm;rw[ho]at ho';cases ho'
  exact⟨_,es',ep',hL,r'⟩) hok hg
def Inv.turned(I:Inv X pins σ H s)(k:∀ b o,b≠it->s.heap.get? b=some o->h'.get? b=some o)(hn:H it=none)(hL:it≠X.env.locals)
 (h1:it∈X.ex\/X.s₀.heap.objs.size<=it)(h2:∀ x c,X.env.cells.lookup x=some c->c≠it)(h3:∀ p∈X.pn++pins,p.1≠it):Inv X pins σ H { s with heap:=h',toks:=t' }:=by
 have nit:∀ b u,H b=some u->b≠it:=fun b u e z=>by rw[z,hn]at e;cases e
 refine I.step (g':=s.gens) (d':=s.drawn) (ch:=[it]) (fun b hb=>?_) (fun b o _ _ hc e _=>k b o (fun z=>hc (by simp[z])) e) (fun b o _ _ hc e _=>⟨o.slots,k b o (fun z=>hc (by simp[z])) e⟩) (fun _ _ _ _ n=>n)
  (fun b o hc e=>⟨o,k b o (fun z=>hc (by simp[z])) e⟩) (fun _ _ e=>e) (fun _ _ _ e=>e) (fun b ps e=>⟨#[],by rw[e];simp⟩) (fun m hm=>?_) (fun b u e=>?_) I.bare
 ·have e:b=it:=by simpa using hb
  subst e;exact⟨h1,hL,h2,h3⟩
 ·obtain⟨o,es,ep,ho,r⟩:=hm;exact⟨o,es,ep,k _ o (Ne.symm hL) ho,r⟩
 ·refine(I.hok b u e).jG (fun c v hc q=>k c v ?_ q) (fun _ q=>q) fun _ _ q=>q;rcases hc with z | z
  ·rw[z];exact nit b u e
  ·exact nit c _ z
def Inv.tok(I:Inv X pins σ H s)(t:Nat):Inv X pins σ H { s with toks:=t }:=I.un (h':=s.heap) (t':=t) Un.refl I.hok
def Inv.kept(I:Inv X pins σ H s)(k:∀ b u,s.heap.get? b=some u->h'.get? b=some u):Inv X pins σ H { s with heap:=h',toks:=t' }:=I.un (Un.kept k) (I.hok.kept k)
def Inv.laid(I:Inv X pins σ H s)(k:∀ b u,s.heap.get? b=some u->h'.get? b=some u)(hp:s.heap.objs.size<=a)(new:aM X.prog X.w (upd H a o) h' a o) :
  Inv X pins σ (upd H a o) { s with heap:=h',toks:=t' }:=I.un (Un.laid k hp (I.hok.fresh hp)) (I.hok.laid k hp new)
def Inv.write(I:Inv X pins σ H s)(mu:Mut (H x))(he:e=x\/H e=some (.own x))(k:∀ b u,b≠e->s.heap.get? b=some u->h'.get? b=some u)(heo:∃ u,h'.get? e=some u)
 (new:aM X.prog X.w (upd H x o) h' x o):Inv X pins σ (upd H x o) { s with heap:=h',toks:=t' }:=I.un (Un.write mu he k heo) (I.hok.write mu he k heo new)
def Inv.weak(I:Inv X pins σ H s)(hl:σ'.length=σ.length)(w:∀ (i:Nat) v,σ'[i]?=some (some v)->σ[i]?=some (some v)):Inv X pins σ' H s :=
 ⟨I.ok,I.os,I.bare,I.base,let ⟨m,hn,hl'⟩:=I.loc;⟨m,hn,fun i x v e1 e2 e3=>hl' i x v e1 (w i v e2) e3⟩,I.cell,I.free,I.cI,I.pin,I.hok,hl.trans I.len⟩
def Inv.nW(I:Inv X pins σ H s)(h:∀ p∈pins',s.heap.get? p.1=some p.2/\H p.1=none/\p.1≠X.env.locals/\p.1∉X.fs/\∀ v,p.2.data≠.cell v):Inv X pins' σ H s :=
 ⟨I.ok,I.os,I.bare,I.base,I.loc,I.cell,I.free,I.cI,fun p hp=>(List.mem_append.mp hp).elim (fun z=>I.pin p (List.mem_append_left _ z)) (h p),I.hok,I.len⟩
def mS{N:List Str}(hN:N.Nodup){i j:Nat}(a:N[i]?=some x)(b:N[j]?=some x):i=j:=by
 obtain⟨h1,e1⟩:=List.getElem?_eq_some_iff.mp a;obtain⟨h2,e2⟩:=List.getElem?_eq_some_iff.mp b;exact(List.getElem_inj hN).mp (e1.trans e2.symm)
def kM{M:Model}{A:Around}(I:Inv X pins σ H s)(hN:X.N.Nodup)(hi:X.N[i]?=some x)(hx:Loc X.env.scope x)(r:RelV v u)
 (h:∀ s',Inv X pins (σ.set i (some v)) H s'->(∃ a,Heap.SameBut a s.heap s'.heap/\(a=X.env.locals\/X.env.cells.lookup x=some a))->Q () s')(hf:X.fn x=true\/X.env.scope.names.lookup x=some .local):wpAny M A (storeName X.env x u) Q E s:=by
 obtain⟨m,hn,hl⟩:=id I.loc
 have hcls:(X.env.scope.kind == .class || (X.env.scope.kind == .module&&X.env.locals != X.env.globals))=false:=by rw[I.ok.kind];rfl
 have hiσ:i<σ.length:=by rw[I.len];exact(List.getElem?_eq_some_iff.mp hi).1
 have cne:=I.cne
 have tracked:∀ {a:Addr} {h':Heap},(∃ o,s.heap.get? a=some o/\H a=none)->Heap.SameBut a s.heap h'->HOk X.prog X.w H h':=fun {a h'} ha hs b ob e=>by
  obtain⟨_,_,hfree⟩:=ha;refine(I.hok b ob e).jG (fun c w' hc q=>(hs.2 c ?_).trans q) (fun _ q=>q) fun _ _ q=>q;rintro rfl;rcases hc with rfl | hc
  ·rw[hfree]at e;cases e
  ·rw[hfree]at hc;cases hc
 rcases hx with hk | hk
 ·refine wpAny_storeName_local hk hn (fun h' hn' hs=>?_) hcls;obtain⟨oL,_,_,hoL,_⟩:=id hn;refine h _ ⟨I.ok,I.os,I.bare,⟨fun b o e n hb hx=>?_,fun b o e n hb hx=>?_,I.base.free,fun b o e hx=>?_,I.base.gI,I.base.dO,I.base.gy⟩,⟨_,hn',fun j y v' e1 e2 e3=>?_⟩,fun y c e=>?_,I.free,I.cI,fun p hp=>?_,tracked ⟨oL,hoL,I.free⟩ hs,by simpa using I.len⟩ ⟨_,hs,.inl rfl⟩
  ·exact(hs.2 b (Nat.ne_of_lt (Nat.lt_of_lt_of_le (Heap.lt_size e) I.ok.above))).trans (I.base.keep b o e n hb hx)
  ·obtain⟨sl,e1⟩:=I.base.slot b o e n hb hx;exact⟨sl,(hs.2 b (Nat.ne_of_lt (Nat.lt_of_lt_of_le (Heap.lt_size e) I.ok.above))).trans e1⟩
  ·obtain⟨o',e1⟩:=I.base.there b o e hx;exact⟨o',(hs.2 b (Nat.ne_of_lt (Nat.lt_of_lt_of_le (Heap.lt_size e) I.ok.above))).trans e1⟩
  ·by_cases hj:j=i
   ·subst hj;rw[hi]at e1;cases e1;rw[List.getElem?_set_self hiσ]at e2;cases e2;exact⟨u,r,.inl ⟨hk,by simp⟩⟩
   ·rw[List.getElem?_set_ne (Ne.symm hj)]at e2;obtain⟨u',r',q⟩:=hl j y v' e1 e2 e3;refine⟨u',r',?_⟩
    rcases q with⟨k,e⟩ | ⟨k,c,e,z⟩
    ·refine .inl ⟨k,?_⟩;have:y≠x:=fun e=>hj (mS hN e1 (e▸hi));simp[this,e]
    ·exact .inr ⟨k,c,e,z.sameBut hs (cne y c e)⟩
  ·obtain⟨w',z⟩:=I.cell y c e;exact⟨w',z.sameBut hs (cne y c e)⟩
  ·obtain⟨e,n,ne,nf,d⟩:=I.pin p hp;exact⟨(hs.2 p.1 ne).trans e,n,ne,nf,d⟩
 ·have hfn:X.fn x=true:=by
   rcases hf with z | z
   ·exact z
   ·rw[z]at hk;cases hk
  obtain⟨c,hc⟩:=I.ok.has x (.inl hk);obtain⟨w',z⟩:=I.cell x c hc;refine wpAny_storeName_cell I.ok.kind hk hc z (fun h' hc' hs=>?_);obtain⟨oc,hoc,hocd⟩:=id z;refine h { s with heap:=h' } ⟨I.ok,I.os,I.bare,⟨fun b o e n hb hx=>?_,fun b o e n hb hx=>?_,I.base.free,fun b o e hx=>?_,I.base.gI,I.base.dO,I.base.gy⟩,⟨m,hn.sameBut hs (Ne.symm (cne x c hc)),fun j y v' e1 e2 e3=>?_⟩,fun y c' e=>?_,I.free,I.cI,fun p hp=>?_,tracked ⟨oc,hoc,I.cI x c hc⟩ hs,by simpa using I.len⟩ ⟨c,hs,.inr hc⟩
  ·exact(hs.2 b (Nat.ne_of_lt (Nat.lt_of_lt_of_le (Heap.lt_size e) (I.ok.cab x c hfn hc)))).trans (I.base.keep b o e n hb hx)
  ·obtain⟨sl,e1⟩:=I.base.slot b o e n hb hx;exact⟨sl,(hs.2 b (Nat.ne_of_lt (Nat.lt_of_lt_of_le (Heap.lt_size e) (I.ok.cab x c hfn hc)))).trans e1⟩
  ·obtain⟨o',e1⟩:=I.base.there b o e hx;exact⟨o',(hs.2 b (Nat.ne_of_lt (Nat.lt_of_lt_of_le (Heap.lt_size e) (I.ok.cab x c hfn hc)))).trans e1⟩
  ·by_cases hj:j=i
   ·subst hj;rw[hi]at e1;cases e1;rw[List.getElem?_set_self hiσ]at e2;cases e2;exact⟨u,r,.inr ⟨.inl hk,c,hc,hc'⟩⟩
   ·rw[List.getElem?_set_ne (Ne.symm hj)]at e2;obtain⟨u',r',q⟩:=hl j y v' e1 e2 e3;refine⟨u',r',?_⟩
    rcases q with q | ⟨k,c',e,z'⟩
    ·exact .inl q
    ·refine .inr ⟨k,c',e,z'.sameBut hs ?_⟩;rintro rfl;exact hj (mS hN e1 (I.ok.inj _ _ _ e hc▸hi))
  ·by_cases hcc:c'=c
   ·subst hcc;exact⟨_,hc'⟩
   ·obtain⟨w2,z2⟩:=I.cell y c' e;exact⟨w2,z2.sameBut hs hcc⟩
  ·obtain⟨e,n,ne,nf,d⟩:=I.pin p hp;refine⟨(hs.2 p.1 ?_).trans e,n,ne,nf,d⟩;intro q;rw[q,hoc]at e;have q':oc=p.2:=Option.some.inj e;exact d w' (by rw[<-q'];exact hocd)
def fE(I:Inv X pins σ H s)(hN:X.N.Nodup)(hi:X.N[i]?=some x)(hx:Loc X.env.scope x)(r:RelV v u)
 (h:∀ s',Inv X pins (σ.set i (some v)) H s'->Q () s')(hf:X.fn x=true\/X.env.scope.names.lookup x=some .local):wpAny M A (storeName X.env x u) Q E s :=
 kM I hN hi hx r (fun s' I' _=>h s' I') hf
def Inv.vB(I:Inv X pins σ H s)(ho:s'.os=s.os)(u:Un (frs X.stack) ch H H' s.heap s'.heap)(hok:HOk X.prog X.w H' s'.heap)(hg:AllBare s'.gens)
 (hch:∀ b∈ch,(b∈X.ex\/X.s₀.heap.objs.size<=b)/\b≠X.env.locals/\(∀ x c,X.env.cells.lookup x=some c->c≠b)/\∀ p∈X.pn++pins,p.1≠b):Inv X pins σ H' s':=by
 obtain⟨h',g',d',t',o'⟩:=s';have e:o'=s.os:=ho;subst e;exact I.call (g':=g') (t':=t') (d':=d') u hok hg hch
end
@[reducible]noncomputable def XK:=Value->Option Addr->Hp->Prop
@[reducible]noncomputable def St:=List (Option V)
@[reducible]noncomputable def VK:=V->Hp->Prop
@[reducible]noncomputable def TE:=St->Hp->VK->Prop
@[reducible]noncomputable def TT:=St->Hp->(Bool->Hp->Prop)->Prop
@[reducible]noncomputable def TA:=St->Hp->(List V->Hp->Prop)->Prop
structure Ends where
 nx:St->Hp->Prop
 rt:VK
 bk:St->Hp->Prop:=fun _ _=>False
 ct:St->Hp->Prop:=fun _ _=>False
@[reducible]noncomputable def TS:=Ends->St->Hp->Prop
abbrev EP(X:Cx)(pins:List (Addr × Obj))(σ:St)(Q:VK)(u:Value)(s':Shared):Prop:=∃ v H',Inv X pins σ H' s'/\RelV v u/\Q v H'
abbrev TP(X:Cx)(pins:List (Addr × Obj))(σ:St)(Q:Bool->Hp->Prop)(b:Bool)(s':Shared):Prop:=∃ H',Inv X pins σ H' s'/\Q b H'
abbrev AP(X:Cx)(pins:List (Addr × Obj))(σ:St)(Q:List V->Hp->Prop)(us:List Value)(s':Shared):Prop:=∃ vs H',Inv X pins σ H' s'/\Vals vs us/\Q vs H'
abbrev SP(X:Cx)(pins:List (Addr × Obj))(D:Ends)(f:Flow)(s':Shared):Prop :=
 match f with
 | .next=>∃ σ' H',Inv X pins σ' H' s'/\D.nx σ' H'
 | .brk=>∃ σ' H',Inv X pins σ' H' s'/\D.bk σ' H'
 | .cont=>∃ σ' H',Inv X pins σ' H' s'/\D.ct σ' H'
 | .ret u=>∃ v σ' H',Inv X pins σ' H' s'/\RelV v u/\D.rt v H'
abbrev PE(X:Cx)(e:Expr)(t:TE):Prop :=
 ∀ (pins:List (Addr × Obj)) (s:Shared) (σ:St) (H:Hp) (Q:VK),Inv X pins σ H s->t σ H Q->wpAny (model X.prog X.w) X.A (eval e X.env) (EP X pins σ Q) X.xe s
abbrev PT(X:Cx)(e:Expr)(t:TT):Prop :=
 ∀ (pins:List (Addr × Obj)) (s:Shared) (σ:St) (H:Hp) (Q:Bool->Hp->Prop),Inv X pins σ H s->t σ H Q->wpAny (model X.prog X.w) X.A (isTrue e X.env (eval e X.env)) (TP X pins σ Q) X.xe s
abbrev PW(X:Cx)(e:Expr)(t:TT):Prop :=
 ∀ (whole:Sem Value) (pins:List (Addr × Obj)) (s:Shared) (σ:St) (H:Hp) (Q:Bool->Hp->Prop),Inv X pins σ H s->t σ H Q->wpAny (model X.prog X.w) X.A (isTrue e X.env whole) (TP X pins σ Q) X.xe s
def PW.pt(h:PW X e t):PT X e t:=h _
abbrev PA(X:Cx)(es:List Expr)(t:TA):Prop :=
 ∀ (pos:Pos) (pins:List (Addr × Obj)) (s:Shared) (σ:St) (H:Hp) (Q:List V->Hp->Prop),Inv X pins σ H s->t σ H Q->wpAny (model X.prog X.w) X.A (spliced (backTo pos (starEach es X.env))) (AP X pins σ Q) X.xe s
abbrev PS(X:Cx)(st:Stmt)(t:TS):Prop :=
 ∀ (pins:List (Addr × Obj)) (s:Shared) (σ:St) (H:Hp) (D:Ends),Inv X pins σ H s->t D σ H->wpAny (model X.prog X.w) X.A (exec st X.env) (SP X pins D) X.xe s
abbrev PSs(X:Cx)(st:List Stmt)(t:TS):Prop :=
 ∀ (pins:List (Addr × Obj)) (s:Shared) (σ:St) (H:Hp) (D:Ends),Inv X pins σ H s->t D σ H->wpAny (model X.prog X.w) X.A (execs st X.env) (SP X pins D) X.xe s
def thn(h:wpAny M A t Q E s)(hQ:∀ a s,Q a s->Q' a s):wpAny M A t Q' E s:=wpAny_mono h hQ fun _ _ x=>x
section
variable{X:Cx}
abbrev gN(i:Nat):TE:=fun σ H Q=>∃ v,σ[i]?=some (some v)/\Q v H
abbrev tC(v:V):TE:=fun _ H Q=>Q v H
def fg(hN:X.N[i]?=some x)(hv:Vis X.env.scope x)(hd:(x == ("__debug__" : Str))=false)(hcd:(x == ("__classdict__" : Str))=false):PE X (.Name x pos) (gN i):=by
 intro pins s σ H Q I h;obtain⟨v,e,h⟩:=h;obtain⟨m,hn,hl⟩:=I.loc;obtain⟨u,r,l⟩:=hl i x v hN e hv
 have fin:EP X pins σ Q u s:=⟨v,H,I,r,h⟩
 rcases l with⟨hk,hm⟩ | ⟨hk,c,hc,hcell⟩
 ·exact wpAny_Name (wpAny_loadName_local I.ok.kind hk hn hm fin) hd
 ·rcases hk with hk | hk
  ·exact wpAny_Name (wpAny_loadName_cell I.ok.kind hk hc hcell fin) hd
  ·exact wpAny_Name (wpAny_loadName_free I.ok.kind hk hc hcell fin hcd) hd
def mq:PE X (.Constant (.int i) j pos) (tC (.int i)):=fun _ _ _ H _ I h=>wpAny_Constant_int ⟨.int i,H,I.tok _,⟨_,rfl⟩,h⟩
def Ce:PE X (.Constant (.bool b) j pos) (tC (.bl b)):=fun _ _ _ H _ I h=>Constant_bool ⟨.bl b,H,I,rfl,h⟩
def lI:PE X (.Constant .none j pos) (tC .non):=fun _ _ _ H _ I h=>Constant_none ⟨.non,H,I,rfl,h⟩
def Bw:PE X (.Constant (.str x) j pos) (tC (.str x)):=fun _ _ _ H _ I h=>Calls.Constant_str ⟨.str x,H,I.tok _,⟨_,rfl⟩,h⟩
abbrev Gl(X:Cx)(x:Str):Prop:=X.env.kindOf x=some .globalImplicit
def oa(I:Inv X pins σ H s)(hg:Gl X x)(hm:X.mg x=some u)(h:Q u s)
 (hd:(x == ("__debug__" : Str))=false):wpAny (model X.prog X.w) X.A (eval (.Name x pos) X.env) Q E s :=
 Calls.Name_function_global I.ok.kind hg (Calls.loadGlobal_global (by rw[I.ok.glob];exact I.mod.glob.keeps I.bk) hm h) hd
def dN(I:Inv X pins σ H s)(hg:Gl X x)(hm:X.mg x=none)(hv:bootBuiltins x=some u)(h:Q u s)
 (hn:x ≠ "__name__")(hd:(x == ("__debug__" : Str))=false):wpAny (model X.prog X.w) X.A (eval (.Name x pos) X.env) Q E s:=by
 obtain⟨mb,h1,h2⟩:=I.mod.blt;exact Calls.Name_function_global I.ok.kind hg (Calls.loadGlobal_builtin (by rw[I.ok.glob];exact I.mod.glob.keeps I.bk) hm (by rw[I.ok.blt];exact h1.keeps I.bk) ((h2 x hn).trans hv) h) hd
def wm(hg:Gl X x)(hm:X.mg x=some u)(r:RelV v u)(hd:(x == ("__debug__" : Str))=false):PE X (.Name x pos) (tC v) :=
 fun _ _ _ H _ I h=>oa I hg hm ⟨v,H,I,r,h⟩ hd
def w6(hg:Gl X x)(hm:X.mg x=none)(hv:bootBuiltins x=some u)(r:RelV v u)(hn:x ≠ "__name__")(hd:(x == ("__debug__" : Str))=false):PE X (.Name x pos) (tC v) :=
 fun _ _ _ H _ I h=>dN I hg hm hv ⟨v,H,I,r,h⟩ hn hd
variable{a b:Expr}{ta tb:TE}{pos:Pos}
abbrev PC(X:Cx)(op:CmpOp)(a b:Expr)(t:TE):Prop :=
 ∀ (pins:List (Addr × Obj)) (s:Shared) (σ:St) (H:Hp) (Q:VK),Inv X pins σ H s->t σ H Q ->
  wpAny (model X.prog X.w) X.A (eval a X.env) (fun v s₁=>wpAny (model X.prog X.w) X.A (eval b X.env) (fun u s₂=>wpAny (model X.prog X.w) X.A (compareOp op v u) (EP X pins σ Q) X.xe s₂) X.xe s₁) X.xe s
abbrev tB(t:TE):TT:=fun σ H Q=>t σ H fun x H1=>∃ c,x=.bl c/\Q c H1
def zf(h:PC X op a b t)(h1:behindInMarks op b=false):PE X (.Compare a [op] [b] pos) t:=fun pins s σ H Q I hw=>wpAny_Compare1 (h pins s σ H Q I hw) h1
def A8(h:PC X op a b t)(h1:behindInMarks op b=false):PT X (.Compare a [op] [b] pos) (tB t):=by
 intro pins s σ H Q I hw;refine wpAny_isTrue_Compare1 (thn (h pins s σ H _ I hw) fun v s1 h1=>thn h1 fun u s2 h2=>thn h2 fun c s3 ⟨x,H1,I1,r1,q1⟩=>?_) h1;obtain⟨d,rfl,q⟩:=q1;cases r1;exact wpAny_truthy_bool ⟨H1,I1,q⟩
variable{tA tB':TT}{rest:List Expr}
abbrev DF(t u:TT):TT:=fun σ H Q=>t σ H fun c H1=>if c=true then u σ H1 Q else Q false H1
abbrev tOr(t u:TT):TT:=fun σ H Q=>t σ H fun c H1=>if c=true then Q true H1 else u σ H1 Q
abbrev DD(t:TT):TT:=fun σ H Q=>t σ H fun c H1=>Q (!c) H1
def xt(ha:PT X a tA):PW X (.BoolOp .And [a] pos) tA:=by
 intro wh pins s σ H Q I h;refine isTrue_and (thn (ha pins s σ H Q I h) fun c s1 e=>?_)
 cases c with
 | true=>exact isTrue_and_nil e
 | false=>exact e
def Bg(ha:PT X a tA):PW X (.BoolOp .Or [a] pos) tA:=by
 intro wh pins s σ H Q I h;refine isTrue_or (thn (ha pins s σ H Q I h) fun c s1 e=>?_)
 cases c with
 | false=>exact isTrue_or_nil e
 | true=>exact e
def A7(ha:PT X a tA)(hb:PW X (.BoolOp .And (b::rest) pos) tB'):PW X (.BoolOp .And (a::b::rest) pos) (DF tA tB'):=by
 intro wh pins s σ H Q I h;refine isTrue_and (thn (ha pins s σ H _ I h) fun c s1 ⟨H1,I1,q1⟩=>?_)
 cases c with
 | true=>exact hb wh pins s1 σ H1 Q I1 q1
 | false=>exact⟨H1,I1,q1⟩
def Cv(ha:PT X a tA)(hb:PW X (.BoolOp .Or (b::rest) pos) tB'):PW X (.BoolOp .Or (a::b::rest) pos) (tOr tA tB'):=by
 intro wh pins s σ H Q I h;refine isTrue_or (thn (ha pins s σ H _ I h) fun c s1 ⟨H1,I1,q1⟩=>?_)
 cases c with
 | true=>exact⟨H1,I1,q1⟩
 | false=>exact hb wh pins s1 σ H1 Q I1 q1
def yT(ha:PT X a tA):PT X (.UnaryOp .Not a pos) (DD tA):=by
 intro pins s σ H Q I h;exact isTrue_not (ha pins s σ H (fun c H1=>Q (!c) H1) I h)
abbrev CI(ta tb:TE):TE:=fun σ H Q=>ta σ H fun x H1=>∃ c,x=.bl c/\if c=true then tb σ H1 Q else Q (.bl false) H1
abbrev Dp(ta tb:TE):TE:=fun σ H Q=>ta σ H fun x H1=>∃ c,x=.bl c/\if c=true then Q (.bl true) H1 else tb σ H1 Q
def zX(h:PE X a t):PE X (.BoolOp op [a] pos) t:=fun pins s σ H Q I hw=>BoolOp_one (h pins s σ H Q I hw)
def BH(ha:PE X a ta)(hb:PE X (.BoolOp .And (b::rest) pos) tb):PE X (.BoolOp .And (a::b::rest) pos) (CI ta tb):=by
 intro pins s σ H Q I h;refine BoolOp_and (thn (ha pins s σ H _ I h) fun v s1 ⟨x,H1,I1,r1,q1⟩=>?_);obtain⟨c,rfl,q1⟩:=q1;cases r1;refine wpAny_truthy_bool ?_
 cases c with
 | true=>exact hb pins s1 σ H1 Q I1 q1
 | false=>exact⟨.bl false,H1,I1,rfl,q1⟩
def Ct(ha:PE X a ta)(hb:PE X (.BoolOp .Or (b::rest) pos) tb):PE X (.BoolOp .Or (a::b::rest) pos) (Dp ta tb):=by
 intro pins s σ H Q I h;refine BoolOp_or (thn (ha pins s σ H _ I h) fun v s1 ⟨x,H1,I1,r1,q1⟩=>?_);obtain⟨c,rfl,q1⟩:=q1;cases r1;refine wpAny_truthy_bool ?_
 cases c with
 | false=>exact hb pins s1 σ H1 Q I1 q1
 | true=>exact⟨.bl true,H1,I1,rfl,q1⟩
abbrev tIf(t:TT)(ta tb:TE):TE:=fun σ H Q=>t σ H fun c H1=>if c=true then ta σ H1 Q else tb σ H1 Q
def uF(hc:PT X c tA)(ha:PE X a ta)(hb:PE X b tb):PE X (.IfExp c a b pos) (tIf tA ta tb):=by
 intro pins s σ H Q I h;refine wpAny_IfExp (thn (hc pins s σ H _ I h) fun d s1 ⟨H1,I1,q1⟩=>?_)
 cases d with
 | true=>exact ha pins s1 σ H1 Q I1 q1
 | false=>exact hb pins s1 σ H1 Q I1 q1
end
abbrev SqL(K:PySem.W.Frag)(H:Hp)(a:Addr)(xs:List V):Prop :=
 Rd H a (.lst xs) \/
  ∃ (o:Obj) (its:Array Value) (n:Nat),K.lookup a=some o/\o.cls=.type "list" /\ o.dict=none/\o.data=.seq its n/\its.size<=sizeLine/\Vals xs its.toList
abbrev SqT(K:PySem.W.Frag)(H:Hp)(a:Addr)(xs:List V):Prop :=
 Rd H a (.tup xs) \/
  ∃ (o:Obj) (its:Array Value) (n:Nat),K.lookup a=some o/\o.cls=.type "tuple" /\ o.data=.seq its n/\its.size<=sizeLine/\Vals xs its.toList
abbrev Dd:Value->Option V
 | .none=>some .non
 | .bool b=>some (.bl b)
 | .int i _=>some (.int i)
 | .str x _=>some (.str x)
 | .bytes b _=>some (.byt b)
 | .float b _=>some (.flt b)
 | .ref a=>some (.ref a)
 | .type n=>some (.ty n)
 | _=>none
def RelV.abs(r:RelV x u):Dd u=some x:=by
 cases x with
 | non=>cases r;rfl
 | bl _=>cases r;rfl
 | int _=>obtain⟨t,rfl⟩:=r;rfl
 | str _=>obtain⟨t,rfl⟩:=r;rfl
 | byt _=>obtain⟨t,rfl⟩:=r;rfl
 | flt _=>obtain⟨t,rfl⟩:=r;rfl
 | ref _=>cases r;rfl
 | ty _=>cases r;rfl
def RelV.inj(r:RelV x u)(q:RelV y u):x=y:=Option.some.inj (r.abs.symm.trans q.abs)
def Vals.inj:∀ {xs ys:List V} {us:List Value},Vals xs us->Vals ys us->xs=ys
 | _,_,_,.nil,.nil=>rfl
 | _,_,_,.cons r t,.cons r' t'=>by rw[r.inj r',Vals.inj t t']
section
variable{X:Cx}{pins:List (Addr × Obj)}{σ:St}{H:Hp}{s:Shared}{a:Addr}{xs ys:List V}
def SqL.of{K:PySem.W.Frag}(h:H a=some (.lst xs)):SqL K H a xs:=.inl (.inl h)
def SqT.of{K:PySem.W.Frag}(h:H a=some (.tup xs)):SqT K H a xs:=.inl (.inl h)
def Inv.list(I:Inv X pins σ H s)(h:SqL X.K H a xs):∃ its:List Value,Vals xs its/\PlainL s.heap a its.toArray/\xs.length<=sizeLine:=by
 rcases h with h | ⟨o,its,n,hk,hc,hd,hs,hz,r⟩
 ·obtain⟨z,its,n,r,e⟩:=h.ok I.hok;exact⟨its,r,⟨_,n,e,rfl,rfl,rfl⟩,z⟩
 ·refine⟨its.toList,r,⟨o,n,I.kIn a o hk,hc,hd,by simpa using hs⟩,?_⟩;have e:=r.length;simp only[Array.length_toList]at e;omega
def Inv.tuple(I:Inv X pins σ H s)(h:SqT X.K H a xs):∃ its:List Value,Vals xs its/\IsTup s.heap a its.toArray/\xs.length<=sizeLine:=by
 rcases h with h | ⟨o,its,n,hk,hc,hs,hz,r⟩
 ·obtain⟨z,its,r,p⟩:=h.ok I.hok;exact⟨its,r,p,z⟩
 ·refine⟨its.toList,r,⟨o,I.kIn a o hk,hc,n,by simpa using hs⟩,?_⟩;have e:=r.length;simp only[Array.length_toList]at e;omega
def Inv.tO(I:Inv X pins σ H s)(h:SqL X.K H a xs)(h':SqL X.K H a ys):xs=ys:=by
 obtain⟨its,r,⟨o,n,e,_,_,d⟩,_⟩:=I.list h;obtain⟨its',r',⟨o',n',e',_,_,d'⟩,_⟩:=I.list h';rw[e]at e';cases e';rw[d]at d';injection d' with d1 _
 have:its=its':=by simpa using congrArg Array.toList d1
 subst this;exact r.inj r'
def Inv.sA(I:Inv X pins σ H s)(h:SqT X.K H a xs)(h':SqT X.K H a ys):xs=ys:=by
 obtain⟨its,r,⟨o,e,_,n,d⟩,_⟩:=I.tuple h;obtain⟨its',r',⟨o',e',_,n',d'⟩,_⟩:=I.tuple h';rw[e]at e';cases e';rw[d]at d';injection d' with d1 _
 have:its=its':=by simpa using congrArg Array.toList d1
 subst this;exact r.inj r'
end
@[reducible]noncomputable def Cx.eU(X:Cx)(E:Value->Shared->Prop):Cx:={ X with xe:=E }
@[reducible]noncomputable def Cx.nox(X:Cx):Cx:=X.eU fun _ _=>False
def Cx.Ok.eU{X:Cx}(ok:X.Ok)(E:Value->Shared->Prop):(X.eU E).Ok :=
 ⟨ok.mod,ok.kind,ok.glob,ok.blt,ok.above,ok.inj,ok.has,ok.cab,ok.hd,ok.frames,ok.stk,ok.exf,ok.bs,ok.bsz,ok.mL,ok.mr,ok.e8,ok.frf⟩
def Cx.Ok.dn{X:Cx}(ok:(X.eU E).Ok):X.Ok :=
 ⟨ok.mod,ok.kind,ok.glob,ok.blt,ok.above,ok.inj,ok.has,ok.cab,ok.hd,ok.frames,ok.stk,ok.exf,ok.bs,ok.bsz,ok.mL,ok.mr,ok.e8,ok.frf⟩
section
variable{X:Cx}{pins:List (Addr × Obj)}{σ:St}{H:Hp}{s:Shared}{E:Value->Shared->Prop}
def Inv.eU(I:Inv X pins σ H s)(E:Value->Shared->Prop):Inv (X.eU E) pins σ H s:=⟨I.ok.eU E,I.os,I.bare,I.base,I.loc,I.cell,I.free,I.cI,I.pin,I.hok,I.len⟩
def Inv.dn(I:Inv (X.eU E) pins σ H s):Inv X pins σ H s:=⟨I.ok.dn,I.os,I.bare,I.base,I.loc,I.cell,I.free,I.cI,I.pin,I.hok,I.len⟩
def SP.dn(h:SP (X.eU E) pins D f s'):SP X pins D f s':=by
 cases f with
 | next=>obtain⟨σ',H',I,q⟩:=h;exact⟨σ',H',I.dn,q⟩
 | brk=>obtain⟨σ',H',I,q⟩:=h;exact⟨σ',H',I.dn,q⟩
 | cont=>obtain⟨σ',H',I,q⟩:=h;exact⟨σ',H',I.dn,q⟩
 | ret u=>obtain⟨v,σ',H',I,r,q⟩:=h;exact⟨v,σ',H',I.dn,r,q⟩
def PSs.nox{st:List Stmt}(h:PSs X.nox st t):PSs X st t:=fun pins s σ H D I hw =>
 wpAny_mono (h pins s σ H D (I.eU _) hw) (fun _ _ q=>q.dn) fun _ _ z=>False.elim z
end
section
variable{X:Cx}{st:Stmt}{rest:List Stmt}{t u:TS}{e:Expr}{te:TE}{pos:Pos}
abbrev BP:TS:=fun D σ H=>D.nx σ H
abbrev DH(t u:TS):TS:=fun D σ H=>t { D with nx:=u D } σ H
def wx:PSs X [] BP:=fun _ _ σ H _ I h=>wpAny_execs_nil ⟨σ,H,I,h⟩
def fK(h1:PS X st t)(h2:PSs X rest u):PSs X (st::rest) (DH t u):=by
 intro pins s σ H D I h;refine wpAny_execs_cons (thn (h1 pins s σ H { D with nx:=u D } I h) fun f s1 q=>?_)
 cases f with
 |next=>
  obtain⟨σ',H',I',q⟩:=q;exact h2 pins s1 σ' H' D I' q
 | ret v=>exact q
 | brk=>exact q
 | cont=>exact q
def Inv.quiet(I:Inv X pins σ H s):interactive X.env=false:=by simp[interactive,I.ok.kind]
abbrev la(te:TE):TS:=fun D σ H=>te σ H fun _ H1=>D.nx σ H1
def jL(he:PE X e te)(hs:swapsWith e none pos.line X.env=pure false):PS X (.Expr e pos) (la te):=by
 intro pins s σ H D I h;exact wpAny_Expr_any (thn (he pins s σ H _ I h) fun v s1 ⟨x,H1,I1,r1,q1⟩=>⟨σ,H1,I1,q1⟩) I.quiet hs
abbrev D6(te:TE):TS:=fun D σ H=>te σ H D.rt
def sy(he:PE X e te):PS X (.Return (some e) pos) (D6 te):=by
 intro pins s σ H D I h;exact wpAny_Return_some (thn (he pins s σ H _ I h) fun v s1 ⟨x,H1,I1,r1,q1⟩=>⟨x,σ,H1,I1,r1,q1⟩)
abbrev DK(c:TT)(t u:TS):TS:=fun D σ H=>c σ H fun b H1=>if b=true then t D σ H1 else u D σ H1
def vZ(hc:PT X c tc)(ha:PSs X a t)(hb:PSs X b u):PS X (.If c a b pos) (DK tc t u):=by
 intro pins s σ H D I h;refine wpAny_If (thn (hc pins s σ H _ I h) fun d s1 ⟨H1,I1,q1⟩=>?_)
 cases d with
 | true=>exact ha pins s1 σ H1 D I1 q1
 | false=>exact hb pins s1 σ H1 D I1 q1
end
@[reducible]noncomputable def TG:=V->St->Hp->(St->Hp->Prop)->Prop
@[reducible]noncomputable def TGs:=List V->St->Hp->(St->Hp->Prop)->Prop
abbrev PG(X:Cx)(target:Expr)(t:TG):Prop :=
 ∀ (pins:List (Addr × Obj)) (s:Shared) (σ:St) (H:Hp) (v:V) (u:Value) (Q:St->Hp->Prop),Inv X pins σ H s->RelV v u->t v σ H Q ->
  wpAny (model X.prog X.w) X.A (assign target X.env u) (fun _ s'=>∃ σ' H',Inv X pins σ' H' s'/\Q σ' H') X.xe s
abbrev PGs(X:Cx)(ts:List Expr)(t:TGs):Prop :=
 ∀ (pins:List (Addr × Obj)) (s:Shared) (σ:St) (H:Hp) (vs:List V) (us:List Value) (Q:St->Hp->Prop),Inv X pins σ H s->Vals vs us->t vs σ H Q ->
  wpAny (model X.prog X.w) X.A (assignInOrder ((assignEach ts X.env).map (·.2)) us) (fun _ s'=>∃ σ' H',Inv X pins σ' H' s'/\Q σ' H') X.xe s
@[reducible]noncomputable def zy:=V->V->V->Hp->(Hp->Prop)->Prop
abbrev zR(X:Cx)(t:zy):Prop :=
 ∀ (pins:List (Addr × Obj)) (s:Shared) (σ:St) (H:Hp) (o i v:V) (ov iv u:Value) (Q:Hp->Prop),Inv X pins σ H s->RelV o ov->RelV i iv->RelV v u->t o i v H Q ->
  wpAny (model X.prog X.w) X.A (setItem ov iv u) (fun _ s'=>∃ H',Inv X pins σ H' s'/\Q H') X.xe s
section
variable{X:Cx}{pos:Pos}
abbrev lg(i:Nat):TG:=fun v σ H Q=>Q (σ.set i (some v)) H
def ou(hN:X.N.Nodup)(hi:X.N[i]?=some x)(hx:Loc X.env.scope x)(hf:X.fn x=true\/X.env.scope.names.lookup x=some .local):PG X (.Name x pos) (lg i):=by
 intro pins s σ H v u Q I r h;exact wpAny_assign_Name (fE I hN hi hx r (fun s' I'=>⟨_,H,I',h⟩) hf)
abbrev AW:TGs:=fun vs σ H Q=>vs=[]/\Q σ H
abbrev vS(t:TG)(u:TGs):TGs:=fun vs σ H Q=>∃ v r,vs=v::r/\t v σ H fun σ' H'=>u r σ' H' Q
def xr:PGs X [] AW:=by
 intro pins s σ H vs us Q I r h;obtain⟨e,h⟩:=h;subst e;cases r;exact assignInOrder_nil ⟨σ,H,I,h⟩
def uW(h1:PG X e t)(h2:PGs X es u)
 (hs:(assignEach (e::es) X.env).map (·.2)=assign e X.env::(assignEach es X.env).map (·.2)):PGs X (e::es) (vS t u):=by
 intro pins s σ H vs us Q I r h;obtain⟨v,vr,e1,h⟩:=h;subst e1
 cases r with
 |cons r rr=>
  rw[hs];refine assignInOrder_cons (thn (h1 pins s σ H _ _ _ I r h) fun _ s1 ⟨σ1,H1,I1,q1⟩=>?_);exact h2 pins s1 σ1 H1 _ _ Q I1 rr q1
abbrev jF(K:PySem.W.Frag)(n:Nat)(t:TGs):TG:=fun v σ H Q=>∃ a xs,v=.ref a/\SqT K H a xs/\xs.length=n/\t xs σ H Q
def se(hc:X.calm=true)(h:PGs X es t)
 (hn:(assignEach es X.env).length=n)(hst:(assignEach es X.env).findIdx? (·.1)=none):PG X (.Tuple es k pos) (jF X.K n t):=by
 intro pins s σ H v u Q I r hw;obtain⟨a,xs,e1,hq,hl,hw⟩:=hw;subst e1;cases r;obtain⟨its,rv,ht,hz⟩:=I.tuple hq;refine assign_Tuple_tuple (I.ok.hd.1 hc) ht (by simp[hn,<-hl,rv.length]) hst fun h' hx=>?_;have I1:Inv X pins σ H { s with heap:=h' }:=I.kept (t':=s.toks) fun b o e=>hx b o (Nat.ne_of_lt (Heap.lt_size e)) e;exact h pins _ σ H xs _ Q I1 (by simpa using rv) hw
abbrev uY(to ti:TE)(t:zy):TG:=fun v σ H Q=>to σ H fun o H1=>ti σ H1 fun i H2=>t o i v H2 fun H3=>Q σ H3
def yK(ho:PE X o to)(hi:PE X i ti)(hs:zR X t)
 (ha:∀ v,assign (.Subscript o i pos) X.env v=(do
   let ov <- holding [v] (eval o X.env)
   let iv <- holding [v,ov] (eval i X.env)
   standAt pos
   holding [v,ov,iv] (setItem ov iv v)
   release [v,ov,iv] []):=by intro _;rfl):PG X (.Subscript o i pos) (uY to ti t):=by
 intro pins s σ H v u Q I r h;rw[ha];refine wpAny_bind (wpAny_holding (thn (ho pins s σ H _ I h) fun ov s1 ⟨x,H1,I1,r1,q1⟩=>?_));refine wpAny_bind (wpAny_holding (thn (hi pins s1 σ H1 _ I1 q1) fun iv s2 ⟨y,H2,I2,r2,q2⟩=>?_));refine wpAny_bind (wpAny_standAt (wpAny_bind (wpAny_holding (thn (hs pins s2 σ H2 x y v ov iv u _ I2 r1 r2 r q2) fun _ s3 ⟨H3,I3,q3⟩=>?_))));exact wpAny_release ⟨σ,H3,I3,q3⟩
abbrev lT(te:TE)(g:TG):TS:=fun D σ H=>te σ H fun x H1=>g x σ H1 D.nx
def qY(he:PE X e te)(hg:PG X tg g)(hs:swapsWithSole [tg] e pos.line X.env=pure false)(hw:swappedStores [tg] e X.env=pure none)
 (h1:(assignEach [tg] X.env).map (·.2)=[assign tg X.env]):PS X (.Assign [tg] e pos) (lT te g):=by
 intro pins s σ H D I h;refine wpAny_Assign_stores (thn (he pins s σ H _ I h) fun v s1 ⟨x,H1,I1,r1,q1⟩=>?_) hs hw;rw[h1];exact thn (hg pins s1 σ H1 x v _ I1 r1 q1) fun _ s2 q=>q
def yu(hN:X.N.Nodup)(hi:X.N[i]?=some x)(hx:Loc X.env.scope x)(he:PE X e te)(hs:swapsWith e (some (.Name x pos')) pos.line X.env=pure false)(hf:X.fn x=true\/X.env.scope.names.lookup x=some .local) :
  PS X (.Assign [.Name x pos'] e pos) (lT te (lg i)):=by
 intro pins s σ H D I h;refine wpAny_Assign_Name (thn (he pins s σ H _ I h) fun v s1 ⟨y,H1,I1,r1,q1⟩=>?_) hs;exact fE I1 hN hi hx r1 (fun s2 I2=>⟨_,H1,I2,q1⟩) hf
abbrev zm(i j:Nat)(ta:TA):TS:=fun D σ H=>ta σ H fun vs H1=>∃ v w,vs=[v,w]/\D.nx ((σ.set i (some v)).set j (some w)) H1
def ym(hc:X.calm=true)(hN:X.N.Nodup)(hi:X.N[i]?=some x)(hj:X.N[j]?=some y)(hij:i≠j)
 (hx:X.env.scope.names.lookup x=some .local)(hy:X.env.scope.names.lookup y=some .local)(ha:PA X [a,b] ta)
 (hw:swappedStores [.Tuple [.Name x px,.Name y py] kt pt] (.Tuple [a,b] k2 pt2) X.env=pure (some [x,y]))
 (hs:swapsWithSole [.Tuple [.Name x px,.Name y py] kt pt] (.Tuple [a,b] k2 pt2) pos.line X.env=pure false) :
  PS X (.Assign [.Tuple [.Name x px,.Name y py] kt pt] (.Tuple [a,b] k2 pt2) pos) (zm i j ta):=by
 intro pins s σ H D I h;rw[exec_Assign_arm];refine wpAny_bind (wpAny_standAt ?_);rw[hs];refine wpAny_bind (wpAny_pure ?_);rw[if_neg (by decide)];refine wpAny_bind (Tuple_ (thn (ha _ pins s σ H _ I h) fun us s1 ⟨vs,H1,I1,r1,q1⟩=>?_));obtain⟨v,w,e1,q1⟩:=q1;subst e1
 obtain⟨u1,u2,rfl,rv,rw'⟩:∃ u1 u2,us=[u1,u2]/\RelV v u1/\RelV w u2:=by
  cases r1 with
  |cons p q=>
   cases q with
   |cons p' q'=>
    cases q';exact⟨_,_,rfl,p,p'⟩
 refine wpAny_newObj_type ?_ (by show 2<=sizeLine;decide);have I2:Inv X pins σ H1 { s1 with heap:=s1.heap.push { cls:=.type "tuple",data:=.seq [u1,u2].toArray } }:=I1.kept (t':=s1.toks) fun b o e=>Heap.get?_push_of_some _ e;rw[hw];refine wpAny_bind (wpAny_pure ?_);show wpAny (model X.prog X.w) X.A (do rule "assign.swapped-stores";let items <- unpackItems (.ref s1.heap.objs.size) 2 none;assignInOrder [fun v=>bindName X.env y v,fun v=>bindName X.env x v] items.reverse;pure Flow.next) _ _ _;refine wpAny_bind (wpAny_rule (wpAny_bind (unpackItems_tuple (items:=#[u1,u2]) (I.ok.hd.1 hc) (IsTup.new s1.heap _) fun h' hx'=>?_)));have I3:=I2.kept (h':=h') (t':=s1.toks) fun b o e=>hx' b o (Nat.ne_of_lt (Heap.lt_size e)) e;show wpAny _ _ (assignInOrder [fun v=>bindName X.env y v,fun v=>bindName X.env x v] [u2,u1] >>= fun _=>pure Flow.next) _ _ _;refine wpAny_bind (assignInOrder_cons (wpAny_bindName (fE I3 hN hj (.inl hy) rw' (fun s2 I4=>?_) (.inr hy))));refine assignInOrder_cons (wpAny_bindName (fE I4 hN hi (.inl hx) rv (fun s3 I5=>assignInOrder_nil (wpAny_pure ?_)) (.inr hx)));rw[List.set_comm _ _ (Ne.symm hij)]at I5;exact⟨_,H1,I5,q1⟩
end
section
variable{X:Cx}{pos:Pos}
abbrev yC(c:TT)(tb:TS):TS:=fun D σ H=>∃ W:Nat->St->Hp->Prop,(∃ m,W m σ H)/\∀ m σ H,W m σ H ->
 c σ H fun b H1=>if b=true then ∃ N:St->Hp->Prop,(∀ σ' H',N σ' H'->∃ m',m'<m/\W m' σ' H')/\tb { D with nx:=N,ct:=N,bk:=D.nx } σ H1 else D.nx σ H1
def tj(hp:PassesOwn (model X.prog X.w) X.A X.env X.xe)(hc:PT X c tc)(hb:PSs X body tb):PS X (.While c body [] pos) (yC tc tb):=by
 intro pins s σ H D I h;obtain⟨W,⟨m0,w0⟩,turn⟩:=h;refine wpAny_While (codeAny_whileLoop (fun n s'=>∃ σ' H',Inv X pins σ' H' s'/\W n σ' H') ?_ m0 ⟨σ,H,I,w0⟩);rintro n s1 ⟨σ1,H1,I1,w1⟩;refine wpAny_passesOwn hp (thn (hc pins s1 σ1 H1 _ I1 (turn n σ1 H1 w1)) fun b s2 ⟨H2,I2,q2⟩=>?_)
 cases b with
 |true=>
  obtain⟨N,hN,q2⟩:=q2;rw[if_pos rfl];refine wpAny_passesOwn hp (thn (hb pins s2 σ1 H2 _ I2 q2) fun f s3 q3=>?_)
  cases f with
  |next=>
   obtain⟨σ3,H3,I3,n3⟩:=q3;obtain⟨m',hm,w3⟩:=hN σ3 H3 n3;exact⟨m',hm,σ3,H3,I3,w3⟩
  |cont=>
   obtain⟨σ3,H3,I3,n3⟩:=q3;obtain⟨m',hm,w3⟩:=hN σ3 H3 n3;exact⟨m',hm,σ3,H3,I3,w3⟩
  | brk=>exact q3
  | ret v=>exact q3
 |false=>
  rw[if_neg Bool.false_ne_true];exact wpAny_execs_nil ⟨σ1,H2,I2,q2⟩
end
structure It where
 go:Nat->Hp->Prop
 yld:Nat->Hp->V->Hp->Prop
 stop:Nat->Hp->Prop
abbrev fY(X:Cx)(pins:List (Addr × Obj))(H:Hp)(b:Addr):Prop :=
 H b=none/\b≠X.env.locals/\b∉X.fs/\(b∈X.ex\/X.s₀.heap.objs.size<=b)/\(∀ x c,X.env.cells.lookup x=some c->c≠b)/\∀ p∈X.pn++pins,p.1≠b
def Inv.ki(I:Inv X pins σ H s)(hb:s.heap.objs.size<=b)(hn:H' b=none):fY X pins H' b:=by
 refine⟨hn,Nat.ne_of_gt (Nat.lt_of_lt_of_le I.lt hb),I.D4 hb,.inr (Nat.le_trans I.sz hb),fun x c e z=>?_,fun p hp z=>?_⟩
 ·obtain⟨v,q⟩:=I.cell x c e;exact absurd (Nat.lt_of_lt_of_le q.lt (by rw[z];exact hb)) (Nat.lt_irrefl _)
 ·exact absurd (Nat.lt_of_lt_of_le (Heap.lt_size (I.pin p hp).1) (by rw[z];exact hb)) (Nat.lt_irrefl _)
structure j5(CM:Cx->Prop)(P:Program)(w:World)(K:PySem.W.Frag)(tg:Expr)(J:It)(fp:List Addr)(it:Addr)(tn:Nat->Heap->Prop):Prop where
 mem:it∈fp
 obj:∀ i h,tn i h->∀ b∈fp,∃ o,h.get? b=some o/\∀ v,o.data≠.cell v
 keep:∀ i h h',tn i h->(∀ b∈fp,∀ o,h.get? b=some o->h'.get? b=some o)->tn i h'
 item:∀ (X:Cx),X.prog=P->X.w=w->X.K=K->CM X->∀ (i:Nat) (pins:List (Addr × Obj)) (s:Shared) (σ:St) (H:Hp) (E:Value->Shared->Prop),Inv X pins σ H s->(∀ b∈fp,fY X pins H b)->tn i s.heap->J.go i H ->
  wpAny (model P w) X.A (pyNext (.ref it)) (fun r s1=>∃ u,r=some u /\
   wpAny (model P w) X.A (letOwnedTupleGo tg (.ref it) u) (fun _ s2=>∃ x H',Inv X pins σ H' s2/\RelV x u/\J.yld i H x H'/\tn (i+1) s2.heap/\∀ b∈fp,H' b=none) E s1) E s
 done:∀ (X:Cx),X.prog=P->X.w=w->X.K=K->CM X->∀ (i:Nat) (pins:List (Addr × Obj)) (s:Shared) (σ:St) (H:Hp) (E:Value->Shared->Prop),Inv X pins σ H s->(∀ b∈fp,fY X pins H b)->tn i s.heap->J.stop i H ->
  wpAny (model P w) X.A (pyNext (.ref it)) (fun r s1=>r=none/\Inv X pins σ H s1) E s
 self:∀ (A:Around) (i:Nat) (s:Shared) (Q:Value->Shared->Prop) (E:Value->Shared->Prop),tn i s.heap->Q (.ref it) s->wpAny (model P w) A (pyIter (.ref it)) Q E s
@[reducible]noncomputable def Calm:Cx->Prop:=fun X=>X.calm=true
@[reducible]noncomputable def Turn:=j5 Calm
@[reducible]noncomputable def TI:=St->Hp->(It->Hp->Prop)->Prop
abbrev Bm(CM:Cx->Prop)(X:Cx)(pins:List (Addr × Obj))(σ:St)(tg:Expr)(R:It->Hp->Prop)(itv:Value)(s2:Shared):Prop :=
 ∃ (it:Addr) (fp:List Addr) (tn:Nat->Heap->Prop) (J:It) (H':Hp),itv=.ref it/\Inv X pins σ H' s2/\j5 CM X.prog X.w X.K tg J fp it tn/\tn 0 s2.heap/\(∀ b∈fp,fY X pins H' b)/\R J H'
@[reducible]noncomputable def PIE:=Bm Calm
abbrev PI'(CM:Cx->Prop)(X:Cx)(tg iter:Expr)(wi:TI):Prop :=
 ∀ (pins:List (Addr × Obj)) (s:Shared) (σ:St) (H:Hp) (R:It->Hp->Prop),Inv X pins σ H s->wi σ H R ->
  wpAny (model X.prog X.w) X.A (eval iter X.env) (fun v s1=>wpAny (model X.prog X.w) X.A (pyIter v) (Bm CM X pins σ tg R) X.xe s1) X.xe s
@[reducible]noncomputable def PI:=PI' Calm
def lz(ho:s.heap.get? it=some o)(hc:o.cls=.type n)(hd:o.data=.fields vs)
 (hn:["enumerate", "zip", "dict_itemiterator", "dict_reverseitemiterator", "odict_iterator", "itertools.zip_longest", "itertools.pairwise"].contains n=false)(hQ:Q () s):wpAny M A (letOwnedTupleGo tg (.ref it) u) Q E s:=by
 unfold letOwnedTupleGo
 cases tg<;>first
  | exact wpAny_pure hQ
  | (cases u<;>first
    | exact wpAny_pure hQ
    | (refine wpAny_bind (wpAny_load ho ?_)
       rw[hc,hd];show wpAny M A (if(["enumerate", "zip", "dict_itemiterator", "dict_reverseitemiterator", "odict_iterator", "itertools.zip_longest", "itertools.pairwise"].contains n&&vs[0]? == some (rawInt _))=true then _ else _) Q E s;rw[if_neg (by intro h;rw[hn,Bool.false_and]at h;cases h)]
       exact wpAny_pure hQ))
abbrev Itl(K:PySem.W.Frag)(a:Addr):It :=
 ⟨fun i H=>∃ xs x,SqL K H a xs/\xs[i]?=some x,fun i H x H'=>H'=H/\∀ xs,SqL K H a xs->xs[i]?=some x,fun i H=>∃ xs,SqL K H a xs/\xs.length<=i⟩
abbrev Itt(K:PySem.W.Frag)(a:Addr):It :=
 ⟨fun i H=>∃ xs x,SqT K H a xs/\xs[i]?=some x,fun i H x H'=>H'=H/\∀ xs,SqT K H a xs->xs[i]?=some x,fun i H=>∃ xs,SqT K H a xs/\xs.length<=i⟩
abbrev Itr(lo:Int)(n:Nat):It:=⟨fun i _=>i<n,fun i H x H'=>H'=H/\x=.int (lo+i),fun i _=>n<=i⟩
def rE{P:Program}{w:World}{K:PySem.W.Frag}(a it:Addr):Turn P w K tg (Itl K a) [it] it (fun i h=>h.IsListIter it a i) where
 mem:=by simp
 obj:=fun i h st b hb=>by
  have e:b=it:=by simpa using hb
  subst e;obtain⟨o,e,c,d⟩:=st;exact⟨o,e,fun v z=>by rw[d]at z;cases z⟩
 keep:=fun i h h' st k=>st.at fun o e=>k it (by simp) o e
 item:=by
  intro X hP hw hK hc i pins s σ H E I hf st hg;subst hP hw hK;obtain⟨xs,x,hq,hx⟩:=hg;obtain⟨its,rv,p,hz⟩:=I.list hq;obtain⟨u,hu,ru⟩:=rv.get hx;obtain⟨f0,f1,f2,f3,f4,f5⟩:=hf it (by simp);refine wpAny_pyNext_list_item st p.isList (x:=u) (by simpa using hu) fun h' st' sb=>?_;have I1:Inv X pins σ H { s with heap:=h' }:=I.turned (t':=s.toks) (fun b o hb e=>(sb.2 b hb).trans e) f0 f1 f3 f4 f5;obtain⟨o,e,c,d⟩:=id st';exact⟨u,rfl,lz (s:={ s with heap:=h' }) e c d (by decide) ⟨x,H,I1,ru,⟨rfl,fun ys hy=>by rw[I.tO hy hq];exact hx⟩,st',fun b hb=>(hf b hb).1⟩⟩
 done:=by
  intro X hP hw hK hc i pins s σ H E I hf st hg;subst hP hw hK;obtain⟨xs,hq,hx⟩:=hg;obtain⟨its,rv,p,hz⟩:=I.list hq;obtain⟨f0,f1,f2,f3,f4,f5⟩:=hf it (by simp);have hl:=rv.length
  exact wpAny_pyNext_list_end (I.ok.hd.1 hc) st p.isList (by simp;omega) fun h' eb=>⟨rfl,I.turned (t':=s.toks) (fun b o hb e=>eb b o hb e) f0 f1 f3 f4 f5⟩
 self:=fun _ _ _ _ _ st h=>wpAny_pyIter_listiter st h
def ql{P:Program}{w:World}{K:PySem.W.Frag}(a it:Addr):Turn P w K tg (Itt K a) [it] it (fun i h=>h.IsTupleIter it a i) where
 mem:=by simp
 obj:=fun i h st b hb=>by
  have e:b=it:=by simpa using hb
  subst e;obtain⟨o,e,c,d⟩:=st;exact⟨o,e,fun v z=>by rw[d]at z;cases z⟩
 keep:=fun i h h' st k=>st.at fun o e=>k it (by simp) o e
 item:=by
  intro X hP hw hK hc i pins s σ H E I hf st hg;subst hP hw hK;obtain⟨xs,x,hq,hx⟩:=hg;obtain⟨its,rv,p,hz⟩:=I.tuple hq;obtain⟨u,hu,ru⟩:=rv.get hx;obtain⟨f0,f1,f2,f3,f4,f5⟩:=hf it (by simp);refine wpAny_pyNext_tuple_item st (show s.heap.IsTuple a its.toArray from p) (x:=u) (by simpa using hu) fun h' st' sb=>?_;have I1:Inv X pins σ H { s with heap:=h' }:=I.turned (t':=s.toks) (fun b o hb e=>(sb.2 b hb).trans e) f0 f1 f3 f4 f5;obtain⟨o,e,c,d⟩:=id st';exact⟨u,rfl,lz (s:={ s with heap:=h' }) e c d (by decide) ⟨x,H,I1,ru,⟨rfl,fun ys hy=>by rw[I.sA hy hq];exact hx⟩,st',fun b hb=>(hf b hb).1⟩⟩
 done:=by
  intro X hP hw hK hc i pins s σ H E I hf st hg;subst hP hw hK;obtain⟨xs,hq,hx⟩:=hg;obtain⟨its,rv,p,hz⟩:=I.tuple hq;obtain⟨f0,f1,f2,f3,f4,f5⟩:=hf it (by simp);have hl:=rv.length
  exact wpAny_pyNext_tuple_end (I.ok.hd.1 hc) st (show s.heap.IsTuple a its.toArray from p) (by simp;omega) fun h' eb=>⟨rfl,I.turned (t':=s.toks) (fun b o hb e=>eb b o hb e) f0 f1 f3 f4 f5⟩
 self:=fun _ _ _ _ _ st h=>wpAny_pyIter_tupleiter st h
def qp{P:Program}{w:World}{K:PySem.W.Frag}(it:Addr)(lo:Int)(n:Nat):Turn P w K tg (Itr lo n) [it] it (fun i h=>IsRangeIter h it (lo+(i:Nat)*1) ((n:Int)-(i:Nat)) 1) where
 mem:=by simp
 obj:=fun i h st b hb=>by
  have e:b=it:=by simpa using hb
  subst e
  exact⟨_,st,fun v z=>by
   have z':Data.fields _=Data.cell v:=z
   cases z'⟩
 keep:=fun i h h' st k=>k it (by simp) _ st
 item:=by
  intro X hP hw hK hc i pins s σ H E I hf st hg;subst hP hw hK;obtain⟨f0,f1,f2,f3,f4,f5⟩:=hf it (by simp);have W:=Walks.range (prog:=X.prog) (w:=X.w) (I.ok.hd.1 hc) it lo 1 n;refine W.item i s _ _ hg st fun v h' tk hv st' kk=>?_;obtain⟨t,rfl⟩:=hv;have I1:Inv X pins σ H { s with heap:=h',toks:=tk }:=I.turned (fun b o hb e=>kk b o (by simpa using hb) e) f0 f1 f3 f4 f5;refine⟨_,rfl,lz (s:={ s with heap:=h',toks:=tk }) (n := "range_iterator") st' rfl rfl (by decide) ⟨.int (lo+i),H,I1,⟨t,?_⟩,⟨rfl,rfl⟩,st',fun b hb=>(hf b hb).1⟩⟩;rw[Int.mul_one]
 done:=by
  intro X hP hw hK hc i pins s σ H E I hf st hg;subst hP hw hK;obtain⟨f0,f1,f2,f3,f4,f5⟩:=hf it (by simp)
  exact wpAny_pyNext_range_end (I.ok.hd.1 hc) st (by have:n<=i:=hg;omega) fun h' eb=>⟨rfl,I.turned (t':=s.toks) (fun b o hb e=>eb b o hb e) f0 f1 f3 f4 f5⟩
 self:=fun _ _ _ _ _ st h=>wpAny_pyIter_rangeiter st h
section
variable{X:Cx}{tg:Expr}
def m7{pins:List (Addr × Obj)}{σ:St}{H:Hp}{s:Shared}{R:It->Hp->Prop}{E:Value->Shared->Prop}{lo hi:Int}{t u v:Tok}{tk:Nat}(I:Inv X pins σ H s)(h1:-(2 ^ 62)<=lo)(h2:lo<2 ^ 62)(h3:-(2 ^ 62)<=hi)(h4:hi<2 ^ 62)
 (q:R (Itr lo (hi-lo).toNat) H):wpAny (model X.prog X.w) X.A (pyIter (.ref s.heap.objs.size)) (PIE X pins σ tg R) E { s with heap:=s.heap.push { cls:=.type "range",data:=.fields #[.int lo t,.int hi u,.int 1 v] },toks:=tk }:=by
 refine wpAny_pyIter_range (IsRange.new ..) (small_one h1 h2 h3 h4) ?_;have I1:Inv X pins σ H { s with heap:=s.heap.push { cls:=.type "range",data:=.fields #[.int lo t,.int hi u,.int 1 v] },toks:=tk }:=I.kept fun b o e=>Heap.get?_push_of_some _ e
 refine⟨(s.heap.push { cls:=.type "range",data:=.fields #[.int lo t,.int hi u,.int 1 v] }).objs.size,[(s.heap.push { cls:=.type "range",data:=.fields #[.int lo t,.int hi u,.int 1 v] }).objs.size],_,_,H,rfl,
  I1.kept (t':=tk) fun b o e=>Heap.get?_push_of_some _ e,qp _ lo (hi-lo).toNat,?_,fun b hb=>?_,q⟩
 ·have e1:lo+((0:Nat):Int)*1=lo:=by simp
  have e2:(((hi-lo).toNat:Nat):Int)-((0:Nat):Int)=Builtin.Range.rangeSize lo hi 1:=by rw[rangeSize_one];split<;>omega
  show IsRangeIter _ _ (lo+((0:Nat):Int)*1) ((((hi-lo).toNat:Nat):Int)-((0:Nat):Int)) 1;rw[e1,e2];exact Heap.get?_push_size _ rfl
 ·have e:b=(s.heap.push { cls:=.type "range",data:=.fields #[.int lo t,.int hi u,.int 1 v] }).objs.size:=by simpa using hb
  subst e;exact I1.ki (Nat.le_refl _) (I1.hok.fresh (Nat.le_refl _))
abbrev Cr(ta:TA):TI:=fun σ H R=>ta σ H fun vs H1=>∃ j:Int,vs=[.int j]/\-(2 ^ 62)<=j/\j<2 ^ 62/\R (Itr 0 j.toNat) H1
abbrev BZ(ta:TA):TI:=fun σ H R=>ta σ H fun vs H1=>∃ i j:Int,vs=[.int i,.int j]/\(-(2 ^ 62)<=i/\i<2 ^ 62/\-(2 ^ 62)<=j/\j<2 ^ 62)/\R (Itr i (j-i).toNat) H1
def qT{a:Expr}{ta:TA}{p pos:Pos}(hg:Gl X "range")(hm:X.mg "range" = none)(ha:PA X [a] ta)(hs:starEach [a] X.env=[(false,eval a X.env)]):PI X tg (.Call (.Name "range" p) [a] [] pos) (Cr ta):=by
 intro pins s σ H R I h;refine Call_ (dN I hg hm boot_range (PyProof.Rows.callWith_type1 (thn (ha pos pins s σ H _ I h) fun us s1 ⟨vs,H1,I1,r1,q1⟩=>?_) hs rfl) (by decide) (by decide));obtain⟨j,e,q1,q2,q⟩:=q1;subst e
 cases r1 with
 |cons r rr=>
  cases rr;obtain⟨t,rfl⟩:=r;exact call_range_1 (m7 I1 (by omega) (by omega) q1 q2 (by simpa using q))
def rM(hg:Gl X "range")(hm:X.mg "range" = none)(ha:PA X [a,b] ta)(hs:starEach [a,b] X.env=[(false,eval a X.env),(false,eval b X.env)])(hs2:starEach [b] X.env=[(false,eval b X.env)]) :
  PI X tg (.Call (.Name "range" p) [a,b] [] pos) (BZ ta):=by
 intro pins s σ H R I h;refine Call_ (dN I hg hm boot_range (PyProof.Rows.callWith_type1 (thn (ha pos pins s σ H _ I h) fun us s1 ⟨vs,H1,I1,r1,q1⟩=>?_) (by rw[hs,hs2]) (by rw[hs2];rfl)) (by decide) (by decide));obtain⟨i,j,e,⟨q1,q2,q3,q4⟩,q⟩:=q1;subst e
 cases r1 with
 |cons r rr=>
  cases rr with
  |cons r' rr=>
   cases rr;obtain⟨t,rfl⟩:=r;obtain⟨t',rfl⟩:=r';exact call_range_2 (m7 I1 q1 q2 q3 q4 q)
abbrev Dl(wi:TI)(g:TG)(tb:TS):TS:=fun D σ H=>wi σ H fun J H1=>∃ W:Nat->Nat->St->Hp->Prop,(∃ m,W 0 m σ H1)/\∀ i m σ H,W i m σ H ->
 (J.stop i H/\D.nx σ H)\/(J.go i H/\∃ N:St->Hp->Prop,(∀ σ' H',N σ' H'->∃ m',m'<m/\W (i+1) m' σ' H')/\∀ x H',J.yld i H x H'->g x σ H' fun σ2 H2=>tb { D with nx:=N,ct:=N,bk:=D.nx } σ2 H2)
abbrev gF(fp:List Addr)(h:Heap):List (Addr × Obj):=fp.filterMap fun b=>(h.get? b).map fun o=>(b,o)
def d7(hb:b∈fp)(e:h.get? b=some o):(b,o)∈gF fp h:=List.mem_filterMap.mpr ⟨b,hb,by rw[e];rfl⟩
def qB(hp:p∈gF fp h):p.1∈fp/\h.get? p.1=some p.2:=by
 obtain⟨b,hb,e⟩:=List.mem_filterMap.mp hp
 cases q:h.get? b with
 | none=>rw[q]at e;cases e
 |some o=>
  rw[q]at e;have e':(b,o)=p:=Option.some.inj e;subst e';exact⟨hb,q⟩
def Inv.pinned(I:Inv X pins σ H s)(hf:∀ b∈fp,fY X pins H b)(ho:∀ b∈fp,∃ o,s.heap.get? b=some o/\∀ v,o.data≠.cell v):Inv X (pins++gF fp s.heap) σ H s :=
 I.nW fun p hp=>(List.mem_append.mp hp).elim (fun z=>I.pin p (List.mem_append_right _ z)) fun z=>by
  obtain⟨hb,e⟩:=qB z;obtain⟨f0,f1,f2,_⟩:=hf p.1 hb;obtain⟨o,e',d⟩:=ho p.1 hb;rw[e]at e';cases e';exact⟨e,f0,f1,f2,d⟩
def Inv.gb(I:Inv X (pins++pl) σ H s):Inv X pins σ H s:=I.nW fun p hp=>I.pin p (List.mem_append_right _ (List.mem_append_left _ hp))
def Ad(hp:PassesOwn (model X.prog X.w) X.A X.env X.xe)(hc:X.calm=true)(hi:PI X tg iter wi)(hg:PG X tg g)(hb:PSs X body tb)
 (hs:∀ x,foldedSetIterable iter X.env x=pure x):PS X (.For tg iter body [] pos) (Dl wi g tb):=by
 intro pins s σ H D I h;refine wpAny_For (thn (hi pins s σ H _ I h) fun v s1 h1=>thn h1 fun itv s2 h2=>?_) hs;obtain⟨it,fp,tn,J,H2,e,I2,T,st2,f2,W,⟨m0,w0⟩,turn⟩:=h2;subst e
 have stat:∀ {H':Hp},(∀ b∈fp,H' b=none)->∀ b∈fp,fY X pins H' b:=fun hn b hb=>⟨hn b hb,(f2 b hb).2⟩
 refine codeAny_forLoop_any (fun n s'=>∃ i σ' H',Inv X pins σ' H' s'/\tn i s'.heap/\(∀ b∈fp,H' b=none)/\W i n σ' H') ?_ m0 ⟨0,σ,H2,I2,st2,fun b hb=>(f2 b hb).1,w0⟩;rintro n s3 ⟨i,σ3,H3,I3,st3,fr3,w3⟩
 rcases turn i n σ3 H3 w3 with⟨stop,qn⟩ | ⟨go,N,hN,step⟩
 ·refine wpAny_passesOwn hp (thn (T.done X rfl rfl rfl hc i pins s3 σ3 H3 X.xe I3 (stat fr3) st3 stop) fun r s4 ⟨hr,I4⟩=>?_);subst hr;exact wpAny_execs_nil ⟨σ3,H3,I4,qn⟩
 ·refine wpAny_passesOwn hp (thn (T.item X rfl rfl rfl hc i pins s3 σ3 H3 X.xe I3 (stat fr3) st3 go) fun r s4 ⟨u,hr,h4⟩=>?_);subst hr;refine wpAny_passesOwn hp (thn h4 fun _ s5 ⟨x,H5,I5,r5,y5,st5,fr5⟩=>?_);have I5':=I5.pinned (stat fr5) (T.obj _ _ st5);refine wpAny_passesOwn hp (thn (hg _ s5 σ3 H5 x u _ I5' r5 (step x H5 y5)) fun _ s6 ⟨σ6,H6,I6,q6⟩=>?_);refine wpAny_passesOwn hp (thn (hb _ s6 σ6 H6 _ I6 q6) fun f s7 q7=>?_)
  have again:∀ {σ7:St} {H7:Hp},Inv X (pins++gF fp s5.heap) σ7 H7 s7->N σ7 H7->∃ m,m<n/\∃ i σ' H',Inv X pins σ' H' s7/\tn i s7.heap/\(∀ b∈fp,H' b=none)/\W i m σ' H':=fun {σ7 H7} I7 n7=>by
   obtain⟨m',hm,w7⟩:=hN σ7 H7 n7;refine⟨m',hm,i+1,σ7,H7,I7.gb,T.keep _ _ _ st5 fun b hb o e=>(I7.pin (b,o) (List.mem_append_right _ (List.mem_append_right _ (d7 hb e)))).1,fun b hb=>?_,w7⟩;obtain⟨o,e,d⟩:=T.obj _ _ st5 b hb;exact(I7.pin (b,o) (List.mem_append_right _ (List.mem_append_right _ (d7 hb e)))).2.1
  cases f with
  | next=>obtain⟨σ7,H7,I7,n7⟩:=q7;exact again I7 n7
  | cont=>obtain⟨σ7,H7,I7,n7⟩:=q7;exact again I7 n7
  | brk=>obtain⟨σ7,H7,I7,q7⟩:=q7;exact⟨σ7,H7,I7.gb,q7⟩
  | ret v=>obtain⟨x7,σ7,H7,I7,r7,q7⟩:=q7;exact⟨x7,σ7,H7,I7.gb,r7,q7⟩
end
@[reducible]noncomputable def R2:=V->V->Hp->VK->Prop
abbrev OpR(X:Cx)(f:Value->Value->Sem Value)(r:R2):Prop :=
 ∀ (pins:List (Addr × Obj)) (s:Shared) (σ:St) (H:Hp) (x y:V) (v u:Value) (Q:VK),Inv X pins σ H s->RelV x v->RelV y u->r x y H Q ->
  wpAny (model X.prog X.w) X.A (f v u) (EP X pins σ Q) X.xe s
abbrev UnR(X:Cx)(f:Value->Sem Value)(r:V->Hp->VK->Prop):Prop :=
 ∀ (pins:List (Addr × Obj)) (s:Shared) (σ:St) (H:Hp) (x:V) (v:Value) (Q:VK),Inv X pins σ H s->RelV x v->r x H Q ->
  wpAny (model X.prog X.w) X.A (f v) (EP X pins σ Q) X.xe s
abbrev aH(X:Cx)(f:Value)(r:List V->Hp->VK->Prop):Prop :=
 ∀ (pins:List (Addr × Obj)) (s:Shared) (σ:St) (H:Hp) (xs:List V) (us:List Value) (Q:VK),Inv X pins σ H s->Vals xs us->r xs H Q ->
  wpAny (model X.prog X.w) X.A (call f us) (EP X pins σ Q) X.xe s
abbrev Dr(X:Cx)(r:V->Hp->(Bool->Hp->Prop)->Prop):Prop :=
 ∀ (pins:List (Addr × Obj)) (s:Shared) (σ:St) (H:Hp) (x:V) (v:Value) (Q:Bool->Hp->Prop),Inv X pins σ H s->RelV x v->r x H Q ->
  wpAny (model X.prog X.w) X.A (truthy v) (TP X pins σ Q) X.xe s
abbrev tOp(r:R2)(ta tb:TE):TE:=fun σ H Q=>ta σ H fun x H1=>tb σ H1 fun y H2=>r x y H2 Q
abbrev tUn(r:V->Hp->VK->Prop)(ta:TE):TE:=fun σ H Q=>ta σ H fun x H1=>r x H1 Q
abbrev rI(C:Int->Int->Prop)(g:Int->Int->V):R2:=fun x y H Q=>∃ i j,x=.int i/\y=.int j/\C i j/\Q (g i j) H
abbrev rI0(g:Int->Int->V):R2:=fun x y H Q=>∃ i j,x=.int i/\y=.int j/\Q (g i j) H
abbrev rU(g:Int->V):V->Hp->VK->Prop:=fun x H Q=>∃ i,x=.int i/\Q (g i) H
section
variable{X:Cx}{a b c:Expr}{ta tb tc:TE}{pos:Pos}
def uj(ha:PE X a ta)(hb:PE X b tb){pins:List (Addr × Obj)}{s:Shared}{σ:St}{H:Hp}{R:V->V->Hp->Prop}(I:Inv X pins σ H s)
 (h:ta σ H fun x H1=>tb σ H1 fun y H2=>R x y H2){Q:Value->Shared->Prop}{f:Value->Value->Sem Value}
 (hf:∀ v u s2 x y H2,Inv X pins σ H2 s2->RelV x v->RelV y u->R x y H2->wpAny (model X.prog X.w) X.A (f v u) Q X.xe s2) :
  wpAny (model X.prog X.w) X.A (eval a X.env) (fun v s₁=>wpAny (model X.prog X.w) X.A (eval b X.env) (fun u s₂=>wpAny (model X.prog X.w) X.A (f v u) Q X.xe s₂) X.xe s₁) X.xe s:=by
 refine thn (ha pins s σ H _ I h) fun v s1 ⟨x,H1,I1,r1,q1⟩=>?_;refine thn (hb pins s1 σ H1 _ I1 q1) fun u s2 ⟨y,H2,I2,r2,q2⟩=>?_;exact hf v u s2 x y H2 I2 r1 r2 q2
def vU{op:Operator}{r:R2}(ho:OpR X (binaryOp op) r)(ha:PE X a ta)(hb:PE X b tb):PE X (.BinOp a op b pos) (tOp r ta tb):=by
 intro pins s σ H Q I h;exact wpAny_BinOp (uj ha hb I h fun v u s2 x y H2 I2 rx ry q=>ho pins s2 σ H2 x y v u Q I2 rx ry q)
def vD(ho:UnR X (unaryOp op) r)(ha:PE X a ta):PE X (.UnaryOp op a pos) (tUn r ta):=by
 intro pins s σ H Q I h;exact UnaryOp_ (thn (ha pins s σ H _ I h) fun v s1 ⟨x,H1,I1,r1,q1⟩=>ho pins s1 σ H1 x v Q I1 r1 q1)
def opI{f:Value->Value->Sem Value}{C:Int->Int->Prop}{g:Int->Int->Int}
 (rule:∀ (i j:Int) (t u:Tok) (s:Shared) (Q:Value->Shared->Prop) (E:Value->Shared->Prop),C i j->Q (.int (g i j) s.toks) { s with toks:=s.toks+1 }->wpAny (model X.prog X.w) X.A (f (.int i t) (.int j u)) Q E s) :
  OpR X f (rI C fun i j=>.int (g i j)):=by
 intro pins s σ H x y v u Q I rx ry h;obtain⟨i,j,rfl,rfl,hc,q⟩:=h;obtain⟨t,rfl⟩:=rx;obtain⟨t',rfl⟩:=ry;exact rule i j t t' s _ _ hc ⟨.int (g i j),H,I.tok _,⟨_,rfl⟩,q⟩
def zU{f:Value->Value->Sem Value}{g:Int->Int->Int}
 (rule:∀ (i j:Int) (t u:Tok) (s:Shared) (Q:Value->Shared->Prop) (E:Value->Shared->Prop),Q (.int (g i j) s.toks) { s with toks:=s.toks+1 }->wpAny (model X.prog X.w) X.A (f (.int i t) (.int j u)) Q E s) :
  OpR X f (rI0 fun i j=>.int (g i j)):=by
 intro pins s σ H x y v u Q I rx ry h;obtain⟨i,j,rfl,rfl,q⟩:=h;obtain⟨t,rfl⟩:=rx;obtain⟨t',rfl⟩:=ry;exact rule i j t t' s _ _ ⟨.int (g i j),H,I.tok _,⟨_,rfl⟩,q⟩
abbrev BL(i j:Int):Prop:=0<=j/\j<=1000000/\i.natAbs<2 ^ 64
abbrev pB(i j:Int):Prop:=(-(2 ^ 64)<i/\i<2 ^ 64)\/(-(2 ^ 64)<j/\j<2 ^ 64)
def pB.ok(h:pB i j):IntMulOk i j:=by
 rcases h with⟨h1,h2⟩ | ⟨h1,h2⟩
 ·exact .of_left (intBits_le_64 h1 h2)
 ·exact .of_right (intBits_le_64 h1 h2)
def B5:OpR X (binaryOp .Add) (rI0 fun i j=>.int (i+j)):=zU fun _ _ _ _ _ _ _ q=>add_int q
def yo:OpR X (binaryOp .Sub) (rI0 fun i j=>.int (i-j)):=zU fun _ _ _ _ _ _ _ q=>sub_int q
def BA:OpR X (binaryOp .Mult) (rI pB fun i j=>.int (i*j)):=opI fun _ _ _ _ _ _ _ hc q=>mul_int q hc.ok
def AY:OpR X (binaryOp .Mod) (rI (fun _ j=>0<j) fun i j=>.int (i%j)):=opI fun i j _ _ _ _ _ hc q=>by
 have h1:(0:Int)<j:=hc;exact mod_int' (by omega) (by rw[Int.fmod_eq_emod_of_nonneg i (by omega)];exact q)
def A2:OpR X (binaryOp .Pow) (rI BL fun i j=>.int (i ^ j.toNat)):=opI fun _ _ _ _ _ _ _ hc q=>pow_int_small hc.1 hc.2.1 hc.2.2 q
def unI{f:Value->Sem Value}{g:Int->Int}
 (rule:∀ (i:Int) (t:Tok) (s:Shared) (Q:Value->Shared->Prop) (E:Value->Shared->Prop),Q (.int (g i) s.toks) { s with toks:=s.toks+1 }->wpAny (model X.prog X.w) X.A (f (.int i t)) Q E s) :
  UnR X f (rU fun i=>.int (g i)):=by
 intro pins s σ H x v Q I rx h;obtain⟨i,rfl,q⟩:=h;obtain⟨t,rfl⟩:=rx;exact rule i t s _ _ ⟨.int (g i),H,I.tok _,⟨_,rfl⟩,q⟩
def qK:UnR X (unaryOp .USub) (rU fun i=>.int (-i)):=unI fun _ _ _ _ _ q=>neg_int q
end
abbrev CY:V->V->Bool
 | .non,.non=>true | .non,.int _=>true | .int _,.non=>true | .non,.bl _=>true | .bl _,.non=>true | .non,.str _=>true | .str _,.non=>true
 | .int _,.int _=>true | .bl _,.bl _=>true | .str _,.str _=>true | .byt _,.byt _=>true
 | .int _,.str _=>true | .str _,.int _=>true | .bl _,.str _=>true | .str _,.bl _=>true
 | _,_=>false
abbrev rNe:R2:=fun x y H Q=>CY x y=true/\Q (.bl (!decide (x=y))) H
def wC:decide (V.int i=V.int j)=(i == j):=by
 rw[Bool.eq_iff_iff];simp
def yF:decide (V.bl i=V.bl j)=(i == j):=by
 rw[Bool.eq_iff_iff];simp
def xf:decide (V.str i=V.str j)=(i == j):=by
 rw[Bool.eq_iff_iff];simp
def wB:decide (V.byt i=V.byt j)=(i.toList == j.toList):=by
 rw[Bool.eq_iff_iff];cases i;cases j;simp
section
variable{X:Cx}{a b c:Expr}{ta tb tc:TE}{pos:Pos}
def bb(I:Inv X pins σ H s)(q:Q (.bl k) H)(e:k=k'):EP X pins σ Q (.bool k') s:=by
 subst e;exact⟨.bl k,H,I,rfl,q⟩
def CH:OpR X (compareOp .NotEq) rNe:=by
 intro pins s σ H x y v u Q I rx ry h;obtain⟨hs,q⟩:=h
 cases x with
 |non=>
  cases rx
  cases y with
  | non=>cases ry;exact PySem.EqNone.ne_none_none (bb I q (by simp))
  | bl j=>cases ry;exact PySem.EqNone.ne_none_bool (bb I q (by simp))
  | int j=>obtain⟨t',rfl⟩:=ry;exact PySem.EqNone.ne_none_int (bb I q (by simp))
  | str j=>obtain⟨t',rfl⟩:=ry;exact PySem.EqNone.ne_none_str (bb I q (by simp))
  | _=>exact absurd (show false=true from hs) Bool.false_ne_true
 |bl i=>
  cases rx
  cases y with
  | non=>cases ry;exact PySem.EqNone.ne_bool_none (bb I q (by simp))
  | bl j=>cases ry;exact ne_bool (bb I q (congrArg not yF))
  | str j=>obtain⟨t',rfl⟩:=ry;exact PySem.EqMixed.ne_bool_str (bb I q (by simp))
  | _=>exact absurd (show false=true from hs) Bool.false_ne_true
 |int i=>
  obtain⟨t,rfl⟩:=rx
  cases y with
  | non=>cases ry;exact PySem.EqNone.ne_int_none (bb I q (by simp))
  | int j=>obtain⟨t',rfl⟩:=ry;exact ne_int (bb I q (congrArg not wC))
  | str j=>obtain⟨t',rfl⟩:=ry;exact PySem.EqMixed.ne_int_str (bb I q (by simp))
  | _=>exact absurd (show false=true from hs) Bool.false_ne_true
 |str i=>
  obtain⟨t,rfl⟩:=rx
  cases y with
  | non=>cases ry;exact PySem.EqNone.ne_str_none (bb I q (by simp))
  | bl j=>cases ry;exact PySem.EqMixed.ne_str_bool (bb I q (by simp))
  | int j=>obtain⟨t',rfl⟩:=ry;exact PySem.EqMixed.ne_str_int (bb I q (by simp))
  | str j=>obtain⟨t',rfl⟩:=ry;exact ne_str (bb I q (congrArg not xf))
  | _=>exact absurd (show false=true from hs) Bool.false_ne_true
 |byt i=>
  obtain⟨t,rfl⟩:=rx
  cases y with
  | byt j=>obtain⟨t',rfl⟩:=ry;exact PySem.W.ne_bytes (bb I q (congrArg not wB))
  | _=>exact absurd (show false=true from hs) Bool.false_ne_true
 | _=>cases y<;>exact absurd (show false=true from hs) Bool.false_ne_true
def Bc:OpR X (compareOp .Is) (fun x y H Q=>y=.non/\Q (.bl (decide (x=.non))) H):=by
 intro pins s σ H x y v u Q I rx ry h;obtain⟨rfl,q⟩:=h;cases ry;refine is_none_gen (bb I q ?_)
 cases x<;>first
  | (cases rx;rfl)
  | (obtain⟨t,rfl⟩:=rx;rfl)
def wg:OpR X (compareOp .IsNot) (fun x y H Q=>y=.non/\Q (.bl (!decide (x=.non))) H):=by
 intro pins s σ H x y v u Q I rx ry h;obtain⟨rfl,q⟩:=h;cases ry;refine isnot_none_gen (bb I q ?_)
 cases x<;>first
  | (cases rx;rfl)
  | (obtain⟨t,rfl⟩:=rx;rfl)
def OpR.or(h:OpR X f r)(h':OpR X f r'):OpR X f (fun x y H Q=>r x y H Q\/r' x y H Q):=by
 intro pins s σ H x y v u Q I rx ry q;rcases q with q | q
 ·exact h pins s σ H x y v u Q I rx ry q
 ·exact h' pins s σ H x y v u Q I rx ry q
def m4(b:Expr)(h:op≠.In)(h2:op≠.NotIn):behindInMarks op b=false:=by
 have e1:(op == CmpOp.In)=false:=by cases op<;>first | rfl | exact absurd rfl h
 have e2:(op == CmpOp.NotIn)=false:=by cases op<;>first | rfl | exact absurd rfl h2
 cases b<;>simp[behindInMarks,e1,e2]
def oy{op:CmpOp}{r:R2}(ho:OpR X (compareOp op) r)(ha:PE X a ta)(hb:PE X b tb)(hm:behindInMarks op b=false):PE X (.Compare a [op] [b] pos) (tOp r ta tb):=by
 intro pins s σ H Q I h;exact wpAny_Compare1 (uj ha hb I h fun v u s2 x y H2 I2 rx ry q=>ho pins s2 σ H2 x y v u Q I2 rx ry q) hm
abbrev vA(t:TE):TT:=fun σ H Q=>t σ H fun x H'=>∃ k,x=.bl k/\Q k H'
def ka(ho:OpR X (compareOp op) r)(ha:PE X a ta)(hb:PE X b tb)(hm:behindInMarks op b=false):PT X (.Compare a [op] [b] pos) (vA (tOp r ta tb)):=by
 intro pins s σ H Q I h
 refine wpAny_isTrue_Compare1 (thn (ha pins s σ H _ I h) fun v s1 ⟨x,H1,I1,r1,q1⟩=>thn (hb pins s1 σ H1 _ I1 q1) fun u s2 ⟨y,H2,I2,r2,q2⟩ =>
  thn (ho pins s2 σ H2 x y v u _ I2 r1 r2 q2) fun c s3 ⟨z,H3,I3,r3,k,e,q3⟩=>?_) hm
 subst e;cases r3;exact wpAny_truthy_bool ⟨H3,I3,q3⟩
abbrev nh(r r':R2)(ta tb tc:TE):TE:=fun σ H Q=>ta σ H fun x H1=>tb σ H1 fun y H2=>r x y H2 fun z H3=>∃ k,z=.bl k /\
 (if k=true then tc σ H3 fun w' H4=>r' y w' H4 Q else Q (.bl false) H3)
def vf(ho:OpR X (compareOp op) r)(ho':OpR X (compareOp op') r')(ha:PE X a ta)(hb:PE X b tb)(hc:PE X c tc)
 (hm:lastMarks [op,op'] [b,c]=false):PE X (.Compare a [op,op'] [b,c] pos) (nh r r' ta tb tc):=by
 intro pins s σ H Q I h
 refine Compare_chain (thn (ha pins s σ H _ I h) fun v s1 ⟨x,H1,I1,r1,q1⟩=>chain_link (thn (hb pins s1 σ H1 _ I1 q1) fun u s2 ⟨y,H2,I2,r2,q2⟩ =>
  thn (ho pins s2 σ H2 x y v u _ I2 r1 r2 q2) fun d s3 ⟨z,H3,I3,r3,k,e,q3⟩=>?_)) hm
 subst e;cases r3;refine wpAny_truthy_bool ?_
 cases k with
 | false=>exact ite_ff ⟨.bl false,H3,I3,rfl,q3⟩
 | true=>exact ite_tt (chain_last (thn (hc pins s3 σ H3 _ I3 q3) fun w' s4 ⟨z',H4,I4,r4,q4⟩=>ho' pins s4 σ H4 y z' u w' Q I4 r2 r4 q4))
def uh(ho:OpR X (compareOp op) r)(ho':OpR X (compareOp op') r')(ha:PE X a ta)(hb:PE X b tb)(hc:PE X c tc)
 (hm:lastMarks [op,op'] [b,c]=false):PT X (.Compare a [op,op'] [b,c] pos) (vA (nh r r' ta tb tc)):=by
 intro pins s σ H Q I h
 refine isTrue_chain (thn (ha pins s σ H _ I h) fun v s1 ⟨x,H1,I1,r1,q1⟩=>test_link (thn (hb pins s1 σ H1 _ I1 q1) fun u s2 ⟨y,H2,I2,r2,q2⟩ =>
  thn (ho pins s2 σ H2 x y v u _ I2 r1 r2 q2) fun d s3 ⟨z,H3,I3,r3,k,e,q3⟩=>?_)) hm
 subst e;cases r3;refine wpAny_truthy_bool ?_
 cases k with
 |false=>
  obtain⟨k',e',q'⟩:=q3;cases e';exact ite_ff ⟨H3,I3,q'⟩
 |true=>
  refine ite_tt (test_last (thn (hc pins s3 σ H3 _ I3 q3) fun w' s4 ⟨z',H4,I4,r4,q4⟩=>thn (ho' pins s4 σ H4 y z' u w' _ I4 r2 r4 q4) fun d' s5 ⟨z2,H5,I5,r5,k2,e2,q5⟩=>?_));subst e2;cases r5;exact wpAny_truthy_bool ⟨H5,I5,q5⟩
abbrev pT(K:PySem.W.Frag)(x:V)(H:Hp)(k:Bool):Prop :=
 match x with
 | .non=>k=false
 | .bl b=>k=b
 | .int i=>k=(i != 0)
 | .str y=>y.length<=sizeLine/\k=((y.length:Int) != 0)
 | .byt y=>y.size<=sizeLine/\k=((y.size:Int) != 0)
 | .ref p=>(∃ xs,SqL K H p xs/\k=!xs.isEmpty)\/(∃ xs,SqT K H p xs/\k=!xs.isEmpty)\/∃ kvs,H p=some (.dK kvs)/\k=!kvs.isEmpty
 | _=>False
def pM(r:KV kvs vs):(!vs.isEmpty)=!kvs.isEmpty:=by
 cases r<;>rfl
def jk(r:Vals xs its):(!its.toArray.isEmpty)=!xs.isEmpty:=by
 cases r<;>simp
def fu:(sizeLine:Nat)<2 ^ 63:=by rw[sizeLine_eq];decide
def rA:Dr X (fun x H Q=>∃ k,pT X.K x H k/\Q k H):=by
 intro pins s σ H x v Q I rx h;obtain⟨k,e,q⟩:=h;have hl:=fu;have hs:sizeLine=16777216:=sizeLine_eq
 cases x with
 |non=>
  cases rx;have e':k=false:=e;subst e';exact truthy_none ⟨H,I,q⟩
 |bl b=>
  cases rx;have e':k=b:=e;subst e';exact wpAny_truthy_bool ⟨H,I,q⟩
 |int i=>
  obtain⟨t,rfl⟩:=rx;have e':k=(i != 0):=e;subst e';exact PySem.P.truthy_int ⟨H,I,q⟩
 |str y=>
  obtain⟨t,rfl⟩:=rx;obtain⟨hy,e'⟩:y.length<=sizeLine/\k=((y.length:Int) != 0):=e;subst e';exact PySem.P.truthy_str (by omega) ⟨H,I.tok _,q⟩
 |byt y=>
  obtain⟨t,rfl⟩:=rx;obtain⟨hy,e'⟩:y.size<=sizeLine/\k=((y.size:Int) != 0):=e;subst e';exact PySem.W.truthy_bytes (by omega) ⟨H,I.tok _,q⟩
 |ref p=>
  cases rx;have e':(∃ xs,SqL X.K H p xs/\k=!xs.isEmpty)\/(∃ xs,SqT X.K H p xs/\k=!xs.isEmpty)\/∃ kvs,H p=some (.dK kvs)/\k=!kvs.isEmpty:=e
  rcases e' with⟨xs,hx,e'⟩ | ⟨xs,hx,e'⟩ | ⟨kvs,hx,e'⟩
  ·subst e';obtain⟨its,r,pl,hz⟩:=I.list hx;have hlen:=r.length;exact wpAny_truthy_list pl.isList (by simp only[List.size_toArray];omega) ⟨H,I.tok _,by rw[jk r];exact q⟩
  ·subst e';obtain⟨its,r,pl,hz⟩:=I.tuple hx;have hlen:=r.length;exact truthy_tuple pl (by simp only[List.size_toArray];omega) ⟨H,I.tok _,by rw[jk r];exact q⟩
  ·subst e';obtain⟨hz,hS,vs,r,m⟩:kvs.length<=sizeLine/\(p == sysModules)=false/\∃ vs,KV kvs vs/\s.heap.DictOf (aT X.prog X.w) p vs:=I.hok p _ hx;have hlen:kvs.length=vs.length:=Paired.length r;exact wpAny_truthy_dict hS m (by omega) ⟨H,I.tok _,by rw[pM r];exact q⟩
 | _=>exact(show False from e).elim
def tG(ha:PE X a ta)(he:∀ whole,isTrue a X.env whole=(do let v <- whole;standAt a.pos;holding [v] (truthy v))) :
  PT X a (fun σ H Q=>ta σ H fun x H'=>∃ k,pT X.K x H' k/\Q k H'):=by
 intro pins s σ H Q I h;exact isTrue_plain (thn (ha pins s σ H _ I h) fun v s1 ⟨x,H1,I1,r1,q1⟩=>rA pins s1 σ H1 x v Q I1 r1 q1) (he _)
def pf:OpR X (binaryOp .Add) (fun x y H Q=>∃ i j,x=.str i/\y=.str j/\i.length+j.length<=sizeLine/\Q (.str (i++j)) H):=by
 intro pins s σ H x y v u Q I rx ry h;obtain⟨i,j,rfl,rfl,hz,q⟩:=h;obtain⟨t,rfl⟩:=rx;obtain⟨t',rfl⟩:=ry;exact add_str (fun t' tk=>⟨.str (i++j),H,I.tok _,⟨_,rfl⟩,q⟩) hz
def vals1(r:Vals [x] us):∃ u,us=[u]/\RelV x u:=by
 cases r with
 | cons r1 r2=>cases r2;exact⟨_,rfl,r1⟩
def vals2(r:Vals [x,y] us):∃ u w',us=[u,w']/\RelV x u/\RelV y w':=by
 cases r with
 |cons r1 r2=>
  cases r2 with
  | cons r3 r4=>cases r4;exact⟨_,_,rfl,r1,r3⟩
def qC:aH X (.type "int") (fun xs H Q=>(∃ i,xs=[.int i]/\Q (.int i) H)\/∃ k,xs=[.bl k]/\Q (.int (if k then 1 else 0)) H):=by
 intro pins s σ H xs us Q I r h
 rcases h with⟨i,rfl,q⟩ | ⟨k,rfl,q⟩
 ·obtain⟨u,rfl,t,rfl⟩:=vals1 r;exact call_int_int ⟨.int i,H,I,⟨_,rfl⟩,q⟩
 ·obtain⟨u,rfl,r1⟩:=vals1 r;cases r1;exact call_int_bool ⟨.int (if k then 1 else 0),H,I.tok _,⟨_,rfl⟩,q⟩
abbrev zQ(K:PySem.W.Frag)(x:V)(H:Hp)(n:Nat):Prop :=
 match x with
 | .str y=>y.length<=sizeLine/\n=y.length
 | .byt y=>y.size<=sizeLine/\n=y.size
 | .ref p=>(∃ xs,SqL K H p xs/\n=xs.length)\/∃ xs,SqT K H p xs/\n=xs.length
 | _=>False
def uz:aH X (.builtin "len") (fun xs H Q=>∃ x n,xs=[x]/\zQ X.K x H n/\Q (.int n) H):=by
 intro pins s σ H xs us Q I r h;obtain⟨x,n,rfl,e,q⟩:=h;obtain⟨u,rfl,rx⟩:=vals1 r;have hl:=fu;have hs:sizeLine=16777216:=sizeLine_eq
 cases x with
 |str y=>
  obtain⟨t,rfl⟩:=rx;obtain⟨hy,e'⟩:y.length<=sizeLine/\n=y.length:=e;subst e';exact len_str (by omega) ⟨.int _,H,I.tok _,⟨_,rfl⟩,q⟩
 |byt y=>
  obtain⟨t,rfl⟩:=rx;obtain⟨hy,e'⟩:y.size<=sizeLine/\n=y.size:=e;subst e';exact PySem.W.len_bytes (by omega) ⟨.int _,H,I.tok _,⟨_,rfl⟩,q⟩
 |ref p=>
  cases rx;have e':(∃ xs,SqL X.K H p xs/\n=xs.length)\/∃ xs,SqT X.K H p xs/\n=xs.length:=e
  rcases e' with⟨xs,hx,e'⟩ | ⟨xs,hx,e'⟩
  ·subst e';obtain⟨its,r',pl,hz⟩:=I.list hx;have hlen:=r'.length;exact Calls.call_len_list pl.isList (by simp only[List.size_toArray];omega) ⟨.int xs.length,H,I.tok _,⟨_,by simp only[List.size_toArray];rw[hlen]⟩,q⟩
  ·subst e';obtain⟨its,r',pl,hz⟩:=I.tuple hx;have hlen:=r'.length;exact len_tuple pl (by simp only[List.size_toArray];omega) ⟨.int xs.length,H,I.tok _,⟨_,by simp only[List.size_toArray];rw[hlen]⟩,q⟩
 | _=>exact(show False from e).elim
end
structure uG(h:Heap)(x dx C:Addr)(mA:Str->Option Value):Prop where
 obj:h.get? x=some (PySem.W.instObj C dx)
 ns:h.Ns1 dx mA
 ne:dx≠x
def qM{h:Heap}(n:h.Ns1 dx mA):∃ od,h.get? dx=some od/\∀ name,PySem.W.lookIn name od=some (mA name):=by
 obtain⟨o,es,ep,ho,hd,hk,_,hm⟩:=n;refine⟨o,ho,fun name=>?_⟩;have e:=hm name;unfold nsFind findBy at e;rw[<-Array.find?_toList]at e;unfold PySem.W.lookIn;rw[hd];dsimp only;split
 ·rename_i y q;rw[q]at e;exact congrArg some e
 ·rename_i q;rw[q]at e
  have a:es.toList.any (·.refKey)=false:=by
   rw[List.any_eq_false];intro y hy;obtain⟨z,t,hkey⟩:=hk y (Array.mem_toList_iff.mp hy);simp[DictEntry.refKey,hkey]
  have a':¬ es.toList.any (·.refKey)=true:=by rw[a];exact Bool.false_ne_true
  rw[if_neg a'];exact congrArg some e
def uG.look(I:uG h x dx C mA):∃ od,PySem.W.InstAt h x (PySem.W.instObj C dx) C (some od)/\∀ name,PySem.W.lookIn name od=some (mA name) :=
 let ⟨od,ho,hl⟩:=qM I.ns
 ⟨od,⟨I.obj,rfl,rfl,ho⟩,hl⟩
section
variable{prog:Program}{w:World}{A:Around}{E:Value->Shared->Prop}{s:Shared}{K:PySem.W.Frag}{x dx C f:Addr}{mA:Str->Option Value}{name:Str}{v:Value}
end
def cR.some_of(r:cR (some v) o):∃ u,o=some u/\RelV v u:=by
 cases o with
 | none=>exact(show False from r).elim
 | some u=>exact⟨u,rfl,r⟩
section
variable{P:Program}{w:World}{H H':Hp}{h h':Heap}{a C dx:Addr}{fs fs':List (Str × V)}
def wM(hok:HOk P w H h)(e:H a=some (.ins C dx fs)):∃ mA,uG h a dx C mA/\(∀ f,cR (fs.lookup f) (mA f))/\PySem.Within mA (fs.map (·.1))/\fs.length<=1000/\H dx=some (.own a):=by
 obtain⟨d,z,ne,ob,mA,n,r,q⟩:=(show aM P w H h a (.ins C dx fs)from hok a _ e)
 exact⟨mA,⟨ob,n,ne⟩,r,q,z,d⟩
end
structure Cls(K:PySem.W.Frag)(C:Addr):Prop where
 pg:PySem.W.plainGet K C Str.empty=true
 hd:PySem.W.hasDictIn K C=true
 po:PySem.W.plainOver K C=true
 sa:PySem.W.findIn K (.ref C) "__setattr__" = some (some (.builtin "object.__setattr__"))
def Cls.get{K:PySem.W.Frag}(c:Cls K C)(f:Str):PySem.W.plainGet K C f=true:=c.pg
section
variable{X:Cx}{pins:List (Addr × Obj)}{σ:St}{H:Hp}{s:Shared}{a C dx:Addr}{fs:List (Str × V)}{f:Str}{v:V}{A:Around}{E:Value->Shared->Prop}
end
section
variable{X:Cx}{o e value:Expr}{f:Str}{pos pos' tpos:Pos}{ta tv:TE}
end
section
variable{X:Cx}{pins:List (Addr × Obj)}{σ:St}{H:Hp}{s:Shared}{A:Around}{E:Value->Shared->Prop}{Q:Value->Shared->Prop}{c:Value}{b:Bool}
inductive c9 (K:PySem.W.Frag) (H:Hp):V->Value->Prop where
 | non:c9 K H .non (.type "NoneType")
 | bl (x:Bool):c9 K H (.bl x) (.type "bool")
 | int (i:Int):c9 K H (.int i) (.type "int")
 | str (x:Str):c9 K H (.str x) (.type "str")
 | flt (x:UInt64):c9 K H (.flt x) (.type "float")
 | lst {a:Addr} {xs:List V} (e:H a=some (.lst xs)):c9 K H (.ref a) (.type "list")
 | frz {a:Addr} {o:Obj} {xs:List V} (e:H a=some (.frz o (.lst xs))):c9 K H (.ref a) (.type "list")
 | tup {a:Addr} {xs:List V} (e:H a=some (.tup xs)):c9 K H (.ref a) (.type "tuple")
 | dK {a:Addr} {kvs:List (Key × V)} (e:H a=some (.dK kvs)):c9 K H (.ref a) (.type "dict")
 | dT {a:Addr} {kvs:List (List Key × V)} (e:H a=some (.dT kvs)):c9 K H (.ref a) (.type "dict")
 | ins {a C dx:Addr} {fs:List (Str × V)} (e:H a=some (.ins C dx fs)) (cl:Cls K C) (ha:PySem.W.findIn K (.ref C) "__class__" = some (some (.builtin "object.__class__")))
   (hn:PySem.W.specialIn K (.builtin "object.__class__") "__get__" = some (some (.builtin "getset_descriptor.__get__"))) (htk:PySem.W.takesIn K (.builtin "object.__class__")=some true)
   (hm:PySem.W.mroIn K C (.type "object")=some true):c9 K H (.ref a) (.ref C)
def rW(I:Inv X pins σ H s)(rx:RelV x u)(ty:c9 X.K H x t)(e:PySem.W.kitOne X.K t c=some b)(h:∀ tk,Q (.bool b) { s with toks:=tk }) :
  wpAny (model X.prog X.w) A (call (.builtin "isinstance") [u,c]) Q E s:=by
 cases ty with
 | non=>cases(show u=Value.none from rx);exact PySem.W.kia_one PySem.W.kitx_none I.kIn True.intro e (fun z=>nomatch z) h
 | bl y=>cases(show u=Value.bool y from rx);exact PySem.W.kia_one PySem.W.kitx_bool I.kIn True.intro e (fun z=>nomatch z) h
 | int i=>obtain⟨t,q⟩:=(show ∃ t,u=Value.int i t from rx);cases q;exact PySem.W.kia_one PySem.W.kitx_int I.kIn True.intro e (fun z=>nomatch z) h
 | str y=>obtain⟨t,q⟩:=(show ∃ t,u=Value.str y t from rx);cases q;exact PySem.W.kia_one PySem.W.kitx_str I.kIn True.intro e (fun z=>nomatch z) h
 | flt y=>obtain⟨t,q⟩:=(show ∃ t,u=Value.float y t from rx);cases q;exact PySem.W.kia_one PySem.W.kitx_float I.kIn True.intro e (fun z=>nomatch z) h
 |@lst a xs ea=>
  cases(show u=Value.ref a from rx)
  obtain⟨_,_,n,_,h1⟩:=(show aM X.prog X.w H s.heap a (.lst xs)from I.hok a _ ea)
  exact PySem.W.kia_one PySem.W.kitx_list I.kIn ⟨_,h1,rfl⟩ e (fun z=>nomatch z) h
 |@frz a ob xs ea=>
  cases(show u=Value.ref a from rx)
  obtain⟨_,_,_,n,_,h1⟩:=(show aM X.prog X.w H s.heap a (.frz ob (.lst xs))from I.hok a _ ea)
  exact PySem.W.kia_one PySem.W.kitx_list I.kIn ⟨_,h1,rfl⟩ e (fun z=>nomatch z) h
 |@tup a xs ea=>
  cases(show u=Value.ref a from rx)
  obtain⟨_,_,_,p⟩:=(show aM X.prog X.w H s.heap a (.tup xs)from I.hok a _ ea)
  obtain⟨o,h1,h2,_⟩:=p;exact PySem.W.kia_one PySem.W.kitx_tuple I.kIn ⟨o,h1,h2⟩ e (fun z=>nomatch z) h
 |@dK a kvs ea=>
  cases(show u=Value.ref a from rx)
  obtain⟨_,_,vs,_,p⟩:=(show aM X.prog X.w H s.heap a (.dK kvs)from I.hok a _ ea)
  obtain⟨o,es,ep,h1,h2,_⟩:=p;exact PySem.W.kia_one PySem.W.kitx_dict I.kIn ⟨o,h1,h2.1⟩ e (fun z=>nomatch z) h
 |@dT a kvs ea=>
  cases(show u=Value.ref a from rx)
  obtain⟨_,_,xs,_,o,es,ep,h1,h2,_⟩:=(show aM X.prog X.w H s.heap a (.dT kvs)from I.hok a _ ea)
  exact PySem.W.kia_one PySem.W.kitx_dict I.kIn ⟨o,h1,h2.1⟩ e (fun z=>nomatch z) h
 |@ins a C dx fs ea cl ha hn htk hm=>
  cases(show u=Value.ref a from rx);obtain⟨mA,O,_⟩:=wM I.hok ea;obtain⟨od,J,_⟩:=O.look;exact PySem.W.kia_one (PySem.W.kitx_own (cl.get _) cl.hd ha hn htk hm) I.kIn J e (fun z=>nomatch z) h
end
structure cm(k:Nat)(A:Around):Prop where
 hd:A.handled=none
 dp:A.depth+3*k+5<recursionLimit
 un:A.units+16*k+200<cLine
def cm.deeper(r:cm (k+1) A)(env:Env):cm k (A.deeper env) :=
 ⟨r.hd,by have:=r.dp;show A.depth+1+3*k+5<_;omega,by have:=r.un;show A.units+3+16*k+200<_;omega⟩
def cm.depth(r:cm k A):A.depth<recursionLimit:=by have:=r.dp;omega
abbrev pd:TA:=fun _ H Q=>Q [] H
abbrev jy(ta:TE)(tr:TA):TA:=fun σ H Q=>ta σ H fun x H1=>tr σ H1 fun xs H2=>Q (x::xs) H2
section
variable{X:Cx}{e:Expr}{es:List Expr}{te:TE}{t:TA}{pos:Pos}
def cB:PA X [] pd:=fun _ _ _ _ H Q I h=>Calls.spliced_nil ⟨[],H,I,.nil,h⟩
def b9(ha:PE X e te)(hr:PA X es t)(hs:starEach (e::es) X.env=(false,eval e X.env)::starEach es X.env):PA X (e::es) (jy te t):=by
 intro pos pins s σ H Q I h;rw[hs];show wpAny _ _ (spliced ((false,eval e X.env)::backTo pos (starEach es X.env))) _ _ s;refine Calls.spliced_cons (thn (ha pins s σ H _ I h) fun u s1 ⟨x,H1,I1,r1,q1⟩=>?_)
 exact thn (hr pos pins s1 σ H1 _ I1 q1) fun us s2 ⟨xs,H2,I2,r2,q2⟩=>⟨x::xs,H2,I2,.cons r1 r2,q2⟩
abbrev DL(t:TA):TE:=fun σ H Q=>t σ H fun xs H1=>xs.length<=sizeLine/\∀ p,H1 p=none->Q (.ref p) (upd H1 p (.tup xs))
abbrev CZ(t:TA):TE:=fun σ H Q=>t σ H fun xs H1=>xs.length<=sizeLine/\∀ p,H1 p=none->Q (.ref p) (upd H1 p (.lst xs))
def A3(h:PA X es t):PE X (.Tuple es x1 pos) (DL t):=by
 intro pins s σ H Q I hq;refine wpAny_Tuple_spliced (thn (h pos pins s σ H _ I hq) fun us s1 ⟨xs,H1,I1,r,z,q⟩=>⟨by rw[<-r.length];exact z,?_⟩);have hf:H1 s1.heap.objs.size=none:=I1.hok.fresh (Nat.le_refl _);refine⟨.ref s1.heap.objs.size,upd H1 s1.heap.objs.size (.tup xs),I1.laid (t':=s1.toks) (fun b u e=>Heap.get?_push_of_some _ e) (Nat.le_refl _) ?_,rfl,q _ hf⟩;exact⟨z,us,r,⟨_,Heap.get?_push_size _ rfl,rfl,_,rfl⟩⟩
def B8(h:PA X es t):PE X (.List es pos) (CZ t):=by
 intro pins s σ H Q I hq;refine wpAny_List_spliced (thn (h pos pins s σ H _ I hq) fun us s1 ⟨xs,H1,I1,r,z,q⟩=>⟨by rw[<-r.length];exact z,?_⟩);have hf:H1 s1.heap.objs.size=none:=I1.hok.fresh (Nat.le_refl _);refine⟨.ref s1.heap.objs.size,upd H1 s1.heap.objs.size (.lst xs),I1.laid (t':=s1.toks) (fun b u e=>Heap.get?_push_of_some _ e) (Nat.le_refl _) ?_,rfl,q _ hf⟩;exact⟨z,us,0,r,Heap.get?_push_size _ rfl⟩
end
@[reducible]noncomputable def Sp:=List V->Hp->VK->XK->Prop
@[reducible]noncomputable def CXT:=List Env->Hp->Shared->XK->Value->Shared->Prop
structure pL(P:Program)(w:World)(K:PySem.W.Frag)(mg:Str->Option Value)(base:Heap)(A:Around)(outer:List Env)(s:Shared)(H:Hp):Prop where
 frames:A.frames=some outer
 mod:Mod K mg base
 bs:∀ b o,base.get? b=some o->s.heap.get? b=some o/\H b=none
 bsz:base.objs.size<=s.heap.objs.size
 e8:s.heap.FunFrames base outer
 frf:∀ b∈frs outer,H b=none
 hok:HOk P w H s.heap
 bare:AllBare s.gens
abbrev CE(outer:List Env)(P:Program)(w:World)(H:Hp)(s:Shared)(Q:VK)(u:Value)(s':Shared):Prop :=
 ∃ v H',s'.os=s.os/\AllBare s'.gens/\Un (frs outer) [] H H' s.heap s'.heap/\HOk P w H' s'.heap/\RelV v u/\Q v H'
abbrev CR(CX:CXT)(outer:List Env)(P:Program)(w:World)(H:Hp)(s:Shared)(Q:VK)(E:XK)(r:Result)(s':Shared):Prop :=
 match r with
 | .ok (.ret u)=>CE outer P w H s Q u s'
 | .ok _=>False
 | .error e=>CX outer H s E e s'
structure eT(P:Program)(w:World)(K:PySem.W.Frag)(mg:Str->Option Value)(base:Heap)(CX:CXT)(k:Nat)(f:Addr)(fd:FuncData)(ps:List Str)(sp:Sp):Prop where
 len:∀ vs H Q E,sp vs H Q E->vs.length=ps.length
 run:∀ (A:Around) (outer:List Env) (s:Shared) (H:Hp) (args:Args) (us:List Value) (vs:List V) (Q:VK) (E:XK),cm k A->pL P w K mg base A outer s H->BindsTo s fd args (ps.zip us)->Vals vs us->sp vs H Q E ->
  codeAny (model P w) A (.call (.ref f) args) (CR CX outer P w H s Q E) s
section
variable{X:Cx}{pins:List (Addr × Obj)}{σ:St}{H:Hp}{s s':Shared}
def Inv.Dq(I:Inv X pins σ H s):pL X.prog X.w X.K X.mg X.base X.A X.stack s H :=
 ⟨I.ok.frames,I.ok.mod,I.bs,Nat.le_trans I.ok.bsz I.sz,I.stack,I.oh,I.hok,I.bare⟩
def Inv.after(I:Inv X pins σ H s)(h:CE X.stack X.prog X.w H s Q u s'):EP X pins σ Q u s':=by
 obtain⟨v,H',os,bare,un,hok,r,q⟩:=h;obtain⟨hh,g,d,t,os'⟩:=s';obtain rfl:os'=s.os:=os;exact⟨v,H',I.call (h':=hh) (g':=g) (d':=d) (t':=t) (ch:=[]) un hok bare (fun b z=>absurd z (by simp)),r,q⟩
end
abbrev l6(sp:Sp)(dvs:List V)(E:XK)(t:TA):TE:=fun σ H Q=>t σ H fun vs H1=>sp (vs++dvs) H1 Q E
abbrev Binds(K:PySem.W.Frag)(fd:FuncData)(ps:List Str)(ds:List Value):Prop :=
 ∀ (s:Shared) (us:List Value),K.In s.heap->(us++ds).length=ps.length->BindsTo s fd ⟨us,[]⟩ (ps.zip (us++ds))
def Binds.all{K:PySem.W.Frag}(h:∀ us:List Value,us.length=ps.length->bindArgs fd ⟨us,[]⟩=pure (ps.zip us)):Binds K fd ps []:=fun s us _ hl=>by
 rw[List.append_nil]at hl ⊢;exact .of_eq (h us hl)
abbrev Passes(CX:CXT)(X:Cx)(E:XK):Prop:=∀ (pins:List (Addr × Obj)) (σ:St) (H:Hp) (s:Shared) (e:Value) (s':Shared),Inv X pins σ H s->CX X.stack H s E e s'->X.xe e s'
section
variable{X:Cx}{CX:CXT}{k:Nat}{f C:Addr}{fd:FuncData}{ps:List Str}{sp:Sp}{dvs:List V}{ds:List Value}{E:XK}{x m:Str}{p pos apos:Pos}{e o:Expr}{es:List Expr}{ta:TE}{t:TA}
def B9(F:eT X.prog X.w X.K X.mg X.base CX k f fd ps sp)(hr:cm k X.A)(hb:Binds X.K fd ps ds)(hd:Vals dvs ds)(hx:Passes CX X E)
 (I:Inv X pins σ H s)(r:Vals vs us)(h:sp (vs++dvs) H Q E):wpAny (model X.prog X.w) X.A (call (.ref f) us) (EP X pins σ Q) X.xe s:=by
 have r2:Vals (vs++dvs) (us++ds):=r.append hd
 have hl:(us++ds).length=ps.length:=by rw[<-r2.length];exact F.len _ _ _ _ h
 refine wpAny_call (codeAny_mono (F.run X.A X.stack s H ⟨us,[]⟩ (us++ds) (vs++dvs) Q E hr I.Dq (hb s us I.kIn hl) r2 h) fun r s' hq=>?_)
 cases r with
 | error e=>exact hx pins σ H s e s' I hq
 |ok fl=>
  cases fl with
  | ret u=>exact I.after hq
  | next=>exact False.elim hq
  | brk=>exact False.elim hq
  | cont=>exact False.elim hq
def nR(F:eT X.prog X.w X.K X.mg X.base CX k f fd ps sp)(hr:cm k X.A)(hg:Gl X x)(hm:X.mg x=some (.ref f))(hk:PySem.W.keepIn X.K (.ref f)=true)(hb:Binds X.K fd ps ds)(hd:Vals dvs ds)(hx:Passes CX X E)
 (ha:PA X (e::es) t)(hdb:(x == ("__debug__" : Str))=false)(he:starEach (e::es) X.env=(false,eval e X.env)::starEach es X.env)(hpl:(backTo pos (starEach es X.env)).any (·.1)=false) :
  PE X (.Call (.Name x p) (e::es) [] pos) (l6 sp dvs E t):=by
 intro pins s σ H Q I h;refine wpAny_Call_Name_kw (oa I hg hm ?_ hdb);refine PySem.W.callWith_K (h₀:=X.base) I.ok.mod.kin hk (thn (ha pos pins s σ H _ I h) fun us s1 ⟨vs,H1,I1,r,q⟩=>⟨I1.kIn,?_⟩) he hpl;exact B9 F hr hb hd hx I1 r q
end
section
variable{X:Cx}{CX:CXT}{k:Nat}{f C:Addr}{fd:FuncData}{ps ks:List Str}{sp:Sp}{E:XK}{x m:Str}{p pos apos kpos:Pos}{e o:Expr}{es:List Expr}{kws:List Keyword}{te ta:TE}{t tk:TA}{nm:Option Str}
variable{g:List Value->List Value->List Value}{gV:List V->List V->List V}
end
structure gY(N P:List Str)(sc:Scope):Prop where
 kind:sc.kind=.function
 co:sc.isCoroutine=false
 gen:sc.isGenerator=false
 nd:N.Nodup
 pre:N.take P.length=P
 par:∀ x∈P,sc.names.lookup x=some .local\/sc.names.lookup x=some .cell
 Bd:∀ y∈sc.names,y.2≠.free
def k8{kindOf:Str->Option NameKind}:∀ {binds:List (Str × Value)} {m:Str->Option Value},(∀ v,(x,v)∉binds)->bindL kindOf binds m x=m x
 | [],_,_=>rfl
 | (n,v)::r,m,h=>by
  unfold bindL;rw[k8 fun w hw=>h w (List.mem_cons_of_mem _ hw)];split
  ·have:x≠n:=by rintro rfl;exact h v List.mem_cons_self
   simp[this]
  ·rfl
def ky{kindOf:Str->Option NameKind}:∀ {binds:List (Str × Value)} {m:Str->Option Value},(∀ v,(x,v)∉binds)->bindC kindOf binds m x=m x
 | [],_,_=>rfl
 | (n,v)::r,m,h=>by
  unfold bindC;rw[ky fun w hw=>h w (List.mem_cons_of_mem _ hw)];split
  ·rfl
  ·have:x≠n:=by rintro rfl;exact h v List.mem_cons_self
   simp[this]
def kF{kindOf:Str->Option NameKind}:∀ {P:List Str} {vs:List Value} {i:Nat} {m:Str->Option Value},P.Nodup->P[i]?=some x->vs[i]?=some v->kindOf x=some .local ->
  bindL kindOf (P.zip vs) m x=some v
 | [],_,_,_,_,h,_,_=>by simp at h
 | _::_,[],_,_,_,_,h,_=>by simp at h
 | p::P,w::vs,0,m,nd,h1,h2,hk=>by
  simp at h1 h2;subst h1;subst h2;show bindL kindOf ((p,w)::P.zip vs) m p=_;unfold bindL;rw[k8 fun v hv=>(List.nodup_cons.mp nd).1 (List.of_mem_zip hv).1,if_pos hk];simp
 | p::P,w::vs,i+1,m,nd,h1,h2,hk=>by
  show bindL kindOf ((p,w)::P.zip vs) m x=_;unfold bindL;exact kF (i:=i) (List.nodup_cons.mp nd).2 (by simpa using h1) (by simpa using h2) hk
def kL{kindOf:Str->Option NameKind}:∀ {P:List Str} {vs:List Value} {i:Nat} {m:Str->Option Value},P.Nodup->P[i]?=some x->vs[i]?=some v->kindOf x≠some .local ->
  bindC kindOf (P.zip vs) m x=some v
 | [],_,_,_,_,h,_,_=>by simp at h
 | _::_,[],_,_,_,_,h,_=>by simp at h
 | p::P,w::vs,0,m,nd,h1,h2,hk=>by
  simp at h1 h2;subst h1;subst h2;show bindC kindOf ((p,w)::P.zip vs) m p=_;unfold bindC;rw[ky fun v hv=>(List.nodup_cons.mp nd).1 (List.of_mem_zip hv).1,if_neg hk];simp
 | p::P,w::vs,i+1,m,nd,h1,h2,hk=>by
  show bindC kindOf ((p,w)::P.zip vs) m x=_;unfold bindC;exact kL (i:=i) (List.nodup_cons.mp nd).2 (by simpa using h1) (by simpa using h2) hk
abbrev start(N:List Str)(vs:List V):St:=vs.map some++List.replicate (N.length-vs.length) none
abbrev iR(CX:CXT)(P:Program)(w:World)(K:PySem.W.Frag)(mg:Str->Option Value)(base:Heap)(N:List Str)(qual:Str)(scope:Scope)(f:Addr)(cd:Value)(A:Around)(outer:List Env)(s:Shared)(H:Hp)(E:XK):Cx where
 prog:=P
 w:=w
 K:=K
 mg:=mg
 base:=base
 A:=A.deeper (envOfC qual scope s.heap.objs.size f cd)
 N:=N
 s₀:=s
 H₀:=H
 env:=envOfC qual scope s.heap.objs.size f cd
 outer:=outer
 stack:=envOfC qual scope s.heap.objs.size f cd::outer
 ex:=[]
 calm:=true
 fn:=fun _=>true
 pn:=[]
 xe:=fun e s'=>wpAny (model P w) (A.deeper (envOfC qual scope s.heap.objs.size f cd)) (leaving (envOfC qual scope s.heap.objs.size f cd) e) (fun _ s''=>CX outer H s E e s'') (fun e' s''=>CX outer H s E e' s'') s'
def mw{sc:Scope}(h:sc.names.lookup x=some .cell):∃ c,(cellsFrom n sc.names []).lookup x=some c:=by
 have q:=PySem.W.cellsFrom_some sc.names n [] (.inl h);exact Option.isSome_iff_exists.mp q
def qz{CX:CXT}{P:Program}{w:World}{K:PySem.W.Frag}{mg:Str->Option Value}{base:Heap}{N ps:List Str}{qual:Str}{scope:Scope}{f:Addr}{cd:Value}{A:Around}{outer:List Env}{s s1:Shared}{H:Hp}{E:XK}{us:List Value}{vs:List V}
 (S:gY N ps scope)(hd:A.handled=none)(e0:pL P w K mg base A outer s H)(hl:vs.length=ps.length)(r:Vals vs us)
 (x:InCallC s s.heap.objs.size (bindL (envOfC qual scope s.heap.objs.size f cd).kindOf (ps.zip us) fun _=>none) (cellsFrom (s.heap.objs.size+1) scope.names []) (bindC (envOfC qual scope s.heap.objs.size f cd).kindOf (ps.zip us) fun _=>none) s1) :
  Inv (iR CX P w K mg base N qual scope f cd A outer s H E) [] (start N vs) H s1:=by
 have hpl:ps.length<=N.length:=by have:=congrArg List.length S.pre;rw[List.length_take]at this;omega
 obtain⟨h1,tk,rfl,hk⟩:=x.done;have noA:∀ b:Addr,b∉(iR CX P w K mg base N qual scope f cd A outer s H E).ex:=fun b z=>absurd (show b∈([]:List Addr)from z) (by simp)
 refine⟨⟨e0.mod,S.kind,rfl,rfl,Nat.le_refl _,fun y z c h1 h2=>?_,fun y hy=>?_,fun y c _ h=>?_,⟨fun _=>hd,.inl hd⟩,Around.frames_deeper e0.frames,.inr ⟨rfl,rfl⟩,fun b z=>absurd z (noA b),e0.bs,e0.bsz,fun b _ _=>noA b,fun b z=>absurd z (noA b),e0.e8,e0.frf⟩,
  rfl,e0.bare,Un.kept hk,⟨_,x.toInCall.ns,fun i y v h1 h2 h3=>?_⟩,fun y c h=>⟨_,x.cell y c h⟩,e0.hok.fresh (Nat.le_refl _),fun y c h=>?_,fun p hp=>absurd (show p∈([]:List (Addr × Obj))from hp) (by simp),e0.hok.kept hk,?_⟩
 ·exact name_of_addr x.apart (PySem.mem_of_lookup h1) (PySem.mem_of_lookup h2)
 ·have hy:scope.names.lookup y=some .cell\/scope.names.lookup y=some .free:=hy;rcases hy with hy | hy
  ·exact mw hy
  ·exact absurd rfl (S.Bd _ (PySem.mem_of_lookup hy))
 ·exact Nat.le_of_lt (x.above y c (PySem.mem_of_lookup h))
 ·have hi:i<vs.length:=by
   unfold start at h2;by_cases hi:i<vs.length
   ·exact hi
   ·rw[List.getElem?_append_right (by simpa using hi)]at h2;rw[List.getElem?_replicate]at h2;split at h2<;>cases h2
  have ha:vs[i]?=some v:=by
   unfold start at h2;rw[List.getElem?_append_left (by simpa using hi),List.getElem?_map]at h2
   cases e:vs[i]? with
   | none=>rw[e]at h2;cases h2
   | some a=>rw[e]at h2;cases h2;rfl
  obtain⟨u,hu,rv⟩:=r.get ha
  have hp:ps[i]?=some y:=by
   rw[<-S.pre,List.getElem?_take_of_lt (by omega)];exact h1
  have ndP:ps.Nodup:=by rw[<-S.pre];exact S.nd.sublist (List.take_sublist _ _)
  refine⟨u,rv,?_⟩;rcases S.par y (List.mem_of_getElem? hp)with k | k
  ·exact .inl ⟨k,kF ndP hp hu k⟩
  ·obtain⟨c,e⟩:=mw (n:=s.heap.objs.size+1) k;refine .inr ⟨.inl k,c,e,?_⟩;have q:=x.cell y c e;rw[kL ndP hp hu (by show scope.names.lookup y≠_;rw[k];decide)]at q;exact q
 ·exact e0.hok.fresh (Nat.le_of_lt (x.above y c (PySem.mem_of_lookup h)))
 ·unfold start;show _=N.length;rw[List.length_append,List.length_map,List.length_replicate];omega
def CL{CX:CXT}{P:Program}{w:World}{K:PySem.W.Frag}{mg:Str->Option Value}{base:Heap}{k:Nat}{f:Addr}{name qual:Str}{params:Arguments}{body:List Stmt}{scope:Scope}{dV kV doc pm cdv ct oc:Value}{an od:Option Addr}
 {osl:Array (Option Value)}{N ps:List Str}{sp:Sp}(lk:K.lookup f=some ⟨oc,od,.func (PySem.W.fnOf name qual params body scope dV kV doc pm an cdv ct),osl⟩)(hcd:PySem.W.codeIn K cdv qual=true)(S:gY N ps scope)
 (len:∀ vs H Q E,sp vs H Q E->vs.length=ps.length)
 (hbody:∀ (A:Around) (outer:List Env) (s:Shared) (H:Hp) (vs:List V) (Q:VK) (E:XK),cm k (A.deeper (envOfC qual scope s.heap.objs.size f cdv))->sp vs H Q E ->
   ∃ t,PSs (iR CX P w K mg base N qual scope f cdv A outer s H E) body t/\t { nx:=fun _ H'=>Q .non H',rt:=Q } (start N vs) H) :
  eT P w K mg base CX (k+1) f (PySem.W.fnOf name qual params body scope dV kV doc pm an cdv ct) ps sp:=by
 refine⟨len,fun A outer s H args us vs Q E hr e0 hb r hsp=>?_⟩;have hl:=len _ _ _ _ hsp;have KX:K.In s.heap:=e0.mod.kin.keeps fun b o e=>(e0.bs b o e).1;have lim:s.heap.NoLimit:=e0.mod.nolimit.keeps fun b o e=>(e0.bs b o e).1
 have hkind:∀ y∈ps.zip us,scope.names.lookup y.1=some .local\/(scope.names.lookup y.1=some .cell/\((cellsFrom (s.heap.objs.size+1) scope.names []).lookup y.1).isSome=true):=fun⟨n,v⟩ hy=>by
  rcases S.par n (List.of_mem_zip hy).1 with q | q
  ·exact .inl q
  ·exact .inr ⟨q,PySem.W.cellsFrom_some _ _ _ (.inl q)⟩
 refine codeAny_call_function hr.depth (KX _ _ lk) rfl S.co S.gen rfl (PySem.W.codeRec_of KX hcd) (hb _ _ _ _ ?_);refine wpAny_newFunctionEnv_cells S.kind hkind fun env he s1 x=>?_;subst he;refine⟨lim.keeps x.toInCall.keep,codeAny_func ?_⟩;obtain⟨t,ht,hq⟩:=hbody A outer s H vs Q E (hr.deeper _) hsp;have I:Inv (iR CX P w K mg base N qual scope f cdv A outer s H E) [] (start N vs) H s1:=qz S hr.hd e0 hl r x;refine wpAny_mono (ht [] s1 (start N vs) H _ I hq) (fun fl s' hs=>?_) fun e s' hs=>hs
 have fin:∀ {σ':St} {H':Hp} {v:V} {u:Value},Inv (iR CX P w K mg base N qual scope f cdv A outer s H E) [] σ' H' s'->RelV v u->Q v H'->CE outer P w H s Q u s' :=
  fun {σ' H' v u} J rv q=>⟨v,H',J.os,J.bare,J.base,J.hok,rv,q⟩
 cases fl with
 |ret u=>
  obtain⟨v,σ',H',J,rv,q⟩:=hs;exact fin J rv q
 |next=>
  obtain⟨σ',H',J,q⟩:=hs;exact fin (v:=V.non) (u:=Value.none) J rfl q
 |brk=>
  obtain⟨_,_,_,q⟩:=hs;exact False.elim q
 |cont=>
  obtain⟨_,_,_,q⟩:=hs;exact False.elim q
section
variable{X:Cx}{x:Str}{p pos:Pos}{e:Expr}{es:List Expr}{t:TA}{id T:String}{r:List V->Hp->VK->Prop}
abbrev tCB(r:List V->Hp->VK->Prop)(t:TA):TE:=fun σ H Q=>t σ H fun vs H1=>r vs H1 Q
def dQ(hc:aH X (.builtin id) r)(hg:Gl X x)(hm:X.mg x=none)(hv:bootBuiltins x=some (.builtin id))(ha:PA X (e::es) t)(hn:x ≠ "__name__")(hdb:(x == ("__debug__" : Str))=false)
 (he:starEach (e::es) X.env=(false,eval e X.env)::starEach es X.env)(hpl:(backTo pos (starEach es X.env)).any (·.1)=false):PE X (.Call (.Name x p) (e::es) [] pos) (tCB r t):=by
 intro pins s σ H Q I h;refine wpAny_Call_Name_kw (dN I hg hm hv ?_ hn hdb);exact PyProof.Rows.callWith_builtin1 (thn (ha pos pins s σ H _ I h) fun us s1 ⟨vs,H1,I1,r1,q1⟩=>hc pins s1 σ H1 vs us Q I1 r1 q1) he hpl
def bC(hc:aH X (.type T) r)(hg:Gl X x)(hm:X.mg x=none)(hv:bootBuiltins x=some (.type T))(ha:PA X (e::es) t)(hn:x ≠ "__name__")(hdb:(x == ("__debug__" : Str))=false)
 (he:starEach (e::es) X.env=(false,eval e X.env)::starEach es X.env)(hpl:(backTo pos (starEach es X.env)).any (·.1)=false):PE X (.Call (.Name x p) (e::es) [] pos) (tCB r t):=by
 intro pins s σ H Q I h;refine wpAny_Call_Name_kw (dN I hg hm hv ?_ hn hdb);exact PyProof.Rows.callWith_type1 (thn (ha pos pins s σ H _ I h) fun us s1 ⟨vs,H1,I1,r1,q1⟩=>hc pins s1 σ H1 vs us Q I1 r1 q1) he hpl
end
end L2
namespace HT
open PySem PyProof.Rows
section
open PySem.SeqAt
open PySem.AutoSeq1 (wpAny_loadPart')
open PySem.MeetsSeq PySem.MeetsSeq2 PySem.MeetsSeq3
end
section
variable{prog:Program}{w:World}{A:Around}{E:Value->Shared->Prop}{s:Shared}
def xc(ht:IsTup s.heap t vs.toArray)(hb:IsTup s.heap b ws.toArray)(hv:vs≠[])
 (h1:ws=[]->Q (.ref t) s)(h2:ws≠[]->Q (.ref s.heap.objs.size) { s with heap:=s.heap.push { cls:=.type "tuple",data:=.seq (vs++ws).toArray } })
 (hsz:vs.length+ws.length<=sizeLine):wpAny (model prog w) A (binaryOp .Add (.ref t) (.ref b)) Q E s:=by
 obtain⟨⟨cls,dd,data,sl⟩,ho,hc,n,hd⟩:=id ht;obtain⟨⟨cls2,dd2,data2,sl2⟩,ho2,hc2,n2,hd2⟩:=id hb;simp only at hc hd hc2 hd2;subst hc hd hc2 hd2
 have e:vs.toArray++ws.toArray=(vs++ws).toArray:=by simp
 by_cases hw:ws=[]
 ·exact concat_meets ⟨_,ho,rfl⟩ ⟨_,ho2,rfl⟩ noFill_tuple_add seq_tuple_add PySem.F.slot_tuple_add PySem.F.entry_tuple_add (PySem.F.args_tuple_add_2 _ _)
   (tuple_addW1 t b vs.toArray ws.toArray n n2 dd dd2 sl sl2 (by simpa using hv) (by simp[hw])) ⟨ho,ho2,h1 hw⟩
 ·refine concat_meets ⟨_,ho,rfl⟩ ⟨_,ho2,rfl⟩ noFill_tuple_add seq_tuple_add PySem.F.slot_tuple_add PySem.F.entry_tuple_add (PySem.F.args_tuple_add_2 _ _)
   (tuple_addW2 t b vs.toArray ws.toArray n n2 dd dd2 sl sl2 (by simpa using hv) (by simpa using hw) (by rw[List.size_toArray,List.size_toArray];exact hsz)) ⟨ho,ho2,?_⟩
  rw[e];exact h2 hw
abbrev sIx(n d:Nat):Option Int->Nat
 | none=>d
 | some v=>if v<0 then(v+(n:Int)).toNat else min v.toNat n
def sV(n d:Nat):sIx n d none=d:=rfl
def yX(n d:Nat)(hd:d<=n)(o:Option Int):sIx n d o<=n:=by
 cases o with
 | none=>exact hd
 |some v=>
  show(if v<0 then(v+(n:Int)).toNat else min v.toNat n)<=n;by_cases hv:v<0
  ·rw[if_pos hv];omega
  ·rw[if_neg hv];exact Nat.min_le_right _ _
def gU(v:Int)(n d:Nat):(if v<0 then max (v+(n:Int)) 0 else min v (n:Int))=((sIx n d (some v):Nat):Int):=by
 show(if v<0 then max (v+(n:Int)) 0 else min v (n:Int))=(((if v<0 then(v+(n:Int)).toNat else min v.toNat n):Nat):Int);by_cases hv:v<0
 ·simp only[if_pos hv];omega
 ·simp only[if_neg hv];omega
def pD(lo hi:Option Int)(n:Nat):Builtin.Slice.sliceAdjust lo hi 1 (n:Int)=(((sIx n 0 lo:Nat):Int),((sIx n n hi:Nat):Int)):=by
 have h1:¬ ((1:Int)<0):=by omega
 unfold Builtin.Slice.sliceAdjust;simp only[h1,if_false];refine Prod.ext ?_ ?_
 ·cases lo with
  | none=>rfl
  | some v=>exact gU v n 0
 ·cases hi with
  | none=>rfl
  | some v=>exact gU v n n
def pC(i j:Nat):Builtin.Slice.slicePlaces (i:Int) (j:Int) 1=j-i:=by
 unfold Builtin.Slice.slicePlaces
 have h1:(1:Int) > 0:=by omega
 simp only[h1,if_true,Int.ediv_one];split<;>omega
def cA(p:IsPart v o)(h:Q o s):wpAny (model prog w) A (Builtin.Slice.slicePartIndex v) Q E s:=by
 cases p with
 | none=>exact slicePart_none h
 | int i t=>exact slicePart_int h
def ja{sl:Addr}{vl vu:Value}{lo hi:Option Int}{n:Nat}{Q:Int × Int × Nat->Shared->Prop}(hs:s.heap.IsSliceOf sl vl vu .none)(pl:IsPart vl lo)(pu:IsPart vu hi)
 (h:Q (((sIx n 0 lo:Nat):Int),1,sIx n n hi-sIx n 0 lo) s):wpAny (model prog w) A (Builtin.Slice.sliceApplied (.ref sl) (pure (n:Int))) Q E s:=by
 obtain⟨os,hos,hcs,hds⟩:=id hs;unfold Builtin.Slice.sliceApplied Builtin.Slice.sliceFields;refine wpAny_bind (wpAny_bind (wpAny_field hos hds (x:=vl) rfl (wpAny_bind (wpAny_field hos hds (x:=vu) rfl (wpAny_bind (wpAny_field hos hds (x:=.none) rfl (wpAny_pure ?_)))))));refine wpAny_bind (slicePart_none ?_);show wpAny _ _ (if((1:Int) == 0)=true then _ else _) _ _ s;rw[if_neg (by decide)];refine wpAny_bind (cA pl (wpAny_bind (cA pu (wpAny_bind (wpAny_pure ?_)))));show wpAny _ _ (match Builtin.Slice.sliceAdjust lo hi 1 (n:Int)with | (lo,hi)=>pure (lo,(1:Int),Builtin.Slice.slicePlaces lo hi 1)) _ _ s;rw[pD lo hi n];show wpAny _ _ (pure (((sIx n 0 lo:Nat):Int),(1:Int),Builtin.Slice.slicePlaces ((sIx n 0 lo:Nat):Int) ((sIx n n hi:Nat):Int) 1)) _ _ s;rw[pC];exact wpAny_pure h
def tH(xs:Array Value)(i k:Nat):((List.range k).filterMap fun(m:Nat)=>xs[((i:Int)+(m:Int)*1).toNat]?).toArray=((xs.toList.drop i).take k).toArray:=by
 have e:(fun(m:Nat)=>xs[((i:Int)+(m:Int)*1).toNat]?)=fun m=>xs[i+m]?:=by
  funext m
  have:((i:Int)+(m:Int)*1).toNat=i+m:=by omega
  rw[this]
 rw[e];have:=pick_run xs i k;rw[List.filterMap_map]at this;have e2:((fun x=>xs[x]?) ∘ fun x=>i+x)=fun m=>xs[i+m]?:=rfl;rw[e2]at this;rw[this]
def i6{t sl:Addr}{items:Array Value}{vl vu:Value}{lo hi:Option Int}{Q:Value->Shared->Prop}(ht:IsTup s.heap t items)(hs:s.heap.IsSliceOf sl vl vu .none)(pl:IsPart vl lo)(pu:IsPart vu hi)
 (hw:¬ (sIx items.size 0 lo=0/\sIx items.size items.size hi=items.size))
 (h:Q (.ref s.heap.objs.size) { s with heap:=s.heap.push { cls:=.type "tuple",data:=.seq ((items.toList.drop (sIx items.size 0 lo)).take (sIx items.size items.size hi-sIx items.size 0 lo)).toArray } })
 (hsz:items.size<=sizeLine):wpAny (model prog w) A (getItem (.ref t) (.ref sl)) Q E s:=by
 have htake:sizeOk (.seq ((items.toList.drop (sIx items.size 0 lo)).take (sIx items.size items.size hi-sIx items.size 0 lo)).toArray):=by
  show((items.toList.drop (sIx items.size 0 lo)).take (sIx items.size items.size hi-sIx items.size 0 lo)).toArray.size<=sizeLine;rw[List.size_toArray,List.length_take,List.length_drop,Array.length_toList];omega
 have hj:sIx items.size items.size hi<=items.size:=yX _ _ (Nat.le_refl _) hi;obtain⟨os,hos,hcs,hds⟩:=id hs
 have hTs:s.TypeIs (.ref sl) "slice" := ⟨os,hos,hcs⟩
 unfold getItem
 try with_reducible refine wpAny_holding ?_
 first | refine wpAny_bind (wpAny_pure ?_) | skip
 refine wpAny_bind (wpAny_sequenceKey ht.typeIs (by decide) ?_)
 refine wpAny_bind (wpAny_callSpecial?_slot (name:=Str.ofString "__getitem__") ht.typeIs PyProof.Rows.slot_tuple_getitem
  (wpAny_call_entry PyProof.Rows.slot_tuple_getitem ht.typeIs entry_tuple_getitem ?_ (args_tuple_getitem _ _)))
 show wpAny _ _ (Builtin.Tuple.tupleItemsOf (.ref t) >>= _) _ _ s;refine wpAny_bind (tupleItemsOf_ ht ?_);refine wpAny_bind (wpAny_typeOf hTs ?_);rw[if_pos (by decide)];refine wpAny_bind (ja hs pl pu ?_)
 have hno:¬ ((((sIx items.size 0 lo:Nat):Int) == 0&&(1:Int) == 1&&(sIx items.size items.size hi-sIx items.size 0 lo) == items.size)=true):=by
  intro q;rw[Bool.and_eq_true,Bool.and_eq_true]at q;have q1:((sIx items.size 0 lo:Nat):Int)=0:=eq_of_beq q.1.1;have q2:sIx items.size items.size hi-sIx items.size 0 lo=items.size:=eq_of_beq q.2;exact hw ⟨by omega,by omega⟩
 show wpAny _ _ (if(((sIx items.size 0 lo:Nat):Int) == 0&&(1:Int) == 1&&(sIx items.size items.size hi-sIx items.size 0 lo) == items.size)=true then _ else _) _ _ s;rw[if_neg hno,tH]
 first
  | exact wpAny_bind (m:=Builtin.Tuple.tupleExact _) (wpAny_newObj_type (wpAny_pure ⟨_,rfl,wpAny_pure h⟩) htake)
  | exact wpAny_bind (m:=Builtin.Tuple.tupleExact _) (wpAny_newObj_type (wpAny_bind (wpAny_pure (wpAny_pure ⟨_,rfl,wpAny_pure h⟩))) htake)
  | exact wpAny_bind (wpAny_bind (m:=Builtin.Tuple.tupleExact _) (wpAny_newObj_type (wpAny_pure (wpAny_pure ⟨_,rfl,wpAny_pure h⟩)) htake))
  | exact wpAny_bind (wpAny_bind (m:=Builtin.Tuple.tupleExact _) (wpAny_newObj_type (wpAny_pure ⟨_,rfl,wpAny_pure h⟩) htake))
end
end HT
namespace L2
open PySem PySem.Spec PyProof.Rows
@[reducible]noncomputable def TO:=St->Hp->(Option Int->Hp->Prop)->Prop
abbrev PO(X:Cx)(e:Option Expr)(t:TO):Prop :=
 ∀ (pins:List (Addr × Obj)) (s:Shared) (σ:St) (H:Hp) (Q:Option Int->Hp->Prop),Inv X pins σ H s->t σ H Q ->
  wpAny (model X.prog X.w) X.A (evalPart e X.env) (fun u s'=>∃ o H',Inv X pins σ H' s'/\IsPart u o/\Q o H') X.xe s
abbrev x9:TO:=fun _ H Q=>Q none H
abbrev Cw(t:TE):TO:=fun σ H Q=>t σ H fun x H1=>∃ i,x=.int i/\Q (some i) H1
def intsAre_of:∀ {us:List Value},Vals (ns.map V.int) us->IntsAre us ns:=by
 induction ns with
 | nil=>intro us r;rw[List.map_nil]at r;cases r;exact .nil
 |cons n ns ih=>
  intro us r;rw[List.map_cons]at r
  cases r with
  |cons r1 r2=>
   obtain⟨t,e⟩:=r1;subst e;exact .cons n t (ih r2)
section
variable{X:Cx}{e:Expr}{te:TE}{lo hi:Option Expr}{tl th:TO}{pos p2:Pos}
def xJ:PO X none x9:=by
 intro pins s σ H Q I h;rw[evalPart_none];exact wpAny_pure ⟨none,H,I,.none,h⟩
def wJ(h:PE X e te):PO X (some e) (Cw te):=by
 intro pins s σ H Q I hw;rw[evalPart_some];refine thn (h pins s σ H _ I hw) fun u s1 ⟨x,H1,I1,r1,q1⟩=>?_;obtain⟨i,rfl,q⟩:=q1;obtain⟨t,rfl⟩:=r1;exact⟨some i,H1,I1,.int i t,q⟩
abbrev SlR(X:Cx)(r:V->Option Int->Option Int->Hp->VK->Prop):Prop :=
 ∀ (pins:List (Addr × Obj)) (s:Shared) (σ:St) (H:Hp) (x:V) (v vl vu:Value) (lo hi:Option Int) (sl:Addr) (Q:VK),Inv X pins σ H s->RelV x v->s.heap.IsSliceOf sl vl vu .none->IsPart vl lo->IsPart vu hi->r x lo hi H Q ->
  ∃ T id,typeLookup (.type T) "__getitem__" = pure (some (.builtin id))/\s.TypeIs v T/\wpAny (model X.prog X.w) X.A (getItem v (.ref sl)) (EP X pins σ Q) X.xe s
def SlR.or(h:SlR X r)(h':SlR X r'):SlR X (fun x lo hi H Q=>r x lo hi H Q\/r' x lo hi H Q):=by
 intro pins s σ H x v vl vu lo hi sl Q I rx hs pl pu q;rcases q with q | q
 ·exact h pins s σ H x v vl vu lo hi sl Q I rx hs pl pu q
 ·exact h' pins s σ H x v vl vu lo hi sl Q I rx hs pl pu q
abbrev tSl(r:V->Option Int->Option Int->Hp->VK->Prop)(te:TE)(tl th:TO):TE:=fun σ H Q=>te σ H fun x H1=>tl σ H1 fun l H2=>th σ H2 fun u H3=>r x l u H3 Q
def vx(hr:SlR X r)(he:PE X e te)(hl:PO X lo tl)(hu:PO X hi th):PE X (.Subscript e (.Slice lo hi none p2) pos) (tSl r te tl th):=by
 intro pins s σ H Q I h;refine Subscript_ (thn (he pins s σ H _ I h) fun v s1 ⟨x,H1,I1,r1,q1⟩=>?_);refine wpAny_Slice (thn (hl pins s1 σ H1 _ I1 q1) fun vl s2 ⟨l,H2,I2,pl,q2⟩=>thn (hu pins s2 σ H2 _ I2 q2) fun vu s3 ⟨u,H3,I3,pu,q3⟩=>?_);rw[evalPart_none];refine wpAny_pure ?_;have I4:Inv X pins σ H3 { s3 with heap:=s3.heap.push { cls:=.type "slice",data:=.fields #[vl,vu,.none] } }:=I3.kept (t':=s3.toks) fun b ob q=>Heap.get?_push_of_some _ q;obtain⟨T,id,hT,ht,hg⟩:=hr pins { s3 with heap:=s3.heap.push { cls:=.type "slice",data:=.fields #[vl,vu,.none] } } σ H3 x v vl vu l u s3.heap.objs.size Q I4 r1 (Heap.IsSliceOf.new ..) pl pu q3;show wpAny (model X.prog X.w) X.A (subscriptTail e (.Slice lo hi none p2) v (.ref s3.heap.objs.size)) (EP X pins σ Q) X.xe { s3 with heap:=s3.heap.push { cls:=.type "slice",data:=.fields #[vl,vu,.none] } };exact tail_any (ops:=[.ref s3.heap.objs.size,v]) ht hT hg (by with_unfolding_all rfl)
abbrev fP(xs:List V)(lo hi:Option Int):List V:=(xs.drop (HT.sIx xs.length 0 lo)).take (HT.sIx xs.length xs.length hi-HT.sIx xs.length 0 lo)
def iB(xs:List V)(lo hi:Option Int):(fP xs lo hi).length<=xs.length:=by
 unfold fP;rw[List.length_take,List.length_drop];omega
abbrev Dm(K:PySem.W.Frag):V->Option Int->Option Int->Hp->VK->Prop:=fun x lo hi H Q=>∃ a xs,x=.ref a/\SqT K H a xs /\
 ¬ (HT.sIx xs.length 0 lo=0/\HT.sIx xs.length xs.length hi=xs.length)/\∀ p,H p=none->Q (.ref p) (upd H p (.tup (fP xs lo hi)))
def zA:SlR X (Dm X.K):=by
 intro pins s σ H x v vl vu lo hi sl Q I rx hs pl pu h;obtain⟨a,xs,rfl,hx,hw,q⟩:=h;cases rx;obtain⟨its,r,ht,hz⟩:=I.tuple hx
 have hlen:its.toArray.size=xs.length:=by rw[List.size_toArray];exact r.length.symm
 refine⟨"tuple",_,PyProof.Rows.slot_tuple_getitem.lookup,ht.typeIs,?_⟩;refine HT.i6 ht hs pl pu (by rw[hlen];exact hw) ?_ (by rw[hlen];exact hz);rw[hlen];refine⟨.ref s.heap.objs.size,_,I.laid (t':=s.toks) (o:=.tup (fP xs lo hi)) (fun b ob q=>Heap.get?_push_of_some _ q) (Nat.le_refl _) ?_,rfl,q _ (I.hok.fresh (Nat.le_refl _))⟩;exact⟨Nat.le_trans (iB xs lo hi) hz,_,(r.drop (HT.sIx xs.length 0 lo)).take (HT.sIx xs.length xs.length hi-HT.sIx xs.length 0 lo),IsTup.new _ _⟩
abbrev CK(K:PySem.W.Frag):R2:=fun x y H Q=>∃ a b xs ys,x=.ref a/\y=.ref b/\SqT K H a xs/\SqT K H b ys/\xs≠[]/\xs.length+ys.length<=sizeLine /\
 (ys=[]->Q (.ref a) H)/\(ys≠[]->∀ p,H p=none->Q (.ref p) (upd H p (.tup (xs++ys))))
def Vals.kf(r:Vals xs us):us=[]↔xs=[]:=by
 cases r with
 | nil=>simp
 | cons _ _=>simp
def xi:OpR X (binaryOp .Add) (CK X.K):=by
 intro pins s σ H x y v u Q I rx ry h;obtain⟨a,b,xs,ys,rfl,rfl,ha,hb,hx,hz,q1,q2⟩:=h;cases rx;cases ry;obtain⟨its,r1,p1,_⟩:=I.tuple ha;obtain⟨its2,r2,p2,_⟩:=I.tuple hb;refine HT.xc p1 p2 (fun z=>hx (r1.kf.mp z)) (fun z=>⟨.ref a,H,I,rfl,q1 (r2.kf.mp z)⟩) (fun z=>?_) (by rw[<-r1.length,<-r2.length];exact hz);refine⟨.ref s.heap.objs.size,_,I.laid (t':=s.toks) (o:=.tup (xs++ys)) (fun b ob q=>Heap.get?_push_of_some _ q) (Nat.le_refl _) ?_,rfl,q2 (fun w=>z (r2.kf.mpr w)) _ (I.hok.fresh (Nat.le_refl _))⟩;exact⟨by rw[List.length_append];exact hz,_,r1.append r2,IsTup.new _ _⟩
end
abbrev ixN(n:Nat)(i:Int):Option Nat:=if 0<=i then(if i<n then some i.toNat else none)else if -(n:Int)<=i then some (i+n).toNat else none
abbrev atI(xs:List α)(i:Int):Option α:=(ixN xs.length i).bind fun j=>xs[j]?
def oD(h:ixN n i=some j):seqIndex? i n=some j/\j<n/\-(n:Int)<=i/\i<n:=by
 unfold ixN at h;by_cases h0:0<=i
 ·rw[if_pos h0]at h;by_cases h1:i<n
  ·rw[if_pos h1]at h;have e:i.toNat=j:=Option.some.inj h;exact⟨by rw[seqIndex_of h0 h1,e],by omega,by omega,h1⟩
  ·rw[if_neg h1]at h;cases h
 ·rw[if_neg h0]at h;by_cases h1:-(n:Int)<=i
  ·rw[if_pos h1]at h;have e:(i+n).toNat=j:=Option.some.inj h;exact⟨by rw[seqIndex_neg (by omega) h1,e],by omega,h1,by omega⟩
  ·rw[if_neg h1]at h;cases h
def jH(h:atI xs i=some v):∃ j,seqIndex? i xs.length=some j/\xs[j]?=some v/\j<xs.length/\-(xs.length:Int)<=i/\i<xs.length:=by
 unfold atI at h
 cases e:ixN xs.length i with
 | none=>rw[e]at h;cases h
 |some j=>
  rw[e]at h;obtain⟨h1,h2,h3,h4⟩:=oD e;exact⟨j,h1,h,h2,h3,h4⟩
abbrev oP(b:Expr):Prop:=∀ o i,subscripted b false o i=operate [o,i] (getItem o i)
abbrev IxR(X:Cx)(r:R2):Prop :=
 ∀ (value slice:Expr) (pins:List (Addr × Obj)) (s:Shared) (σ:St) (H:Hp) (x y:V) (v u:Value) (Q:VK),Inv X pins σ H s->RelV x v->RelV y u->r x y H Q ->
  subscripted slice false v u=operate [v,u] (getItem v u)->wpAny (model X.prog X.w) X.A (subscriptTail value slice v u) (EP X pins σ Q) X.xe s
abbrev MtR(X:Cx)(id:String)(r:V->List V->Hp->VK->Prop):Prop :=
 ∀ (pins:List (Addr × Obj)) (s:Shared) (σ:St) (H:Hp) (x:V) (xs:List V) (v:Value) (us:List Value) (Q:VK),Inv X pins σ H s->RelV x v->Vals xs us->r x xs H Q ->
  wpAny (model X.prog X.w) X.A (call (.builtin id) (v::us)) (EP X pins σ Q) X.xe s
section
variable{X:Cx}{a b:Expr}{ta tb:TE}{pos:Pos}
def IxR.or(h:IxR X r)(h':IxR X r'):IxR X (fun x y H Q=>r x y H Q\/r' x y H Q):=by
 intro value slice pins s σ H x y v u Q I rx ry q hs;rcases q with q | q
 ·exact h value slice pins s σ H x y v u Q I rx ry q hs
 ·exact h' value slice pins s σ H x y v u Q I rx ry q hs
def CG{r:R2}(hr:IxR X r)(ha:PE X a ta)(hb:PE X b tb)(hs:oP b):PE X (.Subscript a b pos) (tOp r ta tb):=by
 intro pins s σ H Q I h;exact Subscript_ (uj ha hb I h fun v u s2 x y H2 I2 rx ry q=>hr a b pins s2 σ H2 x y v u Q I2 rx ry q (hs _ _))
abbrev yx(K:PySem.W.Frag):R2:=fun x y H Q=>∃ p xs i v,x=.ref p/\y=.int i/\SqL K H p xs/\atI xs i=some v/\Q v H
abbrev yY(K:PySem.W.Frag):R2:=fun x y H Q=>∃ p xs i v,x=.ref p/\y=.int i/\SqT K H p xs/\atI xs i=some v/\Q v H
abbrev Ai:R2:=fun x y H Q=>∃ z i c,x=.str z/\y=.int i/\z.length<=sizeLine/\atI z.cps.toList i=some c/\Q (.str ⟨#[c]⟩) H
def wH:IxR X (yx X.K):=by
 intro value slice pins s σ H x y v u Q I rx ry h hs;obtain⟨p,xs,i,z,rfl,rfl,hq,he,q⟩:=h;cases rx;obtain⟨t,rfl⟩:=ry;obtain⟨its,r,pl,hz⟩:=I.list hq;obtain⟨j,h1,h2,h3,h4,h5⟩:=jH he;obtain⟨w,ew,rw'⟩:=r.get h2;have hl:=r.length;have hn:=fu
 have fin:EP X pins σ Q w s:=⟨z,H,I,rw',q⟩
 by_cases h0:0<=i
 ·have hj:i.toNat=j:=by
   rw[seqIndex_of h0 h5]at h1;exact Option.some.inj h1
  exact item_listR pl.isList h0 (by omega) (by rw[hj];simpa using ew) fin hs
 ·have hj:(i+(its.toArray.size:Int)).toNat=j:=by
   rw[seqIndex_neg (by omega) h4]at h1;rw[List.size_toArray,<-hl];exact Option.some.inj h1
  exact subscriptTail_builtinR (x:=w) pl.isList.typeIs slot_list_getitem.lookup
   (wpAny_getItem_list_neg (Q:=fun r s'=>r=w/\EP X pins σ Q r s') pl.isList (by omega) (by rw[List.size_toArray]<;>omega) (by omega) (by rw[hj];simpa using ew) ⟨rfl,fin⟩) hs
def fB:IxR X (yY X.K):=by
 intro value slice pins s σ H x y v u Q I rx ry h hs;obtain⟨p,xs,i,z,rfl,rfl,hq,he,q⟩:=h;cases rx;obtain⟨t,rfl⟩:=ry;obtain⟨its,r,pl,hz⟩:=I.tuple hq;obtain⟨j,h1,h2,h3,h4,h5⟩:=jH he;obtain⟨w,ew,rw'⟩:=r.get h2;have hl:=r.length;have hn:=fu
 have fin:EP X pins σ Q w s:=⟨z,H,I,rw',q⟩
 exact subscriptTail_builtinR (x:=w) pl.typeIs slot_tuple_getitem.lookup
  (getItem_tuple (j:=j) (Q:=fun r s'=>r=w/\EP X pins σ Q r s') pl (by omega) (by omega) (by rw[List.size_toArray,<-hl];exact h1) (by simpa using ew) ⟨rfl,fin⟩) hs
def AI:IxR X Ai:=by
 intro value slice pins s σ H x y v u Q I rx ry h hs;obtain⟨z,i,c,rfl,rfl,hz,he,q⟩:=h;obtain⟨t,rfl⟩:=rx;obtain⟨t',rfl⟩:=ry;obtain⟨j,h1,h2,h3,h4,h5⟩:=jH he
 have hl:z.cps.toList.length=z.length:=by simp[Str.length]
 rw[hl]at h1 h4 h5;have hn:=fu
 exact tail_any (typeIs_str s z t) slot_str_getitem.lookup (getItem_str (c:=c) (by
  have e1:decide (i < -(2 ^ 63:Int))=false:=decide_eq_false (by omega);have e2:decide (i≥2 ^ 63)=false:=decide_eq_false (by omega)
  rw[e1,e2,Bool.or_false]) (by rw[h1];simpa using h2) ⟨.str ⟨#[c]⟩,H,I.tok _,⟨_,rfl⟩,q⟩) hs
abbrev rIx(K:PySem.W.Frag):R2:=fun x y H Q=>yx K x y H Q\/yY K x y H Q\/Ai x y H Q
def AJ:IxR X (rIx X.K):=wH.or (fB.or AI)
def qm(its:List Value)(n j:Nat)(u:Value):Obj.mapSeq (·.setIfInBounds j u) { cls:=.type "list",data:=.seq its.toArray n }={ cls:=.type "list",data:=.seq (its.set j u).toArray n }:=by
 simp[Obj.mapSeq]
def Inv.lst{pins:List (Addr × Obj)}{σ:St}{H:Hp}{s:Shared}{p:Addr}{xs:List V}(I:Inv X pins σ H s)(h:H p=some (.lst xs)) :
  ∃ (its:List Value) (n:Nat),Vals xs its/\s.heap.get? p=some { cls:=.type "list",data:=.seq its.toArray n }/\xs.length<=sizeLine:=by
 obtain⟨z,its,n,r,e⟩:=I.hok p _ h;exact⟨its,n,r,e,z⟩
def Inv.yn{pins:List (Addr × Obj)}{σ:St}{H:Hp}{s:Shared}{p:Addr}{xs ys:List V}{its its':List Value}{n n':Nat}{f:Obj->Obj}(I:Inv X pins σ H s)(h:H p=some (.lst xs))
 (ho:s.heap.get? p=some { cls:=.type "list",data:=.seq its.toArray n })(hf:f { cls:=.type "list",data:=.seq its.toArray n }={ cls:=.type "list",data:=.seq its'.toArray n' })(r:Vals ys its')(hz:ys.length<=sizeLine)(t:Nat) :
  Inv X pins σ (upd H p (.lst ys)) { s with heap:=s.heap.update p f,toks:=t }:=by
 have e:(s.heap.update p f).get? p=some { cls:=.type "list",data:=.seq its'.toArray n' }:=by
  rw[Heap.get?_update_self f ho (by rw[hf]<;>rfl),hf]
 refine I.write (x:=p) (e:=p) (by rw[h];trivial) (.inl rfl) (fun b u hb q=>(Heap.get?_update_other _ _ (Ne.symm hb)).trans q) ⟨_,e⟩ ?_;exact⟨hz,its',n',r,e⟩
abbrev pG:V->V->V->Hp->(Hp->Prop)->Prop:=fun o i v H Q=>∃ p xs k j,o=.ref p/\i=.int k/\H p=some (.lst xs)/\ixN xs.length k=some j/\Q (upd H p (.lst (xs.set j v)))
def set_list:zR X pG:=by
 intro pins s σ H o i v ov iv u Q I ro ri rv h;obtain⟨p,xs,k,j,rfl,rfl,hp,hj,q⟩:=h;cases ro;obtain⟨t,rfl⟩:=ri;obtain⟨its,n,r,ho,hz⟩:=I.lst hp;obtain⟨h1,h2,h3,h4⟩:=oD hj;have hl:=r.length;have hn:=fu
 have I':Inv X pins σ (upd H p (.lst (xs.set j v))) { s with heap:=s.heap.update p (Obj.mapSeq (·.setIfInBounds j u)) } :=
  I.yn hp ho (qm its n j u) (r.set rv j) (by rw[List.length_set];exact hz) s.toks
 by_cases h0:0<=k
 ·have hk:k.toNat=j:=by
   rw[seqIndex_of h0 h4]at h1;exact Option.some.inj h1
  exact PySem.W.ki_setAt ho h0 (by omega) (by rw[List.size_toArray,<-hl];exact h4) (by rw[hk];exact⟨_,I',q⟩)
 ·have hk:(k+(its.toArray.size:Int)).toNat=j:=by
   rw[seqIndex_neg (by omega) h3]at h1;rw[List.size_toArray,<-hl];exact Option.some.inj h1
  exact PySem.W.ki_setBack ho (by omega) (by rw[List.size_toArray,<-hl];exact h3) (by omega) (by rw[hk];exact⟨_,I',q⟩)
def lV(lo hi:Option Int)(n:Nat):(sliceBounds lo hi none n).1=((HT.sIx n 0 lo:Nat):Int)/\(sliceBounds lo hi none n).2.1=((HT.sIx n n hi:Nat):Int)/\(sliceBounds lo hi none n).2.2=1:=by
 refine⟨?_,?_,rfl⟩
 ·cases lo with
  | none=>simp[sliceBounds,HT.sIx]
  |some i=>
   simp only[sliceBounds,HT.sIx,Option.getD_none,show(1:Int) > 0 by decide,if_true];by_cases h:i<0
   ·simp only[h,if_true]<;>omega
   ·simp only[h,if_false]<;>omega
 ·cases hi with
  | none=>simp[sliceBounds,HT.sIx]
  |some i=>
   simp only[sliceBounds,HT.sIx,Option.getD_none,show(1:Int) > 0 by decide,if_true];by_cases h:i<0
   ·simp only[h,if_true]<;>omega
   ·simp only[h,if_false]<;>omega
def kS(its:List Value)(lo hi:Option Int):slicePick its.toArray lo hi none=((its.drop (HT.sIx its.length 0 lo)).take (HT.sIx its.length its.length hi-HT.sIx its.length 0 lo)).toArray:=by
 obtain⟨h1,h2,h3⟩:=lV lo hi its.toArray.size;unfold slicePick;rw[h1,h2,h3];simp only[sliceRange_one,pick_run,List.size_toArray]<;>rfl
abbrev Dv(K:PySem.W.Frag):V->Option Int->Option Int->Hp->VK->Prop:=fun x lo hi H Q=>∃ a xs,x=.ref a/\SqL K H a xs/\∀ p,H p=none->Q (.ref p) (upd H p (.lst (fP xs lo hi)))
def wO:SlR X (Dv X.K):=by
 intro pins s σ H x v vl vu lo hi sl Q I rx hs pl pu h;obtain⟨a,xs,rfl,hx,q⟩:=h;cases rx;obtain⟨its,r,ht,hz⟩:=I.list hx;have hlen:=r.length;refine⟨"list",_,slot_list_getitem.lookup,ht.isList.typeIs,?_⟩;refine wpAny_getItem_list_slice ht.isList hs pl pu .none (by simp) ?_ (by rw[List.size_toArray]<;>omega);rw[kS,<-hlen];refine⟨.ref s.heap.objs.size,_,I.laid (t':=s.toks) (o:=.lst (fP xs lo hi)) (fun b ob q=>Heap.get?_push_of_some _ q) (Nat.le_refl _) ?_,rfl,q _ (I.hok.fresh (Nat.le_refl _))⟩;exact⟨Nat.le_trans (iB xs lo hi) hz,_,0,(r.drop (HT.sIx xs.length 0 lo)).take (HT.sIx xs.length xs.length hi-HT.sIx xs.length 0 lo),Heap.get?_push_size _ rfl⟩
def aH.or(h:aH X f r)(h':aH X f r'):aH X f (fun xs H Q=>r xs H Q\/r' xs H Q):=by
 intro pins s σ H xs us Q I rs q;rcases q with q | q
 ·exact h pins s σ H xs us Q I rs q
 ·exact h' pins s σ H xs us Q I rs q
def mJ:aH X (.type "list") (fun xs H Q=>∃ p ys,xs=[.ref p]/\(SqL X.K H p ys\/SqT X.K H p ys)/\∀ l,H l=none->Q (.ref l) (upd H l (.lst ys))):=by
 intro pins s σ H xs us Q I r h;obtain⟨p,ys,rfl,hq,q⟩:=h;obtain⟨u,rfl,rx⟩:=vals1 r;cases rx
 have fin:∀ (its:List Value),Vals ys its->ys.length<=sizeLine->∀ (h':Heap) (c':Nat),(∀ b o',s.heap.get? b=some o'->h'.get? b=some o') ->
   h'.get? s.heap.objs.size=some { cls:=.type "list",dict:=none,data:=.seq its.toArray c',slots:=#[] }->EP X pins σ Q (.ref s.heap.objs.size) { s with heap:=h' }:=fun its r' hz h' c' kp e =>
  ⟨.ref s.heap.objs.size,_,I.laid (t':=s.toks) kp (Nat.le_refl _) (show aM X.prog X.w _ h' _ (.lst ys)from⟨hz,its,c',r',e⟩),rfl,q _ (I.hok.fresh (Nat.le_refl _))⟩
 rcases hq with hq | hq
 ·obtain⟨its,r',pl,hz⟩:=I.list hq;have hlen:=r'.length;obtain⟨o,ho,hc,n,hd⟩:=pl.isList;exact call_list_seq p (.inl rfl) ho hc hd (fun h' c' kp e=>fin its r' hz h' c' kp e) (by simp only[List.size_toArray]<;>omega)
 ·obtain⟨its,r',pl,hz⟩:=I.tuple hq;have hlen:=r'.length;obtain⟨o,ho,hc,n,hd⟩:=pl;exact call_list_seq p (.inr rfl) ho hc hd (fun h' c' kp e=>fin its r' hz h' c' kp e) (by simp only[List.size_toArray]<;>omega)
def kR:aH X (.type "tuple") (fun xs H Q=>∃ p ys,xs=[.ref p]/\((SqL X.K H p ys/\∀ l,H l=none->Q (.ref l) (upd H l (.tup ys)))\/(SqT X.K H p ys/\Q (.ref p) H))):=by
 intro pins s σ H xs us Q I r h;obtain⟨p,ys,rfl,h⟩:=h;obtain⟨u,rfl,rx⟩:=vals1 r;cases rx
 rcases h with⟨hq,q⟩ | ⟨hq,q⟩
 ·obtain⟨its,r',pl,hz⟩:=I.list hq;have hlen:=r'.length;refine call_tuple_list pl.isList (fun h' kp=>?_) (by simp only[List.size_toArray]<;>omega);have I1:Inv X pins σ H { s with heap:=h' }:=I.kept (t':=s.toks) kp
  have I2:Inv X pins σ (upd H h'.objs.size (.tup ys)) { s with heap:=h'.push { cls:=.type "tuple",data:=.seq its.toArray } } :=
   I1.laid (t':=s.toks) (fun b o e=>Heap.get?_push_of_some _ e) (Nat.le_refl _) (show aM X.prog X.w _ _ _ (.tup ys)from⟨hz,its,r',IsTup.new _ _⟩)
  exact⟨.ref h'.objs.size,_,I2,rfl,q _ (I1.hok.fresh (Nat.le_refl _))⟩
 ·obtain⟨its,r',pl,hz⟩:=I.tuple hq;exact call_tuple_same pl ⟨.ref p,H,I,rfl,q⟩
abbrev tyV(K:PySem.W.Frag)(T:String)(x:V)(H:Hp):Prop:=match x with
 | .str _=>T = "str"
 | .int _=>T = "int"
 | .ref p=>(T = "list" /\ ∃ xs,SqL K H p xs)\/(T = "tuple" /\ ∃ o,K.lookup p=some o/\o.cls=.type "tuple" /\ o.dict=none) \/
   (T = "dict" /\ ((∃ kvs,H p=some (.dK kvs))\/∃ kvs,H p=some (.dT kvs)))\/(T = "set" /\ ∃ S n,H p=some (.set S n))
 | _=>False
def qu(I:Inv X pins σ H s)(r:RelV x v)(ty:tyV X.K T x H) :
  s.TypeIs v T/\∀ a,v=.ref a->∃ ob,s.heap.get? a=some ob/\ob.dict=none:=by
 cases x with
 |str z=>
  obtain⟨t,rfl⟩:=r;cases(show T = "str" from ty);exact⟨typeIs_str s z t,fun _ e=>nomatch e⟩
 |int i=>
  obtain⟨t,rfl⟩:=r;cases(show T = "int" from ty);exact⟨typeIs_int s i t,fun _ e=>nomatch e⟩
 |ref p=>
  cases r
  rcases ty with⟨rfl,xs,hq⟩ | ⟨rfl,o,hk,hc,hd⟩ | ⟨rfl,hk⟩ | ⟨rfl,S,n,hk⟩
  ·obtain⟨its,_,pl,_⟩:=I.list hq;refine⟨pl.isList.typeIs,fun a e=>?_⟩;cases e;obtain⟨o,n,e,c,hd,_⟩:=pl;exact⟨o,e,hd⟩
  ·refine⟨⟨o,I.kIn p o hk,hc⟩,fun a e=>?_⟩;cases e;exact⟨o,I.kIn _ o hk,hd⟩
  ·have z:∃ o,s.heap.get? p=some o/\o.ExactDict:=by
    rcases hk with⟨kvs,hk⟩ | ⟨kvs,hk⟩
    ·obtain⟨_,_,_,_,o,_,_,e,ex,_⟩:=I.hok p _ hk;exact⟨o,e,ex⟩
    ·obtain⟨_,_,_,_,o,_,_,e,ex,_⟩:=I.hok p _ hk;exact⟨o,e,ex⟩
   obtain⟨o,e,ex⟩:=z;refine⟨⟨o,e,ex.1⟩,fun a e2=>?_⟩;cases e2;exact⟨o,e,ex.2.1⟩
  ·obtain⟨o,_,_,_,e,ex,_⟩:=I.hok p _ hk;refine⟨⟨o,e,ex.1⟩,fun a e2=>?_⟩;cases e2;exact⟨o,e,ex.2.1⟩
 | _=>exact False.elim ty
abbrev yP(K:PySem.W.Frag)(T:String)(r:V->List V->Hp->VK->Prop)(to:TE):TE:=fun σ H Q=>to σ H fun x H1=>tyV K T x H1/\r x [] H1 Q
abbrev tBM(K:PySem.W.Frag)(T:String)(r:V->List V->Hp->VK->Prop)(to:TE)(t:TA):TE:=fun σ H Q=>to σ H fun x H1=>tyV K T x H1/\t σ H1 fun xs H2=>r x xs H2 Q
variable{o e:Expr}{es:List Expr}{to:TE}{t:TA}{name:Str}{apos cpos:Pos}{T id:String}{r:V->List V->Hp->VK->Prop}
def Ah(pa:PlainAttrs T)(slot:Slot T name id)(hty:typeOf (.builtin id)=pure (.type "method_descriptor"))(hm:MtR X id r)(ho:PE X o to)
 (hbase:attributeBase o name X.env (eval o X.env)=eval o X.env)(hline:(apos.endLine == cpos.line)=true):PE X (.Call (.Attribute o name apos) [] [] cpos) (yP X.K T r to):=by
 intro pins s σ H Q I h;refine wpAny_Call_method0_late hbase hline (thn (ho pins s σ H _ I h) fun v s1 ⟨x,H1,I1,r1,ty,q1⟩=>?_);obtain⟨h1,h2⟩:=qu I1 r1 ty;exact⟨T,id,pa,slot,hty,h1,h2,Calls.callWith_builtin rfl (PySem.evalArgs_none (hm pins s1 σ H1 x [] v [] Q I1 r1 .nil q1))⟩
def BY(pa:PlainAttrs T)(slot:Slot T name id)(hty:typeOf (.builtin id)=pure (.type "method_descriptor"))(hm:MtR X id r)(ho:PE X o to)(ha:PA X (e::es) t)
 (hbase:attributeBase o name X.env (eval o X.env)=eval o X.env)
 (hfew:((backTo cpos (starEach (e::es) X.env)).all (fun x=>!x.1)&&(backToKw cpos (keywordEach [] X.env)).all (fun x=>x.1.isSome)
   && decide ((e::es).length+([]:List Keyword).length+(if([]:List Keyword).isEmpty then 0 else 1)<30))=true:=by rfl)
 (hline:(apos.endLine == cpos.line)=true)(hs:starEach (e::es) X.env=(false,eval e X.env)::starEach es X.env)(hplain:(backTo cpos (starEach es X.env)).any (·.1)=false) :
  PE X (.Call (.Attribute o name apos) (e::es) [] cpos) (tBM X.K T r to t):=by
 intro pins s σ H Q I h;refine wpAny_Call_method_late hbase hfew hline rfl (thn (ho pins s σ H _ I h) fun v s1 ⟨x,H1,I1,r1,ty,q1⟩=>?_);obtain⟨h1,h2⟩:=qu I1 r1 ty;refine⟨T,id,pa,slot,hty,h1,h2,?_⟩;have hA:=ha cpos pins s1 σ H1 _ I1 q1;rw[hs]at hA ⊢;refine Calls.callWith_builtin (by show(false || (backTo cpos (starEach es X.env)).any (·.1))=false;rw[hplain]<;>rfl) (Calls.evalArgs_plain ?_);exact thn hA fun us s2 ⟨vs,H2,I2,r2,q2⟩=>hm pins s2 σ H2 x vs v us Q I2 r1 r2 q2
end
abbrev MtM(X:Cx)(id:String)(r:V->List V->Hp->VK->Prop):Prop :=
 ∀ (pins:List (Addr × Obj)) (s:Shared) (σ:St) (H:Hp) (x:V) (xs:List V) (v:Value) (us:List Value) (Q:VK),Inv X pins σ H s->RelV x v->Vals xs us->r x xs H Q ->
  wpAny (model X.prog X.w) X.A (call (.builtin id) (v::us)) (EP X pins σ Q) X.xe s
def Vals.one:∀ {x:V} {us:List Value},Vals [x] us->∃ u,us=[u]/\RelV x u
 | _,_,.cons r .nil=>⟨_,rfl,r⟩
def Vals.zero:∀ {us:List Value},Vals [] us->us=[]
 | _,.nil=>rfl
def Vals.dropLast(h:Vals xs us):Vals xs.dropLast us.dropLast:=by
 induction h with
 | nil=>exact .nil
 |cons r t ih=>
  cases t with
  | nil=>exact .nil
  | cons q t'=>exact .cons r ih
def Vals.reverse(h:Vals xs us):Vals xs.reverse us.reverse:=by
 induction h with
 | nil=>exact .nil
 | cons r t ih=>rw[List.reverse_cons,List.reverse_cons];exact Vals.append ih (.cons r .nil)
def Vals.rep(h:Vals xs us):∀ k:Nat,Vals (List.replicate k xs).flatten (List.replicate k us).flatten
 | 0=>.nil
 | k+1=>by
  rw[List.replicate_succ,List.replicate_succ,List.flatten_cons,List.flatten_cons];exact Vals.append h (Vals.rep h k)
def pQ(l:List α):l.eraseIdx (l.length-1)=l.dropLast:=by
 induction l with
 | nil=>rfl
 |cons a r ih=>
  cases r with
  | nil=>rfl
  |cons b r=>
   have e:(a::b::r).length-1=((b::r).length-1)+1:=by
    have h1:(a::b::r).length=r.length+2:=rfl;have h2:(b::r).length=r.length+1:=rfl;omega
   rw[e,List.eraseIdx_cons_succ,ih]
   all_goals rfl
def foldl_rep(its:List Value):∀ (k:Nat) (acc:List Value),
  List.foldl (fun x1 x2=>x1++x2) acc.toArray (List.replicate k its.toArray)=(acc++(List.replicate k its).flatten).toArray
 | 0,acc=>by simp
 | k+1,acc=>by
  have e:acc.toArray++its.toArray=(acc++its).toArray:=by simp
  have e2:(acc++its)++(List.replicate k its).flatten=acc++(List.replicate (k+1) its).flatten:=by
   rw[List.replicate_succ,List.flatten_cons,List.append_assoc]
  rw[<-e2,<-foldl_rep its k (acc++its),<-e,List.replicate_succ,List.foldl_cons]
section
variable{X:Cx}{pins:List (Addr × Obj)}{σ:St}{H:Hp}{s:Shared}{l b:Addr}{xs ys zs:List V}
def Inv.Ae{its its':List Value}{n:Nat}{f:Array Value->Array Value}{t':Nat}(I:Inv X pins σ H s)(hH:H l=some (.lst xs))
 (e:s.heap.get? l=some { cls:=.type "list",data:=.seq its.toArray n })(hf:f its.toArray=its'.toArray)(hv:Vals ys its')(hz:ys.length<=sizeLine) :
  Inv X pins σ (upd H l (.lst ys)) { s with heap:=s.heap.update l (Obj.mapSeq f),toks:=t' }:=by
 have q:=PySem.IsL.update e f;rw[hf]at q;refine I.write (x:=l) (e:=l) (by rw[hH];exact trivial) (.inl rfl) (fun b' u hb hu=>(Heap.get?_update_other s.heap (Obj.mapSeq f) (Ne.symm hb)).trans hu) ⟨_,q⟩ ?_;exact⟨hz,its',_,hv,q⟩
def Inv.uD(I:Inv X pins σ H s)(hv:Vals ys its)(hz:ys.length<=sizeLine) :
  Inv X pins σ (upd H s.heap.objs.size (.lst ys)) { s with heap:=s.heap.push { cls:=.type "list",data:=.seq its.toArray },toks:=t' } :=
 I.laid (fun _ _ q=>Heap.get?_push_of_some _ q) (Nat.le_refl _) ⟨hz,its,0,hv,Heap.get?_push_size _ rfl⟩
def Inv.fresh(I:Inv X pins σ H s):H s.heap.objs.size=none:=I.hok.fresh (Nat.le_refl _)
def Inv.mU(I:Inv X pins σ H s)(hH:H l=some (.lst xs)):xs.length<=sizeLine/\∃ (its:List Value) (n:Nat),Vals xs its/\xs.length=its.length/\s.heap.get? l=some { cls:=.type "list",data:=.seq its.toArray n }:=by
 obtain⟨z,its,n,r,e⟩:=I.hok l _ hH;exact⟨z,its,n,r,r.length,e⟩
def tX(h:n<=sizeLine):Builtin.List.listTooLong n=false:=by
 unfold Builtin.List.listTooLong;exact decide_eq_false (by omega)
end
section
variable{X:Cx}
abbrev oQ:V->List V->Hp->VK->Prop:=fun x vs H Q=>∃ l xs y,x=.ref l/\vs=[y]/\H l=some (.lst xs)/\xs.length<sizeLine/\Q .non (upd H l (.lst (xs++[y])))
def ku:MtM X "list.append" oQ:=by
 intro pins s σ H x vs v us Q I rx rv h;obtain⟨l,xs,y,rfl,rfl,hH,hz,q⟩:=h;cases rx;obtain⟨u,rfl,ru⟩:=rv.one;obtain⟨z,its,n,r,hl,e⟩:=I.mU hH;refine call_meets F.slot_list_append ⟨_,e,rfl⟩ F.entry_list_append (F.args_list_append_2 _ _) (PySem.list_append l its.toArray n u (by rw[List.size_toArray];omega)) ⟨e,?_⟩;refine⟨.non,_,I.Ae (its':=its++[u]) hH e (by simp) (r.append (.cons ru .nil)) ?_,rfl,q⟩;rw[List.length_append,List.length_singleton];omega
abbrev Ao:V->List V->Hp->VK->Prop:=fun x vs H Q=>∃ l xs y,x=.ref l/\vs=[]/\H l=some (.lst xs)/\xs[xs.length-1]?=some y/\Q y (upd H l (.lst xs.dropLast))
def AQ:MtM X "list.pop" Ao:=by
 intro pins s σ H x vs v us Q I rx rv h;obtain⟨l,xs,y,rfl,rfl,hH,hy,q⟩:=h;cases rx;have hus:=rv.zero;subst hus;obtain⟨z,its,n,r,hl,e⟩:=I.mU hH;obtain⟨u,hu,ru⟩:=r.get hy
 have hy':its.toArray[its.toArray.size-1]?=some u:=by
  show its.toArray[its.length-1]?=some u;rw[<-Array.getElem?_toList,<-hl];exact hu
 refine call_meets F.slot_list_pop ⟨_,e,rfl⟩ F.entry_list_pop (F.args_list_pop_1 _) (MeetsSeq.list_pop_last l its.toArray n u hy' (by rw[List.size_toArray];omega)) ⟨e,?_⟩;refine⟨y,_,I.Ae (its':=its.dropLast) hH e ?_ r.dropLast ?_,ru,q⟩
 ·show its.toArray.eraseIdxIfInBounds (its.toArray.size-1)=its.dropLast.toArray;rw[List.size_toArray,List.eraseIdxIfInBounds_toArray,pQ]
 ·rw[List.length_dropLast];omega
abbrev Du:R2:=fun x y H Q=>∃ l b xs zs,x=.ref l/\y=.ref b/\H l=some (.lst xs)/\H b=some (.lst zs)/\xs.length+zs.length<=sizeLine/\∀ p,H p=none->Q (.ref p) (upd H p (.lst (xs++zs)))
def yM:OpR X (binaryOp .Add) Du:=by
 intro pins s σ H x y v u Q I rx ry h;obtain⟨l,b,xs,zs,rfl,rfl,hH,hB,hz,q⟩:=h;cases rx;cases ry;obtain⟨z,its,n,r,hl,e⟩:=I.mU hH;obtain⟨z2,its2,n2,r2,hl2,e2⟩:=I.mU hB;refine PySem.P.add_list e e2 ?_ (by rw[List.size_toArray,List.size_toArray];omega)
 have ea:its.toArray++its2.toArray=(its++its2).toArray:=by simp
 rw[ea];exact⟨.ref _,_,I.uD (t':=s.toks) (r.append r2) (by rw[List.length_append];omega),rfl,q _ I.fresh⟩
abbrev Dk:R2:=fun x y H Q=>∃ l k xs,x=.ref l/\y=.int k/\H l=some (.lst xs)/\-(2 ^ 63)<=k/\k<2 ^ 63/\xs.length*k.toNat<=sizeLine /\
 ∀ p,H p=none->Q (.ref p) (upd H p (.lst (List.replicate k.toNat xs).flatten))
def len_rep(xs:List α)(k:Nat):(List.replicate k xs).flatten.length=k*xs.length:=by
 induction k with
 | zero=>simp
 | succ k ih=>rw[List.replicate_succ,List.flatten_cons,List.length_append,ih,Nat.succ_mul,Nat.add_comm]
def Aq:OpR X (binaryOp .Mult) Dk:=by
 intro pins s σ H x y v u Q I rx ry h;obtain⟨l,k,xs,rfl,rfl,hH,h1,h2,hz,q⟩:=h;cases rx;obtain⟨t,rfl⟩:=ry;obtain⟨z,its,n,r,hl,e⟩:=I.mU hH
 have hlen:its.toArray.size*k.toNat<=sizeLine:=by rw[List.size_toArray,<-hl];exact hz
 have hcap:¬ its.toArray.size*k.toNat > (2 ^ 63-1) / 8:=by
  have:(sizeLine:Nat)<=(2 ^ 63-1) / 8:=by decide
  omega
 have hfit:¬ (!Builtin.List.listFitsIndex k)=true:=by
  rw[fitsIndex_both h1 h2];exact Bool.false_ne_true
 have hlong:¬ Builtin.List.listTooLong (its.toArray.size*k.toNat)=true:=by
  rw[tX hlen];exact Bool.false_ne_true
 have hnew:List.foldl (fun x1 x2=>x1++x2) #[] (List.replicate (if its.toArray.isEmpty=true then 0 else k.toNat) its.toArray)=(List.replicate k.toNat its).flatten.toArray:=by
  have f0:∀ m:Nat,List.foldl (fun x1 x2=>x1++x2) #[] (List.replicate m its.toArray)=(List.replicate m its).flatten.toArray:=fun m=>by
   have:=foldl_rep its m [];rw[List.nil_append]at this;exact this
  rw[f0]
  cases its with
  | nil=>simp
  | cons a r'=>rw[if_neg (by simp)]
 refine wpAny_binaryOp_repeat_ref (T := "list") (U := "int") (by decide) ⟨_,e,rfl⟩ (fun s'=>typeIs_int s' k t) noFill_list_mul F.fills_int_mul F.slot_int_rmul repeat_list F.slot_int_index.lookup
  (call_meets F.slot_int_rmul (typeIs_int s k t) F.entry_int_rmul (F.args_int_rmul_2 _ _) (int___rmul___int_list k t l its.toArray n)
   ⟨e,rfl,⟨_,e,rfl⟩,call_meets F.slot_list_mul ⟨_,e,rfl⟩ F.entry_list_mul (F.args_list_mul_2 _ _) (AutoListH.list___mul___list_int_3 l its.toArray n k t hfit hcap hlong) ⟨e,?_⟩⟩)
 rw[hnew];exact⟨.ref _,_,I.uD (t':=s.toks) (r.rep k.toNat) (by rw[len_rep,Nat.mul_comm];exact hz),rfl,q _ I.fresh⟩
end
section
variable{prog:Program}{w:World}{A:Around}{E:Value->Shared->Prop}{s:Shared}
end
section
variable{X:Cx}
end
section
variable{κ:Type} [DecidableEq κ]
abbrev cn(kvs:List (κ × V))(k:κ):Option V:=(kvs.find? fun kv=>decide (kv.1=k)).map (·.2)
abbrev putK(kvs:List (κ × V))(k:κ)(v:V):List (κ × V) :=
 if(kvs.any fun kv=>decide (kv.1=k))=true then kvs.map (fun kv=>if kv.1=k then(kv.1,v)else kv)else kvs++[(k,v)]
def dR{p:κ × V}{r:List (κ × V)}{k:κ}(e:p.1=k):cn (p::r) k=some p.2:=by simp[cn,List.find?_cons,e]
def eh{p:κ × V}{r:List (κ × V)}{k:κ}(e:¬ p.1=k):cn (p::r) k=cn r k:=by simp[cn,List.find?_cons,e]
def lL(k:κ):∀ kvs:List (κ × V),(kvs.any fun kv=>decide (kv.1=k))=(cn kvs k).isSome
 | []=>rfl
 | p::r=>by
  rw[List.any_cons];by_cases e:p.1=k
  ·simp only[dR e,decide_eq_true e,Bool.true_or,Option.isSome_some]
  ·rw[eh e,decide_eq_false e,Bool.false_or];exact lL k r
def iC(kvs:List (κ × V))(k:κ)(v:V):(putK kvs k v).length<=kvs.length+1:=by
 unfold putK;split
 ·rw[List.length_map];omega
 ·rw[List.length_append,List.length_cons,List.length_nil];omega
def cR.du(r:cR o u):o.isSome=u.isSome:=by
 cases o with
 | none=>cases u with
  | none=>rfl
  | some _=>exact(show False from r).elim
 | some _=>cases u with
  | none=>exact(show False from r).elim
  | some _=>rfl
def cR.getD(r:cR o u)(rd:RelV d d'):RelV (o.getD d) (u.getD d'):=by
 cases o with
 | none=>cases u with
  | none=>exact rd
  | some _=>exact(show False from r).elim
 | some _=>cases u with
  | none=>exact(show False from r).elim
  | some _=>exact r
def KV.val{kvs:List (κ × V)}{vs:List (κ × Value)}(r:KV kvs vs)(k:κ):cR (cn kvs k) (valueAt vs k):=by
 unfold KV at r
 induction r with
 | nil=>exact True.intro
 |@cons p q ps qs h t ih=>
  obtain⟨h1,h2⟩:=h;by_cases e:p.1=k
  ·have e':q.1=k:=h1.symm.trans e
   have b:valueAt (q::qs) k=some q.2:=by simp[valueAt,List.find?_cons,e']
   rw[dR e,b];exact h2
  ·have e':¬ q.1=k:=fun z=>e (h1.trans z)
   have b:valueAt (q::qs) k=valueAt qs k:=by simp[valueAt,List.find?_cons,e']
   rw[eh e,b];exact ih
def KV.any(r:KV kvs vs)(k:κ):(kvs.any fun kv=>decide (kv.1=k))=vs.any fun kv=>decide (kv.1=k):=by
 unfold KV at r
 induction r with
 | nil=>rfl
 | cons h t ih=>rw[List.any_cons,List.any_cons,ih,h.1]
def KV.tD(r:KV kvs vs)(k:κ)(ry:RelV y u) :
  KV (kvs.map fun kv=>if kv.1=k then(kv.1,y)else kv) (vs.map fun kv=>if kv.1=k then(kv.1,u)else kv):=by
 unfold KV at r ⊢
 induction r with
 | nil=>exact .nil
 |@cons p q ps qs h t ih=>
  rw[List.map_cons,List.map_cons];refine .cons ?_ ih;obtain⟨h1,h2⟩:=h;by_cases e:p.1=k
  ·rw[if_pos e,if_pos (h1.symm.trans e)];exact⟨h1,ry⟩
  ·rw[if_neg e,if_neg (fun z=>e (h1.trans z))];exact⟨h1,h2⟩
def KV.put(r:KV kvs vs)(k:κ)(ry:RelV y u):KV (putK kvs k y) (stored vs k u):=by
 unfold putK stored;rw[r.any k];by_cases e:(vs.any fun kv=>decide (kv.1=k))=true
 ·rw[if_pos e,if_pos e];exact r.tD k ry
 ·rw[if_neg e,if_neg e];exact Paired.snoc r ⟨rfl,ry⟩
def KV.length(r:KV kvs vs):kvs.length=vs.length:=Paired.length r
end
def ig(r:RelV (kV k) u):(aT P w).is k u=true:=by
 cases k with
 | inl i=>obtain⟨t,e⟩:=(show ∃ t,u=Value.int i t from r);subst e;exact nM P w i t
 | inr x=>obtain⟨t,e⟩:=(show ∃ t,u=Value.str x t from r);subst e;exact nH P w x t
def kr:∀ {ks:List Key} {us:List Value},Vals (ks.map kV) us->ItemsAre (aT P w) ks us
 | [],_,r=>by rw[List.map_nil]at r;cases r;exact .nil
 | k::ks,_,r=>by
  rw[List.map_cons]at r
  cases r with
  | cons h t=>exact .cons (ig h) (kr t)
@[reducible]noncomputable def KT(H:Hp):List (List Key × V)->List (List Key × Addr × Value)->Prop:=Paired fun p q=>p.1=q.1/\H q.2.1=some (.tup (p.1.map kV))/\RelV p.2 q.2.2
def KT.val{H:Hp}{kvs:List (List Key × V)}{xs:List (List Key × Addr × Value)}(r:KT H kvs xs)(k:List Key):cR (cn kvs k) ((atKey xs k).map (·.2)):=by
 induction r with
 | nil=>exact True.intro
 |@cons p q ps qs h t ih=>
  obtain⟨h1,_,h2⟩:=h;by_cases e:p.1=k
  ·have e':q.1=k:=h1.symm.trans e
   have b:atKey (q::qs) k=some q.2:=by simp[atKey,List.find?_cons,e']
   rw[dR e,b];exact h2
  ·have e':¬ q.1=k:=fun z=>e (h1.trans z)
   have b:atKey (q::qs) k=atKey qs k:=by simp[atKey,List.find?_cons,e']
   rw[eh e,b];exact ih
def KT.tD(r:KT H kvs xs)(k:List Key)(ry:RelV y u) :
  KT H (kvs.map fun kv=>if kv.1=k then(kv.1,y)else kv) (xs.map (putAt k u)):=by
 induction r with
 | nil=>exact .nil
 |@cons p q ps qs h t ih=>
  rw[List.map_cons,List.map_cons];refine .cons ?_ ih;obtain⟨h1,h2,h3⟩:=h;unfold putAt;by_cases e:p.1=k
  ·rw[if_pos e,if_pos (h1.symm.trans e)];exact⟨h1,h2,ry⟩
  ·rw[if_neg e,if_neg (fun z=>e (h1.trans z))];exact⟨h1,h2,h3⟩
def KT.put(r:KT H kvs xs)(k:List Key)(hb:H b=some (.tup (k.map kV)))(ry:RelV y u) :
  KT H (putK kvs k y) (storedH xs k b u):=by
 have e:(kvs.any fun kv=>decide (kv.1=k))=(atKey xs k).isSome:=by
  rw[lL,(r.val k).du,Option.isSome_map]
 unfold putK storedH;rw[e];by_cases q:(atKey xs k).isSome=true
 ·rw[if_pos q,if_pos q];exact r.tD k ry
 ·rw[if_neg q,if_neg q];exact Paired.snoc r ⟨rfl,hb,ry⟩
def KT.keeps(r:KT H kvs xs)(ht:∀ b ys,H b=some (.tup ys)->H' b=some (.tup ys)):KT H' kvs xs :=
 Paired.uL r fun _ _ z=>⟨z.1,ht _ _ z.2.1,z.2.2⟩
section
variable{P:Program}{w:World}{H:Hp}{h:Heap}{a:Addr}
def vL(ok:HOk P w H h)(e:Rd H a u):aM P w H h a u:=e.ok ok
def eM(ok:HOk P w H h)(e:Rd H a (.dK kvs)):kvs.length<=sizeLine/\(a == sysModules)=false/\∃ vs,KV kvs vs/\h.DictOf (aT P w) a vs :=
 show aM P w H h a (.dK kvs)from vL ok e
def Cm(ok:HOk P w H h)(e:H a=some (.dK kvs)):kvs.length<=sizeLine/\(a == sysModules)=false/\∃ vs,KV kvs vs/\h.DictOf (aT P w) a vs:=eM ok (.inl e)
def dW(ok:HOk P w H h)(e:H a=some (.tup (ks.map kV))):(tupleKind (aT P w)).is h ks a:=by
 obtain⟨_,its,r,o,h1,h2,n,h3⟩:=(show aM P w H h a (.tup (ks.map kV))from ok a _ e)
 exact⟨o,its.toArray,n,h1,h2,h3,by simpa using kr r⟩
def gf(ok:HOk P w H h)(e:Rd H a (.dT kvs)):kvs.length<=sizeLine/\(a == sysModules)=false /\
  ∃ xs,KT H kvs xs/\h.DictOfH (tupleKind (aT P w)) a xs:=by
 obtain⟨z,y,xs,r,o,es,ep,h1,h2,h3,h4,h5⟩:=(show aM P w H h a (.dT kvs)from vL ok e)
 refine⟨z,y,xs,r,o,es,ep,h1,h2,h3,h4,fun x hx=>?_,h5⟩
 have all:∀ {l:List (List Key × V)} {m:List (List Key × Addr × Value)},KT H l m->∀ x∈m,(tupleKind (aT P w)).is h x.1 x.2.1:=by
  intro l m q
  induction q with
  | nil=>intro x hx;exact nomatch hx
  |@cons p q ps qs hq t ih=>
   intro x hx;rcases List.mem_cons.mp hx with e | hx
   ·subst e;exact dW ok (by rw[<-hq.1];exact hq.2.1)
   ·exact ih x hx
 exact all r x hx
def pE(ok:HOk P w H h)(e:H a=some (.dT kvs)):kvs.length<=sizeLine/\(a == sysModules)=false /\
  ∃ xs,KT H kvs xs/\h.DictOfH (tupleKind (aT P w)) a xs:=gf ok (.inl e)
end
abbrev bU(H:Hp)(a:Addr)(y:V)(r:Option V):Prop :=
 (∃ kvs k,Rd H a (.dK kvs)/\y=kV k/\r=cn kvs k)\/∃ kvs k b,Rd H a (.dT kvs)/\y=.ref b/\H b=some (.tup (k.map kV))/\r=cn kvs k
abbrev gP(H:Hp)(a:Addr)(y v:V)(H':Hp):Prop :=
 (∃ kvs k,H a=some (.dK kvs)/\y=kV k/\kvs.length<sizeLine/\H'=upd H a (.dK (putK kvs k v))) \/
 ∃ kvs k b,H a=some (.dT kvs)/\y=.ref b/\H b=some (.tup (k.map kV))/\kvs.length<sizeLine/\H'=upd H a (.dT (putK kvs k v))
def bU.k{H:Hp}{a:Addr}{kvs:List (Key × V)}{k:Key}(e:H a=some (.dK kvs)):bU H a (kV k) (cn kvs k):=.inl ⟨kvs,k,.inl e,rfl,rfl⟩
def bU.t{H:Hp}{a b:Addr}{kvs:List (List Key × V)}{k:List Key}(e:H a=some (.dT kvs))(eb:H b=some (.tup (k.map kV))):bU H a (.ref b) (cn kvs k):=.inr ⟨kvs,k,b,.inl e,rfl,eb,rfl⟩
def gP.k{H:Hp}{a:Addr}{kvs:List (Key × V)}{k:Key}{v:V}(e:H a=some (.dK kvs))(hl:kvs.length<sizeLine):gP H a (kV k) v (upd H a (.dK (putK kvs k v))):=.inl ⟨kvs,k,e,rfl,hl,rfl⟩
def gP.t{H:Hp}{a b:Addr}{kvs:List (List Key × V)}{k:List Key}{v:V}(e:H a=some (.dT kvs))(eb:H b=some (.tup (k.map kV)))(hl:kvs.length<sizeLine) :
  gP H a (.ref b) v (upd H a (.dT (putK kvs k v))):=.inr ⟨kvs,k,b,e,rfl,eb,hl,rfl⟩
section
variable{X:Cx}{pins:List (Addr × Obj)}{σ:St}{H:Hp}{s:Shared}{a:Addr}{y v:V}{u r:Value}{o:Option V}{A:Around}{E:Value->Shared->Prop}
def Inv.big(I:Inv X pins σ H s):sysModules<s.heap.objs.size:=by
 have h:mainGlobals<s.heap.objs.size:=(I.mod.glob.keeps I.bk).lt;exact Nat.lt_trans (by decide) h
def rG(hu:A.units+1<cLine)(I:Inv X pins σ H s)(g:bU H a y (some v))(ry:RelV y u)(h:∀ w' s',Inv X pins σ H s'->RelV v w'->Q w' s') :
  wpAny (model X.prog X.w) A (getItem (.ref a) u) Q E s:=by
 rcases g with⟨kvs,k,e,ey,l⟩ | ⟨kvs,k,b,e,ey,eb,l⟩
 ·subst ey;obtain⟨z,hd,vs,rel,dd⟩:=eM I.hok e;obtain⟨w',hw,rw'⟩:=cR.some_of (v:=v) (o:=valueAt vs k) (by rw[l];exact rel.val k);exact wpAny_getItem_of (ig ry) dd.mapOf hw (h w' _ (I.tok _) rw')
 ·subst ey;cases(show u=Value.ref b from ry);obtain⟨z,hd,xs,rel,dd⟩:=gf I.hok e;obtain⟨w',hw,rw'⟩:=cR.some_of (v:=v) (o:=(atKey xs k).map (·.2)) (by rw[l];exact rel.val k);obtain⟨p,hp,hp2⟩:=Option.map_eq_some_iff.mp hw;refine wpAny_getItem_heap (tupleKind_room_in1 hu) (dW I.hok eb) dd hp ?_;rw[hp2];exact h w' _ (I.tok _) rw'
def Df(hu:A.units+1<cLine)(I:Inv X pins σ H s)(g:bU H a y o)(ry:RelV y u)(h:∀ s',Inv X pins σ H s'->Q (.bool o.isSome) s') :
  wpAny (model X.prog X.w) A (compareOp .In u (.ref a)) Q E s:=by
 rcases g with⟨kvs,k,e,ey,l⟩ | ⟨kvs,k,b,e,ey,eb,l⟩
 ·subst ey;obtain⟨z,hd,vs,rel,dd⟩:=eM I.hok e;refine wpAny_in_of (ig ry) hd dd.mapOf ?_;rw[<-(rel.val k).du,<-l];exact h _ (I.tok _)
 ·subst ey;cases(show u=Value.ref b from ry);obtain⟨z,hd,xs,rel,dd⟩:=gf I.hok e;refine wpAny_in_heap (tupleKind_room_in1 hu) (dW I.hok eb) hd dd ?_;have q:=(rel.val k).du;rw[Option.isSome_map]at q;rw[<-q,<-l];exact h _ (I.tok _)
def wc(hu:A.units+1<cLine)(I:Inv X pins σ H s)(g:bU H a y o)(ry:RelV y u)(h:∀ s',Inv X pins σ H s'->Q (.bool (!o.isSome)) s') :
  wpAny (model X.prog X.w) A (compareOp .NotIn u (.ref a)) Q E s:=by
 rcases g with⟨kvs,k,e,ey,l⟩ | ⟨kvs,k,b,e,ey,eb,l⟩
 ·subst ey;obtain⟨z,hd,vs,rel,dd⟩:=eM I.hok e;refine wpAny_notIn_of (ig ry) hd dd.mapOf ?_;rw[<-(rel.val k).du,<-l];exact h _ (I.tok _)
 ·subst ey;cases(show u=Value.ref b from ry);obtain⟨z,hd,xs,rel,dd⟩:=gf I.hok e;refine wpAny_notIn_heap (tupleKind_room_in1 hu) (dW I.hok eb) hd dd ?_;have q:=(rel.val k).du;rw[Option.isSome_map]at q;rw[<-q,<-l];exact h _ (I.tok _)
def jU(I:Inv X pins σ H s)(mu:Mut (H a))(hs:Heap.SameBut a s.heap h')(he:∃ q,h'.get? a=some q)(new:aM X.prog X.w (upd H a ob) h' a ob) :
  Inv X pins σ (upd H a ob) { s with heap:=h',toks:=t' } :=
 I.write (x:=a) (e:=a) mu (.inl rfl) (fun b q hb z=>(hs.2 b hb).trans z) he new
def Au(z:kvs.length<=sizeLine)(hd:(a == sysModules)=false)(rel:KV kvs vs)(dd:h'.DictOf (aT P w) a vs) :
  aM P w H' h' a (.dK kvs):=⟨z,hd,vs,rel,dd⟩
def rf(hu:A.units+1<cLine)(I:Inv X pins σ H s)(g:gP H a y v H')(ry:RelV y u)(rv:RelV v r)(h:∀ s',Inv X pins σ H' s'->Q () s') :
  wpAny (model X.prog X.w) A (setItem (.ref a) u r) Q E s:=by
 rcases g with⟨kvs,k,e,ey,l,eH⟩ | ⟨kvs,k,b,e,ey,eb,l,eH⟩
 ·subst ey eH;obtain⟨z,hd,vs,rel,dd⟩:=Cm I.hok e
  have hz:vs.length<=sizeLine:=by rw[<-rel.length];exact z
  have hl:(putK kvs k v).length<=sizeLine:=by have:=iC kvs k v;omega
  refine wpAny_setItem_pairs (hsz:=hz) (ig ry) dd fun h' dd' hs=>h _ ?_;have he:∃ q,h'.get? a=some q:=let ⟨q,_,_,hq,_⟩:=dd';⟨q,hq⟩;exact jU I (by rw[e];exact True.intro) hs he (Au hl hd (rel.put k rv) dd')
 ·subst ey eH;cases(show u=Value.ref b from ry);obtain⟨z,hd,xs,rel,dd⟩:=pE I.hok e
  have hz:xs.length<=sizeLine:=by rw[<-Paired.length rel];exact z
  have hl:(putK kvs k v).length<=sizeLine:=by have:=iC kvs k v;omega
  refine wpAny_setItem_heap (hsz:=hz) (tupleKind_room_in1 hu) (dW I.hok eb) dd fun h' dd' hs=>h _ ?_;obtain⟨q,es,ep,hq,h2,h3,h4,_,h5⟩:=dd';refine jU I (by rw[e];exact True.intro) hs ⟨q,hq⟩ ⟨hl,hd,_,(rel.put k eb rv).keeps fun c ys ec=>?_,q,es,ep,hq,h2,h3,h4,h5⟩;rw[a6 (eC ec e (fun z=>nomatch z))];exact ec
end
section
variable{X:Cx}{pins:List (Addr × Obj)}{σ:St}{H:Hp}{s:Shared}{a:Addr}{kvs:List (Key × V)}{k:Key}{u:Value}{A:Around}{E:Value->Shared->Prop}
def Cc(I:Inv X pins σ H s)(e:Rd H a (.dK kvs))(h:∀ t s',Inv X pins σ H s'->Q (.int kvs.length t) s'):wpAny (model X.prog X.w) A (call (.builtin "len") [.ref a]) Q E s:=by
 obtain⟨z,hd,vs,rel,dd⟩:=eM I.hok e;refine call_len_dict hd dd (by rw[<-rel.length];rw[sizeLine_eq]at z;omega) ?_;rw[<-rel.length];exact h _ _ (I.tok _)
end
abbrev qo(i:Expr):Prop:=∀ ov iv,subscripted i false ov iv=operate [ov,iv] (getItem ov iv)
def wW{prog:Program}{w:World}{A:Around}{E:Value->Shared->Prop}{s:Shared}{env:Env}{value slice:Expr}{pos:Pos}{T id:String}{Q:Value->Shared->Prop}
 (hl:typeLookup (.type T) "__getitem__" = pure (some (.builtin id)))(hs:qo slice)
 (h:wpAny (model prog w) A (eval value env) (fun o s₁=>wpAny (model prog w) A (eval slice env) (fun i s₂=>s₂.TypeIs o T/\wpAny (model prog w) A (getItem o i) Q E s₂) E s₁) E s) :
  wpAny (model prog w) A (eval (.Subscript value slice pos) env) Q E s:=by
 refine Subscript_ (wpAny_mono h (fun o s₁ h₁=>wpAny_mono h₁ (fun i s₂ h₂=>?_) fun _ _ x=>x) fun _ _ x=>x);obtain⟨hT,h₂⟩:=h₂;unfold subscriptTail;refine wpAny_bind ?_;rw[getitemInPython_of_ne hT.not_modules];refine wpAny_bind (wpAny_specialOf hT hl ?_)
 have fin:wpAny (model prog w) A (subscripted slice false o i) (fun r s₃=>wpAny (model prog w) A (letTemporaryGo value o r >>= fun _=>pure r) Q E s₃) E s₂:=by
  rw[hs o i];exact wpAny_operating (wpAny_mono h₂ (fun r s₃ h₃=>wpAny_bind (wpAny_letTemporaryGo (wpAny_pure h₃))) fun _ _ x=>x)
 first
  | exact wpAny_pure (wpAny_bind fin)
  | exact wpAny_bind (wpAny_pure (wpAny_bind fin))
  | exact wpAny_bind fin
def nN(I:Inv X pins σ H s)(g:bU H a y o):s.TypeIs (.ref a) "dict" := by
 rcases g with⟨kvs,k,e,_,_⟩ | ⟨kvs,k,b,e,_,_,_⟩
 ·obtain⟨_,_,vs,_,dd⟩:=eM I.hok e;exact dd.typeIs
 ·obtain⟨_,_,xs,_,dd⟩:=gf I.hok e;exact dd.typeIs
abbrev CJ(td ty:TE):TE:=fun σ H Q=>td σ H fun x H1=>ty σ H1 fun y H2=>∃ a v,x=.ref a/\bU H2 a y (some v)/\Q v H2
abbrev As(ty td:TE):TE:=fun σ H Q=>ty σ H fun y H1=>td σ H1 fun x H2=>∃ a o,x=.ref a/\bU H2 a y o/\Q (.bl o.isSome) H2
abbrev oF(ty td:TE):TE:=fun σ H Q=>ty σ H fun y H1=>td σ H1 fun x H2=>∃ a o,x=.ref a/\bU H2 a y o/\Q (.bl (!o.isSome)) H2
abbrev pI(td ty tv:TE):TS:=fun D σ H=>tv σ H fun v H1=>td σ H1 fun x H2=>ty σ H2 fun y H3=>∃ a H4,x=.ref a/\gP H3 a y v H4/\D.nx σ H4
section
variable{X:Cx}{o i e value:Expr}{pos pos' tpos:Pos}{td ty tv:TE}
def xU(hu:X.A.units+1<cLine)(ho:PE X o td)(hi:PE X i ty)(hs:qo i):PE X (.Subscript o i pos) (CJ td ty):=by
 intro pins s σ H Q I h;refine wW PySem.F.slot_dict_getitem.lookup hs (thn (ho pins s σ H _ I h) fun u s1 ⟨x,H1,I1,rx,q1⟩=>thn (hi pins s1 σ H1 _ I1 q1) fun iv s2 ⟨y,H2,I2,ry,a,v,ex,g,q2⟩=>?_);subst ex;obtain rfl:u=Value.ref a:=rx;exact⟨nN I2 g,rG hu I2 g ry fun w' s3 I3 rw'=>⟨v,H2,I3,rw',q2⟩⟩
def Bx(hu:X.A.units+1<cLine)(hi:PE X i ty)(ho:PE X o td):PC X .In i o (As ty td):=by
 intro pins s σ H Q I h;refine thn (hi pins s σ H _ I h) fun iv s1 ⟨y,H1,I1,ry,q1⟩=>thn (ho pins s1 σ H1 _ I1 q1) fun u s2 ⟨x,H2,I2,rx,a,ov,ex,g,q2⟩=>?_;subst ex;obtain rfl:u=Value.ref a:=rx
 exact Df hu I2 g ry fun s3 I3=>⟨.bl ov.isSome,H2,I3,rfl,q2⟩
def sD(hu:X.A.units+1<cLine)(hi:PE X i ty)(ho:PE X o td):PC X .NotIn i o (oF ty td):=by
 intro pins s σ H Q I h;refine thn (hi pins s σ H _ I h) fun iv s1 ⟨y,H1,I1,ry,q1⟩=>thn (ho pins s1 σ H1 _ I1 q1) fun u s2 ⟨x,H2,I2,rx,a,ov,ex,g,q2⟩=>?_;subst ex;obtain rfl:u=Value.ref a:=rx
 exact wc hu I2 g ry fun s3 I3=>⟨.bl (!ov.isSome),H2,I3,rfl,q2⟩
def wo(hu:X.A.units+1<cLine)(ho:PE X o td)(hi:PE X i ty)(hv:PE X value tv)(hs:swapsWith value (some (.Subscript o i pos')) pos.line X.env=pure false) :
  PS X (.Assign [.Subscript o i pos'] value pos) (pI td ty tv):=by
 intro pins s σ H D I h;refine wpAny_Assign_Subscript (thn (hv pins s σ H _ I h) fun r s1 ⟨v,H1,I1,rv,q1⟩=>thn (ho pins s1 σ H1 _ I1 q1) fun u s2 ⟨x,H2,I2,rx,q2⟩=>thn (hi pins s2 σ H2 _ I2 q2) fun iv s3 ⟨y,H3,I3,ry,a,H4,ex,g,q3⟩=>?_) hs;subst ex;obtain rfl:u=Value.ref a:=rx
 exact rf hu I3 g ry rv fun s4 I4=>⟨σ,H4,I4,q3⟩
end
def vh(h:Heap)(hb:sysModules<h.objs.size):aM P w H (h.push { cls:=.type "dict",data:=.dict #[] }) h.objs.size (.dK []) :=
 ⟨Nat.zero_le _,beq_eq_false_iff_ne.mpr (Ne.symm (Nat.ne_of_lt hb)),[],.nil,Heap.DictOf.new h⟩
def ny(h:Heap)(hb:sysModules<h.objs.size):aM P w H (h.push { cls:=.type "dict",data:=.dict #[] }) h.objs.size (.dT []) :=
 ⟨Nat.zero_le _,beq_eq_false_iff_ne.mpr (Ne.symm (Nat.ne_of_lt hb)),[],.nil,_,#[],0,Heap.get?_push_size _ rfl,⟨rfl,rfl,rfl⟩,rfl,rfl,List.nodup_nil⟩
abbrev Ak:TE:=fun _ H Q=>∀ p,H p=none->Q (.ref p) (upd H p (.dK []))
abbrev zo:TE:=fun _ H Q=>∀ p,H p=none->Q (.ref p) (upd H p (.dT []))
section
variable{X:Cx}{pos:Pos}
def ug:PE X (.Dict [] [] pos) Ak:=fun pins s σ H Q I h =>
 wpAny_Dict_empty ⟨.ref s.heap.objs.size,_,I.laid (a:=s.heap.objs.size) (o:=.dK []) (t':=s.toks) (fun _ _ q=>Heap.get?_push_of_some _ q) (Nat.le_refl _) (vh s.heap I.big),rfl,h _ (I.hok.fresh (Nat.le_refl _))⟩
def tF:PE X (.Dict [] [] pos) zo:=fun pins s σ H Q I h =>
 wpAny_Dict_empty ⟨.ref s.heap.objs.size,_,I.laid (a:=s.heap.objs.size) (o:=.dT []) (t':=s.toks) (fun _ _ q=>Heap.get?_push_of_some _ q) (Nat.le_refl _) (ny s.heap I.big),rfl,h _ (I.hok.fresh (Nat.le_refl _))⟩
end
abbrev lF:List (TE × TE)->St->Hp->(List (V × V)->Hp->Prop)->Prop
 | [],_,H,Q=>Q [] H
 | (tk,tv)::r,σ,H,Q=>tk σ H fun x H1=>tv σ H1 fun y H2=>lF r σ H2 fun ps H3=>Q ((x,y)::ps) H3
@[reducible]noncomputable def VV:List (V × V)->List (Value × Value)->Prop:=Paired fun p q=>RelV p.1 q.1/\RelV p.2 q.2
abbrev PPs(X:Cx)(pos:Pos)(keys:List (Option Expr))(values:List Expr)(trs:List (TE × TE)):Prop :=
 ∀ (pins:List (Addr × Obj)) (s:Shared) (σ:St) (H:Hp) (Q:List (V × V)->Hp->Prop),Inv X pins σ H s->lF trs σ H Q ->
  wpAny (model X.prog X.w) X.A (evalPairs (pairTrees keys values X.env pos)) (fun vs s'=>∃ ps H',Inv X pins σ H' s'/\VV ps vs/\Q ps H') X.xe s
def x3:PPs X pos [] [] []:=fun pins s σ H Q I h=>pairTrees_nil_walk ⟨[],H,I,.nil,h⟩
def uN(hk:PE X k tk)(hv:PE X v tv)(hr:PPs X pos ks vs trs) :
  PPs X pos (some k::ks) (v::vs) ((tk,tv)::trs):=fun pins s σ H Q I h =>
 pairTrees_cons_walk (thn (hk pins s σ H _ I h) fun u s1 ⟨x,H1,I1,rx,q1⟩=>thn (hv pins s1 σ H1 _ I1 q1) fun w2 s2 ⟨y,H2,I2,ry,q2⟩ =>
  thn (hr pins s2 σ H2 _ I2 q2) fun ws s3 ⟨ps,H3,I3,rel,q3⟩=>⟨(x,y)::ps,H3,I3,.cons ⟨rx,ry⟩ rel,q3⟩)
structure M2(X:Cx)(o:Expr)(m:Str)(apos:Pos)(e f:Expr)(cpos:Pos):Prop where
 base:attributeBase o m X.env (eval o X.env)=eval o X.env
 few:((backTo cpos (starEach [e,f] X.env)).all (fun x=>!x.1)&&(backToKw cpos (keywordEach [] X.env)).all (fun x=>x.1.isSome)
  && decide (([e,f]:List Expr).length+([]:List Keyword).length+(if([]:List Keyword).isEmpty then 0 else 1)<30))=true
 line:(apos.endLine == cpos.line)=true
 trees:backTo cpos (starEach [e,f] X.env)=[(false,eval e X.env),(false,eval f X.env)]
abbrev IsD(H:Hp)(a:Addr):Prop:=(∃ kvs,Rd H a (.dK kvs))\/∃ kvs,Rd H a (.dT kvs)
def zV(I:Inv X pins σ H s)(d:IsD H a) :
  s.TypeIs (.ref a) "dict" /\ (∀ b,Value.ref a=.ref b->∃ ob,s.heap.get? b=some ob/\ob.dict=none)/\(a == sysModules)=false:=by
 rcases d with⟨kvs,e⟩ | ⟨kvs,e⟩
 ·obtain⟨_,hd,vs,_,dd⟩:=eM I.hok e;refine⟨dd.typeIs,fun b q=>?_,hd⟩;cases q;obtain⟨ob,_,_,h1,h2,_⟩:=dd;exact⟨ob,h1,h2.2.1⟩
 ·obtain⟨_,hd,xs,_,dd⟩:=gf I.hok e;refine⟨dd.typeIs,fun b q=>?_,hd⟩;cases q;obtain⟨ob,_,_,h1,h2,_⟩:=dd;exact⟨ob,h1,h2.2.1⟩
section
variable{X:Cx}{pins:List (Addr × Obj)}{σ:St}{H:Hp}{s:Shared}{a:Addr}{y d:V}{u r:Value}{o:Option V}{A:Around}{E:Value->Shared->Prop}
def zE(hu:A.units+1<cLine)(I:Inv X pins σ H s)(g:bU H a y o)(ry:RelV y u)(rd:RelV d r)(h:∀ w' s',Inv X pins σ H s'->RelV (o.getD d) w'->Q w' s') :
  wpAny (model X.prog X.w) A (call (.builtin "dict.get") [.ref a,u,r]) Q E s:=by
 rcases g with⟨kvs,k,e,ey,l⟩ | ⟨kvs,k,b,e,ey,eb,l⟩
 ·subst ey;obtain⟨z,hd,vs,rel,dd⟩:=eM I.hok e;refine call_meetsIn PySem.F.slot_dict_get dd.typeIs PySem.F.entry_dict_get (PySem.F.args_dict_get_3 _ _ _) (meets_dict_get_default (aT X.prog X.w) a (ig ry) hd r) ⟨_,dd.mapOf,h _ _ (I.tok _) ?_⟩;rw[l];exact(rel.val k).getD rd
 ·subst ey;cases(show u=Value.ref b from ry);obtain⟨z,hd,xs,rel,dd⟩:=gf I.hok e;refine call_meetsIn PySem.F.slot_dict_get dd.typeIs PySem.F.entry_dict_get (PySem.F.args_dict_get_3 _ _ _) (meetsH_dict_get_default (tupleKind (aT X.prog X.w)) a b hd r) ⟨tupleKind_room_in1 hu,k,xs,dW I.hok eb,dd,h _ _ (I.tok _) ?_⟩;rw[l];exact(rel.val k).getD rd
end
abbrev yd(td ty tx:TE):TE:=fun σ H Q=>td σ H fun x H1=>∃ a,x=.ref a/\IsD H1 a/\ty σ H1 fun y H2=>tx σ H2 fun z H3=>∃ o,bU H3 a y o/\Q (o.getD z) H3
section
variable{X:Cx}{o e f:Expr}{apos cpos:Pos}{td ty tx:TE}
def tN(hu:X.A.units+1<cLine)(ho:PE X o td)(he:PE X e ty)(hf:PE X f tx)(m:M2 X o "get" apos e f cpos):PE X (.Call (.Attribute o "get" apos) [e,f] [] cpos) (yd td ty tx):=by
 intro pins s σ H Q I h;refine wpAny_Call_method m.base m.few m.line PySem.F.plainAttrs_dict PySem.F.slot_dict_get PySem.F.type_dict_get (thn (ho pins s σ H _ I h) fun u s1 ⟨x,H1,I1,rx,a,ex,d,q1⟩=>?_);subst ex;obtain rfl:u=Value.ref a:=rx;obtain⟨t1,t2,_⟩:=zV I1 d;refine⟨t1,t2,?_⟩;rw[m.trees]
 refine Calls.callWith_builtin rfl (Calls.evalArgs_plain (Calls.spliced_cons (thn (he pins s1 σ H1 _ I1 q1) fun iv s2 ⟨y,H2,I2,ry,q2⟩ =>
  Calls.spliced_cons (thn (hf pins s2 σ H2 _ I2 q2) fun fv s3 ⟨z,H3,I3,rz,ov,g,q3⟩=>Calls.spliced_nil ?_))))
 exact zE hu I3 g ry rz fun w' s4 I4 rw'=>⟨_,H3,I4,rw',q3⟩
end
section
variable{X:Cx}{pins:List (Addr × Obj)}{σ:St}{H:Hp}{s:Shared}{a:Addr}{kvs:List (Key × V)}{A:Around}{E:Value->Shared->Prop}
end
section
variable{X:Cx}{pins:List (Addr × Obj)}{σ:St}{H:Hp}{s:Shared}{a:Addr}{y:V}{u:Value}{A:Around}{E:Value->Shared->Prop}
end
end L2
namespace Att
open PySem PySem.W PySem.Calls PyProof.Rows
def jB:∀ (ns:List Int) (vs:List Value),WellAll P h vs (ns.map WData.int)->IntsAre vs ns:=by
 intro ns
 induction ns with
 |nil=>
  intro vs w;rw[List.map_nil]at w;cases w;exact .nil
 |cons n ns ih=>
  intro vs w;rw[List.map_cons]at w
  cases w with
  |cons a b=>
   cases a;exact .cons _ _ (ih _ b)
def qX{l:OpenLaw}{n:Nat}(hn:l.most=some n){P:Params}{h:Heap}{args:List WData}{vals:List Value}
 (hpre:l.row.toRowW.claim.pre args=true)(hwl:WellAll P h vals args) :
  ∃ a vs ns,vals=[Value.ref a]/\args=[WData.list (ns.map WData.int)]/\h.get? a=some { cls:=.type "list",data:=.seq vs.toArray }/\IntsAre vs ns/\ns.length<=n:=by
 have hsh:WShape.hasAll [] args [.list .int]=true:=(pre_splitW hpre).1;have hc:l.pre.holds [] { args:=args }=true:=(pre_splitW hpre).2;obtain⟨d,r,rfl,h1,h2⟩:=hasAllW_cons hsh;obtain rfl:=hasAllW_nil h2;obtain⟨xs,rfl,h3⟩:=hasW_list h1;obtain⟨ns,rfl⟩:=items_int h3
 have hlen:ns.length<=n:=by
  unfold OpenLaw.pre at hc
  have h4:(WTm.not (.lt (.lit (.int (n:Int))) (.len (.arg 0)))).holds [] { args:=[.list (ns.map .int)] }=true:=by
   have h4:=(holds_andW hc).1;rw[hn]at h4;exact h4
  have h5:=condW_of h4 (w_not (w_lt w_lit (w_len_list (w_arg rfl))));rw[List.length_map]at h5;refine Nat.le_of_not_lt fun q=>?_
  have q':(n:Int)<((ns.length:Nat):Int):=by omega
  first
   | (rw[decide_eq_true q']at h5;exact absurd h5 (by decide))
   | (simp at h5;omega)
 cases hwl with
 |cons w1 w2=>
  cases w2
  cases w1 with
  | list ho hall=>exact⟨_,_,ns,rfl,rfl,ho,jB ns _ hall,hlen⟩
def rm(l:OpenLaw)(args:List WData):l.row.toRowW.claim.post args (.bool true) args=true :=
 postW_of (r:=l.row.toRowW) (X:=(true == true))
  (show WShape.has [] (.bool true) .bool=true by first | rfl | decide | simp[WShape.has,WShape.arms,WShape.armsAll])
  (show(WTm.eq .res (.lit (.bool true))).value [] { args:=args,res:=some (.bool true),after:=args }=some (.bool (true == true))from w_eq_bool (w_res rfl) w_lit) rfl
def nL{l:OpenLaw}{n:Nat}{q:Program}{loose:List Str}{XP:(Str->Option Value)->Heap->Prop}{YP:World->Heap->Prop}{d:DefRec}
 (hn:l.most=some n)(hdf:d.params.defaults=[])
 (call:∀ (w:World) (s₀ s₁:Shared) (mg mb:Str->Option Value) (fa:Addr) (o:Obj) (pm cd doc:Value) (a:Addr) (vs:List Value) (ns:List Int),
   Ground q loose [] XP w s₀ mg mb s₁.heap->YP w s₁.heap ->
   s₁.heap.get? fa=some o->o.data=.func (docDef d.name d.params d.body d.scope pm cd doc)->s₁.heap.CodeRec cd d.name->mg d.name=some (.ref fa) ->
   s₁.heap.get? a=some { cls:=.type "list",data:=.seq vs.toArray }->IntsAre vs ns->ns.length<=n->s₁.gens=#[] ->
   codeAny (model l.prog w) callerA (.call (.ref fa) ⟨[.ref a],[]⟩) (fun r s'=>r=.ok (.ret (.bool true))/\OldK s₁.heap s'.heap/\s'.os=s₁.os/\AllBare s'.gens) s₁) :
  WalkO q loose XP YP l.row.toRowW d [] (fun f vs=>PySem.call f vs):=by
 intro w s₀ s₁ mg mb G Y fa o pm cd doc dV kV ho hd hcd hD hmg hg args vals as hpre hlay hrd hwl hlo;obtain rfl:dV=.none:=Dflts.none hD hdf;obtain rfl:kV=.none:=Dflts.noKw hD;obtain⟨a,vs,ns,rfl,rfl,hobj,hints,hlen⟩:=qX hn hpre hwl;refine enter_call (codeAny_mono (call w s₀ s₁ mg mb fa o pm cd doc a vs ns G Y ho (fd_plain hd) hcd hmg hobj hints hlen hg) fun r s' hq=>?_);obtain⟨rfl,h2,h3,h4⟩:=hq;exact⟨.inl ⟨.bool true,.bool true,[],rfl,fun _=>rfl,.bool true,rm l _,fun _=>⟨List.Pairwise.nil,fun _ hm=>(nomatch hm)⟩⟩,h2,h3,h4⟩
section
variable{prog:Program}{w:World}{A:Around}{E:Value->Shared->Prop}{s:Shared}{K:Frag}
end
end Att
namespace L2
open PySem PySem.Spec PyProof.Rows
def eG:∀ {vs:List Value} {ns:List Int},IntsAre vs ns->Vals (ns.map V.int) vs
 | _,_,.nil=>.nil
 | _,_,.cons n t h=>.cons ⟨t,rfl⟩ (eG h)
abbrev lE(H:Hp):Prop:=∀ b,H b=none\/∃ o xs,H b=some (.frz o (.lst xs))
def uV{P:Program}{w:World}{K:PySem.W.Frag}{mg mb:Str->Option Value}{CX:CXT}{k:Nat}{fa a:Addr}{fd:FuncData}{x:Str}{sp:Sp}{s₁:Shared}{vs:List Value}{ns:List Int}
 (KX:K.In s₁.heap)(hns:s₁.heap.Ns mainGlobals mg)(hb:s₁.heap.Ns builtinsNs mb)(hbb:∀ x:Str,x ≠ "__name__" -> mb x=bootBuiltins x)(hlim:s₁.heap.NoLimit)(hg:s₁.gens=#[])
 (ha:s₁.heap.get? a=some { cls:=.type "list",data:=.seq vs.toArray })(hi:IntsAre vs ns)(hl:ns.length<=sizeLine)(hr:cm k callerA)
 (F:∀ base:Heap,K.In base->base.Ns mainGlobals mg->eT P w K mg base CX k fa fd [x] sp)(hbind:∀ (s:Shared) (u:Value),BindsTo s fd ⟨[u],[]⟩ [(x,u)])
 (hsp:∀ H:Hp,lE H->SqL K H a (ns.map V.int)->sp [.ref a] H (fun v _=>v=.bl true) fun _ _ _=>False)
 (hCX:∀ H e s',CX [] H s₁ (fun _ _ _=>False) e s'->False) :
  codeAny (model P w) callerA (.call (.ref fa) ⟨[.ref a],[]⟩) (fun r s'=>r=.ok (.ret (.bool true))/\OldK s₁.heap s'.heap/\s'.os=s₁.os/\AllBare s'.gens) s₁:=by
 have rv:=eG hi;have lenV:=hi.length
 have core:∀ H:Hp,lE H->SqL K H a (ns.map V.int)->HOk P w H s₁.heap->(∀ b,H b≠none->b=a)->(H a≠none->K.lookup a=none) ->
   codeAny (model P w) callerA (.call (.ref fa) ⟨[.ref a],[]⟩) (fun r s'=>r=.ok (.ret (.bool true))/\OldK s₁.heap s'.heap/\s'.os=s₁.os/\AllBare s'.gens) s₁:=by
  intro H hO hS hok hA hK;have base_of:∀ {b:Addr} {o:Obj},s₁.heap.get? b=some o->H b=none->(fR s₁.heap H).get? b=some o:=fun e n=>uk e n
  have noA:∀ {b:Addr} {o:Obj} {es:Array DictEntry} {ep:Nat},s₁.heap.get? b=some o->o.data=.dict es ep->H b=none:=fun {b o es ep} e d=>by
   cases q:H b with
   | none=>rfl
   |some u=>
    have e':b=a:=hA b (by rw[q];simp);subst e';rw[ha]at e;cases e;have d':Data.seq vs.toArray _=Data.dict es ep:=d;cases d'
  have nsK:∀ {b:Addr} {m:Str->Option Value},s₁.heap.Ns b m->(fR s₁.heap H).Ns b m:=fun {b m} ⟨o,es,ep,e,d,r⟩=>⟨o,es,ep,base_of e (noA e d),d,r⟩
  have hKb:K.In (fR s₁.heap H):=fun b o e=>base_of (KX b o e) (by
   cases q:H b with
   | none=>rfl
   |some u=>
    have e':b=a:=hA b (by rw[q];simp);subst e'
    rw[hK (by rw[q];simp)]at e;cases e)
  have hM:Mod K mg (fR s₁.heap H):=⟨hKb,nsK hns,⟨mb,nsK hb,hbb⟩,let ⟨mc,h1,h2⟩:=hlim;⟨mc,nsK h1,h2⟩⟩
  have e0:pL P w K mg (fR s₁.heap H) callerA [] s₁ H:=⟨rfl,hM,fun b o e=>xT e,Nat.le_of_eq (qS _ _),trivial,fun b hb=>absurd (show b∈([]:List Addr)from hb) (by simp),hok,.of_eq hg⟩
  refine codeAny_mono ((F _ hKb (nsK hns)).run callerA [] s₁ H ⟨[.ref a],[]⟩ [.ref a] [.ref a] _ _ hr e0 (hbind s₁ (.ref a)) (.cons rfl .nil) (hsp H hO hS)) fun r s' h=>?_
  cases r with
  | error e=>exact(hCX H e s' h).elim
  |ok fl=>
   cases fl with
   | next=>exact False.elim h
   | brk=>exact False.elim h
   | cont=>exact False.elim h
   |ret u=>
    obtain⟨v,H',os,bare,un,hok',r',q⟩:=h;have q':v=.bl true:=q;subst q';obtain rfl:u=Value.bool true:=r';refine⟨rfl,OldK.of_keep fun b o e=>?_,os,bare⟩
    cases q:H b with
    | none=>exact un.keep b o e q (by intro z;exact absurd (show b∈([]:List Addr)from z) (by simp)) (by simp)
    |some u=>
     rcases hO b with z | ⟨ob,xs,z⟩
     ·rw[q]at z;cases z
     ·have z2:=un.dO b ob _ z;obtain⟨e1,_⟩:=hok b _ z;obtain⟨e2,_⟩:=hok' b _ z2;rw[e]at e1;cases e1;exact e2
 cases hk:K.lookup a with
 |some o=>
  have e:=KX a o hk;rw[ha]at e;cases e;refine core (fun _=>none) (fun _=>.inl rfl) (.inr ⟨_,vs.toArray,_,hk,rfl,rfl,rfl,by rw[List.size_toArray,lenV];exact hl,by simpa using rv⟩) (fun b u z=>by have z':(none:Option HO)=some u:=z;cases z') (fun b z=>absurd rfl z) fun z=>absurd rfl z
 |none=>
  refine core (fun b=>if b=a then some (.frz { cls:=.type "list",data:=.seq vs.toArray } (.lst (ns.map V.int)))else none) (fun b=>?_) (.inl (.inr ⟨{ cls:=.type "list",data:=.seq vs.toArray },if_pos rfl⟩)) (fun b u z=>?_) (fun b z=>?_) fun _=>hk
  ·by_cases hb:b=a
   ·exact .inr ⟨_,_,if_pos hb⟩
   ·exact .inl (if_neg hb)
  ·by_cases hb:b=a
   ·have z':=(if_pos hb).symm.trans z;cases z';subst hb;exact⟨ha,by rw[List.length_map];exact hl,vs,_,rv,ha⟩
   ·have z':=(if_neg hb).symm.trans z;cases z'
  ·by_cases hb:b=a
   ·exact hb
   ·exact absurd (if_neg hb) z
@[reducible]noncomputable def KOf{K:PySem.W.Frag}{h:Heap}(_:K.In h):PySem.W.Frag:=K
def oV{l:PySem.W.OpenLaw}{n k:Nat}{q:Program}{loose:List Str}{XP:(Str->Option Value)->Heap->Prop}{YP:World->Heap->Prop}{d:DefRec}{K:Params->PySem.W.Frag}{CX:World->CXT}{sp:World->Sp}{x:Str}
 (hn:l.most=some n)(hn2:n<=sizeLine)(hdf:d.params.defaults=[])(hr:cm k callerA)
 (hY:∀ (w:World) (h:Heap),YP w h->(K w.params).In h)
 (F:∀ (w:World) (mg:Str->Option Value) (fa:Addr) (h:Heap),(K w.params).In h->h.Ns mainGlobals mg->mg d.name=some (.ref fa) ->
   ∃ fd:FuncData,(∀ (s:Shared) (u:Value),BindsTo s fd ⟨[u],[]⟩ [(x,u)]) /\
    ∀ base:Heap,(K w.params).In base->base.Ns mainGlobals mg->eT l.prog w (K w.params) mg base (CX w) k fa fd [x] (sp w))
 (hsp:∀ (w:World) (H:Hp) (a:Addr) (ns:List Int),ns.length<=n->lE H->SqL (K w.params) H a (ns.map V.int)->sp w [.ref a] H (fun v _=>v=.bl true) fun _ _ _=>False)
 (hCX:∀ (w:World) (H:Hp) (s:Shared) (e:Value) (s':Shared),CX w [] H s (fun _ _ _=>False) e s'->False) :
  PySem.W.WalkO q loose XP YP l.row.toRowW d [] (fun f vs=>PySem.call f vs):=by
 refine Att.nL hn hdf fun w s₀ s₁ mg mb fa o pm cd doc a vs ns G Y ho hd hcd hmg hobj hints hlen hg=>?_;have KX:=hY w _ Y;obtain⟨fd,hb,hF⟩:=F w mg fa _ KX G.T.g hmg;exact uV KX G.T.g G.T.b G.T.builtins G.T.nolimit hg hobj hints (Nat.le_trans hlen hn2) hr hF hb (fun H hO hS=>hsp w H a ns hlen hO hS) fun H e s'=>hCX w H s₁ e s'
def uU{l:PySem.W.OpenLaw}{n k:Nat}{q:Program}{loose:List Str}{XP:(Str->Option Value)->Heap->Prop}{YP:World->Heap->Prop}{d:DefRec}{K:Params->PySem.W.Frag}{CX:CXT}{sp:PySem.W.Frag->Sp}{x:Str}
 (hn:l.most=some n)(hn2:n<=sizeLine)(hdf:d.params.defaults=[])(hr:cm k callerA)
 (hY:∀ (w:World) (h:Heap),YP w h->(K w.params).In h)
 (F:∀ (w:World) (mg:Str->Option Value) (fa:Addr) (h:Heap),(K w.params).In h->h.Ns mainGlobals mg->mg d.name=some (.ref fa) ->
   ∃ fd:FuncData,(∀ (s:Shared) (u:Value),BindsTo s fd ⟨[u],[]⟩ [(x,u)]) /\
    ∀ base:Heap,(K w.params).In base->base.Ns mainGlobals mg->eT l.prog w (K w.params) mg base CX k fa fd [x] (sp (K w.params)))
 (hsp:∀ (K:PySem.W.Frag) (H:Hp) (a:Addr) (ns:List Int),ns.length<=n->lE H->SqL K H a (ns.map V.int)->sp K [.ref a] H (fun v _=>v=.bl true) fun _ _ _=>False)
 (hCX:∀ (H:Hp) (s:Shared) (e:Value) (s':Shared),CX [] H s (fun _ _ _=>False) e s'->False) :
  PySem.W.WalkO q loose XP YP l.row.toRowW d [] (fun f vs=>PySem.call f vs) :=
 oV (K:=K) (CX:=fun _=>CX) (sp:=fun w=>sp (K w.params)) hn hn2 hdf hr hY F (fun w H a ns h1 h2 h3=>hsp (K w.params) H a ns h1 h2 h3) fun _ H s e s'=>hCX H s e s'
abbrev dF(s:Stmt):Arguments:=match s with
 | .FunctionDef _ a _ _ _ _ _ _ _ _=>a
 | _=>{ posonlyargs:=[],args:=[],vararg:=none,kwonlyargs:=[],kw_defaults:=[],kwarg:=none,defaults:=[] }
abbrev cz(s:Stmt):List Stmt:=match s with
 | .FunctionDef _ _ b _ _ _ _ _ _ _=>b
 | _=>[]
abbrev bg(s:Stmt):Scope:=match s with
 | .FunctionDef _ _ _ _ _ _ sc _ _ _=>sc
 | _=>{ kind:=.function,names:=[],isGenerator:=false,isCoroutine:=false }
@[reducible]noncomputable def CX0:CXT:=fun _ _ _ _ _ _=>False
@[reducible]noncomputable def E0:XK:=fun _ _ _=>False
def vH:Passes CX0 X E0:=fun _ _ _ _ _ _ _ h=>h.elim
structure Fun(K:PySem.W.Frag)(x qual:Str)(st:Stmt)(f:Addr)(fd:FuncData):Prop where
 ex:∃ (oc:Value) (od:Option Addr) (kV doc pm:Value) (an:Option Addr) (cdv ct:Value) (osl:Array (Option Value)),
  fd=PySem.W.fnOf x qual (dF st) (cz st) (bg st) .none kV doc pm an cdv ct/\K.lookup f=some ⟨oc,od,.func fd,osl⟩/\PySem.W.codeIn K cdv qual=true
 kp:PySem.W.keepIn K (.ref f)=true
section
variable{P:Program}{w:World}{K:PySem.W.Frag}{mg:Str->Option Value}{base:Heap}
def Fun.ok{x qual:Str}{st:Stmt}{f:Addr}{fd:FuncData}{N ps:List Str}{k:Nat}{sp:Sp}(F:Fun K x qual st f fd)(S:gY N ps (bg st))(len:∀ vs H Q E,sp vs H Q E->vs.length=ps.length)
 (hbody:∀ (cdv:Value) (A:Around) (outer:List Env) (s:Shared) (H:Hp) (vs:List V) (Q:VK) (E:XK),cm k (A.deeper (envOfC qual (bg st) s.heap.objs.size f cdv))->sp vs H Q E ->
   ∃ t,PSs (iR CX0 P w K mg base N qual (bg st) f cdv A outer s H E).nox (cz st) t/\t { nx:=fun _ H'=>Q .non H',rt:=Q } (start N vs) H):eT P w K mg base CX0 (k+1) f fd ps sp:=by
 obtain⟨oc,od,kV,doc,pm,an,cdv,ct,osl,rfl,lk,hcd⟩:=F.ex;refine CL lk hcd S len fun A outer s H vs Q E hr hsp=>?_;obtain⟨t,h,q⟩:=hbody cdv A outer s H vs Q E hr hsp;exact⟨t,h.nox,q⟩
def Fun.binds{x qual:Str}{st:Stmt}{f:Addr}{fd:FuncData}{ps:List Str}(F:Fun K x qual st f fd)
 (h:∀ (kV doc pm:Value) (an:Option Addr) (cdv ct:Value) (us:List Value),us.length=ps.length->bindArgs (PySem.W.fnOf x qual (dF st) (cz st) (bg st) .none kV doc pm an cdv ct) ⟨us,[]⟩=pure (ps.zip us)):Binds K fd ps []:=by
 obtain⟨oc,od,kV,doc,pm,an,cdv,ct,osl,rfl,lk,hcd⟩:=F.ex;exact .all (h kV doc pm an cdv ct)
def qG{x qual:Str}{st:Stmt}{f:Addr}{oc:Value}{od an:Option Addr}{osl:Array (Option Value)}{kV doc pm cdv ct:Value}(l:K.lookup f=some ⟨oc,od,.func (PySem.W.fnOf x qual (dF st) (cz st) (bg st) .none kV doc pm an cdv ct),osl⟩)
 (c:PySem.W.codeIn K cdv qual=true)(k:PySem.W.keepIn K (.ref f)=true):Fun K x qual st f (PySem.W.fnOf x qual (dF st) (cz st) (bg st) .none kV doc pm an cdv ct):=⟨⟨oc,od,kV,doc,pm,an,cdv,ct,osl,rfl,l,c⟩,k⟩
end
def kB(h:n<=1000):n<sizeLine:=Nat.lt_of_le_of_lt h (by decide)
section
variable{X:Cx}
end
def d4{A B:Prop}(h:B):if false=true then A else B:=by
 rw[if_neg Bool.false_ne_true];exact h
def c8{A B:Prop}(h:A):if true=true then A else B:=by
 rw[if_pos rfl];exact h
abbrev ao(H H':Hp):Prop:=∀ b o,H b=some o->H' b=some o
def ao.refl(H:Hp):ao H H:=fun _ _ h=>h
def ao.trans(a:ao H H1)(b:ao H1 H2):ao H H2:=fun c o h=>b c o (a c o h)
def ao.free(e:ao H H')(h:H' l=Option.none):H l=Option.none:=by
 cases q:H l with
 | none=>rfl
 |some o=>
  rw[e l o q]at h;cases h
section
variable{X:Cx}
def rX:aH X (.builtin "len") (fun xs H Q=>∃ a kvs,xs=[V.ref a]/\H a=some (.dK kvs)/\Q (.int kvs.length) H):=by
 intro pins s σ H xs us Q I r h;obtain⟨a,kvs,rfl,ha,q⟩:=h;obtain⟨u,rfl,ru⟩:=vals1 r;cases ru
 exact Cc I (.inl ha) fun t s' I'=>⟨.int kvs.length,H,I',⟨t,rfl⟩,q⟩
end
section
variable{κ:Type} [DecidableEq κ]
end
end L2
namespace RS
open PySem PySem.Spec PyProof.Rows L2
@[reducible]def VE:List Value:=[.type "ValueError",.type "Exception",.type "BaseException",.type "object"]
abbrev u7:List Str:=["RibbonError", "BadPegs", "BadFrame", "BadHalf", "BadHook", "BadName", "NoNumber", "NoFrame", "NoStack", "NoPlace", "Taken", "Full", "NothingThere", "BadTrade", "Hangs", "BadPage"]
abbrev Be(f:Option PySem.Builtin.ObjectAttr.Found):Bool:=match f with
 | some (.bind (.builtin a) (.builtin b))=>a == "getset_descriptor.__get__" && b == "object.__class__"
 | _=>false
abbrev CF(K:PySem.W.Frag)(x:Str)(C:Addr):Bool :=
 PySem.W.excIn K C VE "ValueError.__new__" && PySem.W.findIn K (.ref C) "__getattribute__" == some (some (.builtin "BaseException.__getattribute__"))&&PySem.W.findIn K (.ref C) "__getattr__" == some none&&Be (PySem.W.findObj K C none "__class__") &&
 PySem.W.mroIn K C (.type "object") == some true&&PySem.W.subIn K (.ref C) (.type "BaseException") == some true&&(PySem.W.clsIn K C).isSome&&PySem.W.kitOne K (.ref C) (.type "ValueError") == some true &&
 u7.all fun c=>match PySem.W.nsIn K mainGlobals c with
  | some (some (.ref D))=>PySem.W.kitOne K (.ref C) (.ref D) == some (RL.wb x c)&&PySem.W.subIn K (.ref C) (.ref D) == some (RL.wb x c)
  | _=>true
structure Cls(K:PySem.W.Frag)(x:Str)(C:Addr):Prop where
 ns:PySem.W.nsIn K mainGlobals x=some (some (.ref C))
 ok:CF K x C=true
section
variable{K:PySem.W.Frag}
end
abbrev nP:Addr->Prop:=fun _=>False
abbrev gO(K:PySem.W.Frag)(H:Hp)(a:Addr)(xs:List V):Prop:=(∃ o,H a=some (.frz o (.lst xs)))\/SqL K (fun _=>none) a xs
def gO.seq{K:PySem.W.Frag}(h:gO K H a xs):SqL K H a xs:=by
 rcases h with⟨o,h⟩ | (h | ⟨o,h⟩) | h
 ·exact .inl (.inr ⟨o,h⟩)
 ·cases h
 ·cases h
 ·exact .inr h
def gO.same{K:PySem.W.Frag}(e:ao H H')(h:gO K H a xs):gO K H' a xs:=by
 rcases h with⟨o,h⟩ | h
 ·exact .inl ⟨o,e _ _ h⟩
 ·exact .inr h
abbrev ExV(K:PySem.W.Frag)(H:Hp)(c:Str)(v:V):Prop:=∃ a o u D vs,v=.ref a/\H a=some (.frz o u)/\(o.cls=.ref D/\o.dict=none)/\o.data=.fields vs/\vs[2]?=some .none/\Cls K c D
def ExV.keep{K:PySem.W.Frag}(h:ExV K H c v)(k:∀ b o u,H b=some (.frz o u)->H' b=some (.frz o u)):ExV K H' c v :=
 let ⟨a,o,u,D,vs,h1,h2,r⟩:=h;⟨a,o,u,D,vs,h1,k _ _ _ h2,r⟩
mutual
noncomputable def Rep(P:Addr->Prop)(K:PySem.W.Frag)(H:Hp):RL.D->V->Prop
 | .non,v=>v=.non
 | .bl b,v=>v=.bl b
 | .int i,v=>v=.int i
 | .str x,v=>v=.str x
 | .tup ds,v=>∃ a xs,v=.ref a/\H a=some (.tup xs)/\aa P K H ds xs
 | .lst ds,v=>∃ a xs,v=.ref a/\¬ P a/\H a=some (.lst xs)/\aa P K H ds xs
 | .dK ks ds,v=>∃ a xs,v=.ref a/\¬ P a/\H a=some (.dK (ks.zip xs))/\ks.length=ds.length/\aa P K H ds xs
 | .dT ks ds,v=>∃ a xs,v=.ref a/\¬ P a/\H a=some (.dT (ks.zip xs))/\ks.length=ds.length/\aa P K H ds xs
 | .scr ds,v=>∃ a xs,v=.ref a/\gO K H a xs/\aa P K H ds xs
 | .exc c,v=>ExV K H c v
 | .fT ks ds,v=>∃ a o xs,v=.ref a/\H a=some (.frz o (.dT (ks.zip xs)))/\ks.length=ds.length/\aa P K H ds xs
 | .fL ds,v=>∃ a o xs,v=.ref a/\H a=some (.frz o (.lst xs))/\aa P K H ds xs
noncomputable def aa(P:Addr->Prop)(K:PySem.W.Frag)(H:Hp):List RL.D->List V->Prop
 | [],xs=>xs=[]
 | d::r,xs=>∃ x t,xs=x::t/\Rep P K H d x/\aa P K H r t
end
mutual
theorem Rep.same{P:Addr->Prop}{K:PySem.W.Frag}{H H':Hp}(e:ao H H'):∀ {d:RL.D} {v:V},Rep P K H d v->Rep P K H' d v
 | .non,v,h=>by simpa[Rep]using h
 | .bl _,v,h=>by simpa[Rep]using h
 | .int _,v,h=>by simpa[Rep]using h
 | .str _,v,h=>by simpa[Rep]using h
 | .tup ds,v,h=>by
  rw[Rep]at h ⊢;obtain⟨a,xs,e1,e2,e3⟩:=h;exact⟨a,xs,e1,e _ _ e2,aa.same e e3⟩
 | .lst ds,v,h=>by
  rw[Rep]at h ⊢;obtain⟨a,xs,e1,e0,e2,e3⟩:=h;exact⟨a,xs,e1,e0,e _ _ e2,aa.same e e3⟩
 | .dK ks ds,v,h=>by
  rw[Rep]at h ⊢;obtain⟨a,xs,e1,e0,e2,el,e3⟩:=h;exact⟨a,xs,e1,e0,e _ _ e2,el,aa.same e e3⟩
 | .dT ks ds,v,h=>by
  rw[Rep]at h ⊢;obtain⟨a,xs,e1,e0,e2,el,e3⟩:=h;exact⟨a,xs,e1,e0,e _ _ e2,el,aa.same e e3⟩
 | .scr ds,v,h=>by
  rw[Rep]at h ⊢;obtain⟨a,xs,e1,e2,e3⟩:=h;exact⟨a,xs,e1,gO.same e e2,aa.same e e3⟩
 | .exc c,v,h=>by rw[Rep]at h ⊢;exact h.keep fun _ _ _ q=>e _ _ q
 | .fT ks ds,v,h=>by rw[Rep]at h ⊢;obtain⟨a,o,xs,e1,e2,el,e3⟩:=h;exact⟨a,o,xs,e1,e _ _ e2,el,aa.same e e3⟩
 | .fL ds,v,h=>by rw[Rep]at h ⊢;obtain⟨a,o,xs,e1,e2,e3⟩:=h;exact⟨a,o,xs,e1,e _ _ e2,aa.same e e3⟩
theorem aa.same{P:Addr->Prop}{K:PySem.W.Frag}{H H':Hp}(e:ao H H'):∀ {ds:List RL.D} {xs:List V},aa P K H ds xs->aa P K H' ds xs
 | [],xs,h=>by rw[aa]at h ⊢;exact h
 | d::r,xs,h=>by
  rw[aa]at h ⊢;obtain⟨x,t,e1,e2,e3⟩:=h;exact⟨x,t,e1,Rep.same e e2,aa.same e e3⟩
end
mutual
theorem Rep.weak{P P':Addr->Prop}{K:PySem.W.Frag}{H:Hp}(e:∀ a,P' a->P a):∀ {d:RL.D} {v:V},Rep P K H d v->Rep P' K H d v
 | .non,v,h=>by simpa[Rep]using h
 | .bl _,v,h=>by simpa[Rep]using h
 | .int _,v,h=>by simpa[Rep]using h
 | .str _,v,h=>by simpa[Rep]using h
 | .tup ds,v,h=>by
  rw[Rep]at h ⊢;obtain⟨a,xs,e1,e2,e3⟩:=h;exact⟨a,xs,e1,e2,aa.weak e e3⟩
 | .lst ds,v,h=>by
  rw[Rep]at h ⊢;obtain⟨a,xs,e1,e0,e2,e3⟩:=h;exact⟨a,xs,e1,fun z=>e0 (e a z),e2,aa.weak e e3⟩
 | .dK ks ds,v,h=>by
  rw[Rep]at h ⊢;obtain⟨a,xs,e1,e0,e2,el,e3⟩:=h;exact⟨a,xs,e1,fun z=>e0 (e a z),e2,el,aa.weak e e3⟩
 | .dT ks ds,v,h=>by
  rw[Rep]at h ⊢;obtain⟨a,xs,e1,e0,e2,el,e3⟩:=h;exact⟨a,xs,e1,fun z=>e0 (e a z),e2,el,aa.weak e e3⟩
 | .scr ds,v,h=>by
  rw[Rep]at h ⊢;obtain⟨a,xs,e1,e2,e3⟩:=h;exact⟨a,xs,e1,e2,aa.weak e e3⟩
 | .exc c,v,h=>by rw[Rep]at h ⊢;exact h
 | .fT ks ds,v,h=>by rw[Rep]at h ⊢;obtain⟨a,o,xs,e1,e2,el,e3⟩:=h;exact⟨a,o,xs,e1,e2,el,aa.weak e e3⟩
 | .fL ds,v,h=>by rw[Rep]at h ⊢;obtain⟨a,o,xs,e1,e2,e3⟩:=h;exact⟨a,o,xs,e1,e2,aa.weak e e3⟩
theorem aa.weak{P P':Addr->Prop}{K:PySem.W.Frag}{H:Hp}(e:∀ a,P' a->P a):∀ {ds:List RL.D} {xs:List V},aa P K H ds xs->aa P' K H ds xs
 | [],xs,h=>by rw[aa]at h ⊢;exact h
 | d::r,xs,h=>by
  rw[aa]at h ⊢;obtain⟨x,t,e1,e2,e3⟩:=h;exact⟨x,t,e1,Rep.weak e e2,aa.weak e e3⟩
end
def Rep.none{P:Addr->Prop}{K:PySem.W.Frag}(h:Rep P K H d v):Rep nP K H d v:=h.weak fun _ z=>z.elim
mutual
theorem Rep.imm{P P':Addr->Prop}{K:PySem.W.Frag}{H:Hp}:∀ {d:RL.D} {v:V},d.imm=true->Rep P K H d v->Rep P' K H d v
 | .non,v,_,h=>by simpa[Rep]using h
 | .bl _,v,_,h=>by simpa[Rep]using h
 | .int _,v,_,h=>by simpa[Rep]using h
 | .str _,v,_,h=>by simpa[Rep]using h
 | .tup ds,v,i,h=>by
  rw[Rep]at h ⊢;rw[RL.D.imm]at i;obtain⟨a,xs,e1,e2,e3⟩:=h;exact⟨a,xs,e1,e2,aa.imm i e3⟩
 | .lst ds,v,i,h=>by rw[RL.D.imm]at i;cases i
 | .dK ks ds,v,i,h=>by rw[RL.D.imm]at i;cases i
 | .dT ks ds,v,i,h=>by rw[RL.D.imm]at i;cases i
 | .scr ds,v,i,h=>by
  rw[Rep]at h ⊢;rw[RL.D.imm]at i;obtain⟨a,xs,e1,e2,e3⟩:=h;exact⟨a,xs,e1,e2,aa.imm i e3⟩
 | .exc c,v,i,h=>by rw[Rep]at h ⊢;exact h
 | .fT ks ds,v,i,h=>by rw[Rep]at h ⊢;rw[RL.D.imm]at i;obtain⟨a,o,xs,e1,e2,el,e3⟩:=h;exact⟨a,o,xs,e1,e2,el,aa.imm i e3⟩
 | .fL ds,v,i,h=>by rw[Rep]at h ⊢;rw[RL.D.imm]at i;obtain⟨a,o,xs,e1,e2,e3⟩:=h;exact⟨a,o,xs,e1,e2,aa.imm i e3⟩
theorem aa.imm{P P':Addr->Prop}{K:PySem.W.Frag}{H:Hp}:∀ {ds:List RL.D} {xs:List V},RL.ah ds=true->aa P K H ds xs->aa P' K H ds xs
 | [],xs,_,h=>by rw[aa]at h ⊢;exact h
 | d::r,xs,i,h=>by
  rw[aa]at h ⊢;rw[RL.ah,Bool.and_eq_true]at i;obtain⟨x,t,e1,e2,e3⟩:=h;exact⟨x,t,e1,Rep.imm i.1 e2,aa.imm i.2 e3⟩
end
abbrev bq(o:HO):Prop:=(∃ xs,o=.lst xs)\/(∃ kvs,o=.dK kvs)\/(∃ kvs,o=.dT kvs)
mutual
theorem Rep.upd{P:Addr->Prop}{K:PySem.W.Frag}{H:Hp}{a:Addr}{o o':HO}(ha:H a=some o)(m:bq o)(p:P a):∀ {d:RL.D} {v:V},Rep P K H d v->Rep P K (upd H a o') d v
 | .non,v,h=>by simpa[Rep]using h
 | .bl _,v,h=>by simpa[Rep]using h
 | .int _,v,h=>by simpa[Rep]using h
 | .str _,v,h=>by simpa[Rep]using h
 | .tup ds,v,h=>by
  rw[Rep]at h ⊢;obtain⟨b,xs,e1,e2,e3⟩:=h;have n:b≠a:=eC e2 ha (by rcases m with⟨z,rfl⟩ | ⟨z,rfl⟩ | ⟨z,rfl⟩<;>(intro q;cases q));exact⟨b,xs,e1,by rw[L2.a6 n];exact e2,aa.upd ha m p e3⟩
 | .lst ds,v,h=>by
  rw[Rep]at h ⊢;obtain⟨b,xs,e1,e0,e2,e3⟩:=h;have n:b≠a:=fun z=>e0 (z▸p);exact⟨b,xs,e1,e0,by rw[L2.a6 n];exact e2,aa.upd ha m p e3⟩
 | .dK ks ds,v,h=>by
  rw[Rep]at h ⊢;obtain⟨b,xs,e1,e0,e2,el,e3⟩:=h;have n:b≠a:=fun z=>e0 (z▸p);exact⟨b,xs,e1,e0,by rw[L2.a6 n];exact e2,el,aa.upd ha m p e3⟩
 | .dT ks ds,v,h=>by
  rw[Rep]at h ⊢;obtain⟨b,xs,e1,e0,e2,el,e3⟩:=h;have n:b≠a:=fun z=>e0 (z▸p);exact⟨b,xs,e1,e0,by rw[L2.a6 n];exact e2,el,aa.upd ha m p e3⟩
 | .scr ds,v,h=>by
  rw[Rep]at h ⊢;obtain⟨b,xs,e1,e2,e3⟩:=h;refine⟨b,xs,e1,?_,aa.upd ha m p e3⟩;rcases e2 with⟨q,e2⟩ | e2
  ·have n:b≠a:=eC e2 ha (by rcases m with⟨z,rfl⟩ | ⟨z,rfl⟩ | ⟨z,rfl⟩<;>(intro q;cases q));exact .inl ⟨q,by rw[L2.a6 n];exact e2⟩
  ·exact .inr e2
 | .exc c,v,h=>by
  rw[Rep]at h ⊢;refine h.keep fun b ob u q=>?_;have n:b≠a:=eC q ha (by rcases m with⟨z,rfl⟩ | ⟨z,rfl⟩ | ⟨z,rfl⟩<;>(intro q;cases q));rw[L2.a6 n];exact q
 | .fT ks ds,v,h=>by
  rw[Rep]at h ⊢;obtain⟨b,ob,xs,e1,e2,el,e3⟩:=h;have n:b≠a:=eC e2 ha (by rcases m with⟨z,rfl⟩ | ⟨z,rfl⟩ | ⟨z,rfl⟩<;>(intro q;cases q));exact⟨b,ob,xs,e1,by rw[L2.a6 n];exact e2,el,aa.upd ha m p e3⟩
 | .fL ds,v,h=>by
  rw[Rep]at h ⊢;obtain⟨b,ob,xs,e1,e2,e3⟩:=h;have n:b≠a:=eC e2 ha (by rcases m with⟨z,rfl⟩ | ⟨z,rfl⟩ | ⟨z,rfl⟩<;>(intro q;cases q));exact⟨b,ob,xs,e1,by rw[L2.a6 n];exact e2,aa.upd ha m p e3⟩
theorem aa.upd{P:Addr->Prop}{K:PySem.W.Frag}{H:Hp}{a:Addr}{o o':HO}(ha:H a=some o)(m:bq o)(p:P a):∀ {ds:List RL.D} {xs:List V},aa P K H ds xs->aa P K (upd H a o') ds xs
 | [],xs,h=>by rw[aa]at h ⊢;exact h
 | d::r,xs,h=>by
  rw[aa]at h ⊢;obtain⟨x,t,e1,e2,e3⟩:=h;exact⟨x,t,e1,Rep.upd ha m p e2,aa.upd ha m p e3⟩
end
section lists
variable{K:PySem.W.Frag}
def aa.nil:aa P K H [] []:=by rw[aa]
def aa.cons{d:RL.D}{ds:List RL.D}{x:V}{xs:List V}(h:Rep P K H d x)(t:aa P K H ds xs):aa P K H (d::ds) (x::xs):=by rw[aa];exact⟨x,xs,rfl,h,t⟩
def aa.length:∀ {ds:List RL.D} {xs:List V},aa P K H ds xs->ds.length=xs.length
 | [],xs,h=>by rw[aa]at h;rw[h];rfl
 | d::r,xs,h=>by
  rw[aa]at h;obtain⟨x,t,rfl,_,e3⟩:=h;rw[List.length_cons,List.length_cons,aa.length e3]
def aa.append:∀ {ds es:List RL.D} {xs ys:List V},aa P K H ds xs->aa P K H es ys->aa P K H (ds++es) (xs++ys)
 | [],_,xs,_,h,k=>by rw[aa]at h;rw[h];exact k
 | d::r,_,xs,_,h,k=>by
  rw[aa]at h;obtain⟨x,t,rfl,e2,e3⟩:=h;exact aa.cons e2 (aa.append e3 k)
def aa.get:∀ {ds:List RL.D} {xs:List V} {i:Nat} {d:RL.D},aa P K H ds xs->ds[i]?=some d->∃ x,xs[i]?=some x/\Rep P K H d x
 | [],_,i,d,_,e=>by simp at e
 | d::r,xs,0,d',h,e=>by
  rw[aa]at h;obtain⟨x,t,rfl,e2,_⟩:=h;simp at e;subst e;exact⟨x,rfl,e2⟩
 | d::r,xs,i+1,d',h,e=>by
  rw[aa]at h;obtain⟨x,t,rfl,_,e3⟩:=h;obtain⟨y,h1,h2⟩:=aa.get (i:=i) e3 (by simpa using e);exact⟨y,by simpa using h1,h2⟩
def aa.set:∀ {ds:List RL.D} {xs:List V} (i:Nat) {d:RL.D} {x:V},aa P K H ds xs->Rep P K H d x->aa P K H (ds.set i d) (xs.set i x)
 | [],xs,_,_,_,h,_=>by rw[aa]at h;rw[h];exact aa.nil
 | d::r,xs,0,_,_,h,k=>by
  rw[aa]at h;obtain⟨x,t,rfl,_,e3⟩:=h;exact aa.cons k e3
 | d::r,xs,i+1,_,_,h,k=>by
  rw[aa]at h;obtain⟨x,t,rfl,e2,e3⟩:=h;exact aa.cons e2 (aa.set i e3 k)
def aa.take:∀ {ds:List RL.D} {xs:List V} (n:Nat),aa P K H ds xs->aa P K H (ds.take n) (xs.take n)
 | _,_,0,_=>by simpa using aa.nil
 | [],xs,n+1,h=>by rw[aa]at h;rw[h];simpa using aa.nil
 | d::r,xs,n+1,h=>by
  rw[aa]at h;obtain⟨x,t,rfl,e2,e3⟩:=h;exact aa.cons e2 (aa.take n e3)
def aa.rev(h:aa P K H ds xs):aa P K H ds.reverse xs.reverse:=by
 induction ds generalizing xs with
 | nil=>rw[aa]at h;rw[h];exact aa.nil
 |cons d r ih=>
  rw[aa]at h;obtain⟨x,t,rfl,e2,e3⟩:=h;rw[List.reverse_cons,List.reverse_cons];exact aa.append (ih e3) (aa.cons e2 aa.nil)
def aa.rep(h:aa P K H ds xs):∀ n:Nat,aa P K H (List.replicate n ds).flatten (List.replicate n xs).flatten
 | 0=>aa.nil
 | n+1=>by
  rw[List.replicate_succ,List.replicate_succ,List.flatten_cons,List.flatten_cons];exact aa.append h (aa.rep h n)
end lists
abbrev RV0(K:PySem.W.Frag)(σD:RL.St)(σ:L2.St)(H:Hp):Prop:=σD.length<=σ.length/\∀ (i:Nat) (d:RL.D),σD[i]?=some (some d)->∃ v,σ[i]?=some (some v)/\Rep nP K H d v
def RV0.same{K:PySem.W.Frag}(h:RV0 K σD σ H)(e:ao H H'):RV0 K σD σ H':=⟨h.1,fun i d q=>by
 obtain⟨v,h1,h2⟩:=h.2 i d q
 exact⟨v,h1,h2.same e⟩⟩
abbrev gd:RL.D->Bool
 | .lst _=>true
 | .dK _ _=>true
 | .dT _ _=>true
 | _=>false
structure Res(K:PySem.W.Frag)(σD:RL.St)(σ:L2.St)(H:Hp)(e:RL.E)(d:RL.D)(v:V)(H':Hp):Prop where
 same:ao H H'
 rep:Rep nP K H' d v
 fresh:RL.az e=true->gd d=true->∀ a,v=.ref a->H a=none
 av:∀ M,RL.avE M e=true->∀ P:Addr->Prop,(∀ a,P a->H a≠none)->(∀ (j:Nat) (dj:RL.D) (vj:V),M.contains j=false->σD[j]?=some (some dj)->σ[j]?=some (some vj)->Rep P K H dj vj)->Rep P K H' d v
abbrev tE(K:PySem.W.Frag)(cl:RL.Cl)(e:RL.E):TE:=fun σ H Q=>∃ σD d,RV0 K σD σ H/\RL.ev cl σD e=some d/\∀ v H',Res K σD σ H e d v H'->Q v H'
abbrev SE(X:Cx)(cl:RL.Cl)(e:Expr)(e':RL.E):Prop:=PE X e (tE X.K cl e')
def PE.weak(h:PE X e t)(w:∀ σ H Q,t' σ H Q->t σ H Q):PE X e t':=fun pins s σ H Q I q=>h pins s σ H Q I (w σ H Q q)
abbrev tEs(K:PySem.W.Frag)(cl:RL.Cl)(es:RL.Es):TA:=fun σ H Q=>∃ σD ds,RV0 K σD σ H/\RL.evs cl σD es=some ds/\∀ vs H',ao H H'->aa nP K H' ds vs->Q vs H'
abbrev SEs(X:Cx)(cl:RL.Cl)(es:List Expr)(es':RL.Es):Prop:=PA X es (tEs X.K cl es')
section rules
variable{X:Cx}
def two{σD:RL.St}{σ:L2.St}{H:Hp}{x y:RL.D}{R:V->V->Hp->Prop}(rv:RV0 X.K σD σ H)(ea:RL.ev cl σD a'=some x)(eb:RL.ev cl σD b'=some y)
 (k:∀ v u H1 H2,ao H H1->ao H1 H2->Rep nP X.K H2 x v->Rep nP X.K H2 y u->Res X.K σD σ H a' x v H1->Res X.K σD σ H1 b' y u H2->R v u H2) :
  tE X.K cl a' σ H fun v H1=>tE X.K cl b' σ H1 fun u H2=>R v u H2 :=
 ⟨σD,x,rv,ea,fun v H1 r1=>⟨σD,y,rv.same r1.same,eb,fun u H2 r2=>k v u H1 H2 r1.same r2.same (r1.rep.same r2.same) r2.rep r1 r2⟩⟩
def bind_some(h:o.bind f=some y):∃ x,o=some x/\f x=some y:=by
 cases o with
 | none=>cases h
 | some x=>exact⟨x,rfl,h⟩
def map_some(h:o.map f=some y):∃ x,o=some x/\f x=y:=by
 cases o with
 | none=>cases h
 | some x=>exact⟨x,rfl,Option.some.inj h⟩
def aX:RL.most<=sizeLine:=by decide
def ao.aU(hn:H p=none):ao H (upd H p o):=fun b u e=>by rw[a6 (a5 e hn)];exact e
def Br(hN:X.N[i]?=some x)(hv:Vis X.env.scope x)(hd:(x == ("__debug__" : Str))=false)(hcd:(x == ("__classdict__" : Str))=false):SE X cl (.Name x pos) (.var i):=by
 refine PE.weak (fg hN hv hd hcd) fun σ H Q h=>?_;obtain⟨σD,d,rv,e,k⟩:=h
 have e':σD[i]?=some (some d):=by
  obtain⟨o,h1,h2⟩:=bind_some e
  cases o with
  | none=>cases h2
  | some z=>cases h2;exact h1
 obtain⟨v,h1,h2⟩:=rv.2 i d e';refine⟨v,h1,k v H ⟨ao.refl H,h2,fun z=>(by cases z),fun M z P hP av=>?_⟩⟩;rw[RL.AG]at z;exact av i d v (by simpa using z) e' h1
def j9(h:PE X (.Constant k j pos) (tC v))(r:∀ P H,Rep P X.K H d v)(hm:gd d=false):SE X cl (.Constant k j pos) (.cst d):=by
 refine PE.weak h fun σ H Q q=>?_;obtain⟨σD,d',rv,e,k⟩:=q;cases e;exact k v H ⟨ao.refl H,r _ _,fun z=>(by cases z),fun M z=>nomatch (show false=true from z)⟩
def Bj{x:Str}{i:Int}{u:Value}(h:PE X (.Name x pos) (tC (.int i))):SE X cl (.Name x pos) (.glb x i):=by
 refine PE.weak h fun σ H Q q=>?_;obtain⟨σD,d',rv,e,k⟩:=q;cases e;exact k _ H ⟨ao.refl H,(by rw[Rep]),fun z=>(by cases z),fun M z=>nomatch (show false=true from z)⟩
end rules
section rules
variable{X:Cx}
def bh(sm:ao H H')(r:Rep nP X.K H' d v)(im:d.imm=true):Res X.K σD σ H e d v H' where
 same:=sm
 rep:=r
 fresh:=fun _ m=>by
  cases d with
  | lst _=>cases im
  | dK _ _=>cases im
  | dT _ _=>cases im
  | _=>cases m
 av:=fun M _ P _ _=>r.imm im
def tZ:OpR X (binaryOp .FloorDiv) (rI (fun _ j=>0<j/\j<2 ^ 200) fun i j=>.int (i / j)):=opI fun i j _ _ _ _ _ hc q=>by
 refine floordiv_int (by lia) ?_ (.inl (PyProof.noPylong_of_log2 ?_))
 ·rw[Int.fdiv_eq_ediv_of_nonneg _ (by lia)];exact q
 ·have h0:j.natAbs≠0:=by lia
  have h1:j.natAbs<2 ^ 200:=by
   have:=hc.2;omega
  have h2:j.natAbs.log2<200:=(Nat.log2_lt h0).mpr h1;lia
def bf(sm:ao H H1)(hn:H1 p=none)(r:aa nP X.K H1 ds xs)(hav:∀ M,RL.avE M e=false):Res X.K σD σ H e (.lst ds) (.ref p) (upd H1 p (.lst xs)) where
 same:=sm.trans (ao.aU hn)
 rep:=by
  rw[Rep];exact⟨p,xs,rfl,fun z=>z,a8,r.same (ao.aU hn)⟩
 fresh:=fun _ _ a z=>by
  cases z;exact sm.free hn
 av:=fun M z=>by rw[hav M]at z;cases z
def cP(sm:ao H H1)(hn:H1 p=none)(r:aa nP X.K H1 ds xs)(hav:∀ M,RL.avE M e=false):Res X.K σD σ H e (.tup ds) (.ref p) (upd H1 p (.tup xs)) where
 same:=sm.trans (ao.aU hn)
 rep:=by
  rw[Rep];exact⟨p,xs,rfl,a8,r.same (ao.aU hn)⟩
 fresh:=fun _ m=>by cases m
 av:=fun M z=>by rw[hav M]at z;cases z
abbrev lS:RL.Bop->Operator
 | .add=>.Add
 | .sub=>.Sub
 | .mul=>.Mult
 | .fdiv=>.FloorDiv
 | .mod=>.Mod
 | .pow=>.Pow
def aA{P:Addr->Prop}{K:PySem.W.Frag}:Rep P K H (.int i) (.int i):=by rw[Rep]
def mf{P:Addr->Prop}{K:PySem.W.Frag}:Rep P K H (.bl i) (.bl i):=by rw[Rep]
def dD{P:Addr->Prop}{K:PySem.W.Frag}:Rep P K H (.str i) (.str i):=by rw[Rep]
def ag{P:Addr->Prop}{K:PySem.W.Frag}(h:Rep P K H (.int i) v):v=.int i:=by rw[Rep]at h;exact h
def aF{P:Addr->Prop}{K:PySem.W.Frag}(h:Rep P K H (.bl i) v):v=.bl i:=by rw[Rep]at h;exact h
def a9{P:Addr->Prop}{K:PySem.W.Frag}(h:Rep P K H (.str i) v):v=.str i:=by rw[Rep]at h;exact h
abbrev jh(X:Cx)(o:RL.Bop)(r:R2):Prop :=
 ∀ (σD:RL.St) (σ:L2.St) (H H2:Hp) (e:RL.E) (x y d:RL.D) (v u:V) (Q:VK),ao H H2->Rep nP X.K H2 x v->Rep nP X.K H2 y u->RL.aQ o x y=some d->(∀ M,RL.avE M e=false) ->
  (∀ w H',Res X.K σD σ H e d w H'->Q w H')->r v u H2 Q
def dE(ho:OpR X (binaryOp (lS o)) r)(ok:jh X o r)(ha:SE X cl a a')(hb:SE X cl b b'):SE X cl (.BinOp a (lS o) b pos) (.bin o a' b'):=by
 refine PE.weak (vU ho ha hb) fun σ H Q h=>?_;obtain⟨σD,d,rv,e,k⟩:=h;obtain⟨x,ea,e⟩:=bind_some e;obtain⟨y,eb,e⟩:=bind_some e;refine two rv ea eb fun v u H1 H2 s1 s2 rx ry _ _=>?_;exact ok σD σ H H2 _ x y d v u Q (s1.trans s2) rx ry e (fun _=>rfl) k
end rules
section rules
variable{X:Cx}{cl:RL.Cl}{a b c:Expr}{a' b' c':RL.E}{pos:Pos}
def aW{α:Type}{c:Prop} [Decidable c]{a d:α}(h:(if c then some a else none)=some d):c/\d=a:=by
 by_cases hc:c
 ·rw[if_pos hc]at h;exact⟨hc,(Option.some.inj h).symm⟩
 ·rw[if_neg hc]at h;cases h
def noN{α:Type}{o:Option α}{d:α}{p:Prop}(e:o=none)(h:o=some d):p:=by rw[e]at h;cases h
def sZ{x y d:RL.D}(h:RL.aQ .add x y=some d):(∃ i j,x=.int i/\y=.int j/\d=.int (i+j))\/(∃ i j:Str,x=.str i/\y=.str j/\i.length+j.length<=RL.most/\d=.str (i++j)) \/
  (∃ i j,x=.lst i/\y=.lst j/\i.length+j.length<=RL.most/\d=.lst (i++j)) \/
  (∃ i j,x=.tup i/\y=.tup j/\(i.length+j.length<=RL.most/\0<i.length)/\d=.tup (i++j)):=by
 cases x with
 | int i=>cases y with
  | int j=>cases h;exact .inl ⟨i,j,rfl,rfl,rfl⟩
  | _=>exact noN rfl h
 | str i=>cases y with
  |str j=>
   obtain⟨hc,e⟩:=aW h;exact .inr (.inl ⟨i,j,rfl,rfl,hc,e⟩)
  | _=>exact noN rfl h
 | lst i=>cases y with
  |lst j=>
   obtain⟨hc,e⟩:=aW h;exact .inr (.inr (.inl ⟨i,j,rfl,rfl,hc,e⟩))
  | _=>exact noN rfl h
 | tup i=>cases y with
  |tup j=>
   obtain⟨hc,e⟩:=aW h;exact .inr (.inr (.inr ⟨i,j,rfl,rfl,hc,e⟩))
  | _=>exact noN rfl h
 | _=>exact noN rfl h
def vg{x y d:RL.D}(h:RL.aQ .mul x y=some d):(∃ i j,x=.int i/\y=.int j/\pB i j/\d=.int (i*j)) \/
  (∃ i j,x=.lst i/\y=.int j/\(0<=j/\j<=RL.most/\i.length*j.toNat<=RL.most)/\d=.lst (List.replicate j.toNat i).flatten):=by
 cases x with
 | int i=>cases y with
  |int j=>
   obtain⟨hc,e⟩:=aW h;exact .inl ⟨i,j,rfl,rfl,hc,e⟩
  | _=>exact noN rfl h
 | lst i=>cases y with
  |int j=>
   obtain⟨hc,e⟩:=aW h;exact .inr ⟨i,j,rfl,rfl,hc,e⟩
  | _=>exact noN rfl h
 | _=>exact noN rfl h
def eO{o:RL.Bop}{x y d:RL.D}(h:RL.aQ o x y=some d)(ho:o≠.add)(hm:o≠.mul):∃ i j,x=.int i/\y=.int j/\RL.aQ o (.int i) (.int j)=some d:=by
 have no:∀ {a b:RL.D},RL.aQ .sub a b=none->RL.aQ .fdiv a b=none->RL.aQ .mod a b=none->RL.aQ .pow a b=none->RL.aQ o a b=some d->False:=fun e1 e2 e3 e4 h=>by
  cases o with
  | add=>exact ho rfl
  | mul=>exact hm rfl
  | sub=>rw[e1]at h;cases h
  | fdiv=>rw[e2]at h;cases h
  | mod=>rw[e3]at h;cases h
  | pow=>rw[e4]at h;cases h
 cases x with
 | int i=>cases y with
  | int j=>exact⟨i,j,rfl,rfl,h⟩
  | _=>exact(no rfl rfl rfl rfl h).elim
 | _=>exact(no rfl rfl rfl rfl h).elim
def sW{x y d:RL.D}(h:RL.aQ .sub x y=some d):∃ i j,x=.int i/\y=.int j/\d=.int (i-j):=by
 obtain⟨i,j,e1,e2,h⟩:=eO h (by decide) (by decide);cases h;exact⟨i,j,e1,e2,rfl⟩
def rY{x y d:RL.D}(h:RL.aQ .fdiv x y=some d):∃ i j,x=.int i/\y=.int j/\(0<j/\j<2 ^ 200)/\d=.int (i / j):=by
 obtain⟨i,j,e1,e2,h⟩:=eO h (by decide) (by decide);obtain⟨hc,e⟩:=aW h;exact⟨i,j,e1,e2,hc,e⟩
def ud{x y d:RL.D}(h:RL.aQ .mod x y=some d):∃ i j,x=.int i/\y=.int j/\0<j/\d=.int (i%j):=by
 obtain⟨i,j,e1,e2,h⟩:=eO h (by decide) (by decide);obtain⟨hc,e⟩:=aW h;exact⟨i,j,e1,e2,hc,e⟩
def tW{x y d:RL.D}(h:RL.aQ .pow x y=some d):∃ i j,x=.int i/\y=.int j/\(0<=j/\j<=1000/\i.natAbs<2 ^ 64)/\d=.int (i ^ j.toNat):=by
 obtain⟨i,j,e1,e2,h⟩:=eO h (by decide) (by decide);obtain⟨hc,e⟩:=aW h;exact⟨i,j,e1,e2,hc,e⟩
def au{P:Addr->Prop}{K:PySem.W.Frag}{H:Hp}{ds:List RL.D}{v:V}(h:Rep P K H (.lst ds) v):∃ a xs,v=.ref a/\¬ P a/\H a=some (.lst xs)/\aa P K H ds xs:=by rw[Rep]at h;exact h
def aD{P:Addr->Prop}{K:PySem.W.Frag}{H:Hp}{ds:List RL.D}{v:V}(h:Rep P K H (.tup ds) v):∃ a xs,v=.ref a/\H a=some (.tup xs)/\aa P K H ds xs:=by rw[Rep]at h;exact h
def zB:jh X .sub (rI0 fun i j=>.int (i-j)):=by
 intro σD σ H H2 e x y d v u Q sm rx ry h hav k;obtain⟨i,j,rfl,rfl,rfl⟩:=sW h;exact⟨i,j,ag rx,ag ry,k _ _ (bh sm aA rfl)⟩
def wN:jh X .fdiv (rI (fun _ j=>0<j/\j<2 ^ 200) fun i j=>.int (i / j)):=by
 intro σD σ H H2 e x y d v u Q sm rx ry h hav k;obtain⟨i,j,rfl,rfl,hc,rfl⟩:=rY h;exact⟨i,j,ag rx,ag ry,hc,k _ _ (bh sm aA rfl)⟩
def An:jh X .mod (rI (fun _ j=>0<j) fun i j=>.int (i%j)):=by
 intro σD σ H H2 e x y d v u Q sm rx ry h hav k;obtain⟨i,j,rfl,rfl,hc,rfl⟩:=ud h;exact⟨i,j,ag rx,ag ry,hc,k _ _ (bh sm aA rfl)⟩
def zN:jh X .pow (rI BL fun i j=>.int (i ^ j.toNat)):=by
 intro σD σ H H2 e x y d v u Q sm rx ry h hav k;obtain⟨i,j,rfl,rfl,hc,rfl⟩:=tW h;exact⟨i,j,ag rx,ag ry,⟨hc.1,Int.le_trans hc.2.1 (by decide),hc.2.2⟩,k _ _ (bh sm aA rfl)⟩
def Bs(ha:SE X cl a a')(hb:SE X cl b b'):SE X cl (.BinOp a .Add b pos) (.bin .add a' b'):=by
 refine dE (o:=.add) (B5.or (pf.or (yM.or xi))) ?_ ha hb;intro σD σ H H2 e x y d v u Q sm rx ry h hav k
 rcases sZ h with⟨i,j,rfl,rfl,rfl⟩ | ⟨i,j,rfl,rfl,hc,rfl⟩ | ⟨i,j,rfl,rfl,hc,rfl⟩ | ⟨i,j,rfl,rfl,⟨hc,ha⟩,rfl⟩
 ·exact .inl ⟨i,j,ag rx,ag ry,k _ _ (bh sm aA rfl)⟩
 ·exact .inr (.inl ⟨i,j,a9 rx,a9 ry,Nat.le_trans hc aX,k _ _ (bh sm dD rfl)⟩)
 ·obtain⟨p,xs,e1,_,e2,e3⟩:=au rx;obtain⟨q,ys,f1,_,f2,f3⟩:=au ry;refine .inr (.inr (.inl ⟨p,q,xs,ys,e1,f1,e2,f2,?_,fun l hl=>k _ _ (bf sm hl (e3.append f3) hav)⟩));rw[<-e3.length,<-f3.length];exact Nat.le_trans hc aX
 ·obtain⟨p,xs,e1,e2,e3⟩:=aD rx;obtain⟨q,ys,f1,f2,f3⟩:=aD ry;refine .inr (.inr (.inr ⟨p,q,xs,ys,e1,f1,SqT.of e2,SqT.of f2,fun z=>?_,?_,fun z=>?_,fun _ l hl=>k _ _ (cP sm hl (e3.append f3) hav)⟩))
  ·rw[e3.length,z]at ha;exact absurd ha (by decide)
  ·rw[<-e3.length,<-f3.length];exact Nat.le_trans hc aX
  ·have hj:j=[]:=by
    have:=f3.length;rw[z]at this;exact List.length_eq_zero_iff.mp this
   subst hj;rw[List.append_nil]at k;exact k _ _ ⟨sm,e1▸rx,fun _ m=>(by cases m),fun M z=>by rw[hav M]at z;cases z⟩
def zO(ha:SE X cl a a')(hb:SE X cl b b'):SE X cl (.BinOp a .Mult b pos) (.bin .mul a' b'):=by
 refine dE (o:=.mul) (BA.or Aq) ?_ ha hb;intro σD σ H H2 e x y d v u Q sm rx ry h hav k
 rcases vg h with⟨i,j,rfl,rfl,hc,rfl⟩ | ⟨i,j,rfl,rfl,hc,rfl⟩
 ·exact .inl ⟨i,j,ag rx,ag ry,hc,k _ _ (bh sm aA rfl)⟩
 ·obtain⟨p,xs,e1,_,e2,e3⟩:=au rx;refine .inr ⟨p,j,xs,e1,ag ry,e2,?_,?_,?_,fun l hl=>k _ _ (bf sm hl (e3.rep _) hav)⟩
  ·exact Int.le_trans (by decide) hc.1
  ·exact Int.lt_of_le_of_lt hc.2.1 (by decide)
  ·rw[<-e3.length];exact Nat.le_trans hc.2.2 aX
def yr{o:RL.Bop}(ha:SE X cl a a')(hb:SE X cl b b'):SE X cl (.BinOp a (lS o) b pos) (.bin o a' b'):=by
 cases o with
 | add=>exact Bs ha hb
 | mul=>exact zO ha hb
 | sub=>exact dE (o:=.sub) yo zB ha hb
 | fdiv=>exact dE (o:=.fdiv) tZ wN ha hb
 | mod=>exact dE (o:=.mod) AY An ha hb
 | pow=>exact dE (o:=.pow) A2 zN ha hb
def c5{σD:RL.St}{σ:L2.St}{H H':Hp}{e:RL.E}{k:Bool}(sm:ao H H'):Res X.K σD σ H e (.bl k) (.bl k) H':=bh sm mf rfl
def Aa{rest:List Expr}(ha:SE X cl a a')(hb:SE X cl (.BoolOp .And (b::rest) pos) b'):SE X cl (.BoolOp .And (a::b::rest) pos) (.and a' b'):=by
 refine PE.weak (BH ha hb) fun σ H Q h=>?_;obtain⟨σD,d,rv,e,k⟩:=h;obtain⟨x,ea,e⟩:=bind_some e;refine⟨σD,x,rv,ea,fun v H1 r1=>?_⟩
 cases x with
 |bl t=>
  refine⟨t,aF r1.rep,?_⟩
  cases t with
  |true=>
   refine c8 ?_;refine⟨σD,d,rv.same r1.same,e,fun w H2 r2=>k w H2 ?_⟩;exact⟨r1.same.trans r2.same,r2.rep,fun z=>(by cases z),fun M z=>nomatch (show false=true from z)⟩
  |false=>
   refine d4 ?_;cases e;exact k _ _ (c5 r1.same)
 | _=>cases e
def C4{rest:List Expr}(ha:SE X cl a a')(hb:SE X cl (.BoolOp .Or (b::rest) pos) b'):SE X cl (.BoolOp .Or (a::b::rest) pos) (.or a' b'):=by
 refine PE.weak (Ct ha hb) fun σ H Q h=>?_;obtain⟨σD,d,rv,e,k⟩:=h;obtain⟨x,ea,e⟩:=bind_some e;refine⟨σD,x,rv,ea,fun v H1 r1=>?_⟩
 cases x with
 |bl t=>
  refine⟨t,aF r1.rep,?_⟩
  cases t with
  |false=>
   refine d4 ?_;refine⟨σD,d,rv.same r1.same,e,fun w H2 r2=>k w H2 ?_⟩;exact⟨r1.same.trans r2.same,r2.rep,fun z=>(by cases z),fun M z=>nomatch (show false=true from z)⟩
  |true=>
   refine c8 ?_;cases e;exact k _ _ (c5 r1.same)
 | _=>cases e
def qQ{op}(ha:SE X cl a a'):SE X cl (.BoolOp op [a] pos) a':=zX ha
abbrev tT(K:PySem.W.Frag)(cl:RL.Cl)(e:RL.E):TT:=fun σ H Q=>∃ σD k,RV0 K σD σ H/\(RL.ev cl σD e).bind RL.truth=some k/\∀ H',ao H H'->Q k H'
abbrev ST(X:Cx)(cl:RL.Cl)(e:Expr)(e':RL.E):Prop:=PT X e (tT X.K cl e')
abbrev SW(X:Cx)(cl:RL.Cl)(e:Expr)(e':RL.E):Prop:=PW X e (tT X.K cl e')
def PT.weak{e:Expr}{t t':TT}(h:PT X e t)(w:∀ σ H Q,t' σ H Q->t σ H Q):PT X e t':=fun pins s σ H Q I q=>h pins s σ H Q I (w σ H Q q)
def PW.weak{e:Expr}{t t':TT}(h:PW X e t)(w:∀ σ H Q,t' σ H Q->t σ H Q):PW X e t':=fun wh pins s σ H Q I q=>h wh pins s σ H Q I (w σ H Q q)
def aa.isEmpty{P:Addr->Prop}{K:PySem.W.Frag}{H:Hp}{ds:List RL.D}{xs:List V}(h:aa P K H ds xs):ds.isEmpty=xs.isEmpty:=by
 cases ds with
 | nil=>rw[aa]at h;rw[h];rfl
 |cons d r=>
  rw[aa]at h;obtain⟨x,t,rfl,_⟩:=h;rfl
def A4{K:PySem.W.Frag}{H:Hp}{d:RL.D}{v:V}{k:Bool}(r:Rep nP K H d v)(h:RL.truth d=some k):pT K v H k:=by
 cases d<;>simp only[RL.truth]at h<;>first | (cases h;done) | skip
 case bl t=>cases h;rw[aF r];exact rfl
 case int t =>
  cases h;rw[ag r];simp[pT]
 case tup ds =>
  obtain⟨a,xs,rfl,e,rs⟩:=aD r;cases h;exact .inr (.inl ⟨xs,SqT.of e,by rw[rs.isEmpty]⟩)
 case lst ds =>
  obtain⟨a,xs,rfl,_,e,rs⟩:=au r;cases h;exact .inl ⟨xs,SqL.of e,by rw[rs.isEmpty]⟩
def tU(ha:SE X cl a a')(he:∀ whole,isTrue a X.env whole=(do let v <- whole;standAt a.pos;holding [v] (truthy v))):ST X cl a a':=by
 refine PT.weak (tG ha he) fun σ H Q h=>?_;obtain⟨σD,k,rv,e,q⟩:=h;obtain⟨d,e1,e2⟩:=bind_some e;exact⟨σD,d,rv,e1,fun v H1 r1=>⟨k,A4 r1.rep e2,q H1 r1.same⟩⟩
def sJ{op:BoolOp}(ha:ST X cl a a'):SW X cl (.BoolOp op [a] pos) a':=by
 cases op with
 | And=>exact xt ha
 | Or=>exact Bg ha
def r8{σD:RL.St}{k:Bool}(h:(RL.ev cl σD (.and a' b')).bind RL.truth=some k):∃ t,(RL.ev cl σD a').bind RL.truth=some t/\(if t=true then(RL.ev cl σD b').bind RL.truth=some k else k=false):=by
 rw[RL.pz]at h
 cases ea:RL.ev cl σD a' with
 | none=>rw[ea]at h;cases h
 |some x=>
  rw[ea]at h
  cases x with
  |bl t=>
   cases t with
   | true=>exact⟨true,rfl,c8 h⟩
   | false=>exact⟨false,rfl,d4 (by cases h;rfl)⟩
  | _=>exact noN rfl h
def uP{σD:RL.St}{k:Bool}(h:(RL.ev cl σD (.or a' b')).bind RL.truth=some k):∃ t,(RL.ev cl σD a').bind RL.truth=some t/\(if t=true then k=true else(RL.ev cl σD b').bind RL.truth=some k):=by
 rw[RL.Dw]at h
 cases ea:RL.ev cl σD a' with
 | none=>rw[ea]at h;cases h
 |some x=>
  rw[ea]at h
  cases x with
  |bl t=>
   cases t with
   | true=>exact⟨true,rfl,c8 (by cases h;rfl)⟩
   | false=>exact⟨false,rfl,d4 h⟩
  | _=>exact noN rfl h
def Az{rest:List Expr}(ha:ST X cl a a')(hb:SW X cl (.BoolOp .And (b::rest) pos) b'):SW X cl (.BoolOp .And (a::b::rest) pos) (.and a' b'):=by
 refine PW.weak (A7 ha hb) fun σ H Q h=>?_;obtain⟨σD,k,rv,e,q⟩:=h;obtain⟨t,e1,e2⟩:=r8 e;refine⟨σD,t,rv,e1,fun H1 s1=>?_⟩
 cases t with
 | true=>exact c8 ⟨σD,k,rv.same s1,e2,fun H2 s2=>q H2 (s1.trans s2)⟩
 |false=>
  have e2:k=false:=e2;subst e2;exact d4 (q H1 s1)
def Cd{rest:List Expr}(ha:ST X cl a a')(hb:SW X cl (.BoolOp .Or (b::rest) pos) b'):SW X cl (.BoolOp .Or (a::b::rest) pos) (.or a' b'):=by
 refine PW.weak (Cv ha hb) fun σ H Q h=>?_;obtain⟨σD,k,rv,e,q⟩:=h;obtain⟨t,e1,e2⟩:=uP e;refine⟨σD,t,rv,e1,fun H1 s1=>?_⟩
 cases t with
 |true=>
  have e2:k=true:=e2;subst e2;exact c8 (q H1 s1)
 | false=>exact d4 ⟨σD,k,rv.same s1,e2,fun H2 s2=>q H2 (s1.trans s2)⟩
def Bb(ha:ST X cl a a'):ST X cl (.UnaryOp .Not a pos) (.not a'):=by
 refine PT.weak (yT ha) fun σ H Q h=>?_;obtain⟨σD,k,rv,e,q⟩:=h;obtain⟨d,e1,e2⟩:=bind_some e;obtain⟨t,e3,e4⟩:=map_some e1;subst e4;cases e2;exact⟨σD,t,rv,e3,fun H1 s1=>q H1 s1⟩
def zc(hc:ST X cl c c')(ha:SE X cl a a')(hb:SE X cl b b'):SE X cl (.IfExp c a b pos) (.ifx c' a' b'):=by
 refine PE.weak (uF hc ha hb) fun σ H Q h=>?_;obtain⟨σD,d,rv,e,q⟩:=h;obtain⟨t,e1,e2⟩:=bind_some e;refine⟨σD,t,rv,e1,fun H1 s1=>?_⟩;have fin:∀ (a':RL.E) (v:V) (H2:Hp),(∀ M,RL.avE M (.ifx c' a' b')=true->RL.avE M a'=true)->True:=fun _ _ _ _=>trivial
 cases t with
 |true=>
  refine c8 ⟨σD,d,rv.same s1,e2,fun v H2 r2=>q v H2 ⟨s1.trans r2.same,r2.rep,fun z=>(by cases z),fun M z P hP av=>?_⟩⟩;have z:(RL.avE M a'&&RL.avE M b')=true:=z;rw[Bool.and_eq_true]at z;exact r2.av M z.1 P (fun a p=>(Option.ne_none_iff_exists'.mpr (by obtain⟨o,ho⟩:=Option.ne_none_iff_exists'.mp (hP a p);exact⟨o,s1 _ _ ho⟩))) fun j dj vj h1 h2 h3=>(av j dj vj h1 h2 h3).same s1
 |false=>
  refine d4 ⟨σD,d,rv.same s1,e2,fun v H2 r2=>q v H2 ⟨s1.trans r2.same,r2.rep,fun z=>(by cases z),fun M z P hP av=>?_⟩⟩;have z:(RL.avE M a'&&RL.avE M b')=true:=z;rw[Bool.and_eq_true]at z;exact r2.av M z.2 P (fun a p=>(Option.ne_none_iff_exists'.mpr (by obtain⟨o,ho⟩:=Option.ne_none_iff_exists'.mp (hP a p);exact⟨o,s1 _ _ ho⟩))) fun j dj vj h1 h2 h3=>(av j dj vj h1 h2 h3).same s1
end rules
section rules
variable{X:Cx}
def zj(ha:SE X cl a a'):SE X cl (.UnaryOp .Not a pos) (.not a'):=by
 intro pins s σ H Q I h;obtain⟨σD,d,rv,e,k⟩:=h;obtain⟨t,e1,e2⟩:=map_some e;obtain⟨x,e3,e4⟩:=bind_some e1;subst e2;refine UnaryOp_ (thn (ha pins s σ H (fun v H1=>ao H H1/\Rep nP X.K H1 x v) I ⟨σD,x,rv,e3,fun v H1 r1=>⟨r1.same,r1.rep⟩⟩) fun v s1 ⟨y,H1,I1,r1,sm,rp⟩=>?_);refine not_of (thn (rA pins s1 σ H1 y v (fun k H2=>k=t/\H2=H1) I1 r1 ⟨t,A4 rp e4,rfl,rfl⟩) fun k2 s2 ⟨H2,I2,q1,q2⟩=>?_);subst q1;subst q2;exact⟨.bl (!k2),H2,I2,rfl,k _ _ (c5 sm)⟩
abbrev noStar:Expr->Bool
 | .Starred _ _=>false
 | _=>true
def ay(es:List Expr)(h:noStar e=true):starEach (e::es) X.env=(false,eval e X.env)::starEach es X.env:=by
 cases e<;>first | rfl | (cases h)
def fU:∀ {es:List Expr} {pos:Pos},es.all noStar=true->(backTo pos (starEach es X.env)).any (·.1)=false
 | [],_,_=>rfl
 | e::es,pos,h=>by
  rw[List.all_cons,Bool.and_eq_true]at h;rw[ay es h.1];show(false || (backTo pos (starEach es X.env)).any (·.1))=false;rw[fU h.2];rfl
def bp:SEs X cl [] .nil:=by
 intro pos pins s σ H Q I h;obtain⟨σD,ds,rv,e,k⟩:=h;cases e;exact cB pos pins s σ H Q I (k [] H (ao.refl H) aa.nil)
def aR(he:SE X cl e e')(hr:SEs X cl es es')(hn:noStar e=true):SEs X cl (e::es) (.cons e' es'):=by
 intro pos pins s σ H Q I h;refine b9 he hr (ay es hn) pos pins s σ H Q I ?_;obtain⟨σD,ds,rv,e,k⟩:=h;obtain⟨d,e1,e2⟩:=bind_some e;obtain⟨r,e3,e4⟩:=map_some e2;subst e4;refine⟨σD,d,rv,e1,fun v H1 r1=>⟨σD,r,rv.same r1.same,e3,fun vs H2 s2 r2=>k (v::vs) H2 (r1.same.trans s2) (aa.cons (r1.rep.same s2) r2)⟩⟩
abbrev cE:RL.Es->Nat
 | .nil=>0
 | .cons _ r=>cE r+1
def iM:∀ {es:RL.Es} {ds:List RL.D},RL.evs cl σD es=some ds->ds.length=cE es
 | .nil,ds,h=>by rw[RL.evs]at h;cases h;rfl
 | .cons e r,ds,h=>by
  obtain⟨d,e1,e2⟩:=bind_some h;obtain⟨t,e3,e4⟩:=map_some e2;subst e4;rw[List.length_cons,iM e3,cE]
def yA(h:SEs X cl es es')(hl:cE es'<=1000):SE X cl (.Tuple es x1 pos) (.tup es'):=by
 refine PE.weak (A3 h) fun σ H Q q=>?_;obtain⟨σD,d,rv,e,k⟩:=q;obtain⟨ds,e1,e2⟩:=map_some e;subst e2;refine⟨σD,ds,rv,e1,fun vs H1 s1 r1=>⟨?_,fun p hp=>k _ _ (cP s1 hp r1 fun _=>rfl)⟩⟩;rw[<-r1.length,iM e1];exact Nat.le_of_lt (kB hl)
def yW(h:SEs X cl es es')(hl:cE es'<=1000):SE X cl (.List es pos) (.lst es'):=by
 refine PE.weak (B8 h) fun σ H Q q=>?_;obtain⟨σD,d,rv,e,k⟩:=q;obtain⟨ds,e1,e2⟩:=map_some e;subst e2;refine⟨σD,ds,rv,e1,fun vs H1 s1 r1=>⟨?_,fun p hp=>k _ _ (bf s1 hp r1 fun _=>rfl)⟩⟩;rw[<-r1.length,iM e1];exact Nat.le_of_lt (kB hl)
def ic(h:RL.bB xs i=some x):atI xs i=some x:=by
 unfold RL.bB at h;unfold atI ixN;by_cases h0:0<=i
 ·rw[if_pos h0]at h;rw[if_pos h0];obtain⟨h1,_⟩:=List.getElem?_eq_some_iff.mp h;rw[if_pos (by lia)];exact h
 ·rw[if_neg h0]at h;rw[if_neg h0];by_cases h1:-(xs.length:Int)<=i
  ·rw[if_pos h1]at h;rw[if_pos h1];exact h
  ·rw[if_neg h1]at h;cases h
def di{P:Addr->Prop}{K:PySem.W.Frag}(r:aa P K H ds xs)(h:RL.bB ds i=some d):∃ x,RL.bB xs i=some x/\Rep P K H d x:=by
 unfold RL.bB at h ⊢;rw[<-r.length];by_cases h0:0<=i
 ·rw[if_pos h0]at h ⊢;exact r.get h
 ·rw[if_neg h0]at h ⊢;by_cases h1:-(ds.length:Int)<=i
  ·rw[if_pos h1]at h ⊢;exact r.get h
  ·rw[if_neg h1]at h;cases h
abbrev iN:Expr->Bool
 | .Slice _ _ _ _=>false
 | _=>true
def xV(h:iN b=true):oP b:=by
 intro o i
 cases b<;>first | rfl | (cases h)
def uI{xs:List RL.D}{i:Int}(im:RL.ah xs=true)(h:RL.bB xs i=some d):d.imm=true:=by
 have mem:d∈xs:=by
  unfold RL.bB at h;split at h
  ·exact List.mem_of_getElem? h
  ·split at h
   ·exact List.mem_of_getElem? h
   ·cases h
 clear h
 induction xs with
 | nil=>cases mem
 |cons a r ih=>
  rw[RL.ah,Bool.and_eq_true]at im;rcases List.mem_cons.mp mem with rfl | m
  ·exact im.1
  ·exact ih im.2 m
def qF(h:RL.ixV x y=some d):(∃ xs i,x=.lst xs/\y=.int i/\RL.bB xs i=some d)\/(∃ xs i,x=.tup xs/\y=.int i/\RL.bB xs i=some d) \/
  (∃ (z:Str) (i:Int) (c:Nat),x=.str z/\y=.int i/\z.length<=RL.most/\RL.bB z.cps.toList i=some c/\d=.str ⟨#[c]⟩)\/(∃ xs i,x=.fL xs/\y=.int i/\RL.ah xs=true/\RL.bB xs i=some d):=by
 have no:∀ {o:Option RL.D},o=none->o=some d->False:=fun e h=>by rw[e]at h;cases h
 cases x with
 | lst xs=>cases y with
  | int i=>exact .inl ⟨xs,i,rfl,rfl,h⟩
  | _=>exact(no rfl h).elim
 | tup xs=>cases y with
  | int i=>exact .inr (.inl ⟨xs,i,rfl,rfl,h⟩)
  | _=>exact(no rfl h).elim
 | str z=>cases y with
  |int i=>
   by_cases hc:z.length<=RL.most
   ·obtain⟨c,e1,e2⟩:=map_some (show(RL.bB z.cps.toList i).map (fun c=>RL.D.str ⟨#[c]⟩)=some d from(if_pos hc).symm.trans h);exact .inr (.inr (.inl ⟨z,i,c,rfl,rfl,hc,e1,e2.symm⟩))
   ·exact(no (if_neg hc) h).elim
  | _=>exact(no rfl h).elim
 | fL xs=>cases y with
  |int i=>
   by_cases hc:RL.ah xs=true
   ·exact .inr (.inr (.inr ⟨xs,i,rfl,rfl,hc,(if_pos hc).symm.trans h⟩))
   ·exact(no (if_neg hc) h).elim
  | _=>exact(no rfl h).elim
 | _=>exact(no rfl h).elim
def Cg(ha:SE X cl a a')(hb:SE X cl b b')(hs:iN b=true):SE X cl (.Subscript a b pos) (.ix a' b'):=by
 refine PE.weak (CG AJ ha hb (xV hs)) fun σ H Q h=>?_;obtain⟨σD,d,rv,e,k⟩:=h;obtain⟨x,ea,e⟩:=bind_some e;obtain⟨y,eb,e⟩:=bind_some e;refine two rv ea eb fun v u H1 H2 s1 s2 rx ry ra rb=>?_
 have fin:∀ (w:V),Rep nP X.K H2 d w->(∀ P:Addr->Prop,Rep P X.K H2 x v->Rep P X.K H2 d w)->Res X.K σD σ H (.ix a' b') d w H2:=fun w h1 h2=>{
  same:=s1.trans s2
  rep:=h1
  fresh:=fun z=>by cases z
  av:=fun M z P hP av=>h2 P ((ra.av M z P hP av).same s2) }
 rcases qF e with⟨xs,i,rfl,rfl,hd⟩ | ⟨xs,i,rfl,rfl,hd⟩ | ⟨z,i,c,rfl,rfl,hz,hd,rfl⟩ | ⟨xs,i,rfl,rfl,im,hd⟩
 ·obtain⟨p,ys,rfl,_,e2,e3⟩:=au rx;obtain⟨w,h1,h2⟩:=di e3 hd;refine .inl ⟨p,ys,i,w,rfl,ag ry,SqL.of e2,ic h1,k _ _ (fin w h2 fun P rp=>?_)⟩;obtain⟨p',ys',q1,_,q2,q3⟩:=au rp;cases q1;rw[e2]at q2;cases q2;obtain⟨w',h3,h4⟩:=di q3 hd;rw[h1]at h3;cases h3;exact h4
 ·obtain⟨p,ys,rfl,e2,e3⟩:=aD rx;obtain⟨w,h1,h2⟩:=di e3 hd;refine .inr (.inl ⟨p,ys,i,w,rfl,ag ry,SqT.of e2,ic h1,k _ _ (fin w h2 fun P rp=>?_)⟩);obtain⟨p',ys',q1,q2,q3⟩:=aD rp;cases q1;rw[e2]at q2;cases q2;obtain⟨w',h3,h4⟩:=di q3 hd;rw[h1]at h3;cases h3;exact h4
 ·exact .inr (.inr ⟨z,i,c,a9 rx,ag ry,Nat.le_trans hz aX,ic hd,k _ _ (fin _ dD fun P _=>dD)⟩)
 ·rw[Rep]at rx;obtain⟨p,o,ys,rfl,e2,e3⟩:=rx;obtain⟨w,h1,h2⟩:=di e3 hd;exact .inl ⟨p,ys,i,w,rfl,ag ry,.inl (.inr ⟨o,e2⟩),ic h1,k _ _ (bh (s1.trans s2) h2 (uI im hd))⟩
end rules
section rules
def dA:∀ {as bs:List RL.D} {k:Bool},RL.eqs f as bs=some k ->
  ∃ e:Nat->Bool,k=(List.range (min as.length bs.length)).all e/\∀ j x y,as[j]?=some x->bs[j]?=some y->f x y=some (e j)
 | [],bs,k,h=>by
  have h:some true=some k:=by simpa[RL.eqs]using h
  cases h;exact⟨fun _=>true,by simp,fun j x y h1=>by simp at h1⟩
 | a::r,[],k,h=>by
  have h:some true=some k:=by simpa[RL.eqs]using h
  cases h;exact⟨fun _=>true,by simp,fun j x y h1 h2=>by simp at h2⟩
 | a::r,b::s,k,h=>by
  rw[RL.eqs]at h;obtain⟨e0,h1,h2⟩:=bind_some h;obtain⟨k',h3,h4⟩:=map_some h2;obtain⟨e,h5,h6⟩:=dA h3;refine⟨fun j=>match j with | 0=>e0 | j+1=>e j,?_,fun j x y hx hy=>?_⟩
  ·rw[<-h4,h5,List.length_cons,List.length_cons,Nat.succ_min_succ,List.range_succ_eq_map,List.all_cons,List.all_map];rfl
  ·cases j with
   |zero=>
    simp at hx hy;subst hx hy;exact h1
   | succ j=>exact h6 j x y (by simpa using hx) (by simpa using hy)
def dz(h:RL.eqD n x y=some k):(∃ i j,x=.bl i/\y=.bl j/\(i == j)=k)\/(∃ i j,x=.int i/\y=.int j/\(i == j)=k)\/(∃ i j,x=.str i/\y=.str j/\(i == j)=k) \/
  (∃ m i j,n=m+1/\x=.tup i/\y=.tup j/\Option.map (fun k=>k&&i.length == j.length) (RL.eqs (RL.eqD m) i j)=some k)\/(∃ m i j,n=m+1/\x=.lst i/\y=.lst j/\Option.map (fun k=>k&&i.length == j.length) (RL.eqs (RL.eqD m) i j)=some k):=by
 cases n with
 | zero=>cases x with
  | bl i=>cases y with
   | bl j=>exact .inl ⟨i,j,rfl,rfl,Option.some.inj h⟩
   | _=>exact noN rfl h
  | int i=>cases y with
   | int j=>exact .inr (.inl ⟨i,j,rfl,rfl,Option.some.inj h⟩)
   | _=>exact noN rfl h
  | str i=>cases y with
   | str j=>exact .inr (.inr (.inl ⟨i,j,rfl,rfl,Option.some.inj h⟩))
   | _=>exact noN rfl h
  | _=>exact noN rfl h
 | succ m=>cases x with
  | bl i=>cases y with
   | bl j=>exact .inl ⟨i,j,rfl,rfl,Option.some.inj h⟩
   | _=>exact noN rfl h
  | int i=>cases y with
   | int j=>exact .inr (.inl ⟨i,j,rfl,rfl,Option.some.inj h⟩)
   | _=>exact noN rfl h
  | str i=>cases y with
   | str j=>exact .inr (.inr (.inl ⟨i,j,rfl,rfl,Option.some.inj h⟩))
   | _=>exact noN rfl h
  | tup i=>cases y with
   | tup j=>exact .inr (.inr (.inr (.inl ⟨m,i,j,rfl,rfl,rfl,h⟩)))
   | _=>exact noN rfl h
  | lst i=>cases y with
   | lst j=>exact .inr (.inr (.inr (.inr ⟨m,i,j,rfl,rfl,rfl,h⟩)))
   | _=>exact noN rfl h
  | _=>exact noN rfl h
def kA{K:PySem.W.Frag}:∀ (n:Nat) (x y:RL.D) (v:V) (k:Bool),Rep nP K H x v->Rep nP K H y v->RL.eqD n x y=some k->k=true:=by
 intro n
 induction n with
 |zero=>
  intro x y v k rx ry h
  rcases dz h with⟨i,j,rfl,rfl,rfl⟩ | ⟨i,j,rfl,rfl,rfl⟩ | ⟨i,j,rfl,rfl,rfl⟩ | ⟨m,i,j,hn,hx,hy,h⟩ | ⟨m,i,j,hn,hx,hy,h⟩
  ·have:=aF rx;rw[aF ry]at this;cases this;simp
  ·have:=ag rx;rw[ag ry]at this;cases this;simp
  ·have:=a9 rx;rw[a9 ry]at this;cases this;simp
  ·cases hn
  ·cases hn
 |succ n ih=>
  intro x y v k rx ry h
  have seq:∀ (i j:List RL.D) (xs:List V) (k:Bool),aa nP K H i xs->aa nP K H j xs->Option.map (fun k=>k&&i.length == j.length) (RL.eqs (RL.eqD n) i j)=some k->k=true:=by
   intro i j xs k e3 f3 h;obtain⟨k',h1,h2⟩:=map_some h;obtain⟨e,h3,h4⟩:=dA h1;have hl:i.length=j.length:=e3.length.trans f3.length.symm
   have hk:k'=true:=by
    rw[h3,List.all_eq_true];intro m hm;rw[List.mem_range]at hm;obtain⟨w,w1,w2⟩:=e3.get (i:=m) (d:=i[m]'(by lia)) (by simp);obtain⟨w',w1',w2'⟩:=f3.get (i:=m) (d:=j[m]'(by lia)) (by simp);rw[w1]at w1';cases w1';exact ih _ _ w (e m) w2 w2' (h4 m _ _ (by simp) (by simp))
   rw[<-h2,hk,hl];simp
  rcases dz h with⟨i,j,rfl,rfl,rfl⟩ | ⟨i,j,rfl,rfl,rfl⟩ | ⟨i,j,rfl,rfl,rfl⟩ | ⟨m,i,j,hn,hx,hy,h⟩ | ⟨m,i,j,hn,hx,hy,h⟩
  ·have:=aF rx;rw[aF ry]at this;cases this;simp
  ·have:=ag rx;rw[ag ry]at this;cases this;simp
  ·have:=a9 rx;rw[a9 ry]at this;cases this;simp
  ·cases hn;subst hx;subst hy;obtain⟨p,xs,rfl,e2,e3⟩:=aD rx;obtain⟨q,ys,q1,f2,f3⟩:=aD ry;cases q1;rw[e2]at f2;cases f2;exact seq i j xs k e3 f3 h
  ·cases hn;subst hx;subst hy;obtain⟨p,xs,rfl,_,e2,e3⟩:=au rx;obtain⟨q,ys,q1,_,f2,f3⟩:=au ry;cases q1;rw[e2]at f2;cases f2;exact seq i j xs k e3 f3 h
open SeqAt in
def deep(I:Inv X pins σ H s):∀ (n:Nat) (A:Around) (x y:RL.D) (v u:V) (va ua:Value) (k:Bool),A.units+n<cLine->Rep nP X.K H x v->Rep nP X.K H y u->RelV v va->RelV u ua ->
  RL.eqD n x y=some k->RcAt A s va ua k/\EqAt A s va ua k:=by
 intro n
 induction n with
 |zero=>
  intro A x y v u va ua k hu rx ry qx qy h
  rcases dz h with⟨i,j,rfl,rfl,rfl⟩ | ⟨i,j,rfl,rfl,rfl⟩ | ⟨i,j,rfl,rfl,rfl⟩ | ⟨m,i,j,hn,hx,hy,h⟩ | ⟨m,i,j,hn,hx,hy,h⟩
  ·rw[aF rx]at qx;rw[aF ry]at qy;cases qx;cases qy;exact⟨RcAt.bool_bool i j,EqAt.bool_bool i j⟩
  ·rw[ag rx]at qx;rw[ag ry]at qy;obtain⟨t,rfl⟩:=qx;obtain⟨t',rfl⟩:=qy;exact⟨RcAt.int_int i t j t',EqAt.int_int i t j t'⟩
  ·rw[a9 rx]at qx;rw[a9 ry]at qy;obtain⟨t,rfl⟩:=qx;obtain⟨t',rfl⟩:=qy;exact⟨RcAt.str_str i t j t',EqAt.str_str i t j t'⟩
  ·cases hn
  ·cases hn
 |succ n ih=>
  intro A x y v u va ua k hu rx ry qx qy h
  rcases dz h with⟨i,j,rfl,rfl,rfl⟩ | ⟨i,j,rfl,rfl,rfl⟩ | ⟨i,j,rfl,rfl,rfl⟩ | ⟨m,i,j,hn,hx,hy,h⟩ | ⟨m,i,j,hn,hx,hy,h⟩
  ·rw[aF rx]at qx;rw[aF ry]at qy;cases qx;cases qy;exact⟨RcAt.bool_bool i j,EqAt.bool_bool i j⟩
  ·rw[ag rx]at qx;rw[ag ry]at qy;obtain⟨t,rfl⟩:=qx;obtain⟨t',rfl⟩:=qy;exact⟨RcAt.int_int i t j t',EqAt.int_int i t j t'⟩
  ·rw[a9 rx]at qx;rw[a9 ry]at qy;obtain⟨t,rfl⟩:=qx;obtain⟨t',rfl⟩:=qy;exact⟨RcAt.str_str i t j t',EqAt.str_str i t j t'⟩
  ·cases hn;subst hx;subst hy;obtain⟨p,xs,rfl,e2,e3⟩:=aD rx;obtain⟨q,ys,rfl,f2,f3⟩:=aD ry;cases qx;cases qy;obtain⟨its,r1,t1,z1⟩:=I.tuple (SqT.of e2);obtain⟨jts,r2,t2,z2⟩:=I.tuple (SqT.of f2);obtain⟨k',h1,h2⟩:=map_some h;obtain⟨e,h3,h4⟩:=dA h1;have l1:i.length=its.length:=e3.length.trans r1.length;have l2:j.length=jts.length:=f3.length.trans r2.length
   have he:∀ m (g1:m<its.toArray.size) (g2:m<jts.toArray.size),EqAt A.in1 s its.toArray[m] jts.toArray[m] (e m):=fun m g1 g2=>by
    rw[List.size_toArray]at g1 g2;obtain⟨w,w1,w2⟩:=e3.get (i:=m) (d:=i[m]'(by lia)) (by simp);obtain⟨w',w1',w2'⟩:=f3.get (i:=m) (d:=j[m]'(by lia)) (by simp);obtain⟨uu,b1,b2⟩:=r1.get w1;obtain⟨uu',b1',b2'⟩:=r2.get w1'
    have c1:its.toArray[m]=uu:=by simpa using(List.getElem?_eq_some_iff.mp b1).2
    have c2:jts.toArray[m]=uu':=by simpa using(List.getElem?_eq_some_iff.mp b1').2
    rw[c1,c2];exact(ih A.in1 _ _ w w' uu uu' (e m) (by show A.units+1+n<cLine;lia) w2 w2' b2 b2' (h4 m _ _ (by simp) (by simp))).2
   have main:RcAt A s (.ref p) (.ref q) k:=by
    have z:=RcAt.tuples (e:=e) t1 t2 (by lia) he;rw[List.size_toArray,List.size_toArray,<-l1,<-l2,<-h3,h2]at z;exact z
   refine⟨main,?_⟩;by_cases z:p=q
   ·subst z;rw[kA (n+1) _ _ _ k rx ry h];exact EqAt.same _
   ·exact EqAt.of_refs z main
  ·cases hn;subst hx;subst hy;obtain⟨p,xs,rfl,_,e2,e3⟩:=au rx;obtain⟨q,ys,rfl,_,f2,f3⟩:=au ry;cases qx;cases qy;obtain⟨its,r1,t1,z1⟩:=I.list (SqL.of e2);obtain⟨jts,r2,t2,z2⟩:=I.list (SqL.of f2);obtain⟨k',h1,h2⟩:=map_some h;obtain⟨e,h3,h4⟩:=dA h1;have l1:i.length=its.length:=e3.length.trans r1.length;have l2:j.length=jts.length:=f3.length.trans r2.length
   have he:∀ m (g1:m<its.toArray.size) (g2:m<jts.toArray.size),EqAt A.in1 s its.toArray[m] jts.toArray[m] (e m):=fun m g1 g2=>by
    rw[List.size_toArray]at g1 g2;obtain⟨w,w1,w2⟩:=e3.get (i:=m) (d:=i[m]'(by lia)) (by simp);obtain⟨w',w1',w2'⟩:=f3.get (i:=m) (d:=j[m]'(by lia)) (by simp);obtain⟨uu,b1,b2⟩:=r1.get w1;obtain⟨uu',b1',b2'⟩:=r2.get w1'
    have c1:its.toArray[m]=uu:=by simpa using(List.getElem?_eq_some_iff.mp b1).2
    have c2:jts.toArray[m]=uu':=by simpa using(List.getElem?_eq_some_iff.mp b1').2
    rw[c1,c2];exact(ih A.in1 _ _ w w' uu uu' (e m) (by show A.units+1+n<cLine;lia) w2 w2' b2 b2' (h4 m _ _ (by simp) (by simp))).2
   have main:RcAt A s (.ref p) (.ref q) k:=by
    by_cases hl:its.length=jts.length
    ·have z:=RcAt.lists (e:=e) t1.isList t2.isList (by rw[List.size_toArray,List.size_toArray];exact hl) (by lia) he;rw[List.size_toArray]at z
     have hk:k=(List.range its.length).all e:=by
      rw[<-h2,h3,l1,l2,hl];simp
     rw[hk];exact z
    ·have hk:k=false:=by
      rw[<-h2,l1,l2];simp[hl]
     rw[hk];exact RcAt.lists_lengths t1.isList t2.isList (by rw[List.size_toArray,List.size_toArray];simpa using hl) (by lia)
   refine⟨main,?_⟩;by_cases z:p=q
   ·subst z;rw[kA (n+1) _ _ _ k rx ry h];exact EqAt.same _
   ·exact EqAt.of_refs z main
end rules
section rules
variable{X:Cx}
open SeqAt in
def B6(I:Inv X pins σ H s)(n:Nat)(A:Around)(x y:RL.D)(v u:V)(va ua:Value)(k:Bool)(hu:A.units+n<cLine)(rx:Rep nP X.K H x v)(ry:Rep nP X.K H y u)(qx:RelV v va)(qy:RelV u ua)
 (h:RL.eqD n x y=some k):RcNeAt A s va ua (!k):=by
 rcases dz h with⟨i,j,rfl,rfl,rfl⟩ | ⟨i,j,rfl,rfl,rfl⟩ | ⟨i,j,rfl,rfl,rfl⟩ | ⟨nn,i,j,hn,hx,hy,h⟩ | ⟨nn,i,j,hn,hx,hy,h⟩
 ·rw[aF rx]at qx;rw[aF ry]at qy;cases qx;cases qy;exact RcNeAt.bool_bool i j
 ·rw[ag rx]at qx;rw[ag ry]at qy;obtain⟨t,rfl⟩:=qx;obtain⟨t',rfl⟩:=qy;exact RcNeAt.int_int i t j t'
 ·rw[a9 rx]at qx;rw[a9 ry]at qy;obtain⟨t,rfl⟩:=qx;obtain⟨t',rfl⟩:=qy;exact RcNeAt.str_str i t j t'
 ·subst hn;subst hx;subst hy;obtain⟨p,xs,rfl,e2,e3⟩:=aD rx;obtain⟨q,ys,rfl,f2,f3⟩:=aD ry;cases qx;cases qy;obtain⟨its,r1,t1,z1⟩:=I.tuple (SqT.of e2);obtain⟨jts,r2,t2,z2⟩:=I.tuple (SqT.of f2);obtain⟨k',h1,h2⟩:=map_some h;obtain⟨e,h3,h4⟩:=dA h1;have l1:i.length=its.length:=e3.length.trans r1.length;have l2:j.length=jts.length:=f3.length.trans r2.length
  have he:∀ m (g1:m<its.toArray.size) (g2:m<jts.toArray.size),EqAt A.in1 s its.toArray[m] jts.toArray[m] (e m):=fun m g1 g2=>by
   rw[List.size_toArray]at g1 g2;obtain⟨w,w1,w2⟩:=e3.get (i:=m) (d:=i[m]'(by lia)) (by simp);obtain⟨w',w1',w2'⟩:=f3.get (i:=m) (d:=j[m]'(by lia)) (by simp);obtain⟨uu,b1,b2⟩:=r1.get w1;obtain⟨uu',b1',b2'⟩:=r2.get w1'
   have c1:its.toArray[m]=uu:=by simpa using(List.getElem?_eq_some_iff.mp b1).2
   have c2:jts.toArray[m]=uu':=by simpa using(List.getElem?_eq_some_iff.mp b1').2
   rw[c1,c2];exact(deep I nn A.in1 _ _ w w' uu uu' (e m) (by show A.units+1+nn<cLine;lia) w2 w2' b2 b2' (h4 m _ _ (by simp) (by simp))).2
  have z:=RcNeAt.tuples (e:=e) t1 t2 (by lia) he;rw[List.size_toArray,List.size_toArray,<-l1,<-l2,<-h3,h2]at z;exact z
 ·subst hn;subst hx;subst hy;obtain⟨p,xs,rfl,_,e2,e3⟩:=au rx;obtain⟨q,ys,rfl,_,f2,f3⟩:=au ry;cases qx;cases qy;obtain⟨its,r1,t1,z1⟩:=I.list (SqL.of e2);obtain⟨jts,r2,t2,z2⟩:=I.list (SqL.of f2);obtain⟨k',h1,h2⟩:=map_some h;obtain⟨e,h3,h4⟩:=dA h1;have l1:i.length=its.length:=e3.length.trans r1.length;have l2:j.length=jts.length:=f3.length.trans r2.length
  have he:∀ m (g1:m<its.toArray.size) (g2:m<jts.toArray.size),EqAt A.in1 s its.toArray[m] jts.toArray[m] (e m):=fun m g1 g2=>by
   rw[List.size_toArray]at g1 g2;obtain⟨w,w1,w2⟩:=e3.get (i:=m) (d:=i[m]'(by lia)) (by simp);obtain⟨w',w1',w2'⟩:=f3.get (i:=m) (d:=j[m]'(by lia)) (by simp);obtain⟨uu,b1,b2⟩:=r1.get w1;obtain⟨uu',b1',b2'⟩:=r2.get w1'
   have c1:its.toArray[m]=uu:=by simpa using(List.getElem?_eq_some_iff.mp b1).2
   have c2:jts.toArray[m]=uu':=by simpa using(List.getElem?_eq_some_iff.mp b1').2
   rw[c1,c2];exact(deep I nn A.in1 _ _ w w' uu uu' (e m) (by show A.units+1+nn<cLine;lia) w2 w2' b2 b2' (h4 m _ _ (by simp) (by simp))).2
  by_cases hl:its.length=jts.length
  ·have z:=RcNeAt.lists (e:=e) t1.isList t2.isList (by rw[List.size_toArray,List.size_toArray];exact hl) (by lia) he;rw[List.size_toArray]at z
   have hk:k=(List.range its.length).all e:=by
    rw[<-h2,h3,l1,l2,hl];simp
   rw[hk];exact z
  ·have hk:k=false:=by
    rw[<-h2,l1,l2];simp[hl]
   rw[hk];exact RcNeAt.lists_lengths t1.isList t2.isList (by rw[List.size_toArray,List.size_toArray];simpa using hl) (by lia)
abbrev bO:RL.Cop->CmpOp
 | .lt=>.Lt
 | .le=>.LtE
 | .gt=>.Gt
 | .ge=>.GtE
 | .eq=>.Eq
 | .ne=>.NotEq
abbrev pA(K:PySem.W.Frag)(c:RL.Cop):R2:=fun v u H Q=>∃ x y k,Rep nP K H x v/\Rep nP K H y u/\RL.br c x y=some k/\Q (.bl k) H
def fF{c:RL.Cop}(hc:c≠.eq)(hc2:c≠.ne)(h:RL.br c x y=some k):∃ i j,x=.int i/\y=.int j:=by
 have no:∀ {a b:RL.D},RL.br .lt a b=none->RL.br .le a b=none->RL.br .gt a b=none->RL.br .ge a b=none->RL.br c a b=some k->False:=fun e1 e2 e3 e4 h=>by
  cases c with
  | eq=>exact hc rfl
  | ne=>exact hc2 rfl
  | lt=>rw[e1]at h;cases h
  | le=>rw[e2]at h;cases h
  | gt=>rw[e3]at h;cases h
  | ge=>rw[e4]at h;cases h
 cases x with
 | int i=>cases y with
  | int j=>exact⟨_,_,rfl,rfl⟩
  | _=>exact(no rfl rfl rfl rfl h).elim
 | _=>exact(no rfl rfl rfl rfl h).elim
def fm{c:RL.Cop}(hu:X.A.units+100<cLine):OpR X (compareOp (bO c)) (pA X.K c):=by
 intro pins s σ H x y v u Q I rx ry h;obtain⟨dx,dy,k,ex,ey,e,q⟩:=h
 have fin:EP X pins σ Q (.bool k) s:=⟨.bl k,H,I,rfl,q⟩
 cases c with
 |eq=>
  have e:RL.eqD 8 dx dy=some k:=e;exact(deep I 8 X.A dx dy x y v u k (by lia) ex ey rx ry e).1 X.prog X.w X.xe _ fin
 |ne=>
  obtain⟨k',e1,e2⟩:=map_some (show(RL.eqD 8 dx dy).map not=some k from e);subst e2;exact B6 I 8 X.A dx dy x y v u k' (by lia) ex ey rx ry e1 X.prog X.w X.xe _ fin
 |lt=>
  obtain⟨i,j,rfl,rfl⟩:=fF (by decide) (by decide) e;cases e;rw[ag ex]at rx;rw[ag ey]at ry;obtain⟨t,rfl⟩:=rx;obtain⟨t',rfl⟩:=ry;exact lt_int fin
 |le=>
  obtain⟨i,j,rfl,rfl⟩:=fF (by decide) (by decide) e;cases e;rw[ag ex]at rx;rw[ag ey]at ry;obtain⟨t,rfl⟩:=rx;obtain⟨t',rfl⟩:=ry;exact le_int fin
 |gt=>
  obtain⟨i,j,rfl,rfl⟩:=fF (by decide) (by decide) e;cases e;rw[ag ex]at rx;rw[ag ey]at ry;obtain⟨t,rfl⟩:=rx;obtain⟨t',rfl⟩:=ry;exact gt_int fin
 |ge=>
  obtain⟨i,j,rfl,rfl⟩:=fF (by decide) (by decide) e;cases e;rw[ag ex]at rx;rw[ag ey]at ry;obtain⟨t,rfl⟩:=rx;obtain⟨t',rfl⟩:=ry;exact ge_int fin
def fX{c:RL.Cop}(b:Expr):behindInMarks (bO c) b=false:=by cases c<;>exact m4 b (by decide) (by decide)
def sL{c:RL.Cop}(h:∃ σD d,RV0 X.K σD σ H/\RL.ev cl σD (.cmp c a' b')=some d/\∀ H',ao H H'->∃ k,d=.bl k/\Q (.bl k) H'):tOp (pA X.K c) (tE X.K cl a') (tE X.K cl b') σ H Q:=by
 obtain⟨σD,d,rv,e,k⟩:=h;obtain⟨x,ea,e⟩:=bind_some e;obtain⟨y,eb,e⟩:=bind_some e;obtain⟨t,e1,e2⟩:=map_some e;refine two rv ea eb fun v u H1 H2 s1 s2 rx ry _ _=>?_;obtain⟨k',h1,h2⟩:=k H2 (s1.trans s2);rw[h1]at e2;cases e2;exact⟨x,y,t,rx,ry,e1,h2⟩
def kK{c:RL.Cop}(e:RL.ev cl σD (.cmp c a' b')=some d):∃ k,d=.bl k:=by
 obtain⟨x,ea,e⟩:=bind_some e;obtain⟨y,eb,e⟩:=bind_some e;obtain⟨t,e1,e2⟩:=map_some e;exact⟨t,e2.symm⟩
def Af{c:RL.Cop}(hu:X.A.units+100<cLine)(ha:SE X cl a a')(hb:SE X cl b b'):SE X cl (.Compare a [bO c] [b] pos) (.cmp c a' b'):=by
 refine PE.weak (oy (fm hu) ha hb (fX b)) fun σ H Q h=>?_;obtain⟨σD,d,rv,e,k⟩:=h;obtain⟨t,rfl⟩:=kK e;exact sL ⟨σD,_,rv,e,fun H' sm=>⟨t,rfl,k _ _ (c5 sm)⟩⟩
def yQ{c:RL.Cop}(hu:X.A.units+100<cLine)(ha:SE X cl a a')(hb:SE X cl b b'):ST X cl (.Compare a [bO c] [b] pos) (.cmp c a' b'):=by
 refine PT.weak (ka (fm hu) ha hb (fX b)) fun σ H Q h=>?_;obtain⟨σD,k,rv,e,q⟩:=h;obtain⟨d,e1,e2⟩:=bind_some e;obtain⟨t,rfl⟩:=kK e1;cases e2;exact sL ⟨σD,_,rv,e1,fun H' sm=>⟨k,rfl,k,rfl,q H' sm⟩⟩
def vC{c c':RL.Cop}(b e:Expr):lastMarks [bO c,bO c'] [b,e]=false:=by
 show behindInMarks (bO c') e=false;exact fX e
def i9{c c':RL.Cop}(h:RL.ev cl σD (.chain c c' a' b' e')=some d):∃ k,d=.bl k:=by
 obtain⟨x,ea,h⟩:=bind_some h;obtain⟨y,eb,h⟩:=bind_some h;obtain⟨t,e1,h⟩:=bind_some h
 cases t with
 |true=>
  obtain⟨z,ec,h⟩:=bind_some (show(RL.ev cl σD e').bind _=some d from h);obtain⟨t,e1,e2⟩:=map_some h;exact⟨t,e2.symm⟩
 | false=>exact⟨false,(Option.some.inj (show some (RL.D.bl false)=some d from h)).symm⟩
def nr{c c':RL.Cop}(h:∃ σD k,RV0 X.K σD σ H/\RL.ev cl σD (.chain c c' a' b' e')=some (.bl k)/\∀ H',ao H H'->Q (.bl k) H') :
  nh (pA X.K c) (pA X.K c') (tE X.K cl a') (tE X.K cl b') (tE X.K cl e') σ H Q:=by
 obtain⟨σD,k,rv,h,q⟩:=h;obtain⟨x,ea,h⟩:=bind_some h;obtain⟨y,eb,h⟩:=bind_some h;obtain⟨t,e1,h⟩:=bind_some h;refine two rv ea eb fun v u H1 H2 s1 s2 rx ry _ _=>?_;refine⟨x,y,t,rx,ry,e1,t,rfl,?_⟩;have sm:=s1.trans s2
 cases t with
 |true=>
  rw[if_pos rfl]at h;obtain⟨z,ec,h⟩:=bind_some h;obtain⟨t,e3,e2⟩:=map_some h;cases e2;exact c8 ⟨σD,z,rv.same sm,ec,fun w H3 r3=>⟨y,z,k,ry.same r3.same,r3.rep,e3,q H3 (sm.trans r3.same)⟩⟩
 |false=>
  rw[if_neg (by decide)]at h;cases h;exact d4 (q H2 sm)
def uB{c c':RL.Cop}(hu:X.A.units+100<cLine)(ha:SE X cl a a')(hb:SE X cl b b')(he:SE X cl e e'):SE X cl (.Compare a [bO c,bO c'] [b,e] pos) (.chain c c' a' b' e'):=by
 refine PE.weak (vf (fm hu) (fm hu) ha hb he (vC b e)) fun σ H Q h=>?_;obtain⟨σD,d,rv,h,k⟩:=h;obtain⟨t,rfl⟩:=i9 h;exact nr ⟨σD,t,rv,h,fun H' sm=>k _ _ (c5 sm)⟩
def ui{c c':RL.Cop}(hu:X.A.units+100<cLine)(ha:SE X cl a a')(hb:SE X cl b b')(he:SE X cl e e'):ST X cl (.Compare a [bO c,bO c'] [b,e] pos) (.chain c c' a' b' e'):=by
 refine PT.weak (uh (fm hu) (fm hu) ha hb he (vC b e)) fun σ H Q h=>?_;obtain⟨σD,k,rv,h,q⟩:=h;obtain⟨d,e1,e2⟩:=bind_some h;obtain⟨t,rfl⟩:=i9 e1;cases e2;exact nr ⟨σD,k,rv,e1,fun H' sm=>⟨k,rfl,q H' sm⟩⟩
end rules
section rules
variable{X:Cx}
def kJ{neg:Bool}(b:Expr):behindInMarks (if neg then .IsNot else .Is) b=false:=by cases neg<;>exact m4 b (by decide) (by decide)
def oS{neg:Bool}:OpR X (compareOp (if neg then .IsNot else .Is)) (fun x y H Q=>y=.non/\Q (.bl (if neg then !decide (x=.non)else decide (x=.non))) H):=by
 cases neg with
 | true=>exact wg
 | false=>exact Bc
def sT(h:RL.ev cl σD (.isN neg a')=some d):∃ x,RL.ev cl σD a'=some x/\∀ v (H:Hp),Rep nP X.K H x v->d=.bl (if neg then !decide (v=.non)else decide (v=.non)):=by
 obtain⟨x,ea,h⟩:=bind_some h;refine⟨x,ea,fun v H r=>?_⟩
 cases x with
 | non=>cases h;rw[Rep]at r;subst r;cases neg<;>rfl
 | bl k=>cases h;rw[aF r];cases neg<;>rfl
 | int k=>cases h;rw[ag r];cases neg<;>rfl
 | str k=>cases h;rw[a9 r];cases neg<;>rfl
 | tup k=>cases h;obtain⟨p,xs,rfl,_⟩:=aD r;cases neg<;>rfl
 | lst k=>cases h;obtain⟨p,xs,rfl,_⟩:=au r;cases neg<;>rfl
 | scr k=>cases h;rw[Rep]at r;obtain⟨p,xs,rfl,_⟩:=r;cases neg<;>rfl
 | exc k=>cases h;rw[Rep]at r;obtain⟨p,_,_,_,_,rfl,_⟩:=r;cases neg<;>rfl
 | dK _ _=>cases h
 | dT _ _=>cases h
 | fT _ _=>cases h
 | fL k=>cases h;rw[Rep]at r;obtain⟨p,o,xs,rfl,_⟩:=r;cases neg<;>rfl
def yt(ha:SE X cl a a'):SE X cl (.Compare a [if neg then .IsNot else .Is] [.Constant .none j p] pos) (.isN neg a'):=by
 refine PE.weak (oy oS ha lI (kJ _)) fun σ H Q h=>?_;obtain⟨σD,d,rv,e,q⟩:=h;obtain⟨x,ea,hx⟩:=sT (X:=X) e;refine⟨σD,_,rv,ea,fun v H1 r1=>⟨rfl,?_⟩⟩;have hd:=hx v H1 r1.rep;subst hd;exact q _ _ (c5 r1.same)
def ye(ha:SE X cl a a'):ST X cl (.Compare a [if neg then .IsNot else .Is] [.Constant .none j p] pos) (.isN neg a'):=by
 refine PT.weak (ka oS ha lI (kJ _)) fun σ H Q h=>?_;obtain⟨σD,k,rv,e,q⟩:=h;obtain⟨d,e1,e2⟩:=bind_some e;obtain⟨x,ea,hx⟩:=sT (X:=X) e1;refine⟨σD,_,rv,ea,fun v H1 r1=>⟨rfl,?_⟩⟩;have hd:=hx v H1 r1.rep;subst hd;cases e2;exact⟨_,rfl,q _ r1.same⟩
def cT{P:Addr->Prop}{K:PySem.W.Frag}(h:RL.items d=some ds)(r:Rep P K H d v):∃ p xs,v=.ref p/\((H p=some (.lst xs)/\d=.lst ds)\/(H p=some (.tup xs)/\d=.tup ds)\/((∃ o,H p=some (.frz o (.lst xs)))/\d=.fL ds))/\aa P K H ds xs:=by
 cases d<;>simp only[RL.items]at h<;>first | (cases h;done) | skip
 case lst ys=>cases h;obtain⟨p,xs,e1,_,e2,e3⟩:=au r;exact⟨p,xs,e1,.inl ⟨e2,rfl⟩,e3⟩
 case tup ys=>cases h;obtain⟨p,xs,e1,e2,e3⟩:=aD r;exact⟨p,xs,e1,.inr (.inl ⟨e2,rfl⟩),e3⟩
 case fL ys=>cases h;rw[Rep]at r;obtain⟨p,o,xs,e1,e2,e3⟩:=r;exact⟨p,xs,e1,.inr (.inr ⟨⟨o,e2⟩,rfl⟩),e3⟩
abbrev p9:Expr->Bool
 | .Set _ _ _=>false
 | _=>true
def kN(h:p9 b=true):behindInMarks op b=false:=by
 cases b<;>first | rfl | (cases h)
abbrev spF(K:PySem.W.Frag)(cl:RL.Cl)(f:Nat):Sp:=fun vs H Q _=>∃ ds d,aa nP K H ds vs/\cl f ds=some d/\∀ v H',ao H H'->Rep (fun p=>H p≠none) K H' d v->Q v H'
def wu(F:eT X.prog X.w X.K X.mg X.base CX0 k fa fd ps (spF X.K cl f))(hr:cm k X.A)(hg:Gl X x)
 (hm:X.mg x=some (.ref fa))(hk:PySem.W.keepIn X.K (.ref fa)=true)(hb:Binds X.K fd ps [])(he:SEs X cl (e::es) (.cons e' es'))(hdb:(x == ("__debug__" : Str))=false)(hn:noStar e=true)(hns:es.all noStar=true) :
  SE X cl (.Call (.Name x p) (e::es) [] pos) (.call f (.cons e' es')):=by
 refine PE.weak (nR F hr hg hm hk hb .nil vH he hdb (ay es hn) (fU hns)) fun σ H Q h=>?_;obtain⟨σD,d,rv,ev,q⟩:=h;obtain⟨ds,e1,e2⟩:=bind_some ev;refine⟨σD,ds,rv,e1,fun vs H1 s1 r1=>?_⟩;show spF X.K cl f (vs++[]) H1 Q E0;rw[List.append_nil];refine⟨ds,d,r1,e2,fun v H2 s2 r2=>q v H2 ⟨s1.trans s2,r2.none,fun _ m a z=>?_,fun M _ P hP _=>?_⟩⟩
 ·subst z
  have hh:H1 a=none:=by
   cases d with
   | lst ds=>obtain⟨p,xs,e1,e2,_⟩:=au r2;cases e1;exact Classical.byContradiction e2
   | dK ks ds=>rw[Rep]at r2;obtain⟨p,xs,e1,e2,_⟩:=r2;cases e1;exact Classical.byContradiction e2
   | dT ks ds=>rw[Rep]at r2;obtain⟨p,xs,e1,e2,_⟩:=r2;cases e1;exact Classical.byContradiction e2
   | _=>cases m
  exact s1.free hh
 ·refine r2.weak fun a z=>?_;obtain⟨o,ho⟩:=Option.ne_none_iff_exists'.mp (hP a z);rw[s1 _ _ ho]
  exact fun q=>nomatch q
end rules
abbrev Off(P:Addr->Prop)(H H':Hp):Prop:=∀ b o,¬ P b->H b=some o->H' b=some o
def Off.same{H H':Hp}(h:ao H H'){P:Addr->Prop}:Off P H H':=fun b o _ e=>h b o e
mutual
theorem Rep.off{P:Addr->Prop}{K:PySem.W.Frag}{H H':Hp}(hm:∀ b o,P b->H b=some o->bq o)(k:Off P H H'):∀ {d:RL.D} {v:V},Rep P K H d v->Rep P K H' d v
 | .non,v,h=>by simpa[Rep]using h
 | .bl _,v,h=>by simpa[Rep]using h
 | .int _,v,h=>by simpa[Rep]using h
 | .str _,v,h=>by simpa[Rep]using h
 | .tup ds,v,h=>by
  rw[Rep]at h ⊢;obtain⟨b,xs,e1,e2,e3⟩:=h
  have n:¬ P b:=fun p=>by rcases hm b _ p e2 with⟨z,q⟩ | ⟨z,q⟩ | ⟨z,q⟩<;>cases q
  exact⟨b,xs,e1,k _ _ n e2,aa.off hm k e3⟩
 | .lst ds,v,h=>by
  rw[Rep]at h ⊢;obtain⟨b,xs,e1,e0,e2,e3⟩:=h;exact⟨b,xs,e1,e0,k _ _ e0 e2,aa.off hm k e3⟩
 | .dK ks ds,v,h=>by
  rw[Rep]at h ⊢;obtain⟨b,xs,e1,e0,e2,el,e3⟩:=h;exact⟨b,xs,e1,e0,k _ _ e0 e2,el,aa.off hm k e3⟩
 | .dT ks ds,v,h=>by
  rw[Rep]at h ⊢;obtain⟨b,xs,e1,e0,e2,el,e3⟩:=h;exact⟨b,xs,e1,e0,k _ _ e0 e2,el,aa.off hm k e3⟩
 | .scr ds,v,h=>by
  rw[Rep]at h ⊢;obtain⟨b,xs,e1,e2,e3⟩:=h;refine⟨b,xs,e1,?_,aa.off hm k e3⟩;rcases e2 with⟨q,e2⟩ | e2
  ·have n:¬ P b:=fun p=>by rcases hm b _ p e2 with⟨z,q⟩ | ⟨z,q⟩ | ⟨z,q⟩<;>cases q
   exact .inl ⟨q,k _ _ n e2⟩
  ·exact .inr e2
 | .exc c,v,h=>by
  rw[Rep]at h ⊢;exact h.keep fun b ob u q=>k _ _ (fun p=>by rcases hm b _ p q with⟨z,y⟩ | ⟨z,y⟩ | ⟨z,y⟩<;>cases y) q
 | .fT ks ds,v,h=>by
  rw[Rep]at h ⊢;obtain⟨b,ob,xs,e1,e2,el,e3⟩:=h;exact⟨b,ob,xs,e1,k _ _ (fun p=>by rcases hm b _ p e2 with⟨z,y⟩ | ⟨z,y⟩ | ⟨z,y⟩<;>cases y) e2,el,aa.off hm k e3⟩
 | .fL ds,v,h=>by
  rw[Rep]at h ⊢;obtain⟨b,ob,xs,e1,e2,e3⟩:=h;exact⟨b,ob,xs,e1,k _ _ (fun p=>by rcases hm b _ p e2 with⟨z,y⟩ | ⟨z,y⟩ | ⟨z,y⟩<;>cases y) e2,aa.off hm k e3⟩
theorem aa.off{P:Addr->Prop}{K:PySem.W.Frag}{H H':Hp}(hm:∀ b o,P b->H b=some o->bq o)(k:Off P H H'):∀ {ds:List RL.D} {xs:List V},aa P K H ds xs->aa P K H' ds xs
 | [],xs,h=>by rw[aa]at h ⊢;exact h
 | d::r,xs,h=>by
  rw[aa]at h ⊢;obtain⟨x,t,e1,e2,e3⟩:=h;exact⟨x,t,e1,Rep.off hm k e2,aa.off hm k e3⟩
end
structure eW(K:PySem.W.Frag)(J:L2.It)(ds:List RL.D)(P:Addr->Prop)(H:Hp):Prop where
 go:∀ H' i,Off P H H'->i<ds.length->J.go i H'
 stop:∀ H',Off P H H'->J.stop ds.length H'
 yld:∀ H' i d x H2,Off P H H'->ds[i]?=some d->J.yld i H' x H2->ao H' H2/\(d.imm=true\/ao H H'->Rep nP K H2 d x)
abbrev vO(K:PySem.W.Frag)(σD:RL.St)(σ:L2.St)(H:Hp)(it:RL.It)(J:L2.It)(ds:List RL.D)(H1:Hp):Prop :=
 eW K J ds nP H1/\∀ (M:List Nat) (P:Addr->Prop),RL.pb M it=true->(∀ b,P b->∃ o,H b=some o/\bq o)->(∀ (j:Nat) (dj:RL.D) (vj:V),M.contains j=false->σD[j]?=some (some dj)->σ[j]?=some (some vj)->Rep P K H dj vj)->eW K J ds P H1
abbrev tI(K:PySem.W.Frag)(cl:RL.Cl)(it:RL.It):TI:=fun σ H R=>∃ σD ds,RV0 K σD σ H/\RL.bj cl σD it=some ds/\∀ J H1,ao H H1->vO K σD σ H it J ds H1->R J H1
abbrev SI(X:Cx)(cl:RL.Cl)(tg iter:Expr)(it:RL.It):Prop:=PI X tg iter (tI X.K cl it)
def PI.weak{X:Cx}{tg iter:Expr}{t t':TI}(h:PI X tg iter t)(w:∀ σ H R,t' σ H R->t σ H R):PI X tg iter t':=fun pins s σ H R I q=>h pins s σ H R I (w σ H R q)
def cN{K:PySem.W.Frag}{P:Addr->Prop}{H H':Hp}{d:RL.D}{v:V}(hm:∀ b o,P b->H b=some o->bq o)(k:Off P H H')(r:Rep nP K H d v)(i:d.imm=true):Rep nP K H' d v :=
 ((r.imm i).off hm k).imm i
def om{K:PySem.W.Frag}{H:Hp}{a:Addr}{ds:List RL.D}{xs:List V}{P:Addr->Prop}(h:H a=some (.lst xs))(r:aa nP K H ds xs)(hp:¬ P a)(hm:∀ b o,P b->H b=some o->bq o):eW K (Itl K a) ds P H where
 go:=fun H' i k hi=>by
  obtain⟨x,e,_⟩:=r.get (i:=i) (d:=ds[i]) (by simp[hi]);exact⟨xs,x,SqL.of (k _ _ hp h),e⟩
 stop:=fun H' k=>⟨xs,SqL.of (k _ _ hp h),by rw[r.length];exact Nat.le_refl _⟩
 yld:=fun H' i d x H2 k e y=>by
  obtain⟨z,y⟩:=y;subst z;have hx:=y xs (SqL.of (k _ _ hp h));obtain⟨x',e1,e2⟩:=r.get e;rw[hx]at e1;cases e1;refine⟨ao.refl _,fun q=>?_⟩;rcases q with q | q
  ·exact cN hm k e2 q
  ·exact e2.same q
def qq{K:PySem.W.Frag}{H:Hp}{a:Addr}{ds:List RL.D}{xs:List V}{P:Addr->Prop}(h:H a=some (.frz o (.lst xs)))(r:aa nP K H ds xs)(hm:∀ b o,P b->H b=some o->bq o):eW K (Itl K a) ds P H:=by
 have kp:∀ H',Off P H H'->SqL K H' a xs:=fun H' k=>by
  exact .inl (.inr ⟨o,k _ _ (fun p=>by rcases hm a _ p h with⟨z,q⟩ | ⟨z,q⟩ | ⟨z,q⟩<;>cases q) h⟩)
 exact {
  go:=fun H' i k hi=>by
   obtain⟨x,e,_⟩:=r.get (i:=i) (d:=ds[i]) (by simp[hi]);exact⟨xs,x,kp _ k,e⟩
  stop:=fun H' k=>⟨xs,kp _ k,by rw[r.length];exact Nat.le_refl _⟩
  yld:=fun H' i d x H2 k e y=>by
   obtain⟨z,y⟩:=y;subst z;have hx:=y xs (kp _ k);obtain⟨x',e1,e2⟩:=r.get e;rw[hx]at e1;cases e1;refine⟨ao.refl _,fun q=>?_⟩;rcases q with q | q
   ·exact cN hm k e2 q
   ·exact e2.same q }
def sG{K:PySem.W.Frag}{H:Hp}{a:Addr}{ds:List RL.D}{xs:List V}{P:Addr->Prop}(h:H a=some (.tup xs))(r:aa nP K H ds xs)(hm:∀ b o,P b->H b=some o->bq o):eW K (Itt K a) ds P H:=by
 have hp:¬ P a:=fun p=>by rcases hm a _ p h with⟨z,q⟩ | ⟨z,q⟩ | ⟨z,q⟩<;>cases q
 exact {
  go:=fun H' i k hi=>by
   obtain⟨x,e,_⟩:=r.get (i:=i) (d:=ds[i]) (by simp[hi]);exact⟨xs,x,SqT.of (k _ _ hp h),e⟩
  stop:=fun H' k=>⟨xs,SqT.of (k _ _ hp h),by rw[r.length];exact Nat.le_refl _⟩
  yld:=fun H' i d x H2 k e y=>by
   obtain⟨z,y⟩:=y;subst z;have hx:=y xs (SqT.of (k _ _ hp h));obtain⟨x',e1,e2⟩:=r.get e;rw[hx]at e1;cases e1;refine⟨ao.refl _,fun q=>?_⟩;rcases q with q | q
   ·exact cN hm k e2 q
   ·exact e2.same q }
def j3:∀ (n:Nat) (lo:Int) (i:Nat) (d:RL.D),(RL.bu lo n)[i]?=some d->d=.int (lo+i)
 | 0,lo,i,d,h=>by simp[RL.bu]at h
 | n+1,lo,0,d,h=>by simp[RL.bu]at h;simp[h]
 | n+1,lo,i+1,d,h=>by
  rw[RL.bu,List.getElem?_cons_succ]at h;rw[j3 n (lo+1) i d h];congr 1;lia
def fC:∀ (n:Nat) (lo:Int),(RL.bu lo n).length=n
 | 0,_=>rfl
 | n+1,lo=>by rw[RL.bu,List.length_cons,fC n]
def j8{K:PySem.W.Frag}{H:Hp}{lo:Int}{n:Nat}{P:Addr->Prop}:eW K (Itr lo n) (RL.bu lo n) P H where
 go:=fun H' i k hi=>by rw[fC]at hi;exact hi
 stop:=fun H' k=>by rw[fC];exact Nat.le_refl _
 yld:=fun H' i d x H2 k e y=>by
  obtain⟨z,y⟩:=y;subst z;refine⟨ao.refl _,fun _=>?_⟩;rw[j3 n lo i d e,y];exact aA
section rules
variable{X:Cx}{cl:RL.Cl}{tg a b l:Expr}{a' b' e':RL.E}{pos p:Pos}
def BU{t t':TE}{l:Expr}(hl:PE X l t):PI X tg l (fun σ H R=>t σ H fun x H1=>(∃ a,x=.ref a/\(∃ xs,SqL X.K H1 a xs)/\R (Itl X.K a) H1)\/(∃ a,x=.ref a/\(∃ xs,SqT X.K H1 a xs)/\R (Itt X.K a) H1)):=by
 intro pins s σ H R I h;refine thn (hl pins s σ H _ I h) fun v s1 ⟨x,H1,I1,r1,q1⟩=>?_
 rcases q1 with⟨a,e,⟨xs,hq⟩,q⟩ | ⟨a,e,⟨xs,hq⟩,q⟩
 ·subst e;cases r1;obtain⟨its,rv,p,hz⟩:=I1.list hq;refine wpAny_pyIter_list p.isList ⟨s1.heap.objs.size,[s1.heap.objs.size],_,_,H1,rfl,I1.kept (t':=s1.toks) fun b o e=>Heap.get?_push_of_some _ e,rE a _,⟨_,Heap.get?_push_size _ rfl,rfl,rfl⟩,fun b hb=>?_,q⟩;rw[show b=s1.heap.objs.size by simpa using hb];exact I1.ki (Nat.le_refl _) (I1.hok.fresh (Nat.le_refl _))
 ·subst e;cases r1;obtain⟨its,rv,p,hz⟩:=I1.tuple hq;refine wpAny_pyIter_tuple (show s1.heap.IsTuple a its.toArray from p) ⟨s1.heap.objs.size,[s1.heap.objs.size],_,_,H1,rfl,I1.kept (t':=s1.toks) fun b o e=>Heap.get?_push_of_some _ e,ql a _,⟨_,Heap.get?_push_size _ rfl,rfl,rfl⟩,fun b hb=>?_,q⟩;rw[show b=s1.heap.objs.size by simpa using hb];exact I1.ki (Nat.le_refl _) (I1.hok.fresh (Nat.le_refl _))
def j6{σD:RL.St}{σ:L2.St}{H H1:Hp}{d:RL.D}{v:V}{M:List Nat}{P:Addr->Prop}(r1:Res X.K σD σ H e' d v H1)(z:(RL.avE M e' || RL.az e')=true)(hP:∀ b,P b->∃ o,H b=some o/\bq o)
 (av:∀ (j:Nat) (dj:RL.D) (vj:V),M.contains j=false->σD[j]?=some (some dj)->σ[j]?=some (some vj)->Rep P X.K H dj vj):∀ ds a,d=.lst ds->v=.ref a->¬ P a:=by
 intro ds a hd hv;subst hd hv;rw[Bool.or_eq_true]at z;rcases z with z | z
 ·obtain⟨p,xs,e1,e2,_⟩:=au (r1.av M z P (fun b q=>by obtain⟨o,ho,_⟩:=hP b q;rw[ho];exact fun z=>nomatch z) av);cases e1;exact e2
 ·intro q;obtain⟨o,ho,_⟩:=hP a q;rw[r1.fresh z rfl a rfl]at ho;cases ho
def bR{P:Addr->Prop}{H H1:Hp}(s:ao H H1)(hP:∀ b,P b->∃ o,H b=some o/\bq o):∀ b o,P b->H1 b=some o->bq o:=fun b o q e=>by
 obtain⟨o',ho,m⟩:=hP b q;rw[s _ _ ho]at e;cases e;exact m
def dk{H1:Hp}:∀ b o,nP b->H1 b=some o->bq o:=fun b o q=>q.elim
def Bh(hl:SE X cl l e')(hs:True):PI X tg l (fun σ H R=>∃ σD d ds,RV0 X.K σD σ H/\RL.ev cl σD e'=some d/\RL.gA d=some ds/\∀ J H1,ao H H1->vO X.K σD σ H (.seq e') J ds H1->R J H1):=by
 refine PI.weak (BU (t':=tE X.K cl e') hl) fun σ H R h=>?_;obtain⟨σD,d,ds,rv,e,ei,k⟩:=h;refine⟨σD,d,rv,e,fun v H1 r1=>?_⟩
 cases d with
 |fL es=>
  cases ei;have r:=r1.rep;rw[Rep]at r;obtain⟨p,ob,xs,rfl,hp,rs⟩:=r;exact .inl ⟨p,rfl,⟨xs,.inl (.inr ⟨ob,hp⟩)⟩,k _ _ r1.same ⟨qq hp rs dk,fun M P z hP av=>qq hp rs (bR r1.same hP)⟩⟩
 |lst es=>
  obtain⟨p,xs,rfl,hp,rs⟩:=cT (show RL.items (.lst es)=some ds from ei) r1.rep
  rcases hp with⟨hp,e9⟩ | ⟨hp,e9⟩ | ⟨hp,e9⟩
  ·cases e9;exact .inl ⟨p,rfl,⟨xs,SqL.of hp⟩,k _ _ r1.same ⟨om hp rs (fun z=>z) dk,fun M P z hP av=>om hp rs (j6 r1 z hP av _ _ rfl rfl) (bR r1.same hP)⟩⟩
  ·cases e9
  ·cases e9
 |tup es=>
  obtain⟨p,xs,rfl,hp,rs⟩:=cT (show RL.items (.tup es)=some ds from ei) r1.rep
  rcases hp with⟨hp,e9⟩ | ⟨hp,e9⟩ | ⟨hp,e9⟩
  ·cases e9
  ·exact .inr ⟨p,rfl,⟨xs,SqT.of hp⟩,k _ _ r1.same ⟨sG hp rs dk,fun M P z hP av=>sG hp rs (bR r1.same hP)⟩⟩
  ·cases e9
 | _=>cases ei
def jv{x y:RL.D}{ds:List RL.D}(h:RL.ck x y=some ds):∃ i j:Int,x=.int i/\y=.int j/\(-(2 ^ 62)<=i/\i<2 ^ 62/\-(2 ^ 62)<=j/\j<2 ^ 62)/\(j-i).toNat<=RL.most/\ds=RL.bu i (j-i).toNat:=by
 have no:∀ {o:Option (List RL.D)},o=none->o=some ds->False:=fun e h=>by rw[e]at h;cases h
 cases x with
 | int i=>cases y with
  |int j=>
   obtain⟨hc,e⟩:=aW h
   have lo:-(2 ^ 62:Int)<=-(2 ^ 60):=by decide
   have hi:(2 ^ 60:Int)<2 ^ 62:=by decide
   exact⟨i,j,rfl,rfl,⟨Int.le_trans lo hc.2.1,Int.lt_trans hc.2.2.1 hi,Int.le_trans lo hc.2.2.2.1,Int.lt_trans hc.2.2.2.2 hi⟩,hc.1,e⟩
  | _=>exact(no rfl h).elim
 | _=>exact(no rfl h).elim
def xW(hg:Gl X "range")(hm:X.mg "range" = none)(ha:SE X cl a a')(hn:noStar a=true):SI X cl tg (.Call (.Name "range" p) [a] [] pos) (.rng1 a'):=by
 refine PI.weak (qT hg hm (aR (cl:=cl) ha bp hn) (ay [] hn)) fun σ H R h=>?_;obtain⟨σD,ds,rv,e,k⟩:=h;obtain⟨x,ea,e⟩:=bind_some e;obtain⟨i,j,e1,rfl,hb,_,rfl⟩:=jv e;cases e1;refine⟨σD,[.int j],rv,by rw[RL.evs,ea];rfl,fun vs H1 s1 r1=>?_⟩;rw[aa]at r1;obtain⟨v,t,rfl,r2,r3⟩:=r1;rw[aa]at r3;subst r3;refine⟨j,by rw[ag r2],hb.2.2.1,hb.2.2.2,?_⟩
 have hz:(j-0).toNat=j.toNat:=by simp
 rw[hz]at k;exact k _ _ s1 ⟨j8,fun _ _ _ _ _=>j8⟩
def wL(hg:Gl X "range")(hm:X.mg "range" = none)(ha:SE X cl a a')(hb:SE X cl b b')(hn:noStar a=true)(hn2:noStar b=true):SI X cl tg (.Call (.Name "range" p) [a,b] [] pos) (.rng2 a' b'):=by
 refine PI.weak (rM hg hm (aR (cl:=cl) ha (aR hb bp hn2) hn) (by rw[ay _ hn,ay _ hn2];rfl) (ay [] hn2)) fun σ H R h=>?_;obtain⟨σD,ds,rv,e,k⟩:=h;obtain⟨x,ea,e⟩:=bind_some e;obtain⟨y,eb,e⟩:=bind_some e;obtain⟨i,j,rfl,rfl,hb,_,rfl⟩:=jv e;refine⟨σD,[.int i,.int j],rv,by rw[RL.evs,ea,RL.evs,eb];rfl,fun vs H1 s1 r1=>?_⟩;rw[aa]at r1;obtain⟨v,t,rfl,r2,r3⟩:=r1;rw[aa]at r3;obtain⟨u,t,rfl,r4,r5⟩:=r3;rw[aa]at r5;subst r5;exact⟨i,j,by rw[ag r2,ag r4],hb,k _ _ s1 ⟨j8,fun _ _ _ _ _=>j8⟩⟩
end rules
end RS
namespace L2
open PySem PySem.Spec PyProof.Rows
abbrev eB(ifs:List Expr)(env:Env):Sem Bool:=forIn ifs true fun c r=>if r=true then do let ok <- isTrue c env (eval c env);pure (ForInStep.yield ok)else pure (ForInStep.yield r)
section
def zx(h:wpAny M A m P (fun _ _=>False) s):wpAny M A m P E s :=
 wpAny_mono h (fun _ _ q=>q) fun _ _ z=>z.elim
def bJ(h:wpAny M A m (fun a s1=>wpAny M A (k a) P E s1) (fun _ _=>False) s):wpAny M A (m >>= k) P E s:=wpAny_bind (zx h)
end
section
abbrev kD(prog:Program)(w:World)(A:Around)(elt tg:Expr)(ifs:List Expr)(it acc:Value)(env:Env)(stop next:Shared->Prop)(s:Shared):Prop :=
 wpAny (model prog w) A (pyNext it) (fun r s1=>match r with
  | none=>stop s1
  | some v=>wpAny (model prog w) A (letOwnedTupleGo tg it v) (fun _ s2=>wpAny (model prog w) A (assign tg env v) (fun _ s3=>wpAny (model prog w) A (eB ifs env) (fun ok s4 =>
     if ok=true then wpAny (model prog w) A (eval elt env) (fun x s5=>wpAny (model prog w) A (call (.builtin "list.append") [acc,x]) (fun _ s6=>next s6) (fun _ _=>False) s5) (fun _ _=>False) s4
     else next s4) (fun _ _=>False) s3) (fun _ _=>False) s2) (fun _ _=>False) s1) (fun _ _=>False) s
def uO(h:kD prog w A elt tg ifs it acc env stop next s) :
  wpAny (model prog w) A (compTurn (.ListComp elt [⟨tg,iter,ifs,0⟩] scope pos) 0 it acc env) (fun fin s'=>match fin with
   | .done f=>f=.next/\stop s'
   | .again c=>c=.compLoop (.ListComp elt [⟨tg,iter,ifs,0⟩] scope pos) 0 it acc env/\next s') E s:=by
 rw[compTurn_list];apply wpAny_bind;apply wpAny_standAt;apply bJ;refine thn h fun r s1 h1=>?_
 cases r with
 |none=>
  apply wpAny_pure;exact⟨rfl,h1⟩
 |some v=>
  apply bJ;refine thn h1 fun _ s2 h2=>?_;apply bJ;refine thn h2 fun _ s3 h3=>?_;apply bJ;refine thn h3 fun ok s4 h4=>?_;cases ok
  ·apply wpAny_pure;exact⟨rfl,h4⟩
  ·apply wpAny_bind;apply bJ;refine thn h4 fun x s5 h5=>?_;apply bJ;refine thn h5 fun _ s6 h6=>?_;apply wpAny_pure;apply wpAny_pure;exact⟨rfl,h6⟩
def sO(I:Nat->Shared->Prop)(turn:∀ n s,I n s->kD prog w A elt tg ifs it acc env (R (.ok .next)) (fun s'=>∃ m,m<n/\I m s') s)
 (n:Nat)(h:I n s):codeAny (model prog w) A (.compLoop (.ListComp elt [⟨tg,iter,ifs,0⟩] scope pos) 0 it acc env) R s :=
 codeAny_loop (M:=model prog w) rfl I (fun n s hI=>wpAny_noted (thn (uO (turn n s hI)) fun fin s' q=>by
  cases fin with
  |done f=>
   obtain⟨rfl,q⟩:=q;exact q
  | again c=>exact q)) n h
end
def iz:∀ (names:List (Str × NameKind)) (n:Nat) (acc:List (Str × Addr)) (x:Str) (c:Addr),(cellsFrom n names acc).lookup x=some c->(acc.lookup x=some c/\(x,NameKind.cell)∉names)\/(n<=c/\(x,NameKind.cell)∈names)
 | [],n,acc,x,c,h=>.inl ⟨h,by simp⟩
 | (nm,k)::r,n,acc,x,c,h=>by
  unfold cellsFrom at h;by_cases hk:(k == NameKind.cell)=true
  ·rw[if_pos hk]at h
   have ek:k=.cell:=by simpa using hk
   subst ek
   rcases iz r (n+1) ((nm,n)::acc) x c h with⟨a,b⟩ | ⟨a,b⟩
   ·rw[List.lookup_cons]at a
    cases hx:x == nm with
    |true=>
     rw[hx]at a;cases a
     have:x=nm:=by simpa using hx
     subst this;exact .inr ⟨Nat.le_refl _,List.mem_cons_self ..⟩
    |false=>
     rw[hx]at a;refine .inl ⟨a,fun z=>?_⟩;rcases List.mem_cons.mp z with z | z
     ·cases z;simp at hx
     ·exact b z
   ·exact .inr ⟨Nat.le_of_succ_le a,List.mem_cons_of_mem _ b⟩
  ·rw[if_neg hk]at h
   rcases iz r n acc x c h with⟨a,b⟩ | ⟨a,b⟩
   ·refine .inl ⟨a,fun z=>?_⟩;rcases List.mem_cons.mp z with z | z
    ·cases z;exact hk (by simp)
    ·exact b z
   ·exact .inr ⟨a,List.mem_cons_of_mem _ b⟩
def ke:∀ (names:List (Str × NameKind)) (n:Nat) (acc:List (Str × Addr)) (x:Str),(x,NameKind.cell)∉names->(cellsFrom n names acc).lookup x=acc.lookup x
 | [],n,acc,x,_=>rfl
 | (nm,k)::r,n,acc,x,h=>by
  have hr:(x,NameKind.cell)∉r:=fun z=>h (List.mem_cons_of_mem _ z);unfold cellsFrom;by_cases hk:(k == NameKind.cell)=true
  ·rw[if_pos hk,ke r (n+1) _ x hr,List.lookup_cons]
   have ek:k=.cell:=by simpa using hk
   subst ek
   have:(x == nm)=false:=by
    rw[beq_eq_false_iff_ne];intro z;subst z;exact h (List.mem_cons_self ..)
   rw[this]
  ·rw[if_neg hk];exact ke r n acc x hr
def mm:∀ (names:List (Str × NameKind)) (n:Nat) (acc:List (Str × Addr)),(∀ x c,acc.lookup x=some c->c<n)->(∀ x y c,acc.lookup x=some c->acc.lookup y=some c->x=y)->∀ x y c,(cellsFrom n names acc).lookup x=some c->(cellsFrom n names acc).lookup y=some c->x=y
 | [],n,acc,_,hi,x,y,c,h1,h2=>hi x y c h1 h2
 | (nm,k)::r,n,acc,hl,hi,x,y,c,h1,h2=>by
  unfold cellsFrom at h1 h2;by_cases hk:(k == NameKind.cell)=true
  ·rw[if_pos hk]at h1 h2;refine mm r (n+1) ((nm,n)::acc) (fun x c e=>?_) (fun x y c e1 e2=>?_) x y c h1 h2
   ·rw[List.lookup_cons]at e
    cases hx:x == nm with
    | true=>rw[hx]at e;cases e;exact Nat.lt_succ_self _
    | false=>rw[hx]at e;exact Nat.lt_succ_of_lt (hl x c e)
   ·rw[List.lookup_cons]at e1 e2
    cases hx:x == nm with
    |true=>
     rw[hx]at e1;cases e1
     cases hy:y == nm with
     |true=>
      have a:x=nm:=by simpa using hx
      have b:y=nm:=by simpa using hy
      rw[a,b]
     |false=>
      rw[hy]at e2;exact absurd (hl y n e2) (Nat.lt_irrefl _)
    |false=>
     rw[hx]at e1
     cases hy:y == nm with
     |true=>
      rw[hy]at e2;cases e2;exact absurd (hl x n e1) (Nat.lt_irrefl _)
     |false=>
      rw[hy]at e2;exact hi x y c e1 e2
  ·rw[if_neg hk]at h1 h2;exact mm r n acc hl hi x y c h1 h2
def jX:∀ (names:List (Str × NameKind)) (h:Heap) (acc:List (Str × Addr)) (x:Str) (c:Addr),(cellsFrom h.objs.size names acc).lookup x=some c->acc.lookup x=some c\/(pushCells h names).IsCell c none
 | [],h,acc,x,c,e=>.inl e
 | (nm,k)::r,h,acc,x,c,e=>by
  unfold cellsFrom at e;unfold pushCells;by_cases hk:(k == NameKind.cell)=true
  ·rw[if_pos hk]at e ⊢
   have e':(cellsFrom (h.push { cls:=.type "cell",data:=.cell none }).objs.size r ((nm,h.objs.size)::acc)).lookup x=some c:=by rw[Heap.size_push];exact e
   rcases jX r (h.push { cls:=.type "cell",data:=.cell none }) ((nm,h.objs.size)::acc) x c e' with a | a
   ·rw[List.lookup_cons]at a
    cases hx:x == nm with
    |true=>
     rw[hx]at a;cases a;exact .inr ⟨_,pushCells_keeps r _ _ _ (Heap.get?_push_size _ rfl),rfl⟩
    |false=>
     rw[hx]at a;exact .inl a
   ·exact .inr a
  ·rw[if_neg hk]at e ⊢;exact jX r h acc x c e
def wZ{M:Model}{A:Around}{E:Value->Shared->Prop}{s:Shared}{scope:Scope}{globals:Addr}{closure:List (Str × Addr)}{qual:Str}{func:Option Addr}{code:Value}{outer:Env}{builtins:Addr}{Q:Env->Shared->Prop}
 (hQ:Q (newEnv scope s.heap.objs.size globals (cellsFrom (s.heap.objs.size+1) scope.names closure) qual func code (some outer) builtins) { s with heap:=pushCells (s.heap.push { cls:=.type "dict",data:=.dict #[] }) scope.names }) :
  wpAny M A (newFunctionEnv scope globals closure [] qual func code (some outer) builtins) Q E s:=by
 simp only[newFunctionEnv,Option.isSome_some,if_true];refine wpAny_bind (wpAny_alloc ?_);refine wpAny_bind (wpAny_layCells _ (fun name kind cells=>by cases hkc:kind == NameKind.cell<;>simp[hkc]) _ _ _ _ ?_);rw[show({ s with heap:=s.heap.push { cls:=.type "dict",data:=.dict #[] } }:Shared).heap.objs.size=s.heap.objs.size+1 from Heap.size_push ..];refine wpAny_bind ?_;rw[List.forIn_nil];exact wpAny_pure (wpAny_pure hQ)
abbrev blk(X:Cx)(scope:Scope)(cls:List (Str × Addr))(C:Addr)(fp:List Addr)(s:Shared)(H:Hp):Cx where
 prog:=X.prog
 w:=X.w
 K:=X.K
 mg:=X.mg
 base:=X.base
 A:=X.A
 N:=X.N
 s₀:=s
 H₀:=H
 env:=compEnvC scope cls C X.env
 outer:=X.stack
 stack:=X.stack
 ex:=fp
 fn:=fun x=>scope.names.lookup x == some .cell
 calm:=X.calm
 pn:=[]
 xe:=fun _ _=>False
structure dm(scope:Scope)(sc:Scope)(cls:List (Str × Addr))(cells:List (Str × Addr)):Prop where
 kind:scope.kind=.function
 own:∀ x∈scope.names,x.2=.cell->scope.names.lookup x.1=some .cell
 loc:∀ x∈scope.names,x.2=.local->scope.names.lookup x.1=some .local
 sub:∀ x c,cls.lookup x=some c->cells.lookup x=some c
 has:∀ x,scope.names.lookup x=some .free->∃ c,cls.lookup x=some c
 vis:∀ x,scope.names.lookup x=some .free->sc.names.lookup x=some .cell\/sc.names.lookup x=some .free
def aY{env:Env}:∀ {names:List (Str × NameKind)} {x:Str} {k:NameKind},
  (names.map fun(n,k)=>if(k == NameKind.free&&env.scope.kind == .function&&env.kindOf n == some .cell)then(n,NameKind.cell)else(n,k)).lookup x=some k ->
  names.lookup x=some k\/(k=.cell/\names.lookup x=some .free/\env.kindOf x=some .cell)
 | [],x,k,h=>by simp at h
 | (n,k')::r,x,k,h=>by
  have ih:=@aY env r x k;rw[List.map_cons]at h
  cases hx:x == n with
  |true=>
   have en:x=n:=by simpa using hx
   subst en;by_cases hc:(k' == NameKind.free&&env.scope.kind == .function&&env.kindOf x == some .cell)=true
   ·simp only[hc,if_true]at h;rw[List.lookup_cons,hx]at h;cases h;simp only[Bool.and_eq_true,beq_iff_eq]at hc;refine .inr ⟨rfl,?_,hc.2⟩;rw[List.lookup_cons,hx,hc.1.1]
   ·simp only[Bool.not_eq_true]at hc;simp only[hc,Bool.false_eq_true,if_false]at h;rw[List.lookup_cons,hx]at h;cases h;exact .inl (by rw[List.lookup_cons,hx])
  |false=>
   have h':(r.map fun(n,k)=>if(k == NameKind.free&&env.scope.kind == .function&&env.kindOf n == some .cell)then(n,NameKind.cell)else(n,k)).lookup x=some k:=by
    by_cases hc:(k' == NameKind.free&&env.scope.kind == .function&&env.kindOf n == some .cell)=true
    ·simp only[hc,if_true]at h;rw[List.lookup_cons,hx]at h;exact h
    ·simp only[Bool.not_eq_true]at hc;simp only[hc,Bool.false_eq_true,if_false]at h;rw[List.lookup_cons,hx]at h;exact h
   rcases ih h' with q | ⟨q1,q2,q3⟩
   ·exact .inl (by rw[List.lookup_cons,hx];exact q)
   ·exact .inr ⟨q1,by rw[List.lookup_cons,hx];exact q2,q3⟩
abbrev vW(X:Cx)(scope:Scope)(σ σB:St):Prop:=σB.length=σ.length/\∀ (i:Nat) (x:Str) (v:V),X.N[i]?=some x->σB[i]?=some (some v)->σ[i]?=some (some v)/\scope.names.lookup x≠some .local/\scope.names.lookup x≠some .cell
section
def Inv.hxb(I:Inv X pins σ H s):HX (blk X scope cls C fp s H):=by
 rcases I.ok.hd.2 with z | ⟨h,o,u,vs,h1,h2,h3⟩
 ·exact .inl z
 ·exact .inr ⟨h,o,u,vs,h1,I.base.dO _ _ _ h2,h3⟩
def wA(I:Inv X pins σ H s)(S:dm scope X.env.scope cls X.env.cells)(hf:∀ b∈fp,fY X pins H b/\b<s.heap.objs.size)(ho:vW X scope σ σB)
 (hns:h'.Ns s.heap.objs.size (fun _=>none))(hk:∀ b o,s.heap.get? b=some o->h'.get? b=some o)(hcl:∀ x c,(cellsFrom (s.heap.objs.size+1) scope.names cls).lookup x=some c->cls.lookup x=some c\/h'.IsCell c none) :
  Inv (blk X scope (cellsFrom (s.heap.objs.size+1) scope.names cls) s.heap.objs.size fp s H) [] σB H { s with heap:=h',toks:=t }:=by
 have hC:H s.heap.objs.size=none:=I.hok.fresh (Nat.le_refl _)
 have clt:∀ x c,cls.lookup x=some c->c<s.heap.objs.size:=fun x c e=>by
  obtain⟨v,q⟩:=I.cell x c (S.sub x c e);exact q.lt
 have cas:∀ x c,(cellsFrom (s.heap.objs.size+1) scope.names cls).lookup x=some c->(X.env.cells.lookup x=some c/\c<s.heap.objs.size)\/(s.heap.objs.size+1<=c/\scope.names.lookup x=some .cell):=fun x c e=>by
  rcases iz _ _ _ _ _ e with⟨a,_⟩ | ⟨a,b⟩
  ·exact .inl ⟨S.sub x c a,clt x c a⟩
  ·exact .inr ⟨a,S.own _ b rfl⟩
 have fre:∀ x c,cls.lookup x=some c->scope.names.lookup x=some .free->(cellsFrom (s.heap.objs.size+1) scope.names cls).lookup x=some c:=fun x c e f=>by
  rw[ke _ _ _ _ fun z=>by rw[S.own _ z rfl]at f;cases f];exact e
 refine⟨⟨I.ok.mod,?_,I.ok.glob,I.ok.blt,Nat.le_refl _,fun x y c h1 h2=>mm _ _ _ (fun x c e=>Nat.lt_succ_of_lt (clt x c e)) (fun x y c e1 e2=>I.ok.inj x y c (S.sub x c e1) (S.sub y c e2)) x y c h1 h2,fun x hx=>?_,fun x c z e=>?_,⟨I.ok.hd.1,I.hxb⟩,I.ok.frames,.inl rfl,fun b hb=>?_,fun b o e=>I.bs b o e,Nat.le_trans I.ok.bsz I.sz,fun b o e hb=>?_,fun b hb=>?_,I.stack,I.oh⟩,
  rfl,I.bare,Un.kept hk,⟨_,hns,fun i x v h1 h2 h3=>?_⟩,fun x c e=>?_,hC,fun x c e=>?_,fun p hp=>absurd hp (by simp[blk]),I.hok.kept hk,ho.1.trans I.len⟩
 ·exact S.kind
 ·have hx:(relabel scope X.env).names.lookup x=some .cell\/(relabel scope X.env).names.lookup x=some .free:=hx
  have key:scope.names.lookup x=some .cell\/scope.names.lookup x=some .free:=by
   rcases hx with hx | hx
   ·rcases aY hx with q | ⟨_,q,_⟩
    ·exact .inl q
    ·exact .inr q
   ·rcases aY hx with q | ⟨q,_⟩
    ·exact .inr q
    ·cases q
  rcases key with q | q
  ·have:=PySem.W.cellsFrom_some scope.names (s.heap.objs.size+1) cls (.inl q);exact Option.isSome_iff_exists.mp this
  ·obtain⟨c,hc⟩:=S.has x q;exact⟨c,fre x c hc q⟩
 ·have z:(scope.names.lookup x == some .cell)=true:=z
  rcases iz _ _ _ _ _ (show(cellsFrom (s.heap.objs.size+1) scope.names cls).lookup x=some c from e)with⟨_,b⟩ | ⟨b,_⟩
  ·exact absurd (PySem.mem_of_lookup (by simpa using z)) b
  ·exact Nat.le_of_succ_le b
 ·obtain⟨⟨f0,f1,f2,f3,f4,f5⟩,f6⟩:=hf b hb;refine⟨Nat.ne_of_lt f6,fun x c e=>?_⟩
  rcases cas x c e with⟨a,_⟩ | ⟨a,_⟩
  ·exact f4 x c a
  ·exact Nat.ne_of_gt (Nat.lt_trans f6 a)
 ·obtain⟨⟨f0,f1,f2,f3,f4,f5⟩,f6⟩:=hf b hb;rcases f3 with z | z
  ·exact I.ok.mL b o e z
  ·exact absurd (Nat.lt_of_lt_of_le (Heap.lt_size e) I.ok.bsz) (Nat.not_lt.mpr z)
 ·obtain⟨⟨f0,f1,f2,f3,f4,f5⟩,f6⟩:=hf b hb;intro z;rcases List.mem_cons.mp (I.lK b z)with e | e
  ·exact f1 e
  ·exact f2 e
 ·obtain⟨h4,h5,h6⟩:=ho.2 i x v h1 h2;have h3:(relabel scope X.env).names.lookup x=some .local\/(relabel scope X.env).names.lookup x=some .cell\/(relabel scope X.env).names.lookup x=some .free:=h3
  have key:scope.names.lookup x=some .free:=by
   rcases h3 with z | z | z
   ·rcases aY z with q | ⟨q,_⟩
    ·exact absurd q h5
    ·cases q
   ·rcases aY z with q | ⟨_,q,_⟩
    ·exact absurd q h6
    ·exact q
   ·rcases aY z with q | ⟨q,_⟩
    ·exact q
    ·cases q
  obtain⟨c,hc⟩:=S.has x key;have hcx:=S.sub x c hc;obtain⟨m,hn,hl⟩:=I.loc;have hv:Vis X.env.scope x:=.inr (S.vis x key);obtain⟨u,ru,lk⟩:=hl i x v h1 h4 hv;refine⟨u,ru,.inr ⟨?_,c,fre x c hc key,?_⟩⟩
  ·rcases h3 with z | z
   ·rcases aY z with q | ⟨q,_⟩
    ·exact absurd q h5
    ·cases q
   ·exact z
  ·rcases lk with⟨z,_⟩ | ⟨_,c',e',q⟩
   ·have z:X.env.scope.names.lookup x=some .local:=z;rcases S.vis x key with z' | z'<;>(rw[z]at z';cases z')
   ·rw[hcx]at e';cases e';obtain⟨o,g1,g2⟩:=q;exact⟨o,hk _ _ g1,g2⟩
 ·rcases hcl x c e with a | a
  ·obtain⟨v,q⟩:=I.cell x c (S.sub x c a);obtain⟨o,h1,h2⟩:=q;exact⟨v,o,hk _ _ h1,h2⟩
  ·exact⟨none,a⟩
 ·rcases cas x c e with⟨a,_⟩ | ⟨a,_⟩
  ·exact I.cI x c a
  ·exact I.hok.fresh (Nat.le_of_succ_le a)
abbrev df(wi:TI)(clr:St->St)(g:TG)(tc:TT)(te:TE):TE:=fun σ H Q=>wi σ H fun J H1=>∀ l,H1 l=none->∃ W:Nat->Nat->List V->Hp->Prop,(∃ m,W 0 m [] (upd H1 l (.lst []))) /\
 ∀ i m ys H2,W i m ys H2->H2 l=some (.lst ys)/\((J.stop i H2/\Q (.ref l) H2)\/(J.go i H2/\∀ x H3,J.yld i H2 x H3->g x (clr σ) H3 fun σ4 H4=>tc σ4 H4 fun k H5 =>
  if k=true then te σ4 H5 fun y H6=>H6 l=some (.lst ys)/\ys.length<sizeLine/\∃ m',m'<m/\W (i+1) m' (ys++[y]) (upd H6 l (.lst (ys++[y])))else ∃ m',m'<m/\W (i+1) m' ys H5))
structure l8(X:Cx)(scope:Scope)(tg:Expr)(ifs:List Expr)(elt:Expr)(clr:St->St)(g:TG)(tc:TT)(te:TE):Prop where
 htg:∀ cls C fp s H,PG (blk X scope cls C fp s H) tg g
 htc:∀ cls C fp s H pins s' σ H' Q,Inv (blk X scope cls C fp s H) pins σ H' s'->tc σ H' Q->wpAny (model X.prog X.w) X.A (eB ifs (compEnvC scope cls C X.env)) (TP (blk X scope cls C fp s H) pins σ Q) (fun _ _=>False) s'
 hte:∀ cls C fp s H,PE (blk X scope cls C fp s H) elt te
 AV:∀ σ:St,σ.length=X.N.length->vW X scope σ (clr σ)
 vQ:∀ (x:V) (σ:St) (H:Hp) (Q:St->Hp->Prop),g x (clr σ) H Q->g x (clr σ) H fun σ2 H2=>Q σ2 H2/\(clr σ).length=σ2.length/\∀ (i:Nat) v,(clr σ)[i]?=some (some v)->σ2[i]?=some (some v)
def k9{elt tg iter:Expr}{ifs:List Expr}{pos:Pos}{wi:TI}{clr:St->St}{g:TG}{tc:TT}{te:TE}{Q:VK}{RR:Value->Addr->Result->Shared->Prop}{CM:Cx->Prop}(hc:∀ {pins:List (Addr × Obj)} {σ:St} {H:Hp} {s:Shared} (cls:List (Str × Addr)) (C:Addr) (fp:List Addr),Inv X pins σ H s->CM (blk X scope cls C fp s H))(S:dm scope X.env.scope cls X.env.cells)
 (hi:PI' CM X tg iter wi)(B:l8 X scope tg ifs elt clr g tc te)(I:Inv X pins σ H s)(h:df wi clr g tc te σ H Q)
 (hRR:∀ l C H' s',Inv X pins σ H' s'->(∃ m,s'.heap.Ns C m)->H' C=none->C≠X.env.locals->X.s₀.heap.objs.size<=C->(∀ x c,X.env.cells.lookup x=some c->c≠C)->(∀ p∈X.pn++pins,p.1≠C)->Q (.ref l) H'->RR (.ref l) C (.ok .next) s') :
  wpAny (model X.prog X.w) X.A (eval iter X.env) (fun x s1=>wpAny (model X.prog X.w) X.A (pyIter x) (fun it s2=>wpAny (model X.prog X.w) X.A (newList []) (fun acc s3 =>
   wpAny (model X.prog X.w) X.A (newFunctionEnv scope X.env.globals cls [] X.env.qual none .none (some X.env)) (fun cenv s4 =>
    codeAny (model X.prog X.w) X.A (.compStart (.ListComp elt [⟨tg,iter,ifs,0⟩] scope pos) 0 it acc { cenv with scope:=relabel scope X.env }) (RR acc cenv.locals) s4) X.xe s3) X.xe s2) X.xe s1) X.xe s:=by
 refine thn (hi pins s σ H _ I h) fun x s1 h1=>thn h1 fun itv s2 h2=>?_;obtain⟨it,fp,tn,J,H2,e,I2,T,st2,f2,h3⟩:=h2;subst e
 have flt:∀ b∈fp,b<s2.heap.objs.size:=fun b hb=>by
  obtain⟨o,e,_⟩:=T.obj _ _ st2 b hb;exact Heap.lt_size e
 refine wpAny_newObj_type ?_
 have I3:Inv X pins σ (upd H2 s2.heap.objs.size (.lst [])) { s2 with heap:=s2.heap.push { cls:=.type "list",dict:=none,data:=.seq ([]:List Value).toArray } } :=
  I2.laid (t':=s2.toks) (fun b u e=>Heap.get?_push_of_some _ e) (Nat.le_refl _) ⟨Nat.zero_le _,[],0,.nil,Heap.get?_push_size _ rfl⟩
 have hl2:H2 s2.heap.objs.size=none:=I2.hok.fresh (Nat.le_refl _);obtain⟨W,⟨m0,w0⟩,turn⟩:=h3 s2.heap.objs.size hl2
 have f3:∀ b∈fp,fY X pins (upd H2 s2.heap.objs.size (.lst [])) b/\b<(s2.heap.push { cls:=.type "list",dict:=none,data:=.seq ([]:List Value).toArray }).objs.size:=fun b hb=>by
  obtain⟨z0,z⟩:=f2 b hb;refine⟨⟨?_,z⟩,?_⟩
  ·rw[a6 (Nat.ne_of_lt (flt b hb))];exact z0
  ·rw[Heap.size_push];exact Nat.lt_succ_of_lt (flt b hb)
 generalize hs3:({ s2 with heap:=s2.heap.push { cls:=.type "list",dict:=none,data:=.seq ([]:List Value).toArray } }:Shared)=s3 at I3
 have hs3h:s3.heap=s2.heap.push { cls:=.type "list",dict:=none,data:=.seq ([]:List Value).toArray }:=by rw[<-hs3]
 rw[<-hs3h]at f3
 have st3:tn 0 s3.heap:=T.keep _ _ _ st2 fun b hb o e=>by rw[hs3h];exact Heap.get?_push_of_some _ e
 refine wZ ?_;have k4:∀ b o,s3.heap.get? b=some o->(pushCells (s3.heap.push { cls:=.type "dict",data:=.dict #[] }) scope.names).get? b=some o:=fun b o e=>pushCells_keeps _ _ b o (Heap.get?_push_of_some _ e);have hns4:(pushCells (s3.heap.push { cls:=.type "dict",data:=.dict #[] }) scope.names).Ns s3.heap.objs.size (fun _=>none):=(Heap.Ns.new s3.heap (.type "dict")).keeps (pushCells_keeps _ _);have hcl4:∀ x c,(cellsFrom (s3.heap.objs.size+1) scope.names cls).lookup x=some c->cls.lookup x=some c\/(pushCells (s3.heap.push { cls:=.type "dict",data:=.dict #[] }) scope.names).IsCell c none:=fun x c e=>jX scope.names (s3.heap.push { cls:=.type "dict",data:=.dict #[] }) cls x c (by rw[Heap.size_push];exact e);generalize pushCells (s3.heap.push { cls:=.type "dict",data:=.dict #[] }) scope.names=h4 at k4 hns4 hcl4
 have I4:Inv (blk X scope (cellsFrom (s3.heap.objs.size+1) scope.names cls) s3.heap.objs.size fp s3 (upd H2 s2.heap.objs.size (.lst []))) [] (clr σ) (upd H2 s2.heap.objs.size (.lst [])) { s3 with heap:=h4 } :=
  wA (t:=s3.toks) I3 S f3 (B.AV σ I.len) hns4 k4 hcl4
 generalize hs4:({ s3 with heap:=h4 }:Shared)=s4 at I4
 have hs4h:s4.heap=h4:=by rw[<-hs4]
 generalize hH3:upd H2 s2.heap.objs.size (.lst [])=H3 at I3 I4 w0
 have st4:tn 0 s4.heap:=T.keep _ _ _ st3 fun b hb o e=>by rw[hs4h];exact k4 b o e
 have fn4:∀ b∈fp,H3 b=none:=fun b hb=>by rw[<-hH3];exact(f3 b hb).1.1
 have stat:∀ {H':Hp} {σ':St} {s':Shared},Inv (blk X scope (cellsFrom (s3.heap.objs.size+1) scope.names cls) s3.heap.objs.size fp s3 H3) [] σ' H' s'->(∀ b∈fp,H' b=none)->∀ b∈fp,fY (blk X scope (cellsFrom (s3.heap.objs.size+1) scope.names cls) s3.heap.objs.size fp s3 H3) [] H' b :=
  fun {H' σ' s'} J hn b hb=>⟨hn b hb,(J.ok.exf b hb).1,J.ok.mr b hb,.inl hb,(J.ok.exf b hb).2,fun p hp=>absurd hp (by simp[blk])⟩
 have fin:∀ {H':Hp} {s':Shared},Inv (blk X scope (cellsFrom (s3.heap.objs.size+1) scope.names cls) s3.heap.objs.size fp s3 H3) [] (clr σ) H' s'->Q (.ref s2.heap.objs.size) H'->RR (.ref s2.heap.objs.size) s3.heap.objs.size (.ok .next) s':=fun {H' s'} J q=>by
  obtain⟨m,hn,_⟩:=J.loc
  have J1:Inv X pins σ H' s':=I3.vB (s':=s') (ch:=fp) (J.os.trans rfl) J.base J.hok J.bare fun b hb=>by
   obtain⟨⟨g0,g1,g2,g3,g4,g5⟩,_⟩:=f3 b hb;exact⟨g3,g1,g4,g5⟩
  refine hRR _ _ H' s' J1 ⟨m,hn⟩ J.free (Nat.ne_of_gt I3.lt) I3.sz (fun x c e=>?_) (fun p hp=>?_) q
  ·obtain⟨v,z⟩:=I3.cell x c e;exact Nat.ne_of_lt z.lt
  ·exact Nat.ne_of_lt (Heap.lt_size (I3.pin p hp).1)
 have loop:codeAny (model X.prog X.w) X.A (.compLoop (.ListComp elt [⟨tg,iter,ifs,0⟩] scope pos) 0 (.ref it) (.ref s2.heap.objs.size) (compEnvC scope (cellsFrom (s3.heap.objs.size+1) scope.names cls) s3.heap.objs.size X.env))
   (RR (.ref s2.heap.objs.size) s3.heap.objs.size) s4:=by
  refine sO (fun n s'=>∃ i ys H',Inv (blk X scope (cellsFrom (s3.heap.objs.size+1) scope.names cls) s3.heap.objs.size fp s3 H3) [] (clr σ) H' s'/\tn i s'.heap/\(∀ b∈fp,H' b=none)/\W i n ys H') ?_ m0 ⟨0,[],H3,I4,st4,fn4,w0⟩;rintro n s5 ⟨i,ys,H5,I5,st5,fr5,w5⟩;obtain⟨hl5,tr⟩:=turn i n ys H5 w5
  rcases tr with⟨stop,qn⟩ | ⟨go,step⟩
  ·refine thn (T.done (blk X scope (cellsFrom (s3.heap.objs.size+1) scope.names cls) s3.heap.objs.size fp s3 H3) rfl rfl rfl (hc _ _ _ I3) i [] s5 (clr σ) H5 (fun _ _=>False) I5 (stat I5 fr5) st5 stop) fun r s6 ⟨hr,I6⟩=>?_;subst hr;exact fin I6 qn
  ·refine thn (T.item (blk X scope (cellsFrom (s3.heap.objs.size+1) scope.names cls) s3.heap.objs.size fp s3 H3) rfl rfl rfl (hc _ _ _ I3) i [] s5 (clr σ) H5 (fun _ _=>False) I5 (stat I5 fr5) st5 go) fun r s6 ⟨u,hr,h6⟩=>?_;subst hr;refine thn h6 fun _ s7 ⟨x,H7,I7,r7,y7,st7,fr7⟩=>?_;have I7':=I7.pinned (stat I7 fr7) (T.obj _ _ st7)
   have back:∀ {σ':St} {H':Hp} {s':Shared},Inv (blk X scope (cellsFrom (s3.heap.objs.size+1) scope.names cls) s3.heap.objs.size fp s3 H3) ([]++gF fp s7.heap) σ' H' s'->(clr σ).length=σ'.length->(∀ (i:Nat) v,(clr σ)[i]?=some (some v)->σ'[i]?=some (some v))->(∃ m ys',m<n/\W (i+1) m ys' H') ->
     ∃ m,m<n/\∃ i ys H',Inv (blk X scope (cellsFrom (s3.heap.objs.size+1) scope.names cls) s3.heap.objs.size fp s3 H3) [] (clr σ) H' s'/\tn i s'.heap/\(∀ b∈fp,H' b=none)/\W i m ys H':=fun {σ' H' s'} J el ew hw=>by
    obtain⟨m,ys',hm,w8⟩:=hw;refine⟨m,hm,i+1,ys',H',J.gb.weak el ew,T.keep _ _ _ st7 fun b hb o e=>(J.pin (b,o) (List.mem_append_right _ (List.mem_append_right _ (d7 hb e)))).1,fun b hb=>?_,w8⟩;obtain⟨o,e,d⟩:=T.obj _ _ st7 b hb;exact(J.pin (b,o) (List.mem_append_right _ (List.mem_append_right _ (d7 hb e)))).2.1
   refine thn (B.htg _ s3.heap.objs.size fp s3 H3 _ s7 (clr σ) H7 x u _ I7' r7 (B.vQ x σ H7 _ (step x H7 y7))) fun _ s8 ⟨σ8,H8,I8,q8,el8,ew8⟩=>?_;refine thn (B.htc _ s3.heap.objs.size fp s3 H3 _ s8 σ8 H8 _ I8 q8) fun ok s9 ⟨H9,I9,q9⟩=>?_
   cases ok with
   |false=>
    have q9:∃ m',m'<n/\W (i+1) m' ys H9:=q9;obtain⟨m',hm,w9⟩:=q9;exact back I9 el8 ew8 ⟨m',ys,hm,w9⟩
   |true=>
    refine thn (B.hte _ s3.heap.objs.size fp s3 H3 _ s9 σ8 H9 _ I9 q9) fun v s10 ⟨y,H10,I10,r10,hl10,hz,m',hm,w10⟩=>?_;refine thn (ku (X:=blk X scope (cellsFrom (s3.heap.objs.size+1) scope.names cls) s3.heap.objs.size fp s3 H3) _ s10 σ8 H10 (.ref s2.heap.objs.size) [y] (.ref s2.heap.objs.size) [v] (fun _ H'=>H'=upd H10 s2.heap.objs.size (.lst (ys++[y]))) I10 rfl (.cons r10 .nil) ⟨_,ys,y,rfl,rfl,hl10,hz,rfl⟩) fun _ s11 ⟨_,H11,I11,_,e11⟩=>?_;subst e11;exact back I11 el8 ew8 ⟨m',_,hm,w10⟩
 exact codeAny_compStart_list loop (T.self _ 0 _ _ _ st4 loop)
def jQ{elt tg iter:Expr}{ifs:List Expr}{pos:Pos}{wi:TI}{clr:St->St}{g:TG}{tc:TT}{te:TE}{CM:Cx->Prop}(hc:∀ {pins:List (Addr × Obj)} {σ:St} {H:Hp} {s:Shared} (cls:List (Str × Addr)) (C:Addr) (fp:List Addr),Inv X pins σ H s->CM (blk X scope cls C fp s H))(S:dm scope X.env.scope cls X.env.cells)(hclos:closureFor scope X.env=pure cls)
 (hi:PI' CM X tg iter wi)(B:l8 X scope tg ifs elt clr g tc te)(hs:∀ x,foldedSetIterable iter X.env x=pure x):PE X (.ListComp elt [⟨tg,iter,ifs,0⟩] scope pos) (df wi clr g tc te):=by
 intro pins s σ H Q I h;rw[eval_ListComp];refine wpAny_comprehension_free (use:=none) rfl hs hclos S.kind S.loc (k9 (RR:=fun acc C=>compPost (model X.prog X.w) X.A X.xe none (EP X pins σ Q) acc C) hc S hi B I h ?_);intro l C H' s' J hn c0 c1 c2 c3 c4 q;obtain⟨m,hn⟩:=hn;exact⟨m,hn,fun h' sb=>⟨.ref l,H',J.turned (it:=C) (h':=h') (t':=s'.toks) (fun b o hb e=>(sb.2 b hb).trans e) c0 (Ne.symm (Ne.symm c1)) (.inr c2) c3 c4,rfl,q⟩⟩
abbrev Cs(i:Nat)(t:TE):TS:=fun D σ H=>t σ H fun v H1=>D.nx (σ.set i (some v)) H1
def jD(hc:X.calm=true)(hN:X.N.Nodup)(hiy:X.N[i]?=some y)(hy:X.env.scope.names.lookup y=some .local)
 (S:dm scope X.env.scope cls X.env.cells)(hclos:closureFor scope X.env=pure cls)
 (hi:PI X tg iter wi)(B:l8 X scope tg ifs elt clr g tc te)(hs:∀ x,foldedSetIterable iter X.env x=pure x)
 (hsw:swapsWith (.ListComp elt [⟨tg,iter,ifs,0⟩] scope pos) (some (.Name y py)) spos.line X.env=pure true) :
  PS X (.Assign [.Name y py] (.ListComp elt [⟨tg,iter,ifs,0⟩] scope pos) spos) (Cs i (df wi clr g tc te)):=by
 intro pins s σ H D I h
 have back:∀ (l C:Addr) (H':Hp) (s':Shared),Inv X pins σ H' s'->(∃ m,s'.heap.Ns C m)->H' C=none->C≠X.env.locals->X.s₀.heap.objs.size<=C->(∀ x c,X.env.cells.lookup x=some c->c≠C)->(∀ p∈X.pn++pins,p.1≠C)->D.nx (σ.set i (some (.ref l))) H' ->
   compPost (model X.prog X.w) X.A X.xe (some (assign (.Name y py) X.env)) (fun _ s'=>SP X pins D .next s') (.ref l) C (.ok .next) s':=by
  intro l C H' s' J hn c0 c1 c2 c3 c4 q;obtain⟨m,hn⟩:=hn;show wpAny _ X.A (assign (.Name y py) X.env (.ref l)) _ _ s';refine wpAny_assign_Name (kM (v:=.ref l) J hN hiy (.inl hy) rfl (fun s2 J2 ⟨a,sb,ha⟩=>?_) (.inr hy))
  have hne:C≠a:=by
   rcases ha with z | z
   ·rw[z];exact c1
   ·exact(c3 _ _ z).symm
  exact⟨m,hn.sameBut sb hne,fun h' sb'=>⟨σ.set i (some (.ref l)),H',J2.turned (it:=C) (h':=h') (t':=s2.toks) (fun b o hb e=>(sb'.2 b hb).trans e) c0 c1 (.inr c2) c3 c4,q⟩⟩
 have core:=k9 (RR:=fun acc C=>compPost (model X.prog X.w) X.A X.xe (some (assign (.Name y py) X.env)) (fun _ s'=>SP X pins D .next s') acc C) (pos:=pos) (fun _ _ _ _=>hc) S hi B I h back;have whole:=wpAny_comprehension_free (e:=.ListComp elt [⟨tg,iter,ifs,0⟩] scope pos) (newAcc:=newList []) (use:=some (assign (.Name y py) X.env)) (Q:=fun _ s'=>SP X pins D .next s') (pos:=iter.pos) rfl hs hclos S.kind S.loc core;rw[exec_Assign_Name_used (hs:=hsw)];apply wpAny_bind;apply wpAny_standAt;apply wpAny_bind;apply wpAny_bind;refine thn whole fun _ s' hq=>?_;apply wpAny_pure;apply wpAny_pure;exact hq
end
end L2
namespace RS
open PySem PySem.Spec PyProof.Rows L2
def fH:∀ (names:List (Str × NameKind)) (acc:List (Str × Addr)),(∀ x,(x,NameKind.free)∈names->∃ c,env.cells.lookup x=some c)->(∀ x c,acc.lookup x=some c->env.cells.lookup x=some c) ->
  ∃ cls,(forIn names acc fun(p:Str × NameKind) cs=>match p with | (name,kind)=>if(kind == NameKind.free)=true then do let c <- cellOf env name;pure (ForInStep.yield ((name,c)::cs))else pure (ForInStep.yield cs):Sem (List (Str × Addr)))=pure cls /\
   (∀ x c,cls.lookup x=some c->env.cells.lookup x=some c)/\(∀ x,(acc.lookup x).isSome=true\/(x,NameKind.free)∈names->∃ c,cls.lookup x=some c)
 | [],acc,_,ha=>⟨acc,rfl,ha,fun x hx=>by
   rcases hx with h | h
   ·exact Option.isSome_iff_exists.mp h
   ·simp at h⟩
 | (n,k)::r,acc,hn,ha=>by
  by_cases hk:k=.free
  ·subst hk;obtain⟨c,hc⟩:=hn n List.mem_cons_self
   have ha':∀ x c',((n,c)::acc).lookup x=some c'->env.cells.lookup x=some c':=fun x c' e=>by
    rw[List.lookup_cons]at e
    cases hx:x == n with
    |true=>
     rw[hx]at e;cases e;rw[show x=n by simpa using hx];exact hc
    |false=>
     rw[hx]at e;exact ha x c' e
   obtain⟨cls,h1,h2,h3⟩:=fH r ((n,c)::acc) (fun x hx=>hn x (List.mem_cons_of_mem _ hx)) ha';refine⟨cls,?_,h2,fun x hx=>h3 x ?_⟩
   ·rw[List.forIn_cons]
    have hcell:cellOf env n=pure c:=by unfold cellOf;rw[hc]
    simp only[beq_self_eq_true,if_true,hcell];exact h1
   ·rcases hx with h | h
    ·left;rw[List.lookup_cons];split<;>simp_all
    ·rcases List.mem_cons.mp h with e | e
     ·cases e;left;simp[List.lookup_cons]
     ·exact .inr e
  ·obtain⟨cls,h1,h2,h3⟩:=fH r acc (fun x hx=>hn x (List.mem_cons_of_mem _ hx)) ha;refine⟨cls,?_,h2,fun x hx=>h3 x ?_⟩
   ·rw[List.forIn_cons]
    have:(k == NameKind.free)=false:=by simpa using hk
    simp only[this,Bool.false_eq_true,if_false];exact h1
   ·rcases hx with h | h
    ·exact .inl h
    ·rcases List.mem_cons.mp h with e | e
     ·cases e;exact absurd rfl hk
     ·exact .inr e
def pF(h:∀ x,(x,NameKind.free)∈scope.names->∃ c,env.cells.lookup x=some c) :
  ∃ cls,closureFor scope env=pure cls/\(∀ x c,cls.lookup x=some c->env.cells.lookup x=some c)/\(∀ x,scope.names.lookup x=some .free->∃ c,cls.lookup x=some c):=by
 obtain⟨cls,h1,h2,h3⟩:=fH (env:=env) scope.names [] h (fun x c e=>by simp at e);refine⟨cls,?_,h2,fun x hx=>h3 x (.inr (PySem.mem_of_lookup hx))⟩;unfold closureFor;simp only[bind_pure_comp]at h1 ⊢;rw[h1];rfl
section
abbrev kj(K:PySem.W.Frag)(n:Nat)(t:TGs):TG:=fun v σ H Q=>∃ a xs,v=.ref a/\SqL K H a xs/\xs.length=n/\t xs σ H Q
def sU(hc:X.calm=true)(h:PGs X es t)(hn:(assignEach es X.env).length=n)(hst:(assignEach es X.env).findIdx? (·.1)=none):PG X (.Tuple es k pos) (kj X.K n t):=by
 intro pins s σ H v u Q I r hw;obtain⟨a,xs,e1,hq,hl,hw⟩:=hw;subst e1;cases r;obtain⟨its,rv,ht,hz⟩:=I.list hq
 have hsz:(assignEach es X.env).length=its.toArray.size:=by rw[hn,<-hl,rv.length,List.size_toArray]
 rw[PyProof.Rows.assign_Tuple];refine wpAny_bind (wpAny_standAt ?_);unfold unpack;rw[hsz,hst];refine wpAny_bind (wpAny_holding (PySem.W.kun_itemsOf (I.ok.hd.1 hc) ht.isList fun h' hx=>?_));have I1:Inv X pins σ H { s with heap:=h' }:=I.kept (t':=s.toks) fun b o e=>hx b o (Nat.ne_of_lt (Heap.lt_size e)) e;exact h pins _ σ H xs _ Q I1 (by simpa using rv) hw
end
section
def qZ(h:PG X tgE t)(h':PG X tgE t'):PG X tgE (fun v σ H Q=>t v σ H Q\/t' v σ H Q):=by
 intro pins s σ H v u Q I r hw;rcases hw with q | q
 ·exact h pins s σ H v u Q I r q
 ·exact h' pins s σ H v u Q I r q
end
abbrev gs:List Nat->TGs
 | []=>AW
 | i::r=>vS (lg i) (gs r)
abbrev gT(K:PySem.W.Frag):List Nat->TG
 | [i]=>lg i
 | is=>fun v σ H Q=>jF K is.length (gs is) v σ H Q\/kj K is.length (gs is) v σ H Q
abbrev bA:List Nat->List V->L2.St->L2.St
 | i::is,v::vs,σ=>bA is vs (σ.set i (some v))
 | _,_,σ=>σ
abbrev cw:List Nat->List RL.D->RL.St->RL.St
 | i::is,d::ds,σ=>cw is ds (σ.set i (some d))
 | _,_,σ=>σ
def dt:∀ {is:List Nat} {ds:List RL.D} {σ σ1:RL.St},RL.ba is ds σ=some σ1->is.length=ds.length/\σ1=cw is ds σ
 | [],[],σ,σ1,h=>by cases h;exact⟨rfl,rfl⟩
 | [],d::ds,σ,σ1,h=>by cases h
 | i::is,[],σ,σ1,h=>by cases h
 | i::is,d::ds,σ,σ1,h=>by
  obtain⟨h1,h2⟩:=dt (is:=is) (ds:=ds) (σ:=σ.set i (some d)) h;exact⟨by simp[h1],h2⟩
def eE:∀ {is:List Nat} {vs:List V} {σ:L2.St} {H:Hp} {Q:L2.St->Hp->Prop},is.length=vs.length->Q (bA is vs σ) H->gs is vs σ H Q
 | [],[],σ,H,Q,_,q=>⟨rfl,q⟩
 | [],_::_,_,_,_,h,_=>by simp at h
 | _::_,[],_,_,_,h,_=>by simp at h
 | i::is,v::vs,σ,H,Q,h,q=>⟨v,vs,rfl,eE (is:=is) (by simpa using h) q⟩
def p8{K:PySem.W.Frag}(h:RL.bc tg d σD=some σD1)(r:Rep nP K H d v) :
  ∃ ds vs,σD1=cw tg ds σD/\tg.length=ds.length/\aa nP K H ds vs/\(d.imm=true->RL.ah ds=true)/\∀ (σ:L2.St) (Q:L2.St->Hp->Prop),Q (bA tg vs σ) H->gT K tg v σ H Q:=by
 unfold RL.bc at h;split at h
 ·rename_i i;cases h;exact⟨[d],[v],rfl,rfl,aa.cons r aa.nil,fun z=>by simp[RL.ah,z],fun σ Q q=>q⟩
 ·rename_i hne
  have key:gT K tg=fun v σ H Q=>jF K tg.length (gs tg) v σ H Q\/kj K tg.length (gs tg) v σ H Q:=by
   unfold gT;split
   ·rename_i i;exact absurd rfl (hne i)
   ·rfl
  rw[key];split at h
  ·rename_i ds;obtain⟨h1,h2⟩:=dt h;obtain⟨p,xs,rfl,e2,e3⟩:=aD r;exact⟨ds,xs,h2,h1,e3,fun z=>by rw[RL.D.imm]at z;exact z,fun σ Q q=>.inl ⟨p,xs,rfl,SqT.of e2,by rw[<-e3.length,h1],eE (h1.trans e3.length) q⟩⟩
  ·rename_i ds;obtain⟨h1,h2⟩:=dt h;obtain⟨p,xs,rfl,_,e2,e3⟩:=au r;exact⟨ds,xs,h2,h1,e3,fun z=>(by cases z),fun σ Q q=>.inr ⟨p,xs,rfl,SqL.of e2,by rw[<-e3.length,h1],eE (h1.trans e3.length) q⟩⟩
  ·cases h
def lA:∀ (is:List Nat) (vs:List V) (σ:L2.St),(bA is vs σ).length=σ.length
 | [],_,_=>rfl
 | _::_,[],_=>rfl
 | i::is,v::vs,σ=>by rw[bA,lA is vs,List.length_set]
def jR:∀ (is:List Nat) (vs:List V) (σ:L2.St) (j:Nat),is.contains j=false->(bA is vs σ)[j]?=σ[j]?
 | [],_,_,_,_=>rfl
 | _::_,[],_,_,_=>rfl
 | i::is,v::vs,σ,j,h=>by
  rw[List.contains_cons,Bool.or_eq_false_iff]at h;rw[bA,jR is vs _ j h.2,List.getElem?_set_ne (by intro e;subst e;simp at h)]
def iY:∀ (is:List Nat) (vs:List RL.D) (σ:RL.St),(cw is vs σ).length=σ.length
 | [],_,_=>rfl
 | _::_,[],_=>rfl
 | i::is,v::vs,σ=>by rw[cw,iY is vs,List.length_set]
def ib:∀ (is:List Nat) (vs:List RL.D) (σ:RL.St) (j:Nat),is.contains j=false->(cw is vs σ)[j]?=σ[j]?
 | [],_,_,_,_=>rfl
 | _::_,[],_,_,_=>rfl
 | i::is,v::vs,σ,j,h=>by
  rw[List.contains_cons,Bool.or_eq_false_iff]at h;rw[cw,ib is vs _ j h.2,List.getElem?_set_ne (by intro e;subst e;simp at h)]
abbrev RVx(T:List Nat)(K:PySem.W.Frag)(σD:RL.St)(σ:L2.St)(H:Hp):Prop:=σD.length<=σ.length/\∀ (i:Nat) (d:RL.D),T.contains i=false->σD[i]?=some (some d)->∃ v,σ[i]?=some (some v)/\Rep nP K H d v
def RVx.set{K:PySem.W.Frag}(h:RVx (i::T) K σD σ H)(r:Rep nP K H d v):RVx T K (σD.set i (some d)) (σ.set i (some v)) H:=⟨by simpa using h.1,fun j dj hT e=>by
 by_cases hj:j=i
 ·subst hj
  have hlt:j<σD.length:=by
   have:=(List.getElem?_eq_some_iff.mp e).1;simpa using this
  rw[List.getElem?_set_self hlt]at e;cases e;exact⟨v,by rw[List.getElem?_set_self (Nat.lt_of_lt_of_le hlt h.1)],r⟩
 ·rw[List.getElem?_set_ne (Ne.symm hj)]at e ⊢
  exact h.2 j dj (by rw[List.contains_cons,hT,Bool.or_false];simpa using hj) e⟩
def RVx.ba{K:PySem.W.Frag}:∀ {is:List Nat} {ds:List RL.D} {vs:List V} {σD:RL.St} {σ:L2.St},RVx is K σD σ H->is.length=ds.length->aa nP K H ds vs->RV0 K (cw is ds σD) (bA is vs σ) H
 | [],_,_,_,_,h,_,_=>⟨h.1,fun i d e=>h.2 i d rfl e⟩
 | i::is,[],_,_,_,_,hl,_=>by simp at hl
 | i::is,d::ds,vs,σD,σ,h,hl,r=>by
  rw[aa]at r;obtain⟨v,t,rfl,r1,r2⟩:=r;rw[cw,bA];exact RVx.ba (h.set r1) (by simpa using hl) r2
def zd{K:PySem.W.Frag}(h:gT K tg v σ H Q):∃ vs,tg.length=vs.length/\Q (bA tg vs σ) H/\∀ Q':L2.St->Hp->Prop,Q' (bA tg vs σ) H->gT K tg v σ H Q':=by
 have inv:∀ (is:List Nat) (xs:List V) (σ:L2.St) (Q:L2.St->Hp->Prop),gs is xs σ H Q->is.length=xs.length/\Q (bA is xs σ) H:=by
  intro is
  induction is with
  | nil=>intro xs σ Q h;obtain⟨rfl,q⟩:=h;exact⟨rfl,q⟩
  |cons i r ih=>
   intro xs σ Q h;obtain⟨v,t,rfl,q⟩:=h;obtain⟨h1,h2⟩:=ih t _ Q q;exact⟨by simp[h1],h2⟩
 unfold gT at h;split at h
 ·rename_i i;exact⟨[v],rfl,h,fun Q' q=>q⟩
 ·rename_i hne
  have key:gT K tg=fun v σ H Q=>jF K tg.length (gs tg) v σ H Q\/kj K tg.length (gs tg) v σ H Q:=by
   unfold gT;split
   ·rename_i i;exact absurd rfl (hne i)
   ·rfl
  rw[key]
  rcases h with⟨a,xs,rfl,hq,hl,hg⟩ | ⟨a,xs,rfl,hq,hl,hg⟩
  ·obtain⟨h1,h2⟩:=inv _ _ _ _ hg;exact⟨xs,h1,h2,fun Q' q=>.inl ⟨a,xs,rfl,hq,hl,eE h1 q⟩⟩
  ·obtain⟨h1,h2⟩:=inv _ _ _ _ hg;exact⟨xs,h1,h2,fun Q' q=>.inr ⟨a,xs,rfl,hq,hl,eE h1 q⟩⟩
abbrev bY(tg:List Nat)(σ:L2.St):L2.St:=σ.mapIdx fun i o=>if tg.contains i then none else o
def jb(tg:List Nat)(σ:L2.St):(bY tg σ).length=σ.length:=by simp[bY]
def jZ(h:tg.contains i=false):(bY tg σ)[i]?=σ[i]?:=by
 unfold bY;rw[List.getElem?_mapIdx]
 cases σ[i]? with
 | none=>rfl
 | some o=>simp only[Option.map_some,h,Bool.false_eq_true,if_false]
def nV(h:tg.contains i=true):(bY tg σ)[i]?≠some (some v):=by
 unfold bY;rw[List.getElem?_mapIdx]
 cases σ[i]? with
 | none=>simp
 | some o=>simp only[Option.map_some,h,if_true];intro z;cases z
section comp
variable{X:Cx}
structure eD(X:Cx)(cl:RL.Cl)(scope:Scope)(tgE:Expr)(tg:List Nat)(elt:Expr)(e':RL.E)(tcs:TT)(ifs:List Expr):Prop where
 htg:∀ cls C fp s H,PG (blk X scope cls C fp s H) tgE (gT X.K tg)
 htc:∀ cls C fp s H pins s' σ H' Q,Inv (blk X scope cls C fp s H) pins σ H' s'->tcs σ H' Q->wpAny (model X.prog X.w) X.A (eB ifs (compEnvC scope cls C X.env)) (TP (blk X scope cls C fp s H) pins σ Q) (fun _ _=>False) s'
 hte:∀ cls C fp s H,SE (blk X scope cls C fp s H) cl elt e'
 cover:∀ (i:Nat) (x:Str),X.N[i]?=some x->scope.names.lookup x=some .local\/scope.names.lookup x=some .cell->tg.contains i=true
def eD.blk{tcs:TT}(B:eD X cl scope tgE tg elt e' tcs ifs):l8 X scope tgE ifs elt (bY tg) (gT X.K tg) tcs (tE X.K cl e') where
 htg:=B.htg
 htc:=B.htc
 hte:=B.hte
 AV:=fun σ hl=>⟨jb tg σ,fun i x v h1 h2=>by
  by_cases hc:tg.contains i=true
  ·exact absurd h2 (nV hc)
  ·simp only[Bool.not_eq_true]at hc;rw[jZ hc]at h2;refine⟨h2,fun z=>?_,fun z=>?_⟩
   ·rw[B.cover i x h1 (.inl z)]at hc;cases hc
   ·rw[B.cover i x h1 (.inr z)]at hc
    cases hc⟩
 vQ:=fun x σ H Q h=>by
  obtain⟨vs,h1,h2,h3⟩:=zd h;refine h3 _ ⟨h2,(lA _ _ _).symm,fun i v e=>?_⟩;by_cases hc:tg.contains i=true
  ·exact absurd e (nV hc)
  ·simp only[Bool.not_eq_true]at hc;rw[jR _ _ _ _ hc];exact e
def rQ(h:RL.bM f tg σ (d::r)=some ys):∃ σ1 y ys',RL.bc tg d σ=some σ1/\f σ1=some y/\RL.bM f tg σ r=some ys'/\RL.jP y ys'=some ys:=by
 rw[RL.bM]at h;obtain⟨σ1,h1,h⟩:=bind_some h;obtain⟨y,h2,h⟩:=bind_some h;obtain⟨ys',h3,h⟩:=bind_some h;exact⟨σ1,y,ys',h1,h2,h3,h⟩
def o3(rv:RV0 X.K σD σ H)(ei:RL.bj cl σD it=some ds)(hz:ds.length<=RL.most)(hm:RL.bM f tg σD ds=some total)
 (ht:∀ σ1 σV H y (Q:Bool->Hp->Prop),RV0 X.K σ1 σV H->f σ1=some y->(∀ k H',ao H H'->(if k=true then ∃ d,y=some d/\RL.ev cl σ1 e'=some d else y=none)->Q k H')->tcs σV H Q)
 (k:∀ l H',ao H H'->H l=none->(∃ xs,H' l=some (.lst xs)/\aa nP X.K H' total xs)->Q (.ref l) H'):df (tI X.K cl it) (bY tg) (gT X.K tg) tcs (tE X.K cl e') σ H Q:=by
 refine⟨σD,ds,rv,ei,fun J H1 s1 src l hl=>?_⟩;obtain⟨ok,_⟩:=src
 refine⟨fun i m xs H2=>∃ don rest,m=ds.length-i/\i<=ds.length/\ao H1 H2/\H2 l=some (.lst xs)/\aa (fun p=>p=l) X.K H2 don xs/\RL.bM f tg σD (ds.drop i)=some rest/\don++rest=total/\don.length<=i,
  ⟨_,[],total,rfl,Nat.zero_le _,ao.aU hl,a8,aa.nil,hm,rfl,Nat.le_refl _⟩,?_⟩
 rintro i m xs H2 ⟨don,rest,rfl,hi,s2,hl2,rs,hr,htot,hdn⟩;refine⟨hl2,?_⟩;have off:Off nP H1 H2:=Off.same s2;by_cases hlt:i<ds.length
 ·refine .inr ⟨ok.go H2 i off hlt,fun x H3 y=>?_⟩
  have hd:ds[i]?=some ds[i]:=by simp[hlt]
  obtain⟨s3,rp⟩:=ok.yld H2 i ds[i] x H3 off hd y;have rp:=rp (.inr s2);rw[List.drop_eq_getElem_cons hlt]at hr;obtain⟨σ1,y1,ys',h1,h2,h3,h4⟩:=rQ hr;obtain⟨dv,vs,e1,e2,e3,_,e5⟩:=p8 h1 rp;refine e5 _ _ ?_;have rv3:RV0 X.K σD σ H3:=rv.same ((s1.trans s2).trans s3)
  have rvx:RVx tg X.K σD (bY tg σ) H3:=⟨by rw[jb];exact rv3.1,fun j d hT e=>by rw[jZ hT];exact rv3.2 j d e⟩
  have rv1:RV0 X.K σ1 (bA tg vs (bY tg σ)) H3:=by rw[e1];exact rvx.ba e2 e3
  refine ht σ1 _ H3 y1 _ rv1 h2 fun t H5 s5 hy=>?_;have hl5:H5 l=some (.lst xs):=s5 _ _ (s3 _ _ hl2);have rs5:aa (fun p=>p=l) X.K H5 don xs:=(rs.same s3).same s5
  cases t with
  |true=>
   obtain⟨d,rfl,hv⟩:=(show ∃ d,y1=some d/\RL.ev cl σ1 e'=some d from hy)
   have him:d.imm=true/\rest=d::ys':=by
    unfold RL.jP at h4;dsimp only at h4;split at h4
    ·rename_i hh;cases h4;exact⟨hh,rfl⟩
    ·cases h4
   refine c8 ⟨σ1,d,rv1.same s5,hv,fun v H6 r6=>⟨r6.same _ _ hl5,?_,ds.length-(i+1),by lia,don++[d],ys',rfl,hlt,?_,a8,?_,h3,?_,?_⟩⟩
   ·rw[<-rs.length];exact Nat.lt_of_lt_of_le (Nat.lt_of_le_of_lt hdn (Nat.lt_of_lt_of_le hlt hz)) (Nat.le_of_lt (by decide))
   ·intro b o e;have hb:b≠l:=a5 e hl;rw[a6 hb];exact r6.same _ _ (s5 _ _ (s3 _ _ (s2 _ _ e)))
   ·exact aa.upd (P:=fun p=>p=l) (r6.same _ _ hl5) (.inl ⟨_,rfl⟩) rfl (aa.append (rs5.same r6.same) (aa.cons (r6.rep.imm him.1) aa.nil))
   ·rw[<-htot,him.2,List.append_assoc];rfl
   ·rw[List.length_append,List.length_singleton];lia
  |false=>
   have hy:y1=none:=hy;subst hy
   have hr2:rest=ys':=by
    unfold RL.jP at h4;dsimp only at h4;cases h4;rfl
   refine d4 ⟨ds.length-(i+1),by lia,don,ys',rfl,hlt,(s2.trans s3).trans s5,hl5,rs5,h3,by rw[<-htot,hr2],by lia⟩
 ·have e:i=ds.length:=by lia
  subst e;refine .inl ⟨ok.stop H2 off,k l H2 (s1.trans s2) (s1.free hl) ⟨xs,hl2,?_⟩⟩;rw[List.drop_length,RL.bM]at hr;cases hr;rw[List.append_nil]at htot;rw[<-htot];exact aa.weak (fun _ z=>z.elim) rs
def qR(h:RL.gw f fr tg σ (d::r)=some ys):∃ σ1 y ys',RL.bc tg d σ=some σ1/\f σ1=some y/\RL.aI y=true/\fr=true/\RL.gw f fr tg σ r=some ys'/\ys=y::ys':=by
 rw[RL.gw]at h;obtain⟨σ1,h1,h⟩:=bind_some h;obtain⟨y,h2,h⟩:=bind_some h;by_cases c:(RL.aI y&&fr)=true
 ·rw[if_pos c]at h;obtain⟨ys',h3,h4⟩:=map_some h;rw[Bool.and_eq_true]at c;exact⟨σ1,y,ys',h1,h2,c.1,c.2,h3,h4.symm⟩
 ·rw[if_neg c]at h;cases h
def xO{P:Addr->Prop}{K:PySem.W.Frag}(im:RL.aI d=true)(r:Rep nP K H d v)(h:∀ a,v=.ref a->¬ P a):Rep P K H d v:=by
 cases d with
 |lst ds=>
  obtain⟨a,xs,e1,_,e2,e3⟩:=au r;rw[Rep];exact⟨a,xs,e1,h a e1,e2,e3.imm im⟩
 |dK ks ds=>
  rw[Rep]at r ⊢;obtain⟨a,xs,e1,_,e2,e3,e4⟩:=r;exact⟨a,xs,e1,h a e1,e2,e3,e4.imm im⟩
 |dT ks ds=>
  rw[Rep]at r ⊢;obtain⟨a,xs,e1,_,e2,e3,e4⟩:=r;exact⟨a,xs,e1,h a e1,e2,e3,e4.imm im⟩
 | _=>cases im
def ub(rv:RV0 X.K σD σ H)(ei:RL.bj cl σD it=some ds)(hz:ds.length<=RL.most)(hm:RL.gw (fun σ1=>RL.ev cl σ1 e') (RL.az e') tg σD ds=some total)
 (ht:∀ σV H (Q:Bool->Hp->Prop),Q true H->tcs σV H Q)
 (k:∀ l H',ao H H'->H l=none->(∃ xs,H' l=some (.lst xs)/\aa (fun p=>p=l\/H p≠none) X.K H' total xs)->Q (.ref l) H'):df (tI X.K cl it) (bY tg) (gT X.K tg) tcs (tE X.K cl e') σ H Q:=by
 refine⟨σD,ds,rv,ei,fun J H1 s1 src l hl=>?_⟩;obtain⟨ok,_⟩:=src
 refine⟨fun i m xs H2=>∃ don rest,m=ds.length-i/\i<=ds.length/\ao H1 H2/\H2 l=some (.lst xs)/\aa (fun p=>p=l\/H p≠none) X.K H2 don xs/\RL.gw (fun σ1=>RL.ev cl σ1 e') (RL.az e') tg σD (ds.drop i)=some rest/\don++rest=total/\don.length<=i,
  ⟨_,[],total,rfl,Nat.zero_le _,ao.aU hl,a8,aa.nil,hm,rfl,Nat.le_refl _⟩,?_⟩
 rintro i m xs H2 ⟨don,rest,rfl,hi,s2,hl2,rs,hr,htot,hdn⟩;refine⟨hl2,?_⟩;have off:Off nP H1 H2:=Off.same s2;by_cases hlt:i<ds.length
 ·refine .inr ⟨ok.go H2 i off hlt,fun x H3 y=>?_⟩
  have hd:ds[i]?=some ds[i]:=by simp[hlt]
  obtain⟨s3,rp⟩:=ok.yld H2 i ds[i] x H3 off hd y;have rp:=rp (.inr s2);rw[List.drop_eq_getElem_cons hlt]at hr;obtain⟨σ1,d,ys',h1,hv,im,fr,h3,rfl⟩:=qR hr;obtain⟨dv,vs,e1,e2,e3,_,e5⟩:=p8 h1 rp;refine e5 _ _ ?_;have rv3:RV0 X.K σD σ H3:=rv.same ((s1.trans s2).trans s3)
  have rvx:RVx tg X.K σD (bY tg σ) H3:=⟨by rw[jb];exact rv3.1,fun j d hT e=>by rw[jZ hT];exact rv3.2 j d e⟩
  have rv1:RV0 X.K σ1 (bA tg vs (bY tg σ)) H3:=by rw[e1];exact rvx.ba e2 e3
  refine ht _ H3 _ ?_;have hl5:H3 l=some (.lst xs):=s3 _ _ hl2;refine c8 ⟨σ1,d,rv1,hv,fun v H6 r6=>⟨r6.same _ _ hl5,?_,ds.length-(i+1),by lia,don++[d],ys',rfl,hlt,?_,a8,?_,h3,?_,?_⟩⟩
  ·rw[<-rs.length];exact Nat.lt_of_lt_of_le (Nat.lt_of_le_of_lt hdn (Nat.lt_of_lt_of_le hlt hz)) (Nat.le_of_lt (by decide))
  ·intro b o e;have hb:b≠l:=a5 e hl;rw[a6 hb];exact r6.same _ _ (s3 _ _ (s2 _ _ e))
  ·have md:gd d=true:=by
    cases d with
    | lst _=>rfl
    | dK _ _=>rfl
    | dT _ _=>rfl
    | _=>cases im
   have apart:∀ a,v=.ref a->¬ (a=l\/H a≠none):=fun a z q=>by
    have fa:=r6.fresh fr md a z;rcases q with rfl | q
    ·rw[hl5]at fa;cases fa
    ·obtain⟨u,hu⟩:=Option.ne_none_iff_exists'.mp q;rw[s3 _ _ (s2 _ _ (s1 _ _ hu))]at fa;cases fa
   exact aa.upd (P:=fun p=>p=l\/H p≠none) (r6.same _ _ hl5) (.inl ⟨_,rfl⟩) (.inl rfl) (aa.append ((rs.same s3).same r6.same) (aa.cons (xO im r6.rep apart) aa.nil))
  ·rw[<-htot,List.append_assoc];rfl
  ·rw[List.length_append,List.length_singleton];lia
 ·have e:i=ds.length:=by lia
  subst e;refine .inl ⟨ok.stop H2 off,k l H2 (s1.trans s2) (s1.free hl) ⟨xs,hl2,?_⟩⟩;rw[List.drop_length,RL.gw]at hr;cases hr;rw[List.append_nil]at htot;rw[<-htot];exact rs
end comp
section comp
variable{X:Cx}
structure gu(scope sc:Scope):Prop where
 kind:scope.kind=.function
 own:∀ x∈scope.names,x.2=.cell->scope.names.lookup x.1=some .cell
 loc:∀ x∈scope.names,x.2=.local->scope.names.lookup x.1=some .local
 vis:∀ x∈scope.names,x.2=.free->sc.names.lookup x.1=some .cell\/sc.names.lookup x.1=some .free
def bX(S:gu scope X.env.scope)(I:Inv X pins σ H s):∃ cls,closureFor scope X.env=pure cls/\dm scope X.env.scope cls X.env.cells:=by
 obtain⟨cls,h1,h2,h3⟩:=pF (env:=X.env) (scope:=scope) fun x hx=>I.ok.has x (S.vis _ hx rfl);exact⟨cls,h1,S.kind,S.own,S.loc,h2,h3,fun x hx=>S.vis _ (PySem.mem_of_lookup hx) rfl⟩
def nc(sm:ao H H')(hl:H l=none)(h:∃ xs,H' l=some (.lst xs)/\aa nP X.K H' total xs)(hav:∀ M,RL.avE M e=false):Res X.K σD σ H e (.lst total) (.ref l) H' where
 same:=sm
 rep:=by
  obtain⟨xs,h1,h2⟩:=h;rw[Rep];exact⟨l,xs,rfl,fun z=>z,h1,h2⟩
 fresh:=fun _ _ a z=>by cases z;exact hl
 av:=fun M z=>by rw[hav M]at z;cases z
abbrev dZ:TT:=fun _ H Q=>Q true H
def m8(h:tE X.K cl (.compA e' tg it) σ H Q):df (tI X.K cl it) (bY tg) (gT X.K tg) dZ (tE X.K cl e') σ H Q:=by
 obtain⟨σD,d,rv,e,k⟩:=h;obtain⟨ds,e1,e⟩:=bind_some e;obtain⟨ds',e2,e⟩:=bind_some e;obtain⟨total,e3,e4⟩:=map_some e;unfold RL.fits at e2;split at e2
 ·rename_i hz;cases e2;subst e4;refine o3 (f:=fun σ1=>(RL.ev cl σ1 e').map some) rv e1 hz e3 (fun σ1 σV H y Q rv1 hy q=>?_) fun l H' sm hl hx=>k _ _ (nc sm hl hx fun _=>rfl);obtain⟨d,h1,h2⟩:=map_some hy;exact q true H (ao.refl H) (c8 ⟨d,h2.symm,h1⟩)
 ·cases e2
def mG(h:tE X.K cl (.compL e' tg it) σ H Q):df (tI X.K cl it) (bY tg) (gT X.K tg) dZ (tE X.K cl e') σ H Q:=by
 obtain⟨σD,d,rv,e,k⟩:=h;obtain⟨ds,e1,e⟩:=bind_some e;obtain⟨ds',e2,e⟩:=bind_some e;obtain⟨total,e3,e4⟩:=map_some e;unfold RL.fits at e2;split at e2
 ·rename_i hz;cases e2;subst e4;refine ub rv e1 hz e3 (fun _ _ _ q=>q) fun l H' sm hl ⟨xs,h1,h2⟩=>k _ _ ⟨sm,?_,fun _ _ a z=>?_,fun M _ P hP _=>?_⟩
  ·rw[Rep];exact⟨l,xs,rfl,fun z=>z,h1,h2.weak fun _ z=>z.elim⟩
  ·cases z;exact hl
  ·rw[Rep];exact⟨l,xs,rfl,fun z=>hP l z hl,h1,h2.weak fun p z=>.inr (hP p z)⟩
 ·cases e2
def lB(h:tE X.K cl (.comp e' tg it c') σ H Q):df (tI X.K cl it) (bY tg) (gT X.K tg) (tT X.K cl c') (tE X.K cl e') σ H Q:=by
 obtain⟨σD,d,rv,e,k⟩:=h;obtain⟨ds,e1,e⟩:=bind_some e;obtain⟨ds',e2,e⟩:=bind_some e;obtain⟨total,e3,e4⟩:=map_some e;unfold RL.fits at e2;split at e2
 ·rename_i hz;cases e2;subst e4;refine o3 rv e1 hz e3 (fun σ1 σV H y Q rv1 hy q=>?_) fun l H' sm hl hx=>k _ _ (nc sm hl hx fun _=>rfl);obtain⟨t,h1,h2⟩:=bind_some hy;refine⟨σ1,t,rv1,h1,fun H' sm=>q t H' sm ?_⟩
  cases t with
  |true=>
   obtain⟨d,h3,h4⟩:=map_some (show(RL.ev cl σ1 e').map some=some y from h2);exact c8 ⟨d,h4.symm,h3⟩
  |false=>
   cases(show(some none:Option (Option RL.D))=some y from h2);exact d4 rfl
 ·cases e2
def uq(hc:X.calm=true)(S:gu scope X.env.scope)(hi:SI X cl tgE iter it)(B:eD X cl scope tgE tg elt e' dZ [])(hs:∀ x,foldedSetIterable iter X.env x=pure x):SE X cl (.ListComp elt [⟨tgE,iter,[],0⟩] scope pos) (.compA e' tg it):=by
 intro pins s σ H Q I h;obtain⟨cls,h1,h2⟩:=bX S I;exact jQ (fun _ _ _ _=>hc) h2 h1 hi B.blk hs pins s σ H Q I (m8 h)
def sY(hc:X.calm=true)(S:gu scope X.env.scope)(hi:SI X cl tgE iter it)(B:eD X cl scope tgE tg elt e' dZ [])(hs:∀ x,foldedSetIterable iter X.env x=pure x):SE X cl (.ListComp elt [⟨tgE,iter,[],0⟩] scope pos) (.compL e' tg it):=by
 intro pins s σ H Q I h;obtain⟨cls,h1,h2⟩:=bX S I;exact jQ (fun _ _ _ _=>hc) h2 h1 hi B.blk hs pins s σ H Q I (mG h)
def uv(hc:∀ {pins:List (Addr × Obj)} {σ:L2.St} {H:Hp} {s:Shared} (cls:List (Str × Addr)) (C:Addr) (fp:List Addr),Inv X pins σ H s->CM (blk X scope cls C fp s H))(S:gu scope X.env.scope)(hi:PI' CM X tgE iter (tI X.K cl it))(B:eD X cl scope tgE tg elt e' (tT X.K cl c') [c])(hs:∀ x,foldedSetIterable iter X.env x=pure x):SE X cl (.ListComp elt [⟨tgE,iter,[c],0⟩] scope pos) (.comp e' tg it c'):=by
 intro pins s σ H Q I h;obtain⟨cls,h1,h2⟩:=bX S I;exact jQ hc h2 h1 hi B.blk hs pins s σ H Q I (lB h)
abbrev SA(X:Cx)(cl:RL.Cl)(st:Stmt)(i:Nat)(e':RL.E):Prop:=PS X st (fun D σ H=>tE X.K cl e' σ H fun v H1=>D.nx (σ.set i (some v)) H1)
def PS.weak{st:Stmt}(h:PS X st t)(w:∀ D σ H,t' D σ H->t D σ H):PS X st t':=fun pins s σ H D I q=>h pins s σ H D I (w D σ H q)
def PSs.weak{st:List Stmt}(h:PSs X st t)(w:∀ D σ H,t' D σ H->t D σ H):PSs X st t':=fun pins s σ H D I q=>h pins s σ H D I (w D σ H q)
def uM(hc:X.calm=true)(hN:X.N.Nodup)(hiy:X.N[i]?=some y)(hy:X.env.scope.names.lookup y=some .local)(S:gu scope X.env.scope)(hi:SI X cl tgE iter it)(B:eD X cl scope tgE tg elt e' dZ [])(hs:∀ x,foldedSetIterable iter X.env x=pure x)
 (hsw:swapsWith (.ListComp elt [⟨tgE,iter,[],0⟩] scope pos) (some (.Name y py)) spos.line X.env=pure true):SA X cl (.Assign [.Name y py] (.ListComp elt [⟨tgE,iter,[],0⟩] scope pos) spos) i (.compA e' tg it):=by
 intro pins s σ H D I h;obtain⟨cls,h1,h2⟩:=bX S I;exact jD hc hN hiy hy h2 h1 hi B.blk hs hsw pins s σ H D I (m8 h)
def tM(hc:X.calm=true)(hN:X.N.Nodup)(hiy:X.N[i]?=some y)(hy:X.env.scope.names.lookup y=some .local)(S:gu scope X.env.scope)(hi:SI X cl tgE iter it)(B:eD X cl scope tgE tg elt e' dZ [])(hs:∀ x,foldedSetIterable iter X.env x=pure x)
 (hsw:swapsWith (.ListComp elt [⟨tgE,iter,[],0⟩] scope pos) (some (.Name y py)) spos.line X.env=pure true):SA X cl (.Assign [.Name y py] (.ListComp elt [⟨tgE,iter,[],0⟩] scope pos) spos) i (.compL e' tg it):=by
 intro pins s σ H D I h;obtain⟨cls,h1,h2⟩:=bX S I;exact jD hc hN hiy hy h2 h1 hi B.blk hs hsw pins s σ H D I (mG h)
def tV(hc:X.calm=true)(hN:X.N.Nodup)(hiy:X.N[i]?=some y)(hy:X.env.scope.names.lookup y=some .local)(S:gu scope X.env.scope)(hi:SI X cl tgE iter it)(B:eD X cl scope tgE tg elt e' (tT X.K cl c') [c])(hs:∀ x,foldedSetIterable iter X.env x=pure x)
 (hsw:swapsWith (.ListComp elt [⟨tgE,iter,[c],0⟩] scope pos) (some (.Name y py)) spos.line X.env=pure true):SA X cl (.Assign [.Name y py] (.ListComp elt [⟨tgE,iter,[c],0⟩] scope pos) spos) i (.comp e' tg it c'):=by
 intro pins s σ H D I h;obtain⟨cls,h1,h2⟩:=bX S I;exact jD hc hN hiy hy h2 h1 hi B.blk hs hsw pins s σ H D I (lB h)
def tP(hN:X.N.Nodup)(hiy:X.N[i]?=some y)(hx:Loc X.env.scope y)(he:SE X cl e e')(hf:X.fn y=true\/X.env.scope.names.lookup y=some .local)(hs:swapsWith e (some (.Name y py)) spos.line X.env=pure false)(hf2:True):SA X cl (.Assign [.Name y py] e spos) i e':=by
 exact yu hN hiy hx he hs hf
end comp
abbrev aE(M:List Nat)(σ:L2.St):Addr->Prop:=fun a=>∃ i,M.contains i=true/\σ[i]?=some (some (.ref a))
abbrev Own(K:PySem.W.Frag)(H:Hp)(d:RL.D)(v:V):Prop:=gd d=true/\RL.aI d=true/\Rep nP K H d v
structure RVm(K:PySem.W.Frag)(M:List Nat)(σD:RL.St)(σ:L2.St)(H:Hp):Prop where
 len:σD.length=σ.length
 val:∀ (i:Nat) (d:RL.D),σD[i]?=some (some d)->∃ v,σ[i]?=some (some v)/\(if M.contains i=true then Own K H d v else Rep (aE M σ) K H d v)
 non:∀ (i:Nat) (v:V),σ[i]?=some (some v)->∃ d,σD[i]?=some (some d)
 sep:∀ (i j:Nat) (a:Addr),M.contains i=true->M.contains j=true->σ[i]?=some (some (.ref a))->σ[j]?=some (some (.ref a))->i=j
abbrev Fr'(M:List Nat)(σ:L2.St)(H:Hp)(σ':L2.St)(H':Hp):Prop:=(∀ b o,H b=some o->¬ aE M σ b->H' b=some o/\¬ aE M σ' b)/\∀ j,2<=M.count j->σ'[j]?=σ[j]?
def Fr'.trans(a:Fr' M σ H σ1 H1)(b:Fr' M σ1 H1 σ2 H2):Fr' M σ H σ2 H2:=⟨fun c o e n=>b.1 c o (a.1 c o e n).1 (a.1 c o e n).2,fun j hj=>(b.2 j hj).trans (a.2 j hj)⟩
def Fr'.same(s:ao H H1):Fr' M σ H σ H1:=⟨fun c o e n=>⟨s _ _ e,n⟩,fun _ _=>rfl⟩
def gX{M:List Nat}(h:2<=M.count j):M.contains j=true:=by
 have:0<M.count j:=by lia
 simpa using List.count_pos_iff.mp this
section st
variable{K:PySem.W.Frag}
def Own.ref(h:Own K H d v):∃ a o,v=.ref a/\H a=some o/\bq o:=by
 obtain⟨m,_,r⟩:=h
 cases d with
 | lst ds=>obtain⟨a,xs,e1,_,e2,_⟩:=au r;exact⟨a,_,e1,e2,.inl ⟨_,rfl⟩⟩
 | dK ks ds=>rw[Rep]at r;obtain⟨a,xs,e1,_,e2,_⟩:=r;exact⟨a,_,e1,e2,.inr (.inl ⟨_,rfl⟩)⟩
 | dT ks ds=>rw[Rep]at r;obtain⟨a,xs,e1,_,e2,_⟩:=r;exact⟨a,_,e1,e2,.inr (.inr ⟨_,rfl⟩)⟩
 | _=>cases m
def RVm.rv0(h:RVm K M σD σ H):RV0 K σD σ H:=⟨Nat.le_of_eq h.len,fun i d e=>by
 obtain⟨v,h1,h2⟩:=h.val i d e;refine⟨v,h1,?_⟩;by_cases hm:M.contains i=true
 ·rw[if_pos hm]at h2;exact h2.2.2
 ·rw[if_neg hm]at h2
  exact h2.none⟩
def RVm.uK(h:RVm K M σD σ H):∀ a,aE M σ a->∃ o,H a=some o/\bq o:=fun a ⟨i,hi,e⟩=>by
 obtain⟨d,hd⟩:=h.non i _ e;obtain⟨v,h1,h2⟩:=h.val i d hd;rw[if_pos hi]at h2;obtain⟨b,o,e1,e2,e3⟩:=h2.ref;rw[e]at h1;cases h1;cases e1;exact⟨o,e2,e3⟩
def RVm.kg(h:RVm K M σD σ H):∀ a,aE M σ a->H a≠none:=fun a p=>by
 obtain⟨o,e,_⟩:=h.uK a p;rw[e]
 exact fun z=>nomatch z
def Own.same(h:Own K H d v)(s:ao H H1):Own K H1 d v:=⟨h.1,h.2.1,h.2.2.same s⟩
def RVm.same(h:RVm K M σD σ H)(s:ao H H1):RVm K M σD σ H1:=⟨h.len,fun i d e=>by
 obtain⟨v,h1,h2⟩:=h.val i d e;refine⟨v,h1,?_⟩;by_cases hm:M.contains i=true
 ·rw[if_pos hm]at h2 ⊢;exact h2.same s
 ·rw[if_neg hm]at h2 ⊢
  exact h2.same s,h.non,h.sep⟩
def aE.set(hi:M.contains i=false):aE M (σ.set i (some v))=aE M σ:=by
 funext a;apply propext;constructor
 ·rintro⟨j,hj,e⟩
  have hne:i≠j:=fun z=>by subst z;rw[hi]at hj;cases hj
  rw[List.getElem?_set_ne hne]at e;exact⟨j,hj,e⟩
 ·rintro⟨j,hj,e⟩
  have hne:i≠j:=fun z=>by subst z;rw[hi]at hj;cases hj
  exact⟨j,hj,by rw[List.getElem?_set_ne hne];exact e⟩
def RVm.bind(h:RVm K M σD σ H)(hi:M.contains i=false)(r:Rep (aE M σ) K H d v):RVm K M (σD.set i (some d)) (σ.set i (some v)) H where
 len:=by simpa using h.len
 val:=fun j dj e=>by
  rw[aE.set hi];by_cases hj:j=i
  ·subst hj
   have hlt:j<σD.length:=by
    have:=(List.getElem?_eq_some_iff.mp e).1;simpa using this
   rw[List.getElem?_set_self hlt]at e;cases e;refine⟨v,by rw[List.getElem?_set_self (by rw[<-h.len];exact hlt)],?_⟩;rw[if_neg (by rw[hi];decide)];exact r
  ·rw[List.getElem?_set_ne (Ne.symm hj)]at e ⊢;exact h.val j dj e
 non:=fun j w e=>by
  by_cases hj:j=i
  ·subst hj
   have hlt:j<σ.length:=by
    have:=(List.getElem?_eq_some_iff.mp e).1;simpa using this
   exact⟨d,by rw[List.getElem?_set_self (by rw[h.len];exact hlt)]⟩
  ·rw[List.getElem?_set_ne (Ne.symm hj)]at e ⊢;exact h.non j w e
 sep:=fun j k a hj hk e1 e2=>by
  have n1:i≠j:=fun z=>by subst z;rw[hi]at hj;cases hj
  have n2:i≠k:=fun z=>by subst z;rw[hi]at hk;cases hk
  rw[List.getElem?_set_ne n1]at e1;rw[List.getElem?_set_ne n2]at e2;exact h.sep j k a hj hk e1 e2
def Fr'.bind{i:Nat}(hi:M.contains i=false)(s:ao H H1):Fr' M σ H (σ.set i (some v)) H1:=⟨fun b o e n=>⟨s _ _ e,by rw[aE.set hi];exact n⟩,fun j hj=>List.getElem?_set_ne (fun z=>by subst z;rw[gX hj]at hi;cases hi)⟩
end st
mutual
theorem Rep.bF{P:Addr->Prop}{K:PySem.W.Frag}{H:Hp}{a:Addr}(ha:H a=none):∀ {d:RL.D} {v:V},Rep P K H d v->Rep (fun p=>P p\/p=a) K H d v
 | .non,v,h=>by simpa[Rep]using h
 | .bl _,v,h=>by simpa[Rep]using h
 | .int _,v,h=>by simpa[Rep]using h
 | .str _,v,h=>by simpa[Rep]using h
 | .tup ds,v,h=>by
  rw[Rep]at h ⊢;obtain⟨b,xs,e1,e2,e3⟩:=h;exact⟨b,xs,e1,e2,aa.bF ha e3⟩
 | .lst ds,v,h=>by
  rw[Rep]at h ⊢;obtain⟨b,xs,e1,e0,e2,e3⟩:=h;exact⟨b,xs,e1,fun z=>z.elim e0 (fun q=>a5 e2 ha q),e2,aa.bF ha e3⟩
 | .dK ks ds,v,h=>by
  rw[Rep]at h ⊢;obtain⟨b,xs,e1,e0,e2,el,e3⟩:=h;exact⟨b,xs,e1,fun z=>z.elim e0 (fun q=>a5 e2 ha q),e2,el,aa.bF ha e3⟩
 | .dT ks ds,v,h=>by
  rw[Rep]at h ⊢;obtain⟨b,xs,e1,e0,e2,el,e3⟩:=h;exact⟨b,xs,e1,fun z=>z.elim e0 (fun q=>a5 e2 ha q),e2,el,aa.bF ha e3⟩
 | .scr ds,v,h=>by
  rw[Rep]at h ⊢;obtain⟨b,xs,e1,e2,e3⟩:=h;exact⟨b,xs,e1,e2,aa.bF ha e3⟩
 | .exc c,v,h=>by rw[Rep]at h ⊢;exact h
 | .fT ks ds,v,h=>by rw[Rep]at h ⊢;obtain⟨b,o,xs,e1,e2,el,e3⟩:=h;exact⟨b,o,xs,e1,e2,el,aa.bF ha e3⟩
 | .fL ds,v,h=>by rw[Rep]at h ⊢;obtain⟨b,o,xs,e1,e2,e3⟩:=h;exact⟨b,o,xs,e1,e2,aa.bF ha e3⟩
theorem aa.bF{P:Addr->Prop}{K:PySem.W.Frag}{H:Hp}{a:Addr}(ha:H a=none):∀ {ds:List RL.D} {xs:List V},aa P K H ds xs->aa (fun p=>P p\/p=a) K H ds xs
 | [],xs,h=>by rw[aa]at h ⊢;exact h
 | d::r,xs,h=>by
  rw[aa]at h ⊢;obtain⟨x,t,e1,e2,e3⟩:=h;exact⟨x,t,e1,Rep.bF ha e2,aa.bF ha e3⟩
end
section st
variable{K:PySem.W.Frag}
def RVm.own(h:RVm K M σD σ H)(s:ao H H1)(hi:M.contains i=true)(hi2:M.count i<2)(ha:H a=none)(r:Own K H1 d (.ref a)):RVm K M (σD.set i (some d)) (σ.set i (some (.ref a))) H1/\Fr' M σ H (σ.set i (some (.ref a))) H1:=by
 have sub:∀ b,aE M (σ.set i (some (.ref a))) b->aE M σ b\/b=a:=fun b ⟨j,hj,e⟩=>by
  by_cases hji:j=i
  ·subst hji
   have hlt:j<σ.length:=by
    have:=(List.getElem?_eq_some_iff.mp e).1;simpa using this
   rw[List.getElem?_set_self hlt]at e;cases e;exact .inr rfl
  ·rw[List.getElem?_set_ne (Ne.symm hji)]at e;exact .inl ⟨j,hj,e⟩
 have old:∀ b,aE M σ b->b≠a:=fun b p z=>h.kg b p (z▸ha);refine⟨⟨by simpa using h.len,fun j dj e=>?_,fun j w e=>?_,fun j k b hj hk e1 e2=>?_⟩,⟨fun b o e n=>⟨s _ _ e,fun z=>(sub b z).elim n fun q=>a5 e ha q⟩,fun j hj=>List.getElem?_set_ne (fun z=>by subst z;lia)⟩⟩
 ·by_cases hj:j=i
  ·subst hj
   have hlt:j<σD.length:=by
    have:=(List.getElem?_eq_some_iff.mp e).1;simpa using this
   rw[List.getElem?_set_self hlt]at e;cases e;refine⟨.ref a,by rw[List.getElem?_set_self (by rw[<-h.len];exact hlt)],?_⟩;rw[if_pos hi];exact r
  ·rw[List.getElem?_set_ne (Ne.symm hj)]at e ⊢;obtain⟨v,h1,h2⟩:=h.val j dj e;refine⟨v,h1,?_⟩;by_cases hm:M.contains j=true
   ·rw[if_pos hm]at h2 ⊢;exact h2.same s
   ·rw[if_neg hm]at h2 ⊢;exact((h2.bF ha).weak sub).same s
 ·by_cases hj:j=i
  ·subst hj
   have hlt:j<σ.length:=by
    have:=(List.getElem?_eq_some_iff.mp e).1;simpa using this
   exact⟨d,by rw[List.getElem?_set_self (by rw[h.len];exact hlt)]⟩
  ·rw[List.getElem?_set_ne (Ne.symm hj)]at e ⊢;exact h.non j w e
 ·by_cases h1:j=i
  ·by_cases h2:k=i
   ·rw[h1,h2]
   ·subst h1
    have hlt:j<σ.length:=by
     have:=(List.getElem?_eq_some_iff.mp e1).1;simpa using this
    rw[List.getElem?_set_self hlt]at e1;rw[List.getElem?_set_ne (Ne.symm h2)]at e2;cases e1;exact absurd rfl (old _ ⟨k,hk,e2⟩)
  ·rw[List.getElem?_set_ne (Ne.symm h1)]at e1;by_cases h2:k=i
   ·subst h2
    have hlt:k<σ.length:=by
     have:=(List.getElem?_eq_some_iff.mp e2).1;simpa using this
    rw[List.getElem?_set_self hlt]at e2;cases e2;exact absurd rfl (old _ ⟨j,hj,e1⟩)
   ·rw[List.getElem?_set_ne (Ne.symm h2)]at e2;exact h.sep j k b hj hk e1 e2
def RVm.gQ(h:RVm K M σD σ H)(hi:M.contains i=true)(e:σ[i]?=some (some (.ref a)))(ha:H a=some o)(m:bq o)(r:Own K (upd H a o') d' (.ref a)):RVm K M (σD.set i (some d')) σ (upd H a o')/\Fr' M σ H σ (upd H a o'):=by
 have pa:aE M σ a:=⟨i,hi,e⟩
 refine⟨⟨by simpa using h.len,fun j dj e'=>?_,fun j w e'=>?_,h.sep⟩,⟨fun b u eb n=>⟨?_,n⟩,fun _ _=>rfl⟩⟩
 ·by_cases hj:j=i
  ·subst hj
   have hlt:j<σD.length:=by
    have:=(List.getElem?_eq_some_iff.mp e').1;simpa using this
   rw[List.getElem?_set_self hlt]at e';cases e';refine⟨.ref a,e,?_⟩;rw[if_pos hi];exact r
  ·rw[List.getElem?_set_ne (Ne.symm hj)]at e';obtain⟨v,h1,h2⟩:=h.val j dj e';refine⟨v,h1,?_⟩;by_cases hm:M.contains j=true
   ·rw[if_pos hm]at h2 ⊢;obtain⟨b,ob,rfl,hb,_⟩:=h2.ref
    have hne:b≠a:=fun z=>by subst z;exact hj (h.sep j i b hm hi h1 e)
    obtain⟨q1,q2,q3⟩:=h2;refine⟨q1,q2,?_⟩;have im:∀ {ds:List RL.D} {xs:List V},RL.ah ds=true->aa nP K H ds xs->aa nP K (L2.upd H a o') ds xs:=fun hi r=>(aa.upd (P:=fun p=>p=a) ha m rfl (r.imm hi)).imm hi
    cases dj with
    | lst ds=>obtain⟨b',xs,e1,e0,e2,e3⟩:=au q3;cases e1;rw[Rep];exact⟨b,xs,rfl,fun z=>z,by rw[L2.a6 hne];exact e2,im q2 e3⟩
    | dK ks ds=>rw[Rep]at q3 ⊢;obtain⟨b',xs,e1,e0,e2,el,e3⟩:=q3;cases e1;exact⟨b,xs,rfl,fun z=>z,by rw[L2.a6 hne];exact e2,el,im q2 e3⟩
    | dT ks ds=>rw[Rep]at q3 ⊢;obtain⟨b',xs,e1,e0,e2,el,e3⟩:=q3;cases e1;exact⟨b,xs,rfl,fun z=>z,by rw[L2.a6 hne];exact e2,el,im q2 e3⟩
    | _=>cases q1
   ·rw[if_neg hm]at h2 ⊢;exact Rep.upd ha m pa h2
 ·obtain⟨dj,hd⟩:=h.non j w e';by_cases hj:j=i
  ·subst hj;have hlt:=(List.getElem?_eq_some_iff.mp hd).1;exact⟨d',by rw[List.getElem?_set_self hlt]⟩
  ·exact⟨dj,by rw[List.getElem?_set_ne (Ne.symm hj)];exact hd⟩
 ·have hb:b≠a:=fun z=>n (z▸pa);rw[L2.a6 hb];exact eb
end st
abbrev mZ(K:PySem.W.Frag)(M:List Nat)(D:Ends)(σ:L2.St)(H:Hp):RL.Out->RL.St->Prop
 | .nx,σD'=>∀ σ' H',RVm K M σD' σ' H'->Fr' M σ H σ' H'->D.nx σ' H'
 | .rt d,σD'=>∀ σ1 H1 v H',RVm K M σD' σ1 H1->Fr' M σ H σ1 H1->ao H1 H'->(∀ P:Addr->Prop,(∀ p,P p->H1 p≠none/\¬ aE M σ1 p)->Rep P K H' d v)->D.rt v H'
def mZ.from{K:PySem.W.Frag}(h:mZ K M D σ H r σD')(f:Fr' M σ H σ1 H1):mZ K M D σ1 H1 r σD':=by
 cases r with
 | nx=>exact fun σ2 H2 rv2 fr2=>h σ2 H2 rv2 (f.trans fr2)
 | rt d=>exact fun σ1 H1 v H2 rv2 fr2 sm rp=>h σ1 H1 v H2 rv2 (f.trans fr2) sm rp
abbrev tS(K:PySem.W.Frag)(M:List Nat)(f:RL.St->Option (RL.Out × RL.St)):TS:=fun D σ H=>∃ σD r σD',RVm K M σD σ H/\f σD=some (r,σD')/\mZ K M D σ H r σD'
abbrev SS(X:Cx)(cl:RL.Cl)(M:List Nat)(st:Stmt)(s:RL.S):Prop:=PS X st (tS X.K M (RL.evS cl M s))
abbrev SSs(X:Cx)(cl:RL.Cl)(M:List Nat)(st:List Stmt)(s:RL.Ss):Prop:=PSs X st (tS X.K M (RL.ak cl M s))
section rules
variable{st:Stmt}{i j:Nat}
def xo:SSs X cl M [] .nil:=by
 refine PSs.weak wx fun D σ H h=>?_;obtain⟨σD,r,σD',rv,e,k⟩:=h;rw[RL.ak]at e;cases e;exact k σ H rv (Fr'.same (ao.refl H))
def u6(h1:SS X cl M st s)(h2:SSs X cl M sts r):SSs X cl M (st::sts) (.cons s r):=by
 refine PSs.weak (fK h1 h2) fun D σ H h=>?_;obtain⟨σD,o,σD',rv,e,k⟩:=h;rw[RL.ak]at e;obtain⟨p,e1,e2⟩:=bind_some e;obtain⟨o1,σ1⟩:=p;refine⟨σD,o1,σ1,rv,e1,?_⟩
 cases o1 with
 |rt d=>
  cases e2;exact k
 |nx=>
  exact fun σ' H' rv' fr'=>⟨σ1,o,σD',rv',e2,k.from fr'⟩
def yi(h:SA X cl st i e')(hi:M.contains i=false):SS X cl M st (.asg i e'):=by
 refine PS.weak h fun D σ H h=>?_;obtain⟨σD,o,σD',rv,e,k⟩:=h;obtain⟨d,e1,e2⟩:=bind_some e;split at e2
 ·rename_i ok;cases e2;refine⟨σD,d,rv.rv0,e1,fun v H1 r1=>k _ _ ?_ (Fr'.bind hi r1.same)⟩;refine(rv.same r1.same).bind hi ?_;unfold RL.b8 at ok;rw[Bool.or_eq_true,Bool.or_eq_true,Bool.and_eq_true]at ok;rcases ok with(q | ⟨q1,q2⟩) | q
  ·exact r1.rep.imm q
  ·have rp:=r1.rep;have fr:gd d=true->∀ a,v=.ref a->¬ aE M σ a:=fun m a z p=>rv.kg a p (r1.fresh q2 m a z)
   cases d with
   | lst ds=>obtain⟨a,xs,e1,e0,e2,e3⟩:=au rp;rw[Rep];exact⟨a,xs,e1,fr rfl a e1,e2,e3.imm q1⟩
   | dK ks ds=>rw[Rep]at rp ⊢;obtain⟨a,xs,e1,e0,e2,el,e3⟩:=rp;exact⟨a,xs,e1,fr rfl a e1,e2,el,e3.imm q1⟩
   | dT ks ds=>rw[Rep]at rp ⊢;obtain⟨a,xs,e1,e0,e2,el,e3⟩:=rp;exact⟨a,xs,e1,fr rfl a e1,e2,el,e3.imm q1⟩
   | _=>cases q1
  ·refine r1.av M q _ rv.kg fun j dj vj hj h1 h2=>?_;obtain⟨v',h3,h4⟩:=rv.val j dj h1;rw[h2]at h3;cases h3;rw[if_neg (by rw[hj];decide)]at h4;exact h4
 ·cases e2
def BE(h:SA X cl st i e')(hi:M.contains i=true)(hi2:M.count i<2):SS X cl M st (.own i e'):=by
 refine PS.weak h fun D σ H h=>?_;obtain⟨σD,o,σD',rv,e,k⟩:=h;obtain⟨d,e1,e2⟩:=bind_some e;split at e2
 ·rename_i ok;cases e2;rw[Bool.and_eq_true]at ok;refine⟨σD,d,rv.rv0,e1,fun v H1 r1=>?_⟩
  have m:gd d=true:=by
   cases d with
   | lst _=>rfl
   | dK _ _=>rfl
   | dT _ _=>rfl
   | _=>cases ok.1
  have ow:Own X.K H1 d v:=⟨m,ok.1,r1.rep⟩
  obtain⟨a,ob,rfl,_,_⟩:=ow.ref;obtain⟨h1,h2⟩:=rv.own r1.same hi hi2 (r1.fresh ok.2 m a rfl) ow;exact k _ _ h1 h2
 ·cases e2
def Cy{c:Expr}(hc:ST X cl c c')(ha:SSs X cl M a a')(hb:SSs X cl M b b'):SS X cl M (.If c a b pos) (.ife c' a' b'):=by
 refine PS.weak (vZ hc ha hb) fun D σ H h=>?_;obtain⟨σD,o,σD',rv,e,k⟩:=h;obtain⟨t,e1,e2⟩:=bind_some e;refine⟨σD,t,rv.rv0,e1,fun H1 s1=>?_⟩;have k1:=k.from (Fr'.same (σ:=σ) s1)
 cases t with
 | true=>exact c8 ⟨σD,o,σD',rv.same s1,e2,k1⟩
 | false=>exact d4 ⟨σD,o,σD',rv.same s1,e2,k1⟩
def AB(he:SE X cl e e')(hv:∀ i,e'=.var i->M.contains i=false):SS X cl M (.Return (some e) pos) (.ret e'):=by
 refine PS.weak (sy he) fun D σ H h=>?_;obtain⟨σD,o,σD',rv,ev,k⟩:=h;obtain⟨d,e1,e2⟩:=bind_some ev;split at e2
 ·rename_i ok;cases e2;refine⟨σD,d,rv.rv0,e1,fun v H1 r1=>k σ H v H1 rv (Fr'.same (ao.refl H)) r1.same fun P hP=>?_⟩;unfold RL.gm at ok;rw[Bool.or_eq_true,Bool.and_eq_true,Bool.or_eq_true]at ok
  rcases ok with q | ⟨q1,q2⟩
  ·exact r1.rep.imm q
  ·have rp:=r1.rep
   have fr:gd d=true->∀ a,v=.ref a->¬ P a:=fun m a z p=>by
    rcases q2 with q | q
    ·exact(hP a p).1 (r1.fresh q m a z)
    ·cases e' with
     |var i=>
      have hi:M.contains i=true:=q;rw[hv i rfl]at hi;cases hi
     | _=>cases q
   cases d with
   | lst ds=>obtain⟨a,xs,e1,e0,e2,e3⟩:=au rp;rw[Rep];exact⟨a,xs,e1,fr rfl a e1,e2,e3.imm q1⟩
   | dK ks ds=>rw[Rep]at rp ⊢;obtain⟨a,xs,e1,e0,e2,el,e3⟩:=rp;exact⟨a,xs,e1,fr rfl a e1,e2,el,e3.imm q1⟩
   | dT ks ds=>rw[Rep]at rp ⊢;obtain⟨a,xs,e1,e0,e2,el,e3⟩:=rp;exact⟨a,xs,e1,fr rfl a e1,e2,el,e3.imm q1⟩
   | _=>cases q1
 ·cases e2
def xy(hN:X.N[i]?=some x)(hv:Vis X.env.scope x)(hd:(x == ("__debug__" : Str))=false)(hcd:(x == ("__classdict__" : Str))=false)(hi:M.contains i=true):SS X cl M (.Return (some (.Name x p)) pos) (.ret (.var i)):=by
 refine PS.weak (sy (fg hN hv hd hcd)) fun D σ H h=>?_;obtain⟨σD,o,σD',rv,e,k⟩:=h;obtain⟨d,e1,e2⟩:=bind_some e;split at e2
 ·cases e2
  have e3:σD[i]?=some (some d):=by
   obtain⟨o,h1,h2⟩:=bind_some e1
   cases o with
   | none=>cases h2
   | some z=>cases h2;exact h1
  obtain⟨v,h1,h2⟩:=rv.val i d e3;rw[if_pos hi]at h2;refine⟨v,h1,k σ H v H rv (Fr'.same (ao.refl H)) (ao.refl H) fun P hP=>?_⟩;obtain⟨a,o,rfl,_,_⟩:=h2.ref;have np:¬ P a:=fun p=>(hP a p).2 ⟨i,hi,h1⟩;obtain⟨q1,q2,q3⟩:=h2
  cases d with
  | lst ds=>obtain⟨b,xs,e1,e0,e2,e3⟩:=au q3;cases e1;rw[Rep];exact⟨a,xs,rfl,np,e2,e3.imm q2⟩
  | dK ks ds=>rw[Rep]at q3 ⊢;obtain⟨b,xs,e1,e0,e2,el,e3⟩:=q3;cases e1;exact⟨a,xs,rfl,np,e2,el,e3.imm q2⟩
  | dT ks ds=>rw[Rep]at q3 ⊢;obtain⟨b,xs,e1,e0,e2,el,e3⟩:=q3;cases e1;exact⟨a,xs,rfl,np,e2,el,e3.imm q2⟩
  | _=>cases q1
 ·cases e2
def slot_get{σD:RL.St}(h:(σD[i]?).bind id=some d):σD[i]?=some (some d):=by
 obtain⟨o,h1,h2⟩:=bind_some h
 cases o with
 | none=>cases h2
 | some z=>cases h2;exact h1
def B0(h:PS X st (la (tBM X.K "list" oQ (gN i) (tEs X.K cl (.cons e' .nil)))))(hi:M.contains i=true):SS X cl M st (.app i e'):=by
 refine PS.weak h fun D σ H h=>?_;obtain⟨σD,o,σD',rv,e,k⟩:=h;obtain⟨d,e1,e2⟩:=bind_some e;obtain⟨l,e3,e4⟩:=bind_some e2
 cases l with
 |lst ds=>
  dsimp only at e4;split at e4
  ·rename_i ok;cases e4;rw[Bool.and_eq_true,decide_eq_true_eq]at ok;obtain⟨v,h1,h2⟩:=rv.val i _ (slot_get e3);rw[if_pos hi]at h2;obtain⟨q1,q2,q3⟩:=h2;obtain⟨a,xs,rfl,_,f2,f3⟩:=au q3;refine⟨.ref a,h1,.inl ⟨rfl,xs,SqL.of f2⟩,σD,[d],rv.rv0,by rw[RL.evs,e1];rfl,fun vs H1 s1 r1=>?_⟩;rw[aa]at r1;obtain⟨y,t,rfl,r2,r3⟩:=r1;rw[aa]at r3;subst r3
   have hl:xs.length<sizeLine:=by rw[<-f3.length];exact Nat.lt_of_lt_of_le ok.2 aX
   refine⟨a,xs,y,rfl,rfl,s1 _ _ f2,hl,?_⟩
   have im:RL.ah (ds++[d])=true:=by
    have:∀ l:List RL.D,RL.ah l=true->RL.ah (l++[d])=true:=fun l=>by
     induction l with
     | nil=>intro _;simp[RL.ah,ok.1]
     | cons z r ih=>intro h;rw[RL.ah,Bool.and_eq_true]at h;rw[List.cons_append,RL.ah,h.1,ih h.2];rfl
    exact this ds q2
   have rs:aa nP X.K (upd H1 a (.lst (xs++[y]))) (ds++[d]) (xs++[y]):=(aa.upd (P:=fun p=>p=a) (s1 _ _ f2) (.inl ⟨_,rfl⟩) rfl ((aa.append (f3.same s1) (aa.cons r2 aa.nil)).imm im)).imm im;obtain⟨g1,g2⟩:=(rv.same s1).gQ (d':=.lst (ds++[d])) (o':=.lst (xs++[y])) hi h1 (s1 _ _ f2) (.inl ⟨_,rfl⟩) ⟨rfl,im,by rw[Rep];exact⟨a,_,rfl,fun z=>z,a8,rs⟩⟩;exact k _ _ g1 ((Fr'.same s1).trans g2)
  ·cases e4
 | _=>cases e4
end rules
def RVm.ba{K:PySem.W.Frag}{M:List Nat}{H:Hp}:∀ {tg:List Nat} {ds:List RL.D} {vs:List V} {σD:RL.St} {σ:L2.St},RVm K M σD σ H->(∀ i∈tg,M.contains i=false)->tg.length=ds.length->RL.ah ds=true->aa nP K H ds vs ->
  RVm K M (cw tg ds σD) (bA tg vs σ) H/\aE M (bA tg vs σ)=aE M σ
 | [],_,_,_,_,h,_,_,_,_=>⟨h,rfl⟩
 | i::is,[],_,_,_,_,_,hl,_,_=>by simp at hl
 | i::is,d::ds,vs,σD,σ,h,hM,hl,him,r=>by
  rw[aa]at r;obtain⟨v,t,rfl,r1,r2⟩:=r;rw[RL.ah,Bool.and_eq_true]at him;rw[cw,bA];have hi:=hM i List.mem_cons_self;obtain⟨g1,g2⟩:=RVm.ba (h.bind hi (r1.imm him.1)) (fun j hj=>hM j (List.mem_cons_of_mem _ hj)) (by simpa using hl) him.2 r2;exact⟨g1,g2.trans (aE.set hi)⟩
def ng{M tg:List Nat}{vs:List V}{σ:L2.St}{j:Nat}(hM:∀ i∈tg,M.contains i=false)(hj:2<=M.count j):(bA tg vs σ)[j]?=σ[j]?:=by
 refine jR tg vs σ j ?_
 cases hc:tg.contains j with
 | false=>rfl
 |true=>
  have:=hM j (by simpa using hc);rw[gX hj]at this;cases this
section rules
variable{X:Cx}{cl:RL.Cl}{M:List Nat}{st:Stmt}{tgE iter:Expr}{body:List Stmt}{b:RL.Ss}{it:RL.It}{tg:List Nat}{e' k' a' b':RL.E}{i j:Nat}{pos:Pos}
def pW{f:RL.St->Option (RL.Out × RL.St)}{d:RL.D}{ds:List RL.D}{σ:RL.St}{p:RL.Out × RL.St}(h:RL.aP f tg (d::ds) σ=some p):d.imm=true/\∃ σ1 o σ2,RL.bc tg d σ=some σ1/\f σ1=some (o,σ2) /\
  (match o with | .nx=>RL.aP f tg ds σ2=some p | .rt d=>p=(.rt d,σ2)):=by
 rw[RL.aP]at h;split at h
 ·rename_i him;obtain⟨σ1,h1,h⟩:=bind_some h;obtain⟨⟨o,σ2⟩,h2,h⟩:=bind_some h;refine⟨him,σ1,o,σ2,h1,h2,?_⟩
  cases o with
  | nx=>exact h
  | rt d=>exact(Option.some.inj h).symm
 ·cases h
def AO(hx:X.xe=fun _ _=>False)(hc:X.calm=true)(hi:SI X cl tgE iter it)(hg:PG X tgE (gT X.K tg))(hb:SSs X cl M body b)(hs:∀ x,foldedSetIterable iter X.env x=pure x)(hav:RL.pb M it=true)(hM:∀ i∈tg,M.contains i=false) :
  SS X cl M (.For tgE iter body [] pos) (.forr tg it b):=by
 refine PS.weak (Ad (by rw[hx];exact PassesOwn.never) hc hi hg hb hs) fun D σ H h=>?_;obtain⟨σD,r,σD',rv,e,k⟩:=h;obtain⟨ds,e1,e2⟩:=bind_some e;refine⟨σD,ds,rv.rv0,e1,fun J H1 s1 src=>?_⟩
 have ok:eW X.K J ds (aE M σ) H1:=src.2 M (aE M σ) hav rv.uK fun j dj vj hj h1 h2=>by
  obtain⟨v',h3,h4⟩:=rv.val j dj h1;rw[h2]at h3;cases h3;rw[if_neg (by rw[hj];decide)]at h4;exact h4
 have k1:=k.from (Fr'.same (σ:=σ) s1);refine⟨fun i m σ2 H2=>∃ σD2,m=ds.length-i/\i<=ds.length/\RVm X.K M σD2 σ2 H2/\Fr' M σ H1 σ2 H2/\RL.aP (RL.ak cl M b) tg (ds.drop i) σD2=some (r,σD'),⟨_,σD,rfl,Nat.zero_le _,rv.same s1,Fr'.same (ao.refl _),e2⟩,?_⟩;rintro i m σ2 H2 ⟨σD2,rfl,hi2,rv2,fr2,hl⟩;have off:Off (aE M σ) H1 H2:=fun b o n e=>(fr2.1 b o e n).1;by_cases hlt:i<ds.length
 ·refine .inr ⟨ok.go H2 i off hlt,fun σ' H'=>∃ m',m'<ds.length-i/\∃ σD2,m'=ds.length-(i+1)/\i+1<=ds.length/\RVm X.K M σD2 σ' H'/\Fr' M σ H1 σ' H'/\RL.aP (RL.ak cl M b) tg (ds.drop (i+1)) σD2=some (r,σD'),fun σ' H' z=>z,fun x H3 y=>?_⟩;rw[List.drop_eq_getElem_cons hlt]at hl;obtain⟨him,σ3,o,σ4,h1,h2,h3⟩:=pW hl;obtain⟨s3,rp⟩:=ok.yld H2 i ds[i] x H3 off (by simp[hlt]) y;obtain⟨dv,vs,q1,q2,q3,q4,q5⟩:=p8 h1 (rp (.inl him));refine q5 _ _ ?_;obtain⟨rv3,as3⟩:=(rv2.same s3).ba hM q2 (q4 him) q3
  have fr3:Fr' M σ H1 (bA tg vs σ2) H3:=⟨fun b o e n=>⟨s3 _ _ (fr2.1 b o e n).1,by rw[as3];exact(fr2.1 b o e n).2⟩,fun j hj=>(ng hM hj).trans (fr2.2 j hj)⟩
  refine⟨σ3,o,σ4,by rw[q1];exact rv3,h2,?_⟩
  cases o with
  | nx=>exact fun σ' H' rv' fr'=>⟨_,by lia,σ4,rfl,hlt,rv',fr3.trans fr',h3⟩
  |rt d=>
   cases h3;exact fun σ' H' v H4 rv' fr' sm rp=>k1 σ' H' v H4 rv' (fr3.trans fr') sm rp
 ·have e:i=ds.length:=by lia
  subst e;rw[List.drop_length,RL.aP]at hl;cases hl;exact .inl ⟨ok.stop H2 off,k1 σ2 H2 rv2 fr2⟩
def uS{n:Nat}{k:Int}{j:Nat}(h:RL.vk n k=some j):ixN n k=some j:=h
def sC:∀ {ds:List RL.D} {d:RL.D} (j:Nat),RL.ah ds=true->d.imm=true->RL.ah (ds.set j d)=true
 | [],d,j,_,_=>by simp[RL.ah]
 | x::r,d,0,h,hd=>by rw[RL.ah,Bool.and_eq_true]at h;rw[List.set_cons_zero,RL.ah,hd,h.2];rfl
 | x::r,d,j+1,h,hd=>by rw[RL.ah,Bool.and_eq_true]at h;rw[List.set_cons_succ,RL.ah,h.1,sC j h.2 hd];rfl
def oO{H:Hp}{a:Addr}{ds:List RL.D}{xs ys:List V}{ds':List RL.D}(f2:H a=some (.lst xs))(im:RL.ah ds'=true)(rs:aa nP X.K H ds' ys):Own X.K (upd H a (.lst ys)) (.lst ds') (.ref a) :=
 ⟨rfl,im,by rw[Rep];exact⟨a,_,rfl,fun z=>z,a8,(aa.upd (P:=fun p=>p=a) f2 (.inl ⟨_,rfl⟩) rfl (rs.imm im)).imm im⟩⟩
def zY(h:PS X st (lT (tE X.K cl e') (uY (gN i) (tE X.K cl k') pG)))(hi:M.contains i=true)(hl:True):PS X st (tS X.K M fun σD=>(RL.ev cl σD e').bind fun d=>(RL.ev cl σD k').bind fun kk=>((σD[i]?).bind id).bind fun l=>match l with
  | .lst _=>if d.imm then(RL.dG l kk d).map fun l'=>(.nx,σD.set i (some l'))else none
  | _=>none):=by
 refine PS.weak h fun D σ H h=>?_;obtain⟨σD,o,σD',rv,e,k⟩:=h;obtain⟨d,e1,e⟩:=bind_some e;obtain⟨kk,e2,e⟩:=bind_some e;obtain⟨l,e3,e⟩:=bind_some e
 cases l with
 |lst ds=>
  dsimp only at e;split at e
  ·rename_i him;obtain⟨l',e4,e5⟩:=map_some e;cases e5;obtain⟨v,h1,h2⟩:=rv.val i _ (slot_get e3);rw[if_pos hi]at h2;obtain⟨q1,q2,q3⟩:=h2;obtain⟨a,xs,rfl,_,f2,f3⟩:=au q3
   cases kk with
   |int kk=>
    obtain⟨jx,e6,e7⟩:=map_some (show(RL.vk ds.length kk).map (fun j=>RL.D.lst (ds.set j d))=some l' from e4);subst e7;refine⟨σD,d,rv.rv0,e1,fun y H1 r1=>⟨.ref a,h1,σD,.int kk,rv.rv0.same r1.same,e2,fun z H2 r2=>?_⟩⟩;have sm:=r1.same.trans r2.same;refine⟨a,xs,kk,jx,rfl,ag r2.rep,sm _ _ f2,?_,?_⟩
    ·rw[<-f3.length];exact uS e6
    ·have im:=sC jx q2 him;obtain⟨g1,g2⟩:=(rv.same sm).gQ (d':=.lst (ds.set jx d)) (o':=.lst (xs.set jx y)) hi h1 (sm _ _ f2) (.inl ⟨_,rfl⟩) (oO (ds:=ds) (sm _ _ f2) im (aa.set jx (f3.same sm) (r1.rep.same r2.same)));exact k _ _ g1 ((Fr'.same sm).trans g2)
   | _=>cases e4
  ·cases e
 | _=>cases e
def oU:∀ {ds:List RL.D},RL.ah ds=true->RL.ah ds.dropLast=true
 | [],_=>rfl
 | [x],_=>rfl
 | x::y::r,h=>by rw[RL.ah,Bool.and_eq_true]at h;rw[List.dropLast_cons_cons,RL.ah,h.1,oU h.2];rfl
def aa.dropLast{P:Addr->Prop}{K:PySem.W.Frag}{H:Hp}{ds:List RL.D}{xs:List V}(h:aa P K H ds xs):aa P K H ds.dropLast xs.dropLast:=by
 rw[List.dropLast_eq_take,List.dropLast_eq_take,<-h.length];exact h.take _
def A5(h:PS X st (zm i j (tEs X.K cl (.cons a' (.cons b' .nil)))))(hi:M.contains i=false)(hj:M.contains j=false):SS X cl M st (.par i j a' b'):=by
 refine PS.weak h fun D σ H h=>?_;obtain⟨σD,o,σD',rv,e,k⟩:=h;obtain⟨x,e1,e⟩:=bind_some e;obtain⟨y,e2,e⟩:=bind_some e;split at e
 ·rename_i him;cases e;rw[Bool.and_eq_true]at him;refine⟨σD,[x,y],rv.rv0,by rw[RL.evs,e1,RL.evs,e2];rfl,fun vs H1 s1 r1=>?_⟩;rw[aa]at r1;obtain⟨v,t,rfl,r2,r3⟩:=r1;rw[aa]at r3;obtain⟨u,t,rfl,r4,r5⟩:=r3;rw[aa]at r5;subst r5;refine⟨v,u,rfl,k _ _ ?_ ?_⟩
  ·refine((rv.same s1).bind hi (r2.imm him.1)).bind hj (r4.imm him.2)
  ·exact(Fr'.bind hi s1).trans (Fr'.bind hj (ao.refl _))
 ·cases e
def y9(h:PS X st (la (tE X.K cl e'))):SS X cl M st (.exc e'):=by
 refine PS.weak h fun D σ H h=>?_;obtain⟨σD,o,σD',rv,e,k⟩:=h;obtain⟨d,e1,e2⟩:=map_some e;cases e2;exact⟨σD,d,rv.rv0,e1,fun v H1 r1=>k _ _ (rv.same r1.same) (Fr'.same r1.same)⟩
end rules
section rules
variable{st:Stmt}
def xa(h:PS X st (lT (tE X.K cl e') (fun v σ H Q=>jF X.K is.length (gs is) v σ H Q\/kj X.K is.length (gs is) v σ H Q)))(hM:∀ i∈is,M.contains i=false):SS X cl M st (.unp is e'):=by
 refine PS.weak h fun D σ H h=>?_;obtain⟨σD,o,σD',rv,e,k⟩:=h;obtain⟨d,e1,e⟩:=bind_some e;obtain⟨ds,e2,e⟩:=bind_some e;split at e
 ·rename_i him;obtain⟨σ1,e3,e4⟩:=map_some e;cases e4;obtain⟨q1,q2⟩:=dt e3;refine⟨σD,d,rv.rv0,e1,fun v H1 r1=>?_⟩;obtain⟨p,xs,rfl,hp,rs⟩:=cT e2 r1.rep;obtain⟨g1,g2⟩:=(rv.same r1.same).ba (vs:=xs) hM q1 him rs;have fin:D.nx (bA is xs σ) H1:=k _ _ (by rw[q2];exact g1) ⟨fun b o e n=>⟨r1.same _ _ e,by rw[g2];exact n⟩,fun j hj=>ng hM hj⟩
  have hl:xs.length=is.length:=by rw[<-rs.length,q1]
  rcases hp with⟨hp,_⟩ | ⟨hp,_⟩ | ⟨⟨o,hp⟩,_⟩
  ·exact .inr ⟨p,xs,rfl,SqL.of hp,hl,eE hl.symm fin⟩
  ·exact .inl ⟨p,xs,rfl,SqT.of hp,hl,eE hl.symm fin⟩
  ·exact .inr ⟨p,xs,rfl,.inl (.inr ⟨o,hp⟩),hl,eE hl.symm fin⟩
 ·cases e
def iP(xs:List α)(k:Int):(xs.drop (HT.sIx xs.length 0 none)).take (HT.sIx xs.length xs.length (some k)-HT.sIx xs.length 0 none)=xs.take (RL.cutAt xs.length k):=by
 rw[HT.sV,List.drop_zero,Nat.sub_zero];congr 1;have h:=HT.gU k xs.length xs.length;unfold RL.cutAt;split at h
 ·rename_i h0;rw[if_neg (by lia)];lia
 ·rename_i h0;rw[if_pos (by lia)];lia
end rules
section rules
variable{X:Cx}
def one(rv:RV0 X.K σD σ H)(ea:RL.ev cl σD a'=some d)(k:∀ v H1,ao H H1->Rep nP X.K H1 d v->R [v] H1):tEs X.K cl (.cons a' .nil) σ H R :=
 ⟨σD,[d],rv,by rw[RL.evs,ea];rfl,fun vs H1 s1 r1=>by
  rw[aa]at r1;obtain⟨v,t,rfl,r2,r3⟩:=r1;rw[aa]at r3;subst r3
  exact k v H1 s1 r2⟩
def pair(rv:RV0 X.K σD σ H)(ea:RL.ev cl σD a'=some d)(eb:RL.ev cl σD b'=some d')(k:∀ v u H1,ao H H1->Rep nP X.K H1 d v->Rep nP X.K H1 d' u->R [v,u] H1):tEs X.K cl (.cons a' (.cons b' .nil)) σ H R :=
 ⟨σD,[d,d'],rv,by rw[RL.evs,ea,RL.evs,eb];rfl,fun vs H1 s1 r1=>by
  rw[aa]at r1;obtain⟨v,t,rfl,r2,r3⟩:=r1;rw[aa]at r3;obtain⟨u,t,rfl,r4,r5⟩:=r3;rw[aa]at r5;subst r5
  exact k v u H1 s1 r2 r4⟩
def eI{id:String}{r:List V->Hp->VK->Prop}{b:RL.Bi}(hc:aH X (.builtin id) r)(hg:Gl X x)(hm:X.mg x=none)(hv:bootBuiltins x=some (.builtin id))(ha:SE X cl a a')(hn:noStar a=true)(h1:x ≠ "__name__")(h2:(x == ("__debug__" : Str))=false)
 (ok:∀ (σD:RL.St) (σ:L2.St) (H H1:Hp) (y d:RL.D) (v:V) (Q:VK),RL.biV b y=some d->ao H H1->Rep nP X.K H1 y v->(∀ w H',Res X.K σD σ H (.bi b a') d w H'->Q w H')->r [v] H1 Q):SE X cl (.Call (.Name x p) [a] [] pos) (.bi b a'):=by
 refine PE.weak (dQ hc hg hm hv (aR (cl:=cl) ha bp hn) h1 h2 (ay [] hn) rfl) fun σ H Q h=>?_;obtain⟨σD,d,rv,e,k⟩:=h;obtain⟨y,ea,e⟩:=bind_some e;exact one rv ea fun v H1 s1 r1=>ok σD σ H H1 y d v Q e s1 r1 k
def gJ{T:String}{r:List V->Hp->VK->Prop}{b:RL.Bi}(hc:aH X (.type T) r)(hg:Gl X x)(hm:X.mg x=none)(hv:bootBuiltins x=some (.type T))(ha:SE X cl a a')(hn:noStar a=true)(h1:x ≠ "__name__")(h2:(x == ("__debug__" : Str))=false)
 (ok:∀ (σD:RL.St) (σ:L2.St) (H H1:Hp) (y d:RL.D) (v:V) (Q:VK),RL.biV b y=some d->ao H H1->Rep nP X.K H1 y v->(∀ w H',Res X.K σD σ H (.bi b a') d w H'->Q w H')->r [v] H1 Q):SE X cl (.Call (.Name x p) [a] [] pos) (.bi b a'):=by
 refine PE.weak (bC hc hg hm hv (aR (cl:=cl) ha bp hn) h1 h2 (ay [] hn) rfl) fun σ H Q h=>?_;obtain⟨σD,d,rv,e,k⟩:=h;obtain⟨y,ea,e⟩:=bind_some e;exact one rv ea fun v H1 s1 r1=>ok σD σ H H1 y d v Q e s1 r1 k
def wV(hg:Gl X "list")(hm:X.mg "list" = none)(ha:SE X cl a a')(hn:noStar a=true):SE X cl (.Call (.Name "list" p) [a] [] pos) (.bi .list a'):=by
 refine gJ mJ hg hm (by decide +kernel) ha hn (by decide) (by decide) fun σD σ H H1 y d v Q e s1 r1 k=>?_;obtain⟨ds,e1,e2⟩:=map_some (show(RL.items y).map RL.D.lst=some d from e);subst e2;obtain⟨q,xs,rfl,hp,rs⟩:=cT e1 r1;refine⟨q,xs,rfl,?_,fun l hl=>k _ _ (bf s1 hl rs fun _=>rfl)⟩
 rcases hp with⟨z,_⟩ | ⟨z,_⟩ | ⟨⟨o,z⟩,_⟩
 ·exact .inl (SqL.of z)
 ·exact .inr (SqT.of z)
 ·exact .inl (.inl (.inr ⟨o,z⟩))
def tR(hg:Gl X "tuple")(hm:X.mg "tuple" = none)(ha:SE X cl a a')(hn:noStar a=true):SE X cl (.Call (.Name "tuple" p) [a] [] pos) (.bi .tuple a'):=by
 refine gJ kR hg hm (by decide +kernel) ha hn (by decide) (by decide) fun σD σ H H1 y d v Q e s1 r1 k=>?_;obtain⟨ds,e1,e2⟩:=map_some (show(RL.items y).map RL.D.tup=some d from e);subst e2;obtain⟨q,xs,rfl,hp,rs⟩:=cT e1 r1
 rcases hp with⟨z,_⟩ | ⟨z,_⟩ | ⟨⟨o,z⟩,_⟩
 ·exact⟨q,xs,rfl,.inl ⟨SqL.of z,fun l hl=>k _ _ (cP s1 hl rs fun _=>rfl)⟩⟩
 ·refine⟨q,xs,rfl,.inr ⟨SqT.of z,k _ _ ⟨s1,?_,fun _ m=>(by cases m),fun M z=>nomatch (show false=true from z)⟩⟩⟩;rw[Rep];exact⟨q,xs,rfl,z,rs⟩
 ·exact⟨q,xs,rfl,.inl ⟨.inl (.inr ⟨o,z⟩),fun l hl=>k _ _ (cP s1 hl rs fun _=>rfl)⟩⟩
def BJ(hg:Gl X "int")(hm:X.mg "int" = none)(ha:SE X cl a a')(hn:noStar a=true):SE X cl (.Call (.Name "int" p) [a] [] pos) (.bi .int a'):=by
 refine gJ qC hg hm (by decide +kernel) ha hn (by decide) (by decide) fun σD σ H H1 y d v Q e s1 r1 k=>?_
 cases y<;>first | (cases e;done) | skip
 case bl t=>cases e;exact .inr ⟨t,by rw[aF r1],k _ _ (bh s1 aA rfl)⟩
 case int t=>cases e;exact .inl ⟨t,by rw[ag r1],k _ _ (bh s1 aA rfl)⟩
def zC{prog:Program}{w:World}{d:Addr}(hd:(d == sysModules)=false) :
  MeetsIn prog w (Builtin.«dict.__len__» ⟨[.ref d],[]⟩) (fun _ R s=>∃ o es ep,s.heap.get? d=some o/\o.data=.dict es ep/\R (.ok (.ret (.int es.size s.toks))) { s with toks:=s.toks+1 }) :=
 .of_wp fun A R s ⟨o,es,ep,ho,hdat,h⟩=>by
  show wpAny _ _ (dictSize d >>= _) _ _ s;unfold dictSize;refine wpAny_bind (wpAny_bind (wpAny_dictEntries ho hdat (wpAny_pure ?_)));show wpAny _ _ (Builtin.Dict.pendingCount d >>= _) _ _ s;refine wpAny_bind (wpAny_pendingCount_other hd ?_);refine wpAny_ret_mkInt ?_;rw[Nat.add_zero];exact h
def pH{prog:Program}{w:World}{K:Type} [DecidableEq K]{knd:HeapKind prog w K}(hd:(d == sysModules)=false) :
  MeetsIn prog w (Builtin.«dict.__len__» ⟨[.ref d],[]⟩) (fun _ R s=>∃ xs,s.heap.DictOfH knd d xs/\R (.ok (.ret (.int xs.length s.toks))) { s with toks:=s.toks+1 }) :=
 .of_wp fun A R s ⟨xs,hm,h⟩=>by
  obtain⟨o,es,ep,ho,hc,hdat,hk,_,_⟩:=hm;show wpAny _ _ (dictSize d >>= _) _ _ s;unfold dictSize;refine wpAny_bind (wpAny_bind (wpAny_dictEntries ho hdat (wpAny_pure ?_)));show wpAny _ _ (Builtin.Dict.pendingCount d >>= _) _ _ s;refine wpAny_bind (wpAny_pendingCount_other hd ?_);refine wpAny_ret_mkInt ?_;rw[Nat.add_zero,size_of_entries hk];exact h
def jY{prog:Program}{w:World}{K:Type} [DecidableEq K]{knd:HeapKind prog w K}{A:Around}{E:Value->Shared->Prop}{s:Shared}{d:Addr}{xs:List (K × Addr × Value)}{Q:Value->Shared->Prop}(hd:(d == sysModules)=false)(hm:s.heap.DictOfH knd d xs)(hfit:(xs.length:Int)<2 ^ 63)
 (h:Q (.int xs.length (s.toks+1)) { s with toks:=s.toks+1+1 }):wpAny (model prog w) A (call (.builtin "len") [.ref d]) Q E s:=by
 refine Calls.call_function_entry kind_len plain_len entry_len (args_len1 _) ?_;unfold Builtin.«len»;refine wpAny_bind (m:=oneArg "len" _) (wpAny_pure ?_)
 refine wpAny_bind (m:=callSpecial? (.ref d) (Str.ofString "__len__")) (wpAny_callSpecial?_slot (name:=Str.ofString "__len__") hm.typeIs F.slot_dict_len
  (call_meetsIn F.slot_dict_len hm.typeIs F.entry_dict_len (F.args_dict_len_1 _) (pH hd) ⟨xs,hm,?_⟩))
 show wpAny _ _ _ _ _ { s with toks:=s.toks+1 };refine wpAny_bind (wpAny_holding (wpAny_pure ?_));refine wpAny_bind (wpAny_letGo ?_);show wpAny _ _ (if((xs.length:Nat):Int)<0 then _ else _) _ _ _;rw[if_neg (by omega)];show wpAny _ _ (if((xs.length:Nat):Int)≥2 ^ 63 then _ else _) _ _ _;rw[if_neg (by omega)];exact wpAny_bind (wpAny_mkInt (wpAny_pure ⟨_,rfl,h⟩))
def sI:aH X (.builtin "len") (fun xs H Q=>∃ a kvs,xs=[V.ref a]/\H a=some (.dT kvs)/\Q (.int kvs.length) H):=by
 intro pins s σ H xs us Q I r h;obtain⟨a,kvs,rfl,ha,q⟩:=h;obtain⟨u,rfl,ru⟩:=vals1 r;cases ru;obtain⟨z,hd,xs,rel,dd⟩:=pE I.hok ha;have hl:kvs.length=xs.length:=Paired.length rel;refine jY hd dd (by rw[<-hl];rw[sizeLine_eq]at z;omega) ?_;rw[<-hl];exact⟨.int kvs.length,H,I.tok _,⟨_,rfl⟩,q⟩
def qI:aH X (.builtin "len") (fun xs H Q=>∃ a o kvs,xs=[V.ref a]/\H a=some (.frz o (.dT kvs))/\Q (.int kvs.length) H):=by
 intro pins s σ H xs us Q I r h;obtain⟨a,o,kvs,rfl,ha,q⟩:=h;obtain⟨u,rfl,ru⟩:=vals1 r;cases ru;obtain⟨_,z,hd,xs,rel,ob,es,ep,g,ex,hdat,he,nd⟩:=I.hok a _ ha;have hl:kvs.length=xs.length:=Paired.length rel;refine Calls.call_function_entry kind_len plain_len entry_len (args_len1 _) ?_;unfold Builtin.«len»;refine wpAny_bind (m:=oneArg "len" _) (wpAny_pure ?_)
 refine wpAny_bind (m:=callSpecial? (.ref a) (Str.ofString "__len__")) (wpAny_callSpecial?_slot (name:=Str.ofString "__len__") ⟨ob,g,ex.1⟩ F.slot_dict_len
  (call_meetsIn F.slot_dict_len ⟨ob,g,ex.1⟩ F.entry_dict_len (F.args_dict_len_1 _) (zC hd) ⟨ob,es,ep,g,hdat,?_⟩))
 show wpAny _ _ _ _ _ { s with toks:=s.toks+1 }
 have hs:es.size=kvs.length:=by rw[<-Array.length_toList,he,List.length_map,hl]
 rw[sizeLine_eq]at z;refine wpAny_bind (wpAny_holding (wpAny_pure ?_));refine wpAny_bind (wpAny_letGo ?_);show wpAny _ _ (if((es.size:Nat):Int)<0 then _ else _) _ _ _;rw[if_neg (by omega)];show wpAny _ _ (if((es.size:Nat):Int)≥2 ^ 63 then _ else _) _ _ _;rw[if_neg (by omega)];exact wpAny_bind (wpAny_mkInt (wpAny_pure ⟨_,rfl,⟨.int kvs.length,H,I.tok _,⟨_,by rw[hs]⟩,q⟩⟩))
def qN:aH X (.builtin "len") (fun xs H Q=>(∃ y n,xs=[y]/\zQ X.K y H n/\Q (.int n) H)\/(∃ q kvs,xs=[V.ref q]/\H q=some (.dK kvs)/\Q (.int kvs.length) H)\/(∃ q kvs,xs=[V.ref q]/\H q=some (.dT kvs)/\Q (.int kvs.length) H)\/∃ q o kvs,xs=[V.ref q]/\H q=some (.frz o (.dT kvs))/\Q (.int kvs.length) H):=aH.or uz (aH.or rX (aH.or sI qI))
def yh(hg:Gl X "len")(hm:X.mg "len" = none)(ha:SE X cl a a')(hn:noStar a=true):SE X cl (.Call (.Name "len" p) [a] [] pos) (.bi .len a'):=by
 refine eI qN hg hm PySem.boot_len ha hn (by decide) (by decide) fun σD σ H H1 y d v Q e s1 r1 k=>?_
 cases y<;>first | (cases e;done) | skip
 case str t =>
  rw[RL.Cj]at e;split at e
  ·rename_i hz;cases e;rw[a9 r1];exact .inl ⟨_,_,rfl,⟨Nat.le_trans hz aX,rfl⟩,k _ _ (bh s1 aA rfl)⟩
  ·cases e
 case tup t =>
  cases e;obtain⟨q,xs,rfl,f2,f3⟩:=aD r1;dsimp only at k;rw[f3.length]at k;exact .inl ⟨_,_,rfl,.inr ⟨xs,SqT.of f2,rfl⟩,k _ _ (bh s1 aA rfl)⟩
 case lst t =>
  cases e;obtain⟨q,xs,rfl,_,f2,f3⟩:=au r1;dsimp only at k;rw[f3.length]at k;exact .inl ⟨_,_,rfl,.inl ⟨xs,SqL.of f2,rfl⟩,k _ _ (bh s1 aA rfl)⟩
 case fL t =>
  cases e;rw[Rep]at r1;obtain⟨q,o,xs,rfl,f2,f3⟩:=r1;dsimp only at k;rw[f3.length]at k;exact .inl ⟨_,_,rfl,.inl ⟨xs,.inl (.inr ⟨o,f2⟩),rfl⟩,k _ _ (bh s1 aA rfl)⟩
 case dK ks t =>
  cases e;rw[Rep]at r1;obtain⟨q,xs,rfl,_,f2,fl,f3⟩:=r1;refine .inr (.inl ⟨q,_,rfl,f2,?_⟩)
  have:(ks.zip xs).length=ks.length:=by rw[List.length_zip,<-f3.length,fl,Nat.min_self]
  rw[this];exact k _ _ (bh s1 aA rfl)
 case dT ks t =>
  cases e;rw[Rep]at r1;obtain⟨q,xs,rfl,_,f2,fl,f3⟩:=r1;refine .inr (.inr (.inl ⟨q,_,rfl,f2,?_⟩))
  have:(ks.zip xs).length=ks.length:=by rw[List.length_zip,<-f3.length,fl,Nat.min_self]
  rw[this];exact k _ _ (bh s1 aA rfl)
 case fT ks t =>
  cases e;rw[Rep]at r1;obtain⟨q,o,xs,rfl,f2,fl,f3⟩:=r1;refine .inr (.inr (.inr ⟨q,o,_,rfl,f2,?_⟩))
  have:(ks.zip xs).length=ks.length:=by rw[List.length_zip,<-f3.length,fl,Nat.min_self]
  rw[this];exact k _ _ (bh s1 aA rfl)
abbrev tyN:RL.Ty->String
 | .int => "int"
 | .bool => "bool"
 | .list => "list"
 | .tuple => "tuple"
 | .str => "str"
def uX:aH X (.builtin "isinstance") (fun xs H Q=>∃ y t T k,xs=[y,.ty T]/\c9 X.K H y t/\PySem.W.kitOne X.K t (.type T)=some k/\Q (.bl k) H):=by
 intro pins s σ H xs us Q I r h;obtain⟨y,t,T,k,rfl,ty,e,q⟩:=h;obtain⟨u,w,rfl,r1,r2⟩:=vals2 r;cases r2
 exact rW I r1 ty e fun tk=>⟨.bl k,H,I.tok tk,rfl,q⟩
def yw(h:RL.AU t d=some k)(r:Rep nP X.K H d v):∃ ty,c9 X.K H v ty/\PySem.W.kitOne X.K ty (.type (tyN t))=some k:=by
 cases d with
 | non=>rw[Rep]at r;subst r;refine⟨_,.non,?_⟩;cases t<;>(cases h;rfl)
 | bl i=>rw[aF r];refine⟨_,.bl i,?_⟩;cases t<;>(cases h;rfl)
 | int i=>rw[ag r];refine⟨_,.int i,?_⟩;cases t<;>(cases h;rfl)
 | str i=>rw[a9 r];refine⟨_,.str i,?_⟩;cases t<;>(cases h;rfl)
 | tup i=>obtain⟨q,xs,rfl,f2,f3⟩:=aD r;refine⟨_,.tup f2,?_⟩;cases t<;>(cases h;rfl)
 | lst i=>obtain⟨q,xs,rfl,_,f2,f3⟩:=au r;refine⟨_,.lst f2,?_⟩;cases t<;>(cases h;rfl)
 | fL i=>rw[Rep]at r;obtain⟨q,o,xs,rfl,f2,f3⟩:=r;refine⟨_,.frz f2,?_⟩;cases t<;>(cases h;rfl)
 | _=>cases t<;>cases h
def yL(hg:Gl X "isinstance")(hm:X.mg "isinstance" = none)(hgy:Gl X y)(hmy:X.mg y=none)(hy:bootBuiltins y=some (.type (tyN t)))(hy1:y ≠ "__name__")(hy2:(y == ("__debug__" : Str))=false)(ha:SE X cl a a')(hn:noStar a=true) :
  SE X cl (.Call (.Name "isinstance" p) [a,.Name y p2] [] pos) (.isi a' t):=by
 have hty:PE X (.Name y p2) (tC (.ty (tyN t))):=w6 hgy hmy hy rfl hy1 hy2;refine PE.weak (dQ uX hg hm (by decide +kernel) (b9 ha (b9 hty cB rfl) (ay _ hn)) (by decide) (by decide) (ay _ hn) rfl) fun σ H Q h=>?_;obtain⟨σD,d,rv,e,k⟩:=h;obtain⟨u,ea,e⟩:=bind_some e;obtain⟨t',e1,e2⟩:=map_some e;subst e2;refine⟨σD,u,rv,ea,fun v H1 r1=>?_⟩;obtain⟨ty,h1,h2⟩:=yw e1 r1.rep;exact⟨v,ty,_,t',rfl,h1,h2,k _ _ (c5 r1.same)⟩
end rules
end RS
namespace L2
open PySem PySem.Spec PyProof.Rows
structure hV(prog:Program)(w:World):Prop where
 draws:∀ {A:Around},A.handled=none->∀ (ti tp:Addr),tp≠ti->∀ its:Array Value,Draws prog w A ti [ti,tp] its.size (fun i v=>its[i]?=some v) (fun i h=>h.IsTupleIter ti tp i/\h.IsTuple tp its)
 call:∀ {A:Around} {E:Value->Shared->Prop} {z:Shared} {tp:Addr} {its:Array Value} {Q:Value->Shared->Prop},z.heap.IsTuple tp its ->
  (∀ g,IsEnum g (z.heap.objs.size+1) z.heap.objs.size 0 .none->g.IsTupleIter z.heap.objs.size tp 0->(∀ b o,z.heap.get? b=some o->g.get? b=some o)->Q (.ref (z.heap.objs.size+1)) { z with heap:=g })->wpAny (model prog w) A (call (.type "enumerate") [.ref tp]) Q E z
section
def Inv.kl{h':Heap}{t':Nat}{fp:List Addr}(I:Inv X pins σ H s)(k:∀ b o,b∉fp->s.heap.get? b=some o->h'.get? b=some o)(hf:∀ b∈fp,H b=none/\(b∈X.ex\/X.s₀.heap.objs.size<=b)/\b≠X.env.locals/\(∀ x c,X.env.cells.lookup x=some c->c≠b)/\∀ p∈X.pn++pins,p.1≠b) :
  Inv X pins σ H { s with heap:=h',toks:=t' }:=by
 have nf:∀ b u,H b=some u->b∉fp:=fun b u e z=>by rw[(hf b z).1]at e;cases e
 refine I.vB (s':={ s with heap:=h',toks:=t' }) (ch:=fp) rfl ⟨fun b o e _ _ hx=>k b o hx e,fun b o e _ _ hx=>⟨o.slots,k b o hx e⟩,fun _ _ _ n _=>n,fun b o e hx=>⟨o,k b o hx e⟩,fun _ _ e=>e,fun _ _ _ e=>e,fun b ps e=>⟨#[],by rw[e];simp⟩⟩ (fun b u e=>?_) I.bare fun b hb=>(hf b hb).2;refine(I.hok b u e).jG (fun c v hc q=>k c v ?_ q) (fun _ q=>q) fun _ _ q=>q;rcases hc with z | z
 ·rw[z];exact nf b u e
 ·exact nf c _ z
end
abbrev Ite(cont:Hp->List V->Prop):It :=
 ⟨fun i H=>∃ xs x,cont H xs/\xs[i]?=some x,fun i H v H'=>∃ p x,H p=none/\v=.ref p/\H'=upd H p (.tup [.int i,x])/\∀ xs,cont H xs->xs[i]?=some x,fun i H=>∃ xs,cont H xs/\xs.length=i⟩
structure Src(P:Program)(w:World)(K:PySem.W.Frag)(e it:Addr)(cont:Hp->List V->Prop)(ia:Nat->Heap->Prop):Prop where
 obj:∀ i h,ia i h->∃ o,h.get? it=some o/\∀ v,o.data≠.cell v
 keep:∀ i h h',ia i h->(∀ o,h.get? it=some o->h'.get? it=some o)->ia i h'
 inj:∀ (H:Hp) xs ys,cont H xs->cont H ys->xs=ys
 dr:∀ (X:Cx),X.prog=P->X.w=w->X.K=K->X.calm=true->∀ (pins:List (Addr × Obj)) (s:Shared) (σ:St) (H:Hp) (xs:List V),Inv X pins σ H s->H e=none->H it=none->cont H xs ->
  ∃ (fp:List Addr) (Pv:Nat->Value->Prop) (St:Nat->Heap->Prop),Draws P w X.A.in1 it fp xs.length Pv St/\e∉fp/\(∀ i,ia i s.heap->St i s.heap)/\(∀ i h,St i h->ia i h)/\∀ i v,Pv i v->∃ x,xs[i]?=some x/\RelV x v
def sN{P:Program}{w:World}{K:PySem.W.Frag}(hei:e≠it)(S:Src P w K e it cont ia) :
  Turn P w K (.Tuple elts kx tp) (Ite cont) [e,it] e (fun i h=>(∃ old,IsEnum h e it i old)/\ia i h) where
 mem:=by simp
 obj:=fun i h st b hb=>by
  rcases List.mem_cons.mp hb with rfl | hb
  ·obtain⟨⟨old,he⟩,_⟩:=st;exact⟨_,he,fun v z=>by cases z⟩
  ·rw[List.mem_singleton.mp hb];exact S.obj i h st.2
 keep:=fun i h h' st k=>by
  obtain⟨⟨old,he⟩,hi⟩:=st;exact⟨⟨old,k e (by simp) _ he⟩,S.keep i h h' hi fun o q=>k it (by simp) o q⟩
 item:=by
  intro X hP hw hK hc i pins s σ H E I hf st hg;subst hP hw hK;obtain⟨⟨old,he⟩,hi⟩:=st;obtain⟨xs,x,hq,hx⟩:=hg;have fe:=hf e (by simp);have fi:=hf it (by simp);obtain⟨fp,Pv,St,D,hef,h1,h2,h3⟩:=S.dr X rfl rfl rfl hc pins s σ H xs I fe.1 fi.1 hq;have hlt:i<xs.length:=(List.getElem?_eq_some_iff.mp hx).1;refine wpAny_pyNext_enum_itemD D he (h1 i hi) hlt hei hef fun v h' tk hP ho hs' hT hsz hk=>?_;obtain⟨x',hx',rx⟩:=h3 i v hP;rw[hx]at hx';cases hx';refine⟨.ref s.heap.objs.size,rfl,wpAny_letOwnedTupleGo_enum ho fun h'' he' hs''=>?_⟩;have hn:H s.heap.objs.size=none:=I.hok.fresh (Nat.le_refl _)
  have I1:Inv X pins σ (upd H s.heap.objs.size (.tup [.int i,x])) { s with heap:=s.heap.push { cls:=.type "tuple",data:=.seq #[.int i tk,v] },toks:=tk+1 } :=
   I.laid (t':=tk+1) (fun b u q=>Heap.get?_push_of_some _ q) (Nat.le_refl _) ⟨by show 2<=sizeLine;decide,[.int i tk,v],.cons ⟨tk,rfl⟩ (.cons rx .nil),⟨_,Heap.get?_push_size _ rfl,rfl,_,rfl⟩⟩
  have hes:e<s.heap.objs.size:=Heap.lt_size he
  have hit:it<s.heap.objs.size:=by obtain⟨o,q,_⟩:=S.obj i _ hi;exact Heap.lt_size q
  have stat:∀ b∈[e,it],upd H s.heap.objs.size (.tup [.int i,x]) b=none/\(b∈X.ex\/X.s₀.heap.objs.size<=b)/\b≠X.env.locals/\(∀ x c,X.env.cells.lookup x=some c->c≠b)/\∀ p∈X.pn++pins,p.1≠b:=fun b hb=>by
   obtain⟨f0,f1,f2,f3,f4,f5⟩:=hf b hb
   have hb':b≠s.heap.objs.size:=by
    rcases List.mem_cons.mp hb with rfl | hb
    ·exact Nat.ne_of_lt hes
    ·rw[List.mem_singleton.mp hb];exact Nat.ne_of_lt hit
   exact⟨by rw[a6 hb'];exact f0,f3,f1,f4,f5⟩
  have I2:Inv X pins σ (upd H s.heap.objs.size (.tup [.int i,x])) { s with heap:=h'',toks:=tk+1 }:=by
   refine Inv.kl (s:={ s with heap:=s.heap.push { cls:=.type "tuple",data:=.seq #[.int i tk,v] },toks:=tk+1 }) (h':=h'') (t':=tk+1) (fp:=[e,it]) I1 (fun b o hb q=>?_) stat;have b1:b≠e:=fun z=>hb (by simp[z]);have b2:b≠it:=fun z=>hb (by simp[z]);refine hs''.extBut b o b1 ?_;by_cases hbT:b=s.heap.objs.size
   ·subst hbT;have q':(s.heap.push { cls:=.type "tuple",data:=.seq #[.int i tk,v] }).get? s.heap.objs.size=some o:=q;rw[Heap.get?_push_size _ rfl]at q';cases q';exact hT
   ·have q':s.heap.get? b=some o:=(Heap.get?_push_ne _ _ _ hbT).symm.trans q;exact hk b o b1 b2 q'
  refine⟨.ref s.heap.objs.size,_,I2,rfl,⟨s.heap.objs.size,x,hn,rfl,rfl,fun ys hy=>by rw[S.inj H ys xs hy hq];exact hx⟩,⟨⟨v,by simpa using he'⟩,S.keep _ h' h'' (h2 _ _ hs') fun o q=>hs''.extBut _ _ (Ne.symm hei) q⟩,fun b hb=>(stat b hb).1⟩
 done:=by
  intro X hP hw hK hc i pins s σ H E I hf st hg;subst hP hw hK;obtain⟨⟨old,he⟩,hi⟩:=st;obtain⟨xs,hq,hx⟩:=hg;have fe:=hf e (by simp);have fi:=hf it (by simp);obtain⟨fp,Pv,St,D,hef,h1,h2,h3⟩:=S.dr X rfl rfl rfl hc pins s σ H xs I fe.1 fi.1 hq;subst hx
  refine wpAny_pyNext_enum_endD D he (h1 _ hi) fun h' eb=>⟨rfl,?_⟩
  obtain⟨f0,f1,f2,f3,f4,f5⟩:=fi;exact I.turned (it:=it) (h':=h') (t':=s.toks) (fun b o hb q=>eb b o hb q) f0 f1 f3 f4 f5
 self:=fun A i s Q E st h=>by
  obtain⟨⟨old,he⟩,hi⟩:=st;exact wpAny_pyIter_enum he h
def src_list{P:Program}{w:World}{K:PySem.W.Frag}(hei:e≠it):Src P w K e it (fun H xs=>H l=some (.lst xs)) (fun i h=>h.IsListIter it l i) where
 obj:=fun i h st=>let ⟨o,ho,_,hd⟩:=st;⟨o,ho,fun v q=>by rw[hd]at q;cases q⟩
 keep:=fun i h h' st k=>st.at fun o q=>k o q
 inj:=fun H xs ys h1 h2=>by rw[h1]at h2;cases h2;rfl
 dr:=by
  intro X hP hw hK hc pins s σ H xs I he hi hx;subst hP hw hK;obtain⟨its,rv,p,hz⟩:=I.list (SqL.of hx)
  have hl:its.toArray.size=xs.length:=by rw[List.size_toArray,rv.length]
  have hh:X.A.in1.handled=none:=I.ok.hd.1 hc;have D:=Draws.list (prog:=X.prog) (w:=X.w) (A:=X.A.in1) hh it l (a5 hx hi) its.toArray;rw[hl]at D;refine⟨_,_,_,D,?_,fun i st=>⟨st,p.isList⟩,fun i h st=>st.1,fun i v hv=>?_⟩
  ·intro m;rcases List.mem_cons.mp m with q | m
   ·exact hei q
   ·exact(a5 hx he).symm (List.mem_singleton.mp m)
  ·have hv:its[i]?=some v:=by simpa using hv
   have hlt:i<xs.length:=by rw[rv.length];exact(List.getElem?_eq_some_iff.mp hv).1
   obtain⟨u,h1,h2⟩:=rv.get (i:=i) (x:=xs[i]) (by simp[hlt]);rw[hv]at h1;cases h1;exact⟨xs[i],by simp[hlt],h2⟩
def w4{P:Program}{w:World}{K:PySem.W.Frag}(TE:hV P w)(hei:e≠it):Src P w K e it (fun H xs=>H l=some (.tup xs)) (fun i h=>h.IsTupleIter it l i) where
 obj:=fun i h st=>let ⟨o,ho,_,hd⟩:=st;⟨o,ho,fun v q=>by rw[hd]at q;cases q⟩
 keep:=fun i h h' st k=>let ⟨o,ho,r⟩:=st;⟨o,k o ho,r⟩
 inj:=fun H xs ys h1 h2=>by rw[h1]at h2;cases h2;rfl
 dr:=by
  intro X hP hw hK hc pins s σ H xs I he hi hx;subst hP hw hK;obtain⟨its,rv,p,hz⟩:=I.tuple (SqT.of hx)
  have hl:its.toArray.size=xs.length:=by rw[List.size_toArray,rv.length]
  have hh:X.A.in1.handled=none:=I.ok.hd.1 hc;have D:=TE.draws (A:=X.A.in1) hh it l (a5 hx hi) its.toArray;rw[hl]at D;refine⟨_,_,_,D,?_,fun i st=>⟨st,p⟩,fun i h st=>st.1,fun i v hv=>?_⟩
  ·intro m;rcases List.mem_cons.mp m with q | m
   ·exact hei q
   ·exact(a5 hx he).symm (List.mem_singleton.mp m)
  ·have hv:its[i]?=some v:=by simpa using hv
   have hlt:i<xs.length:=by rw[rv.length];exact(List.getElem?_eq_some_iff.mp hv).1
   obtain⟨u,h1,h2⟩:=rv.get (i:=i) (x:=xs[i]) (by simp[hlt]);rw[hv]at h1;cases h1;exact⟨xs[i],by simp[hlt],h2⟩
abbrev fw(x:Str):List V:=x.cps.toList.map fun c=>.str ⟨#[c]⟩
def xC{P:Program}{w:World}{K:PySem.W.Frag}(hei:e≠it):Src P w K e it (fun _ xs=>xs=fw x) (fun i h=>h.IsStrIter it (strIterType x) x t i) where
 obj:=fun i h st=>let ⟨o,ho,_,hd⟩:=st;⟨o,ho,fun v q=>by rw[hd]at q;cases q⟩
 keep:=fun i h h' st k=>let ⟨o,ho,r⟩:=st;⟨o,k o ho,r⟩
 inj:=fun H xs ys h1 h2=>by rw[h1,h2]
 dr:=by
  intro X hP hw hK hc pins s σ H xs I he hi hx;subst hP hw hK hx;have hh:X.A.in1.handled=none:=I.ok.hd.1 hc
  have hl:x.cps.size=(fw x).length:=by simp[fw]
  have pv:∀ (i:Nat) (v:Value),(∃ c u,x.cps[i]?=some c/\v=Value.str ⟨#[c]⟩ u)->∃ y,(fw x)[i]?=some y/\RelV y v:=fun i v hv=>by
   obtain⟨c,u,h1,h2⟩:=hv;exact⟨.str ⟨#[c]⟩,by simp[fw,h1],u,h2⟩
  have ni:e∉[it]:=fun m=>hei (List.mem_singleton.mp m)
  cases ha:x.cps.all (·<128)with
  |true=>
   have ht:strIterType x = "str_ascii_iterator" := by simp[strIterType,ha]
   have D:=Draws.strAscii (prog:=X.prog) (w:=X.w) (A:=X.A.in1) hh it x t;rw[hl]at D;exact⟨_,_,_,D,ni,fun i st=>by rw[ht]at st;exact st,fun i h st=>by rw[ht];exact st,pv⟩
  |false=>
   have ht:strIterType x = "str_iterator" := by simp[strIterType,ha]
   have D:=Draws.strWide (prog:=X.prog) (w:=X.w) (A:=X.A.in1) hh it x t;rw[hl]at D;exact⟨_,_,_,D,ni,fun i st=>by rw[ht]at st;exact st,fun i h st=>by rw[ht];exact st,pv⟩
section
abbrev CB(ta:TA):TI:=fun σ H R=>ta σ H fun vs H1=>(∃ l xs,vs=[.ref l]/\H1 l=some (.lst xs)/\R (Ite fun H xs=>H l=some (.lst xs)) H1)\/(∃ l xs,vs=[.ref l]/\H1 l=some (.tup xs)/\R (Ite fun H xs=>H l=some (.tup xs)) H1) \/
 (∃ x,vs=[.str x]/\R (Ite fun _ xs=>xs=fw x) H1)
def jd(I:Inv X pins σ H s)(S:Src X.prog X.w X.K (s.heap.objs.size+1) s.heap.objs.size cont ia)
 (he:IsEnum g (s.heap.objs.size+1) s.heap.objs.size 0 .none)(hi:ia 0 g)(hk:∀ b o,s.heap.get? b=some o->g.get? b=some o)(q:R (Ite cont) H) :
  wpAny (model X.prog X.w) X.A (pyIter (.ref (s.heap.objs.size+1))) (PIE X pins σ (.Tuple elts kx tp) R) E { s with heap:=g }:=by
 refine wpAny_pyIter_enum he ⟨s.heap.objs.size+1,[s.heap.objs.size+1,s.heap.objs.size],_,_,H,rfl,I.kept (t':=s.toks) hk,sN (Nat.succ_ne_self _) S,⟨⟨.none,he⟩,hi⟩,fun b hb=>?_,q⟩
 have hb':s.heap.objs.size<=b:=by
  rcases List.mem_cons.mp hb with z | z
  ·rw[z];exact Nat.le_succ _
  ·rw[List.mem_singleton.mp z];exact Nat.le_refl _
 exact I.ki hb' (I.hok.fresh hb')
def xN(TE:hV X.prog X.w)(hg:Gl X "enumerate")(hm:X.mg "enumerate" = none)(ha:PA X [a] ta)(hs:starEach [a] X.env=[(false,eval a X.env)]):PI X (.Tuple elts kx tp) (.Call (.Name "enumerate" p) [a] [] pos) (CB ta):=by
 intro pins s σ H R I h;refine Call_ (dN I hg hm boot_enumerate (PyProof.Rows.callWith_type1 (thn (ha pos pins s σ H _ I h) fun us s1 ⟨vs,H1,I1,r1,q1⟩=>?_) hs rfl) (by decide) (by decide))
 rcases q1 with⟨l,xs,rfl,hx,q⟩ | ⟨l,xs,rfl,hx,q⟩ | ⟨x,rfl,q⟩
 ·obtain⟨u,rfl,ru⟩:=vals1 r1;cases ru;obtain⟨its,rv,pl,hz⟩:=I1.list (SqL.of hx);exact call_enumerate_list pl.isList fun g he hi hsz hk=>jd I1 (src_list (Nat.succ_ne_self _)) he hi hk q
 ·obtain⟨u,rfl,ru⟩:=vals1 r1;cases ru;obtain⟨its,rv,pl,hz⟩:=I1.tuple (SqT.of hx);exact TE.call pl fun g he hi hk=>jd I1 (w4 TE (Nat.succ_ne_self _)) he hi hk q
 ·obtain⟨u,rfl,ru⟩:=vals1 r1;obtain⟨t,rfl⟩:=ru;exact call_enumerate_str fun g he hi hsz hk=>jd I1 (xC (Nat.succ_ne_self _)) he hi hk q
end
end L2
namespace RS
open PySem PySem.Spec PyProof.Rows L2
def gB:∀ (ds:List RL.D) (k:Int),(RL.d5 k ds).length=ds.length
 | [],_=>rfl
 | d::r,k=>by rw[RL.d5,List.length_cons,List.length_cons,gB r]
def kH:∀ (ds:List RL.D) (k:Int) (i:Nat) (d:RL.D),(RL.d5 k ds)[i]?=some d->∃ e,ds[i]?=some e/\d=.tup [.int (k+i),e]
 | [],k,i,d,h=>by simp[RL.d5]at h
 | e::r,k,0,d,h=>by simp[RL.d5]at h;exact⟨e,rfl,by simp[h]⟩
 | e::r,k,i+1,d,h=>by
  rw[RL.d5,List.getElem?_cons_succ]at h;obtain⟨e',h1,h2⟩:=kH r (k+1) i d h;refine⟨e',by simpa using h1,?_⟩;rw[h2];congr 3;lia
def d9{K:PySem.W.Frag}(hc:∀ H',Off P H H'->cont H' xs)(hj:∀ H' ys,cont H' xs->cont H' ys->ys=xs)(r:aa nP K H ds xs)(hm:∀ b o,P b->H b=some o->bq o):eW K (Ite cont) (RL.d5 0 ds) P H where
 go:=fun H' i k hi=>by
  rw[gB]at hi;obtain⟨x,e,_⟩:=r.get (i:=i) (d:=ds[i]) (by simp[hi]);exact⟨xs,x,hc H' k,e⟩
 stop:=fun H' k=>⟨xs,hc H' k,by rw[gB,r.length]⟩
 yld:=fun H' i d v H2 k e y=>by
  obtain⟨p,x,hp,rfl,rfl,hx⟩:=y;obtain⟨e',h1,rfl⟩:=kH ds 0 i d e;obtain⟨x',h2,h3⟩:=r.get h1;rw[hx xs (hc H' k)]at h2;cases h2;refine⟨ao.aU hp,fun q=>?_⟩
  have re:Rep nP K H' e' x:=by
   rcases q with q | q
   ·have q:(true&&(e'.imm&&true))=true:=q;simp only[Bool.true_and,Bool.and_true]at q;exact cN hm k h3 q
   ·exact h3.same q
  rw[Rep];refine⟨p,[.int i,x],rfl,a8,aa.cons ?_ (aa.cons (re.same (ao.aU hp)) aa.nil)⟩;simpa using(aA (P:=nP) (K:=K) (H:=upd H' p (.tup [.int i,x])) (i:=(i:Int)))
def sR{P:Addr->Prop}{K:PySem.W.Frag}(h:RL.mQ d=some ds)(r:Rep P K H d v):(∃ p xs,v=.ref p/\H p=some (.lst xs)/\d=.lst ds/\aa P K H ds xs)\/(∃ p xs,v=.ref p/\H p=some (.tup xs)/\d=.tup ds/\aa P K H ds xs) \/
  (∃ x,v=.str x/\d=.str x/\ds=x.cps.toList.map fun c=>.str ⟨#[c]⟩):=by
 cases d<;>simp only[RL.mQ]at h<;>first | (cases h;done) | skip
 case lst ys=>cases h;obtain⟨p,xs,e1,_,e2,e3⟩:=au r;exact .inl ⟨p,xs,e1,e2,rfl,e3⟩
 case tup ys=>cases h;obtain⟨p,xs,e1,e2,e3⟩:=aD r;exact .inr (.inl ⟨p,xs,e1,e2,rfl,e3⟩)
 case str x=>cases h;exact .inr (.inr ⟨x,a9 r,rfl,rfl⟩)
def fQ{P:Addr->Prop}{K:PySem.W.Frag}:∀ (cs:List Nat),aa P K H (cs.map fun c=>RL.D.str ⟨#[c]⟩) (cs.map fun c=>V.str ⟨#[c]⟩)
 | []=>aa.nil
 | c::r=>aa.cons dD (fQ r)
section rules
def B4(TE:hV X.prog X.w)(hg:Gl X "enumerate")(hm:X.mg "enumerate" = none)(ha:SE X cl a a')(hn:noStar a=true):SI X cl (.Tuple elts kx tp) (.Call (.Name "enumerate" p) [a] [] pos) (.enm a'):=by
 intro pins s σ H R I h;obtain⟨σD,ds,rv,e,k⟩:=h;obtain⟨d,e1,e2⟩:=bind_some e;obtain⟨es,e3,e4⟩:=map_some e2;subst e4;have hpa:PA X [a] (jy (tE X.K cl a') pd):=b9 ha cB (ay [] hn);refine xN TE hg hm hpa (ay [] hn) pins s σ H R I ⟨σD,d,rv,e1,fun v H1 r1=>?_⟩
 rcases sR e3 r1.rep with⟨l,xs,rfl,hx,rfl,rs⟩ | ⟨l,xs,rfl,hx,rfl,rs⟩ | ⟨x,rfl,rfl,rfl⟩
 ·refine .inl ⟨l,xs,rfl,hx,k _ _ r1.same ⟨d9 (fun H' o=>o _ _ (fun z=>z) hx) (fun H' ys h1 h2=>by rw[h1]at h2;cases h2;rfl) rs dk,fun M P z hP av=>?_⟩⟩;exact d9 (fun H' o=>o _ _ (j6 r1 z hP av _ _ rfl rfl) hx) (fun H' ys h1 h2=>by rw[h1]at h2;cases h2;rfl) rs (bR r1.same hP)
 ·have np:∀ P:Addr->Prop,(∀ b o,P b->H1 b=some o->bq o)->¬ P l:=fun P hP q=>by rcases hP l _ q hx with⟨z,q⟩ | ⟨z,q⟩ | ⟨z,q⟩<;>cases q
  exact .inr (.inl ⟨l,xs,rfl,hx,k _ _ r1.same ⟨d9 (fun H' o=>o _ _ (np _ dk) hx) (fun H' ys h1 h2=>by rw[h1]at h2;cases h2;rfl) rs dk,fun M P z hP av=>d9 (fun H' o=>o _ _ (np P (bR r1.same hP)) hx) (fun H' ys h1 h2=>by rw[h1]at h2;cases h2;rfl) rs (bR r1.same hP)⟩⟩)
 ·exact .inr (.inr ⟨x,rfl,k _ _ r1.same ⟨d9 (fun H' o=>rfl) (fun H' ys h1 h2=>h2) (fQ _) dk,fun M P z hP av=>d9 (fun H' o=>rfl) (fun H' ys h1 h2=>h2) (fQ _) (bR r1.same hP)⟩⟩)
end rules
section rules
variable{X:Cx}
def xA{P:Addr->Prop}{K:PySem.W.Frag}(h:Rep P K H (.scr ds) v):∃ a xs,v=.ref a/\gO K H a xs/\aa P K H ds xs:=by rw[Rep]at h;exact h
def sk(n:Nat)(k:Int):HT.sIx n n (some k)=RL.cutAt n k:=by
 have h:=HT.gU k n n;unfold RL.cutAt;split at h
 ·rw[if_neg (by lia)];lia
 ·rw[if_pos (by lia)];lia
def yg(ha:SE X cl a a')(hb:SE X cl b b'):SE X cl (.Subscript a (.Slice none (some b) none p2) pos) (.slT a' b'):=by
 refine PE.weak (vx (SlR.or wO zA) ha xJ (wJ hb)) fun σ H Q h=>?_;obtain⟨σD,d,rv,e,k⟩:=h;obtain⟨x,ea,e⟩:=bind_some e;obtain⟨y,eb,e⟩:=bind_some e;refine⟨σD,x,rv,ea,fun v H1 r1=>⟨σD,y,rv.same r1.same,eb,fun u H2 r2=>?_⟩⟩;have rx:=r1.rep.same r2.same;have sm:=r1.same.trans r2.same
 cases y with
 |int n=>
  refine⟨n,ag r2.rep,?_⟩
  cases x with
  |lst xs=>
   cases e;obtain⟨q,ys,rfl,_,f2,f3⟩:=au rx;refine .inl ⟨q,ys,rfl,SqL.of f2,fun l hl=>?_⟩;unfold fP;rw[iP,<-f3.length];exact k _ _ (bf sm hl (f3.take _) fun _=>rfl)
  |scr xs=>
   cases e;obtain⟨q,ys,rfl,f2,f3⟩:=xA rx;refine .inl ⟨q,ys,rfl,f2.seq,fun l hl=>?_⟩;unfold fP;rw[iP,<-f3.length];exact k _ _ (bf sm hl (f3.take _) fun _=>rfl)
  |tup xs=>
   simp only[RL.nF]at e;split at e
   ·rename_i hz;cases e;obtain⟨q,ys,rfl,f2,f3⟩:=aD rx;refine .inr ⟨q,ys,rfl,SqT.of f2,fun z=>?_,fun l hl=>?_⟩
    ·rw[sk,<-f3.length]at z;lia
    ·unfold fP;rw[iP,<-f3.length];exact k _ _ (cP sm hl (f3.take _) fun _=>rfl)
   ·cases e
  | _=>cases e
 | _=>cases x<;>cases e
abbrev m3:RL.D->RL.D->Option (Option RL.D)
 | .dK ks vs,k=>(RL.keyOf k).map (RL.a4 ks vs)
 | .dT ks vs,.tup k=>(RL.keysOf k).map (RL.a4 ks vs)
 | .fT ks vs,.tup k=>(RL.keysOf k).map (RL.a4 ks vs)
 | _,_=>none
abbrev Ans(P:Addr->Prop)(K:PySem.W.Frag)(H:Hp):Option RL.D->Option V->Prop
 | some d,r=>∃ w,r=some w/\Rep P K H d w
 | none,r=>r=none
def cW{κ:Type} [DecidableEq κ]{P:Addr->Prop}{K:PySem.W.Frag}{H:Hp}{x:κ}:∀ {ks:List κ} {ds:List RL.D} {xs:List V},ks.length=ds.length->aa P K H ds xs ->
  Ans P K H (RL.a4 ks ds x) (cn (ks.zip xs) x)
 | [],ds,xs,hl,r=>by simp[RL.a4,cn,Ans]
 | k::ks,[],xs,hl,r=>by simp at hl
 | k::ks,d::ds,xs,hl,r=>by
  rw[aa]at r;obtain⟨v,t,rfl,r1,r2⟩:=r;by_cases hk:k=x
  ·have h1:RL.a4 (k::ks) (d::ds) x=some d:=by rw[RL.a4,if_pos hk]
   rw[h1];exact⟨v,by rw[List.zip_cons_cons];exact dR hk,r1⟩
  ·have ih:=cW (x:=x) (ks:=ks) (ds:=ds) (xs:=t) (by simpa using hl) r2
   have h1:RL.a4 (k::ks) (d::ds) x=RL.a4 ks ds x:=by rw[RL.a4,if_neg hk]
   rw[h1,List.zip_cons_cons,eh hk];exact ih
def iZ{P:Addr->Prop}{K:PySem.W.Frag}(h:RL.keyOf d=some k)(r:Rep P K H d v):v=kV k:=by
 cases d<;>simp only[RL.keyOf]at h<;>first | (cases h;done) | skip
 case int i=>cases h;exact ag r
 case str i=>cases h;exact a9 r
def c6{P:Addr->Prop}{K:PySem.W.Frag}:∀ {ds:List RL.D} {k:List RL.Ky} {xs:List V},RL.keysOf ds=some k->aa P K H ds xs->xs=k.map kV
 | [],k,xs,h,r=>by cases h;rw[aa]at r;exact r
 | d::ds,k,xs,h,r=>by
  rw[RL.keysOf]at h;obtain⟨k1,h1,h⟩:=bind_some h;obtain⟨k2,h2,h3⟩:=map_some h;subst h3;rw[aa]at r;obtain⟨v,t,rfl,r1,r2⟩:=r;rw[iZ h1 r1,c6 h2 r2];rfl
def jK{H:Hp}{y kx:RL.D}{v u:V}{o:Option RL.D}(ry:Rep nP X.K H y v)(rk:Rep nP X.K H kx u)(h:m3 y kx=some o) :
  ∃ q r,v=.ref q/\bU H q u r/\Ans nP X.K H o r/\∀ P:Addr->Prop,Rep P X.K H y v->Ans P X.K H o r:=by
 cases y with
 |dK ks vs=>
  obtain⟨k,h1,h2⟩:=map_some h;rw[Rep]at ry;obtain⟨q,xs,rfl,_,f2,fl,f3⟩:=ry;have lk:=cW (x:=k) fl f3;rw[h2]at lk;refine⟨q,_,rfl,by rw[iZ h1 rk];exact bU.k f2,lk,fun P r=>?_⟩;rw[Rep]at r;obtain⟨q2,xs2,e0,_,e2,el,e3⟩:=r;cases e0;rw[e2]at f2;have lk:=cW (x:=k) el e3
  have fe:ks.zip xs2=ks.zip xs:=by injection f2 with f2;injection f2
  rw[h2,fe]at lk;exact lk
 |dT ks vs=>
  cases kx with
  |tup kk=>
   obtain⟨k,h1,h2⟩:=map_some h;rw[Rep]at ry;obtain⟨q,xs,rfl,_,f2,fl,f3⟩:=ry;obtain⟨q',ys,rfl,g2,g3⟩:=aD rk;rw[c6 h1 g3]at g2;have lk:=cW (x:=k) fl f3;rw[h2]at lk;refine⟨q,_,rfl,bU.t f2 g2,lk,fun P r=>?_⟩;rw[Rep]at r;obtain⟨q2,xs2,e0,_,e2,el,e3⟩:=r;cases e0;rw[e2]at f2;have lk:=cW (x:=k) el e3
   have fe:ks.zip xs2=ks.zip xs:=by injection f2 with f2;injection f2
   rw[h2,fe]at lk;exact lk
  | _=>cases h
 |fT ks vs=>
  cases kx with
  |tup kk=>
   obtain⟨k,h1,h2⟩:=map_some h;rw[Rep]at ry;obtain⟨q,o,xs,rfl,f2,fl,f3⟩:=ry;obtain⟨q',ys,rfl,g2,g3⟩:=aD rk;rw[c6 h1 g3]at g2;have lk:=cW (x:=k) fl f3;rw[h2]at lk;refine⟨q,_,rfl,.inr ⟨ks.zip xs,k,q',.inr ⟨o,f2⟩,rfl,g2,rfl⟩,lk,fun P r=>?_⟩;rw[Rep]at r;obtain⟨q2,o2,xs2,e0,e2,el,e3⟩:=r;cases e0;rw[e2]at f2;have lk:=cW (x:=k) el e3
   have fe:ks.zip xs2=ks.zip xs:=by injection f2 with f2;injection f2 with _ f2;injection f2
   rw[h2,fe]at lk;exact lk
  | _=>cases h
 | _=>cases kx<;>cases h
def Av(h:RL.iS y kx=some d):m3 y kx=some (some d):=by
 cases y with
 | dK ks vs=>obtain⟨k,h1,h2⟩:=bind_some (show(RL.keyOf kx).bind (RL.a4 ks vs)=some d from h);show(RL.keyOf kx).map (RL.a4 ks vs)=_;rw[h1,Option.map_some,h2]
 |dT ks vs=>
  cases kx with
  | tup kk=>obtain⟨k,h1,h2⟩:=bind_some (show(RL.keysOf kk).bind (RL.a4 ks vs)=some d from h);show(RL.keysOf kk).map (RL.a4 ks vs)=_;rw[h1,Option.map_some,h2]
  | _=>cases h
 |fT ks vs=>
  cases kx with
  | tup kk=>obtain⟨k,h1,h2⟩:=bind_some (show(RL.keysOf kk).bind (RL.a4 ks vs)=some d from h);show(RL.keysOf kk).map (RL.a4 ks vs)=_;rw[h1,Option.map_some,h2]
  | _=>cases h
 | _=>cases kx<;>cases h
def yf(hu:X.A.units+100<cLine)(ha:SE X cl a a')(hb:SE X cl b b')(hs:qo b):SE X cl (.Subscript a b pos) (.ixD a' b'):=by
 refine PE.weak (xU (by lia) ha hb hs) fun σ H Q h=>?_;obtain⟨σD,d,rv,e,k⟩:=h;obtain⟨x,ea,e⟩:=bind_some e;obtain⟨y,eb,e⟩:=bind_some e;refine⟨σD,x,rv,ea,fun v H1 r1=>⟨σD,y,rv.same r1.same,eb,fun u H2 r2=>?_⟩⟩;obtain⟨q,r,rfl,g,⟨w,rfl,rw'⟩,av⟩:=jK (r1.rep.same r2.same) r2.rep (Av e);refine⟨q,w,rfl,g,k _ _ ⟨r1.same.trans r2.same,rw',fun z=>(by cases z),fun M z P hP hj=>?_⟩⟩;obtain⟨w2,e2,r3⟩:=av P ((r1.av M z P hP hj).same r2.same);cases e2;exact r3
def yE:SE X cl (.Dict [] [] pos) .dk0:=by
 refine PE.weak ug fun σ H Q h=>?_;obtain⟨σD,d,rv,e,k⟩:=h;cases e;intro q hq;refine k _ _ ⟨ao.aU hq,?_,fun _ _ a z=>(by cases z;exact hq),fun M z=>nomatch (show false=true from z)⟩;rw[Rep];exact⟨q,[],rfl,fun z=>z,a8,rfl,aa.nil⟩
def AX:SE X cl (.Dict [] [] pos) .dt0:=by
 refine PE.weak tF fun σ H Q h=>?_;obtain⟨σD,d,rv,e,k⟩:=h;cases e;intro q hq;refine k _ _ ⟨ao.aU hq,?_,fun _ _ a z=>(by cases z;exact hq),fun M z=>nomatch (show false=true from z)⟩;rw[Rep];exact⟨q,[],rfl,fun z=>z,a8,rfl,aa.nil⟩
end rules
section rules
variable{X:Cx}{st:Stmt}
def yN(hn:∀ ks ds,y≠.fT ks ds)(h:RL.my y kx=some k):∃ o,m3 y kx=some o/\k=o.isSome:=by
 cases y with
 | dK ks vs=>obtain⟨q,h1,h2⟩:=map_some (show(RL.keyOf kx).map _=some k from h);exact⟨RL.a4 ks vs q,by show(RL.keyOf kx).map _=_;rw[h1];rfl,h2.symm⟩
 |dT ks vs=>
  cases kx with
  | tup kk=>obtain⟨q,h1,h2⟩:=map_some (show(RL.keysOf kk).map _=some k from h);exact⟨RL.a4 ks vs q,by show(RL.keysOf kk).map _=_;rw[h1];rfl,h2.symm⟩
  | _=>cases h
 | fT ks ds=>exact absurd rfl (hn ks ds)
 | _=>cases kx<;>cases h
def Ans.isSome{P:Addr->Prop}{K:PySem.W.Frag}(h:Ans P K H o r):r.isSome=o.isSome:=by
 cases o with
 | none=>rw[show r=none from h];rfl
 | some d=>obtain⟨w,hw,_⟩:=h;rw[hw];rfl
def wt{κ:Type} [DecidableEq κ](kvs:List (κ × V))(k:κ):(cn kvs k).isSome=(kvs.map (·.1)).any fun x=>decide (x=k):=by
 induction kvs with
 | nil=>rfl
 |cons q r ih=>
  obtain⟨x,v⟩:=q;by_cases c:x=k
  ·rw[dR c,List.map_cons,List.any_cons,decide_eq_true c];rfl
  ·rw[eh c,ih,List.map_cons,List.any_cons,decide_eq_false c];rfl
def r0{H:Hp}{y kx:RL.D}{v u:V}(ry:Rep nP X.K H y v)(rk:Rep nP X.K H kx u)(h:RL.my y kx=some k):∃ q r,v=.ref q/\bU H q u r/\r.isSome=k:=by
 by_cases c:∃ ks ds,y=.fT ks ds
 ·obtain⟨ks,ds,rfl⟩:=c
  cases kx with
  |tup kk=>
   obtain⟨kq,h1,h2⟩:=map_some (show(RL.keysOf kk).map _=some k from h);rw[Rep]at ry;obtain⟨q,o,xs,rfl,f2,fl,f4⟩:=ry
   have f3:(ks.zip xs).map (·.1)=ks:=by rw[List.map_fst_zip];rw[fl,f4.length];exact Nat.le_refl _
   obtain⟨q',ys,rfl,g2,g3⟩:=aD rk;rw[c6 h1 g3]at g2;refine⟨q,_,rfl,.inr ⟨ks.zip xs,kq,q',.inr ⟨o,f2⟩,rfl,g2,rfl⟩,?_⟩;rw[wt,f3];exact h2
  | _=>cases h
 ·obtain⟨o,h1,h2⟩:=yN (fun ks ds z=>c ⟨ks,ds,z⟩) h;obtain⟨q,r,e,g,an,_⟩:=jK ry rk h1;exact⟨q,r,e,g,by rw[an.isSome,h2]⟩
abbrev v5(neg:Bool)(ty td:TE):TE:=if neg then oF ty td else As ty td
def nQ(hu:X.A.units+100<cLine)(ha:SE X cl a a')(hb:SE X cl b b'):PC X (if neg then .NotIn else .In) a b (v5 neg (tE X.K cl a') (tE X.K cl b')):=by
 cases neg with
 | true=>exact sD (by lia) ha hb
 | false=>exact Bx (by lia) ha hb
def sq(rv:RV0 X.K σD σ H)(e:RL.ev cl σD (.inD neg a' b')=some d)(k:∀ t H',d=.bl t->ao H H'->Q (.bl t) H'):v5 neg (tE X.K cl a') (tE X.K cl b') σ H Q:=by
 obtain⟨x,ea,e⟩:=bind_some e;obtain⟨y,eb,e⟩:=bind_some e;obtain⟨t,e1,e2⟩:=map_some e
 cases neg with
 |true=>
  refine two rv ea eb fun v u H1 H2 s1 s2 rx ry _ _=>?_;obtain⟨q,r,rfl,g,an⟩:=r0 ry rx e1;refine⟨q,r,rfl,g,k _ _ ?_ (s1.trans s2)⟩;rw[an,<-e2];rfl
 |false=>
  refine two rv ea eb fun v u H1 H2 s1 s2 rx ry _ _=>?_;obtain⟨q,r,rfl,g,an⟩:=r0 ry rx e1;refine⟨q,r,rfl,g,k _ _ ?_ (s1.trans s2)⟩;rw[an,<-e2];rfl
def yR(hu:X.A.units+100<cLine)(ha:SE X cl a a')(hb:SE X cl b b')(hm:p9 b=true):SE X cl (.Compare a [if neg then .NotIn else .In] [b] pos) (.inD neg a' b'):=by
 refine PE.weak (zf (nQ hu ha hb) (kN hm)) fun σ H Q h=>?_;obtain⟨σD,d,rv,e,q⟩:=h
 exact sq rv e fun t H' hd sm=>by subst hd;exact q _ _ (c5 sm)
def yv(hu:X.A.units+100<cLine)(ha:SE X cl a a')(hb:SE X cl b b')(hm:p9 b=true):ST X cl (.Compare a [if neg then .NotIn else .In] [b] pos) (.inD neg a' b'):=by
 refine PT.weak (A8 (nQ hu ha hb) (kN hm)) fun σ H Q h=>?_;obtain⟨σD,k,rv,e,q⟩:=h;obtain⟨d,e1,e2⟩:=bind_some e;refine sq rv e1 fun t H' hd sm=>?_;subst hd;cases e2;exact⟨_,rfl,q _ sm⟩
def oR{κ:Type} [DecidableEq κ]{x:κ}{d:RL.D}{v:V}{P:Addr->Prop}{K:PySem.W.Frag}{H:Hp}{ks:List κ}{ds:List RL.D}{xs:List V}(hl:ks.length=ds.length)(r:aa P K H ds xs)(rv:Rep P K H d v) :
  ∃ ys,putK (ks.zip xs) x v=(RL.putD ks ds x d).1.zip ys/\(RL.putD ks ds x d).1.length=(RL.putD ks ds x d).2.length/\aa P K H (RL.putD ks ds x d).2 ys:=by
 have hx:ks.length=xs.length:=hl.trans r.length
 have any:∀ (ks:List κ) (xs:List V),ks.length=xs.length->((ks.zip xs).any fun kv=>decide (kv.1=x))=decide (x∈ks):=by
  intro ks
  induction ks with
  | nil=>intro xs _;simp
  |cons k r ih=>
   intro xs h
   cases xs with
   | nil=>simp at h
   |cons y t=>
    rw[List.zip_cons_cons,List.any_cons,ih t (by simpa using h)];by_cases hk:k=x
    ·simp[hk]
    ·simp[hk,Ne.symm hk]
 unfold putK RL.putD;rw[any ks xs hx];by_cases hm:x∈ks
 ·rw[if_pos (by simpa using hm),if_pos hm];refine⟨List.zipWith (fun k w=>if k=x then v else w) ks xs,?_,?_,?_⟩
  ·clear any hm hl r
   induction ks generalizing xs with
   | nil=>simp
   |cons k t ih=>
    cases xs with
    | nil=>simp at hx
    |cons y t'=>
     rw[List.zip_cons_cons,List.map_cons,List.zipWith_cons_cons,List.zip_cons_cons,ih (by simpa using hx)];by_cases hk:k=x<;>simp[hk]
  ·rw[List.length_zipWith,hl,Nat.min_self]
  ·clear any hm hx
   induction ks generalizing ds xs with
   | nil=>simpa using aa.nil
   |cons k t ih=>
    cases ds with
    | nil=>simp at hl
    |cons d0 ds=>
     rw[aa]at r;obtain⟨y,t',rfl,r1,r2⟩:=r;rw[List.zipWith_cons_cons,List.zipWith_cons_cons];refine aa.cons ?_ (ih (by simpa using hl) r2);by_cases hk:k=x
     ·rw[if_pos hk,if_pos hk];exact rv
     ·rw[if_neg hk,if_neg hk];exact r1
 ·rw[if_neg (by simpa using hm),if_neg hm];refine⟨xs++[v],?_,by simp[hl],aa.append r (aa.cons rv aa.nil)⟩;rw[List.zip_append hx];rfl
def qv [DecidableEq κ](hd:d.imm=true):∀ {ks:List κ} {ds:List RL.D},RL.ah ds=true->RL.ah (RL.putD ks ds x d).2=true:=by
 have app:∀ l:List RL.D,RL.ah l=true->RL.ah (l++[d])=true:=fun l=>by
  induction l with
  | nil=>intro _;simp[RL.ah,hd]
  | cons z r ih=>intro h;rw[RL.ah,Bool.and_eq_true]at h;rw[List.cons_append,RL.ah,h.1,ih h.2];rfl
 have zw:∀ (ks:List κ) (ds:List RL.D),RL.ah ds=true->RL.ah (List.zipWith (fun k w=>if k=x then d else w) ks ds)=true:=fun ks=>by
  induction ks with
  | nil=>intro ds _;simp[RL.ah]
  |cons k r ih=>
   intro ds h
   cases ds with
   | nil=>simp[RL.ah]
   |cons y t=>
    rw[RL.ah,Bool.and_eq_true]at h;rw[List.zipWith_cons_cons,RL.ah,ih t h.2,Bool.and_true];by_cases hk:k=x
    ·rw[if_pos hk];exact hd
    ·rw[if_neg hk];exact h.1
 intro ks ds h;unfold RL.putD;split
 ·exact zw ks ds h
 ·exact app ds h
def xD(h:PS X st (pI (gN i) (tE X.K cl k') (tE X.K cl e')))(hi:M.contains i=true):PS X st (tS X.K M fun σD=>(RL.ev cl σD e').bind fun d=>(RL.ev cl σD k').bind fun kk=>((σD[i]?).bind id).bind fun l=>match l with
  | .lst _=>none
  | _=>if d.imm then(RL.dG l kk d).map fun l'=>(.nx,σD.set i (some l'))else none):=by
 refine PS.weak h fun D σ H h=>?_;obtain⟨σD,o,σD',rv,e,k⟩:=h;obtain⟨d,e1,e⟩:=bind_some e;obtain⟨kk,e2,e⟩:=bind_some e;obtain⟨l,e3,e⟩:=bind_some e;obtain⟨v,h1,h2⟩:=rv.val i _ (slot_get e3);rw[if_pos hi]at h2;obtain⟨q1,q2,q3⟩:=h2
 cases l with
 |dK ks ds=>
  dsimp only at e;split at e
  ·rename_i him;obtain⟨l',e4,e5⟩:=map_some e;cases e5;obtain⟨kx,e6,e7⟩:=bind_some (show(RL.keyOf kk).bind _=some l' from e4);split at e7
   ·rename_i hz;cases e7;rw[Rep]at q3;obtain⟨q,xs,rfl,_,f2,fl,f3⟩:=q3;refine⟨σD,d,rv.rv0,e1,fun y H1 r1=>⟨.ref q,h1,σD,kk,rv.rv0.same r1.same,e2,fun u H2 r2=>?_⟩⟩;have sm:=r1.same.trans r2.same;obtain⟨ys,p1,p2,p3⟩:=oR (x:=kx) fl (f3.same sm) (r1.rep.same r2.same)
    have hlen:(ks.zip xs).length<sizeLine:=by
     rw[List.length_zip,<-f3.length,fl,Nat.min_self,<-fl];exact Nat.lt_of_lt_of_le hz aX
    refine⟨q,_,rfl,by rw[iZ e6 r2.rep];exact gP.k (sm _ _ f2) hlen,?_⟩;have im:=qv (x:=kx) him (ks:=ks) q2
    obtain⟨g1,g2⟩:=(rv.same sm).gQ (d':=.dK (RL.putD ks ds kx d).1 (RL.putD ks ds kx d).2) (o':=.dK (putK (ks.zip xs) kx y)) hi h1 (sm _ _ f2) (.inr (.inl ⟨_,rfl⟩)) ⟨rfl,im,by
     rw[Rep]
     exact⟨q,ys,rfl,fun z=>z,by rw[a8,p1],p2,(aa.upd (P:=fun p=>p=q) (sm _ _ f2) (.inr (.inl ⟨_,rfl⟩)) rfl (p3.imm im)).imm im⟩⟩
    exact k _ _ g1 ((Fr'.same sm).trans g2)
   ·cases e7
  ·cases e
 |dT ks ds=>
  dsimp only at e;split at e
  ·rename_i him;obtain⟨l',e4,e5⟩:=map_some e;cases e5
   cases kk with
   |tup kt=>
    obtain⟨kx,e6,e7⟩:=bind_some (show(RL.keysOf kt).bind _=some l' from e4);split at e7
    ·rename_i hz;cases e7;rw[Rep]at q3;obtain⟨q,xs,rfl,_,f2,fl,f3⟩:=q3;refine⟨σD,d,rv.rv0,e1,fun y H1 r1=>⟨.ref q,h1,σD,.tup kt,rv.rv0.same r1.same,e2,fun u H2 r2=>?_⟩⟩;have sm:=r1.same.trans r2.same;obtain⟨ys,p1,p2,p3⟩:=oR (x:=kx) fl (f3.same sm) (r1.rep.same r2.same)
     have hlen:(ks.zip xs).length<sizeLine:=by
      rw[List.length_zip,<-f3.length,fl,Nat.min_self,<-fl];exact Nat.lt_of_lt_of_le hz aX
     obtain⟨b,ws,rfl,g2,g3⟩:=aD r2.rep;rw[c6 e6 g3]at g2;refine⟨q,_,rfl,gP.t (sm _ _ f2) g2 hlen,?_⟩;have im:=qv (x:=kx) him (ks:=ks) q2
     obtain⟨g1,g2⟩:=(rv.same sm).gQ (d':=.dT (RL.putD ks ds kx d).1 (RL.putD ks ds kx d).2) (o':=.dT (putK (ks.zip xs) kx y)) hi h1 (sm _ _ f2) (.inr (.inr ⟨_,rfl⟩)) ⟨rfl,im,by
      rw[Rep]
      exact⟨q,ys,rfl,fun z=>z,by rw[a8,p1],p2,(aa.upd (P:=fun p=>p=q) (sm _ _ f2) (.inr (.inr ⟨_,rfl⟩)) rfl (p3.imm im)).imm im⟩⟩
     exact k _ _ g1 ((Fr'.same sm).trans g2)
    ·cases e7
   | _=>cases e4
  ·cases e
 | lst _=>cases e
 | _=>cases q1
end rules
end RS
namespace L2
open PySem PySem.Spec PyProof.Rows
end L2
namespace RS
open PySem PySem.Spec PyProof.Rows L2
section rules
variable{st:Stmt}
end rules
abbrev mK(p:Addr)(a b c:Int):HO:=.ext fun h=>∃ t u v,IsRange h p a b c t u v
def lY(a b c:Int):0<=Builtin.Range.rangeSize a b c:=by
 unfold Builtin.Range.rangeSize;split
 ·split
  ·have:=Int.ediv_nonneg (a:=b-a-1) (b:=c) (by lia) (by lia);omega
  ·lia
 ·split
  ·by_cases h0:c=0
   ·subst h0;simp
   ·have:=Int.ediv_nonneg (a:=a-b-1) (b:=-c) (by lia) (by lia);omega
  ·lia
def uw(a b c:Int):Builtin.Range.rangeSize a b c<=(if a<b then b-a else a-b)+1:=by
 unfold Builtin.Range.rangeSize;split
 ·split
  ·have:=Int.ediv_le_self (a:=b-a-1) c (by lia);lia
  ·lia
 ·split
  ·have:=Int.ediv_le_self (a:=a-b-1) (-c) (by lia);split<;>omega
  ·split<;>lia
def kO(a b c:Int):(RL.bQ c a b:Int)=Builtin.Range.rangeSize a b c:=Int.toNat_of_nonneg (lY a b c)
def kn(ha:-(2 ^ 60)<=a)(ha':a<2 ^ 60)(hb:-(2 ^ 60)<=b)(hb':b<2 ^ 60)(hc:-(2 ^ 60)<=c)(hc':c<2 ^ 60):Builtin.Range.small a b c=true:=by
 have h1:=lY a b c;have h2:=uw a b c;unfold Builtin.Range.small;simp only[Builtin.Range.rangeFitsLong,Bool.and_eq_true,Bool.or_eq_true,decide_eq_true_eq,beq_iff_eq];refine⟨⟨⟨⟨?_,?_⟩,?_⟩,?_⟩,.inr ?_⟩
 ·lia
 ·lia
 ·lia
 ·split at h2<;>lia
 ·split<;>(rw[Bool.and_eq_true,decide_eq_true_eq,decide_eq_true_eq];lia)
section
variable{X:Cx}
abbrev mT(xs:List V)(a b c:Int):Prop:=(xs=[.int b]/\a=0/\c=1)\/(xs=[.int a,.int b]/\c=1)\/(xs=[.int a,.int b,.int c]/\c≠0/\c.natAbs<2 ^ 60)
def iO{pins:List (Addr × Obj)}{σ:L2.St}{H:Hp}{s:Shared}{a b c:Int}{t u v:Tok}{tk:Nat}(I:Inv X pins σ H s):Inv X pins σ (upd H s.heap.objs.size (mK s.heap.objs.size a b c)) { s with heap:=s.heap.push { cls:=.type "range",data:=.fields #[.int a t,.int b u,.int c v] },toks:=tk } :=
 I.laid (fun b u e=>Heap.get?_push_of_some _ e) (Nat.le_refl _) ⟨⟨t,u,v,IsRange.new _ a b c t u v⟩,⟨_,Heap.get?_push_size _ rfl⟩,fun h1 h2 ⟨t,u,v,e⟩ k=>⟨t,u,v,k _ e⟩⟩
def mV:aH X (.type "range") (fun xs H Q=>∃ a b c,mT xs a b c/\∀ p,H p=none->Q (.ref p) (upd H p (mK p a b c))):=by
 intro pins s σ H xs us Q I r h;obtain⟨a,b,c,ha,q⟩:=h;have hf:H s.heap.objs.size=none:=I.hok.fresh (Nat.le_refl _)
 rcases ha with⟨rfl,rfl,rfl⟩ | ⟨rfl,rfl⟩ | ⟨rfl,hc,hc2⟩
 ·cases r with
  |cons r rr=>
   cases rr;obtain⟨t,rfl⟩:=r;exact call_range_1 ⟨.ref _,_,iO I,rfl,q _ hf⟩
 ·cases r with
  |cons r rr=>
   cases rr with
   |cons r2 rr=>
    cases rr;obtain⟨t,rfl⟩:=r;obtain⟨t2,rfl⟩:=r2;exact call_range_2 ⟨.ref _,_,iO I,rfl,q _ hf⟩
 ·cases r with
  |cons r rr=>
   cases rr with
   |cons r2 rr=>
    cases rr with
    |cons r3 rr=>
     cases rr;obtain⟨t,rfl⟩:=r;obtain⟨t2,rfl⟩:=r2;obtain⟨t3,rfl⟩:=r3;refine call_range_3 hc ⟨.ref _,_,iO I,rfl,q _ hf⟩ (.inl (PyProof.noPylong_of_log2 ?_));have:c.natAbs.log2<60:=(Nat.log2_lt (by lia)).mpr hc2;lia
abbrev bH(a c:Int)(n:Nat):List V:=(List.range n).map fun(i:Nat)=>V.int (a+(i:Int)*c)
def wz{a c:Int}{n:Nat}{acc:Array Value}(hI:ItemsOf (fun i v=>∃ t,v=.int (a+i*c) t) acc n):Vals (bH a c n) acc.toList:=by
 have len:(bH a c (n)).length=acc.toList.length:=by
  simp only[bH,List.length_map,List.length_range,Array.length_toList,hI.1]
 have gen:∀ (xs:List V) (us:List Value),xs.length=us.length->(∀ (i:Nat) u,us[i]?=some u->∃ x,xs[i]?=some x/\RelV x u)->Vals xs us:=by
  intro xs
  induction xs with
  | nil=>intro us h _;cases us with
   | nil=>exact .nil
   | cons _ _=>cases h
  | cons x r ih=>intro us h g;cases us with
   | nil=>cases h
   |cons u us=>
    obtain⟨x',e1,e2⟩:=g 0 u rfl;cases e1
    exact .cons e2 (ih us (by simpa using h) fun i u hu=>by
     obtain⟨y,e3,e4⟩:=g (i+1) u (by simpa using hu)
     exact⟨y,by simpa using e3,e4⟩)
 refine gen _ _ len fun i u hu=>?_
 have hu':acc[i]?=some u:=by simpa using hu
 obtain⟨tk,rfl⟩:=hI.2 i u hu'
 have hi:i<n:=by
  have:=(Array.getElem?_eq_some_iff.mp hu').1;rw[hI.1]at this;exact this
 exact⟨.int (a+(i:Int)*c),by simp[bH,hi],tk,rfl⟩
def gp(hc:X.calm=true):aH X (.type "list") (fun xs H Q=>∃ p a b c,xs=[.ref p]/\H p=some (mK p a b c)/\Builtin.Range.small a b c=true/\RL.bQ c a b<=RL.most /\
  ∀ l,H l=none->Q (.ref l) (upd H l (.lst (bH a c (RL.bQ c a b))))):=by
 intro pins s σ H xs us Q I r h;obtain⟨p,a,b,c,rfl,hp,hs,hn,q⟩:=h
 cases r with
 |cons r rr=>
  cases rr;cases r;obtain⟨⟨t,u,v,hR⟩,_,_⟩:=I.hok p _ hp;refine call_list_range (I.ok.hd.1 hc) hR hs (kO a b c).symm (Nat.le_trans hn (by decide)) fun h' tk acc c' hk hS hI=>?_;have hf:H s.heap.objs.size=none:=I.hok.fresh (Nat.le_refl _);refine⟨.ref s.heap.objs.size,upd H s.heap.objs.size (.lst (bH a c (RL.bQ c a b))),I.laid hk (Nat.le_refl _) (show _/\_ from⟨?_,acc.toList,c',?_,?_⟩),rfl,q _ hf⟩
  ·simp only[bH,List.length_map,List.length_range];exact Nat.le_trans hn aX
  ·exact wz hI
  ·rw[Array.toArray_toList];exact hS
def kC{P:Addr->Prop}{K:PySem.W.Frag}:∀ (n:Nat) (a c:Int),aa P K H (RL.dH c a n) (bH a c n)
 | 0,a,c=>aa.nil
 | n+1,a,c=>by
  have e:bH a c (n+1)=V.int a::bH (a+c) c n:=by
   simp only[bH,List.range_succ_eq_map,List.map_cons,List.map_map];congr 1
   ·simp
   ·apply List.map_congr_left;intro i _;show V.int (a+((i+1:Nat):Int)*c)=V.int (a+c+(i:Int)*c);congr 1;rw[show((i+1:Nat):Int)=(i:Int)+1 by lia,Int.add_mul];lia
  rw[RL.dH,e];exact aa.cons aA (kC n (a+c) c)
def iL:∀ (n:Nat) (a:Int),RL.bu a n=RL.dH 1 a n
 | 0,_=>rfl
 | n+1,a=>by rw[RL.bu,RL.dH,iL n]
def d8(a b:Int):RL.bQ 1 a b=(b-a).toNat:=by
 have h:=kO a b 1;rw[rangeSize_one]at h;split at h<;>lia
def rN{σD:RL.St}{σ:L2.St}{H H1:Hp}{e:RL.E}{Q:VK}{vs:List V}{a b c:Int}{ds:List RL.D}(hv:mT vs a b c)(hd:ds=RL.dH c a (RL.bQ c a b))(hn:RL.bQ c a b<=RL.most)(hs:Builtin.Range.small a b c=true)(sm:ao H H1)
 (hav:∀ M,RL.avE M e=false)(k:∀ v H',Res X.K σD σ H e (.lst ds) v H'->Q v H') :
  ∃ a b c,mT vs a b c/\∀ p,H1 p=none->(fun xs H Q=>∃ p a b c,xs=[V.ref p]/\H p=some (mK p a b c)/\Builtin.Range.small a b c=true/\RL.bQ c a b<=RL.most/\∀ l,H l=none->Q (.ref l) (upd H l (.lst (bH a c (RL.bQ c a b))))) [.ref p] (upd H1 p (mK p a b c)) Q:=by
 refine⟨a,b,c,hv,fun p hp=>⟨p,a,b,c,rfl,a8,hs,hn,fun l hl=>k _ _ ?_⟩⟩;subst hd;exact bf (sm.trans (ao.aU hp)) hl (kC _ _ _) hav
def wR(hc:X.calm=true)(hgl:Gl X "list")(hml:X.mg "list" = none)(hg:Gl X "range")(hm:X.mg "range" = none)(ha:SE X cl a a')(hn:noStar a=true){p2 pos2:Pos}:SE X cl (.Call (.Name "list" p2) [.Call (.Name "range" p) [a] [] pos] [] pos2) (.rng1 a'):=by
 refine PE.weak (bC (gp hc) hgl hml (by decide +kernel) (b9 (bC mV hg hm boot_range (aR (cl:=cl) ha bp hn) (by decide) (by decide) (ay [] hn) rfl) cB rfl) (by decide) (by decide) rfl rfl) fun σ H Q h=>?_;obtain⟨σD,d,rv,e,k⟩:=h;obtain⟨x,ea,e⟩:=bind_some e;obtain⟨ds,e1,e2⟩:=map_some e;subst e2;obtain⟨i,j,e3,rfl,hb,hm2,rfl⟩:=jv e1;cases e3
 have hb2:-(2 ^ 60)<=j/\j<2 ^ 60:=by
  simp only[RL.ck]at e1;split at e1
  ·lia
  ·cases e1
 refine one rv ea fun v H1 s1 r1=>?_;exact rN (a:=0) (b:=j) (c:=1) (.inl ⟨by rw[ag r1],rfl,rfl⟩) (by rw[iL,d8]) (by rw[d8];exact hm2) (kn (by decide) (by decide) hb2.1 hb2.2 (by decide) (by decide)) s1 (fun _=>rfl) k
def xX(hc:X.calm=true)(hgl:Gl X "list")(hml:X.mg "list" = none)(hg:Gl X "range")(hm:X.mg "range" = none)(ha:SE X cl a a')(hb:SE X cl b b')(hn:noStar a=true)(hn2:noStar b=true){p2 pos2:Pos}:SE X cl (.Call (.Name "list" p2) [.Call (.Name "range" p) [a,b] [] pos] [] pos2) (.rng2 a' b'):=by
 refine PE.weak (bC (gp hc) hgl hml (by decide +kernel) (b9 (bC mV hg hm boot_range (aR (cl:=cl) ha (aR hb bp hn2) hn) (by decide) (by decide) (ay _ hn) (fU (by simp[hn2]))) cB rfl) (by decide) (by decide) rfl rfl) fun σ H Q h=>?_;obtain⟨σD,d,rv,e,k⟩:=h;obtain⟨x,ea,e⟩:=bind_some e;obtain⟨y,eb,e⟩:=bind_some e;obtain⟨ds,e1,e2⟩:=map_some e;subst e2;obtain⟨i,j,rfl,rfl,hb,hm2,rfl⟩:=jv e1
 have hb2:(-(2 ^ 60)<=i/\i<2 ^ 60)/\-(2 ^ 60)<=j/\j<2 ^ 60:=by
  simp only[RL.ck]at e1;split at e1
  ·lia
  ·cases e1
 refine pair rv ea eb fun v u H1 s1 r1 r2=>?_;exact rN (a:=i) (b:=j) (c:=1) (.inr (.inl ⟨by rw[ag r1,ag r2],rfl⟩)) (by rw[iL,d8]) (by rw[d8];exact hm2) (kn hb2.1.1 hb2.1.2 hb2.2.1 hb2.2.2 (by decide) (by decide)) s1 (fun _=>rfl) k
abbrev lr(c:Int):Expr->Bool
 | .Constant (.int i) _ _=>i == c
 | .UnaryOp .USub (.Constant (.int i) _ _) _=>-i == c
 | _=>false
def xI(h:lr c e=true):PE X e (tC (.int c))/\noStar e=true:=by
 unfold lr at h;split at h
 ·rw[beq_iff_eq]at h;subst h;exact⟨mq,rfl⟩
 ·rw[beq_iff_eq]at h;subst h;exact⟨PE.weak (vD qK mq) fun σ H Q q=>⟨_,rfl,q⟩,rfl⟩
 ·cases h
def we(hl:SE X cl l e'):SI X cl tg l (.seq e'):=by
 refine PI.weak (Bh (cl:=cl) hl trivial) fun σ H R h=>?_;obtain⟨σD,ds,rv,e,k⟩:=h;obtain⟨d,e1,e2⟩:=bind_some e;exact⟨σD,d,ds,rv,e1,e2,k⟩
def zt(ha:SE X cl a a'):SE X cl (.UnaryOp .USub a pos) (.neg a'):=by
 refine PE.weak (vD qK ha) fun σ H Q h=>?_;obtain⟨σD,d,rv,e,k⟩:=h;obtain⟨x,ea,e⟩:=bind_some e
 cases x with
 | int i=>cases e;exact⟨σD,_,rv,ea,fun v H1 r1=>⟨i,ag r1.rep,k _ _ (bh r1.same aA rfl)⟩⟩
 | _=>cases e
end
abbrev mAt(mp:List Nat)(vs:List V):Addr->Prop:=fun a=>∃ p,p∈mp/\vs[p]?=some (.ref a)
structure zH(K:PySem.W.Frag)(mp:List Nat)(ds:List RL.D)(vs:List V)(H:Hp):Prop where
 gH:aa nP K H ds vs
 own:∀ p∈mp,∃ d a,ds[p]?=some d/\vs[p]?=some (.ref a)/\Own K H d (.ref a)
 sep:∀ p∈mp,∀ q∈mp,∀ a,vs[p]?=some (.ref a)->vs[q]?=some (.ref a)->p=q
 oth:∀ (q:Nat) d v,q∉mp->ds[q]?=some d->vs[q]?=some v->Rep (mAt mp vs) K H d v
structure DG(K:PySem.W.Frag)(mp:List Nat)(outs:List RL.D)(vs:List V)(H:Hp):Prop where
 len:outs.length=mp.length
 own:∀ (k p:Nat) o,mp[k]?=some p->outs[k]?=some o->∃ a,vs[p]?=some (.ref a)/\Own K H o (.ref a)
abbrev spM(K:PySem.W.Frag)(cl:RL.Cl)(mp:List Nat)(f:Nat):Sp:=fun vs H Q _=>∃ ds d outs,cl f ds=some (.tup (d::outs))/\zH K mp ds vs H/\∀ v H',Off (mAt mp vs) H H'->Rep nP K H' d v->d.imm=true->DG K mp outs vs H'->Q v H'
abbrev lN(K:PySem.W.Frag)(cl:RL.Cl):RL.E->TE
 | .var j=>gN j
 | e=>tE K cl e
abbrev fJ(K:PySem.W.Frag)(cl:RL.Cl):RL.Es->TA
 | .nil=>pd
 | .cons e es=>jy (lN K cl e) (fJ K cl es)
abbrev bw(K:PySem.W.Frag)(M:List Nat)(σ:L2.St)(ps:List Nat)(H:Hp):Nat->RL.Es->List RL.D->List V->Prop
 | _,.nil,[],[]=>True
 | q,.cons e es,d::ds,v::vs=>Rep nP K H d v/\(if ps.contains q=true then ∃ j,e=.var j/\σ[j]?=some (some v)else Rep (aE M σ) K H d v)/\bw K M σ ps H (q+1) es ds vs
 | _,_,_,_=>False
section
variable{K:PySem.W.Frag}
def rD(e:RL.ev cl σD (.var j)=some d):σD[j]?=some (some d):=by
 exact slot_get e
def yD(rv:RVm K M σD σ H)(r1:Res K σD σ H e' d v H1)(ok:RL.b8 M e' d=true):Rep (aE M σ) K H1 d v:=by
 unfold RL.b8 at ok;rw[Bool.or_eq_true,Bool.or_eq_true,Bool.and_eq_true]at ok;rcases ok with(q | ⟨q1,q2⟩) | q
 ·exact r1.rep.imm q
 ·have rp:=r1.rep;have fr:gd d=true->∀ a,v=.ref a->¬ aE M σ a:=fun m a z p=>rv.kg a p (r1.fresh q2 m a z)
  cases d with
  | lst ds=>obtain⟨a,xs,e1,e0,e2,e3⟩:=au rp;rw[Rep];exact⟨a,xs,e1,fr rfl a e1,e2,e3.imm q1⟩
  | dK ks ds=>rw[Rep]at rp ⊢;obtain⟨a,xs,e1,e0,e2,el,e3⟩:=rp;exact⟨a,xs,e1,fr rfl a e1,e2,el,e3.imm q1⟩
  | dT ks ds=>rw[Rep]at rp ⊢;obtain⟨a,xs,e1,e0,e2,el,e3⟩:=rp;exact⟨a,xs,e1,fr rfl a e1,e2,el,e3.imm q1⟩
  | _=>cases q1
 ·refine r1.av M q _ rv.kg fun j dj vj hj h1 h2=>?_;obtain⟨v',h3,h4⟩:=rv.val j dj h1;rw[h2]at h3;cases h3;rw[if_neg (by rw[hj];decide)]at h4;exact h4
def wG{e:RL.E}{d:RL.D}{ps:List Nat}(rv:RVm K M σD σ H)(he:RL.ev cl σD e=some d)(ok:(if ps.contains q=true then RL.isVar e else RL.b8 M e d)=true)
 (k:∀ v H1,ao H H1->Rep nP K H1 d v->(if ps.contains q=true then ∃ j,e=.var j/\σ[j]?=some (some v)else Rep (aE M σ) K H1 d v)->R v H1):lN K cl e σ H R:=by
 have other:lN K cl e=tE K cl e->ps.contains q=false->lN K cl e σ H R:=fun z hq=>by
  rw[z];rw[if_neg (by rw[hq];decide)]at ok;refine⟨σD,d,rv.rv0,he,fun v H1 r1=>k v H1 r1.same r1.rep ?_⟩;rw[if_neg (by rw[hq];decide)];exact yD rv r1 ok
 cases e with
 |var j=>
  have hj:=rD he;obtain⟨v,h1,h2⟩:=rv.val j d hj;refine⟨v,h1,k v H (ao.refl H) ?_ ?_⟩
  ·obtain⟨v',h3,h4⟩:=rv.rv0.2 j d hj;rw[h1]at h3;cases h3;exact h4
  ·by_cases hq:ps.contains q=true
   ·rw[if_pos hq];exact⟨j,rfl,h1⟩
   ·rw[if_neg hq]at ok ⊢;by_cases hm:M.contains j=true
    ·rw[if_pos hm]at h2
     have im:d.imm=true:=by
      unfold RL.b8 at ok;rw[Bool.or_eq_true,Bool.or_eq_true,Bool.and_eq_true]at ok;rcases ok with(z | ⟨_,z⟩) | z
      ·exact z
      ·cases z
      ·rw[RL.AG,hm]at z;cases z
     exact h2.2.2.imm im
    ·rw[if_neg hm]at h2;exact h2
 |_=>
  refine other rfl ?_
  cases hq:ps.contains q with
  | false=>rfl
  |true=>
   rw[if_pos hq]at ok;cases ok
def l9:∀ {es:RL.Es} {q:Nat} {ds:List RL.D} {H:Hp} {R:List V->Hp->Prop},RVm K M σD σ H->RL.evs cl σD es=some ds->RL.gR M ps q es ds=true ->
  (∀ vs H1,ao H H1->bw K M σ ps H1 q es ds vs->R vs H1)->fJ K cl es σ H R
 | .nil,q,ds,H,R,rv,he,ok,k=>by
  cases he;exact k [] H (ao.refl H) (by rw[bw];trivial)
 | .cons e es,q,ds,H,R,rv,he,ok,k=>by
  obtain⟨d,e1,he⟩:=bind_some he;obtain⟨ds',e2,e3⟩:=map_some he;subst e3;rw[RL.gR,Bool.and_eq_true]at ok;refine wG rv e1 ok.1 fun v H1 s1 r1 x1=>?_;refine l9 (rv.same s1) e2 ok.2 fun vs H2 s2 r2=>k (v::vs) H2 (s1.trans s2) ?_;rw[bw];refine⟨r1.same s2,?_,r2⟩;by_cases hq:ps.contains q=true
  ·rw[if_pos hq]at x1 ⊢;exact x1
  ·rw[if_neg hq]at x1 ⊢;exact x1.same s2
abbrev hZ:RL.Es->Nat->Option RL.E
 | .nil,_=>none
 | .cons e _,0=>some e
 | .cons _ es,n+1=>hZ es n
def bw.gH:∀ {q:Nat} {es:RL.Es} {ds:List RL.D} {vs:List V},bw K M σ ps H q es ds vs->aa nP K H ds vs
 | _,.nil,[],[],h=>aa.nil
 | q,.cons e es,d::ds,v::vs,h=>by
  rw[bw]at h;exact aa.cons h.1 (bw.gH h.2.2)
 | _,.nil,_::_,_,h=>by simp[bw]at h
 | _,.nil,[],_::_,h=>by simp[bw]at h
 | _,.cons _ _,[],_,h=>by simp[bw]at h
 | _,.cons _ _,_::_,[],h=>by simp[bw]at h
def bw.get:∀ {q:Nat} {es:RL.Es} {ds:List RL.D} {vs:List V} (n:Nat) {d:RL.D} {v:V},bw K M σ ps H q es ds vs->ds[n]?=some d->vs[n]?=some v ->
  Rep nP K H d v/\(if ps.contains (q+n)=true then ∃ j,hZ es n=some (.var j)/\σ[j]?=some (some v)else Rep (aE M σ) K H d v)
 | _,.nil,[],[],n,_,_,h,e,_=>by simp at e
 | q,.cons e es,d::ds,v::vs,0,_,_,h,e1,e2=>by
  simp at e1 e2;subst e1 e2;rw[bw]at h;refine⟨h.1,?_⟩;have h2:=h.2.1;rw[Nat.add_zero];by_cases hq:ps.contains q=true
  ·rw[if_pos hq]at h2 ⊢;obtain⟨j,z,y⟩:=h2;subst z;exact⟨j,rfl,y⟩
  ·rw[if_neg hq]at h2 ⊢;exact h2
 | q,.cons e es,d::ds,v::vs,n+1,_,_,h,e1,e2=>by
  rw[bw]at h;have:=bw.get n h.2.2 (by simpa using e1) (by simpa using e2);rw[show q+1+n=q+(n+1) by lia]at this;exact this
 | _,.nil,_::_,_,_,_,_,h,_,_=>by simp[bw]at h
 | _,.nil,[],_::_,_,_,_,h,_,_=>by simp[bw]at h
 | _,.cons _ _,[],_,_,_,_,h,_,_=>by simp[bw]at h
 | _,.cons _ _,_::_,[],_,_,_,h,_,_=>by simp[bw]at h
def Own.off(h:Own K H d (.ref a))(hm:∀ b o,P b->H b=some o->bq o)(k:Off P H H1)(n:¬ P a):Own K H1 d (.ref a):=by
 obtain⟨q1,q2,q3⟩:=h;refine⟨q1,q2,?_⟩;have im:∀ {ds:List RL.D} {xs:List V},RL.ah ds=true->aa nP K H ds xs->aa nP K H1 ds xs:=fun hi r=>((r.imm hi).off hm k).imm hi
 cases d with
 | lst ds=>obtain⟨b',xs,e1,e0,e2,e3⟩:=au q3;cases e1;rw[Rep];exact⟨a,xs,rfl,fun z=>z,k _ _ n e2,im q2 e3⟩
 | dK ks ds=>rw[Rep]at q3 ⊢;obtain⟨b',xs,e1,e0,e2,el,e3⟩:=q3;cases e1;exact⟨a,xs,rfl,fun z=>z,k _ _ n e2,el,im q2 e3⟩
 | dT ks ds=>rw[Rep]at q3 ⊢;obtain⟨b',xs,e1,e0,e2,el,e3⟩:=q3;cases e1;exact⟨a,xs,rfl,fun z=>z,k _ _ n e2,el,im q2 e3⟩
 | _=>cases q1
def jV:∀ {ms:List Nat} {outs:List RL.D} {σD:RL.St} {k i:Nat} {o:RL.D},ms.Nodup->ms[k]?=some i->outs[k]?=some o->i<σD.length->(cw ms outs σD)[i]?=some (some o)
 | [],_,_,_,_,_,_,e,_,_=>by simp at e
 | m::ms,[],_,_,_,_,_,_,e,_=>by simp at e
 | m::ms,d::ds,σD,0,i,o,nd,e1,e2,hl=>by
  simp at e1 e2;subst e1 e2;rw[cw,ib _ _ _ _ (by simpa using(List.nodup_cons.mp nd).1),List.getElem?_set_self hl]
 | m::ms,d::ds,σD,k+1,i,o,nd,e1,e2,hl=>by
  rw[cw];exact jV (List.nodup_cons.mp nd).2 (by simpa using e1) (by simpa using e2) (by simpa using hl)
def RVm.changed(h:RVm K M σD σ H)(hms:∀ i∈ms,M.contains i=true)(nd:ms.Nodup)(len:ms.length=outs.length)(k:Off (fun a=>∃ i∈ms,σ[i]?=some (some (.ref a))) H H1)
 (ow:∀ (k i:Nat) o,ms[k]?=some i->outs[k]?=some o->∃ a,σ[i]?=some (some (.ref a))/\Own K H1 o (.ref a)):RVm K M (cw ms outs σD) σ H1/\Fr' M σ H σ H1:=by
 have sub:∀ a,(∃ i∈ms,σ[i]?=some (some (.ref a)))->aE M σ a:=fun a ⟨i,hi,e⟩=>⟨i,hms i hi,e⟩
 have offA:Off (aE M σ) H H1:=fun b o n e=>k b o (fun z=>n (sub b z)) e
 have hmA:∀ b o,aE M σ b->H b=some o->bq o:=fun b o p e=>by
  obtain⟨o',e',m⟩:=h.uK b p;rw[e]at e';cases e';exact m
 have at_:∀ i,i∈ms->∃ (kk:Nat) (o:RL.D),ms[kk]?=some i/\outs[kk]?=some o:=fun i hi=>by
  obtain⟨kk,hk,e⟩:=List.getElem_of_mem hi;exact⟨kk,outs[kk]'(by lia),by simp[hk,e],by simp⟩
 refine⟨⟨by rw[iY];exact h.len,fun i d e=>?_,fun i v e=>?_,h.sep⟩,⟨fun b o e n=>⟨offA b o n e,n⟩,fun _ _=>rfl⟩⟩
 ·by_cases hi:i∈ms
  ·obtain⟨kk,o,e1,e2⟩:=at_ i hi
   have hl:i<σD.length:=by
    have:=(List.getElem?_eq_some_iff.mp e).1;rw[iY]at this;exact this
   rw[jV nd e1 e2 hl]at e;cases e;obtain⟨a,q1,q2⟩:=ow kk i _ e1 e2;exact⟨.ref a,q1,by rw[if_pos (hms i hi)];exact q2⟩
  ·rw[ib _ _ _ _ (by simpa using hi)]at e;obtain⟨v,h1,h2⟩:=h.val i d e;refine⟨v,h1,?_⟩;by_cases hm:M.contains i=true
   ·rw[if_pos hm]at h2 ⊢;obtain⟨a,o,rfl,_,_⟩:=h2.ref;refine h2.off (fun b o p e=>hmA b o (sub b p) e) k fun⟨j,hj,ej⟩=>?_;exact hi (h.sep i j a hm (hms j hj) h1 ej▸hj)
   ·rw[if_neg hm]at h2 ⊢;exact h2.off hmA offA
 ·obtain⟨d,hd⟩:=h.non i v e;by_cases hi:i∈ms
  ·obtain⟨kk,o,e1,e2⟩:=at_ i hi;exact⟨o,jV nd e1 e2 (List.getElem?_eq_some_iff.mp hd).1⟩
  ·exact⟨d,by rw[ib _ _ _ _ (by simpa using hi)];exact hd⟩
end
section rules
variable{X:Cx}{st:Stmt}
abbrev bo(es:RL.Es):List Nat->List Nat->Bool
 | [],[]=>true
 | p::ps,m::ms=>(match hZ es p with | some (.var j)=>j == m | _=>false)&&bo es ps ms
 | _,_=>false
def iD:∀ {ps ms:List Nat} {k p:Nat},bo es ps ms=true->ps[k]?=some p->∃ m,ms[k]?=some m/\hZ es p=some (.var m)
 | [],_,_,_,_,e=>by simp at e
 | _::_,[],_,_,h,_=>by simp[bo]at h
 | p::ps,m::ms,0,q,h,e=>by
  rw[bo,Bool.and_eq_true]at h;simp at e;subst e;have h1:=h.1;split at h1
  ·rename_i j hj;rw[beq_iff_eq]at h1;subst h1;exact⟨j,rfl,hj⟩
  ·cases h1
 | p::ps,m::ms,k+1,q,h,e=>by
  rw[bo,Bool.and_eq_true]at h;obtain⟨m',h1,h2⟩:=iD (k:=k) h.2 (by simpa using e);exact⟨m',by simpa using h1,h2⟩
def eY:∀ {ps ms:List Nat},bo es ps ms=true->ps.length=ms.length
 | [],[],_=>rfl
 | [],_::_,h=>by simp[bo]at h
 | _::_,[],h=>by simp[bo]at h
 | p::ps,m::ms,h=>by
  rw[bo,Bool.and_eq_true]at h;rw[List.length_cons,List.length_cons,eY h.2]
def t8(rv:RVm X.K M σD σ H)(he:RL.evs cl σD es=some ds)(ok:RL.gR M ps 0 es ds=true)(hc:cl f ds=some (.tup (d::outs)))
 (hs:bo es ps ms=true)(hms:∀ i∈ms,M.contains i=true)(nd:ms.Nodup)(ndp:ps.Nodup)(hset:RL.ba ms outs σD=some σ1)
 (k:∀ v H',Rep nP X.K H' d v->d.imm=true->RVm X.K M σ1 σ H'->Fr' M σ H σ H'->Q v H'):l6 (spM X.K cl ps f) [] E0 (fJ X.K cl es) σ H Q:=by
 refine l9 rv he ok fun vs H1 s1 ar=>?_;show spM X.K cl ps f (vs++[]) H1 Q E0;rw[List.append_nil];have rv1:=rv.same s1;have rps:=ar.gH;obtain⟨hlen,hσ1⟩:=dt hset;subst hσ1
 have adr:∀ (k p:Nat),ps[k]?=some p->∃ m a d',ms[k]?=some m/\σ[m]?=some (some (.ref a))/\vs[p]?=some (.ref a)/\ds[p]?=some d'/\Own X.K H1 d' (.ref a)/\hZ es p=some (.var m):=by
  intro k p hk;obtain⟨m,h1,h2⟩:=iD hs hk
  have evg:∀ (es:RL.Es) (ds:List RL.D) (n:Nat) (e:RL.E),RL.evs cl σD es=some ds->hZ es n=some e->∃ d',ds[n]?=some d'/\RL.ev cl σD e=some d':=by
   intro es
   induction es using RL.Es.rec (motive_1:=fun _=>True) (motive_3:=fun _=>True)with
   | nil=>intro ds n e _ z;cases z
   |cons e0 es0 _ ih=>
    intro ds n e h z;obtain⟨d0,y1,h⟩:=bind_some h;obtain⟨ds0,y2,y3⟩:=map_some h;subst y3
    cases n with
    | zero=>cases z;exact⟨d0,rfl,y1⟩
    | succ n=>exact ih ds0 n e y2 z
   | _=>trivial
  obtain⟨d',g1,g2⟩:=evg es ds p _ he h2;obtain⟨v,g3,g4⟩:=rps.get g1
  have hpc:ps.contains (0+p)=true:=by
   rw[Nat.zero_add];simpa using List.mem_of_getElem? hk
  have g5:=(ar.get p g1 g3).2;rw[if_pos hpc]at g5;obtain⟨j,z1,z2⟩:=g5;rw[h2]at z1;cases z1;have hm:M.contains m=true:=hms m (List.mem_of_getElem? h1);obtain⟨v',z3,z4⟩:=rv1.val m d' (rD g2);rw[z2]at z3;cases z3;rw[if_pos hm]at z4;obtain⟨a,o,rfl,_,_⟩:=z4.ref;exact⟨m,a,d',h1,z2,g3,g1,z4,h2⟩
 have adr':∀ a,mAt ps vs a->∃ i∈ms,σ[i]?=some (some (.ref a)):=fun a ⟨p,hp,e⟩=>by
  obtain⟨k,hk,z⟩:=List.getElem_of_mem hp;obtain⟨m,a',d',h1,h2,h3,_⟩:=adr k p (by simp[hk,z]);rw[e]at h3;cases h3;exact⟨m,List.mem_of_getElem? h1,h2⟩
 refine⟨ds,d,outs,hc,⟨rps,fun p hp=>?_,fun p hp q hq a e1 e2=>?_,fun q dq v hq e1 e2=>?_⟩,fun v H' off rp im mo=>?_⟩
 ·obtain⟨k,hk,z⟩:=List.getElem_of_mem hp;obtain⟨m,a',d',h1,h2,h3,h4,h5,_⟩:=adr k p (by simp[hk,z]);exact⟨d',a',h4,h3,h5⟩
 ·obtain⟨k,hk,z⟩:=List.getElem_of_mem hp;obtain⟨l,hl,y⟩:=List.getElem_of_mem hq
  have gk:ps[k]?=some p:=by simp[hk,z]
  have gl:ps[l]?=some q:=by simp[hl,y]
  obtain⟨m,a1,d1,h1,h2,h3,_⟩:=adr k p gk;obtain⟨m',a2,d2,h1',h2',h3',_⟩:=adr l q gl;rw[e1]at h3;cases h3;rw[e2]at h3';cases h3';have hmm:=rv1.sep m m' a (hms m (List.mem_of_getElem? h1)) (hms m' (List.mem_of_getElem? h1')) h2 h2';subst hmm;have hkl:k=l:=(List.getElem?_inj (by rw[<-eY hs];exact hk) nd).mp (by rw[h1,h1']);subst hkl;rw[gk]at gl;exact Option.some.inj gl
 ·have hpc:ps.contains (0+q)=false:=by
   rw[Nat.zero_add];simpa using hq
  have g5:=(ar.get q e1 e2).2;rw[if_neg (by rw[hpc];decide)]at g5
  exact g5.weak fun a ha=>by
   obtain⟨i,hi,e⟩:=adr' a ha;exact⟨i,hms i hi,e⟩
 ·obtain⟨g1,g2⟩:=rv1.changed (outs:=outs) (H1:=H') hms nd hlen (fun b o n e=>off b o (fun z=>n (adr' b z)) e) fun k i o hk ho=>by
   have hkl:k<ps.length:=by
    rw[eY hs];exact(List.getElem?_eq_some_iff.mp hk).1
   obtain⟨m,a1,d1,h1,h2,h3,_⟩:=adr k ps[k] (by simp[hkl]);rw[hk]at h1;cases h1;obtain⟨a,q1,q2⟩:=mo.own k ps[k] o (by simp[hkl]) ho;rw[q1]at h3;cases h3;exact⟨_,h2,q2⟩
  exact k v H' rp im g1 ((Fr'.same s1).trans g2)
def xl(h:PS X st (la (l6 (spM X.K cl ps f) [] E0 (fJ X.K cl es))))(hs:bo es ps ms=true)(hms:∀ i∈ms,M.contains i=true)(nd:ms.Nodup)(ndp:ps.Nodup):SS X cl M st (.mexc f es ps ms):=by
 refine PS.weak h fun D σ H h=>?_;obtain⟨σD,o,σD',rv,e,k⟩:=h;obtain⟨ds,e1,e⟩:=bind_some e;split at e
 ·rename_i ok;obtain⟨r,e2,e⟩:=bind_some e;split at e
  ·rename_i d outs;obtain⟨σ1,e3,e4⟩:=map_some e;cases e4;exact t8 rv e1 ok e2 hs hms nd ndp e3 fun v H' _ _ rv' fr'=>k _ _ rv' fr'
  ·cases e
 ·cases e
end rules
end RS
namespace L2
open PySem PySem.Spec PyProof.Rows
abbrev gq(A:Around)(h:Heap):Prop:=A.handled=none\/∃ x o vs,A.handled=some (.ref x)/\h.get? x=some o/\o.data=.fields vs/\vs[2]?=some .none
def gq.keeps(x:gq A h)(k:∀ b o vs,h.get? b=some o->o.data=.fields vs->A.handled=some (.ref b)->h'.get? b=some o):gq A h':=by
 rcases x with z | ⟨y,o,vs,h1,h2,h3,h4⟩
 ·exact .inl z
 ·exact .inr ⟨y,o,vs,h1,k _ _ _ h2 h3 h1,h3,h4⟩
section
def kT:entryFor table "proto.unchain" = some Builtin.«proto.unchain»:=entryFor_of_tree (by kernel_rfl)
def ve(hd:gq A s.heap)(he:s.heap.get? e=some oe)(hf:oe.data=.fields vs)(hz:2<vs.size)(ne:A.handled≠some (.ref e))
 (k:∀ h',Heap.SameBut e s.heap h'->(∃ o,h'.get? e=some o/\o.cls=oe.cls)->E (.ref e) { s with heap:=h' }):wpAny (model prog w) A (raiseNew (.ref e):Sem α) Q E s:=by
 unfold raiseNew;refine wpAny_bind (wpAny_handled ?_)
 rcases hd with z | ⟨x,o,ws,h1,h2,h3,h4⟩
 ·rw[z];exact wpAny_bind (wpAny_pure (wpAny_throw (k s.heap (.refl ..) ⟨oe,he,rfl⟩)))
 ·rw[h1]
  have nx:(Value.ref x != Value.ref e)=true:=by
   rw[bne_iff_ne];intro q;exact ne (by rw[h1,q])
  dsimp only;rw[if_pos nx];refine wpAny_bind (wpAny_holding (wpAny_runValue (codeAny_builtin kT ?_)));unfold Builtin.«proto.unchain»;refine wpAny_bind (wpAny_field h2 h3 h4 ?_);rw[if_pos (by decide)];refine wpAny_bind (wpAny_pure (wpAny_pure ?_));show wpAny _ _ _ _ _ _;refine wpAny_bind ?_;show wpAny _ _ (setField (.ref e) 2 (.ref x)) _ _ _;refine wpAny_setField he hf hz (wpAny_throw (k _ (.update ..) ⟨_,Heap.get?_update_self _ he (Obj.isFreed_of_fields (Obj.data_mapFields hf _)),Obj.cls_mapFields ..⟩))
def oK(hd:gq A s.heap)(k:∀ h' e,(∀ b o,s.heap.get? b=some o->h'.get? b=some o)->(∃ o,h'.get? e=some o/\o.cls=.type "StopIteration")->E (.ref e) { s with heap:=h' }) :
  wpAny (model prog w) A (newExc (.type "StopIteration") []) (fun e s'=>wpAny (model prog w) A (raiseNew e:Sem α) Q E s') E s:=by
 simp only[newExc,newTuple];apply wpAny_bind;refine wpAny_newObj_type ?_ (by size_fits);apply wpAny_bind (m:=firstArgMember _ _);refine wpAny_of_eq (a:=Value.none) (by first | rfl | (simp only[firstArgMember];rfl)) ?_;refine wpAny_newObj_type ?_ (by size_fits);have hs:∀ b o,s.heap.get? b=some o->b≠(s.heap.push { cls:=.type "tuple",data:=.seq ([]:List Value).toArray }).objs.size:=fun b o e=>Nat.ne_of_lt (by rw[Heap.size_push];exact Nat.lt_succ_of_lt (Heap.lt_size e));refine ve (hd.keeps fun b o vs e _ _=>Heap.get?_push_of_some _ (Heap.get?_push_of_some _ e)) (Heap.get?_push_size _ rfl) rfl (Nat.lt_of_lt_of_le (by decide:2<6) (by simp)) (fun q=>?_) fun h' sb ho=>k h' _ (fun b o e=>(sb.2 b (hs b o e)).trans (Heap.get?_push_of_some _ (Heap.get?_push_of_some _ e))) ho
 rcases hd with z | ⟨x,o,ws,h1,h2,_,_⟩
 ·rw[z]at q;cases q
 ·rw[h1]at q;cases q;exact hs _ _ h2 rfl
def kU{it l:Addr}{i:Nat}(hd:gq A s.heap)(ni:A.handled≠some (.ref it))(ho:s.heap.get? it=some o)(hdt:o.data=.fields #[.ref l,.int i 0])(hol:s.heap.get? l=some ol)(hdl:ol.data=.seq its nl)(hx:its[i]?=none)
 (k:∀ h' e,Heap.ExtBut it s.heap h'->(∃ o,h'.get? e=some o/\o.cls=.type "StopIteration")->E (.ref e) { s with heap:=h' }):wpAny (model prog w) A (Builtin.«list_iterator.__next__» ⟨[.ref it],[]⟩) Q E s:=by
 have n0:¬ ((Value.ref l == Value.none)=true):=Bool.false_ne_true;refine show wpAny _ _ (field (.ref it) 0 >>= _) _ _ s from wpAny_bind (wpAny_field ho hdt (x:=.ref l) rfl ?_);refine show wpAny _ _ (if(Value.ref l == Value.none)=true then _ else _) _ _ s from ?_;rw[if_neg n0];refine show wpAny _ _ (field (.ref it) 1 >>= _) _ _ s from wpAny_bind (wpAny_field ho hdt (x:=.int i 0) rfl ?_);refine show wpAny _ _ (seqItems? (.ref l) >>= _) _ _ s from wpAny_bind (wpAny_seqItems hol hdl ?_);simp only[Int.toNat_natCast,hx];refine wpAny_bind (wpAny_rule (wpAny_bind (wpAny_setField ho hdt (by simp) ?_)));refine show wpAny _ _ (newExc (.type "StopIteration") [] >>= _) _ _ _ from wpAny_bind ?_;have sb:=Heap.SameBut.update s.heap it (Obj.mapFields (·.setIfInBounds 0 Value.none));refine oK (hd.keeps fun b u vs e _ hb=>(sb.2 b fun z=>ni (z▸hb)).trans e) fun h' e kk he=>k h' e (fun b u hb q=>kk b u ((sb.2 b hb).trans q)) he
def kQ{it l:Addr}{i:Nat}(hd:gq A s.heap)(ni:A.handled≠some (.ref it))(hit:s.heap.IsListIter it l i)(hl:s.heap.IsList l its)(hx:its[i]?=none)
 (k:∀ h' e,Heap.ExtBut it s.heap h'->(∃ o,h'.get? e=some o/\o.cls=.type "StopIteration")->E (.ref e) { s with heap:=h' }):wpAny (model prog w) A (Builtin.SmallTypes.nextOf (.ref it)) Q E s:=by
 obtain⟨o,ho,hc,hdt⟩:=id hit;obtain⟨ol,hol,_,nl,hdl⟩:=hl;unfold Builtin.SmallTypes.nextOf;apply wpAny_bind;apply wpAny_callSpecial?_slot (name:=Str.ofString "__next__") hit.typeIs slot_listiter_next;refine wpAny_call_entry slot_listiter_next hit.typeIs entry_listiter_next ?_ (args_listiter_next _);exact kU hd ni ho hdt hol hdl hx k
end
section
def lQ(hi:z.heap.IsTupleIter ti tp i)(ht:z.heap.IsTuple tp its)(hx:its[i]?=some x)
 (k:∀ g,g.IsTupleIter ti tp (i+1)->Heap.SameBut ti z.heap g->Q x { z with heap:=g }):wpAny (model prog w) A (Builtin.SmallTypes.nextOf (.ref ti)) Q E z:=by
 have hty:=hi.typeIs;obtain⟨⟨c1,d1,f1,s1⟩,g1,c1',f1'⟩:=hi;obtain⟨⟨c2,d2,f2,s2⟩,g2,c2',n2,f2'⟩:=ht;dsimp only at c1' f1' c2' f2';subst c1' f1' c2' f2';obtain⟨hp,g,d,tk,os⟩:=z;unfold Builtin.SmallTypes.nextOf;refine wpAny_bind (wpAny_callSpecial?_slot (name:=Str.ofString "__next__") hty F.slot_tuple_iterator_next (wpAny_call_entry F.slot_tuple_iterator_next hty F.entry_tuple_iterator_next ?_ (F.args_tuple_iterator_next_1 _)));unfold Builtin.«tuple_iterator.__next__»
 wp_walk using AutoSeq1.wpAny_loadPart' g1,AutoSeq1.wpAny_loadPart' g2
 have e:its[((i:Nat):Int).toNat]?=some x:=hx;rw[e];dsimp only;apply wpAny_bind;apply wpAny_setField g1 rfl (by simp);apply wpAny_pure;refine⟨x,rfl,?_⟩;apply wpAny_pure;apply k
 ·exact⟨_,Heap.get?_update_self _ g1 rfl,rfl,by simp[Obj.mapFields,rawInt]⟩
 ·exact Heap.SameBut.update ..
def oB(hd:gq A z.heap)(ni:A.handled≠some (.ref ti))(hi:z.heap.IsTupleIter ti tp i)(ht:z.heap.IsTuple tp its)(hx:its[i]?=none)
 (k:∀ g e,Heap.ExtBut ti z.heap g->(∃ o,g.get? e=some o/\o.cls=.type "StopIteration")->E (.ref e) { z with heap:=g }):wpAny (model prog w) A (Builtin.SmallTypes.nextOf (.ref ti)) Q E z:=by
 have hty:=hi.typeIs;obtain⟨⟨c1,d1,f1,s1⟩,g1,c1',f1'⟩:=hi;obtain⟨⟨c2,d2,f2,s2⟩,g2,c2',n2,f2'⟩:=ht;dsimp only at c1' f1' c2' f2';subst c1' f1' c2' f2';obtain⟨hp,g,d,tk,os⟩:=z;unfold Builtin.SmallTypes.nextOf;refine wpAny_bind (wpAny_callSpecial?_slot (name:=Str.ofString "__next__") hty F.slot_tuple_iterator_next (wpAny_call_entry F.slot_tuple_iterator_next hty F.entry_tuple_iterator_next ?_ (F.args_tuple_iterator_next_1 _)));unfold Builtin.«tuple_iterator.__next__»
 wp_walk using AutoSeq1.wpAny_loadPart' g1,AutoSeq1.wpAny_loadPart' g2
 have e:its[((i:Nat):Int).toNat]?=none:=hx;rw[e];dsimp only;apply wpAny_bind;apply wpAny_rule;apply wpAny_bind;apply wpAny_setField g1 rfl (by simp);unfold Builtin.SmallTypes.stopIteration;apply wpAny_bind;refine oK (hd.keeps fun b u vs e _ hb=>(Heap.SameBut.update ..).extBut b u (fun z=>ni (z▸hb)) e) fun g e kp hc=>k g e (fun b o hb q=>kp b o ?_) hc;exact(Heap.SameBut.update ..).extBut b o hb q
def l0(h:wpAny (model prog w) A m S (fun _ _=>False) z)(k:∀ a z1,S a z1->Q a z1):wpAny (model prog w) A m Q E z:=wpAny_mono h k fun _ _ f=>f.elim
def rC(h:∀ b,Q b z):wpAny (model prog w) A (pure b) Q E z:=wpAny_pure (h b)
def uJ{x:Value}{S:Addr->Shared->Prop}(hx:∀ A:Around,wpAny (model prog w) A (pyIter x) (fun v z1=>∃ it,v=.ref it/\S it z1) (fun _ _=>False) z)
 (k:∀ it z1,S it z1->Q (.ref z1.heap.objs.size) { z1 with heap:=z1.heap.push { cls:=.type "enumerate",data:=.fields #[.none,.bool false,.ref it,rawInt 0,.none,.none] } }):wpAny (model prog w) A (call (.type "enumerate") [x]) Q E z:=by
 have body:MeetsIn prog w (Builtin.«enumerate.__new__» ⟨[.type "enumerate",x],[]⟩) (fun A R s=>s=z/\∀ it z1,S it z1->R (.ok (.ret (.ref z1.heap.objs.size))) { z1 with heap:=z1.heap.push { cls:=.type "enumerate",data:=.fields #[.none,.bool false,.ref it,rawInt 0,.none,.none] } }):=by
  rintro A R s ⟨rfl,hR⟩;have hsub:=sub_enumerate;have iter:=hx A.in1;obtain⟨hp,g,d,tk,os⟩:=s
  wp_walk
  refine wpAny_stack_any fun st=>rC fun b=>?_
  have done:∀ it z1,S it z1->wpAny (model prog w) A.in1 (do let r <- Builtin.SmallTypes.newRecord (.type "enumerate") (Builtin.SmallTypes.ownedTupleFields++[.ref it,rawInt 0,.none,.none]);ret r)
    (fun fin s'=>match fin with | .done f=>R (.ok f) s' | .again c'=>c'.quiet=true/\codeAny (model prog w) A c' R s') (fun e s'=>R (.error e) s') z1:=by
   intro it z1 h1;have:=hR it z1 h1;obtain⟨hp1,gg1,dd1,tk1,os1⟩:=z1
   wp_walk
   exact this
  cases b
  ·wp_walk using l0 iter
   rintro _ z1 ⟨it,rfl,h1⟩;exact done it z1 h1
  ·wp_walk using l0 iter
   rintro _ z1 ⟨it,rfl,h1⟩;exact done it z1 h1
 refine callType_newIn F.called_enumerate (by decide) (F.typeCall_enumerate_1 _) (F.newCall_enumerate_1 _) (fun obj=>F.args_object_init_2 obj _) F.entry_enumerate_new body ⟨rfl,fun it z1 h=>?_⟩;exact⟨⟨_,Heap.get?_push_size _ rfl,rfl⟩,k it z1 h⟩
def m5:hV prog w where
 draws:=fun hh ti tp hne its=>{
  live:=fun i h st=>let ⟨o,e,_⟩:=st.1;⟨o,e⟩
  frame:=fun i h h' st kp=>by
   obtain⟨⟨o1,e1,r1⟩,⟨o2,e2,r2⟩⟩:=st;exact⟨⟨o1,kp ti (by simp) _ e1,r1⟩,⟨o2,kp tp (by simp) _ e2,r2⟩⟩
  item:=fun i s Q E hi st k=>by
   refine lQ st.1 st.2 (x:=its[i]) (by simp[hi]) fun g h1 h2=>k its[i] g s.toks (by simp[hi]) ⟨h1,st.2.extBut h2.extBut hne⟩ h2
  done:=fun s Q E st k=>oB (.inl hh) (by rw[hh];exact fun z=>nomatch z) st.1 st.2 (by simp) fun g e h1 h2=>k g e h1 h2 }
 call:=fun {A E z tp its Q} ht k=>by
  refine uJ (S:=fun it z1=>it=z.heap.objs.size/\z1={ z with heap:=z.heap.push { cls:=.type "tuple_iterator",data:=.fields #[.ref tp,rawInt 0] } }) (fun A=>wpAny_pyIter_tuple ht ⟨_,rfl,rfl,rfl⟩) ?_;rintro it z1 ⟨rfl,rfl⟩;have hz:(z.heap.push { cls:=.type "tuple_iterator",data:=.fields #[.ref tp,rawInt 0] }).objs.size=z.heap.objs.size+1:=Heap.size_push ..;dsimp only;rw[hz];refine k _ ?_ ⟨_,Heap.get?_push_of_some _ (Heap.get?_push_size _ rfl),rfl,rfl⟩ fun b o e=>Heap.get?_push_of_some _ (Heap.get?_push_of_some _ e);have:=Heap.get?_push_size (z.heap.push { cls:=.type "tuple_iterator",data:=.fields #[.ref tp,rawInt 0] }) (o:={ cls:=.type "enumerate",data:=.fields #[.none,.bool false,.ref z.heap.objs.size,rawInt 0,.none,.none] }) rfl;rw[hz]at this;exact this
end
end L2
namespace RS
open PySem PySem.Spec PyProof.Rows L2
section
variable{X:Cx}
def nX:∀ {bs:List Bool} {us:List Value},Vals (bs.map V.bl) us->us=bs.map Value.bool
 | [],_,h=>by cases h;rfl
 | b::bs,_,h=>by
  cases h with
  |cons r t=>
   cases r;rw[nX t];rfl
def uT{A:Around}{bs:List Bool}:TruthOf X.prog X.w A (fun i v=>(bs.map Value.bool).toArray[i]?=some v) (fun i=>bs.getD i false):=by
 intro i v s Q E hP q
 have hP':(bs.map Value.bool)[i]?=some v:=by simpa using hP
 rw[List.getElem?_map]at hP';obtain⟨b,h1,h2⟩:=map_some hP';subst h2
 have:bs.getD i false=b:=by rw[List.getD_eq_getElem?_getD,h1];rfl
 have q':Q b s:=this▸q;exact wpAny_truthy_bool q'
def range_all(bs:List Bool):(List.range bs.length).all (fun i=>bs.getD i false)=bs.all id:=by
 have:bs=(List.range bs.length).map fun i=>bs.getD i false:=by
  apply List.ext_getElem
  ·simp
  ·intro i h1 h2;simp[List.getD_eq_getElem?_getD,h1]
 conv=>rhs;rw[this]
 rw[List.all_map];rfl
abbrev zl(f:List Bool->Bool):List V->Hp->VK->Prop:=fun xs H Q=>∃ p bs,xs=[.ref p]/\H p=some (.lst (bs.map V.bl))/\Q (.bl (f bs)) H
def tw(hc:X.calm=true):aH X (.builtin "all") (zl fun bs=>bs.all id):=by
 intro pins s σ H xs us Q I r h;obtain⟨p,bs,rfl,hp,q⟩:=h
 cases r with
 |cons r rr=>
  cases rr;cases r;obtain⟨its,rv,hl,hz⟩:=I.list (SqL.of hp);have hits:=nX rv;subst hits
  have hlt:p<s.heap.objs.size:=by obtain⟨o,ho,_⟩:=hl.isList;exact Heap.lt_size ho
  refine call_all_walk (wpAny_pyIter_list hl.isList ?_);refine⟨s.heap.objs.size,_,[s.heap.objs.size],_,_,_,_,rfl,Walks.list (A:=X.A.in1) (I.ok.hd.1 hc) s.heap.objs.size p (Nat.ne_of_lt hlt) (bs.map Value.bool).toArray,⟨⟨_,Heap.get?_push_size _ rfl,rfl,rfl⟩,hl.isList.push _⟩,uT,fun h' tk hk=>?_⟩;refine⟨.bl (bs.all id),H,I.kept (t':=tk) (fun b o e=>hk b o (fun z=>?_) (Heap.get?_push_of_some _ e)),?_,q⟩
  ·rw[List.mem_singleton.mp z]at e;exact absurd (Heap.lt_size e) (Nat.lt_irrefl _)
  ·have:=range_all bs;show Value.bool _=Value.bool _;rw[<-this];simp
def lW{P:Addr->Prop}{K:PySem.W.Frag}:∀ {ds:List RL.D} {bs:List Bool} {xs:List V},RL.fq ds=some bs->aa P K H ds xs->xs=bs.map V.bl
 | [],bs,xs,h,r=>by rw[RL.fq]at h;cases h;rw[aa]at r;exact r
 | d::ds,bs,xs,h,r=>by
  cases d<;>simp only[RL.fq]at h<;>first | (cases h;done) | skip
  rename_i b;obtain⟨bs',h1,h2⟩:=map_some h;subst h2;rw[aa]at r;obtain⟨x,t,rfl,r1,r2⟩:=r;rw[aF r1,lW h1 r2];rfl
def yO(hc:X.calm=true)(hg:Gl X "all")(hm:X.mg "all" = none)(ha:SE X cl a a')(hn:noStar a=true):SE X cl (.Call (.Name "all" p) [a] [] pos) (.bi .all a'):=by
 refine eI (tw hc) hg hm (by decide +kernel) ha hn (by decide) (by decide) fun σD σ H H1 y d v Q e s1 r1 k=>?_
 cases y<;>first | (cases e;done) | skip
 case lst ds =>
  obtain⟨bs,e1,e2⟩:=map_some e;subst e2;obtain⟨q,xs,rfl,_,f2,f3⟩:=au r1;rw[lW e1 f3]at f2;exact⟨q,bs,rfl,f2,k _ _ (bh s1 mf rfl)⟩
def xB(hg:Gl X "enumerate")(hm:X.mg "enumerate" = none)(ha:SE X cl a a')(hn:noStar a=true):SI X cl (.Tuple elts kx tp) (.Call (.Name "enumerate" p) [a] [] pos) (.enm a'):=B4 m5 hg hm ha hn
def cU{P:Addr->Prop}{K:PySem.W.Frag}:∀ {ds:List RL.D} {is:List Int} {xs:List V},RL.aN ds=some is->aa P K H ds xs->xs=is.map V.int
 | [],is,xs,h,r=>by rw[RL.aN]at h;cases h;rw[aa]at r;exact r
 | d::ds,is,xs,h,r=>by
  cases d<;>simp only[RL.aN]at h<;>first | (cases h;done) | skip
  rename_i b;obtain⟨bs',h1,h2⟩:=map_some h;subst h2;rw[aa]at r;obtain⟨x,t,rfl,r1,r2⟩:=r;rw[ag r1,cU h1 r2];rfl
abbrev eS(ns:List Int):List Int:=firstMet (fun i=>ns.getD i 0) ns.length
def ie(ns:List Int):eS ns=RL.bG ns:=by
 unfold eS firstMet RL.bG
 have:(List.range ns.length).map (fun i=>ns.getD i 0)=ns:=by
  apply List.ext_getElem
  ·simp
  ·intro i h1 h2;simp[List.getD_eq_getElem?_getD,h2]
 rw[this];rfl
def rS(hc:X.calm=true):aH X (.type "set") (fun xs H Q=>∃ p ns,xs=[.ref p]/\H p=some (.lst (ns.map V.int))/\ns.length<=1000/\∀ l,H l=none->Q (.ref l) (upd H l (.set (fun k=>(eS ns).any (· == k)) (eS ns).length))):=by
 intro pins s σ H xs us Q I r h;obtain⟨p,ns,rfl,hp,hn,q⟩:=h
 cases r with
 |cons r rr=>
  cases rr;cases r;obtain⟨its,rv,hl,hz⟩:=I.list (SqL.of hp)
  have hlen:its.length=ns.length:=by
   have:=rv.length;simp at this;exact this.symm
  have hf:H s.heap.objs.size=none:=I.hok.fresh (Nat.le_refl _);refine call_set_list (I.ok.hd.1 hc) hl.isList (ns:=ns) (by simpa using intsAre_of rv) (by rw[List.size_toArray,hlen];show ns.length+1<4096;lia) fun h' tk hS hk=>?_
  have hsz:its.toArray.size=ns.length:=by rw[List.size_toArray];exact hlen
  rw[hsz]at hS;exact⟨.ref s.heap.objs.size,_,I.laid (o:=.set (fun k=>(eS ns).any (· == k)) (eS ns).length) (t':=tk) (fun b u e=>hk b u (Heap.lt_size e) e) (Nat.le_refl _) hS,rfl,q _ hf⟩
def rT:aH X (.builtin "len") (fun xs H Q=>∃ p S n,xs=[.ref p]/\H p=some (.set S n)/\Q (.int (n:Nat)) H):=by
 intro pins s σ H xs us Q I r h;obtain⟨p,S,n,rfl,hp,q⟩:=h
 cases r with
 |cons r rr=>
  cases rr;cases r;obtain⟨o,es,ep,t,h1,h2,h3,h4,h5,h6,h7,h8⟩:=I.hok p _ hp;refine call_len_set h1 h2 h3 h7 (by have:scanBound=4096:=rfl;lia) ?_;rw[h8];exact⟨.int n,H,I.tok _,⟨_,rfl⟩,q⟩
def sj(hc:X.calm=true)(hgl:Gl X "len")(hml:X.mg "len" = none)(hg:Gl X "set")(hm:X.mg "set" = none)(ha:SE X cl a a')(hn:noStar a=true):SE X cl (.Call (.Name "len" p2) [.Call (.Name "set" p) [a] [] pos] [] pos2) (.bi .lenSet a'):=by
 refine PE.weak (dQ rT hgl hml PySem.boot_len (b9 (bC (rS hc) hg hm (by decide +kernel) (aR (cl:=cl) ha bp hn) (by decide) (by decide) (ay [] hn) rfl) cB rfl) (by decide) (by decide) rfl rfl) fun σ H Q h=>?_;obtain⟨σD,d,rv,e,k⟩:=h;obtain⟨y,ea,e⟩:=bind_some e;refine one rv ea fun v H1 s1 r1=>?_
 cases y<;>first | (cases e;done) | skip
 case lst ds =>
  rw[RL.vE]at e;split at e
  ·rename_i hl;obtain⟨is,e1,e2⟩:=map_some e;subst e2;obtain⟨q,xs,rfl,_,f2,f3⟩:=au r1;have hx:=cU e1 f3;rw[hx]at f2
   have hil:is.length<=1000:=by
    have:=f3.length;rw[hx]at this;simp at this;lia
   refine⟨q,is,rfl,f2,hil,fun l hl2=>⟨l,_,_,rfl,a8,?_⟩⟩;rw[ie];exact k _ _ (bh (s1.trans (ao.aU hl2)) aA rfl)
  ·cases e
def B7(hl:PE X l (yP X.K "list" Ao (gN i)))(he:SE X cl e e')(ha:SSs X cl M A A')(hb:SSs X cl M B B')(hi:M.contains i=true):SS X cl M (.If (.Compare l [.NotEq] [e] pos) A B pos2) (.ifp i e' A' B'):=by
 refine PS.weak (vZ (ka CH hl he (m4 _ (by decide) (by decide))) ha hb) fun D σ H h=>?_;obtain⟨σD,o,σD',rv,ev,k⟩:=h;obtain⟨l,e3,ev⟩:=bind_some ev
 cases l with
 |lst ds=>
  obtain⟨d,e4,ev⟩:=bind_some ev;obtain⟨y,e5,ev⟩:=bind_some ev;obtain⟨v,h1,h2⟩:=rv.val i _ (slot_get e3);rw[if_pos hi]at h2;obtain⟨q1,q2,q3⟩:=h2;obtain⟨a,xs,rfl,_,f2,f3⟩:=au q3;obtain⟨u,f4,f5⟩:=f3.get e4;have im:=oU q2;obtain⟨g1,g2⟩:=rv.gQ (d':=.lst ds.dropLast) (o':=.lst xs.dropLast) hi h1 f2 (.inl ⟨_,rfl⟩) (oO (ds:=ds) f2 im f3.dropLast)
  cases d with
  |int m=>
   cases y with
   |int n=>
    refine⟨.ref a,h1,.inl ⟨rfl,xs,SqL.of f2⟩,a,xs,u,rfl,rfl,f2,by rw[<-f3.length];exact f4,?_⟩;refine⟨_,_,g1.rv0,e5,fun w H1 r1=>?_⟩;rw[ag f5,ag r1.rep];have k1:=k.from (g2.trans (Fr'.same (σ:=σ) r1.same));refine⟨rfl,_,rfl,?_⟩;dsimp only at ev;by_cases hmn:m=n
    ·rw[if_pos (by simpa using hmn)]at ev
     have hd:(!decide (V.int m=V.int n))=false:=by rw[hmn];simp
     rw[hd];exact d4 ⟨_,o,σD',g1.same r1.same,ev,k1⟩
    ·rw[if_neg (by simpa using hmn)]at ev
     have hd:(!decide (V.int m=V.int n))=true:=by
      have:V.int m≠V.int n:=fun z=>hmn (by injection z);simp[this]
     rw[hd];exact c8 ⟨_,o,σD',g1.same r1.same,ev,k1⟩
   | _=>cases ev
  | _=>cases ev
 | _=>cases ev
end
end RS
namespace L2
open PySem PySem.Spec PyProof.Rows
section
variable{prog:Program}{w:World}{A:Around}{E:Value->Shared->Prop}
def xZ{x y:Value}{S1:Addr->Shared->Prop}{S2:Addr->Addr->Shared->Prop}{z:Shared}{Q:Value->Shared->Prop}(hx:∀ A:Around,wpAny (model prog w) A (pyIter x) (fun v z1=>∃ it,v=.ref it/\S1 it z1) (fun _ _=>False) z)
 (hy:∀ it z1,S1 it z1->∀ A:Around,wpAny (model prog w) A (pyIter y) (fun v z2=>∃ jt,v=.ref jt/\S2 it jt z2) (fun _ _=>False) z1)
 (k:∀ it jt z2,S2 it jt z2->Q (.ref (((z2.heap.push { cls:=.type "tuple",data:=.seq #[.ref it,.ref jt] }).push { cls:=.type "tuple",data:=.seq #[.none,.none] })).objs.size)
   { z2 with heap:=((z2.heap.push { cls:=.type "tuple",data:=.seq #[.ref it,.ref jt] }).push { cls:=.type "tuple",data:=.seq #[.none,.none] }).push { cls:=.type "zip",data:=.fields #[.none,.bool false,.bool false,.ref z2.heap.objs.size,.ref (z2.heap.push { cls:=.type "tuple",data:=.seq #[.ref it,.ref jt] }).objs.size] } }) :
  wpAny (model prog w) A (call (.type "zip") [x,y]) Q E z:=by
 have body:MeetsIn prog w (Builtin.«zip.__new__» ⟨[.type "zip",x,y],[]⟩) (fun A R s=>s=z/\∀ it jt z2,S2 it jt z2->R (.ok (.ret (.ref (((z2.heap.push { cls:=.type "tuple",data:=.seq #[.ref it,.ref jt] }).push { cls:=.type "tuple",data:=.seq #[.none,.none] })).objs.size)))
   { z2 with heap:=((z2.heap.push { cls:=.type "tuple",data:=.seq #[.ref it,.ref jt] }).push { cls:=.type "tuple",data:=.seq #[.none,.none] }).push { cls:=.type "zip",data:=.fields #[.none,.bool false,.bool false,.ref z2.heap.objs.size,.ref (z2.heap.push { cls:=.type "tuple",data:=.seq #[.ref it,.ref jt] }).objs.size] } }):=by
  rintro A R s ⟨rfl,hR⟩;have hsub:=sub_zip;have iter:=hx A.in1;obtain⟨hp,g,d,tk,os⟩:=s
  wp_walk using l0 iter
  rintro _ z1 ⟨it,rfl,h1⟩;have iter2:=hy it z1 h1 A.in1;obtain⟨hp1,gg1,dd1,tk1,os1⟩:=z1
  wp_walk using l0 iter2
  rintro _ z2 ⟨jt,rfl,h2⟩;have fin:=hR it jt z2 h2;obtain⟨hp2,gg2,dd2,tk2,os2⟩:=z2
  wp_walk
  exact fin
 refine callType_newIn F.called_zip (by decide) (F.typeCall_zip_2 _ _) (F.newCall_zip_2 _ _) (fun obj=>F.args_object_init_3 obj _ _) F.entry_zip_new body ⟨rfl,fun it jt z2 h=>?_⟩;exact⟨⟨_,Heap.get?_push_size _ rfl,rfl⟩,k it jt z2 h⟩
structure f7(z TI TO i1 i2:Addr)(fp1 fp2:List Addr):Prop where
 zTI:TI≠z
 zTO:TO≠z
 TT:TI≠TO
 i1z:i1≠z
 i2z:i2≠z
 Dy:i1≠TO
 DN:i2≠TO
 i12:i1≠i2
 z1:z∉fp1
 z2:z∉fp2
 TO1:TO∉fp1
 TO2:TO∉fp2
 i1f:i1∉fp2
 i2f:i2∉fp1
def vy{z TI TO i1 i2:Addr}{fp1 fp2:List Addr}{n1 n2 k:Nat}{P1 P2:Nat->Value->Prop}{S1 S2:Nat->Heap->Prop}{a b:Value}{s:Shared}{Q:Value->Shared->Prop}(Z:f7 z TI TO i1 i2 fp1 fp2)
 (D1:Draws prog w A i1 fp1 n1 P1 S1)(D2:Draws prog w A i2 fp2 n2 P2 S2)(hz:IsZip s.heap z TI TO .none)(hTI:IsPair s.heap TI (.ref i1) (.ref i2))(hTO:IsPair s.heap TO a b)(s1:S1 k s.heap)(s2:S2 k s.heap)(k1:k<n1)(k2:k<n2)
 (hQ:∀ x y g tk,P1 k x->P2 k y->IsZip g z TI TO (rawInt s.heap.objs.size)->IsPair g TO x y->S1 (k+1) g->S2 (k+1) g->IsPair g s.heap.objs.size x y->g.objs.size=s.heap.objs.size+1->(∀ c o,c≠z->c≠TO->c≠i1->c≠i2->s.heap.get? c=some o->g.get? c=some o)->Q (.ref s.heap.objs.size) { s with heap:=g,toks:=tk }) :
  wpAny (model prog w) A (Builtin.«zip.__next__» ⟨[.ref z],[]⟩) (fun fin s'=>∃ v,fin=.done (.ret v)/\Q v s') E s:=by
 obtain⟨hp,g,d,tk,os⟩:=s;have off:∀ (f:Obj->Obj) b o,b≠z->hp.get? b=some o->(hp.update z f).get? b=some o:=fun f b o hb e=>(Heap.SameBut.update ..).extBut b o hb e;have st1:∀ f:Obj->Obj,S1 k (hp.update z f):=fun f=>D1.frame k _ _ s1 fun b hb o e=>off f b o (fun q=>Z.z1 (q▸hb)) e;have st2:∀ f:Obj->Obj,S2 k (hp.update z f):=fun f=>D2.frame k _ _ s2 fun b hb o e=>off f b o (fun q=>Z.z2 (q▸hb)) e;unfold Builtin.«zip.__next__»
 wp_walk using AutoSeq1.wpAny_loadPart' hz,AutoSeq1.wpAny_loadPart' hTI,wpAny_onRaise,(D1.item k _ _ _ k1 (st1 _))
 intro x h1 t1 px st1' sb1;have q1:IsPair h1 TO a b:=sb1.extBut _ _ (Ne.symm Z.Dy) (off _ TO _ Z.zTO hTO);have z1:IsZip h1 z TI TO .ellipsis:=sb1.extBut _ _ (Ne.symm Z.i1z) (Heap.get?_update_self _ hz rfl);have u1:=sb1.1;have c1:∀ c o,c≠z->c≠i1->hp.get? c=some o->h1.get? c=some o:=fun c o n1 n2 e=>sb1.extBut _ _ n2 (off _ c o n1 e);clear sb1 st1 st2
 wp_walk using AutoSeq1.wpAny_loadPart' q1,(wpAny_updateSeq_pair q1)
 intro h2 q2 sb2
 replace q2:IsPair h2 TO x b:=q2
 have z2:IsZip h2 z TI TO .ellipsis:=sb2.extBut _ _ (Ne.symm Z.zTO) z1;have c2:∀ c o,c≠z->c≠TO->c≠i1->hp.get? c=some o->h2.get? c=some o:=fun c o n1 n2 n3 e=>sb2.extBut _ _ n2 (c1 c o n1 n3 e);have e1:S1 (k+1) h2:=D1.frame _ _ _ st1' fun b hb o e=>sb2.extBut _ _ (fun q=>Z.TO1 (q▸hb)) e;have e2:S2 k h2:=D2.frame _ _ _ s2 fun b hb o e=>c2 b o (fun q=>Z.z2 (q▸hb)) (fun q=>Z.TO2 (q▸hb)) (fun q=>Z.i1f (q▸hb)) e;have u2:=sb2.1.trans u1;clear sb2 u1 c1 z1 q1
 wp_walk using wpAny_onRaise,(D2.item k _ _ _ k2 e2)
 intro y h3 t3 py f2 sb3;have q3:IsPair h3 TO x b:=sb3.extBut _ _ (Ne.symm Z.DN) q2;have z3:IsZip h3 z TI TO .ellipsis:=sb3.extBut _ _ (Ne.symm Z.i2z) z2;have f1:S1 (k+1) h3:=D1.frame _ _ _ e1 fun b hb o e=>sb3.extBut _ _ (fun q=>Z.i2f (q▸hb)) e;have c3:∀ c o,c≠z->c≠TO->c≠i1->c≠i2->hp.get? c=some o->h3.get? c=some o:=fun c o n1 n2 n3 n4 e=>sb3.extBut _ _ n4 (c2 c o n1 n2 n3 e);have u3:=sb3.1.trans u2;clear sb3 u2 c2 z2 q2 e1 e2
 wp_walk using AutoSeq1.wpAny_loadPart' q3,(wpAny_updateSeq_pair q3)
 intro h4 q4 sb4
 replace q4:IsPair h4 TO x y:=q4
 have z4:IsZip h4 z TI TO .ellipsis:=sb4.extBut _ _ (Ne.symm Z.zTO) z3;have g1:S1 (k+1) h4:=D1.frame _ _ _ f1 fun b hb o e=>sb4.extBut _ _ (fun q=>Z.TO1 (q▸hb)) e;have g2:S2 (k+1) h4:=D2.frame _ _ _ f2 fun b hb o e=>sb4.extBut _ _ (fun q=>Z.TO2 (q▸hb)) e;have c4:∀ c o,c≠z->c≠TO->c≠i1->c≠i2->hp.get? c=some o->h4.get? c=some o:=fun c o n1 n2 n3 n4 e=>sb4.extBut _ _ n2 (c3 c o n1 n2 n3 n4 e);have u4:=sb4.1.trans u3;clear sb4 u3 c3 z3 q3 f1 f2
 wp_walk using AutoSeq1.wpAny_loadPart' q4
 have u0:h4.objs.size=hp.objs.size:=u4.trans (Heap.SameBut.update ..).1;refine⟨_,rfl,?_⟩;show Q (.ref h4.objs.size) _;have zp:IsZip (h4.push { cls:=.type "tuple",data:=.seq #[x,y].toList.toArray }) z TI TO .ellipsis:=Heap.get?_push_of_some _ z4;have zlt:z<h4.objs.size:=Heap.lt_size z4
 have up:∀ (f f':Obj->Obj) c o,c≠z->(h4.push { cls:=.type "tuple",data:=.seq #[x,y].toList.toArray }).get? c=some o->(((h4.push { cls:=.type "tuple",data:=.seq #[x,y].toList.toArray }).update z f).update z f').get? c=some o:=fun f f' c o hc e =>
  (Heap.SameBut.update ..).extBut c o hc ((Heap.SameBut.update ..).extBut c o hc e)
 have goal:=hQ x y (((h4.push { cls:=.type "tuple",data:=.seq #[x,y].toList.toArray }).update z (Obj.mapFields (·.setIfInBounds 0 (rawInt h4.objs.size)))).update z (Obj.mapFields (·.setIfInBounds 1 (.bool false)))) t3 px py ?_ ?_ ?_ ?_ ?_ ?_ ?_
 ·rw[u0]at goal ⊢;exact goal
 ·rw[<-u0];exact Heap.get?_update_self _ (Heap.get?_update_self _ zp rfl) rfl
 ·exact up _ _ _ _ Z.zTO (Heap.get?_push_of_some _ q4)
 ·exact D1.frame _ _ _ g1 fun b hb o e=>up _ _ _ _ (fun q=>Z.z1 (q▸hb)) (Heap.get?_push_of_some _ e)
 ·exact D2.frame _ _ _ g2 fun b hb o e=>up _ _ _ _ (fun q=>Z.z2 (q▸hb)) (Heap.get?_push_of_some _ e)
 ·show IsPair _ hp.objs.size x y;rw[<-u0];exact up _ _ _ _ (Nat.ne_of_gt zlt) (Heap.get?_push_size _ rfl)
 ·refine((Heap.SameBut.update ..).1.trans ((Heap.SameBut.update ..).1.trans ((Heap.size_push ..).trans ?_)));show h4.objs.size+1=hp.objs.size+1;rw[u0]
 ·exact fun c o n1 n2 n3 n4 e=>up _ _ _ _ n1 (Heap.get?_push_of_some _ (c4 c o n1 n2 n3 n4 e))
def xQ{z TI TO i1 i2:Addr}{fp1 fp2:List Addr}{n1:Nat}{P1:Nat->Value->Prop}{S1:Nat->Heap->Prop}{a b:Value}{s:Shared}{Q:Fin->Shared->Prop}(Z:f7 z TI TO i1 i2 fp1 fp2)
 (D1:Draws prog w A i1 fp1 n1 P1 S1)(hz:IsZip s.heap z TI TO .none)(hTI:IsPair s.heap TI (.ref i1) (.ref i2))(hTO:IsPair s.heap TO a b)(s1:S1 n1 s.heap)
 (hE:∀ g e,(∀ c o,c≠z->c≠i1->s.heap.get? c=some o->g.get? c=some o)->(∃ o,g.get? e=some o/\o.cls=.type "StopIteration")->E (.ref e) { s with heap:=g }) :
  wpAny (model prog w) A (Builtin.«zip.__next__» ⟨[.ref z],[]⟩) Q E s:=by
 obtain⟨hp,g,d,tk,os⟩:=s;have off:∀ (f:Obj->Obj) b o,b≠z->hp.get? b=some o->(hp.update z f).get? b=some o:=fun f b o hb e=>(Heap.SameBut.update ..).extBut b o hb e;have st1:∀ f:Obj->Obj,S1 n1 (hp.update z f):=fun f=>D1.frame n1 _ _ s1 fun b hb o e=>off f b o (fun q=>Z.z1 (q▸hb)) e;unfold Builtin.«zip.__next__»
 wp_walk using AutoSeq1.wpAny_loadPart' hz,AutoSeq1.wpAny_loadPart' hTI,wpAny_onRaise,(D1.done _ _ _ (st1 _))
 rintro h1 e eb ⟨oe,he,hce⟩;have z1:IsZip h1 z TI TO .ellipsis:=eb _ _ (Ne.symm Z.i1z) (Heap.get?_update_self _ hz rfl)
 have ez:e≠z:=fun q=>by
  rw[q,z1]at he;have:=Option.some.inj he;rw[<-this]at hce;simp at hce
 refine wpAny_setField_rec z1 (by simp) fun h2 _ sb2=>?_;exact hE h2 e (fun c o n1 n2 q=>sb2.extBut _ _ n1 (eb _ _ n2 (off _ _ _ n1 q))) ⟨oe,sb2.extBut _ _ ez he,hce⟩
end
section
variable{prog:Program}{w:World}{A:Around}{E:Value->Shared->Prop}{z TI TO i1 i2:Addr}{fp1 fp2:List Addr}{n1 n2 k:Nat}{P1 P2:Nat->Value->Prop}{S1 S2:Nat->Heap->Prop}{a b:Value}{s:Shared}
def t7{Q:Option Value->Shared->Prop}(Z:f7 z TI TO i1 i2 fp1 fp2)(D1:Draws prog w A.in1 i1 fp1 n1 P1 S1)(D2:Draws prog w A.in1 i2 fp2 n2 P2 S2)(hz:IsZip s.heap z TI TO .none)(hTI:IsPair s.heap TI (.ref i1) (.ref i2))(hTO:IsPair s.heap TO a b)(s1:S1 k s.heap)(s2:S2 k s.heap)(k1:k<n1)(k2:k<n2)
 (hQ:∀ x y g tk,P1 k x->P2 k y->IsZip g z TI TO (rawInt s.heap.objs.size)->IsPair g TO x y->S1 (k+1) g->S2 (k+1) g->IsPair g s.heap.objs.size x y->g.objs.size=s.heap.objs.size+1->(∀ c o,c≠z->c≠TO->c≠i1->c≠i2->s.heap.get? c=some o->g.get? c=some o)->Q (some (.ref s.heap.objs.size)) { s with heap:=g,toks:=tk }) :
  wpAny (model prog w) A (pyNext (.ref z)) Q E s:=by
 have hT:s.TypeIs (.ref z) "zip" := ⟨_,hz,rfl⟩
 unfold pyNext;apply wpAny_bind;apply wpAny_attempt;apply wpAny_callSpecial?_slot (name:=Str.ofString "__next__") hT F.slot_zip_next;refine wpAny_call_entry F.slot_zip_next hT F.entry_zip_next ?_ (F.args_zip_next_1 _);refine vy Z D1 D2 hz hTI hTO s1 s2 k1 k2 fun x y g tk px py q1 q2 q3 q4 q5 q6 q7=>?_;apply wpAny_pure;exact hQ x y g tk px py q1 q2 q3 q4 q5 q6 q7
def uf{Q:Option Value->Shared->Prop}(Z:f7 z TI TO i1 i2 fp1 fp2)(D1:Draws prog w A.in1 i1 fp1 n1 P1 S1)(hz:IsZip s.heap z TI TO .none)(hTI:IsPair s.heap TI (.ref i1) (.ref i2))(hTO:IsPair s.heap TO a b)(s1:S1 n1 s.heap)
 (hQ:∀ g,(∀ c o,c≠z->c≠i1->s.heap.get? c=some o->g.get? c=some o)->Q none { s with heap:=g }):wpAny (model prog w) A (pyNext (.ref z)) Q E s:=by
 have hT:s.TypeIs (.ref z) "zip" := ⟨_,hz,rfl⟩
 unfold pyNext;apply wpAny_bind;apply wpAny_attempt;apply wpAny_callSpecial?_slot (name:=Str.ofString "__next__") hT F.slot_zip_next;refine wpAny_call_entry F.slot_zip_next hT F.entry_zip_next ?_ (F.args_zip_next_1 _);refine xQ Z D1 hz hTI hTO s1 fun g e hk ⟨o,he,hc⟩=>?_;apply wpAny_bind;refine wpAny_isInstance (T := "StopIteration") (b:=true) ⟨_,he,hc⟩ isSubtype_stop ?_;apply wpAny_pure;exact hQ g hk
end
section
variable{s:Shared}
def tu(hh:A.handled=some (.ref x))(hd:ox.data=.fields xs)(h2:xs[2]?=some .none)(nx:x≠it)(hne:l≠it)(its:Array Value) :
  Draws prog w A it [it,l,x] its.size (fun i v=>its[i]?=some v) (fun i h=>(h.IsListIter it l i/\h.IsList l its)/\h.get? x=some ox) where
 live:=fun _ _ st=>let ⟨o,ho,_⟩:=st.1.1;⟨o,ho⟩
 frame:=fun _ _ _ st hk=>⟨⟨st.1.1.at fun o e=>hk it (by simp) o e,st.1.2.at fun o e=>hk l (by simp) o e⟩,hk x (by simp) _ st.2⟩
 item:=fun i s Q E hi st hQ=>wpAny_nextOf_list_item st.1.1 st.1.2 (x:=its[i]) (by simp[hi]) fun h' hit' hs'=>hQ _ h' s.toks (by simp[hi]) ⟨⟨hit',st.1.2.extBut hs'.extBut hne⟩,(hs'.2 x nx).trans st.2⟩ hs'
 done:=fun s Q E st hE=>kQ (.inr ⟨x,ox,xs,hh,st.2,hd,h2⟩) (fun q=>by rw[hh]at q;cases q;exact nx rfl) st.1.1 st.1.2 (by simp) hE
def qH(hh:A.handled=some (.ref x))(hd:ox.data=.fields xs)(h2:xs[2]?=some .none)(nx:x≠it)(hne:l≠it)(its:Array Value) :
  Draws prog w A it [it,l,x] its.size (fun i v=>its[i]?=some v) (fun i h=>(h.IsTupleIter it l i/\h.IsTuple l its)/\h.get? x=some ox) where
 live:=fun _ _ st=>let ⟨o,ho,_⟩:=st.1.1;⟨o,ho⟩
 frame:=fun _ _ _ st hk=>by
  obtain⟨⟨⟨o1,e1,r1⟩,⟨o2,e2,r2⟩⟩,e3⟩:=st;exact⟨⟨⟨o1,hk it (by simp) _ e1,r1⟩,⟨o2,hk l (by simp) _ e2,r2⟩⟩,hk x (by simp) _ e3⟩
 item:=fun i s Q E hi st k=>lQ st.1.1 st.1.2 (x:=its[i]) (by simp[hi]) fun g g1 g2=>k its[i] g s.toks (by simp[hi]) ⟨⟨g1,st.1.2.extBut g2.extBut hne⟩,(g2.2 x nx).trans st.2⟩ g2
 done:=fun s Q E st hE=>oB (.inr ⟨x,ox,xs,hh,st.2,hd,h2⟩) (fun q=>by rw[hh]at q;cases q;exact nx rfl) st.1.1 st.1.2 (by simp) hE
end
section
end
inductive SK where
 | t
 | l
 | f (o:Obj)
abbrev SK.tp:SK->Bool
 | .t=>true
 | _=>false
abbrev bL:SK->List V->HO
 | .t,xs=>.tup xs
 | .l,xs=>.lst xs
 | .f o,xs=>.frz o (.lst xs)
def oN{K:PySem.W.Frag}{k:SK}{H:Hp}(h:k.tp=false)(hx:H l=some (bL k xs)):SqL K H l xs:=by
 cases k with
 | t=>cases h
 | l=>exact SqL.of hx
 | f o=>exact .inl (.inr ⟨o,hx⟩)
def oC{k:SK}{H:Hp}(h:k.tp=true)(hx:H l=some (bL k xs)):H l=some (.tup xs):=by
 cases k with
 | t=>exact hx
 | l=>cases h
 | f o=>cases h
abbrev eZ(t:Bool)(it l:Addr)(i:Nat)(h:Heap):Prop:=if t then h.IsTupleIter it l i else h.IsListIter it l i
def eZ.obj(st:eZ t it l i h):∃ o,h.get? it=some o/\∀ v,o.data≠.cell v:=by
 cases t with
 | true=>exact let ⟨o,ho,_,hd⟩:=(show h.IsTupleIter it l i from st);⟨o,ho,fun v q=>by rw[hd]at q;cases q⟩
 | false=>exact let ⟨o,ho,_,hd⟩:=(show h.IsListIter it l i from st);⟨o,ho,fun v q=>by rw[hd]at q;cases q⟩
def eZ.keep(st:eZ t it l i h)(k:∀ o,h.get? it=some o->h'.get? it=some o):eZ t it l i h':=by
 cases t with
 | true=>exact let ⟨o,ho,r⟩:=(show h.IsTupleIter it l i from st);⟨o,k o ho,r⟩
 | false=>exact(show h.IsListIter it l i from st).at fun o q=>k o q
def eJ{k:SK}(I:Inv X pins σ H s)(hi:H it=none)(hx0:H l=some (bL k xs))(ht:k.tp=t) :
  ∃ (fp:List Addr) (Pv:Nat->Value->Prop) (St:Nat->Heap->Prop),Draws X.prog X.w X.A.in1 it fp xs.length Pv St/\(∀ b∈fp,b=it\/H b≠none)/\(∀ i,eZ t it l i s.heap->St i s.heap)/\(∀ i h,St i h->eZ t it l i h)/\∀ i v,Pv i v->∃ x,xs[i]?=some x/\RelV x v:=by
 have back:∀ {its:List Value},Vals xs its->∀ (i:Nat) (v:Value),its.toArray[i]?=some v->∃ x,xs[i]?=some x/\RelV x v:=fun {its} rv i v hv=>by
  have hv:its[i]?=some v:=by simpa using hv
  have hlt:i<xs.length:=by rw[rv.length];exact(List.getElem?_eq_some_iff.mp hv).1
  obtain⟨u,h1,h2⟩:=rv.get (i:=i) (x:=xs[i]) (by simp[hlt]);rw[hv]at h1;cases h1;exact⟨xs[i],by simp[hlt],h2⟩
 have two:∀ {u:HO},H l=some u->∀ b∈[it,l],b=it\/H b≠none:=fun {u} e b hb=>by
  rcases List.mem_cons.mp hb with z | z
  ·exact .inl z
  ·rw[List.mem_singleton.mp z,e]
   exact .inr fun z=>nomatch z
 rcases I.ok.hd.2 with hh | ⟨x,ox,ux,ws,hh,g1,g2,g3⟩
 ·cases t with
  |true=>
   have hx:H l=some (.tup xs):=oC ht hx0;obtain⟨its,rv,p,hz⟩:=I.tuple (SqT.of hx);have D:=m5.draws (prog:=X.prog) (w:=X.w) (A:=X.A.in1) hh it l (a5 hx hi) its.toArray;rw[show its.toArray.size=xs.length by rw[List.size_toArray,rv.length]]at D;exact⟨_,_,_,D,two hx,fun i st=>⟨st,p⟩,fun i h st=>st.1,back rv⟩
  |false=>
   have hx:=hx0;obtain⟨its,rv,p,hz⟩:=I.list (oN ht hx);have D:=Draws.list (prog:=X.prog) (w:=X.w) (A:=X.A.in1) hh it l (a5 hx hi) its.toArray;rw[show its.toArray.size=xs.length by rw[List.size_toArray,rv.length]]at D;exact⟨_,_,_,D,two hx,fun i st=>⟨st,p.isList⟩,fun i h st=>st.1,back rv⟩
 ·have hxx:=I.base.dO _ _ _ g1;have hxo:s.heap.get? x=some ox:=(I.hok _ _ hxx).1;have nx:x≠it:=a5 hxx hi
  have three:∀ {u:HO},H l=some u->∀ b∈[it,l,x],b=it\/H b≠none:=fun {u} e b hb=>by
   simp only[List.mem_cons,List.mem_nil_iff,or_false]at hb;rcases hb with z | z | z
   ·exact .inl z
   ·rw[z,e]
    exact .inr fun z=>nomatch z
   ·rw[z,hxx]
    exact .inr fun z=>nomatch z
  cases t with
  |true=>
   have hx:H l=some (.tup xs):=oC ht hx0;obtain⟨its,rv,p,hz⟩:=I.tuple (SqT.of hx);have D:=qH (prog:=X.prog) (w:=X.w) (A:=X.A.in1) hh g2 g3 nx (a5 hx hi) its.toArray;rw[show its.toArray.size=xs.length by rw[List.size_toArray,rv.length]]at D;exact⟨_,_,_,D,three hx,fun i st=>⟨⟨st,p⟩,hxo⟩,fun i h st=>st.1.1,back rv⟩
  |false=>
   have hx:=hx0;obtain⟨its,rv,p,hz⟩:=I.list (oN ht hx);have D:=tu (prog:=X.prog) (w:=X.w) (A:=X.A.in1) hh g2 g3 nx (a5 hx hi) its.toArray;rw[show its.toArray.size=xs.length by rw[List.size_toArray,rv.length]]at D;exact⟨_,_,_,D,three hx,fun i st=>⟨⟨st,p.isList⟩,hxo⟩,fun i h st=>st.1.1,back rv⟩
abbrev Itz(t1 t2:SK)(l1 l2:Addr):It :=
 ⟨fun i H=>∃ xs ys x y,H l1=some (bL t1 xs)/\H l2=some (bL t2 ys)/\xs[i]?=some x/\ys[i]?=some y,
   fun i H v H'=>∃ p x y,H p=none/\v=.ref p/\H'=upd H p (.tup [x,y])/\(∀ xs,H l1=some (bL t1 xs)->xs[i]?=some x)/\∀ ys,H l2=some (bL t2 ys)->ys[i]?=some y,
   fun i H=>∃ xs ys,H l1=some (bL t1 xs)/\H l2=some (bL t2 ys)/\xs.length=i/\ys.length=i⟩
def nv(h:bL t xs=bL t ys):xs=ys:=by
 cases t with
 | t=>injection h
 | l=>injection h
 | f o=>injection h with _ h;injection h
def sX{P:Program}{w:World}{K:PySem.W.Frag}{elts:List Expr}{kx:Nat}{tp:Pos}{t1 t2:SK}{z TI TO i1 i2 l1 l2:Addr}(n1:TI≠z)(n2:TO≠z)(n3:TI≠TO)(n4:i1≠z)(n5:i2≠z)(n6:i1≠TO)(n7:i2≠TO)(n8:i1≠i2)(n9:i1≠TI)(n10:i2≠TI) :
  j5 (fun _=>True) P w K (.Tuple elts kx tp) (Itz t1 t2 l1 l2) [z,TI,TO,i1,i2] z (fun i h=>IsZip h z TI TO .none/\IsPair h TI (.ref i1) (.ref i2)/\(∃ a b,IsPair h TO a b)/\eZ t1.tp i1 l1 i h/\eZ t2.tp i2 l2 i h) where
 mem:=by simp
 obj:=fun i h st b hb=>by
  obtain⟨h1,h2,⟨a,c,h3⟩,h4,h5⟩:=st;simp only[List.mem_cons,List.mem_nil_iff,or_false]at hb;rcases hb with rfl | rfl | rfl | rfl | rfl
  ·exact⟨_,h1,fun v q=>by cases q⟩
  ·exact⟨_,h2,fun v q=>by cases q⟩
  ·exact⟨_,h3,fun v q=>by cases q⟩
  ·exact h4.obj
  ·exact h5.obj
 keep:=fun i h h' st k=>by
  obtain⟨h1,h2,⟨a,c,h3⟩,h4,h5⟩:=st;exact⟨k z (by simp) _ h1,k TI (by simp) _ h2,⟨a,c,k TO (by simp) _ h3⟩,h4.keep fun o q=>k i1 (by simp) o q,h5.keep fun o q=>k i2 (by simp) o q⟩
 item:=by
  intro X hP hw hK hc i pins s σ H E I hf st hg;subst hP hw hK;obtain⟨h1,h2,⟨a,c,h3⟩,h4,h5⟩:=st;obtain⟨xs,ys,x,y,hx,hy,ex,ey⟩:=hg;have f:∀ b∈[z,TI,TO,i1,i2],H b=none:=fun b hb=>(hf b hb).1;obtain⟨fp1,Pv1,St1,D1,m1,a1,a2,a3⟩:=eJ I (f i1 (by simp)) hx rfl;obtain⟨fp2,Pv2,St2,D2,m2,b1,b2,b3⟩:=eJ I (f i2 (by simp)) hy rfl;have no:∀ {fp:List Addr} {i b:Addr},(∀ b∈fp,b=i\/H b≠none)->b∈[z,TI,TO,i1,i2]->b≠i->b∉fp:=fun m hb n z=>(m _ z).elim n fun q=>q (f _ hb)
  have Z:f7 z TI TO i1 i2 fp1 fp2:=⟨n1,n2,n3,n4,n5,n6,n7,n8,no m1 (by simp) (Ne.symm n4),no m2 (by simp) (Ne.symm n5),no m1 (by simp) (Ne.symm n6),no m2 (by simp) (Ne.symm n7),no m2 (by simp) n8,no m1 (by simp) (Ne.symm n8)⟩
  refine t7 Z D1 D2 h1 h2 h3 (a1 i h4) (b1 i h5) (List.getElem?_eq_some_iff.mp ex).1 (List.getElem?_eq_some_iff.mp ey).1 fun u v g tk pu pv g1 g2 g3 g4 g5 g6 g7=>?_;obtain⟨x',ex',rx⟩:=a3 i u pu;obtain⟨y',ey',ry⟩:=b3 i v pv;rw[ex]at ex';rw[ey]at ey';cases ex';cases ey';refine⟨.ref s.heap.objs.size,rfl,wpAny_letOwnedTupleGo_zip g1 fun g' gz' sb=>?_⟩;have hn:H s.heap.objs.size=none:=I.hok.fresh (Nat.le_refl _)
  have I1:Inv X pins σ (upd H s.heap.objs.size (.tup [x,y])) { s with heap:=s.heap.push { cls:=.type "tuple",data:=.seq #[u,v] },toks:=tk } :=
   I.laid (t':=tk) (fun b o q=>Heap.get?_push_of_some _ q) (Nat.le_refl _) ⟨by show 2<=sizeLine;decide,[u,v],.cons rx (.cons ry .nil),⟨_,Heap.get?_push_size _ rfl,rfl,_,rfl⟩⟩
  have lt:∀ b∈[z,TI,TO,i1,i2],b≠s.heap.objs.size:=fun b hb=>by
   have:∃ o,s.heap.get? b=some o:=by
    simp only[List.mem_cons,List.mem_nil_iff,or_false]at hb;rcases hb with rfl | rfl | rfl | rfl | rfl
    ·exact⟨_,h1⟩
    ·exact⟨_,h2⟩
    ·exact⟨_,h3⟩
    ·exact let ⟨o,q,_⟩:=h4.obj;⟨o,q⟩
    ·exact let ⟨o,q,_⟩:=h5.obj;⟨o,q⟩
   obtain⟨o,q⟩:=this;exact Nat.ne_of_lt (Heap.lt_size q)
  have stat:∀ b∈[z,TI,TO,i1,i2],upd H s.heap.objs.size (.tup [x,y]) b=none/\(b∈X.ex\/X.s₀.heap.objs.size<=b)/\b≠X.env.locals/\(∀ x c,X.env.cells.lookup x=some c->c≠b)/\∀ p∈X.pn++pins,p.1≠b:=fun b hb=>by
   obtain⟨f0,f1,f2,f3,f4,f5⟩:=hf b hb;exact⟨by rw[a6 (lt b hb)];exact f0,f3,f1,f4,f5⟩
  have I2:Inv X pins σ (upd H s.heap.objs.size (.tup [x,y])) { s with heap:=g',toks:=tk }:=by
   refine Inv.kl (s:={ s with heap:=s.heap.push { cls:=.type "tuple",data:=.seq #[u,v] },toks:=tk }) (h':=g') (t':=tk) (fp:=[z,TI,TO,i1,i2]) I1 (fun b o hb q=>?_) stat;simp only[List.mem_cons,List.mem_nil_iff,or_false,not_or]at hb;refine sb.extBut b o hb.1 ?_;by_cases hbT:b=s.heap.objs.size
   ·subst hbT;have q':(s.heap.push { cls:=.type "tuple",data:=.seq #[u,v] }).get? s.heap.objs.size=some o:=q;rw[Heap.get?_push_size _ rfl]at q';cases q';exact g5
   ·exact g7 b o hb.1 hb.2.2.1 hb.2.2.2.1 hb.2.2.2.2 ((Heap.get?_push_ne _ _ _ hbT).symm.trans q)
  have kp:∀ b∈[TI,TO,i1,i2],∀ o,g.get? b=some o->g'.get? b=some o:=fun b hb o q=>sb.extBut b o (fun e=>by
   subst e;simp only[List.mem_cons,List.mem_nil_iff,or_false]at hb;rcases hb with e | e | e | e
   ·exact n1 e.symm
   ·exact n2 e.symm
   ·exact n4 e.symm
   ·exact n5 e.symm) q
  refine⟨.ref s.heap.objs.size,_,I2,rfl,⟨s.heap.objs.size,x,y,hn,rfl,rfl,fun xs' hx'=>?_,fun ys' hy'=>?_⟩,⟨gz',kp TI (by simp) _ (g7 TI _ n1 n3 (Ne.symm n9) (Ne.symm n10) h2),⟨u,v,kp TO (by simp) _ g2⟩,(a2 _ _ g3).keep fun o q=>kp i1 (by simp) o q,(b2 _ _ g4).keep fun o q=>kp i2 (by simp) o q⟩,fun b hb=>(stat b hb).1⟩
  ·rw[hx]at hx';rw[<-nv (Option.some.inj hx')];exact ex
  ·rw[hy]at hy';rw[<-nv (Option.some.inj hy')];exact ey
 done:=by
  intro X hP hw hK hc i pins s σ H E I hf st hg;subst hP hw hK;obtain⟨h1,h2,⟨a,c,h3⟩,h4,h5⟩:=st;obtain⟨xs,ys,hx,hy,ex,ey⟩:=hg;have f:∀ b∈[z,TI,TO,i1,i2],H b=none:=fun b hb=>(hf b hb).1;obtain⟨fp1,Pv1,St1,D1,m1,a1,a2,a3⟩:=eJ I (f i1 (by simp)) hx rfl;obtain⟨fp2,_,_,_,m2,_⟩:=eJ I (f i2 (by simp)) hy rfl;have no:∀ {fp:List Addr} {i b:Addr},(∀ b∈fp,b=i\/H b≠none)->b∈[z,TI,TO,i1,i2]->b≠i->b∉fp:=fun m hb n z=>(m _ z).elim n fun q=>q (f _ hb)
  have Z:f7 z TI TO i1 i2 fp1 fp2:=⟨n1,n2,n3,n4,n5,n6,n7,n8,no m1 (by simp) (Ne.symm n4),no m2 (by simp) (Ne.symm n5),no m1 (by simp) (Ne.symm n6),no m2 (by simp) (Ne.symm n7),no m2 (by simp) n8,no m1 (by simp) (Ne.symm n8)⟩
  subst ex
  refine uf Z D1 h1 h2 h3 (a1 _ h4) fun g hk=>⟨rfl,?_⟩
  refine Inv.kl (h':=g) (t':=s.toks) (fp:=[z,i1]) I (fun b o hb q=>?_) fun b hb=>?_
  ·simp only[List.mem_cons,List.mem_nil_iff,or_false,not_or]at hb;exact hk b o hb.1 hb.2 q
  ·have hb':b∈[z,TI,TO,i1,i2]:=by
    simp only[List.mem_cons,List.mem_nil_iff,or_false]at hb ⊢;rcases hb with q | q
    ·exact .inl q
    ·exact .inr (.inr (.inr (.inl q)))
   obtain⟨f0,f1,f2,f3,f4,f5⟩:=hf b hb';exact⟨f0,f3,f1,f4,f5⟩
 self:=fun A i s Q E st h=>wpAny_pyIter_zip st.1 h
def j5.calm{P:Program}{w:World}{K:PySem.W.Frag}(T:j5 (fun _=>True) P w K tg J fp it tn):Turn P w K tg J fp it tn where
 mem:=T.mem
 obj:=T.obj
 keep:=T.keep
 item:=fun X a b c hc i pins s σ H E I=>T.item X a b c trivial i pins s σ H E I
 done:=fun X a b c hc i pins s σ H E I=>T.done X a b c trivial i pins s σ H E I
 self:=T.self
def PI'.calm(h:PI' (fun _=>True) X tg iter wi):PI X tg iter wi:=fun pins s σ H R I q =>
 thn (h pins s σ H R I q) fun v s1 h1=>thn h1 fun itv s2 ⟨it,fp,tn,J,H',e,I',T,r⟩=>⟨it,fp,tn,J,H',e,I',T.calm,r⟩
abbrev bD(t:Bool)(l:Addr):Obj:=if t then { cls:=.type "tuple_iterator",data:=.fields #[.ref l,rawInt 0] } else { cls:=.type "list_iterator",data:=.fields #[.ref l,.int 0 0] }
def mF(e:h.get? it=some (bD t l)):eZ t it l 0 h:=by
 cases t with
 | true=>exact⟨_,e,rfl,rfl⟩
 | false=>exact⟨_,e,rfl,rfl⟩
def mH{t:SK}(I:Inv X pins σ H s)(hx:H l=some (bL t xs))(q:Q (.ref s.heap.objs.size) { s with heap:=s.heap.push (bD t.tp l) }):wpAny (model X.prog X.w) A (pyIter (.ref l)) Q E s:=by
 cases t with
 |t=>
  obtain⟨its,rv,p,hz⟩:=I.tuple (SqT.of (show H l=some (.tup xs)from hx));exact wpAny_pyIter_tuple p q
 |l=>
  obtain⟨its,rv,p,hz⟩:=I.list (SqL.of (show H l=some (.lst xs)from hx));exact wpAny_pyIter_list p.isList q
 |f o=>
  obtain⟨its,rv,p,hz⟩:=I.list (show SqL X.K H l xs from .inl (.inr ⟨o,hx⟩));exact wpAny_pyIter_list p.isList q
section
abbrev Dc(ta:TA):TI:=fun σ H R=>ta σ H fun vs H1=>∃ t1 t2 l1 l2 xs ys,vs=[.ref l1,.ref l2]/\H1 l1=some (bL t1 xs)/\H1 l2=some (bL t2 ys)/\R (Itz t1 t2 l1 l2) H1
def far(n a b:Nat)(h:a≠b):n+a≠n+b:=fun q=>h (Nat.add_left_cancel q)
def r9:bootBuiltins "zip" = some (.type "zip"):=by decide +kernel
def yl(hg:Gl X "zip")(hm:X.mg "zip" = none)(ha:PA X [a,b] ta)(hs:starEach [a,b] X.env=[(false,eval a X.env),(false,eval b X.env)])(hs2:starEach [b] X.env=[(false,eval b X.env)]):PI' (fun _=>True) X (.Tuple elts kx tp) (.Call (.Name "zip" p) [a,b] [] pos) (Dc ta):=by
 intro pins s0 σ H0 R I0 h;refine Call_ (dN I0 hg hm r9 (PyProof.Rows.callWith_type1 (thn (ha pos pins s0 σ H0 _ I0 h) fun us s ⟨vs,H,I,r1,q1⟩=>?_) (by rw[hs,hs2]) (by rw[hs2];rfl)) (by decide) (by decide));obtain⟨t1,t2,l1,l2,xs,ys,rfl,hx,hy,q⟩:=q1
 cases r1 with
 |cons r rr=>
  cases rr with
  |cons r2 rr=>
   cases rr;cases r;cases r2;have I1:Inv X pins σ H { s with heap:=s.heap.push (bD t1.tp l1) }:=I.kept (t':=s.toks) fun b o e=>Heap.get?_push_of_some _ e
   refine xZ (S1:=fun it z1=>it=s.heap.objs.size/\z1={ s with heap:=s.heap.push (bD t1.tp l1) }) (S2:=fun it jt z2=>it=s.heap.objs.size/\jt=(s.heap.push (bD t1.tp l1)).objs.size/\z2={ s with heap:=(s.heap.push (bD t1.tp l1)).push (bD t2.tp l2) })
    (fun A=>mH I hx ⟨_,rfl,rfl,rfl⟩) (fun it z1 h1 A=>?_) fun it jt z2 h2=>?_
   ·obtain⟨rfl,rfl⟩:=h1;exact mH I1 hy ⟨_,rfl,rfl,rfl,rfl⟩
   ·obtain⟨rfl,rfl,rfl⟩:=h2;have z1:(s.heap.push (bD t1.tp l1)).objs.size=s.heap.objs.size+1:=Heap.size_push ..;generalize e1:s.heap.push (bD t1.tp l1)=g1 at *
    have p1:g1.get? s.heap.objs.size=some (bD t1.tp l1):=by
     rw[<-e1];exact Heap.get?_push_size _ (by cases t1<;>rfl)
    have k1:∀ b o,s.heap.get? b=some o->g1.get? b=some o:=fun b o e=>by rw[<-e1];exact Heap.get?_push_of_some _ e
    have z2:(g1.push (bD t2.tp l2)).objs.size=s.heap.objs.size+2:=by rw[Heap.size_push,z1]
    have p2:(g1.push (bD t2.tp l2)).get? (s.heap.objs.size+1)=some (bD t2.tp l2):=by
     rw[<-z1];exact Heap.get?_push_size _ (by cases t2<;>rfl)
    have k2:∀ b o,g1.get? b=some o->(g1.push (bD t2.tp l2)).get? b=some o:=fun b o e=>Heap.get?_push_of_some _ e;generalize e2:g1.push (bD t2.tp l2)=g2 at *;dsimp only;rw[z1]
    have z3:(g2.push { cls:=.type "tuple",data:=.seq #[.ref s.heap.objs.size,.ref (s.heap.objs.size+1)] }).objs.size=s.heap.objs.size+3:=by rw[Heap.size_push,z2]
    have p3:(g2.push { cls:=.type "tuple",data:=.seq #[.ref s.heap.objs.size,.ref (s.heap.objs.size+1)] }).get? (s.heap.objs.size+2)=some { cls:=.type "tuple",data:=.seq #[.ref s.heap.objs.size,.ref (s.heap.objs.size+1)] }:=by
     rw[<-z2];exact Heap.get?_push_size _ rfl
    have k3:∀ b o,g2.get? b=some o->(g2.push { cls:=.type "tuple",data:=.seq #[.ref s.heap.objs.size,.ref (s.heap.objs.size+1)] }).get? b=some o:=fun b o e=>Heap.get?_push_of_some _ e;rw[z2];generalize e3:g2.push { cls:=.type "tuple",data:=.seq #[.ref s.heap.objs.size,.ref (s.heap.objs.size+1)] }=g3 at *;rw[z3]
    have z4:(g3.push { cls:=.type "tuple",data:=.seq #[.none,.none] }).objs.size=s.heap.objs.size+4:=by rw[Heap.size_push,z3]
    have p4:(g3.push { cls:=.type "tuple",data:=.seq #[.none,.none] }).get? (s.heap.objs.size+3)=some { cls:=.type "tuple",data:=.seq #[.none,.none] }:=by
     rw[<-z3];exact Heap.get?_push_size _ rfl
    have k4:∀ b o,g3.get? b=some o->(g3.push { cls:=.type "tuple",data:=.seq #[.none,.none] }).get? b=some o:=fun b o e=>Heap.get?_push_of_some _ e;generalize e4:g3.push { cls:=.type "tuple",data:=.seq #[.none,.none] }=g4 at *;rw[z4]
    have p5:(g4.push { cls:=.type "zip",data:=.fields #[.none,.bool false,.bool false,.ref (s.heap.objs.size+2),.ref (s.heap.objs.size+3)] }).get? (s.heap.objs.size+4)=some { cls:=.type "zip",data:=.fields #[.none,.bool false,.bool false,.ref (s.heap.objs.size+2),.ref (s.heap.objs.size+3)] }:=by
     rw[<-z4];exact Heap.get?_push_size _ rfl
    have k5:∀ b o,g4.get? b=some o->(g4.push { cls:=.type "zip",data:=.fields #[.none,.bool false,.bool false,.ref (s.heap.objs.size+2),.ref (s.heap.objs.size+3)] }).get? b=some o:=fun b o e=>Heap.get?_push_of_some _ e;generalize e5:g4.push { cls:=.type "zip",data:=.fields #[.none,.bool false,.bool false,.ref (s.heap.objs.size+2),.ref (s.heap.objs.size+3)] }=g5 at *
    refine wpAny_pyIter_zip (TI:=s.heap.objs.size+2) (TO:=s.heap.objs.size+3) (f0:=.none) p5 ⟨s.heap.objs.size+4,[s.heap.objs.size+4,s.heap.objs.size+2,s.heap.objs.size+3,s.heap.objs.size,s.heap.objs.size+1],_,Itz t1 t2 l1 l2,H,rfl,I.kept (t':=s.toks) fun b o e=>k5 _ _ (k4 _ _ (k3 _ _ (k2 _ _ (k1 _ _ e)))),sX (far _ 2 4 (by decide)) (far _ 3 4 (by decide)) (far _ 2 3 (by decide)) (far _ 0 4 (by decide)) (far _ 1 4 (by decide)) (far _ 0 3 (by decide)) (far _ 1 3 (by decide)) (far _ 0 1 (by decide)) (far _ 0 2 (by decide)) (far _ 1 2 (by decide)),
     ⟨p5,k5 _ _ (k4 _ _ p3),⟨_,_,k5 _ _ p4⟩,mF (k5 _ _ (k4 _ _ (k3 _ _ (k2 _ _ p1)))),mF (k5 _ _ (k4 _ _ (k3 _ _ p2)))⟩,fun b hb=>?_,q⟩
    have hb':s.heap.objs.size<=b:=by
     simp only[List.mem_cons,List.mem_nil_iff,or_false]at hb
     rcases hb with rfl | rfl | rfl | rfl | rfl<;>first | exact Nat.le_refl _ | exact Nat.le_add_right _ _
    exact I.ki hb' (I.hok.fresh hb')
end
end L2
namespace RS
open PySem PySem.Spec PyProof.Rows L2
def fS:∀ (ds es:List RL.D),ds.length=es.length->(RL.eX ds es).length=ds.length
 | [],[],_=>rfl
 | [],_::_,h=>by cases h
 | _::_,[],h=>by cases h
 | d::ds,e::es,h=>by rw[RL.eX,List.length_cons,List.length_cons,fS ds es (by simpa using h)]
def m6:∀ (ds es:List RL.D) (i:Nat) (d:RL.D),(RL.eX ds es)[i]?=some d->∃ x y,ds[i]?=some x/\es[i]?=some y/\d=.tup [x,y]
 | [],es,i,d,h=>by cases es<;>simp[RL.eX]at h
 | _::_,[],i,d,h=>by simp[RL.eX]at h
 | x::ds,y::es,0,d,h=>by simp[RL.eX]at h;exact⟨x,y,rfl,rfl,h.symm⟩
 | x::ds,y::es,i+1,d,h=>by
  rw[RL.eX,List.getElem?_cons_succ]at h;obtain⟨x',y',h1,h2,h3⟩:=m6 ds es i d h;exact⟨x',y',by simpa using h1,by simpa using h2,h3⟩
def qw{K:PySem.W.Frag}(hl:ds.length=es.length)(h1:H l1=some (bL t1 xs))(h2:H l2=some (bL t2 ys))(n1:¬ P l1)(n2:¬ P l2)(r1:aa nP K H ds xs)(r2:aa nP K H es ys)(hm:∀ b o,P b->H b=some o->bq o) :
  eW K (Itz t1 t2 l1 l2) (RL.eX ds es) P H where
 go:=fun H' i k hi=>by
  rw[fS ds es hl]at hi;obtain⟨x,e,_⟩:=r1.get (i:=i) (d:=ds[i]) (by simp[hi]);obtain⟨y,e',_⟩:=r2.get (i:=i) (d:=es[i]'(by lia)) (by simp);exact⟨xs,ys,x,y,k _ _ n1 h1,k _ _ n2 h2,e,e'⟩
 stop:=fun H' k=>⟨xs,ys,k _ _ n1 h1,k _ _ n2 h2,by rw[fS ds es hl,r1.length],by rw[fS ds es hl,hl,r2.length]⟩
 yld:=fun H' i d v H2 k e y=>by
  obtain⟨p,x,w,hp,rfl,rfl,hx,hw⟩:=y;obtain⟨dx,dw,g1,g2,rfl⟩:=m6 ds es i d e;obtain⟨x',g3,g4⟩:=r1.get g1;obtain⟨w',g5,g6⟩:=r2.get g2;rw[hx xs (k _ _ n1 h1)]at g3;rw[hw ys (k _ _ n2 h2)]at g5;cases g3;cases g5;refine⟨ao.aU hp,fun q=>?_⟩
  have re:Rep nP K H' dx x/\Rep nP K H' dw w:=by
   rcases q with q | q
   ·have q:(dx.imm&&(dw.imm&&true))=true:=q;rw[Bool.and_true,Bool.and_eq_true]at q;exact⟨cN hm k g4 q.1,cN hm k g6 q.2⟩
   ·exact⟨g4.same q,g6.same q⟩
  rw[Rep];exact⟨p,[x,w],rfl,a8,aa.cons (re.1.same (ao.aU hp)) (aa.cons (re.2.same (ao.aU hp)) aa.nil)⟩
def kG{P:Addr->Prop}{K:PySem.W.Frag}(h:RL.items d=some ds)(r:Rep P K H d v):∃ t l xs,v=.ref l/\H l=some (bL t xs)/\aa P K H ds xs/\(t=.l->d=.lst ds):=by
 obtain⟨p,xs,rfl,hp,rs⟩:=cT h r
 rcases hp with⟨q,rfl⟩ | ⟨q,rfl⟩ | ⟨⟨o,q⟩,rfl⟩
 ·exact⟨.l,p,xs,rfl,q,rs,fun _=>rfl⟩
 ·exact⟨.t,p,xs,rfl,q,rs,fun z=>by cases z⟩
 ·exact⟨.f o,p,xs,rfl,q,rs,fun z=>by cases z⟩
section rules
def BI(hg:Gl X "zip")(hm:X.mg "zip" = none)(ha:SE X cl a a')(hb:SE X cl b b')(hn:noStar a=true)(hn2:noStar b=true):PI' (fun _=>True) X (.Tuple elts kx tp) (.Call (.Name "zip" p) [a,b] [] pos) (tI X.K cl (.zip a' b')):=by
 intro pins s σ H R I h;obtain⟨σD,ds,rv,e,k⟩:=h;obtain⟨x,ea,e⟩:=bind_some e;obtain⟨y,eb,e⟩:=bind_some e;obtain⟨xs,e1,e⟩:=bind_some e;obtain⟨ys,e2,e⟩:=bind_some e;split at e
 ·rename_i hl;cases e;have hpa:PA X [a,b] (jy (tE X.K cl a') (jy (tE X.K cl b') pd)):=b9 ha (b9 hb cB (ay [] hn2)) (ay _ hn);refine yl hg hm hpa (by rw[ay _ hn,ay _ hn2];rfl) (ay [] hn2) pins s σ H R I ?_;refine⟨σD,x,rv,ea,fun v H1 r1=>⟨σD,y,rv.same r1.same,eb,fun u H2 r2=>?_⟩⟩;obtain⟨t1,l1,vs,rfl,h1,p1,c1⟩:=kG e1 (r1.rep.same r2.same);obtain⟨t2,l2,us,rfl,h2,p2,c2⟩:=kG e2 r2.rep;refine⟨t1,t2,l1,l2,vs,us,rfl,h1,h2,k _ _ (r1.same.trans r2.same) ⟨qw hl h1 h2 (fun z=>z) (fun z=>z) p1 p2 dk,fun M P z hP av=>?_⟩⟩;have hP2:=bR (r1.same.trans r2.same) hP;unfold RL.pb at z;rw[Bool.and_eq_true]at z
  have notT:∀ (t:SK) l zs,H2 l=some (bL t zs)->t≠.l->¬ P l:=fun t l zs hl ht q=>by
   cases t with
   | l=>exact ht rfl
   | _=>rcases hP2 l _ q hl with⟨_,q⟩ | ⟨_,q⟩ | ⟨_,q⟩<;>cases q
  refine qw hl h1 h2 ?_ ?_ p1 p2 hP2
  ·by_cases ht:t1=.l
   ·exact j6 r1 z.1 hP av _ _ (c1 ht) rfl
   ·exact notT t1 l1 vs h1 ht
  ·by_cases ht:t2=.l
   ·refine j6 r2 z.2 (fun b q=>?_) (fun j dj vj hj h3 h4=>(av j dj vj hj h3 h4).same r1.same) _ _ (c2 ht) rfl;obtain⟨o,ho,hmu⟩:=hP b q;exact⟨o,r1.same _ _ ho,hmu⟩
   ·exact notT t2 l2 us h2 ht
 ·cases e
end rules
end RS
namespace L2
open PySem PySem.Spec PyProof.Rows
def ko(xs:List α):∀ k:Nat,k<=xs.length->((List.range k).map fun(j:Nat)=>(((xs.length:Int)-1)+(-1)*(j:Int)).toNat).filterMap (xs.toArray[·]?)=xs.reverse.take k:=by
 intro k
 induction k with
 | zero=>intro _;simp
 |succ k ih=>
  intro hk;rw[List.range_succ,List.map_append,List.filterMap_append,ih (by lia),List.take_succ];congr 1
  have e1:(((xs.length:Int)-1)+(-1)*(k:Int)).toNat=xs.length-1-k:=by lia
  simp only[List.map_cons,List.map_nil,List.filterMap_cons,List.filterMap_nil,e1];rw[List.getElem?_reverse (by lia)];simp only[List.getElem?_toArray];rw[List.getElem?_eq_getElem (by omega)];rfl
def ur(its:List Value):slicePick its.toArray none none (some (-1))=its.reverse.toArray:=by
 have h:=ko its its.length (Nat.le_refl _);rw[List.take_of_length_le (by simp)]at h;unfold slicePick
 have hb:sliceBounds none none (some (-1)) its.toArray.size=((its.length:Int)-1,-1,-1):=by
  simp[sliceBounds]
 rw[hb];dsimp only;unfold sliceRange
 have hc:(if(-1:Int) > 0 then(if(its.length:Int)-1 < -1 then(-1-((its.length:Int)-1)+-1-1) / -1 else 0)else(if(its.length:Int)-1 > -1 then((its.length:Int)-1 - -1 - -1-1) / (- -1)else 0)).toNat=its.length:=by
  rw[if_neg (by decide)];rw[show(- -1:Int)=1 from rfl];split
  ·rw[Int.ediv_one];lia
  ·lia
 dsimp only;rw[hc,h]
section
def sv(n:Nat):Builtin.Slice.sliceAdjust none none (-1) (n:Int)=((n:Int)-1,-1):=by
 unfold Builtin.Slice.sliceAdjust;rfl
def pK(n:Nat):Builtin.Slice.slicePlaces ((n:Int)-1) (-1) (-1)=n:=by
 unfold Builtin.Slice.slicePlaces;rw[if_neg (by decide)];rw[show(- -1:Int)=1 from rfl];split
 ·rw[Int.ediv_one];lia
 ·lia
def i7{prog:Program}{w:World}{A:Around}{E:Value->Shared->Prop}{s:Shared}{t sl:Addr}{its:List Value}{k:Tok}{Q:Value->Shared->Prop}(ht:IsTup s.heap t its.toArray)(hs:s.heap.IsSliceOf sl .none .none (.int (-1) k))
 (h:Q (.ref s.heap.objs.size) { s with heap:=s.heap.push { cls:=.type "tuple",data:=.seq its.reverse.toArray } })
 (hsz:its.length<=sizeLine):wpAny (model prog w) A (getItem (.ref t) (.ref sl)) Q E s:=by
 have htake:sizeOk (.seq its.reverse.toArray):=by
  show its.reverse.toArray.size<=sizeLine;rw[List.size_toArray,List.length_reverse];exact hsz
 obtain⟨os,hos,hcs,hds⟩:=id hs
 have hTs:s.TypeIs (.ref sl) "slice" := ⟨os,hos,hcs⟩
 unfold getItem
 try with_reducible refine wpAny_holding ?_
 first | refine wpAny_bind (wpAny_pure ?_) | skip
 refine wpAny_bind (wpAny_sequenceKey ht.typeIs (by decide) ?_)
 refine wpAny_bind (wpAny_callSpecial?_slot (name:=Str.ofString "__getitem__") ht.typeIs PyProof.Rows.slot_tuple_getitem
  (wpAny_call_entry PyProof.Rows.slot_tuple_getitem ht.typeIs entry_tuple_getitem ?_ (args_tuple_getitem _ _)))
 show wpAny _ _ (Builtin.Tuple.tupleItemsOf (.ref t) >>= _) _ _ s;refine wpAny_bind (tupleItemsOf_ ht ?_);refine wpAny_bind (wpAny_typeOf hTs ?_);rw[if_pos (by decide)];refine wpAny_bind ?_;unfold Builtin.Slice.sliceApplied Builtin.Slice.sliceFields;refine wpAny_bind (wpAny_bind (wpAny_field hos hds (x:=.none) rfl (wpAny_bind (wpAny_field hos hds (x:=.none) rfl (wpAny_bind (wpAny_field hos hds (x:=.int (-1) k) rfl (wpAny_pure ?_)))))));refine wpAny_bind (HT.cA (.int (-1) k) ?_);show wpAny _ _ (if((-1:Int) == 0)=true then _ else _) _ _ s;rw[if_neg (by decide)];refine wpAny_bind (HT.cA .none (wpAny_bind (HT.cA .none (wpAny_bind (wpAny_pure ?_)))));show wpAny _ _ (match Builtin.Slice.sliceAdjust none none (-1) (its.toArray.size:Int)with | (lo,hi)=>pure (lo,(-1:Int),Builtin.Slice.slicePlaces lo hi (-1))) _ _ s;rw[List.size_toArray,sv];show wpAny _ _ (pure ((its.length:Int)-1,(-1:Int),Builtin.Slice.slicePlaces ((its.length:Int)-1) (-1) (-1))) _ _ s;rw[pK];refine wpAny_pure ?_;show wpAny _ _ (if(((its.length:Int)-1 == 0)&&(-1:Int) == 1&&its.length == its.toArray.size)=true then _ else _) _ _ s;rw[if_neg (by rw[show((-1:Int) == 1)=false from rfl,Bool.and_false,Bool.false_and];exact Bool.false_ne_true)]
 have pk:((List.range its.length).filterMap fun(m:Nat)=>its.toArray[((its.length:Int)-1+(m:Int)*-1).toNat]?).toArray=its.reverse.toArray:=by
  have h:=ko its its.length (Nat.le_refl _);rw[List.take_of_length_le (by simp),List.filterMap_map]at h;rw[<-h];congr 2;funext m;simp only[Function.comp];congr 2;lia
 rw[pk]
 first
  | exact wpAny_bind (m:=Builtin.Tuple.tupleExact _) (wpAny_newObj_type (wpAny_pure ⟨_,rfl,wpAny_pure h⟩) htake)
  | exact wpAny_bind (m:=Builtin.Tuple.tupleExact _) (wpAny_newObj_type (wpAny_bind (wpAny_pure (wpAny_pure ⟨_,rfl,wpAny_pure h⟩))) htake)
  | exact wpAny_bind (wpAny_bind (m:=Builtin.Tuple.tupleExact _) (wpAny_newObj_type (wpAny_pure (wpAny_pure ⟨_,rfl,wpAny_pure h⟩)) htake))
  | exact wpAny_bind (wpAny_bind (m:=Builtin.Tuple.tupleExact _) (wpAny_newObj_type (wpAny_pure ⟨_,rfl,wpAny_pure h⟩) htake))
abbrev D8(K:PySem.W.Frag)(te:TE):TE:=fun σ H Q=>te σ H fun x H1=>∃ a xs,x=.ref a/\((SqL K H1 a xs/\∀ p,H1 p=none->Q (.ref p) (upd H1 p (.lst xs.reverse)))\/(SqT K H1 a xs/\∀ p,H1 p=none->Q (.ref p) (upd H1 p (.tup xs.reverse))))
def Bl(h3:PE X e3 (tC (.int (-1))))(he:PE X e te):PE X (.Subscript e (.Slice none none (some e3) p2) pos) (D8 X.K te):=by
 intro pins s σ H Q I h;refine Subscript_ (thn (he pins s σ H _ I h) fun v s1 ⟨x,H1,I1,r1,q1⟩=>?_);refine wpAny_Slice ?_;rw[evalPart_none];refine wpAny_pure (wpAny_pure ?_);rw[evalPart_some];refine thn (h3 pins s1 σ H1 (fun y H2=>y=.int (-1)/\H2=H1) I1 ⟨rfl,rfl⟩) fun vs s3 ⟨y,H3,I3,r3,q3⟩=>?_;obtain⟨rfl,rfl⟩:=q3;obtain⟨t,rfl⟩:=r3;obtain⟨a,xs,rfl,q⟩:=q1;cases r1;have I4:Inv X pins σ H3 { s3 with heap:=s3.heap.push { cls:=.type "slice",data:=.fields #[.none,.none,.int (-1) t] } }:=I3.kept (t':=s3.toks) fun b ob q=>Heap.get?_push_of_some _ q;show wpAny (model X.prog X.w) X.A (subscriptTail e (.Slice none none (some e3) p2) (.ref a) (.ref s3.heap.objs.size)) (EP X pins σ Q) X.xe { s3 with heap:=s3.heap.push { cls:=.type "slice",data:=.fields #[.none,.none,.int (-1) t] } }
 rcases q with⟨hx,q⟩ | ⟨hx,q⟩
 ·obtain⟨its,r,ht,hz⟩:=I4.list hx;have hlen:=r.length;refine tail_any (ops:=[.ref a,.ref s3.heap.objs.size]) ht.isList.typeIs slot_list_getitem.lookup ?_ (by with_unfolding_all rfl);refine wpAny_getItem_list_slice ht.isList (Heap.IsSliceOf.new ..) .none .none (.int (-1) t) (by simp) ?_ (by rw[List.size_toArray]<;>lia);rw[ur];refine⟨.ref _,_,I4.laid (t':=s3.toks) (o:=.lst xs.reverse) (fun b ob q=>Heap.get?_push_of_some _ q) (Nat.le_refl _) ?_,rfl,q _ (I4.hok.fresh (Nat.le_refl _))⟩;exact⟨by rw[List.length_reverse];exact hz,_,0,r.reverse,Heap.get?_push_size _ rfl⟩
 ·obtain⟨its,r,ht,hz⟩:=I4.tuple hx;have hlen:=r.length;refine tail_any (ops:=[.ref a,.ref s3.heap.objs.size]) ht.typeIs PyProof.Rows.slot_tuple_getitem.lookup ?_ (by with_unfolding_all rfl);refine i7 ht (Heap.IsSliceOf.new ..) ?_ (by lia);refine⟨.ref _,_,I4.laid (t':=s3.toks) (o:=.tup xs.reverse) (fun b ob q=>Heap.get?_push_of_some _ q) (Nat.le_refl _) ?_,rfl,q _ (I4.hok.fresh (Nat.le_refl _))⟩;exact⟨by rw[List.length_reverse];exact hz,_,r.reverse,IsTup.new _ _⟩
end
end L2
namespace RS
open PySem PySem.Spec PyProof.Rows L2
section
def zT(ha:SE X cl a a')(h3:lr (-1) e3=true):SE X cl (.Subscript a (.Slice none none (some e3) p2) pos) (.rev a'):=by
 refine PE.weak (Bl (xI h3).1 ha) fun σ H Q h=>?_;obtain⟨σD,d,rv,e,k⟩:=h;obtain⟨x,ea,e⟩:=bind_some e;refine⟨σD,x,rv,ea,fun v H1 r1=>?_⟩
 cases x with
 |lst xs=>
  cases e;obtain⟨q,ys,rfl,_,f2,f3⟩:=au r1.rep;exact⟨q,ys,rfl,.inl ⟨SqL.of f2,fun l hl=>k _ _ (bf r1.same hl f3.rev fun _=>rfl)⟩⟩
 |tup xs=>
  cases e;obtain⟨q,ys,rfl,f2,f3⟩:=aD r1.rep;exact⟨q,ys,rfl,.inr ⟨SqT.of f2,fun l hl=>k _ _ (cP r1.same hl f3.rev fun _=>rfl)⟩⟩
 | _=>cases e
def ue{c:Expr}{body:List Stmt}{b:RL.Ss}(hx:X.xe=fun _ _=>False)(hc:ST X cl c c')(hb:SSs X cl M body b):SS X cl M (.While c body [] pos) (.whil c' b):=by
 refine PS.weak (tj (by rw[hx];exact PassesOwn.never) hc hb) fun D σ H h=>?_;obtain⟨σD,r,σD',rv,e,k⟩:=h;refine⟨fun m σ2 H2=>∃ σD2,RVm X.K M σD2 σ2 H2/\Fr' M σ H σ2 H2/\RL.whF (fun σ=>(RL.ev cl σ c').bind RL.truth) (RL.ak cl M b) m σD2=some (r,σD'),⟨_,σD,rv,Fr'.same (ao.refl _),e⟩,?_⟩;rintro m σ2 H2 ⟨σD2,rv2,fr2,hl⟩
 cases m with
 | zero=>rw[RL.whF]at hl;cases hl
 |succ m=>
  rw[RL.whF]at hl;obtain⟨t,e1,hl⟩:=bind_some hl;refine⟨σD2,t,rv2.rv0,e1,fun H3 s3=>?_⟩;have fr3:=fr2.trans (Fr'.same (M:=M) (σ:=σ2) s3)
  cases t with
  |true=>
   rw[if_pos rfl]at hl;dsimp only;rw[if_pos rfl];obtain⟨⟨o,σD3⟩,e2,hl⟩:=bind_some hl;refine⟨fun σ' H'=>∃ m',m'<m+1/\∃ σDx,RVm X.K M σDx σ' H'/\Fr' M σ H σ' H'/\RL.whF (fun σ=>(RL.ev cl σ c').bind RL.truth) (RL.ak cl M b) m' σDx=some (r,σD'),fun _ _ h=>h,σD2,o,σD3,rv2.same s3,e2,?_⟩
   cases o with
   | nx=>exact fun σ' H' rv' fr'=>⟨m,by lia,σD3,rv',fr3.trans fr',hl⟩
   |rt d=>
    cases hl;exact fun σ' H' v H4 rv' fr' sm rp=>k σ' H' v H4 rv' (fr3.trans fr') sm rp
  |false=>
   rw[if_neg (by decide)]at hl;dsimp only;rw[if_neg (by decide)];cases hl;exact k σ2 H3 (rv2.same s3) fr3
end
end RS
namespace L2
open PySem PySem.Spec PyProof.Rows
section
def gL:∀ {ns:List Int} {us:List Value},Vals (ns.map V.int) us->IntsAre us ns
 | [],_,.nil=>.nil
 | n::r,_,.cons ⟨t,e⟩ h=>by
  subst e;exact .cons _ _ (gL h)
def vn(hc:X.calm=true):aH X (.builtin "sum") (fun xs H Q=>∃ (p:Addr) (ns:List Int),xs=[.ref p]/\H p=some (.lst (ns.map V.int))/\Q (.int ns.sum) H):=by
 intro pins s σ H xs us Q I r h;obtain⟨p,ns,rfl,hp,q⟩:=h
 cases r with
 |cons r rr=>
  cases rr;cases r;obtain⟨its,rv,hl,hz⟩:=I.list (SqL.of hp);have hi:=gL rv;obtain⟨xs,hx⟩:=hi.allInts.items;have hn:=hi.numsOf
  have hx':its=(intItems xs).toList:=by rw[<-hx]
  have hl':s.heap.IsList p (intItems xs):=hx▸hl.isList;refine sum_intListG (I.ok.hd.1 hc) hl' fun h' tk t' hk=>?_;refine⟨.int ns.sum,H,I.kept (t':=tk) (fun b o e=>hk b o e),⟨t',?_⟩,q⟩;rw[<-hn,hx',nums_intItems,preSum_eq,List.take_of_length_le (by simp)]
def dU(a:Int):∀ l:List Int,(RL.cS a l).Perm (a::l)
 | []=>.refl _
 | b::r=>by
  unfold RL.cS;split
  ·exact .refl _
  ·exact((dU a r).cons b).trans (.swap ..)
def fb(a:Int):∀ l:List Int,l.Pairwise (·<=·)->(RL.cS a l).Pairwise (·<=·)
 | [],_=>by simp[RL.cS]
 | b::r,h=>by
  unfold RL.cS;rw[List.pairwise_cons]at h;split
  ·rename_i c;rw[List.pairwise_cons,List.pairwise_cons]
   exact⟨fun x hx=>by
    rcases List.mem_cons.mp hx with rfl | hx
    ·exact c
    ·exact Int.le_trans c (h.1 x hx),h⟩
  ·rename_i c;rw[List.pairwise_cons];refine⟨fun x hx=>?_,fb a r h.2⟩;rcases List.mem_cons.mp ((dU a r).mem_iff.mp hx)with rfl | hx
   ·lia
   ·exact h.1 x hx
def sortI_perm:∀ l:List Int,(RL.sortI l).Perm l
 | []=>.refl _
 | a::r=>(dU a _).trans ((sortI_perm r).cons a)
def dM:∀ l:List Int,(RL.sortI l).Pairwise (·<=·)
 | []=>.nil
 | a::r=>fb a _ (dM r)
def fG:∀ {a b:List Int},a.Perm b->a.Pairwise (·<=·)->b.Pairwise (·<=·)->a=b
 | [],b,h,_,_=>by simpa using h.symm.eq_nil
 | x::r,[],h,_,_=>by simpa using h.eq_nil
 | x::r,y::t,h,ha,hb=>by
  rw[List.pairwise_cons]at ha hb
  have e:x=y:=by
   have h1:=h.mem_iff.mp (List.mem_cons_self (a:=x) (l:=r));have h2:=h.mem_iff.mpr (List.mem_cons_self (a:=y) (l:=t));rcases List.mem_cons.mp h1 with h1 | h1
   ·exact h1
   ·rcases List.mem_cons.mp h2 with h2 | h2
    ·exact h2.symm
    ·exact Int.le_antisymm (ha.1 y h2) (hb.1 x h1)
  subst e;rw[fG (List.perm_cons x |>.mp h) ha.2 hb.2]
def nO:aH X (.builtin "sorted") (fun xs H Q=>∃ (p:Addr) (ns:List Int),xs=[.ref p]/\H p=some (.lst (ns.map V.int))/\ns.length<64/\∀ l,H l=none->Q (.ref l) (upd H l (.lst ((RL.sortI ns).map V.int)))):=by
 intro pins s σ H xs us Q I r h;obtain⟨p,ns,rfl,hp,hlen,q⟩:=h
 cases r with
 |cons r rr=>
  cases rr;cases r;obtain⟨its,rv,hl,hz⟩:=I.list (SqL.of hp);have hi:=gL rv;refine sorted_ints hl.isList hi (by rw[hi.length];exact hlen) fun out ns' h1 h2 h3=>?_;have e:=fG (h2.trans (sortI_perm ns).symm) h3 (dM ns);subst e;obtain⟨en,he⟩:=sortedAll_at s.heap its out;refine⟨.ref (s.heap.objs.size+1),_,I.laid (t':=s.toks) (o:=.lst ((RL.sortI ns).map V.int)) (fun b ob q=>sortedAll_old q) (by lia) ?_,rfl,q _ (I.hok.fresh (by lia))⟩;exact⟨by simp only[List.length_map];rw[(sortI_perm ns).length_eq];simpa using hz,out.toList,en,eG h1,by rw[he]⟩
end
section
end
end L2
namespace RS
open PySem PySem.Spec PyProof.Rows L2
section
def fO{P:Addr->Prop}{K:PySem.W.Frag}:∀ is:List Int,aa P K H (is.map RL.D.int) (is.map V.int)
 | []=>aa.nil
 | i::r=>aa.cons aA (fO r)
def iK:∀ {ds:List RL.D} {is:List Int},RL.aN ds=some is->is.length=ds.length
 | [],is,h=>by cases h;rfl
 | d::ds,is,h=>by
  cases d<;>simp only[RL.aN]at h<;>first | (cases h;done) | skip
  obtain⟨is',h1,h2⟩:=map_some h;subst h2;simp[iK h1]
def B2(hc:X.calm=true)(hg:Gl X "sum")(hm:X.mg "sum" = none)(ha:SE X cl a a')(hn:noStar a=true):SE X cl (.Call (.Name "sum" p) [a] [] pos) (.bi .sum a'):=by
 refine eI (vn hc) hg hm (by decide +kernel) ha hn (by decide) (by decide) fun σD σ H H1 y d v Q e s1 r1 k=>?_
 cases y<;>first | (cases e;done) | skip
 case lst ds =>
  obtain⟨is,e1,e2⟩:=map_some e;subst e2;obtain⟨q,xs,rfl,_,f2,f3⟩:=au r1;rw[cU e1 f3]at f2;exact⟨q,is,rfl,f2,k _ _ (bh s1 aA rfl)⟩
def rF(hg:Gl X "sorted")(hm:X.mg "sorted" = none)(ha:SE X cl a a')(hn:noStar a=true):SE X cl (.Call (.Name "sorted" p) [a] [] pos) (.bi .sorted a'):=by
 refine eI nO hg hm (by decide +kernel) ha hn (by decide) (by decide) fun σD σ H H1 y d v Q e s1 r1 k=>?_
 cases y<;>first | (cases e;done) | skip
 case lst ds =>
  rw[RL.BR]at e;split at e
  ·rename_i h64;obtain⟨is,e1,e2⟩:=map_some e;subst e2;obtain⟨q,xs,rfl,_,f2,f3⟩:=au r1;rw[cU e1 f3]at f2;exact⟨q,is,rfl,f2,by rw[iK e1];exact h64,fun l hl=>k _ _ (bf s1 hl (fO _) fun _=>rfl)⟩
  ·cases e
end
section
variable{st:Stmt}
end
section
variable{X:Cx}
def wD(h:RL.AF y kx z=some d):∃ o,m3 y kx=some o/\d=o.getD z:=by
 cases y with
 |dK ks vs=>
  obtain⟨q,h1,h2⟩:=map_some (show(RL.keyOf kx).map _=some d from h);exact⟨_,by show(RL.keyOf kx).map (RL.a4 ks vs)=_;rw[h1];rfl,h2.symm⟩
 |dT ks vs=>
  cases kx with
  |tup kk=>
   obtain⟨q,h1,h2⟩:=map_some (show(RL.keysOf kk).map _=some d from h);exact⟨_,by show(RL.keysOf kk).map (RL.a4 ks vs)=_;rw[h1];rfl,h2.symm⟩
  | _=>cases h
 | _=>cases kx<;>cases h
def zW(ry:Rep nP X.K H y v)(h:m3 y kx=some o):∃ q,v=.ref q/\IsD H q:=by
 cases y with
 |dK ks vs=>
  rw[Rep]at ry;obtain⟨q,xs,rfl,_,f2,fl,f3⟩:=ry;exact⟨q,rfl,.inl ⟨_,.inl f2⟩⟩
 |dT ks vs=>
  rw[Rep]at ry;obtain⟨q,xs,rfl,_,f2,fl,f3⟩:=ry;exact⟨q,rfl,.inr ⟨_,.inl f2⟩⟩
 |fT ks vs=>
  rw[Rep]at ry;obtain⟨q,o,xs,rfl,f2,fl,f3⟩:=ry;exact⟨q,rfl,.inr ⟨_,.inr ⟨o,f2⟩⟩⟩
 | _=>cases kx<;>cases h
def AD(hu:X.A.units+100<cLine)(ha:SE X cl (.Name x p) a')(hb:SE X cl b b')(hc:SE X cl c c')(hn:noStar b=true)(hn2:noStar c=true)(hl:(apos.endLine == pos.line)=true):SE X cl (.Call (.Attribute (.Name x p) "get" apos) [b,c] [] pos) (.get a' b' c'):=by
 have st:starEach [b,c] X.env=[(false,eval b X.env),(false,eval c X.env)]:=by rw[ay _ hn,ay _ hn2];rfl
 refine PE.weak (tN (by lia) ha hb hc ⟨rfl,by rw[st];rfl,hl,by rw[st];rfl⟩) fun σ H Q h=>?_;obtain⟨σD,d,rv,e,k⟩:=h;obtain⟨x,ea,e⟩:=bind_some e;obtain⟨y,eb,e⟩:=bind_some e;obtain⟨z,ec,e⟩:=bind_some e;obtain⟨o,ho,rfl⟩:=wD e;refine⟨σD,x,rv,ea,fun v H1 r1=>?_⟩;obtain⟨q,rfl,isd⟩:=zW r1.rep ho;refine⟨q,rfl,isd,σD,y,rv.same r1.same,eb,fun u H2 r2=>⟨σD,z,rv.same (r1.same.trans r2.same),ec,fun w H3 r3=>?_⟩⟩;obtain⟨q',r,e1,g,an,_⟩:=jK (r1.rep.same (r2.same.trans r3.same)) (r2.rep.same r3.same) ho;cases e1;refine⟨r,g,k _ _ ⟨r1.same.trans (r2.same.trans r3.same),?_,fun z=>(by cases z),fun M z=>nomatch (show false=true from z)⟩⟩
 cases o with
 |some d=>
  obtain⟨w',rfl,rr⟩:=an;exact rr
 |none=>
  cases(show r=none from an);exact r3.rep
end
end RS
namespace L2
open PySem PySem.Spec PyProof.Rows
end L2
namespace RS
open PySem PySem.Spec PyProof.Rows L2
end RS
namespace L2
open PySem PySem.Spec PyProof.Rows
section
variable{prog:Program}{w:World}{A:Around}{E:Value->Shared->Prop}{s:Shared}
end
end L2
namespace RS
open PySem PySem.Spec PyProof.Rows L2
end RS
namespace L2
open PySem PySem.Spec PyProof.Rows
end L2
namespace RS
open PySem PySem.Spec PyProof.Rows L2
end RS
namespace L2
open PySem PySem.Spec PyProof.Rows
end L2
namespace RS
open PySem PySem.Spec PyProof.Rows L2
section
open PySem.Builtin.Str
end
section
variable{X:Cx}{cl:RL.Cl}{a b:Expr}{a' b' e':RL.E}{pos p2:Pos}{M:List Nat}{st:Stmt}{i:Nat}
end
section
variable{X:Cx}{cl:RL.Cl}{a b c d:Expr}{a' b' c' d':RL.E}{pos apos p p2 p3:Pos}
end
section
open PySem.W
variable{prog:Program}{w:World}{A:Around}{E:Value->Shared->Prop}{s:Shared}
variable{vs:List Value}{xs:List Str}
end
variable{X:Cx}
section
variable{K:PySem.W.Frag}
def RVm.Aj(h:RVm K N1 σD σ H)(sub:∀ i,N2.contains i=true->N1.contains i=true):RVm K N2 σD σ H where
 len:=h.len
 val:=fun i d e=>by
  obtain⟨v,h1,h2⟩:=h.val i d e;refine⟨v,h1,?_⟩;by_cases hm:N2.contains i=true
  ·rw[if_pos hm];rw[if_pos (sub i hm)]at h2;exact h2
  ·rw[if_neg hm];by_cases hn:N1.contains i=true
   ·rw[if_pos hn]at h2;obtain⟨a,o,rfl,_,_⟩:=h2.ref;have np:¬ aE N2 σ a:=fun⟨k,hk,ek⟩=>hm ((h.sep i k a hn (sub k hk) h1 ek)▸hk);obtain⟨q1,q2,q3⟩:=h2
    cases d with
    | lst ds=>obtain⟨b,xs,e1,e0,e2,e3⟩:=au q3;cases e1;rw[Rep];exact⟨a,xs,rfl,np,e2,e3.imm q2⟩
    | dK ks ds=>rw[Rep]at q3 ⊢;obtain⟨b,xs,e1,e0,e2,el,e3⟩:=q3;cases e1;exact⟨a,xs,rfl,np,e2,el,e3.imm q2⟩
    | dT ks ds=>rw[Rep]at q3 ⊢;obtain⟨b,xs,e1,e0,e2,el,e3⟩:=q3;cases e1;exact⟨a,xs,rfl,np,e2,el,e3.imm q2⟩
    | _=>cases q1
   ·rw[if_neg hn]at h2
    exact h2.weak fun b ⟨k,hk,ek⟩=>⟨k,sub k hk,ek⟩
 non:=h.non
 sep:=fun i j a hi hj=>h.sep i j a (sub i hi) (sub j hj)
def bV{M:List Nat}{i j:Nat}(h:(j::M).contains i=true):i=j\/M.contains i=true:=by simpa using h
def cx{M:List Nat}{j:Nat}:(j::M).contains j=true:=by simp
def b0{M:List Nat}{i j:Nat}(h:M.contains i=true):(j::M).contains i=true:=by simp at h ⊢;exact .inr h
def RVm.open(h:RVm K M σD σ H)(s:ao H H1)(ha:H a=none)(r:Own K H1 d (.ref a)):RVm K (i::M) (σD.set i (some d)) (σ.set i (some (.ref a))) H1 /\
  ∀ b,aE (i::M) (σ.set i (some (.ref a))) b->aE M σ b\/b=a:=by
 have sub:∀ b,aE (i::M) (σ.set i (some (.ref a))) b->aE M σ b\/b=a:=fun b ⟨j,hj,e⟩=>by
  by_cases hji:j=i
  ·subst hji
   have hlt:j<σ.length:=by simpa using(List.getElem?_eq_some_iff.mp e).1
   rw[List.getElem?_set_self hlt]at e;cases e;exact .inr rfl
  ·rw[List.getElem?_set_ne (Ne.symm hji)]at e;exact .inl ⟨j,(bV hj).resolve_left hji,e⟩
 have old:∀ b,aE M σ b->b≠a:=fun b p z=>h.kg b p (z▸ha);refine⟨⟨by simpa using h.len,fun j dj e=>?_,fun j w e=>?_,fun j k b hj hk e1 e2=>?_⟩,sub⟩
 ·by_cases hj:j=i
  ·subst hj
   have hlt:j<σD.length:=by simpa using(List.getElem?_eq_some_iff.mp e).1
   rw[List.getElem?_set_self hlt]at e;cases e;refine⟨.ref a,by rw[List.getElem?_set_self (by rw[<-h.len];exact hlt)],?_⟩;rw[if_pos cx];exact r
  ·rw[List.getElem?_set_ne (Ne.symm hj)]at e ⊢;obtain⟨v,h1,h2⟩:=h.val j dj e;refine⟨v,h1,?_⟩;by_cases hm:M.contains j=true
   ·rw[if_pos (b0 hm)];rw[if_pos hm]at h2;exact h2.same s
   ·rw[if_neg fun z=>hm ((bV z).resolve_left hj)];rw[if_neg hm]at h2;exact((h2.bF ha).weak sub).same s
 ·by_cases hj:j=i
  ·subst hj
   have hlt:j<σ.length:=by simpa using(List.getElem?_eq_some_iff.mp e).1
   exact⟨d,by rw[List.getElem?_set_self (by rw[h.len];exact hlt)]⟩
  ·rw[List.getElem?_set_ne (Ne.symm hj)]at e ⊢;exact h.non j w e
 ·by_cases h1:j=i
  ·by_cases h2:k=i
   ·rw[h1,h2]
   ·subst h1
    have hlt:j<σ.length:=by simpa using(List.getElem?_eq_some_iff.mp e1).1
    rw[List.getElem?_set_self hlt]at e1;rw[List.getElem?_set_ne (Ne.symm h2)]at e2;cases e1;exact absurd rfl (old _ ⟨k,(bV hk).resolve_left h2,e2⟩)
  ·rw[List.getElem?_set_ne (Ne.symm h1)]at e1;by_cases h2:k=i
   ·subst h2
    have hlt:k<σ.length:=by simpa using(List.getElem?_eq_some_iff.mp e2).1
    rw[List.getElem?_set_self hlt]at e2;cases e2;exact absurd rfl (old _ ⟨j,(bV hj).resolve_left h1,e1⟩)
   ·rw[List.getElem?_set_ne (Ne.symm h2)]at e2;exact h.sep j k b ((bV hj).resolve_left h1) ((bV hk).resolve_left h2) e1 e2
end
abbrev FrX(M N1:List Nat)(σ0:L2.St)(H0:Hp)(σ:L2.St)(H:Hp):Prop:=(∀ b o,H0 b=some o->¬ aE M σ0 b->H b=some o/\¬ aE N1 σ b)/\∀ j,2<=M.count j->σ[j]?=σ0[j]?
abbrev tQ(K:PySem.W.Frag)(M N1:List Nat)(f:RL.St->Option (RL.Out × RL.St)):TS:=fun D σ H=>∃ σ0 H0 σD r σD',RVm K N1 σD σ H/\FrX M N1 σ0 H0 σ H/\f σD=some (r,σD')/\mZ K M D σ0 H0 r σD'
abbrev SQ(X:Cx)(cl:RL.Cl)(M N1:List Nat)(st:List Stmt)(s:RL.Sq):Prop:=PSs X st (tQ X.K M N1 (RL.cq cl M N1 s))
section
variable{X:Cx}{M N1:List Nat}{st:Stmt}{sts:List Stmt}{j:Nat}
def Ag(h:SSs X cl M sts r)(sub:∀ i,M.contains i=true->N1.contains i=true):SQ X cl M N1 sts (.cls r):=by
 refine PSs.weak h fun D σ H h=>?_;obtain⟨σ0,H0,σD,o,σD',rv,fr,e,k⟩:=h;exact⟨σD,o,σD',rv.Aj sub,e,k.from ⟨fun b u eb n=>⟨(fr.1 b u eb n).1,fun⟨j,hj,ej⟩=>(fr.1 b u eb n).2 ⟨j,sub j hj,ej⟩⟩,fr.2⟩⟩
def xK(h1:SS X cl N1 st s)(h2:SQ X cl M N1 sts r)(cnt:∀ j,2<=M.count j->2<=N1.count j):SQ X cl M N1 (st::sts) (.cons s r):=by
 refine PSs.weak (fK h1 h2) fun D σ H h=>?_;obtain⟨σ0,H0,σD,o,σD',rv,fr,e,k⟩:=h;obtain⟨p,e1,e2⟩:=bind_some e;obtain⟨o1,σ1⟩:=p
 cases o1 with
 | rt d=>cases e2
 | nx=>exact⟨σD,.nx,σ1,rv,e1,fun σ' H' rv' fr'=>⟨σ0,H0,σ1,o,σD',rv',⟨fun b u eb n=>fr'.1 b u (fr.1 b u eb n).1 (fr.1 b u eb n).2,fun j hj=>(fr'.2 j (cnt j hj)).trans (fr.2 j hj)⟩,e2,k⟩⟩
def oj{K:PySem.W.Frag}(rv:RVm K N1 σD σ H)(fr:FrX M N1 σ0 H0 σ H)(hj:M.count j<2)(ok:(RL.aI d&&RL.az e')=true)(r1:Res K σD σ H e' d v H1):RVm K (j::N1) (σD.set j (some d)) (σ.set j (some v)) H1/\FrX M (j::N1) σ0 H0 (σ.set j (some v)) H1:=by
 rw[Bool.and_eq_true]at ok
 have m:gd d=true:=by
  cases d with
  | lst _=>rfl
  | dK _ _=>rfl
  | dT _ _=>rfl
  | _=>cases ok.1
 have ow:Own K H1 d v:=⟨m,ok.1,r1.rep⟩
 obtain⟨a,ob,rfl,_,_⟩:=ow.ref;have hn:=r1.fresh ok.2 m a rfl;obtain⟨g1,g2⟩:=rv.open (i:=j) r1.same hn ow;refine⟨g1,fun b u eb n=>⟨r1.same _ _ (fr.1 b u eb n).1,fun z=>(g2 b z).elim (fr.1 b u eb n).2 fun q=>a5 (fr.1 b u eb n).1 hn q⟩,fun k hk=>?_⟩;rw[List.getElem?_set_ne (fun z=>by subst z;lia)];exact fr.2 k hk
def zK(h:SA X cl st j e')(hj:M.count j<2)(h2:SQ X cl M (j::N1) sts r):SQ X cl M N1 (st::sts) (.opn j e' r):=by
 refine PSs.weak (fK h h2) fun D σ H h=>?_;obtain⟨σ0,H0,σD,o,σD',rv,fr,e,k⟩:=h;obtain⟨d,e1,e2⟩:=bind_some e;split at e2
 ·rename_i ok;refine⟨σD,d,rv.rv0,e1,fun v H1 r1=>?_⟩;obtain⟨g1,g2⟩:=oj rv fr hj ok r1;exact⟨σ0,H0,_,o,σD',g1,g2,e2,k⟩
 ·cases e2
def x8(h:SA X cl st j e')(hj:M.contains j=false)(h2:SQ X cl M (j::M) sts r):SSs X cl M (st::sts) (.opn j e' r):=by
 refine PSs.weak (fK h h2) fun D σ H h=>?_;obtain⟨σD,o,σD',rv,e,k⟩:=h;obtain⟨d,e1,e2⟩:=bind_some e;split at e2
 ·rename_i ok;refine⟨σD,d,rv.rv0,e1,fun v H1 r1=>?_⟩
  have c0:M.count j<2:=by
   have:M.count j=0:=List.count_eq_zero.mpr (by simpa using hj);lia
  obtain⟨g1,g2⟩:=oj (M:=M) (σ0:=σ) (H0:=H) rv ⟨fun b u eb n=>⟨eb,n⟩,fun _ _=>rfl⟩ c0 ok r1;exact⟨σ,H,_,o,σD',g1,g2,e2,k⟩
 ·cases e2
end
section
variable{X:Cx}
variable{M:List Nat}{st:Stmt}{i:Nat}{cl:RL.Cl}
end
abbrev aV(m:Nat):Array Nat:=((List.range 8).filter fun i=>m.testBit i).toArray
abbrev goS(m:Nat):Nat->Nat->Nat->Option Nat
 | 0,_,_=>none
 | f+1,i,q=>if m.testBit i then goS m f ((i*5+1+q / 32)%8) (q / 32)else some i
def Al(m:Nat)(i:Nat)(q:Nat):∀ f,∀ j,goS m f i q=some j->i<8->j<8/\m.testBit j=false:=by
 intro f
 induction f generalizing i q with
 | zero=>intro j h;cases h
 |succ f ih=>
  intro j h hi;unfold goS at h;split at h
  ·exact ih _ _ j h (Nat.mod_lt _ (by decide))
  ·rename_i c;cases h;exact⟨hi,by simpa using c⟩
def vm(m:Nat):∀ f g i q j,goS m f i q=some j->f<=g->goS m g i q=some j:=by
 intro f
 induction f with
 | zero=>intro g i q j h;cases h
 |succ f ih=>
  intro g i q j h hg
  cases g with
  | zero=>omega
  |succ g=>
   unfold goS at h ⊢;split
   ·rename_i c;rw[if_pos c]at h;exact ih _ _ _ _ h (by omega)
   ·rename_i c;rw[if_neg c]at h;exact h
def BV:∀ m<255,∀ i<8,(goS m 8 i 0).isSome=true:=by decide +kernel
def Cu(m:Nat)(hm:m<255):∀ k i q,i<8->q<32 ^ k->(goS m (k+8) i q).isSome=true:=by
 intro k
 induction k with
 |zero=>
  intro i q hi hq
  have:q=0:=by simpa using hq
  subst this;exact BV m hm i hi
 |succ k ih=>
  intro i q hi hq;show(goS m (k+8+1) i q).isSome=true;unfold goS;split
  ·exact ih _ _ (Nat.mod_lt _ (by decide)) (by rw[Nat.pow_succ]at hq;exact Nat.div_lt_of_lt_mul (by rw[Nat.mul_comm];exact hq))
  ·rfl
structure Tb(bt:Bool)(t:SetTable)(m:Nat):Prop where
 mask:t.mask=7
 dum:t.dummies=#[]
 place:t.place=aV m
 plain:t.plain=true
 led:t.led=!bt
def A1:∀ m<256,∀ j<8,(SetTable.below (aV m) j<(aV m).size/\(aV m)[SetTable.below (aV m) j]?=some j/\m.testBit j=true)\/((aV m)[SetTable.below (aV m) j]?≠some j/\m.testBit j=false):=by decide +kernel
def vF:∀ m<256,∀ j<8,m.testBit j=false->SetTable.insertAt (aV m) (SetTable.below (aV m) j) j=aV (m ||| 2 ^ j)/\m ||| 2 ^ j<256/\(aV (m ||| 2 ^ j)).size=(aV m).size+1:=by decide +kernel
def rh:∀ m<256,SetTable.below (aV m) 0=0/\∀ i<8,∀ j<8,(aV m)[i]?=some j->SetTable.below (aV m) (j+1)=i+1:=by decide +kernel
def y8:∀ m<256,(aV m).size<8->m<255:=by decide +kernel
def DB:∀ m<256,∀ i<8,∀ j,(aV m)[i]?=some j->j<8:=by
 intro m hm i hi j h;have:j∈aV m:=Array.mem_of_getElem? h;simp[aV]at this;exact this.1
section
variable{bt:Bool}{t:SetTable}{m:Nat}
def Tb.slot(h:Tb bt t m)(hm:m<256)(hj:j<8):(m.testBit j=true/\∃ i,t.slot j=.live i)\/(m.testBit j=false/\t.slot j=.empty):=by
 unfold SetTable.slot;rw[h.place,h.dum]
 rcases A1 m hm j hj with⟨_,h1,h2⟩ | ⟨h1,h2⟩
 ·exact .inl ⟨h2,SetTable.below (aV m) j,by simp only[h1,beq_self_eq_true,if_true]⟩
 ·refine .inr ⟨h2,?_⟩;dsimp only;rw[if_neg (by simpa using h1),if_neg (by simp[SetTable.has])]
def Tb.go(h:Tb bt t m)(hm:m<256)(x:Int):∀ f p,p.dummy=none->p.j=p.i->p.more=0->p.i<8->∀ j,goS m f p.i p.perturb=some j->SetTable.probe.go t (fun _=>x+1) x f p=some (.empty j none):=by
 intro f
 induction f with
 | zero=>intro p _ _ _ _ j hj;cases hj
 |succ f ih=>
  intro p h1 h2 h3 h4 j hj;unfold goS at hj;unfold SetTable.probe.go;rw[h2]
  rcases h.slot hm h4 with⟨b,i,e⟩ | ⟨b,e⟩
  ·rw[e];dsimp only;rw[if_neg (by simp;omega)];rw[if_pos b]at hj
   have ea:t.advance p={ p with j:=(p.i*5+1+p.perturb / 32)%8,more:=0,i:=(p.i*5+1+p.perturb / 32)%8,perturb:=p.perturb / 32 }:=by
    unfold SetTable.advance;rw[if_neg (by omega),h.mask]
    have e:SetTable.runEnd 7 ((p.i*5+1+p.perturb / 32)%8)=(p.i*5+1+p.perturb / 32)%8:=by
     unfold SetTable.runEnd;rw[if_neg (by omega)]
    show({ p with j:=(p.i*5+1+p.perturb / 32)%8,more:=SetTable.runEnd 7 ((p.i*5+1+p.perturb / 32)%8)-(p.i*5+1+p.perturb / 32)%8,i:=(p.i*5+1+p.perturb / 32)%8,perturb:=p.perturb / 32 }:SetTable.Probe)=_;rw[e,Nat.sub_self]
   rw[ea];exact ih { p with j:=(p.i*5+1+p.perturb / 32)%8,more:=0,i:=(p.i*5+1+p.perturb / 32)%8,perturb:=p.perturb / 32 } h1 rfl rfl (Nat.mod_lt _ (by decide)) j hj
  ·rw[e];rw[if_neg (by rw[b];exact Bool.false_ne_true)]at hj;cases hj;rw[h1,<-h2]
def Tb.free(h:Tb bt t m)(hm:m<256)(hs:(aV m).size<8)(x:Int):∃ j,j<8/\m.testBit j=false/\t.freeSlot x=some (j,false):=by
 have hm':=y8 m hm hs
 have hb:SetTable.bits x<32 ^ 13:=by
  unfold SetTable.bits;have h1:x%(2 ^ 64:Int)<2 ^ 64:=Int.emod_lt_of_pos _ (by decide);have h2:0<=x%(2 ^ 64:Int):=Int.emod_nonneg _ (by decide)
  have:(32 ^ 13:Nat)=2 ^ 65:=by decide
  rw[this];omega
 have hi:SetTable.bits x%8<8:=Nat.mod_lt _ (by decide);obtain⟨j,e⟩:=Option.isSome_iff_exists.mp (Cu m hm' 13 (SetTable.bits x%8) (SetTable.bits x) hi hb);obtain⟨j1,j2⟩:=Al m _ _ _ j e hi;refine⟨j,j1,j2,?_⟩;unfold SetTable.freeSlot SetTable.probe;rw[h.go hm x (10*SetTable.turns t.mask) (t.probeStart x) rfl rfl ?_ ?_ j ?_]
 ·rfl
 ·unfold SetTable.probeStart SetTable.runEnd;rw[h.mask];dsimp only
  have:¬ (SetTable.bits x%(7+1)+9<=7):=by omega
  rw[if_neg this];simp
 ·show SetTable.bits x%(t.mask+1)<8;rw[h.mask];exact hi
 ·show goS m (10*SetTable.turns t.mask) (SetTable.bits x%(t.mask+1)) (SetTable.bits x)=some j;rw[h.mask];exact vm m _ _ _ _ _ e (by decide)
def Tb.put(h:Tb bt t m)(hm:m<256)(hj:j<8)(hb:m.testBit j=false):Tb bt (t.put j).1 (m ||| 2 ^ j):=by
 obtain⟨e,_,_⟩:=vF m hm j hj hb;refine⟨h.mask,?_,?_,h.plain,h.led⟩
 ·show(if SetTable.has t.dummies j then _ else t.dummies)=#[];rw[h.dum,if_neg (by simp[SetTable.has])]
 ·show SetTable.insertAt t.place (SetTable.below t.place j) j=_;rw[h.place,e]
def Tb.lay(h:Tb bt t m)(hm:m<256){es:Array (Int × Value)}(hz:(aV m).size=es.size)(hs:es.size<5)(x:Int)(v:Value):∃ m',m'<256/\(aV m').size=es.size+1/\Tb bt (layNew t es x v).2.1 m'/\(layNew t es x v).2.1.tooFull=decide (es.size=4)/\(layNew t es x v).2.2.1=false:=by
 obtain⟨j,j1,j2,e⟩:=h.free hm (by omega) x;obtain⟨_,e2,e3⟩:=vF m hm j j1 j2;have hp:=h.put hm j1 j2
 have hl:(SetTable.insertAt es (t.put j).2 (x,v)).size=es.size+1:=by
  simp only[SetTable.insertAt,Array.size_append,Array.size_push,Array.size_extract]
  have:(t.put j).2<=es.size:=by
   show SetTable.below t.place j<=es.size;rw[h.place,<-hz]
   have:∀ m<256,∀ j<8,SetTable.below (aV m) j<=(aV m).size:=by decide +kernel
   exact this m hm j j1
  omega
 have hfit:(t.put j).1.fits (SetTable.insertAt es (t.put j).2 (x,v)).size=true:=by
  simp only[SetTable.fits,SetTable.fill,hp.place,hp.dum,hp.mask,hl,Bool.and_eq_true,beq_iff_eq,decide_eq_true_eq];refine⟨by omega,?_⟩;show(aV (m ||| 2 ^ j)).size+0<=7;omega
 refine⟨m ||| 2 ^ j,e2,by omega,?_,?_,by unfold layNew;rw[e]⟩
 ·unfold layNew;rw[e];dsimp only;unfold SetTable.orStandIn;rw[if_pos hfit];exact hp
 ·unfold layNew;rw[e];dsimp only;unfold SetTable.orStandIn;rw[if_pos hfit];simp only[SetTable.tooFull,SetTable.fill,hp.place,hp.dum,hp.mask];apply decide_eq_decide.mpr;show((aV (m ||| 2 ^ j)).size+0)*5≥21↔_;omega
end
abbrev qd(xs:Array Nat):Prop:=∀ i j (hj:j<xs.size) (hi:i<j),xs[i]'(Nat.lt_trans hi hj)<xs[j]
def vd(xs:Array Nat)(h:qd xs)(x:Nat):∀ f lo hi,hi<=xs.size->lo<=hi->hi-lo<=f->(∀ i (hi':i<xs.size),i<lo->xs[i]<x)->(∀ i (hi':i<xs.size),hi<=i->x<=xs[i]) ->
  SetTable.below.go xs x f lo hi<=xs.size/\(∀ i (hi':i<xs.size),i<SetTable.below.go xs x f lo hi->xs[i]<x)/\(∀ i (hi':i<xs.size),SetTable.below.go xs x f lo hi<=i->x<=xs[i]):=by
 intro f
 induction f with
 |zero=>
  intro lo hi h1 h2 h3 a b;unfold SetTable.below.go
  have:lo=hi:=by omega
  subst this;exact⟨h1,a,b⟩
 |succ f ih=>
  intro lo hi h1 h2 h3 a b;unfold SetTable.below.go;by_cases c:lo<hi
  ·rw[if_pos c]
   have hm:(lo+hi) / 2<xs.size:=by omega
   have eg:xs.getD ((lo+hi) / 2) x=xs[(lo+hi) / 2]:=by simp[Array.getD,hm]
   dsimp only;rw[eg];by_cases d:xs[(lo+hi) / 2]<x
   ·rw[if_pos d];refine ih _ _ h1 (by omega) (by omega) (fun i hi' q=>?_) b;rcases Nat.lt_or_ge i ((lo+hi) / 2)with z | z
    ·exact Nat.lt_trans (h i _ hm z) d
    ·have:i=(lo+hi) / 2:=by omega
     subst this;exact d
   ·rw[if_neg d];refine ih _ _ (by omega) (by omega) (by omega) a (fun i hi' q=>?_);rcases Nat.lt_or_ge ((lo+hi) / 2) i with z | z
    ·exact Nat.le_of_lt (Nat.lt_of_le_of_lt (Nat.not_lt.mp d) (h _ i hi' z))
    ·have:i=(lo+hi) / 2:=by omega
     subst this;exact Nat.not_lt.mp d
  ·rw[if_neg c]
   have:lo=hi:=by omega
   subst this;exact⟨h1,a,b⟩
abbrev Wlk(xs:Array Nat):Prop:=SetTable.below xs 0=0/\∀ i j,xs[i]?=some j->SetTable.below xs (j+1)=i+1
def qd.walk{xs:Array Nat}(h:qd xs):Wlk xs:=by
 have bl:=fun x=>vd xs h x xs.size 0 xs.size (Nat.le_refl _) (Nat.zero_le _) (by omega) (fun i _ q=>absurd q (Nat.not_lt_zero _)) (fun i hi q=>absurd hi (Nat.not_lt.mpr q));constructor
 ·show SetTable.below.go xs 0 xs.size 0 xs.size=0;obtain⟨h1,h2,h3⟩:=bl 0;rcases Nat.eq_zero_or_pos (SetTable.below.go xs 0 xs.size 0 xs.size)with z | z
  ·exact z
  ·exact absurd (h2 0 (by omega) z) (Nat.not_lt_zero _)
 ·intro i j e;obtain⟨hi,e⟩:=Array.getElem?_eq_some_iff.mp e;show SetTable.below.go xs (j+1) xs.size 0 xs.size=i+1;obtain⟨h1,h2,h3⟩:=bl (j+1);rcases Nat.lt_trichotomy (SetTable.below.go xs (j+1) xs.size 0 xs.size) (i+1)with z | z | z
  ·have:=h3 i hi (by omega);omega
  ·exact z
  ·have h4:=h2 (i+1) (by omega) z;have h5:=h i (i+1) (by omega) (by omega);omega
def gg{α β:Type}{f g:α->Option β}:∀ {l:List α},(∀ x∈l,f x=g x)->l.filterMap f=l.filterMap g
 | [],_=>rfl
 | a::r,h=>by rw[List.filterMap_cons,List.filterMap_cons,h a (by simp),gg fun x hx=>h x (by simp[hx])]
def sub_len:∀ {xs ys:List Nat},xs.Nodup->(∀ x∈xs,x∈ys)->xs.length<=ys.length
 | [],_,_,_=>Nat.zero_le _
 | x::r,ys,h,k=>by
  rw[List.nodup_cons]at h;have hx:=k x (by simp);have:=sub_len (ys:=ys.erase x) h.2 fun y hy=>(List.mem_erase_of_ne (fun(e:y=x)=>h.1 (e▸hy))).mpr (k y (by simp[hy]));rw[List.length_erase_of_mem hx]at this;have:=List.length_pos_of_mem hx;simp only[List.length_cons];omega
@[reducible]noncomputable def Owr:=Array (Option Nat)
abbrev oat(o:Owr)(j:Nat):Option Nat:=o.getD j none
structure Ow(o:Owr)(k:Nat):Prop where
 size:o.size=32
 perm:((List.range 32).filterMap (oat o)).Perm (List.range k)
def mj{o:Owr}(h:o.size=32)(hj:j<32):o.getD j (some 0)=oat o j:=by
 unfold oat;simp[Array.getD,h,hj]
abbrev jW(i:Nat):List Nat:=[i,(i*5+1)%32,((i*5+1)%32*5+1)%32,(((i*5+1)%32*5+1)%32*5+1)%32,((((i*5+1)%32*5+1)%32*5+1)%32*5+1)%32]
def oJ:∀ i<32,(jW i).Nodup/\∀ x∈jW i,x<32:=by decide +kernel
def Ow.some(h:Ow o k)(hk:k<=4)(hi:i<32):∃ x∈jW i,oat o x=none:=by
 refine Classical.byContradiction fun c=>?_
 have c:∀ x∈jW i,(oat o x).isSome=true:=fun x hx=>by
  cases e:oat o x with
  | none=>exact absurd ⟨x,hx,e⟩ c
  | some v=>rfl
 have f:=oJ i hi;have:=sub_len (ys:=(List.range 32).filter fun j=>(oat o j).isSome) f.1 fun x hx=>List.mem_filter.mpr ⟨List.mem_range.mpr (f.2 x hx),c x hx⟩
 have e:((List.range 32).filter fun j=>(oat o j).isSome).length=((List.range 32).filterMap (oat o)).length:=by
  rw[<-List.countP_eq_length_filter,List.length_filterMap_eq_countP]
 rw[e,h.perm.length_eq,List.length_range]at this;have:(jW i).length=5:=rfl;omega
def de(h:o.size=32)(hi:i<32)(e:oat o i=none)(f q:Nat):SetTable.layClean.free 31 o (f+1) i q=some i:=by
 unfold SetTable.layClean.free
 have:∃ n,SetTable.runEnd 31 i+1-i=n+1:=by
  unfold SetTable.runEnd;split
  ·exact⟨9,by omega⟩
  ·exact⟨0,by omega⟩
 obtain⟨n,hn⟩:=this;rw[hn,List.range_succ_eq_map,List.find?_cons_of_pos]
 ·rfl
 ·show(o.getD (i+0) (some 0)).isNone=true;rw[Nat.add_zero,mj h hi,e];rfl
def m9(h:o.size=32)(hi:i<32)(f q:Nat):(∃ j,j<32/\oat o j=none/\SetTable.layClean.free 31 o (f+1) i q=some j)\/SetTable.layClean.free 31 o (f+1) i q=SetTable.layClean.free 31 o f ((i*5+1+q / 32)%32) (q / 32):=by
 rw[SetTable.layClean.free]
 cases e:(List.range (SetTable.runEnd 31 i+1-i)).find? fun k=>(o.getD (i+k) (some 0)).isNone with
 | none=>exact .inr rfl
 |some k=>
  have h1:=List.find?_some e;have h2:=List.mem_range.mp (List.mem_of_find?_eq_some e)
  have h3:i+k<32:=by
   unfold SetTable.runEnd at h2;split at h2<;>omega
  rw[mj h h3]at h1;exact .inl ⟨i+k,h3,by simpa using h1,rfl⟩
def BF(h:Ow o k)(hk:k<=4)(hi:i<32)(f:Nat):∃ j,j<32/\oat o j=none/\SetTable.layClean.free 31 o (f+5) i 0=some j:=by
 obtain⟨x,hx,e⟩:=h.some hk hi;have lt:=(oJ i hi).2 x hx
 have nx:∀ {i f:Nat},i<32->(∃ j,j<32/\oat o j=none/\SetTable.layClean.free 31 o f ((i*5+1)%32) 0=some j)->∃ j,j<32/\oat o j=none/\SetTable.layClean.free 31 o (f+1) i 0=some j:=fun {i f} hi ⟨j,h1,h2,h3⟩=>by
  rcases m9 h.size hi f 0 with z | z
  ·exact z
  ·exact⟨j,h1,h2,by rw[z];exact h3⟩
 have m:∀ x:Nat,x%32<32:=fun x=>Nat.mod_lt _ (by decide);unfold jW at hx;simp only[List.mem_cons,List.not_mem_nil,or_false]at hx;rcases hx with rfl | rfl | rfl | rfl | rfl
 ·exact⟨_,lt,e,de h.size hi e _ _⟩
 ·exact nx hi ⟨_,lt,e,de h.size (m _) e _ _⟩
 ·exact nx hi (nx (m _) ⟨_,lt,e,de h.size (m _) e _ _⟩)
 ·exact nx hi (nx (m _) (nx (m _) ⟨_,lt,e,de h.size (m _) e _ _⟩))
 ·exact nx hi (nx (m _) (nx (m _) (nx (m _) ⟨_,lt,e,de h.size (m _) e _ _⟩)))
def yy(h:Ow o k)(hk:k<=4):∀ s i q,i<32->q<32 ^ s->∀ f,∃ j,j<32/\oat o j=none/\SetTable.layClean.free 31 o (f+5+s) i q=some j:=by
 intro s
 induction s with
 |zero=>
  intro i q hi hq f
  have:q=0:=by simpa using hq
  subst this;exact BF h hk hi f
 |succ s ih=>
  intro i q hi hq f;rcases m9 h.size hi (f+5+s) q with z | z
  ·exact z
  ·obtain⟨j,h1,h2,h3⟩:=ih ((i*5+1+q / 32)%32) (q / 32) (Nat.mod_lt _ (by decide)) (by rw[Nat.pow_succ]at hq;exact Nat.div_lt_of_lt_mul (by rw[Nat.mul_comm];exact hq)) f;exact⟨j,h1,h2,by rw[show f+5+(s+1)=f+5+s+1 from rfl,z];exact h3⟩
def xw(h:Ow o k)(hk:k<=4)(x:Int):∃ j,j<32/\oat o j=none/\SetTable.layClean.free 31 o (SetTable.turns 31) (SetTable.bits x%32) (SetTable.bits x)=some j:=by
 have hb:SetTable.bits x<32 ^ 13:=by
  unfold SetTable.bits;have h1:x%(2 ^ 64:Int)<2 ^ 64:=Int.emod_lt_of_pos _ (by decide);have h2:0<=x%(2 ^ 64:Int):=Int.emod_nonneg _ (by decide)
  have:(32 ^ 13:Nat)=2 ^ 65:=by decide
  rw[this];omega
 exact yy h hk 13 _ _ (Nat.mod_lt _ (by decide)) hb 28
def sS(f g:Nat->Option Nat)(j k:Nat)(hj:f j=none)(gj:g j=some k)(hg:∀ i,i≠j->g i=f i):∀ l:List Nat,l.Nodup->j∈l->(l.filterMap g).Perm (k::l.filterMap f)
 | [],_,h=>by cases h
 | a::r,nd,h=>by
  rw[List.nodup_cons]at nd;by_cases c:a=j
  ·subst c
   have:r.filterMap g=r.filterMap f:=by
    apply gg;intro x hx;exact hg x fun e=>nd.1 (e▸hx)
   rw[List.filterMap_cons_some gj,List.filterMap_cons_none hj,this]
  ·have ih:=sS f g j k hj gj hg r nd.2 ((List.mem_cons.mp h).resolve_left (Ne.symm c))
   cases e:f a with
   | none=>rw[List.filterMap_cons_none (by rw[hg a c];exact e),List.filterMap_cons_none e];exact ih
   | some v=>rw[List.filterMap_cons_some (by rw[hg a c];exact e),List.filterMap_cons_some e];exact(ih.cons v).trans (.swap ..)
def Ow.put(h:Ow o k)(hj:j<32)(e:oat o j=none):Ow (o.setIfInBounds j (.some k)) (k+1):=by
 have hs:=h.size;refine⟨by simp[hs],?_⟩
 have gj:oat (o.setIfInBounds j (.some k)) j=.some k:=by unfold oat;simp[Array.getD,hs,hj]
 have go:∀ i,i≠j->oat (o.setIfInBounds j (.some k)) i=oat o i:=fun i hi=>by
  unfold oat;by_cases c:i<32
  ·simp[Array.getD,hs,c,Array.getElem_setIfInBounds,Ne.symm hi]
  ·simp[Array.getD,hs,c]
 refine(sS _ _ j k e gj go _ List.nodup_range (List.mem_range.mpr hj)).trans ?_;refine(h.perm.cons k).trans ?_;rw[List.range_succ];exact(List.perm_append_comm (l₁:=[k]) (l₂:=List.range k))
def oq:∀ (hs:List Int) (o:Owr) (k:Nat),Ow o k->k+hs.length<=5->∃ o',Ow o' (k+hs.length)/\(hs.foldl (fun acc h=>do
  let (owner,k) <- acc
  let j <- SetTable.layClean.free 31 owner (SetTable.turns 31) (SetTable.bits h%(31+1)) (SetTable.bits h)
  pure (owner.setIfInBounds j (some k),k+1)) (some (o,k)))=some (o',k+hs.length)
 | [],o,k,h,_=>⟨o,h,rfl⟩
 | x::r,o,k,h,hl=>by
  simp only[List.length_cons]at hl;obtain⟨j,h1,h2,h3⟩:=xw h (by omega) x;obtain⟨o',h4,h5⟩:=oq r _ (k+1) (h.put h1 h2) (by omega);refine⟨o',by rw[List.length_cons,show k+(r.length+1)=k+1+r.length by omega];exact h4,?_⟩;rw[List.length_cons,show k+(r.length+1)=k+1+r.length by omega,<-h5,List.foldl_cons];congr 1;show(do let j <- SetTable.layClean.free 31 o (SetTable.turns 31) (SetTable.bits x%(31+1)) (SetTable.bits x);pure (o.setIfInBounds j (some k),k+1))=_;rw[show SetTable.layClean.free 31 o (SetTable.turns 31) (SetTable.bits x%(31+1)) (SetTable.bits x)=some j from h3];rfl
def tK(hs:Array Int)(hl:hs.size<=5):∃ o,Ow o hs.size/\SetTable.layClean 31 hs=some o:=by
 have h0:Ow (Array.replicate 32 none) 0:=⟨by simp,by decide⟩
 obtain⟨o,h1,h2⟩:=oq hs.toList _ 0 h0 (by simpa using hl);refine⟨o,by simpa using h1,?_⟩;unfold SetTable.layClean;rw[<-Array.foldl_toList];show(hs.toList.foldl _ (some (Array.replicate 32 none,0))).map (·.1)=_;rw[h2];rfl
def vt{bt:Bool}(t:SetTable)(es:Array (Int × Value))(hs:es.size=5)(hp:t.plain=true)(hl:t.led=!bt):∃ es' t',relayAll t es 20=(es',t',false)/\t'.plain=true/\t'.led=(!bt)/\Wlk t'.place:=by
 obtain⟨o,ho,e⟩:=tK (es.map (·.1)) (by simp[hs]);rw[Array.size_map]at ho
 have e32:SetTable.sizeAbove 20-1=31:=by decide
 have el:t.relaid (es.map (·.1)) 20=some ({ mask:=31,place:=((((List.range 32).filterMap fun j=>(oat o j).map (j,·))).map (·.1)).toArray,dummies:=#[],finger:=t.finger,led:=t.led,moves:=t.movedTo 31,plain:=t.plain },((((List.range 32).filterMap fun j=>(oat o j).map (j,·))).map (·.2)).toArray):=by
  unfold SetTable.relaid SetTable.laid;rw[e32,e];rfl
 have eo:(((List.range 32).filterMap fun j=>(oat o j).map (j,·))).map (·.2)=(List.range 32).filterMap (oat o):=by
  rw[List.map_filterMap];apply gg;intro j _;cases oat o j<;>rfl
 have ep:(((List.range 32).filterMap fun j=>(oat o j).map (j,·))).map (·.1)=(List.range 32).filter fun j=>(oat o j).isSome:=by
  rw[List.map_filterMap,<-List.filterMap_eq_filter];apply gg;intro j _;cases e':oat o j<;>simp[Option.guard,e']
 rw[eo,ep]at el
 have hlen:((List.range 32).filter fun j=>(oat o j).isSome).length=es.size:=by
  rw[<-List.countP_eq_length_filter,<-List.length_filterMap_eq_countP,ho.perm.length_eq,List.length_range]
 have cov:coversAll ((List.range 32).filterMap (oat o)).toArray es.size=true:=by
  unfold coversAll;rw[List.isPerm_iff];exact ho.perm
 have hz:(((List.range 32).filterMap (oat o)).toArray.filterMap fun i=>es[i]?).size=es.size:=by
  have p:(((List.range 32).filterMap (oat o)).filterMap fun i=>es[i]?).Perm ((List.range es.size).filterMap fun i=>es[i]?):=ho.perm.filterMap _;have:=p.length_eq;rw[filterMap_getElem?_range,Array.length_toList]at this;simpa using this
 refine⟨((List.range 32).filterMap (oat o)).toArray.filterMap fun i=>es[i]?,_,?_,(show({ mask:=31,place:=((List.range 32).filter fun j=>(oat o j).isSome).toArray,dummies:=#[],finger:=t.finger,led:=t.led,moves:=t.movedTo 31,plain:=t.plain }:SetTable).plain=true from hp),hl,?_⟩
 ·unfold relayAll;rw[el];dsimp only;rw[if_pos];rw[cov,Bool.true_and];simp only[SetTable.fits,SetTable.fill,hz,Bool.and_eq_true,beq_iff_eq,decide_eq_true_eq];constructor
  ·simpa using hlen
  ·apply decide_eq_true;show((List.range 32).filter fun j=>(oat o j).isSome).toArray.size+0<=31;rw[List.size_toArray,hlen];omega
 ·refine qd.walk fun i j hj hi=>?_;have:((List.range 32).filter fun j=>(oat o j).isSome).Pairwise (·<·):=List.Pairwise.filter _ List.pairwise_lt_range;simpa using List.pairwise_iff_getElem.mp this i j (by simpa using Nat.lt_trans hi hj) (by simpa using hj) hi
abbrev byT(w:World):Bool:=w.params.followText "set-order"
abbrev ivS:Value->Int
 | .int k _=>k
 | _=>0
abbrev Gd(prog:Program)(w:World)(o:Obj)(ks:List Int):Prop:=∃ es ep t m,o.ExactSet/\o.data=.set es ep t/\ElemsOf (intKind prog w) es.toList/\(es.toList.map fun e=>ivS e.2).Perm ks/\t.fits es.size=true/\(t.plain=true/\t.led=(!byT w)/\Wlk t.place)/\(es.size<=4->m<256/\(aV m).size=es.size/\Tb (byT w) t m)/\es.size<=5
def Tb.walk(h:Tb b t m)(hm:m<256):t.plain=true/\t.led=(!b)/\Wlk t.place:=by
 refine⟨h.plain,h.led,?_⟩;rw[h.place];refine⟨(rh m hm).1,fun i j e=>?_⟩
 have hi:i<8:=by
  have h1:=(Array.getElem?_eq_some_iff.mp e).1
  have h2:∀ m<256,(aV m).size<=8:=by decide +kernel
  have:=h2 m hm;omega
 exact(rh m hm).2 i hi j (DB m hm i hi j e) e
def Tb.fits(h:Tb b t m)(hs:(aV m).size=n)(hn:n<=4):t.fits n=true:=by
 simp only[SetTable.fits,SetTable.fill,h.place,h.dum,h.mask,hs,Bool.and_eq_true,beq_iff_eq,decide_eq_true_eq];refine⟨trivial,?_⟩;show n+0<=7;omega
section
variable{prog:Program}{w:World}{A:Around}{E:Value->Shared->Prop}{s:Shared}
def oZ{v:Value}(h:(intKind prog w).is k v=true):ivS v=k:=by
 obtain⟨t,rfl⟩:=Value.isInt_shape h;rfl
def rj{l:List (Int × Value)}(h:ElemsOf (intKind prog w) l):(∃ e∈l,(intKind prog w).is k e.2=true)↔k∈l.map fun e=>ivS e.2:=by
 rw[List.mem_map];constructor
 ·rintro⟨e,he,hk⟩;exact⟨e,he,oZ hk⟩
 ·rintro⟨e,he,rfl⟩;obtain⟨⟨k,hk,_⟩,_⟩:=h e he;exact⟨e,he,by rw[oZ hk];exact hk⟩
def xu(b:Bool)(hb:b=!byT w):Gd prog w { cls:=.type "set",dict:=none,data:=.set #[] 0 (.fresh 0 0 b) } [] :=
 ⟨#[],0,_,0,⟨rfl,rfl,rfl⟩,rfl,fun e he=>by simp at he,by simp,rfl,Tb.walk (m:=0) ⟨rfl,rfl,by show #[]=aV 0;decide,rfl,hb⟩ (by decide),fun _=>⟨by decide,by decide,⟨rfl,rfl,by show #[]=aV 0;decide,rfl,hb⟩⟩,by decide⟩
def C0{a:Addr}{o:Obj}{Q:Bool->Shared->Prop}{x:Value}(hkey:(intKind prog w).is k x=true)(hsc:x.scannable=true)(ho:s.heap.get? a=some o)(g:Gd prog w o ks)(hn:ks.length<5)
 (h:∀ b h' o',Heap.SameBut a s.heap h'->h'.get? a=some o'->Gd prog w o' (step_dedup ks k)->Q b { s with heap:=h' }) :
  wpAny (model prog w) A (setAddHashed a x ((intKind prog w).hash k)) Q E s:=by
 obtain⟨es,ep,t,m,hex,hd,hel,hp,hf,_,sm,h5⟩:=id g
 have hlen:es.size=ks.length:=by rw[<-hp.length_eq,List.length_map,Array.length_toList]
 obtain⟨hm,hz,tb⟩:=sm (by omega)
 have hb:es.size<scanBound:=by unfold scanBound;omega
 unfold setAddHashed setAddHashedIn;refine wpAny_holding (wpAny_bind (wpAny_setState_of ho hd hf ?_));dsimp only;rw[byScan_of hsc hb hel];simp only[↓reduceIte];unfold setAddByScan;refine wpAny_bind (wpAny_bind (wpAny_rule (wpAny_bind (wpAny_setScan_of hkey ho hd hf hel ?_))))
 cases hr:List.findIdx? (fun e=>(intKind prog w).is k e.2) es.toList with
 |some j=>
  dsimp only;obtain⟨hj,hpj,_⟩:=List.findIdx?_eq_some_iff_getElem.mp hr;have hk:k∈ks:=hp.mem_iff.mp ((rj hel).mp ⟨es.toList[j],List.getElem_mem hj,hpj⟩);refine wpAny_pure (wpAny_pure ?_)
  have e:s={ s with heap:=s.heap }:=by cases s;rfl
  rw[e];refine h _ s.heap o (Heap.SameBut.refl a s.heap) ho ?_;unfold step_dedup;rw[if_pos (by simpa using hk)];exact g
 |none=>
  dsimp only
  have hk:k∉ks:=fun z=>by
   obtain⟨e,he,hq⟩:=(rj hel).mpr (hp.mem_iff.mpr z);have:=List.findIdx?_eq_none_iff.mp hr e he;rw[hq]at this;exact Bool.noConfusion this
  obtain⟨m',hm',hz',tb',hfull,hwd⟩:=tb.lay hm hz (by omega) ((intKind prog w).hash k) x;have hperm:=layNew_perm t es ((intKind prog w).hash k) x;generalize hL:layNew t es ((intKind prog w).hash k) x=L at hperm hz' tb' hfull hwd ⊢;obtain⟨es1,t1,wd,gave⟩:=L;dsimp only at hperm hz' tb' hfull hwd ⊢;rw[Array.toList_push]at hperm
  have hsz:es1.size=es.size+1:=by rw[<-Array.length_toList,hperm.length_eq,List.length_append,Array.length_toList];rfl
  have hel1:ElemsOf (intKind prog w) es1.toList:=(hel.push hkey hsc).perm hperm
  have hp1:(es1.toList.map fun e=>ivS e.2).Perm (ks++[k]):=by
   refine(hperm.map _).trans ?_;rw[List.map_append];simp only[List.map_cons,List.map_nil,oZ hkey];exact hp.append_right _
  refine wpAny_bind ?_
  have tail:wpAny (model prog w) A (do
    let byValue <- if t1.plain=true then hashByValue 8 x else pure true
    let t:=if byValue=true then t1 else { t1 with plain:=false }
    storeSet a es1 t
    if(!wd&&t.tooFull)=true then do
     let (es,t,gave):=relayAll t es1 (SetTable.grown es1.size)
     (match gave with | true=>rule "set.scan.the-table-gave-way" | false=>pure ())
     storeSet a es t
     pure (some true)
    else pure (some true)) (fun r s'=>wpAny (model prog w) A (match r with | some added=>pure added | none=>setAddHashedIn a x ((intKind prog w).hash k) 99999) Q E s') E s:=by
   rw[tb'.plain];simp only[if_true];rw[hashByValue_scannable 8 hsc];refine wpAny_bind (wpAny_pure ?_)
   have hpk:plainKind x=true:=by obtain⟨u,rfl⟩:=Value.isInt_shape hkey;rfl
   rw[hpk];simp only[if_true];refine wpAny_bind (wpAny_storeSet_of ho hd ?_ (fits_of_scanBound (by unfold scanBound;omega)));by_cases c4:es.size=4
   ·rw[hfull,decide_eq_true c4,Bool.and_true,hwd];simp only[Bool.not_false,if_true];have hpr:=relayAll_perm t1 es1 (SetTable.grown es1.size);have hfr:=relayAll_fits t1 es1 (SetTable.grown es1.size)
    have hs5:es1.size=5:=by omega
    rw[show SetTable.grown es1.size=20 by rw[hs5];decide]at hpr hfr ⊢;obtain⟨es2,t2,er,r1,r2,r3⟩:=vt (bt:=byT w) t1 es1 hs5 tb'.plain tb'.led;rw[er]at hpr hfr ⊢;dsimp only at hpr hfr ⊢
    have hsz2:es2.size=5:=by rw[<-Array.length_toList,hpr.length_eq,Array.length_toList,hs5]
    have hg:(s.heap.update a (Obj.putSet es1 t1)).get? a=some { o with data:=.set es1 (ep+1) t1 }:=by
     have:=Heap.get?_update_self (Obj.putSet es1 t1) ho (by rw[putSet_of es1 t1 hd];rfl);rw[putSet_of es1 t1 hd]at this;exact this
    refine wpAny_bind (wpAny_pure (wpAny_bind (wpAny_storeSet_of hg rfl ?_ (fits_of_scanBound (by unfold scanBound;omega)))))
    have hg2:((s.heap.update a (Obj.putSet es1 t1)).update a (Obj.putSet es2 t2)).get? a=some { o with data:=.set es2 (ep+1+1) t2 }:=by
     have:=Heap.get?_update_self (Obj.putSet es2 t2) hg (by rw[putSet_of es2 t2 rfl];rfl);rw[putSet_of es2 t2 rfl]at this;exact this
    refine wpAny_pure (wpAny_pure ?_);refine h _ _ _ ((Heap.SameBut.update s.heap a (Obj.putSet es1 t1)).trans (Heap.SameBut.update _ a _)) hg2 ?_;unfold step_dedup;rw[if_neg (by simpa using hk)];exact⟨es2,ep+1+1,t2,0,hex,rfl,hel1.perm hpr,(hpr.map _).trans hp1,hfr,⟨r1,r2,r3⟩,fun z=>by omega,by omega⟩
   rw[hfull,decide_eq_false c4,Bool.and_false];simp only[Bool.false_eq_true,if_false];refine wpAny_pure (wpAny_pure ?_)
   have hg:(s.heap.update a (Obj.putSet es1 t1)).get? a=some { o with data:=.set es1 (ep+1) t1 }:=by
    have:=Heap.get?_update_self (Obj.putSet es1 t1) ho (by rw[putSet_of es1 t1 hd];rfl);rw[putSet_of es1 t1 hd]at this;exact this
   refine h _ _ _ (Heap.SameBut.update s.heap a (Obj.putSet es1 t1)) hg ?_;unfold step_dedup;rw[if_neg (by simpa using hk)];exact⟨es1,ep+1,t1,m',hex,rfl,hel1,hp1,tb'.fits (by rw[hz',hsz]) (by omega),tb'.walk hm',fun _=>⟨hm',by rw[hz',hsz],tb'⟩,by omega⟩
  cases gave with
  | true=>exact wpAny_rule tail
  | false=>exact wpAny_pure tail
end
abbrev dX(w:World):Obj:={ cls:=.type "set",dict:=none,data:=.set #[] 0 (.fresh 0 0 (!byT w)) }
section
variable{prog:Program}{w:World}{A:Around}{E:Value->Shared->Prop}{s:Shared}
def C2(a:Value){Q₁:Value->Shared->Prop}(h:Q₁ (.ref s.heap.objs.size) { s with heap:=s.heap.push (dX w) }) :
  codeAny (model prog w) A (.call (.builtin "set.__new__") ⟨[.type "set",a],[]⟩) (wants Q₁ E) s:=by
 refine codeAny_of_tree ?_;show wpAny _ A.in1 (do checkBuiltinCall "set.__new__" ⟨[.type "set",a],[]⟩;again (.builtin "set.__new__" ⟨[.type "set",a],[]⟩)) _ _ s;refine wpAny_bind (wpAny_of_eq (F.newCall_set_1 a) (wpAny_pure ⟨plainId_quiet F.plain_set_new _,codeAny_builtin F.entry_set_new ?_⟩));rw[Around.under_plainId F.plain_set_new _];unfold Builtin.«set.__new__» Builtin.Frozenset.newClass;have hsub:=sub_set_self;obtain⟨hp,g,d,tk,os⟩:=s;dsimp only
 wp_walk
 refine wpAny_askSetting (wpAny_pure ?_);dsimp only;simp only[newObj];refine wpAny_bind (wpAny_alloc (wpAny_pure ?_));exact wpAny_pure h
variable{R:Result->Shared->Prop}{I:Addr}{fp wr:List Addr}{G:Array GenState->Array GenState->Prop}{n:Nat}{P:Nat->Value->Prop}{St:Nat->Shared->Prop}
def zD(W:WalksS prog w A.in1 I fp wr G n P St)(S:Addr)(hSf:S∉fp)(val:Nat->Int)(hval:∀ i v,P i v->∃ t,v=.int (val i) t)(hb:∀ i,i<n->(firstMet val i).length<5) :
  ∀ (k i:Nat) (s:Shared),n-i=k->i<=n->St i s->(∃ o,s.heap.get? S=some o/\Gd prog w o (firstMet val i)) ->
   (∀ s' o,Moved (S::wr) G s s'->s'.heap.get? S=some o->Gd prog w o (firstMet val n)->R (.ok (.ret .none)) s') ->
   codeAny (model prog w) A (.builtin "set.update.loop" ⟨[.ref S,.ref I],[]⟩) R s:=by
 have hSw:S∉wr:=fun h=>hSf (W.sub _ h);have hsub:∀ b∈wr,b∈S::wr:=fun b hb=>List.mem_cons_of_mem _ hb;intro k
 induction k with
 |zero=>
  intro i s hk hi hst hS hR
  have hin:i=n:=by omega
  subst hin;obtain⟨o,ho,g⟩:=hS;refine codeAny_builtin F.entry_set_update_loop ?_;rw[Around.under_plainId F.plain_set_update_loop _];show wpAny _ A.in1 (pyNext (.ref I) >>= _) _ _ s;refine wpAny_bind (W.done s _ _ hst fun s' hm=>?_);show wpAny _ A.in1 (ret Value.none) _ _ s';exact wpAny_pure (hR s' o (hm.mono hsub) (hm.heap S _ hSw ho) g)
 |succ k ih=>
  intro i s hk hi hst hS hR
  have hlt:i<n:=by omega
  obtain⟨o,ho,g⟩:=hS;refine codeAny_builtin F.entry_set_update_loop ?_;rw[Around.under_plainId F.plain_set_update_loop _];show wpAny _ A.in1 (pyNext (.ref I) >>= _) _ _ s;refine wpAny_bind (W.item i s _ _ hlt hst fun v s' hP hst' hm=>?_);obtain⟨t,rfl⟩:=hval i v hP;show wpAny _ A.in1 (holding [Value.int (val i) t] (setAdd S (.int (val i) t)) >>= _) _ _ s';refine wpAny_bind (wpAny_holding ?_);unfold setAdd;refine wpAny_holding (wpAny_bind ((intKind prog w).pyHash (k:=val i) (intKind_is _ _ _ _) ?_));refine C0 (s:={ s' with toks:=s'.toks+1 }) (intKind_is _ _ _ _) rfl (hm.heap S _ hSw ho) g (hb i hlt) fun b h' o' hsb ho' g'=>?_;rw[<-firstMet_succ]at g';refine wpAny_pure ⟨plainId_quiet F.plain_set_update_loop _,ih (i+1) _ (by omega) hlt (W.frame _ s' _ _ hst' (Nat.le_succ _) fun b hb o e=>?_) ⟨o',ho',g'⟩ fun s'' o'' hm'' hS''=>?_⟩
  ·rw[hsb.2 b (fun h:b=S=>hSf (by rw[<-h];exact hb))];exact e
  ·refine hR s'' o'' (Moved.trans W.gtrans ((hm.mono hsub).then_heap (Nat.le_succ _) fun b o hb e=>?_) hm'') hS'';rw[hsb.2 b (fun h:b=S=>hb (by rw[h];exact List.mem_cons_self))];exact e
def B1{l:Addr}{items:Array Value}{ns:List Int}{Q:Value->Shared->Prop}
 (hh:A.handled=none)(hl:s.heap.IsList l items)(hi:IntsAre items.toList ns)(hb:∀ i,i<items.size->(firstMet (fun i=>ns.getD i 0) i).length<5)
 (h:∀ (h':Heap) (tk:Nat) (o:Obj),h'.get? s.heap.objs.size=some o->Gd prog w o (firstMet (fun i=>ns.getD i 0) items.size) ->
   (∀ b o,b<s.heap.objs.size->s.heap.get? b=some o->h'.get? b=some o)->Q (.ref s.heap.objs.size) { s with heap:=h',toks:=tk }) :
  wpAny (model prog w) A (call (.type "set") [.ref l]) Q E s:=by
 obtain⟨c,tl,hmro⟩:=F.called_set.mro;have hmade:=F.called_set.made;have hsub:=F.called_set.sub;refine wpAny_call (codeAny_of_tree ?_);show wpAny _ _ (callAny (.type "set") _) _ _ _;refine wpAny_pure ⟨Code.quiet_builtin _ (by decide +kernel),codeAny_builtin F.entry_type_call ?_⟩;rw[Around.under_plain (weight_type_call_type "set" [.ref l] []) rfl];have h1:=F.called_set.notType;have h2:=F.called_set.canCreate;have hct:=F.typeCall_set_1 (.ref l)
 repeat (any_goals (first | assumption | wp_step))
 refine codeAny_mono (C2 (.ref l) (E:=E) (Q₁:=fun obj s₁=>obj=.ref s.heap.objs.size/\s₁={ s with heap:=s.heap.push (dX w) }) ⟨rfl,rfl⟩) fun r s₁ hr=>?_
 cases r with
 | error e=>exact hr
 |ok fl=>
  cases fl with
  |ret obj=>
   obtain⟨rfl,rfl⟩:=hr;have hS:(s.heap.push (dX w)).get? s.heap.objs.size=some (dX w):=Heap.get?_push_size _ rfl
   have hT:Shared.TypeIs { s with heap:=s.heap.push (dX w) } (.ref s.heap.objs.size) "set" := ⟨_,hS,rfl⟩
   have hli:=F.called_set.init.lookup;have hbi:=F.called_set.init.bind (.ref s.heap.objs.size)
   repeat (any_goals (first | assumption | wp_step))
   refine codeAny_mono (codeAny_call_builtin (R:=wants (fun r s₂=>r=.none/\∃ h' tk o,s₂={ s with heap:=h',toks:=tk }/\h'.get? s.heap.objs.size=some o /\
     Gd prog w o (firstMet (fun i=>ns.getD i 0) items.size)/\(∀ b o,b<s.heap.objs.size->s.heap.get? b=some o->h'.get? b=some o)) E) F.called_set.init.plain F.entry_set_init (check_set_init_1 hT ?_)) fun r₂ s₂ hr₂=>?_
   ·obtain⟨ol,hol,hcl,nl,hdl⟩:=hl;obtain⟨ocls,odict,odata,oslots⟩:=ol;simp only at hcl hdl;subst hcl;subst hdl;have hol':(s.heap.push (dX w)).get? l=some { cls:=.type "list",dict:=odict,data:=.seq items nl,slots:=oslots }:=Heap.get?_push_of_some _ hol;have hsls:=F.sub_list_set;have hslf:=F.sub_list_frozenset
    have hne:(Value.type "list" == Value.type "dict")=false:=by decide
    have hl1:(s.heap.push (dX w)).IsList l items:=⟨_,hol',rfl,nl,rfl⟩
    unfold Builtin.«set.__init__» noKeywords Builtin.Frozenset.updateFrom;generalize hPI:pyIter=PI
    wp_walk
    subst hPI;refine wpAny_pyIter_list hl1 (wpAny_bind (wpAny_runValue ?_));have hlS:l<s.heap.objs.size:=Heap.lt_size hol
    have hh3:A.in1.in1.in1.handled=none:=by simp[hh]
    have hneI:l≠(s.heap.push (dX w)).objs.size:=by rw[Heap.size_push];exact Nat.ne_of_lt (Nat.lt_succ_of_lt hlS)
    have hSf:s.heap.objs.size∉[(s.heap.push (dX w)).objs.size,l]:=by
     rw[Heap.size_push];simp only[List.mem_cons,List.mem_singleton,List.not_mem_nil,or_false,not_or];exact⟨Nat.ne_of_lt (Nat.lt_succ_self _),Nat.ne_of_gt hlS⟩
    have hval:∀ (i:Nat) (v:Value),items[i]?=some v->∃ t,v=.int ((fun i=>ns.getD i 0) i) t:=fun i v hv =>
     IntsAre.int_at hi i v (by rw[Array.getElem?_toList];exact hv)
    refine zD ((Walks.list hh3 _ l hneI items).toS) s.heap.objs.size hSf (fun i=>ns.getD i 0) hval hb (items.size-0) 0 _ (by omega) (Nat.zero_le _)
     ⟨⟨_,Heap.get?_push_size _ rfl,rfl,rfl⟩,(hl1.push _)⟩ ⟨dX w,Heap.get?_push_of_some _ hS,xu _ rfl⟩ ?hR
    case hR =>
     intro s' o hm ho' hS';obtain⟨h',g',d',tk',os'⟩:=s';have eg:g'=s.gens:=hm.gens;have ed:d'=s.drawn:=hm.drawn;have eo:os'=s.os:=hm.os;subst eg;subst ed;subst eo;show wpAny _ _ _ _ _ _;refine wpAny_pure ?_;show wpAny _ _ (ret Value.none) _ _ _;refine wpAny_pure ⟨rfl,h',tk',o,rfl,ho',hS',fun b o hb e=>?_⟩;have hb1:b≠s.heap.objs.size:=Nat.ne_of_lt hb
     have hb2:b≠(s.heap.push (dX w)).objs.size:=by rw[Heap.size_push];exact Nat.ne_of_lt (Nat.lt_succ_of_lt hb)
     exact hm.heap b o (by simp only[List.mem_cons,List.mem_singleton,List.not_mem_nil,or_false,not_or];exact⟨hb1,hb2⟩) (Heap.get?_push_of_some _ (Heap.get?_push_of_some _ e))
   ·cases r₂ with
    | error e=>exact hr₂
    |ok fl₂=>
     cases fl₂ with
     |ret r=>
      obtain⟨rfl,h',tk,o,rfl,ho',hS',hk'⟩:=hr₂
      repeat (any_goals (first | assumption | wp_step))
      exact h _ _ o ho' hS' hk'
     | _=>exact hr₂.elim
  | _=>exact hr.elim
end
def v7:Manifest.owners.lookup (String.ofList ['r','o','t','a','r','e','t','i','_','t','e','s'].reverse)=some Manifest.sig_set_iterator:=by kernel_rfl
def hW:Slot "set_iterator" "__next__" "set_iterator.__next__" :=
 .of (owner := "set_iterator") (n := "__next__") (by rw[typeLookup_type,builtinLookup_eq_fast];kernel_rfl) (by decide +kernel) (by decide +kernel) (by decide +kernel) (.inl (by decide +kernel)) (by rw[isSubtype_type];kernel_rfl)
def oT:Slot "set_iterator" "__iter__" "set_iterator.__iter__" :=
 .of (owner := "set_iterator") (n := "__iter__") (by rw[typeLookup_type,builtinLookup_eq_fast];kernel_rfl) (by decide +kernel) (by decide +kernel) (by decide +kernel) (.inl (by decide +kernel)) (by rw[isSubtype_type];kernel_rfl)
def zZ:entryFor table "set_iterator.__next__" = some Builtin.«set_iterator.__next__»:=entryFor_of_tree (by kernel_rfl)
def zv:entryFor table "set_iterator.__iter__" = some Builtin.«dict_keyiterator.__iter__»:=entryFor_alias (id' := "dict_keyiterator.__iter__") (by kernel_rfl) rfl (by decide +kernel) (by kernel_rfl)
def yG:entryFor table "set.__iter__" = some Builtin.«frozenset.__iter__»:=entryFor_alias (id' := "frozenset.__iter__") (by kernel_rfl) rfl (by decide +kernel) (by kernel_rfl)
def zJ(a:Value):argsOk "set_iterator.__next__" ⟨[a],[]⟩:=by
 unfold argsOk;rw[signature?_of (id := "set_iterator.__next__") (n:=['_','_','t','x','e','n','_','_']) (o:=['r','o','t','a','r','e','t','i','_','t','e','s']) (by kernel_rfl) v7];kernel_rfl
def AH(a:Value):argsOk "set_iterator.__iter__" ⟨[a],[]⟩:=by
 unfold argsOk;rw[signature?_of (id := "set_iterator.__iter__") (n:=['_','_','r','e','t','i','_','_']) (o:=['r','o','t','a','r','e','t','i','_','t','e','s']) (by kernel_rfl) v7];kernel_rfl
def jA{α:Type}:∀ (l:List α) (i:Nat) (h:i<l.length),(l[i]::l.eraseIdx i).Perm l
 | a::r,0,_=>.refl _
 | a::r,i+1,h=>(List.Perm.swap _ _ _).trans ((jA r i (by simpa using h)).cons a)
def sg{α:Type}(next:Nat->Nat):∀ (f k:Nat) (left:List α) (out:Array α),left.length=f->(pickOrder.go next f k left out).toList.Perm (out.toList++left):=by
 intro f
 induction f with
 |zero=>
  intro k left out h;have:left=[]:=List.length_eq_zero_iff.mp h;subst this;unfold pickOrder.go;simp
 |succ f ih=>
  intro k left out h;unfold pickOrder.go
  have hi:next k%left.length<left.length:=Nat.mod_lt _ (by omega)
  rw[List.getElem?_eq_getElem hi];refine(ih _ _ _ (by rw[List.length_eraseIdx_of_lt hi];omega)).trans ?_;rw[Array.toList_push,List.append_assoc];exact(jA left _ hi).append_left _
abbrev cy(w:World)(S ep:Nat)(es:Array (Int × Value)):Array (Int × Value):=if byT w then pickOrder (w.params.setOrder S ep) es else es
def nz(w:World)(S ep:Nat)(es:Array (Int × Value)):(cy w S ep es).toList.Perm es.toList:=by
 unfold cy;split
 ·unfold pickOrder;simpa using sg (w.params.setOrder S ep) es.size 0 es.toList #[] (by simp)
 ·exact .refl _
def iU(w:World)(S ep:Nat)(es:Array (Int × Value)):(cy w S ep es).size=es.size:=by
 have:=(nz w S ep es).length_eq;simpa using this
abbrev itO(S:Addr)(j i n ep:Nat):Obj:={ cls:=.type "set_iterator",data:=.fields #[.int j 0,.int i 0,.ref S,.int n 0,.int ep 0] }
section
variable{prog:Program}{w:World}{A:Around}{E:Value->Shared->Prop}{s:Shared}{S I:Addr}{o:Obj}{es:Array (Int × Value)}{ep m i j:Nat}{t:SetTable}
def By{Q:Value->Shared->Prop}(ho:s.heap.get? S=some o)(hex:o.ExactSet)(hd:o.data=.set es ep t)(hf:t.fits es.size=true)(wk:t.plain=true/\t.led=(!byT w)/\Wlk t.place)
 (hQ:Q (.ref s.heap.objs.size) { s with heap:=s.heap.push (itO S 0 0 es.size ep) }):wpAny (model prog w) A (pyIter (.ref S)) Q E s:=by
 have hT:s.TypeIs (.ref S) "set" := ⟨o,ho,hex.1⟩
 refine wpAny_pyIter_slot hT F.slot_set_iter (wpAny_call_entry F.slot_set_iter hT yG ?_ (F.args_set_iter_1 _));unfold Builtin.«frozenset.__iter__» Builtin.Frozenset.slot0 slotArgs;simp only[List.isEmpty_nil,Bool.not_true,Bool.false_eq_true,↓reduceIte,bind_assoc,List.length_nil,bne_self_eq_false];unfold Builtin.Frozenset.addrOf Builtin.Frozenset.sizeOf;refine wpAny_bind (wpAny_pure ?_)
 try dsimp only
 refine wpAny_bind (wpAny_pure ?_);refine wpAny_bind (wpAny_bind (wpAny_setEntries_of ho hd hf (wpAny_pure ?_)));refine wpAny_bind ?_;unfold setDrawn;refine wpAny_bind (wpAny_setState_of ho hd hf ?_);unfold setsByText;refine wpAny_bind (wpAny_bind (wpAny_askSetting (wpAny_pure (wpAny_pure ?_))))
 have hnd:(!w.params.followText "set-order" && (!t.plain&&decide (es.size > 1)))=false:=by rw[wk.1];simp
 show wpAny _ _ (if(!w.params.followText "set-order" && (!t.plain&&decide (es.size > 1)))=true then _ else _) _ _ _;rw[hnd,if_neg Bool.false_ne_true];refine wpAny_bind (wpAny_pure (wpAny_bind (wpAny_setEpoch_of ho hd hf ?_)));refine wpAny_bind (wpAny_newObj_type (wpAny_pure ⟨_,rfl, "set_iterator",_,⟨_,Heap.get?_push_size _ rfl,rfl⟩,hW.lookup,?_⟩));simpa[rawInt,itO]using hQ
def yz{Q:Value->Shared->Prop}(h:s.heap.get? I=some (itO S j i n ep))(hQ:Q (.ref I) s):wpAny (model prog w) A (pyIter (.ref I)) Q E s:=by
 have hT:s.TypeIs (.ref I) "set_iterator" := ⟨_,h,rfl⟩
 refine wpAny_pyIter_slot hT oT (wpAny_call_entry oT hT zv ?_ (AH _));show wpAny _ _ (ret (.ref I)) _ _ s;exact wpAny_pure ⟨_,rfl, "set_iterator",_,hT,hW.lookup,hQ⟩
def C8{Q:Option (Value × Nat)->Shared->Prop}(ho:s.heap.get? S=some o)(hd:o.data=.set es ep t)(hf:t.fits es.size=true)(wk:t.plain=true/\t.led=(!byT w)/\Wlk t.place)
 (hj:byT w=false->SetTable.below t.place j=i)
 (h1:∀ e k,(cy w S ep es)[i]?=some e->(byT w=false->SetTable.below t.place k=i+1)->Q (some (e.2,k)) s)(h2:(cy w S ep es)[i]?=none->Q none s) :
  wpAny (model prog w) A (setNext S j i ep) Q E s:=by
 unfold setNext;refine wpAny_bind (wpAny_setState_of ho hd hf ?_);unfold setsByText;refine wpAny_bind (wpAny_bind (wpAny_askSetting (wpAny_pure ?_)));show wpAny _ _ (if byT w=true then _ else _) _ _ _
 cases hb:byT w with
 |true=>
  rw[if_pos rfl];show wpAny _ _ (if(ep != ep)=true then _ else _) _ _ _;rw[if_neg (by simp)];refine wpAny_bind ?_;unfold setWalk;refine wpAny_bind (wpAny_setState_of ho hd hf ?_);unfold setsByText;refine wpAny_bind (wpAny_bind (wpAny_askSetting (wpAny_pure ?_)));show wpAny _ _ (if byT w=true then _ else _) _ _ _;rw[if_pos hb];refine wpAny_bind (wpAny_askSetting (wpAny_pure (wpAny_pure ?_)))
  have eo:cy w S ep es=pickOrder (w.params.setOrder S ep) es:=by unfold cy;rw[if_pos hb]
  rw[eo]at h1 h2;show Q (((pickOrder (w.params.setOrder S ep) es)[i]?).map fun e=>(e.2,j)) s
  cases he:(pickOrder (w.params.setOrder S ep) es)[i]? with
  | none=>exact h2 he
  | some e=>exact h1 e j he fun z=>by rw[hb]at z;cases z
 |false=>
  rw[if_neg Bool.false_ne_true]
  have eo:cy w S ep es=es:=by unfold cy;rw[hb];rfl
  rw[eo]at h1 h2
  have hnd:(!t.plain&&decide (es.size > 1))=false:=by rw[wk.1];simp
  show wpAny _ _ (if(!t.plain&&decide (es.size > 1))=true then _ else _) _ _ _;rw[hnd,if_neg Bool.false_ne_true]
  have hnl:(!t.led && !es.isEmpty)=false:=by rw[wk.2.1,hb];rfl
  refine wpAny_bind ?_;show wpAny _ _ (if(!t.led && !es.isEmpty)=true then _ else _) _ _ _;rw[hnl,if_neg Bool.false_ne_true];refine wpAny_pure (wpAny_pure ?_);rw[hj hb]
  cases he:es[i]? with
  | none=>exact h2 he
  |some e=>
   have hlt:i<es.size:=(Array.getElem?_eq_some_iff.mp he).1
   have hp:∃ p,t.place[i]?=some p:=⟨t.place[i]'(by simp only[SetTable.fits,Bool.and_eq_true,beq_iff_eq]at hf;rw[hf.1];exact hlt),Array.getElem?_eq_getElem _⟩
   obtain⟨p,hp⟩:=hp;rw[hp];refine h1 e (p+1) he fun _=>?_;exact wk.2.2.2 i p hp
def C1{h:Heap}(e:h.get? I=some (itO S j i n ep))(k:Nat):∃ h',h'=(h.update I (Obj.mapFields (·.setIfInBounds 0 (rawInt (k:Nat))))).update I (Obj.mapFields (·.setIfInBounds 1 (rawInt ((i:Int)+1))))/\h'.get? I=some (itO S k (i+1) n ep)/\Heap.SameBut I h h':=by
 refine⟨_,rfl,?_,(Heap.SameBut.update ..).trans (Heap.SameBut.update ..)⟩;have e1:=Heap.get?_update_self (Obj.mapFields (·.setIfInBounds 0 (rawInt (k:Nat)))) e rfl;have e2:=Heap.get?_update_self (Obj.mapFields (·.setIfInBounds 1 (rawInt ((i:Int)+1)))) e1 rfl;rw[e2];simp[itO,Obj.mapFields,rawInt]
end
section
variable{prog:Program}{w:World}{A:Around}{E:Value->Shared->Prop}{s:Shared}{S I:Addr}{o:Obj}{es:Array (Int × Value)}{ep m i j:Nat}{t:SetTable}
def rH{Q:Option Value->Shared->Prop}(hh:A.handled=none)(hit:s.heap.get? I=some (itO S j i es.size ep))(ho:s.heap.get? S=some o)(hd:o.data=.set es ep t)(hf:t.fits es.size=true)(wk:t.plain=true/\t.led=(!byT w)/\Wlk t.place)
 (hj:byT w=false->SetTable.below t.place j=i)
 (h1:∀ e k h',(cy w S ep es)[i]?=some e->(byT w=false->SetTable.below t.place k=i+1)->h'.get? I=some (itO S k (i+1) es.size ep)->Heap.SameBut I s.heap h'->Q (some e.2) { s with heap:=h' })
 (h2:(cy w S ep es)[i]?=none->∀ h',Heap.ExtBut I s.heap h'->Q none { s with heap:=h' }) :
  wpAny (model prog w) A (pyNext (.ref I)) Q E s:=by
 have hT:s.TypeIs (.ref I) "set_iterator" := ⟨_,hit,rfl⟩
 unfold pyNext;refine wpAny_bind (wpAny_attempt (wpAny_callSpecial?_slot (name:=Str.ofString "__next__") hT hW (wpAny_call_entry hW hT zZ ?_ (zJ _))));unfold Builtin.«set_iterator.__next__» slotArgs;simp only[List.isEmpty_nil,Bool.not_true,Bool.false_eq_true,↓reduceIte,bind_assoc,List.length_nil,bne_self_eq_false];refine wpAny_bind (wpAny_pure ?_);refine wpAny_bind (wpAny_fieldsOf hit rfl ?_);show wpAny _ _ (setEntries S >>= _) _ _ s;refine wpAny_bind (wpAny_setEntries_of ho hd hf ?_);rw[if_neg (by simp)];refine wpAny_bind (C8 (j:=j) (i:=i) ho hd hf wk hj (fun e k he hk=>?_) fun he=>?_)
 ·obtain⟨h',e',hg,hs⟩:=C1 hit k;show wpAny _ _ (setField (.ref I) 0 (rawInt (k:Nat)) >>= _) _ _ s;refine wpAny_bind (wpAny_setField hit rfl (by simp) ?_);have e1:=Heap.get?_update_self (Obj.mapFields (·.setIfInBounds 0 (rawInt (k:Nat)))) hit rfl;refine wpAny_bind (wpAny_setField e1 rfl (by simp[itO,Obj.mapFields]) ?_);refine wpAny_pure ⟨_,rfl,wpAny_pure ?_⟩;have q:=h1 e k h' he hk hg hs;rw[e']at q;exact q
 ·show wpAny _ _ (setField (.ref I) 2 .none >>= _) _ _ s;refine wpAny_bind (wpAny_setField hit rfl (by simp) ?_);refine wpAny_bind ?_;simp only[newExc,newTuple];refine wpAny_bind (wpAny_newObj_type ?_ (by size_fits));refine wpAny_bind (m:=firstArgMember _ _) (wpAny_of_eq (a:=Value.none) (by first | rfl | (simp only[firstArgMember];rfl)) ?_);refine wpAny_newObj_type ?_ (by size_fits);simp only[raiseNew];refine wpAny_bind (wpAny_handled ?_);rw[show A.in1.handled=none from hh];refine wpAny_bind (wpAny_pure (wpAny_throw ?_));refine wpAny_bind (wpAny_isInstance (T := "StopIteration") (b:=true) ⟨_,Heap.get?_push_size _ rfl,rfl⟩ isSubtype_stop ?_);exact wpAny_pure (h2 he _ (((Heap.SameBut.update ..).extBut.push _).push _))
abbrev StS(w:World)(S I:Addr)(o:Obj)(es:Array (Int × Value))(ep:Nat)(t:SetTable)(i:Nat)(h:Heap):Prop:=∃ j,h.get? I=some (itO S j i es.size ep)/\h.get? S=some o/\(byT w=false->SetTable.below t.place j=i)
def xh(hh:A.handled=none)(hne:S≠I)(hd:o.data=.set es ep t)(hf:t.fits es.size=true)(wk:t.plain=true/\t.led=(!byT w)/\Wlk t.place) :
  Walks prog w A I [I,S] [I] es.size (fun i v=>∃ e,(cy w S ep es)[i]?=some e/\v=e.2) (StS w S I o es ep t) where
 sub:=fun b hb=>by simp at hb;simp[hb]
 frame:=fun _ _ _ ⟨j,a,b,c⟩ hk=>⟨j,hk I (by simp) _ a,hk S (by simp) _ b,c⟩
 item:=fun i s Q E hi ⟨j,a,b,c⟩ hQ=>by
  refine rH hh a b hd hf wk c (fun e k h' he hk hg hs=>?_) fun he=>?_
  ·exact hQ _ h' s.toks ⟨e,he,rfl⟩ ⟨k,hg,hs.extBut S _ hne b,hk⟩ fun b o hb e=>hs.extBut b o (fun h=>hb (by simp[h])) e
  ·rw[Array.getElem?_eq_none_iff,iU]at he;omega
 done:=fun s Q E ⟨j,a,b,c⟩ hQ=>by
  refine rH hh a b hd hf wk c (fun e k h' he hk hg hs=>?_) fun he h' hs=>?_
  ·have:=(Array.getElem?_eq_some_iff.mp he).1;rw[iU]at this;omega
  ·exact hQ h' s.toks fun b o hb e=>hs b o (fun h=>hb (by simp[h])) e
 self:=fun _ _ _ _ ⟨j,a,_,_⟩ hQ=>yz a hQ
def Am{Q:Bool->Shared->Prop}(hT:s.TypeIs (.ref S) "set")(h:Q false s):wpAny (model prog w) A (Builtin.List.listLengthHint (.ref S)) Q E s:=by
 unfold Builtin.List.listLengthHint;refine wpAny_bind (wpAny_specialOf hT F.slot_set_len.lookup ?_);generalize hid:("set.__len__" : String)=id0
 wp_delta
 rw[show splitId id0=some ("set", "__len__")from by subst hid;decide +kernel];subst hid;refine wpAny_bind (wpAny_isInstance (T := "set") (b:=true) hT (by rw[isSubtype_type];kernel_rfl) ?_);refine wpAny_ite_split (fun hab=>absurd hab (by decide)) (fun _=>?_);refine wpAny_ite_split (fun _=>?_) (fun hab=>absurd (by decide +kernel) hab);refine wpAny_bind (wpAny_typeOf hT ?_);exact wpAny_pure h
def CD(hex:o.ExactSet)(hd:o.data=.set es ep t)(hf:t.fits es.size=true)(wk:t.plain=true/\t.led=(!byT w)/\Wlk t.place) :
  PySem.W.KdlSrc prog w "set" S S es.size (fun i v=>∃ e,(cy w S ep es)[i]?=some e/\v=e.2) (fun h=>h.get? S=some o) where
 type:=fun _ h=>⟨o,h,hex.1⟩
 there:=fun _ h=>⟨Heap.lt_size h,Heap.lt_size h⟩
 keep:=fun _ _ h k=>k S (.inl rfl) o h
 notList:=by decide
 notTuple:=by decide
 hint:=fun _ _ _ _ h q=>Am ⟨o,h,hex.1⟩ q
 iter:=fun A s hh h=>⟨itO S 0 0 es.size ep,StS w S s.heap.objs.size o es ep t,fun E Q q=>By h hex hd hf wk q,xh hh (Nat.ne_of_lt (Heap.lt_size h)) hd hf wk,
  0,Heap.get?_push_size _ rfl,Heap.get?_push_of_some _ h,fun _=>wk.2.2.1⟩
def lX:∀ {vs:List Value},(∀ v∈vs,∃ k t,v=.int k t)->IntsAre vs (vs.map ivS)
 | [],_=>.nil
 | v::r,h=>by
  obtain⟨k,t,rfl⟩:=h v (by simp);exact .cons _ _ (lX fun v hv=>h v (by simp[hv]))
def u5{xs:Array (Int × Value)}{acc:Array Value}(h:ItemsOf (fun i v=>∃ e,xs[i]?=some e/\v=e.2) acc xs.size):acc.toList=xs.toList.map (·.2):=by
 apply List.ext_getElem?;intro i;rw[List.getElem?_map,Array.getElem?_toList,Array.getElem?_toList]
 cases he:acc[i]? with
 |none=>
  have:xs[i]?=none:=by rw[Array.getElem?_eq_none_iff]at he ⊢;rw[h.1]at he;exact he
  rw[this];rfl
 |some v=>
  obtain⟨e,h1,h2⟩:=h.2 i v he;rw[h1,h2];rfl
def rV{R:List Value->Shared->Prop}{T:String}{r d:Addr}{n:Nat}{P:Nat->Value->Prop}{OK:Heap->Prop}(K:PySem.W.KdlSrc prog w T r d n P OK)(hh:A.handled=none)(hok:OK s.heap)(hn:n<=sizeLine)
 (h:∀ (h':Heap) (tk:Nat) (acc:Array Value),(∀ b o,s.heap.get? b=some o->h'.get? b=some o)->s.heap.objs.size<h'.objs.size->ItemsOf P acc n->R acc.toList { s with heap:=h',toks:=tk }) :
  wpAny (model prog w) A (collect (.ref r)) R E s:=by
 have hlt:=K.there _ hok;unfold collect;refine wpAny_bind (wpAny_runValue (codeAny_builtin F.entry_proto_collect ?_));rw[Around.under_plainId F.plain_proto_collect _];show wpAny _ A.in1 (newList [] >>= fun l=>again (.builtin "list.__iadd__" ⟨[l,.ref r],[]⟩)) _ _ s;refine wpAny_bind (wpAny_newObj_type ?_);refine wpAny_pure ⟨plainId_quiet F.plain_list_iadd _,codeAny_builtin F.entry_list_iadd ?_⟩;rw[Around.under_plainId F.plain_list_iadd _];have hS₁:(s.heap.push { cls:=.type "list",data:=.seq ([]:List Value).toArray }).get? s.heap.objs.size=some { cls:=.type "list",data:=.seq #[] }:=Heap.get?_push_size _ rfl;show wpAny _ A.in1 (Builtin.List.listExtendWith (.ref s.heap.objs.size) (.ref r) (.ref s.heap.objs.size)) _ _ _
 have key:=PySem.W.kdl_extend (A:=A) (s:={ s with heap:=s.heap.push { cls:=.type "list",data:=.seq ([]:List Value).toArray } })
  (R:=fun(q:Result) (s':Shared)=>∃ (h':Heap) (tk:Nat) (acc':Array Value) (c':Nat),q=.ok (.ret (.ref s.heap.objs.size))/\s'={ s with heap:=h',toks:=tk } /\
   (∀ b o,s.heap.get? b=some o->h'.get? b=some o)/\h'.get? s.heap.objs.size=some { cls:=.type "list",dict:=none,data:=.seq acc' c',slots:=#[] }/\ItemsOf P acc' n)
  K hh (K.keep _ _ hok fun b _ o e=>Heap.get?_push_of_some _ e) s.heap.objs.size (Nat.ne_of_gt hlt.1) (Nat.ne_of_gt hlt.2) (.ref s.heap.objs.size) 0 hS₁
  (fun h' tk acc' c' hk hS' hacc=>⟨h',tk,acc',c',rfl,rfl,fun b o e=>hk b o (Nat.ne_of_lt (Heap.lt_size e)) (Heap.get?_push_of_some _ e),hS',hacc⟩) hn
 refine wpAny_mono key (fun fin s' x=>?_) fun e s' x=>?_
 ·cases fin with
  |done f=>
   obtain⟨h',tk,acc',c',e,rfl,hk,hS',hacc⟩:=x;cases e;show wpAny _ A (load s.heap.objs.size >>= _) _ _ _;exact wpAny_bind (wpAny_load hS' (wpAny_pure (h h' tk acc' hk (Heap.lt_size hS') hacc)))
  |again c₁=>
   refine⟨x.1,codeAny_mono x.2 fun q s₂ y=>?_⟩;obtain⟨h',tk,acc',c',rfl,rfl,hk,hS',hacc⟩:=y;show wpAny _ A (load s.heap.objs.size >>= _) _ _ _;exact wpAny_bind (wpAny_load hS' (wpAny_pure (h h' tk acc' hk (Heap.lt_size hS') hacc)))
 ·obtain⟨_,_,_,_,e',_⟩:=x;cases e'
def t9{ks:List Int}{Q:Value->Shared->Prop}(hh:A.handled=none)(ho:s.heap.get? S=some o)(g:Gd prog w o ks)
 (h:∀ (h':Heap) (a tk:Nat) (out:Array Value) (ns:List Int),s.heap.objs.size<=a->(∀ b o,s.heap.get? b=some o->h'.get? b=some o)->(∃ e,h'.get? a=some (seqObj "list" out e))->IntsAre out.toList ns->ns.Perm ks->ns.Pairwise (·<=·)->Q (.ref a) { s with heap:=h',toks:=tk }) :
  wpAny (model prog w) A (call (.builtin "sorted") [.ref S]) Q E s:=by
 obtain⟨es,ep,t,m,hex,hd,hel,hp,hf,wk,_,h5⟩:=g;refine Calls.call_function_entry kind_sorted plain_sorted entry_sorted (args_sorted1 _) ?_;unfold Builtin.«sorted»;refine wpAny_bind (m:=checkCount "sorted" 1 1 _) (wpAny_pure ?_);refine wpAny_bind (rV (A:=A.in1) (CD hex hd hf wk) hh ho (by unfold sizeLine;omega) fun h' tk acc hk hsz hacc=>?_)
 have hacc':ItemsOf (fun i v=>∃ e,(cy w S ep es)[i]?=some e/\v=e.2) acc (cy w S ep es).size:=by rw[iU];exact hacc
 have ea:=u5 hacc';have hpe:=nz w S ep es
 have hl:acc.toList.length=es.size:=by rw[Array.length_toList];exact hacc.1
 have hI:IntsAre acc.toList (acc.toList.map ivS):=lX fun v hv=>by
  rw[ea,List.mem_map]at hv;obtain⟨e,he,rfl⟩:=hv;obtain⟨⟨k,hk,_⟩,_⟩:=hel e (hpe.mem_iff.mp he);obtain⟨u,hu⟩:=Value.isInt_shape hk;exact⟨k,u,hu⟩
 have hpk:(acc.toList.map ivS).Perm ks:=by
  rw[ea,List.map_map];exact(hpe.map _).trans hp
 refine wpAny_bind (wpAny_newList ?_ (by rw[hl];unfold sizeLine;omega));have hoL:(h'.push (seqObj "list" acc.toList.toArray 0)).get? h'.objs.size=some (seqObj "list" acc.toList.toArray 0):=Heap.get?_push_size _ rfl;refine wpAny_bind (wpAny_holding (wpAny_call_entry slot_list_sort ⟨_,hoL,rfl⟩ entry_list_sort (list_sort_tree hoL hI (by rw[hl];omega) fun out ns' a1 a2 a3=>⟨_,rfl,?_⟩) (args_list_sort _)));refine wpAny_pure ⟨_,rfl,h _ h'.objs.size tk out ns' ?_ (fun b ob e=>?_) ?_ a1 (a2.trans hpk) a3⟩
 ·exact Nat.le_of_lt hsz
 ·rw[sortedHeap_old (Nat.ne_of_lt (Heap.lt_size (hk b ob e))) (by rw[Heap.size_push];exact Nat.lt_succ_of_lt (Heap.lt_size (hk b ob e)))];exact Heap.get?_push_of_some _ (hk b ob e)
 ·exact sortedHeap_at hoL
end
abbrev t6(P:Program)(w:World)(a:Addr)(ks:List Int):HO:=.ext fun h=>∃ o,h.get? a=some o/\Gd P w o ks
section
variable{X:Cx}
def rq(hc:X.calm=true):aH X (.type "set") (fun xs H Q=>∃ p ns,xs=[.ref p]/\H p=some (.lst (ns.map V.int))/\(∀ i,i<ns.length->(firstMet (fun i=>ns.getD i 0) i).length<5)/\∀ l,H l=none->Q (.ref l) (upd H l (t6 X.prog X.w l (eS ns)))):=by
 intro pins s σ H xs us Q I r h;obtain⟨p,ns,rfl,hp,hn,q⟩:=h
 cases r with
 |cons r rr=>
  cases rr;cases r;obtain⟨its,rv,hl,hz⟩:=I.list (SqL.of hp)
  have hlen:its.length=ns.length:=by
   have:=rv.length;simp at this;exact this.symm
  have hf:H s.heap.objs.size=none:=I.hok.fresh (Nat.le_refl _);refine B1 (I.ok.hd.1 hc) hl.isList (ns:=ns) (by simpa using intsAre_of rv) (by rw[List.size_toArray,hlen];exact hn) fun h' tk o ho g hk=>?_
  have hsz:its.toArray.size=ns.length:=by rw[List.size_toArray];exact hlen
  rw[hsz]at g;exact⟨.ref s.heap.objs.size,_,I.laid (o:=t6 X.prog X.w s.heap.objs.size (eS ns)) (t':=tk) (fun b u e=>hk b u (Heap.lt_size e) e) (Nat.le_refl _) ⟨⟨o,ho,g⟩,⟨o,ho⟩,fun h1 h2 ⟨o,a,b⟩ k=>⟨o,k o a,b⟩⟩,rfl,q _ hf⟩
def qi(hc:X.calm=true):aH X (.builtin "sorted") (fun xs H Q=>∃ (p:Addr) (ks:List Int),xs=[.ref p]/\H p=some (t6 X.prog X.w p ks)/\ks.length<=5/\∀ l,H l=none->Q (.ref l) (upd H l (.lst ((RL.sortI ks).map V.int)))):=by
 intro pins s σ H xs us Q I r h;obtain⟨p,ks,rfl,hp,hlen,q⟩:=h
 cases r with
 |cons r rr=>
  cases rr;cases r;obtain⟨⟨o,ho,g⟩,_⟩:=I.hok p _ hp;refine t9 (I.ok.hd.1 hc) ho g fun h' a tk out ns ha hk he h1 h2 h3=>?_;have e:=fG (h2.trans (sortI_perm ks).symm) h3 (dM ks);subst e;obtain⟨en,he⟩:=he;refine⟨.ref a,_,I.laid (t':=tk) (o:=.lst ((RL.sortI ks).map V.int)) hk ha ?_,rfl,q _ (I.hok.fresh ha)⟩;exact⟨by simp only[List.length_map];rw[(sortI_perm ks).length_eq];unfold sizeLine;lia,out.toList,en,eG h1,by rw[he]⟩
def tm(val:Nat->Int):∀ {i n:Nat},i<=n->(firstMet val i).length<=(firstMet val n).length:=fun {i n} h=>by
 induction n with
 | zero=>cases Nat.le_zero.mp h;exact Nat.le_refl _
 |succ n ih=>
  by_cases e:i=n+1
  ·rw[e];exact Nat.le_refl _
  ·refine Nat.le_trans (ih (by omega)) ?_;rw[firstMet_succ];unfold step_dedup;split
   ·exact Nat.le_refl _
   ·rw[List.length_append];exact Nat.le_add_right _ _
def uC(ns:List Int):(eS ns).length<=ns.length:=firstMet_length_le _ _
def lD(hc:X.calm=true)(hgl:Gl X "sorted")(hml:X.mg "sorted" = none)(hg:Gl X "set")(hm:X.mg "set" = none)(ha:SE X cl a a')(hn:noStar a=true):SE X cl (.Call (.Name "sorted" p2) [.Call (.Name "set" p) [a] [] pos] [] pos2) (.bi .sortedSet a'):=by
 refine PE.weak (dQ (qi hc) hgl hml (by decide +kernel) (b9 (bC (rq hc) hg hm (by decide +kernel) (aR (cl:=cl) ha bp hn) (by decide) (by decide) (ay [] hn) rfl) cB rfl) (by decide) (by decide) rfl rfl) fun σ H Q h=>?_;obtain⟨σD,d,rv,e,k⟩:=h;obtain⟨y,ea,e⟩:=bind_some e;refine one rv ea fun v H1 s1 r1=>?_
 cases y<;>first | (cases e;done) | skip
 case lst ds =>
  rw[RL.Co]at e;split at e
  ·rename_i hl;obtain⟨is,e1,e2⟩:=map_some e;subst e2;obtain⟨q,xs,rfl,_,f2,f3⟩:=au r1;have hx:=cU e1 f3;rw[hx]at f2
   have hil:is.length<=5:=by rw[iK e1];exact hl
   refine⟨q,is,rfl,f2,fun i hi=>Nat.lt_of_le_of_lt (firstMet_length_le _ i) (Nat.lt_of_lt_of_le hi hil),fun l hl2=>⟨l,_,rfl,a8,Nat.le_trans (uC is) hil,fun l2 hl3=>?_⟩⟩;rw[ie]at hl3 ⊢;exact k _ _ (bf (s1.trans (ao.aU hl2)) hl3 (fO _) fun _=>rfl)
  ·rename_i hl;obtain⟨is,e1,e2⟩:=bind_some e;obtain⟨h4,rfl⟩:=aW e2;obtain⟨q,xs,rfl,_,f2,f3⟩:=au r1;have hx:=cU e1 f3;rw[hx]at f2
   have hm:(eS is).length<=4:=by rw[ie];exact h4
   refine⟨q,is,rfl,f2,fun i hi=>Nat.lt_of_le_of_lt (Nat.le_trans (tm _ (Nat.le_of_lt hi)) hm) (by decide),fun l hl2=>⟨l,_,rfl,a8,Nat.le_trans hm (by decide),fun l2 hl3=>?_⟩⟩;rw[ie]at hl3 ⊢;exact k _ _ (bf (s1.trans (ao.aU hl2)) hl3 (fO _) fun _=>rfl)
end
open Sem (wp)
section
variable{prog:Program}{w:World}{A:Around}{E:Value->Shared->Prop}{s:Shared}{it d:Addr}{es:Array DictEntry}{ep i:Nat}
abbrev cv(h:Heap)(d:Addr)(es:Array DictEntry)(ep:Nat):Prop:=∃ o,h.get? d=some o/\o.ExactDict/\o.data=.dict es ep
def cv.typeIs(x:cv s.heap d es ep):s.TypeIs (.ref d) "dict" := let ⟨o,ho,hc,_⟩:=x;⟨o,ho,hc.1⟩
def cv.at{h h':Heap}(x:cv h d es ep)(e:∀ o,h.get? d=some o->h'.get? d=some o):cv h' d es ep:=let ⟨o,ho,r⟩:=x;⟨o,e o ho,r⟩
def mO{Q:Value->Shared->Prop}(hd:(d == sysModules)=false)(hm:cv s.heap d es ep)
 (hQ:Q (.ref s.heap.objs.size) { s with heap:=s.heap.push { cls:=.type "dict_keyiterator",data:=.fields #[.ref d,.int 0 0,.int es.size 0,.int ep 0] } }) :
  wpAny (model prog w) A (pyIter (.ref d)) Q E s:=by
 obtain⟨o,ho,hc,hdat⟩:=id hm;have hT:=hm.typeIs;refine wpAny_pyIter_slot hT F.slot_dict_iter (wpAny_call_entry F.slot_dict_iter hT F.entry_dict_iter ?_ (F.args_dict_iter_1 _));unfold Builtin.«dict.__iter__» Builtin.Dict.dictSlotNone;refine wpAny_bind (wpAny_bind (wpAny_notOrdered_dict hT (wpAny_pure ?_)));show wpAny _ _ (Builtin.Dict.showsAll d >>= _) _ _ s;unfold Builtin.Dict.showsAll;rw[if_neg (by rw[hd];exact Bool.false_ne_true)];refine wpAny_bind (wpAny_pure (wpAny_bind (wpAny_dictEntries ho hdat (wpAny_bind (wpAny_dictEpoch ho hdat ?_)))));exact wpAny_bind (wpAny_newObj_type (wpAny_pure ⟨_,rfl, "dict_keyiterator",_,⟨_,Heap.get?_push_size _ rfl,rfl⟩,F.slot_dict_keyiterator_next.lookup,by simpa[rawInt]using hQ⟩))
def ma{Q:Option Value->Shared->Prop}(hit:s.heap.IsKeyIter it d i es.size ep)(hm:cv s.heap d es ep){e:DictEntry}(hx:es[i]?=some e)
 (hQ:∀ h',h'.IsKeyIter it d (i+1) es.size ep->Heap.SameBut it s.heap h'->Q (some e.key) { s with heap:=h' }) :
  wpAny (model prog w) A (pyNext (.ref it)) Q E s:=by
 obtain⟨o,ho,hc,hd⟩:=id hit;obtain⟨od,hod,hcd,hdd⟩:=id hm;unfold pyNext
 refine wpAny_bind (wpAny_attempt (wpAny_callSpecial?_slot (name:=Str.ofString "__next__") hit.typeIs F.slot_dict_keyiterator_next
  (wpAny_call_entry F.slot_dict_keyiterator_next hit.typeIs F.entry_dict_keyiterator_next ?_ (F.args_dict_keyiterator_next_1 _))))
 refine wpAny_bind (wpAny_pure (wpAny_bind (wpAny_bind ?_)))
 first | refine wpAny_bind (wpAny_typeNameOfWhole_keyiter hit.typeIs (wpAny_pure ?_)) | refine wpAny_bind (wpAny_typeNameOf_keyiter hit.typeIs (wpAny_pure ?_))
 refine wpAny_bind (wpAny_fieldsOf ho hd ?_)
 have hown:Builtin.Dict_items.ownsTuple "dict_keyiterator" = false:=by decide
 simp only[hown,Bool.false_eq_true,if_false];show wpAny _ _ (if(Value.ref d == Value.none)=true then _ else _) _ _ s;rw[if_neg (show ¬ ((Value.ref d == Value.none)=true)from Bool.false_ne_true)];refine wpAny_bind (wpAny_pure (wpAny_bind (wpAny_dictEntries hod hdd ?_)));rw[if_neg (by simp)];refine wpAny_bind (wpAny_pure (wpAny_bind (wpAny_dictEpoch hod hdd ?_)));rw[if_neg (by simp)];refine wpAny_pure ?_;simp only[show ¬ ((i:Int)<0)from by omega,if_false,Int.toNat_natCast,hx];refine wpAny_bind ?_
 first | refine wpAny_bind (wpAny_typeNameOfWhole_keyiter hit.typeIs (wpAny_pure ?_)) | refine wpAny_bind (wpAny_typeNameOf_keyiter hit.typeIs (wpAny_pure ?_))
 refine wpAny_bind (wpAny_isOneOf_keyiter hit.typeIs ?_);show wpAny _ _ (setField (.ref it) 1 (rawInt ((i:Int)+1)) >>= _) _ _ s;refine wpAny_bind (wpAny_setField ho hd (by simp) ?_)
 have hit':(s.heap.update it (Obj.mapFields (·.setIfInBounds 1 (rawInt ((i:Int)+1))))).IsKeyIter it d (i+1) es.size ep :=
  ⟨_,Heap.get?_update_self _ ho (Obj.isFreed_of_fields (Obj.data_mapFields hd _)),(Obj.cls_mapFields ..).trans hc,by rw[Obj.data_mapFields hd];simp[rawInt]⟩
 refine wpAny_bind (wpAny_holding ?_);refine wpAny_bind (wpAny_isOneOf_keyiter (s:={ s with heap:=s.heap.update it (Obj.mapFields (·.setIfInBounds 1 (rawInt ((i:Int)+1)))) }) hit'.typeIs ?_);show wpAny _ _ (pure e.key) _ _ _;exact wpAny_pure (wpAny_pure ⟨_,rfl,wpAny_pure (hQ _ hit' (Heap.SameBut.update ..))⟩)
def oE{Q:Option Value->Shared->Prop}(hh:A.handled=none)(hit:s.heap.IsKeyIter it d i es.size ep)(hm:cv s.heap d es ep)(hx:es[i]?=none)
 (hQ:∀ h',Heap.ExtBut it s.heap h'->Q none { s with heap:=h' }):wpAny (model prog w) A (pyNext (.ref it)) Q E s:=by
 obtain⟨o,ho,hc,hd⟩:=id hit;obtain⟨od,hod,hcd,hdd⟩:=id hm;unfold pyNext
 refine wpAny_bind (wpAny_attempt (wpAny_callSpecial?_slot (name:=Str.ofString "__next__") hit.typeIs F.slot_dict_keyiterator_next
  (wpAny_call_entry F.slot_dict_keyiterator_next hit.typeIs F.entry_dict_keyiterator_next ?_ (F.args_dict_keyiterator_next_1 _))))
 refine wpAny_bind (wpAny_pure (wpAny_bind (wpAny_bind ?_)))
 first | refine wpAny_bind (wpAny_typeNameOfWhole_keyiter hit.typeIs (wpAny_pure ?_)) | refine wpAny_bind (wpAny_typeNameOf_keyiter hit.typeIs (wpAny_pure ?_))
 refine wpAny_bind (wpAny_fieldsOf ho hd ?_)
 have hown:Builtin.Dict_items.ownsTuple "dict_keyiterator" = false:=by decide
 simp only[hown,Bool.false_eq_true,if_false];show wpAny _ _ (if(Value.ref d == Value.none)=true then _ else _) _ _ s;rw[if_neg (show ¬ ((Value.ref d == Value.none)=true)from Bool.false_ne_true)];refine wpAny_bind (wpAny_pure (wpAny_bind (wpAny_dictEntries hod hdd ?_)));rw[if_neg (by simp)];refine wpAny_bind (wpAny_pure (wpAny_bind (wpAny_dictEpoch hod hdd ?_)));rw[if_neg (by simp)];refine wpAny_pure ?_;simp only[show ¬ ((i:Int)<0)from by omega,if_false,Int.toNat_natCast,hx];refine wpAny_bind ?_
 first | refine wpAny_bind (wpAny_typeNameOfWhole_keyiter hit.typeIs (wpAny_pure ?_)) | refine wpAny_bind (wpAny_typeNameOf_keyiter hit.typeIs (wpAny_pure ?_))
 show wpAny _ _ (setField (.ref it) 0 .none >>= _) _ _ s;refine wpAny_bind (wpAny_setField ho hd (by simp) ?_);show wpAny _ _ (newExc (.type "StopIteration") [] >>= _) _ _ _;refine wpAny_bind ?_;simp only[newExc,newTuple];refine wpAny_bind (wpAny_newObj_type ?_ (by size_fits));refine wpAny_bind (m:=firstArgMember _ _) (wpAny_of_eq (a:=Value.none) (by first | rfl | (simp only[firstArgMember];rfl)) ?_);refine wpAny_newObj_type ?_ (by size_fits);simp only[raiseNew];refine wpAny_bind (wpAny_handled ?_);rw[show A.in1.handled=none from hh];refine wpAny_bind (wpAny_pure (wpAny_throw ?_));refine wpAny_bind (wpAny_isInstance (T := "StopIteration") (b:=true) ⟨_,Heap.get?_push_size _ rfl,rfl⟩ isSubtype_stop ?_);exact wpAny_pure (hQ _ (((Heap.SameBut.update ..).extBut.push _).push _))
def qP(hh:A.handled=none)(I d:Addr)(hne:d≠I)(es:Array DictEntry)(ep:Nat) :
  Walks prog w A I [I,d] [I] es.size (fun i v=>∃ e,es[i]?=some e/\v=e.key) (fun i h=>h.IsKeyIter I d i es.size ep/\cv h d es ep) where
 sub:=fun b hb=>by simp at hb;simp[hb]
 frame:=fun _ _ _ st hk=>⟨st.1.at fun o e=>hk I (by simp) o e,st.2.at fun o e=>hk d (by simp) o e⟩
 item:=fun i s Q E hi st hQ=>by
  refine ma st.1 st.2 (e:=es[i]) (by simp[hi]) fun h' hit' hs'=>?_;exact hQ _ h' s.toks ⟨es[i],by simp[hi],rfl⟩ ⟨hit',st.2.at fun o e=>hs'.extBut d o hne e⟩ fun b o hb e=>hs'.extBut b o (fun h=>hb (by simp[h])) e
 done:=fun s Q E st hQ=>oE hh st.1 st.2 (by simp) fun h' he'=>hQ h' s.toks fun b o hb e=>he' b o (fun h=>hb (by simp[h])) e
 self:=fun _ _ _ _ st hQ=>wpAny_pyIter_keyiter st.1 hQ
end
end RS
namespace L2
open PySem PySem.Spec PyProof.Rows
abbrev Ikd(a:Addr)(o:Obj)(kvs:List (List Key × V)):It:=⟨fun i H=>H a=some (.frz o (.dT kvs))/\i<kvs.length,fun i H v H'=>H'=H/\∃ k x b,kvs[i]?=some (k,x)/\v=.ref b/\H b=some (.tup (k.map kV)),fun i H=>H a=some (.frz o (.dT kvs))/\kvs.length<=i⟩
def hX{P:Program}{w:World}{H:Hp}{h:Heap}{a:Addr}{o:Obj}{kvs:List (List Key × V)}{es:Array DictEntry}{ep:Nat}(hd:o.data=.dict es ep)(q:aM P w H h a (.frz o (.dT kvs))) :
  RS.cv h a es ep/\es.size=kvs.length/\(a == sysModules)=false/\∀ (i:Nat) e,es[i]?=some e->∃ k x b,kvs[i]?=some (k,x)/\e.key=.ref b/\H b=some (.tup (k.map kV)):=by
 obtain⟨g,_,hs,xs,pr,o',es',ep',g',ex,hd',he,_⟩:=q;rw[g]at g';cases g';rw[hd]at hd';cases hd'
 have hl:es.size=xs.length:=by rw[<-Array.length_toList,he,List.length_map]
 have pl:∀ {kvs:List (List Key × V)} {xs:List (List Key × Addr × Value)},Paired (fun(p:List Key × V) (q:List Key × Addr × Value)=>p.1=q.1/\H q.2.1=some (.tup (p.1.map kV))/\RelV p.2 q.2.2) kvs xs->kvs.length=xs.length/\∀ (i:Nat) q,xs[i]?=some q->∃ x,kvs[i]?=some (q.1,x)/\H q.2.1=some (.tup (q.1.map kV)):=by
  intro kvs xs pr
  induction pr with
  | nil=>exact⟨rfl,fun i q e=>by simp at e⟩
  |cons h t ih=>
   rename_i p q ps qs;refine⟨by rw[List.length_cons,List.length_cons,ih.1],fun i q' e=>?_⟩
   cases i with
   |zero=>
    simp at e;subst e;obtain⟨h1,h2,h3⟩:=h;obtain⟨pk,pv⟩:=p;have h1:pk=q.1:=h1;subst h1;exact⟨pv,rfl,h2⟩
   | succ i=>exact ih.2 i q' (by simpa using e)
 obtain⟨p1,p2⟩:=pl pr;refine⟨⟨o,g,ex,hd⟩,hl.trans p1.symm,hs,fun i e hi=>?_⟩
 have hi':(xs.map (entryOfKey (tupleKind (aT P w))))[i]?=some e:=by rw[<-he,Array.getElem?_toList];exact hi
 rw[List.getElem?_map]at hi'
 cases hx:xs[i]? with
 | none=>rw[hx]at hi';cases hi'
 |some q=>
  rw[hx]at hi';cases hi';obtain⟨x,h1,h2⟩:=p2 i q hx;exact⟨q.1,x,q.2.1,h1,rfl,h2⟩
def vp{P:Program}{w:World}{K:PySem.W.Frag}{tg:Expr}{a:Addr}{o:Obj}{kvs:List (List Key × V)}{es:Array DictEntry}{ep:Nat}(hd:o.data=.dict es ep)(it:Addr):Turn P w K tg (Ikd a o kvs) [it] it (fun i h=>h.IsKeyIter it a i es.size ep) where
 mem:=by simp
 obj:=fun i h st b hb=>by
  have e:b=it:=by simpa using hb
  subst e;obtain⟨o,e,c,d⟩:=st;exact⟨o,e,fun v z=>by rw[d]at z;cases z⟩
 keep:=fun i h h' st k=>st.at fun o e=>k it (by simp) o e
 item:=by
  intro X hP hw hK hc i pins s σ H E I hf st hg;subst hP hw hK;obtain⟨hH,hlt⟩:=hg;obtain⟨f0,f1,f2,f3,f4,f5⟩:=hf it (by simp);obtain⟨raw,hsz,_,hk⟩:=hX hd (I.hok a _ hH);have hx:es[i]?=some (es[i]'(by omega)):=Array.getElem?_eq_getElem _;obtain⟨k,x,b,k1,k2,k3⟩:=hk i _ hx;refine RS.ma st raw hx fun h' st' sb=>?_;have I1:Inv X pins σ H { s with heap:=h',toks:=s.toks }:=I.turned (t':=s.toks) (fun b o hb e=>(sb.2 b hb).trans e) f0 f1 f3 f4 f5;obtain⟨ob,e,c,d⟩:=id st';exact⟨_,rfl,lz (s:={ s with heap:=h',toks:=s.toks }) e c d (by decide) ⟨.ref b,H,I1,by rw[k2];exact rfl,⟨rfl,k,x,b,k1,rfl,k3⟩,st',fun b hb=>(hf b hb).1⟩⟩
 done:=by
  intro X hP hw hK hc i pins s σ H E I hf st hg;subst hP hw hK;obtain⟨hH,hlt⟩:=hg;obtain⟨f0,f1,f2,f3,f4,f5⟩:=hf it (by simp);obtain⟨raw,hsz,_,hk⟩:=hX hd (I.hok a _ hH)
  exact RS.oE (I.ok.hd.1 hc) st raw (by rw[Array.getElem?_eq_none_iff];omega) fun h' eb=>⟨rfl,I.turned (t':=s.toks) (fun b o hb e=>eb b o hb e) f0 f1 f3 f4 f5⟩
 self:=fun A i s Q E st h=>wpAny_pyIter_keyiter st h
def A9{X:Cx}{tg l:Expr}{tl:TE}(hl:PE X l tl):PI X tg l (fun σ H R=>tl σ H fun y H1=>∃ a o kvs,y=.ref a/\H1 a=some (.frz o (.dT kvs))/\R (Ikd a o kvs) H1):=by
 intro pins s σ H R I h;refine thn (hl pins s σ H _ I h) fun v s1 ⟨y,H1,I1,r1,a,o,kvs,e,hH,q⟩=>?_;subst e;cases r1;obtain⟨g,_,_,_,_,o',es,ep,g',ex,hd,_,_⟩:=I1.hok a _ hH;rw[g]at g';cases g';obtain⟨raw,hsz,hs,hk⟩:=hX hd (I1.hok a _ hH);refine RS.mO hs raw ⟨s1.heap.objs.size,[s1.heap.objs.size],_,_,H1,rfl,I1.kept (t':=s1.toks) fun b o e=>Heap.get?_push_of_some _ e,vp hd _,⟨_,Heap.get?_push_size _ rfl,rfl,rfl⟩,fun b hb=>?_,q⟩;rw[show b=s1.heap.objs.size by simpa using hb];exact I1.ki (Nat.le_refl _) (I1.hok.fresh (Nat.le_refl _))
end L2
namespace RS
open PySem PySem.Spec PyProof.Rows L2
def ij{P:Addr->Prop}{K:PySem.W.Frag}{H:Hp}:∀ k:List RL.Ky,aa P K H (k.map RL.kyD) (k.map kV)
 | []=>aa.nil
 | .inl i::r=>aa.cons aA (ij r)
 | .inr x::r=>aa.cons dD (ij r)
def si{K:PySem.W.Frag}{H:Hp}{a:Addr}{o:Obj}{kvs:List (List Key × V)}{P:Addr->Prop}(h:H a=some (.frz o (.dT kvs)))(hm:∀ b o,P b->H b=some o->bq o):eW K (Ikd a o kvs) ((kvs.map (·.1)).map fun k=>RL.D.tup (k.map RL.kyD)) P H:=by
 have hp:¬ P a:=fun p=>by rcases hm a _ p h with⟨z,q⟩ | ⟨z,q⟩ | ⟨z,q⟩<;>cases q
 exact {
  go:=fun H' i k hi=>⟨k _ _ hp h,by simpa using hi⟩
  stop:=fun H' k=>⟨k _ _ hp h,by simp⟩
  yld:=fun H' i d x H2 k e y=>by
   obtain⟨z,kk,xx,b,h1,rfl,h3⟩:=y;subst z;refine⟨ao.refl _,fun _=>?_⟩;rw[List.getElem?_map,List.getElem?_map,h1]at e;cases e;rw[Rep]
   exact⟨b,_,rfl,h3,ij kk⟩ }
def ze{X:Cx}{cl:RL.Cl}{tg a:Expr}{a':RL.E}(ha:SE X cl a a'):SI X cl tg a (.key a'):=by
 refine PI.weak (A9 ha) fun σ H R h=>?_;obtain⟨σD,ds,rv,e,k⟩:=h;obtain⟨d,e1,e2⟩:=bind_some (show(RL.ev cl σD a').bind _=some ds from e);refine⟨σD,d,rv,e1,fun v H1 r1=>?_⟩
 cases d with
 |fT ks ds=>
  cases e2;have r:=r1.rep;rw[Rep]at r;obtain⟨a,o,xs,rfl,h2,hl,hr⟩:=r
  have h3:(ks.zip xs).map (·.1)=ks:=by rw[List.map_fst_zip];rw[hl,hr.length];exact Nat.le_refl _
  rw[<-h3]at k;generalize ks.zip xs=kvs at *
  exact⟨a,o,kvs,rfl,h2,k _ _ r1.same ⟨si h2 fun _ _ z=>z.elim,fun M P _ hm _=>si h2 fun b ob p eb=>by
   obtain⟨o1,q1,q2⟩:=hm b p;rw[r1.same _ _ q1]at eb;cases eb
   exact q2⟩⟩
 | _=>cases e2
def oi{X:Cx}{sts:List Stmt}{t t':TS}(h:PSs X sts t')(w:∀ D σ H,t D σ H->∃ a kvs,H a=some (.dT kvs)/\∀ o,t' D σ (upd H a (.frz o (.dT kvs)))):PSs X sts t:=by
 intro pins s σ H D I q;obtain⟨a,kvs,hH,k⟩:=w D σ H q;obtain⟨z,hs,xs,pr,o,es,ep,g,rest⟩:=id (I.hok a _ hH);have I':Inv X pins σ (upd H a (.frz o (.dT kvs))) { s with heap:=s.heap,toks:=s.toks }:=I.write (x:=a) (e:=a) (h':=s.heap) (t':=s.toks) (by rw[hH];trivial) (.inl rfl) (fun b u _ e=>e) ⟨o,g⟩ ⟨g,z,hs,xs,?_,o,es,ep,g,rest⟩
 ·exact h pins s σ _ D I' (k o)
 ·exact Paired.mono (fun p q ⟨h1,h2,h3⟩=>⟨h1,by rw[a6 (eC h2 hH (by intro z;cases z))];exact h2,h3⟩) pr
def RVm.freeze{K:PySem.W.Frag}{M:List Nat}(h:RVm K (j::M) σD σ H)(hM:M.contains j=false)(h1:σ[j]?=some (some (.ref a)))(f2:H a=some (.dT (ks.zip xs)))(fl:ks.length=ds.length)(f3:aa nP K H ds xs)(him:RL.ah ds=true):RVm K M (σD.set j (some (.fT ks ds))) σ (upd H a (.frz o (.dT (ks.zip xs)))):=by
 have pa:aE (j::M) σ a:=⟨j,cx,h1⟩
 have mu:bq (.dT (ks.zip xs)):=.inr (.inr ⟨_,rfl⟩);refine⟨by simpa using h.len,fun i d ei=>?_,fun i w e=>?_,fun i k b hi hk=>h.sep i k b (b0 hi) (b0 hk)⟩
 ·by_cases hij:i=j
  ·subst hij
   have hlt:i<σD.length:=by simpa using(List.getElem?_eq_some_iff.mp ei).1
   rw[List.getElem?_set_self hlt]at ei;cases ei;refine⟨.ref a,h1,?_⟩;rw[if_neg (by rw[hM];exact Bool.false_ne_true),Rep];exact⟨a,o,xs,rfl,a8,fl,(aa.upd (P:=fun p=>p=a) f2 mu rfl (f3.imm him)).imm him⟩
  ·rw[List.getElem?_set_ne (Ne.symm hij)]at ei;obtain⟨v,g1,g2⟩:=h.val i d ei;refine⟨v,g1,?_⟩;by_cases hm:M.contains i=true
   ·rw[if_pos hm];rw[if_pos (b0 hm)]at g2;obtain⟨b,ob,rfl,_,_⟩:=g2.ref;exact g2.off (P:=fun x=>x=a) (fun x u e e'=>by subst e;rw[f2]at e';cases e';exact mu) (fun x u n e=>by rw[a6 n];exact e) fun z=>hij (h.sep i j a (b0 hm) cx (z▸g1) h1)
   ·rw[if_neg hm];rw[if_neg fun z=>hm ((bV z).resolve_left hij)]at g2
    exact(g2.upd f2 mu pa).weak fun b ⟨k,hk,ek⟩=>⟨k,b0 hk,ek⟩
 ·obtain⟨d,hd⟩:=h.non i w e;by_cases hij:i=j
  ·subst hij;exact⟨_,List.getElem?_set_self (List.getElem?_eq_some_iff.mp hd).1⟩
  ·exact⟨d,by rw[List.getElem?_set_ne (Ne.symm hij)];exact hd⟩
def AE{X:Cx}{M:List Nat}{sts:List Stmt}(h:SSs X cl M sts r)(hM:M.contains j=false):SQ X cl M (j::M) sts (.frz j r):=by
 refine oi h fun D σ H h=>?_;obtain⟨σ0,H0,σD,o,σD',rv,fr,e,k⟩:=h;obtain⟨d,e1,e2⟩:=bind_some e;obtain⟨dj,e3,e4⟩:=bind_some e1
 cases dj with
 |dT ks vs=>
  cases e4;obtain⟨v,h1,h2⟩:=rv.val j _ (slot_get e3);rw[if_pos cx]at h2;obtain⟨q1,q2,q3⟩:=h2;rw[Rep]at q3;obtain⟨a,xs,rfl,_,f2,fl,f3⟩:=q3;refine⟨a,ks.zip xs,f2,fun ob=>⟨_,o,σD',rv.freeze hM h1 f2 fl f3 q2,e2,k.from ⟨fun b u eb n=>⟨?_,fun⟨i,hi,ei⟩=>(fr.1 b u eb n).2 ⟨i,b0 hi,ei⟩⟩,fr.2⟩⟩⟩;rw[a6 (fun z=>(fr.1 b u eb n).2 ⟨j,cx,by rw[z];exact h1⟩)];exact(fr.1 b u eb n).1
 | _=>cases e4
def BQ{X:Cx}{M N:List Nat}{sts:List Stmt}{r:RL.Sq}{j:Nat}(h:SQ X cl M N sts r)(hN:N.contains j=false):SQ X cl M (j::N) sts (.fz j r):=by
 refine oi h fun D σ H h=>?_;obtain⟨σ0,H0,σD,o,σD',rv,fr,e,k⟩:=h;obtain⟨d,e1,e2⟩:=bind_some e;obtain⟨dj,e3,e4⟩:=bind_some e1
 cases dj with
 |dT ks vs=>
  cases e4;obtain⟨v,h1,h2⟩:=rv.val j _ (slot_get e3);rw[if_pos cx]at h2;obtain⟨q1,q2,q3⟩:=h2;rw[Rep]at q3;obtain⟨a,xs,rfl,_,f2,fl,f3⟩:=q3;refine⟨a,ks.zip xs,f2,fun ob=>⟨σ0,H0,_,o,σD',rv.freeze hN h1 f2 fl f3 q2,⟨fun b u eb n=>⟨?_,fun⟨i,hi,ei⟩=>(fr.1 b u eb n).2 ⟨i,b0 hi,ei⟩⟩,fr.2⟩,e2,k⟩⟩;rw[a6 (fun z=>(fr.1 b u eb n).2 ⟨j,cx,by rw[z];exact h1⟩)];exact(fr.1 b u eb n).1
 | _=>cases e4
end RS
namespace L2
open PySem PySem.Spec PyProof.Rows
section
variable{X:Cx}
def Bk{e:Expr}{t t':TE}(h:PE X e t')(w:∀ σ H Q,t σ H Q->t' σ H fun v H1=>∃ p xs,v=.ref p/\H1 p=some (.lst xs)/\∀ o,Q (.ref p) (upd H1 p (.frz o (.lst xs)))):PE X e t:=by
 intro pins s σ H Q I q;refine thn (h pins s σ H _ I (w σ H Q q)) fun v s1 ⟨x,H1,I1,r1,p,xs,e1,hH,k⟩=>?_;subst e1;obtain⟨z,its,n,r,g⟩:=I1.hok p _ hH;have I':Inv X pins σ (upd H1 p (.frz _ (.lst xs))) { s1 with heap:=s1.heap,toks:=s1.toks }:=I1.write (x:=p) (e:=p) (h':=s1.heap) (t':=s1.toks) (by rw[hH];trivial) (.inl rfl) (fun b u _ e=>e) ⟨_,g⟩ ⟨g,z,its,n,r,g⟩;exact⟨.ref p,_,I',r1,k _⟩
abbrev C3(K:PySem.W.Frag):R2:=fun x y H Q=>∃ l b xs zs,x=.ref l/\y=.ref b/\SqL K H l xs/\SqL K H b zs/\xs.length+zs.length<=sizeLine/\∀ p,H p=none->Q (.ref p) (upd H p (.lst (xs++zs)))
def wy:OpR X (binaryOp .Add) (C3 X.K):=by
 intro pins s σ H x y v u Q I rx ry h;obtain⟨l,b,xs,zs,rfl,rfl,hH,hB,hz,q⟩:=h;cases rx;cases ry;obtain⟨its,r,hl,e⟩:=I.list hH;obtain⟨its2,r2,hl2,e2⟩:=I.list hB;have a1:=r.length;have a2:=r2.length;obtain⟨⟨cls,dd,data,sl⟩,ho,hc,n,hd⟩:=hl.isList;obtain⟨⟨cls2,dd2,data2,sl2⟩,ho2,hc2,n2,hd2⟩:=hl2.isList;simp only at hc hd hc2 hd2;subst hc hd hc2 hd2;refine concat_meets ⟨_,ho,rfl⟩ ⟨_,ho2,rfl⟩ noFill_list_add seq_list_add PySem.F.slot_list_add PySem.F.entry_list_add (PySem.F.args_list_add_2 _ _) (list_addW l b its.toArray its2.toArray n n2 dd dd2 sl sl2 (by simp only[List.size_toArray];omega)) ⟨ho,ho2,?_⟩
 have ea:its.toArray++its2.toArray=(its++its2).toArray:=by simp
 rw[ea];exact⟨.ref _,_,I.uD (t':=s.toks) (r.append r2) (by rw[List.length_append];omega),rfl,q _ I.fresh⟩
end
end L2
namespace RS
open PySem PySem.Spec PyProof.Rows L2
section
variable{X:Cx}{cl:RL.Cl}{a b:Expr}{a' b':RL.E}
def Bt(ha:SE X cl a a'):SE X cl a (.frz a'):=by
 refine Bk ha fun σ H Q h=>?_;obtain⟨σD,d,rv,e,k⟩:=h;obtain⟨x,ea,e⟩:=bind_some (show(RL.ev cl σD a').bind _=some d from e);refine⟨σD,x,rv,ea,fun v H1 r1=>?_⟩;by_cases tf:RL.az a'=true
 ·rw[if_pos tf]at e
  cases x with
  |lst ds=>
   obtain⟨im,rfl⟩:=aW (show(if RL.ah ds=true then some (RL.D.fL ds)else none)=some d from e);obtain⟨p,xs,rfl,_,hH,rs⟩:=au r1.rep;have fr:=r1.fresh tf rfl p rfl;refine⟨p,xs,rfl,hH,fun o=>k _ _ (bh ?_ ?_ im)⟩
   ·intro b ob eb;rw[a6 (a5 eb fr)];exact r1.same _ _ eb
   ·rw[Rep];exact⟨p,o,xs,rfl,a8,(aa.upd (P:=fun q=>q=p) hH (.inl ⟨_,rfl⟩) rfl (rs.imm im)).imm im⟩
  | _=>cases e
 ·rw[if_neg tf]at e;cases e
def BG{pos:Pos}(ha:SE X cl a a')(hb:SE X cl b b'):SE X cl (.BinOp a .Add b pos) (.cat a' b'):=by
 refine PE.weak (vU wy ha hb) fun σ H Q h=>?_;obtain⟨σD,d,rv,e,k⟩:=h;obtain⟨x,ea,e⟩:=bind_some (show(RL.ev cl σD a').bind _=some d from e);obtain⟨y,eb,e⟩:=bind_some e;refine two rv ea eb fun v u H1 H2 s1 s2 rx ry _ _=>?_
 cases x with
 |fL i=>
  cases y with
  |lst j=>
   obtain⟨hc,rfl⟩:=aW (show(if i.length+j.length<=RL.most then some (RL.D.lst (i++j))else none)=some d from e);rw[Rep]at rx;obtain⟨p,o,xs,e1,e2,e3⟩:=rx;obtain⟨q,ys,f1,_,f2,f3⟩:=au ry;refine⟨p,q,xs,ys,e1,f1,.inl (.inr ⟨o,e2⟩),SqL.of f2,?_,fun l hl=>k _ _ (bf (s1.trans s2) hl (e3.append f3) fun _=>rfl)⟩;rw[<-e3.length,<-f3.length];exact Nat.le_trans hc aX
  | _=>cases e
 |lst i=>
  cases y with
  |fL j=>
   obtain⟨hc,rfl⟩:=aW (show(if i.length+j.length<=RL.most then some (RL.D.lst (i++j))else none)=some d from e);rw[Rep]at ry;obtain⟨p,o,xs,e1,e2,e3⟩:=ry;obtain⟨q,ys,f1,_,f2,f3⟩:=au rx;refine⟨q,p,ys,xs,f1,e1,SqL.of f2,.inl (.inr ⟨o,e2⟩),?_,fun l hl=>k _ _ (bf (s1.trans s2) hl (f3.append e3) fun _=>rfl)⟩;rw[<-e3.length,<-f3.length];exact Nat.le_trans hc aX
  | _=>cases e
 | _=>cases e
end
abbrev lO(its:Array Value)(n:Nat):Obj:={ cls:=.type "list",dict:=none,data:=.seq its n,slots:=#[] }
def vM:∀ {vs:List Value} {xs:List Int} (i:Nat),IntsAre vs xs->(vs[i]?=none/\xs[i]?=none)\/∃ x t,vs[i]?=some (.int x t)/\xs[i]?=some x:=fun {vs xs} i h=>by
 induction h generalizing i with
 | nil=>exact .inl ⟨rfl,rfl⟩
 |cons k t r ih=>
  cases i with
  | zero=>exact .inr ⟨_,_,rfl,rfl⟩
  | succ i=>exact ih i
def Cp{xs ys:List Int}{i:Nat}(h1:xs[i]?=none)(h2:ys[i]?=none):RL.ltL (xs.drop i) (ys.drop i)=false:=by
 rw[List.drop_eq_nil_of_le (by simpa using h1),List.drop_eq_nil_of_le (by simpa using h2)];rfl
def BW{xs ys:List Int}{i:Nat}{y:Int}(h1:xs[i]?=none)(h2:ys[i]?=some y):RL.ltL (xs.drop i) (ys.drop i)=true:=by
 obtain⟨h,e⟩:=List.getElem?_eq_some_iff.mp h2;rw[List.drop_eq_nil_of_le (by simpa using h1),List.drop_eq_getElem_cons h];rfl
def Cf{xs ys:List Int}{i:Nat}{x:Int}(h1:xs[i]?=some x)(h2:ys[i]?=none):RL.ltL (xs.drop i) (ys.drop i)=false:=by
 obtain⟨h,e⟩:=List.getElem?_eq_some_iff.mp h1;have e2:ys.drop i=[]:=List.drop_eq_nil_of_le (by simpa using h2);rw[List.drop_eq_getElem_cons h,e2];rfl
def CO{xs ys:List Int}{i:Nat}{x y:Int}(h1:xs[i]?=some x)(h2:ys[i]?=some y):RL.ltL (xs.drop i) (ys.drop i)=if x=y then RL.ltL (xs.drop (i+1)) (ys.drop (i+1))else decide (x<y):=by
 obtain⟨h,e⟩:=List.getElem?_eq_some_iff.mp h1;obtain⟨h',e'⟩:=List.getElem?_eq_some_iff.mp h2;rw[List.drop_eq_getElem_cons h,List.drop_eq_getElem_cons h',e,e'];rfl
def rL{vs:List Value}{xs:List Int}(h:IntsAre vs xs):vs.length=xs.length:=by
 induction h with
 | nil=>rfl
 | cons k t r ih=>simp[ih]
def wX{l b:Addr}{us vs:Array Value}{n m:Nat}{xs ys:List Int}(hx:IntsAre us.toList xs)(hy:IntsAre vs.toList ys):∀ k i:Nat,us.size-i=k->i<=us.size->i<=vs.size ->
  Meets (Builtin.«list.__eq__.loop» ⟨[.ref l,.ref b,rawInt i,rawInt 0],[]⟩) (fun _ R s=>s.heap.get? l=some (lO us n)/\s.heap.get? b=some (lO vs m)/\R (.ok (.ret (.bool (RL.ltL (xs.drop i) (ys.drop i))))) s):=by
 have q1:=rL hx;have q2:=rL hy;rw[Array.length_toList]at q1 q2;intro k
 induction k with
 |zero=>
  intro i hk hi1 hi2 prog w A R s h;obtain⟨hp,g,d,tk,os⟩:=s;obtain⟨hl,hb,h⟩:=h;have hl:hp.get? l=some { cls:=.type "list",dict:=none,data:=.seq us n,slots:=#[] }:=hl;have hb:hp.get? b=some { cls:=.type "list",dict:=none,data:=.seq vs m,slots:=#[] }:=hb
  wp_walk using AutoSeq1.wpAny_loadPart' hl,AutoSeq1.wpAny_loadPart' hb
  have e1:us[((i:Nat):Int).toNat]?=none:=by simp;omega
  rw[e1]
  wp_walk using AutoSeq1.wpAny_loadPart' hl,AutoSeq1.wpAny_loadPart' hb
  show R (.ok (.ret (.bool (decide (us.size<vs.size))))) _
  have e3:xs[i]?=none:=by simp;omega
  cases e2:ys[i]? with
  |none=>
   rw[Cp e3 e2]at h;rw[decide_eq_false (by rw[List.getElem?_eq_none_iff]at e2;omega)];exact h
  |some y=>
   rw[BW e3 e2]at h;rw[decide_eq_true (by have:=(List.getElem?_eq_some_iff.mp e2).1;omega)];exact h
 |succ k ih=>
  intro i hk hi1 hi2 prog w A R s h;obtain⟨hp,g,d,tk,os⟩:=s;obtain⟨hl,hb,h⟩:=h;have hl:hp.get? l=some { cls:=.type "list",dict:=none,data:=.seq us n,slots:=#[] }:=hl;have hb:hp.get? b=some { cls:=.type "list",dict:=none,data:=.seq vs m,slots:=#[] }:=hb
  wp_walk using AutoSeq1.wpAny_loadPart' hl,AutoSeq1.wpAny_loadPart' hb
  have hc:((i:Int)+1)=((i+1:Nat):Int):=by push_cast;rfl
  obtain⟨x,t,ex,ex'⟩:∃ x t,us[((i:Nat):Int).toNat]?=some (.int x t)/\xs[i]?=some x:=by
   rcases vM i hx with⟨a,b⟩ | ⟨x,t,a,b⟩
   ·rw[Array.getElem?_toList,Array.getElem?_eq_none_iff]at a;omega
   ·exact⟨x,t,by rw[Int.toNat_natCast,<-Array.getElem?_toList];exact a,b⟩
  rw[ex]
  rcases vM i hy with⟨a,b'⟩ | ⟨y,u,a,b'⟩
  ·have a:vs[((i:Nat):Int).toNat]?=none:=by rw[Int.toNat_natCast,<-Array.getElem?_toList];exact a
   rw[a]
   wp_walk using AutoSeq1.wpAny_loadPart' hl,AutoSeq1.wpAny_loadPart' hb
   show R (.ok (.ret (.bool (decide (us.size<vs.size))))) _;rw[Cf ex' b']at h;rw[List.getElem?_eq_none_iff]at b';have:=(List.getElem?_eq_some_iff.mp ex').1;rw[decide_eq_false (by omega)];exact h
  ·have a:vs[((i:Nat):Int).toNat]?=some (.int y u):=by rw[Int.toNat_natCast,<-Array.getElem?_toList];exact a
   rw[a];rw[CO ex' b']at h;refine wpAny_bind (wpAny_eqBool_int ?_);by_cases e:x=y
   ·rw[if_pos e]at h;rw[beq_iff_eq.mpr e]
    wp_walk
    rw[hc]
    exact⟨plainId_quiet MeetsSeq3.plain_eq_loop _,codeAny_builtin MeetsSeq3.entry_eq_loop (by
     rw[Around.under_plainId MeetsSeq3.plain_eq_loop _]
     exact ih (i+1) (by omega) (by omega) (by have:=(List.getElem?_eq_some_iff.mp b').1;omega) prog w A R _ ⟨hl,hb,h⟩)⟩
   ·rw[if_neg e]at h;rw[beq_eq_false_iff_ne.mpr e]
    wp_walk using AutoSeq1.wpAny_loadPart' hl,AutoSeq1.wpAny_loadPart' hb
    rw[ex,a];refine wpAny_bind (CmpOf.ints_lt (P:=fun i v=>∃ t,v=.int (if i=0 then x else y) t) (fun i=>if i=0 then x else y) (fun i v h=>h) 0 1 _ _ _ _ _ ⟨t,rfl⟩ ⟨u,rfl⟩ ?_);exact wpAny_pure h
def vb{l b:Addr}{us vs:Array Value}{n m:Nat}{xs ys:List Int}(hx:IntsAre us.toList xs)(hy:IntsAre vs.toList ys) :
  Meets (Builtin.«list.__lt__» ⟨[.ref l,.ref b],[]⟩) (fun _ R s=>s.heap.get? l=some (lO us n)/\s.heap.get? b=some (lO vs m)/\R (.ok (.ret (.bool (RL.ltL xs ys)))) s):=by
 intro prog w A R s h;obtain⟨hp,g,d,tk,os⟩:=s;obtain⟨hl,hb,h⟩:=h;have hl:hp.get? l=some { cls:=.type "list",dict:=none,data:=.seq us n,slots:=#[] }:=hl;have hb:hp.get? b=some { cls:=.type "list",dict:=none,data:=.seq vs m,slots:=#[] }:=hb;have f3:=AutoSeq1.sub_list_list
 wp_walk using AutoSeq1.wpAny_loadPart' hl,AutoSeq1.wpAny_loadPart' hb
 exact⟨plainId_quiet MeetsSeq3.plain_eq_loop _,codeAny_builtin MeetsSeq3.entry_eq_loop (by
  rw[Around.under_plainId MeetsSeq3.plain_eq_loop _]
  exact wX hx hy _ 0 rfl (Nat.zero_le _) (Nat.zero_le _) prog w A R _ ⟨hl,hb,h⟩)⟩
def AR{prog:Program}{w:World}{A:Around}{E:Value->Shared->Prop}{s:Shared}{l b:Addr}{us vs:Array Value}{n m:Nat}{xs ys:List Int}{Q:Value->Shared->Prop}(hu:A.units<cLine)(hx:IntsAre us.toList xs)(hy:IntsAre vs.toList ys)
 (hl:s.heap.get? l=some (lO us n))(hb:s.heap.get? b=some (lO vs m))(h:Q (.bool (RL.ltL xs ys)) s):wpAny (model prog w) A (richCompare .Lt (.ref l) (.ref b)) Q E s:=by
 have hT:s.TypeIs (.ref l) "list" := ⟨_,hl,rfl⟩
 refine wpAny_richCompare_same_room hT ⟨_,hb,rfl⟩ F.slot_list_lt (call_meets F.slot_list_lt hT F.entry_list_lt (F.args_list_lt_2 _ _) (vb hx hy) ⟨hl,hb,(fun z=>by cases z),h⟩) hu
section
variable{prog:Program}{w:World}{A:Around}{R:Result->Shared->Prop}{I S:Addr}{fp wr:List Addr}{n:Nat}{P:Nat->Value->Prop}{St:Nat->Heap->Prop}{Ok:Heap->Prop}{bt:Nat->Nat->Bool}
abbrev KpS(wr:List Addr)(S:Addr)(h h':Heap):Prop:=∀ b o,b∉wr->b≠S->h.get? b=some o->h'.get? b=some o
def yk(W:Walks prog w A.in1 I fp wr n P St)(ok:∀ h h',Ok h->KpS wr S h h'->Ok h')(cmp:∀ i j vi vj (s:Shared) (Q E:Value->Shared->Prop),Ok s.heap->P i vi->P j vj->Q (.bool (bt i j)) s->wpAny (model prog w) A.in1 (richCompare .Lt vi vj) Q E s)(sf:S∉fp) :
  ∀ (k j:Nat) (s:Shared) (u:Value) (c:Nat),n-(j+1)=k->j+1<=n->St (j+1) s.heap->Ok s.heap->P (argBest bt j) u->s.heap.get? S=some (lO #[u,u] c) ->
  (∀ v g tk,P (argBest bt (n-1)) v->KpS wr S s.heap g->R (.ok (.ret v)) { s with heap:=g,toks:=tk })->codeAny (model prog w) A (.builtin "min.loop" ⟨[.ref I,.none,.ref S],[]⟩) R s:=by
 have sw:S∉wr:=fun z=>sf (W.sub _ z)
 have nm:(toString "min" ++ toString ".loop" : String) = "min.loop" := by decide
 intro k
 induction k with
 |zero=>
  intro j s u c e1 e2 st o pu hS hR;refine codeAny_builtin F.entry_min_loop ?_;rw[Around.under_plainId F.plain_min_loop _];show wpAny _ _ (seqItems? (.ref S) >>= _) _ _ _;refine wpAny_bind (wpAny_seqItems hS rfl ?_);show wpAny _ _ (tryCatch (pyNext (.ref I)) _ >>= _) _ _ _
  have e3:j+1=n:=by omega
  rw[e3]at st;refine wpAny_bind (wpAny_tryCatch (W.done _ _ _ st fun g tk kp=>?_));have hg:=kp S _ sw hS;show wpAny _ _ (updateSeq S (fun _=>#[]) >>= _) _ _ _;refine wpAny_bind (wpAny_updateSeq hg rfl (wpAny_bind (wpAny_letGo (wpAny_pure ?_))));refine hR u _ tk ?_ fun b ob h1 h2 e=>(Heap.get?_update_other _ _ (Ne.symm h2)).trans (kp b ob h1 e);rw[<-e3];exact pu
 |succ k ih=>
  intro j s u c e1 e2 st o pu hS hR;refine codeAny_builtin F.entry_min_loop ?_;rw[Around.under_plainId F.plain_min_loop _];show wpAny _ _ (seqItems? (.ref S) >>= _) _ _ _;refine wpAny_bind (wpAny_seqItems hS rfl ?_);show wpAny _ _ (tryCatch (pyNext (.ref I)) _ >>= _) _ _ _;refine wpAny_bind (wpAny_tryCatch (W.item (j+1) _ _ _ (by omega) st fun v g tk pv st' kp=>?_));have hg:=kp S _ sw hS;have og:Ok g:=ok _ _ o fun b ob h1 _ e=>kp b ob h1 e;show wpAny _ _ (tryCatch (holding [v,v] (richCompare .Lt v u >>= _)) _ >>= _) _ _ _;refine wpAny_bind (wpAny_tryCatch (wpAny_holding (wpAny_bind (cmp (j+1) (argBest bt j) v u _ _ _ og pv pu ?_))));refine wpAny_bind (wpAny_holding (wpAny_truthy_bool (wpAny_bind (wpAny_letGo (wpAny_pure ?_)))))
  cases hb:bt (j+1) (argBest bt j)with
  |true=>
   have up:KpS wr S g (g.update S (Obj.mapSeq fun _=>#[v,v])):=fun b ob _ h2 e=>(Heap.get?_update_other _ _ (Ne.symm h2)).trans e;rw[if_pos rfl];refine wpAny_bind (wpAny_updateSeq hg rfl (wpAny_bind (wpAny_letGo ?_)));rw[nm];refine wpAny_pure ⟨plainId_quiet F.plain_min_loop _,ih (j+1) _ v _ (by omega) (by omega) (W.frame _ _ _ st' fun b hf ob e=>?_) (ok _ _ og up) ?_ (Heap.get?_update_self _ hg rfl) fun v' g' tk' pv' kp'=>?_⟩
   ·exact(Heap.get?_update_other _ _ fun z:S=b=>sf (by rw[z];exact hf)).trans e
   ·rw[argBest,hb,if_pos rfl];exact pv
   ·exact hR v' g' tk' pv' fun b ob h1 h2 e=>kp' b ob h1 h2 (up b ob h1 h2 (kp b ob h1 e))
  |false=>
   rw[if_neg Bool.false_ne_true];refine wpAny_bind (wpAny_letGo ?_);rw[nm];refine wpAny_pure ⟨plainId_quiet F.plain_min_loop _,ih (j+1) _ u c (by omega) (by omega) st' og ?_ hg fun v' g' tk' pv' kp'=>?_⟩
   ·rw[argBest,hb,if_neg Bool.false_ne_true];exact pu
   ·exact hR v' g' tk' pv' fun b ob h1 h2 e=>kp' b ob h1 h2 (kp b ob h1 e)
end
section
variable{prog:Program}{w:World}{A:Around}{E:Value->Shared->Prop}{s:Shared}
def vv{x:Value}{Q:Value->Shared->Prop}
 (h:wpAny (model prog w) A.in1 (pyIter x) (fun it s2=>∃ I fp wr n P St,∃ Ok:Heap->Prop,∃ bt:Nat->Nat->Bool,it=.ref I/\Walks prog w A.in1 I fp wr n P St/\St 0 s2.heap/\(∀ b∈fp,b<s2.heap.objs.size)/\0<n/\Ok s2.heap/\(∀ S h h',s2.heap.get? S=none->Ok h->KpS wr S h h'->Ok h') /\
   (∀ i j vi vj (s:Shared) (Q E:Value->Shared->Prop),Ok s.heap->P i vi->P j vj->Q (.bool (bt i j)) s->wpAny (model prog w) A.in1 (richCompare .Lt vi vj) Q E s) /\
   ∀ v g tk,P (argBest bt (n-1)) v->(∀ b o,b∉wr->s2.heap.get? b=some o->g.get? b=some o)->Q v { s2 with heap:=g,toks:=tk }) E s) :
  wpAny (model prog w) A (call (.builtin "min") [x]) Q E s:=by
 have nm:(toString "min" ++ toString ".loop" : String) = "min.loop" := by decide
 refine call_function_tree F.kind_min F.plain_min F.entry_min (F.args_min1 _) ?_;show wpAny _ _ (Builtin.Builtins.bindParams "min" ["key", "default"] 0 ⟨[],[]⟩ >>= _) _ _ _;refine wpAny_bind (wpAny_of_eq (a:=[none,none]) rfl (wpAny_bind (wpAny_pure (wpAny_bind (wpAny_mono h (fun it s2 h2=>?_) fun _ _ e=>e)))));obtain⟨I,fp,wr,n,P,St,Ok,bt,rfl,W,st,lt,hn,o,ok,cmp,q⟩:=h2
 have sn:s2.heap.get? s2.heap.objs.size=none:=by
  cases e:s2.heap.get? s2.heap.objs.size with
  | none=>rfl
  | some ob=>exact absurd (Heap.lt_size e) (Nat.lt_irrefl _)
 have sf:s2.heap.objs.size∉fp:=fun z=>Nat.lt_irrefl _ (lt _ z);have sw:s2.heap.objs.size∉wr:=fun z=>sf (W.sub _ z);refine wpAny_bind (wpAny_newObj_type ?_);rw[nm];refine wpAny_pure ⟨plainId_quiet F.plain_min_loop _,?_⟩;refine codeAny_builtin F.entry_min_loop ?_;rw[Around.under_plainId F.plain_min_loop _];have hS:(s2.heap.push { cls:=.type "list",data:=.seq #[] }).get? s2.heap.objs.size=some (lO #[] 0):=Heap.get?_push_size _ rfl;have up0:∀ b ob,s2.heap.get? b=some ob->(s2.heap.push { cls:=.type "list",data:=.seq #[] }).get? b=some ob:=fun b ob e=>Heap.get?_push_of_some _ e;show wpAny _ _ (seqItems? (.ref s2.heap.objs.size) >>= _) _ _ _;refine wpAny_bind (wpAny_seqItems hS rfl ?_);show wpAny _ _ (tryCatch (pyNext (.ref I)) _ >>= _) _ _ _;refine wpAny_bind (wpAny_tryCatch (W.item 0 _ _ _ hn (W.frame _ _ _ st fun b _ ob e=>up0 b ob e) fun v g tk pv st' kp=>?_));have hg:=kp _ _ sw hS;have up:KpS wr s2.heap.objs.size g (g.update s2.heap.objs.size (Obj.mapSeq fun _=>#[v,v])):=fun b ob _ h2 e=>(Heap.get?_update_other _ _ (Ne.symm h2)).trans e;show wpAny _ _ (updateSeq s2.heap.objs.size (fun _=>#[v,v]) >>= _) _ _ _;refine wpAny_bind (wpAny_updateSeq hg rfl ?_);rw[nm];refine wpAny_pure ⟨plainId_quiet F.plain_min_loop _,yk (Ok:=Ok) W (fun h h' a b=>ok _ h h' sn a b) cmp sf _ 0 _ v _ rfl hn (W.frame _ _ _ st' fun b hf ob e=>?_) ?_ pv (Heap.get?_update_self _ hg rfl) fun v' g' tk' pv' kp'=>?_⟩
 ·exact(Heap.get?_update_other _ _ fun z:s2.heap.objs.size=b=>sf (by rw[z];exact hf)).trans e
 ·exact ok _ s2.heap _ sn o fun b ob h1 h2 e=>up b ob h1 h2 (kp b ob h1 (up0 b ob e))
 ·refine q v' g' tk' pv' fun b ob h1 e=>?_;have h2:=Nat.ne_of_lt (Heap.lt_size e);exact kp' b ob h1 h2 (up b ob h1 h2 (kp b ob h1 (up0 b ob e)))
end
end RS
namespace L2
open PySem PySem.Spec PyProof.Rows
section
variable{X:Cx}
abbrev Ap(tk tv:TE):TE:=fun σ H Q=>∀ p,H p=none->lF [(tk,tv)] σ (upd H p (.dT [])) fun ps H2=>H2 p=some (.dT [])/\∃ b k y,ps=[(.ref b,y)]/\H2 b=some (.tup (k.map kV))/\Q (.ref p) (upd H2 p (.dT [(k,y)]))
def uH{k v:Expr}{tk tv:TE}{pos:Pos}(hu:X.A.units+100<cLine)(hk:PE X k tk)(hv:PE X v tv):PE X (.Dict [some k] [v] pos) (Ap tk tv):=by
 intro pins s σ H Q I q;have hn:=I.hok.fresh (Nat.le_refl s.heap.objs.size);have I1:=I.laid (a:=s.heap.objs.size) (o:=.dT []) (h':=s.heap.push { cls:=.type "dict",data:=.dict #[] }) (t':=s.toks) (fun _ _ q=>Heap.get?_push_of_some _ q) (Nat.le_refl _) (ny s.heap I.big);refine wpAny_Dict_any rfl rfl (by simp) (by show 1<=15;decide) (thn (uN (pos:=pos) hk hv x3 pins _ σ _ _ I1 (q _ hn)) fun ws s2 ⟨ps,H2,I2,rel,e,b,kk,y,ep,eb,q2⟩=>?_);subst ep
 cases rel with
 |@cons p w ps ws r t=>
  cases t;obtain⟨w1,w2⟩:=w;cases(show w1=Value.ref b from r.1);obtain⟨z,hd,xs,rl,dd⟩:=pE I2.hok e
  have hz:xs.length<=sizeLine:=by rw[<-Paired.length rl];exact z
  unfold storeAll;rw[List.forIn_cons];refine wpAny_bind (wpAny_bind (wpAny_dictSet_heap (knd:=tupleKind (aT X.prog X.w)) (hsz:=hz) (show X.A.units<cLine by omega) (dW I2.hok eb) dd fun h' dd' hs=>wpAny_pure ?_));dsimp only;rw[List.forIn_nil];refine wpAny_pure ⟨.ref s.heap.objs.size,_,?_,rfl,q2⟩;obtain⟨o,es,ep,hq,h2,h3,h4,_,h5⟩:=dd';refine jU I2 (by rw[e];exact True.intro) hs ⟨o,hq⟩ ⟨by show 1<=sizeLine;decide,hd,_,(rl.put kk eb r.2).keeps fun c ys ec=>?_,o,es,ep,hq,h2,h3,h4,h5⟩;rw[a6 (eC ec e (fun z=>nomatch z))];exact ec
def xH{prog:Program}{w:World}{d:Addr}{es:Array DictEntry}{ep:Nat}(hd:(d == sysModules)=false) :
  PySem.W.KdlSrc prog w "dict" d d es.size (fun i v=>∃ e,es[i]?=some e/\v=e.key) (fun h=>RS.cv h d es ep) where
 type:=fun s h=>RS.cv.typeIs (s:=s) h
 there:=fun _ ⟨_,h,_⟩=>⟨Heap.lt_size h,Heap.lt_size h⟩
 keep:=fun _ _ h k=>RS.cv.at h fun o e=>k d (.inl rfl) o e
 notList:=by decide
 notTuple:=by decide
 hint:=fun _ _ s _ h q=>PySem.W.kdl_hint_dict (RS.cv.typeIs (s:=s) h) q
 iter:=fun A s hh h=>by
  have hlt:d<s.heap.objs.size:=let ⟨_,e,_⟩:=h;Heap.lt_size e;exact⟨_,_,fun E Q q=>RS.mO hd h q,RS.qP hh _ d (Nat.ne_of_lt hlt) es ep,⟨_,Heap.get?_push_size _ rfl,rfl,rfl⟩,RS.cv.at h fun o e=>Heap.get?_push_of_some _ e⟩
def oH:∀ {ws:List Value},(∀ v∈ws,∃ b,v=.ref b)->∃ bs:List Addr,ws=bs.map .ref
 | [],_=>⟨[],rfl⟩
 | v::r,h=>by
  obtain⟨b,rfl⟩:=h v (by simp);obtain⟨bs,rfl⟩:=oH (ws:=r) fun v hv=>h v (by simp[hv]);exact⟨b::bs,rfl⟩
def kE:∀ bs:List Addr,Vals (bs.map .ref) (bs.map .ref)
 | []=>.nil
 | b::r=>.cons rfl (kE r)
def uA(hc:X.calm=true):aH X (.type "list") (fun xs H Q=>∃ (a:Addr) (o:Obj) (kvs:List (List Key × V)),xs=[V.ref a]/\H a=some (.frz o (.dT kvs)) /\
  ∀ l (bs:List Addr),H l=none->bs.length=kvs.length->(∀ (i:Nat) (b:Addr),bs[i]?=some b->∃ (k:List Key) (x:V),kvs[i]?=some (k,x)/\H b=some (.tup (k.map kV)))->Q (.ref l) (upd H l (.lst (bs.map .ref)))):=by
 intro pins s σ H xs us Q I r h;obtain⟨a,o,kvs,rfl,hH,q⟩:=h
 cases r with
 |cons r rr=>
  cases rr;cases r;obtain⟨g,z,_,_,_,o',es,ep,g',ex,hd,_,_⟩:=I.hok a _ hH;rw[g]at g';cases g';obtain⟨raw,hsz,hs,hk⟩:=hX hd (I.hok a _ hH);refine PySem.W.kdl_call (xH hs) (I.ok.hd.1 hc) raw (by rw[hsz];exact z) fun h' tk acc c' kp hS hI=>?_
  obtain⟨bs,eb⟩:=oH (ws:=acc.toList) fun v hv=>by
   obtain⟨i,hi⟩:=List.mem_iff_getElem?.mp hv;rw[Array.getElem?_toList]at hi;obtain⟨e,h1,h2⟩:=hI.2 i v hi;obtain⟨k,x,b,_,h3,_⟩:=hk i e h1;exact⟨b,h2.trans h3⟩
  have bl:bs.length=kvs.length:=by
   have:=congrArg List.length eb;rw[List.length_map,Array.length_toList,hI.1,hsz]at this;exact this.symm
  refine⟨.ref s.heap.objs.size,upd H s.heap.objs.size (.lst (bs.map .ref)),I.laid (t':=tk) kp (Nat.le_refl _) (show _/\_ from⟨?_,acc.toList,c',?_,?_⟩),rfl,q _ bs (I.hok.fresh (Nat.le_refl _)) bl fun i b hb=>?_⟩
  ·rw[List.length_map,bl];exact z
  ·rw[eb];exact kE bs
  ·rw[Array.toArray_toList];exact hS
  ·have hv:acc[i]?=some (.ref b):=by rw[<-Array.getElem?_toList,eb,List.getElem?_map,hb];rfl
   obtain⟨e,h1,h2⟩:=hI.2 i _ hv;obtain⟨k,x,b',h3,h4,h5⟩:=hk i e h1;rw[h4]at h2;cases h2;exact⟨k,x,h3,h5⟩
abbrev btR(rs:List (List Int))(i j:Nat):Bool:=RL.ltL (rs.getD i []) (rs.getD j [])
def kz:∀ (r:List (List Int)) (b y:List Int),RL.gr b (r++[y])=if RL.ltL y (RL.gr b r)then y else RL.gr b r
 | [],b,y=>rfl
 | x::r,b,y=>kz r _ y
def nZ{x:List Int}{r:List (List Int)}:∀ k,k<=r.length->argBest (btR (x::r)) k<=k/\(x::r)[argBest (btR (x::r)) k]?=some (RL.gr x (r.take k))
 | 0,_=>⟨Nat.le_refl _,rfl⟩
 | k+1,h=>by
  obtain⟨h1,h2⟩:=nZ (x:=x) (r:=r) k (by omega);have hk:r[k]?=some (r[k]'(by omega)):=List.getElem?_eq_getElem _
  have e1:(x::r).getD (k+1) []=r[k]'(by omega):=by rw[List.getD_eq_getElem?_getD,List.getElem?_cons_succ,hk];rfl
  have e2:(x::r).getD (argBest (btR (x::r)) k) []=RL.gr x (r.take k):=by rw[List.getD_eq_getElem?_getD,h2];rfl
  rw[List.take_succ,hk,show(some (r[k]'(by omega))).toList=[r[k]'(by omega)]from rfl,kz,argBest];unfold btR at e1 e2 h1 h2 ⊢;rw[e1,e2];split
  ·exact⟨Nat.le_refl _,by rw[List.getElem?_cons_succ,hk]⟩
  ·exact⟨by omega,h2⟩
def sQ(hc:X.calm=true)(hu:X.A.units+100<cLine):aH X (.builtin "min") (fun xs H Q=>∃ (a:Addr) (ps:List V) (x:List Int) (r:List (List Int)),xs=[V.ref a]/\H a=some (.lst ps)/\ps.length=r.length+1 /\
  (∀ (i:Nat) (v:V),ps[i]?=some v->∃ (p:Addr) (o:Obj) (y:List Int),(x::r)[i]?=some y/\v=.ref p/\H p=some (.frz o (.lst (y.map V.int))))/\∀ (p:Addr) (o:Obj),H p=some (.frz o (.lst ((RL.gr x r).map V.int)))->Q (.ref p) H):=by
 intro pins s σ H xs us Q I rr h;obtain⟨a,ps,x,r,rfl,hp,hl,each,q⟩:=h
 cases rr with
 |cons r1 r2=>
  cases r2;cases r1;obtain⟨its,rv,hls,hz⟩:=I.list (SqL.of hp)
  have hlen:its.length=r.length+1:=by rw[<-rv.length,hl]
  have hlt:a<s.heap.objs.size:=by obtain⟨_,e,_⟩:=hls.isList;exact Heap.lt_size e
  have at_:∀ (i:Nat) (v:Value),its[i]?=some v->∃ (p:Addr) (o:Obj) (y:List Int),(x::r)[i]?=some y/\v=Value.ref p/\H p=some (.frz o (.lst (y.map V.int))):=fun i v hv=>by
   have hi:=(List.getElem?_eq_some_iff.mp hv).1;have hi':ps[i]?=some (ps[i]'(by rw[rv.length];exact hi)):=List.getElem?_eq_getElem _;obtain⟨u,e1,e2⟩:=Vals.get rv hi';rw[hv]at e1;cases e1;obtain⟨p,o,y,f1,f2,f3⟩:=each i _ hi';rw[f2]at e2;exact⟨p,o,y,f1,e2,f3⟩
  have there:∀ (i:Nat) (p:Addr) (y:List Int),its[i]?=some (Value.ref p)->(x::r)[i]?=some y->∃ vs n,s.heap.get? p=some (RS.lO vs n)/\IntsAre vs.toList y:=fun i p y h1 h2=>by
   obtain⟨p',o,y',f1,f2,f3⟩:=at_ i _ h1;rw[h2]at f1;cases f1;cases f2;obtain⟨g,z,ws,n,w1,g'⟩:=I.hok p _ f3;exact⟨ws.toArray,n,g',by simpa using intsAre_of w1⟩
  refine RS.vv (wpAny_pyIter_list hls.isList ⟨s.heap.objs.size,_,_,_,_,_,(fun h=>∀ (i:Nat) (p:Addr) (y:List Int),its[i]?=some (Value.ref p)->(x::r)[i]?=some y->∃ vs n,h.get? p=some (RS.lO vs n)/\IntsAre vs.toList y),btR (x::r),rfl,Walks.list (A:=X.A.in1) (I.ok.hd.1 hc) _ a (Nat.ne_of_lt hlt) its.toArray,⟨⟨_,Heap.get?_push_size _ rfl,rfl,rfl⟩,hls.isList.push _⟩,fun b hb=>?_,by rw[List.size_toArray];omega,fun i p y h1 h2=>?_,fun S h h' hS ok kp i p y h1 h2=>?_,fun i j vi vj s' Q' E' ok hi hj h=>?_,fun v g tk hv kp=>?_⟩)
  ·rw[Heap.size_push];simp at hb;rcases hb with rfl | rfl
   ·exact Nat.lt_succ_self _
   ·exact Nat.lt_succ_of_lt hlt
  ·obtain⟨vs,n,g1,g2⟩:=there i p y h1 h2;exact⟨vs,n,Heap.get?_push_of_some _ g1,g2⟩
  ·obtain⟨vs,n,g1,g2⟩:=ok i p y h1 h2;obtain⟨vs',n',f1,f2⟩:=there i p y h1 h2;refine⟨vs,n,kp p _ (fun z=>?_) (fun z=>?_) g1,g2⟩
   ·have z:=List.mem_singleton.mp z;have:=Heap.lt_size f1;rw[z]at this;exact Nat.lt_irrefl _ this
   ·subst z;have f1:=Heap.get?_push_of_some ({ cls:=.type "list_iterator",data:=.fields #[Value.ref a,.int 0 0] }:Obj) f1;rw[hS]at f1;cases f1
  ·have hi:its[i]?=some vi:=by simpa using hi
   have hj:its[j]?=some vj:=by simpa using hj
   obtain⟨p,o,y,f1,rfl,f3⟩:=at_ i _ hi;obtain⟨p',o',y',g1,rfl,g3⟩:=at_ j _ hj;obtain⟨us,n,a1,a2⟩:=ok i p y hi f1;obtain⟨vs,m,b1,b2⟩:=ok j p' y' hj g1;refine RS.AR (A:=X.A.in1) (show X.A.units+1<cLine by omega) a2 b2 a1 b1 ?_
   have e:btR (x::r) i j=RL.ltL y y':=by unfold btR;rw[List.getD_eq_getElem?_getD,f1,List.getD_eq_getElem?_getD,g1];rfl
   rw[<-e];exact h
  ·have hn:its.toArray.size-1=r.length:=by rw[List.size_toArray,hlen];rfl
   rw[hn]at hv
   have hv:its[argBest (btR (x::r)) r.length]?=some v:=by simpa using hv
   obtain⟨p,o,y,f1,rfl,f3⟩:=at_ _ _ hv;obtain⟨_,b2⟩:=nZ (x:=x) (r:=r) r.length (Nat.le_refl _);rw[f1,List.take_length]at b2;cases b2;have I1:Inv X pins σ H { s with heap:=g,toks:=tk }:=I.kept (t':=tk) fun b o e=>kp b o (fun z=>by have z:=List.mem_singleton.mp z;have:=Heap.lt_size e;rw[z]at this;exact Nat.lt_irrefl _ this) (Heap.get?_push_of_some _ e);exact⟨.ref p,H,I1,rfl,q p o f3⟩
end
end L2
namespace RS
open PySem PySem.Spec PyProof.Rows L2
section
variable{X:Cx}{cl:RL.Cl}{a b:Expr}{a' b':RL.E}{p pos:Pos}
def yS(hu:X.A.units+100<cLine)(ha:SE X cl a a')(hb:SE X cl b b'):SE X cl (.Dict [some a] [b] pos) (.dt1 a' b'):=by
 refine PE.weak (uH hu ha hb) fun σ H Q h=>?_;obtain⟨σD,dd,rv,e,k⟩:=h;obtain⟨x,e1,e⟩:=bind_some (show(RL.ev cl σD a').bind _=some dd from e);obtain⟨y,e2,e⟩:=bind_some e;intro q hq;have s0:ao H (upd H q (.dT [])):=ao.aU hq
 cases x with
 |tup kt=>
  obtain⟨kx,e6,e7⟩:=bind_some (show(RL.keysOf kt).bind _=some dd from e);obtain⟨im,rfl⟩:=aW e7;refine⟨σD,_,rv.same s0,e1,fun v1 H1 r1=>⟨σD,_,rv.same (s0.trans r1.same),e2,fun v2 H2 r2=>?_⟩⟩;have s4:ao (upd H q (.dT [])) H2:=r1.same.trans r2.same;have hq4:H2 q=some (.dT []):=s4 _ _ a8;obtain⟨c,ws,rfl,g2,g3⟩:=aD (r1.rep.same r2.same);rw[c6 e6 g3]at g2;refine⟨hq4,c,kx,v2,rfl,g2,?_⟩
  have sf:ao H (upd H2 q (.dT [(kx,v2)])):=fun b o eb=>by
   rw[a6 (a5 eb hq)];exact s4 _ _ (s0 _ _ eb)
  refine k _ _ ⟨sf,?_,fun _ _ a z=>(by cases z;exact hq),fun M z=>nomatch (show false=true from z)⟩;rw[Rep];exact⟨q,[v2],rfl,fun z=>z,a8,rfl,aa.cons (Rep.imm im (Rep.upd (P:=fun p=>p=q) hq4 (.inr (.inr ⟨_,rfl⟩)) rfl (r2.rep.imm im))) aa.nil⟩
 | _=>cases e
def oz{P:Addr->Prop}{K:PySem.W.Frag}{H:Hp}:∀ {ks:List (List RL.Ky)} {bs:List Addr},bs.length=ks.length->(∀ (i:Nat) b,bs[i]?=some b->∃ k,ks[i]?=some k/\H b=some (.tup (k.map kV)))->aa P K H (ks.map fun k=>.tup (k.map RL.kyD)) (bs.map .ref)
 | [],[],_,_=>aa.nil
 | k::ks,b::bs,hl,h=>by
  obtain⟨k',h1,h2⟩:=h 0 b rfl;cases h1;refine aa.cons ?_ (oz (by simpa using hl) fun i b hb=>h (i+1) b (by simpa using hb));rw[Rep];exact⟨b,_,rfl,h2,ij k⟩
def Ba(hc:X.calm=true)(hg:Gl X "list")(hm:X.mg "list" = none)(ha:SE X cl a a')(hn:noStar a=true):SE X cl (.Call (.Name "list" p) [a] [] pos) (.lsD a'):=by
 refine PE.weak (bC (uA hc) hg hm (by decide +kernel) (aR (cl:=cl) ha bp hn) (by decide) (by decide) (ay [] hn) rfl) fun σ H Q h=>?_;obtain⟨σD,dd,rv,e,k⟩:=h;obtain⟨ds,e1,rfl⟩:=map_some (show((RL.ev cl σD a').bind RL.pU).map RL.D.lst=some dd from e);obtain⟨d,ea,e2⟩:=bind_some e1;refine one rv ea fun v H1 s1 r1=>?_
 cases d with
 |fT ks vs=>
  cases e2;rw[Rep]at r1;obtain⟨a,o,xs,rfl,h2,hl,hr⟩:=r1
  have h3:(ks.zip xs).map (·.1)=ks:=by rw[List.map_fst_zip];rw[hl,hr.length];exact Nat.le_refl _
  have h4:(ks.zip xs).length=ks.length:=by rw[<-List.length_map (f:=(·.1)),h3]
  refine⟨a,o,_,rfl,h2,fun l bs hn hb at_=>k _ _ (bf s1 hn (oz (hb.trans h4) fun i b hi=>?_) fun _=>rfl)⟩;obtain⟨kk,x,f1,f2⟩:=at_ i b hi;refine⟨kk,?_,f2⟩;rw[<-h3,List.getElem?_map,f1];rfl
 | _=>cases e2
def fh:∀ {ds:List RL.D} {is:List Int},RL.aN ds=some is->ds=is.map .int
 | [],_,h=>by cases h;rfl
 | .int i::r,_,h=>by
  obtain⟨js,e1,rfl⟩:=map_some (show(RL.aN r).map _=_ from h);rw[fh e1,List.map_cons]
def oX:∀ is:List Int,RL.aN (is.map .int)=some is
 | []=>rfl
 | i::r=>by rw[List.map_cons,RL.aN,oX r];rfl
def mz:∀ is:List Int,RL.ah (is.map .int)=true
 | []=>rfl
 | i::r=>by rw[List.map_cons,RL.ah,mz r];rfl
def iA{P:Addr->Prop}{K:PySem.W.Frag}{H:Hp}:∀ is:List Int,aa P K H (is.map .int) (is.map V.int)
 | []=>aa.nil
 | i::r=>aa.cons aA (iA r)
def nU:∀ {xs:List RL.D} {rs:List (List Int)},RL.lq xs=some rs->xs=rs.map fun r=>.fL (r.map .int)
 | [],_,h=>by cases h;rfl
 | .fL ds::r,_,h=>by
  obtain⟨is,e1,h⟩:=bind_some (show(RL.aN ds).bind _=_ from h);obtain⟨rs,e2,rfl⟩:=map_some h;rw[nU e2,List.map_cons,fh e1]
def qL{P:Addr->Prop}{K:PySem.W.Frag}{H:Hp}:∀ {rs:List (List Int)} {ps:List V},aa P K H (rs.map fun r=>.fL (r.map .int)) ps->ps.length=rs.length/\∀ (i:Nat) (v:V),ps[i]?=some v->∃ (p:Addr) (o:Obj) (y:List Int),rs[i]?=some y/\v=.ref p/\H p=some (.frz o (.lst (y.map V.int)))
 | [],_,h=>by
  rw[List.map_nil,aa]at h;subst h;exact⟨rfl,fun i v z=>by simp at z⟩
 | r::rs,_,h=>by
  rw[List.map_cons,aa]at h;obtain⟨v,t,rfl,h1,h2⟩:=h;obtain⟨g1,g2⟩:=qL h2;refine⟨by simp[g1],fun i w hw=>?_⟩
  cases i with
  |zero=>
   cases hw;rw[Rep]at h1;obtain⟨p,o,xs,rfl,e2,e3⟩:=h1;rw[cU (oX r) e3]at e2;exact⟨p,o,r,rfl,rfl,e2⟩
  | succ i=>exact g2 i w (by simpa using hw)
def x4(hc:X.calm=true)(hu:X.A.units+100<cLine)(hg:Gl X "min")(hm:X.mg "min" = none)(ha:SE X cl a a')(hn:noStar a=true):SE X cl (.Call (.Name "min" p) [a] [] pos) (.minL a'):=by
 refine PE.weak (dQ (sQ hc hu) hg hm (by decide +kernel) (aR (cl:=cl) ha bp hn) (by decide) (by decide) (ay [] hn) rfl) fun σ H Q h=>?_;obtain⟨σD,dd,rv,e,k⟩:=h;obtain⟨d,ea,e2⟩:=bind_some (show(RL.ev cl σD a').bind RL.vY=some dd from e);refine one rv ea fun v H1 s1 r1=>?_
 cases d with
 |lst xs=>
  obtain⟨rs,e3,e4⟩:=bind_some (show(RL.lq xs).bind _=some dd from e2)
  cases rs with
  | nil=>cases e4
  |cons x r=>
   cases e4;rw[nU e3]at r1;obtain⟨q,ps,rfl,_,h2,h3⟩:=au r1;obtain⟨g1,g2⟩:=qL h3;refine⟨q,ps,x,r,rfl,h2,g1,g2,fun p o hp=>k _ _ (bh s1 ?_ (mz _))⟩;rw[Rep];exact⟨p,o,_,rfl,hp,iA _⟩
 | _=>cases e2
end
def nos{α:Type}{P:Prop}{x:α}(h:(none:Option α)=some x):P:=by cases h
def aj{α:Type}{o:Option α}{f:α->Bool}(h:o.any f=true):∃ x,o=some x/\f x=true:=by
 cases o with
 | none=>cases h
 | some x=>exact⟨x,rfl,h⟩
def ab{a b:Bool}(h:(a&&b)=true):a=true/\b=true:=by rw[Bool.and_eq_true]at h;exact h
abbrev cZ:Expr->Option Str
 | .Name x _=>some x
 | _=>none
def bT{e:Expr}{x:Str}(h:cZ e=some x):∃ p,e=.Name x p:=by
 cases e
 case Name=>cases h;exact⟨_,rfl⟩
 all_goals exact nos h
abbrev vo:Expr->Option Const
 | .Constant k _ _=>some k
 | _=>none
def oG{e:Expr}{k:Const}(h:vo e=some k):∃ j p,e=.Constant k j p:=by
 cases e
 case Constant=>cases h;exact⟨_,_,rfl⟩
 all_goals exact nos h
abbrev pe:Expr->Option (Expr × Operator × Expr)
 | .BinOp l o r _=>some (l,o,r)
 | _=>none
def nY{e:Expr}{l r:Expr}{o:Operator}(h:pe e=some (l,o,r)):∃ p,e=.BinOp l o r p:=by
 cases e
 case BinOp=>cases h;exact⟨_,rfl⟩
 all_goals exact nos h
abbrev vUn:Expr->Option (UnaryOp × Expr)
 | .UnaryOp o x _=>some (o,x)
 | _=>none
def mD{e x:Expr}{o:UnaryOp}(h:vUn e=some (o,x)):∃ p,e=.UnaryOp o x p:=by
 cases e
 case UnaryOp=>cases h;exact⟨_,rfl⟩
 all_goals exact nos h
abbrev jN:Expr->Option (Expr × List CmpOp × List Expr)
 | .Compare l o r _=>some (l,o,r)
 | _=>none
def fc{e l:Expr}{r:List Expr}{o:List CmpOp}(h:jN e=some (l,o,r)):∃ p,e=.Compare l o r p:=by
 cases e
 case Compare=>cases h;exact⟨_,rfl⟩
 all_goals exact nos h
abbrev vBool:Expr->Option (BoolOp × List Expr × Pos)
 | .BoolOp o es p=>some (o,es,p)
 | _=>none
def fD{e:Expr}{es:List Expr}{o:BoolOp}{p:Pos}(h:vBool e=some (o,es,p)):e=.BoolOp o es p:=by
 cases e
 case BoolOp=>cases h;exact rfl
 all_goals exact nos h
abbrev yj:Expr->Option (Expr × Expr × Expr)
 | .IfExp c a b _=>some (c,a,b)
 | _=>none
def xE{e a b c:Expr}(h:yj e=some (c,a,b)):∃ p,e=.IfExp c a b p:=by
 cases e
 case IfExp=>cases h;exact⟨_,rfl⟩
 all_goals exact nos h
abbrev gC:Expr->Option (List Expr)
 | .Tuple es _ _=>some es
 | _=>none
def cQ{e:Expr}{es:List Expr}(h:gC e=some es):∃ k p,e=.Tuple es k p:=by
 cases e
 case Tuple=>cases h;exact⟨_,_,rfl⟩
 all_goals exact nos h
abbrev tJ:Expr->Option (List Expr)
 | .List es _=>some es
 | _=>none
def x5{e:Expr}{es:List Expr}(h:tJ e=some es):∃ p,e=.List es p:=by
 cases e
 case List=>cases h;exact⟨_,rfl⟩
 all_goals exact nos h
abbrev kc:Expr->Option (Expr × Expr)
 | .Subscript a b _=>some (a,b)
 | _=>none
def fA{e a b:Expr}(h:kc e=some (a,b)):∃ p,e=.Subscript a b p:=by
 cases e
 case Subscript=>cases h;exact⟨_,rfl⟩
 all_goals exact nos h
abbrev vSl:Expr->Option (Option Expr × Option Expr × Option Expr)
 | .Slice a b c _=>some (a,b,c)
 | _=>none
def rZ{e:Expr}{a b c:Option Expr}(h:vSl e=some (a,b,c)):∃ p,e=.Slice a b c p:=by
 cases e
 case Slice=>cases h;exact⟨_,rfl⟩
 all_goals exact nos h
abbrev fM:Expr->Option (Expr × List Expr × List Keyword × Pos)
 | .Call f as ks p=>some (f,as,ks,p)
 | _=>none
def dI{e f:Expr}{as:List Expr}{ks:List Keyword}{p:Pos}(h:fM e=some (f,as,ks,p)):e=.Call f as ks p:=by
 cases e
 case Call=>cases h;exact rfl
 all_goals exact nos h
abbrev qa:Expr->Option (Expr × Str × Pos)
 | .Attribute o x p=>some (o,x,p)
 | _=>none
def nG{e o:Expr}{x:Str}{p:Pos}(h:qa e=some (o,x,p)):e=.Attribute o x p:=by
 cases e
 case Attribute=>cases h;exact rfl
 all_goals exact nos h
abbrev lb:Expr->Option (Expr × List Comprehension × Scope × Pos)
 | .ListComp e gs sc p=>some (e,gs,sc,p)
 | _=>none
def iV{e x:Expr}{gs:List Comprehension}{sc:Scope}{p:Pos}(h:lb e=some (x,gs,sc,p)):e=.ListComp x gs sc p:=by
 cases e
 case ListComp=>cases h;exact rfl
 all_goals exact nos h
abbrev kZ:Expr->Option (List (Option Expr) × List Expr)
 | .Dict ks vs _=>some (ks,vs)
 | _=>none
def iX{e:Expr}{ks:List (Option Expr)}{vs:List Expr}(h:kZ e=some (ks,vs)):∃ p,e=.Dict ks vs p:=by
 cases e
 case Dict=>cases h;exact⟨_,rfl⟩
 all_goals exact nos h
abbrev of1{α:Type}(xs:List α)(f:α->Bool):Bool:=match xs with
 | [a]=>f a
 | _=>false
abbrev of2{α:Type}(xs:List α)(f:α->α->Bool):Bool:=match xs with
 | [a,b]=>f a b
 | _=>false
def a7{α:Type}:∀ {xs:List α} {f:α->Bool},of1 xs f=true->∃ a,xs=[a]/\f a=true
 | [a],_,h=>⟨a,rfl,h⟩
def cL{α:Type}:∀ {xs:List α} {f:α->α->Bool},of2 xs f=true->∃ a b,xs=[a,b]/\f a b=true
 | [a,b],_,h=>⟨a,b,rfl,h⟩
abbrev ofM{α:Type}(xs:List α)(f:α->α->List α->Bool):Bool:=match xs with
 | a::b::r=>f a b r
 | _=>false
def j0{α:Type}:∀ {xs:List α} {f:α->α->List α->Bool},ofM xs f=true->∃ a b r,xs=a::b::r/\f a b r=true
 | a::b::r,_,h=>⟨a,b,r,rfl,h⟩
abbrev iT:Stmt->Option (List Expr × Expr)
 | .Assign ts e _=>some (ts,e)
 | _=>none
def dB{st:Stmt}{ts:List Expr}{e:Expr}(h:iT st=some (ts,e)):∃ p,st=.Assign ts e p:=by
 cases st
 case Assign=>cases h;exact⟨_,rfl⟩
 all_goals exact nos h
abbrev pS:Stmt->Option Expr
 | .Expr e _=>some e
 | _=>none
def kh{st:Stmt}{e:Expr}(h:pS st=some e):∃ p,st=.Expr e p:=by
 cases st
 case Expr=>cases h;exact⟨_,rfl⟩
 all_goals exact nos h
abbrev wIf:Stmt->Option (Expr × List Stmt × List Stmt)
 | .If c a b _=>some (c,a,b)
 | _=>none
def qJ{st:Stmt}{c:Expr}{a b:List Stmt}(h:wIf st=some (c,a,b)):∃ p,st=.If c a b p:=by
 cases st
 case If=>cases h;exact⟨_,rfl⟩
 all_goals exact nos h
abbrev zS:Stmt->Option (Expr × Expr × List Stmt × List Stmt)
 | .For t i b o _=>some (t,i,b,o)
 | _=>none
def xv{st:Stmt}{t i:Expr}{b o:List Stmt}(h:zS st=some (t,i,b,o)):∃ p,st=.For t i b o p:=by
 cases st
 case For=>cases h;exact⟨_,rfl⟩
 all_goals exact nos h
abbrev yB:Stmt->Option (Expr × List Stmt × List Stmt)
 | .While c b o _=>some (c,b,o)
 | _=>none
def wU{st:Stmt}{c:Expr}{b o:List Stmt}(h:yB st=some (c,b,o)):∃ p,st=.While c b o p:=by
 cases st
 case While=>cases h;exact⟨_,rfl⟩
 all_goals exact nos h
abbrev AK:Stmt->Option (Option Expr)
 | .Return e _=>some e
 | _=>none
def wY{st:Stmt}{e:Option Expr}(h:AK st=some e):∃ p,st=.Return e p:=by
 cases st
 case Return=>cases h;exact⟨_,rfl⟩
 all_goals exact nos h
structure CC where
 N:List Str
 sc:Scope
 B:List Str
 G:List (Str × Int)
 F:List (Str × List Nat)
abbrev yJ(scope sc:Scope):Scope:={ scope with names:=scope.names.map fun(n,k)=>if(k == NameKind.free&&sc.kind == .function&&sc.names.lookup n == some .cell)then(n,NameKind.cell)else(n,k) }
abbrev CC.inner(C:CC)(scope:Scope):CC:={ C with sc:=yJ scope C.sc }
abbrev fk(x:Str):Bool:=!(x == ("__debug__" : Str)) && !(x == ("__classdict__" : Str))
abbrev uE(C:CC)(x:Str):Bool:=C.sc.names.lookup x == some .local || C.sc.names.lookup x == some .cell
abbrev u9(C:CC)(x:Str):Bool:=C.sc.names.lookup x == some .local || C.sc.names.lookup x == some .cell || C.sc.names.lookup x == some .free
abbrev glB(C:CC)(x:Str):Bool:=C.sc.names.lookup x == some .globalImplicit&&fk x
abbrev nE(C:CC)(x:Str):Bool:=glB C x&&C.B.contains x
abbrev nmB(C:CC)(i:Nat)(x:Str):Bool:=C.N[i]? == some x&&fk x
structure XOk(C:CC)(X:Cx)(cl:RL.Cl):Prop where
 scope:X.env.scope=C.sc
 names:X.N=C.N
 nd:C.N.Nodup
 calm:X.calm=true
 xe:X.xe=fun _ _=>False
 hu:X.A.units+100<cLine
 blt:∀ x∈C.B,X.mg x=none
 glb:∀ x i,C.G.lookup x=some i->∃ u,X.mg x=some u/\RelV (.int i) u
 fns:∀ (f:Nat) (x:Str) (mp:List Nat),C.F[f]?=some (x,mp)->∃ k fa fd ps,eT X.prog X.w X.K X.mg X.base CX0 k fa fd ps (if mp=[]then spF X.K cl f else spM X.K cl mp f)/\cm k X.A/\X.mg x=some (.ref fa)/\PySem.W.keepIn X.K (.ref fa)=true/\Binds X.K fd ps []
section
variable{C:CC}{X:Cx}{cl:RL.Cl}{e:Expr}
def XOk.vis(h:XOk C X cl){x:Str}(v:u9 C x=true):Vis X.env.scope x:=by
 unfold u9 at v;rw[<-h.scope,Bool.or_eq_true,Bool.or_eq_true,beq_iff_eq,beq_iff_eq,beq_iff_eq]at v;rcases v with(v | v) | v
 ·exact .inl v
 ·exact .inr (.inl v)
 ·exact .inr (.inr v)
def XOk.loc(h:XOk C X cl){x:Str}(v:uE C x=true):Loc X.env.scope x:=by
 unfold uE at v;rw[<-h.scope,Bool.or_eq_true,beq_iff_eq,beq_iff_eq]at v;exact v
def cJ{x:Str}(h:fk x=true):(x == ("__debug__" : Str))=false/\(x == ("__classdict__" : Str))=false:=by
 unfold fk at h;rw[Bool.and_eq_true,Bool.not_eq_true',Bool.not_eq_true']at h;exact h
def XOk.gl(h:XOk C X cl){x:Str}(v:glB C x=true):Gl X x/\fk x=true:=by
 unfold glB at v;rw[<-h.scope,Bool.and_eq_true,beq_iff_eq]at v;exact v
def XOk.bl(h:XOk C X cl){x:Str}(v:nE C x=true):Gl X x/\X.mg x=none:=by
 unfold nE at v;rw[Bool.and_eq_true]at v;exact⟨(h.gl v.1).1,h.blt x (by simpa using v.2)⟩
def XOk.nm(h:XOk C X cl){i:Nat}{x:Str}(v:nmB C i x=true):X.N[i]?=some x/\fk x=true:=by
 unfold nmB at v;rw[<-h.names,Bool.and_eq_true,beq_iff_eq]at v;exact v
def XOk.ndX(h:XOk C X cl):X.N.Nodup:=by rw[h.names];exact h.nd
def XOk.blk(h:XOk C X cl){scope:Scope}(cls:List (Str × Addr))(Ca:Addr)(fp:List Addr)(s:Shared)(H:Hp):XOk (C.inner scope) (L2.blk X scope cls Ca fp s H) cl where
 scope:=by
  show relabel scope X.env=yJ scope C.sc;rw[<-h.scope];rfl
 names:=h.names
 nd:=h.nd
 calm:=h.calm
 xe:=rfl
 hu:=h.hu
 blt:=h.blt
 glb:=h.glb
 fns:=h.fns
abbrev i5:RL.D->Const->Bool
 | .int i,.int j=>i == j
 | .bl i,.bool j=>i == j
 | .non,.none=>true
 | .str x,.str y=>x == y
 | _,_=>false
abbrev plainT:Expr->Bool
 | .UnaryOp .Not _ _=>false
 | .BoolOp _ _ _=>false
 | .IfExp _ _ _ _=>false
 | .Compare _ _ _ _=>false
 | _=>true
abbrev lM:Expr->Bool
 | .BoolOp _ _ _=>true
 | _=>false
abbrev gx:Expr->Bool
 | .Set _ _ _=>false
 | _=>true
abbrev pV:RL.Bi->Option Str
 | .len=>some "len"
 | .list=>some "list"
 | .tuple=>some "tuple"
 | .int=>some "int"
 | .all=>some "all"
 | .sum=>some "sum"
 | .sorted=>some "sorted"
 | _=>none
abbrev lU:RL.Ty->Str
 | .int => "int"
 | .bool => "bool"
 | .list => "list"
 | .tuple => "tuple"
 | .str => "str"
abbrev Dh(neg:Bool):CmpOp:=if neg then .IsNot else .Is
abbrev CW(neg:Bool):CmpOp:=if neg then .NotIn else .In
abbrev l5(C:CC)(i:Nat)(e:Expr):Bool:=(cZ e).any fun x=>nmB C i x&&u9 C x
abbrev fN(C:CC)(i:Nat)(e:Expr):Bool:=(cZ e).any fun x=>nmB C i x&&uE C x
abbrev hG(C:CC):List Nat->List Expr->Bool
 | [],es=>es.isEmpty
 | i::is,es=>match es with
  | e::es=>fN C i e&&hG C is es
  | []=>false
abbrev iQ(C:CC)(tg:List Nat)(e:Expr):Bool :=
 match tg with
 | [i]=>fN C i e
 | tg=>(gC e).any fun es=>hG C tg es
abbrev gK(C:CC)(scope:Scope)(tg:List Nat):Bool:=tg.all fun i=>match C.N[i]? with
 | some x=>scope.names.lookup x == some .local || scope.names.lookup x == some .cell
 | none=>false
abbrev gz(C:CC)(scope:Scope)(tg:List Nat):Bool:=(List.range C.N.length).all fun i=>match C.N[i]? with
 | some x=>!(scope.names.lookup x == some .local || scope.names.lookup x == some .cell) || tg.contains i
 | none=>true
abbrev scB(scope sc:Scope):Bool:=scope.kind == .function&&scope.names.all (fun x=>(!(x.2 == .cell) || scope.names.lookup x.1 == some .cell)&&(!(x.2 == .local) || scope.names.lookup x.1 == some .local)&&(!(x.2 == .free) || sc.names.lookup x.1 == some .cell || sc.names.lookup x.1 == some .free))
abbrev aG(C:CC)(e:Expr)(nm:Str)(f:List Expr->Bool):Bool:=(fM e).any fun q=>(cZ q.1).any (fun x=>x == nm&&nE C x)&&q.2.2.1.isEmpty&&q.2.1.all noStar&&f q.2.1
def aS{nm:Str}{f:List Expr->Bool}(h:XOk C X cl)(z:aG C e nm f=true):∃ p as pos,e=.Call (.Name nm p) as [] pos/\Gl X nm/\X.mg nm=none/\as.all noStar=true/\f as=true:=by
 unfold aG at z;obtain⟨⟨g,as,ks,pos⟩,z0,z⟩:=aj z;have e0:=dI z0;subst e0;obtain⟨z,z4⟩:=ab z;obtain⟨z,z3⟩:=ab z;obtain⟨z1,z2⟩:=ab z;obtain⟨x,y0,z1⟩:=aj z1;obtain⟨p,rfl⟩:=bT y0;obtain⟨y1,y2⟩:=ab z1;rw[beq_iff_eq]at y1;subst y1;obtain⟨b1,b2⟩:=h.bl y2;rw[List.isEmpty_iff]at z2;subst z2;exact⟨p,as,pos,rfl,b1,b2,z3,z4⟩
def all1{a:Expr}(h:[a].all noStar=true):noStar a=true:=by simpa using h
def all2{a b:Expr}(h:[a,b].all noStar=true):noStar a=true/\noStar b=true:=by simpa using h
end
mutual
noncomputable def chk(C:CC)(t:Bool):RL.E->Expr->Bool
 | .var i=>fun e=>l5 C i e
 | .cst d=>fun e=>(vo e).any fun k=>i5 d k
 | .glb y i=>fun e=>(cZ e).any fun x=>x == y&&glB C x&&C.G.lookup x == some i
 | .bin o a b=>fun e=>(pe e).any fun q=>q.2.1 == lS o&&chk C false a q.1&&chk C false b q.2.2
 | .neg a=>fun e=>(vUn e).any fun q=>q.1 == .USub&&chk C false a q.2
 | .cmp c a b=>fun e=>(jN e).any fun q=>of1 q.2.1 fun op=>of1 q.2.2 fun r=>op == bO c&&chk C false a q.1&&chk C false b r
 | .chain c c' a b d=>fun e=>(jN e).any fun q=>of2 q.2.1 fun op op'=>of2 q.2.2 fun r s=>op == bO c&&op' == bO c'&&chk C false a q.1&&chk C false b r&&chk C false d s
 | .isN neg a=>fun e=>(jN e).any fun q=>of1 q.2.1 fun op=>of1 q.2.2 fun r=>op == Dh neg&&(vo r).any (fun k=>i5 .non k)&&chk C false a q.1
 | .inD neg a b=>fun e=>(jN e).any fun q=>of1 q.2.1 fun op=>of1 q.2.2 fun r=>op == CW neg&&p9 r&&chk C false a q.1&&chk C false b r
 | .and a b=>fun e=>(vBool e).any fun q=>ofM q.2.1 fun l r rest=>q.1 == .And&&chk C t a l&&(if rest.isEmpty then chk C t b r else chk C t b (.BoolOp .And (r::rest) q.2.2))
 | .or a b=>fun e=>(vBool e).any fun q=>ofM q.2.1 fun l r rest=>q.1 == .Or&&chk C t a l&&(if rest.isEmpty then chk C t b r else chk C t b (.BoolOp .Or (r::rest) q.2.2))
 | .not a=>fun e=>(vUn e).any fun q=>q.1 == .Not&&chk C t a q.2
 | .ifx c a b=>fun e=>(yj e).any fun q=>!t&&chk C true c q.1&&chk C false a q.2.1&&chk C false b q.2.2
 | .tup es=>fun e=>(gC e).any fun xs=>ju C es xs&&decide (cE es<=1000)
 | .lst es=>fun e=>(tJ e).any fun xs=>ju C es xs&&decide (cE es<=1000)
 | .ix a b=>fun e=>(kc e).any fun q=>iN q.2&&chk C false a q.1&&chk C false b q.2
 | .ixD a b=>fun e=>(kc e).any fun q=>iN q.2&&chk C false a q.1&&chk C false b q.2
 | .slT a b=>fun e=>(kc e).any fun q=>chk C false a q.1&&(vSl q.2).any fun s=>s.1.isNone&&s.2.2.isNone&&s.2.1.any fun r=>chk C false b r
 | .rev a=>fun e=>(kc e).any fun q=>chk C false a q.1&&(vSl q.2).any fun s=>s.1.isNone&&s.2.1.isNone&&s.2.2.any fun r=>lr (-1) r
 | .call f es=>fun e=>(fM e).any fun q=>(cZ q.1).any (fun x=>glB C x&&C.F[f]? == some (x,[]))&&q.2.2.1.isEmpty && !q.2.1.isEmpty&&ju C es q.2.1
 | .bi b a=>fun e=>match b with
  | .sortedSet=>aG C e "sorted" fun ys=>of1 ys fun y=>aG C y "set" fun zs=>of1 zs fun z=>chk C false a z
  | .lenSet=>aG C e "len" fun ys=>of1 ys fun y=>aG C y "set" fun zs=>of1 zs fun z=>chk C false a z
  | b=>(pV b).any fun x=>aG C e x fun ys=>of1 ys fun y=>chk C false a y
 | .isi a ty=>fun e=>aG C e "isinstance" fun ys=>of2 ys fun y z=>(cZ z).any (fun x=>x == lU ty&&nE C x)&&chk C false a y
 | .rng1 a=>fun e=>aG C e "list" fun ys=>of1 ys fun y=>aG C y "range" fun zs=>of1 zs fun z=>chk C false a z
 | .rng2 a b=>fun e=>aG C e "list" fun ys=>of1 ys fun y=>aG C y "range" fun zs=>of2 zs fun z u=>chk C false a z&&chk C false b u
 | .comp d tg it c=>fun e=>(lb e).any fun q=>of1 q.2.1 fun g=>of1 g.ifs fun w=>g.is_async == 0&&scB q.2.2.1 C.sc&&gz C q.2.2.1 tg&&gx g.iter&&iQ (C.inner q.2.2.1) tg g.target&&gK C q.2.2.1 tg&&lG C it g.target g.iter&&chk (C.inner q.2.2.1) false d q.1&&chk (C.inner q.2.2.1) true c w
 | .compA d tg it=>fun e=>(lb e).any fun q=>of1 q.2.1 fun g=>g.ifs.isEmpty&&g.is_async == 0&&scB q.2.2.1 C.sc&&gz C q.2.2.1 tg&&gx g.iter&&iQ (C.inner q.2.2.1) tg g.target&&gK C q.2.2.1 tg&&lG C it g.target g.iter&&chk (C.inner q.2.2.1) false d q.1
 | .compL d tg it=>fun e=>(lb e).any fun q=>of1 q.2.1 fun g=>g.ifs.isEmpty&&g.is_async == 0&&scB q.2.2.1 C.sc&&gz C q.2.2.1 tg&&gx g.iter&&iQ (C.inner q.2.2.1) tg g.target&&gK C q.2.2.1 tg&&lG C it g.target g.iter&&chk (C.inner q.2.2.1) false d q.1
 | .frz a=>fun e=>((tJ e).isSome || (pe e).isSome || (fM e).isSome)&&chk C false a e
 | .dt1 a b=>fun e=>(kZ e).any fun q=>of1 q.1 fun k=>of1 q.2 fun v=>k.any (fun k=>chk C false a k)&&chk C false b v
 | .lsD a=>fun e=>aG C e "list" fun ys=>of1 ys fun y=>chk C false a y
 | .minL a=>fun e=>aG C e "min" fun ys=>of1 ys fun y=>chk C false a y
 | .cat a b=>fun e=>(pe e).any fun q=>q.2.1 == .Add&&chk C false a q.1&&chk C false b q.2.2
 | .dk0=>fun e=>(kZ e).any fun q=>q.1.isEmpty&&q.2.isEmpty
 | .dt0=>fun e=>(kZ e).any fun q=>q.1.isEmpty&&q.2.isEmpty
 | .get a b c=>fun e=>(fM e).any fun q=>(qa q.1).any (fun u=>u.2.1 == ("get" : Str)&&u.2.2.endLine == q.2.2.2.line&&(cZ u.1).isSome&&chk C false a u.1)&&q.2.2.1.isEmpty&&of2 q.2.1 fun y z=>noStar y&&noStar z&&chk C false b y&&chk C false c z
noncomputable def ju(C:CC):RL.Es->List Expr->Bool
 | .nil=>fun xs=>xs.isEmpty
 | .cons e es=>fun xs=>match xs with
  | x::xs=>noStar x&&chk C false e x&&ju C es xs
  | []=>false
noncomputable def lG(C:CC):RL.It->Expr->Expr->Bool
 | .seq a=>fun _ e=>chk C false a e
 | .rng1 a=>fun _ e=>aG C e "range" fun ys=>of1 ys fun y=>chk C false a y
 | .rng2 a b=>fun _ e=>aG C e "range" fun ys=>of2 ys fun y z=>chk C false a y&&chk C false b z
 | .key a=>fun _ e=>chk C false a e
 | .enm a=>fun tg e=>(gC tg).isSome&&aG C e "enumerate" fun ys=>of1 ys fun y=>chk C false a y
 | .zip a b=>fun tg e=>(gC tg).isSome&&aG C e "zip" fun ys=>of2 ys fun y z=>chk C false a y&&chk C false b z
end
abbrev nj(X:Cx)(cl:RL.Cl)(e:Expr)(e':RL.E)(b b':Bool):Prop:=(b=true->SE X cl e e')/\(b'=true->ST X cl e e'/\(lM e=true->SW X cl e e'))
section
variable{C:CC}{X:Cx}{cl:RL.Cl}{e:Expr}{e':RL.E}{b:Bool}
def pZ{env:Env}(h:plainT e=true)(whole:Sem Value):isTrue e env whole=(do let v <- whole;standAt e.pos;holding [v] (truthy v)):=by
 cases e<;>first
  | rfl
  | (cases h;done)
  | (rename_i op _ _;cases op<;>first | rfl | (cases h;done))
def aw(h:b=true->SE X cl e e'/\plainT e=true):nj X cl e e' b b :=
 ⟨fun z=>(h z).1,fun z=>⟨tU (h z).1 (pZ (h z).2),fun q=>by
  have:=(h z).2
  cases e<;>first | (cases q;done) | (cases this;done)⟩⟩
def gc(h:b=true->SE X cl e e'/\ST X cl e e'/\lM e=false):nj X cl e e' b b :=
 ⟨fun z=>(h z).1,fun z=>⟨(h z).2.1,fun q=>by rw[(h z).2.2]at q;cases q⟩⟩
def DQ(h:b=false){b':Bool}(h':b'=false):nj X cl e e' b b':=⟨fun z=>(by rw[h]at z;cases z),fun z=>(by rw[h']at z;cases z)⟩
def Bo{d:RL.D}{k:Const}{j:Nat}{pos:Pos}(h:i5 d k=true):SE X cl (.Constant k j pos) (.cst d):=by
 cases d<;>cases k<;>simp only[i5]at h<;>first | (cases h;done) | skip
 case non.none=>exact j9 lI (fun P H=>by rw[Rep]) rfl
 case bl.bool i j=>rw[beq_iff_eq]at h;subst h;exact j9 Ce (fun P H=>mf) rfl
 case int.int i j=>rw[beq_iff_eq]at h;subst h;exact j9 mq (fun P H=>aA) rfl
 case str.str i j=>rw[beq_iff_eq]at h;subst h;exact j9 Bw (fun P H=>dD) rfl
def xb{k:Const}(h:i5 .non k=true):k=.none:=by
 cases k<;>simp only[i5]at h<;>first | (cases h;done) | rfl
def rO(t:RL.Ty):bootBuiltins (lU t)=some (.type (tyN t))/\lU t ≠ "__name__" /\ (lU t == ("__debug__" : Str))=false:=by
 cases t<;>exact⟨by decide +kernel,by decide +kernel,by decide +kernel⟩
def bS(h:gx e=true)(env:Env)(x:Value):foldedSetIterable e env x=pure x:=by
 cases e<;>first | rfl | (cases h;done)
def C7(hcalm:X.calm=true){o:RL.Bi}{x:Str}{p pos:Pos}{y:Expr}{a':RL.E}(hx:pV o=some x)(hb:Gl X x)(hb2:X.mg x=none)(ha:SE X cl y a')(hn:noStar y=true):SE X cl (.Call (.Name x p) [y] [] pos) (.bi o a'):=by
 cases o<;>simp only[pV]at hx<;>first | (cases hx;done) | skip
 case len=>cases hx;exact yh hb hb2 ha hn
 case list=>cases hx;exact wV hb hb2 ha hn
 case tuple=>cases hx;exact tR hb hb2 ha hn
 case int=>cases hx;exact BJ hb hb2 ha hn
 case all=>cases hx;exact yO hcalm hb hb2 ha hn
 case sum=>cases hx;exact B2 hcalm hb hb2 ha hn
 case sorted=>cases hx;exact rF hb hb2 ha hn
def sF{r:Expr}(h:iN r=true):qo r:=by
 cases r<;>first | (cases h;done) | (intro a b;rfl) | skip
def fy{i:Nat}(h:XOk C X cl)(z:l5 C i e=true):∃ x p,e=.Name x p/\X.N[i]?=some x/\Vis X.env.scope x/\(x == ("__debug__" : Str))=false/\(x == ("__classdict__" : Str))=false:=by
 obtain⟨x,z0,z⟩:=aj z;obtain⟨p,rfl⟩:=bT z0;obtain⟨z1,z2⟩:=ab z;obtain⟨g1,g2⟩:=h.nm z1;exact⟨x,p,rfl,g1,h.vis z2,(cJ g2).1,(cJ g2).2⟩
def iE{i:Nat}(h:XOk C X cl)(z:fN C i e=true):∃ x p,e=.Name x p/\X.N[i]?=some x/\Loc X.env.scope x:=by
 obtain⟨x,z0,z⟩:=aj z;obtain⟨p,rfl⟩:=bT z0;obtain⟨z1,z2⟩:=ab z;exact⟨x,p,rfl,(h.nm z1).1,h.loc z2⟩
def kd(h:XOk C X cl){T:List Nat}(hf:∀ i x,i∈T->X.N[i]?=some x->X.fn x=true\/X.env.scope.names.lookup x=some .local):∀ {is:List Nat} {es:List Expr},(∀ i∈is,i∈T)->hG C is es=true->PGs X es (gs is)/\(assignEach es X.env).length=is.length/\(assignEach es X.env).findIdx? (·.1)=none
 | [],es,_,z=>by
  rw[hG,List.isEmpty_iff]at z;subst z;exact⟨xr,rfl,rfl⟩
 | i::is,[],_,z=>by cases z
 | i::is,e::es,hs,z=>by
  rw[hG]at z;obtain⟨z1,z2⟩:=ab z;obtain⟨x,p,rfl,g1,g2⟩:=iE h z1;obtain⟨h1,h2,h3⟩:=kd h hf (fun j hj=>hs j (List.mem_cons_of_mem _ hj)) z2;refine⟨uW (ou h.ndX g1 g2 (hf i x (hs i List.mem_cons_self) g1)) h1 rfl,?_,?_⟩
  ·show(assignEach es X.env).length+1=is.length+1;rw[h2]
  ·show List.findIdx? (·.1) ((false,assign (.Name x p) X.env)::assignEach es X.env)=none;rw[List.findIdx?_cons];simp only[Bool.false_eq_true,if_false,h3,Option.map_none]
def sP{tg:List Nat}{tgE:Expr}(h:XOk C X cl)(hf:∀ i x,i∈tg->X.N[i]?=some x->X.fn x=true\/X.env.scope.names.lookup x=some .local)(hc:iQ C tg tgE=true):PG X tgE (gT X.K tg):=by
 unfold iQ at hc;split at hc
 ·obtain⟨x,p,rfl,g1,g2⟩:=iE h hc;exact ou h.ndX g1 g2 (hf _ x (by simp) g1)
 ·rename_i hne;obtain⟨es,z0,z⟩:=aj hc;obtain⟨k,p,rfl⟩:=cQ z0;obtain⟨h1,h2,h3⟩:=kd h hf (fun i hi=>hi) z
  have e:gT X.K tg=fun v σ H Q=>jF X.K tg.length (gs tg) v σ H Q\/kj X.K tg.length (gs tg) v σ H Q:=by
   unfold gT;split
   ·rename_i i;exact absurd rfl (hne i)
   ·rfl
  rw[e];exact qZ (se h.calm h1 h2 h3) (sU h.calm h1 h2 h3)
def Bq{x:Str}{i:Int}{pos:Pos}(h:XOk C X cl)(hg:glB C x=true)(hl:C.G.lookup x=some i):SE X cl (.Name x pos) (.glb x i):=by
 obtain⟨u,h1,h2⟩:=h.glb x i hl;obtain⟨g1,g2⟩:=h.gl hg;exact Bj (u:=u) (wm g1 h1 h2 (cJ g2).1)
def xR{x:Str}{f:Nat}{p pos:Pos}{y:Expr}{ys:List Expr}{es:RL.Es}(h:XOk C X cl)(hg:glB C x=true)(hf:C.F[f]?=some (x,[]))(he:SEs X cl (y::ys) es)(hl:cE es=ys.length+1)(hn:noStar y=true)(hns:ys.all noStar=true) :
  SE X cl (.Call (.Name x p) (y::ys) [] pos) (.call f es):=by
 obtain⟨k,fa,fd,ps,F,hr,hm,hk,hb⟩:=h.fns f x [] hf;obtain⟨g1,g2⟩:=h.gl hg;rw[if_pos rfl]at F
 cases es with
 | nil=>simp[cE]at hl
 | cons e' es'=>exact wu F hr g1 hm hk hb he (cJ g2).1 hn hns
def iy{scope sc:Scope}(h:scB scope sc=true):gu scope sc:=by
 unfold scB at h;obtain⟨h1,h2⟩:=ab h;rw[List.all_eq_true]at h2;refine⟨by simpa using h1,fun x hx z=>?_,fun x hx z=>?_,fun x hx z=>?_⟩
 ·have:=h2 x hx;rw[z]at this;simpa using this
 ·have:=h2 x hx;rw[z]at this;simpa using this
 ·have:=h2 x hx;rw[z]at this;simpa using this
def cM{scope:Scope}{tg:List Nat}(h:gz C scope tg=true)(i:Nat)(x:Str)(hx:C.N[i]?=some x)(hl:scope.names.lookup x=some .local\/scope.names.lookup x=some .cell):tg.contains i=true:=by
 unfold gz at h;rw[List.all_eq_true]at h;have:=h i (List.mem_range.mpr (List.getElem?_eq_some_iff.mp hx).1);rw[hx]at this;rcases hl with hl | hl
 ·simp only[hl,beq_self_eq_true,Bool.true_or,Bool.not_true,Bool.false_or]at this;exact this
 ·simp only[hl,beq_self_eq_true,Bool.or_true,Bool.not_true,Bool.false_or]at this;exact this
def eQ{X:Cx}{cls:List (Str × Addr)}{scope:Scope}{Ca:Addr}{fp:List Addr}{s:Shared}{H:Hp}{pins:List (Addr × Obj)}{s':Shared}{σ:L2.St}{H':Hp}{Q:Bool->Hp->Prop}(I:Inv (L2.blk X scope cls Ca fp s H) pins σ H' s')(q:dZ σ H' Q) :
  wpAny (model X.prog X.w) X.A (eB [] (compEnvC scope cls Ca X.env)) (TP (L2.blk X scope cls Ca fp s H) pins σ Q) (fun _ _=>False) s':=by
 unfold eB;exact wpAny_pure ⟨H',I,q⟩
def k6{X:Cx}{cls:List (Str × Addr)}{scope:Scope}{Ca:Addr}{fp:List Addr}{s:Shared}{H:Hp}{pins:List (Addr × Obj)}{s':Shared}{σ:L2.St}{H':Hp}{Q:Bool->Hp->Prop}{c:Expr}{t:TT}(hc:PT (L2.blk X scope cls Ca fp s H) c t)(I:Inv (L2.blk X scope cls Ca fp s H) pins σ H' s')(q:t σ H' Q) :
  wpAny (model X.prog X.w) X.A (eB [c] (compEnvC scope cls Ca X.env)) (TP (L2.blk X scope cls Ca fp s H) pins σ Q) (fun _ _=>False) s':=by
 have h:=hc pins s' σ H' Q I q;unfold eB;simp only[List.forIn_cons,List.forIn_nil,if_true];refine wpAny_bind (wpAny_bind (thn h fun b s1 hb=>wpAny_pure ?_));exact wpAny_pure hb
def fj(h:XOk C X cl){scope:Scope}{cls:List (Str × Addr)}{Ca:Addr}{fp:List Addr}{s:Shared}{H:Hp}{tg:List Nat}(ha:gK C scope tg=true){tgE:Expr}(hc:iQ (C.inner scope) tg tgE=true):PG (L2.blk X scope cls Ca fp s H) tgE (gT X.K tg):=by
 have hb:=h.blk (scope:=scope) cls Ca fp s H;unfold gK at ha;rw[List.all_eq_true]at ha;refine sP hb (fun i x hi hx=>?_) hc;have:=ha i hi;have hx:X.N[i]?=some x:=hx;rw[h.names]at hx;rw[hx]at this;simp only[Bool.or_eq_true,beq_iff_eq]at this;rcases this with z | z
 ·exact .inr (lookup_relabel_local z)
 ·exact .inl (by show(scope.names.lookup x == some .cell)=true;rw[z];rfl)
def iw{α:Type}{o:Option α}(h:o.isNone=true):o=none:=by
 cases o with
 | none=>rfl
 | some _=>cases h
end
mutual
theorem ae{cl:RL.Cl}:∀ (e':RL.E) {C:CC} {X:Cx} (h:XOk C X cl) (e:Expr),nj X cl e e' (chk C false e' e) (chk C true e' e)
 | .var i,C,X,h,e=>aw (b:=chk C false (.var i) e) fun z=>by
  obtain⟨x,p,rfl,g1,g2,g3,g4⟩:=fy h z;exact⟨Br g1 g2 g3 g4,rfl⟩
 | .cst d,C,X,h,e=>aw (b:=chk C false (.cst d) e) fun z=>by
  obtain⟨k,z0,z⟩:=aj z;obtain⟨j,p,rfl⟩:=oG z0;exact⟨Bo z,rfl⟩
 | .glb y i,C,X,h,e=>aw (b:=chk C false (.glb y i) e) fun z=>by
  obtain⟨x,z0,z⟩:=aj z;obtain⟨p,rfl⟩:=bT z0;obtain⟨z,z3⟩:=ab z;obtain⟨z1,z2⟩:=ab z;rw[beq_iff_eq]at z1 z3;subst z1;exact⟨Bq h z2 z3,rfl⟩
 | .bin o a b,C,X,h,e=>aw (b:=chk C false (.bin o a b) e) fun z=>by
  obtain⟨⟨l,op,r⟩,z0,z⟩:=aj z;obtain⟨p,rfl⟩:=nY z0;obtain⟨z,z3⟩:=ab z;obtain⟨z1,z2⟩:=ab z;rw[beq_iff_eq]at z1;have z1:op=lS o:=z1;subst z1;exact⟨yr ((ae a h l).1 z2) ((ae b h r).1 z3),rfl⟩
 | .neg a,C,X,h,e=>aw (b:=chk C false (.neg a) e) fun z=>by
  obtain⟨⟨op,x⟩,z0,z⟩:=aj z;obtain⟨p,rfl⟩:=mD z0;obtain⟨z1,z2⟩:=ab z;rw[beq_iff_eq]at z1;have z1:op=.USub:=z1;subst z1;exact⟨zt ((ae a h x).1 z2),rfl⟩
 | .cmp c a b,C,X,h,e=>gc (b:=chk C false (.cmp c a b) e) fun z=>by
  obtain⟨⟨l,os,rs⟩,z0,z⟩:=aj z;obtain⟨p,rfl⟩:=fc z0;obtain⟨op,y1,z⟩:=a7 z;obtain⟨r,y2,z⟩:=a7 z;have y1:os=[op]:=y1;have y2:rs=[r]:=y2;subst y1 y2;obtain⟨z,z3⟩:=ab z;obtain⟨z1,z2⟩:=ab z;rw[beq_iff_eq]at z1;subst z1;exact⟨Af h.hu ((ae a h l).1 z2) ((ae b h r).1 z3),yQ h.hu ((ae a h l).1 z2) ((ae b h r).1 z3),rfl⟩
 | .chain c c' a b d,C,X,h,e=>gc (b:=chk C false (.chain c c' a b d) e) fun z=>by
  obtain⟨⟨l,os,rs⟩,z0,z⟩:=aj z;obtain⟨p,rfl⟩:=fc z0;obtain⟨op,op',y1,z⟩:=cL z;obtain⟨r,s,y2,z⟩:=cL z;have y1:os=[op,op']:=y1;have y2:rs=[r,s]:=y2;subst y1 y2;obtain⟨z,z5⟩:=ab z;obtain⟨z,z4⟩:=ab z;obtain⟨z,z3⟩:=ab z;obtain⟨z1,z2⟩:=ab z;rw[beq_iff_eq]at z1 z2;subst z1 z2;exact⟨uB h.hu ((ae a h l).1 z3) ((ae b h r).1 z4) ((ae d h s).1 z5),ui h.hu ((ae a h l).1 z3) ((ae b h r).1 z4) ((ae d h s).1 z5),rfl⟩
 | .isN neg a,C,X,h,e=>gc (b:=chk C false (.isN neg a) e) fun z=>by
  obtain⟨⟨l,os,rs⟩,z0,z⟩:=aj z;obtain⟨p,rfl⟩:=fc z0;obtain⟨op,y1,z⟩:=a7 z;obtain⟨r,y2,z⟩:=a7 z;have y1:os=[op]:=y1;have y2:rs=[r]:=y2;subst y1 y2;obtain⟨z,z3⟩:=ab z;obtain⟨z1,z2⟩:=ab z;rw[beq_iff_eq]at z1;subst z1;obtain⟨k,w0,w⟩:=aj z2;obtain⟨j,q,rfl⟩:=oG w0;have w:=xb w;subst w;exact⟨yt ((ae a h l).1 z3),ye ((ae a h l).1 z3),rfl⟩
 | .inD neg a b,C,X,h,e=>gc (b:=chk C false (.inD neg a b) e) fun z=>by
  obtain⟨⟨l,os,rs⟩,z0,z⟩:=aj z;obtain⟨p,rfl⟩:=fc z0;obtain⟨op,y1,z⟩:=a7 z;obtain⟨r,y2,z⟩:=a7 z;have y1:os=[op]:=y1;have y2:rs=[r]:=y2;subst y1 y2;obtain⟨z,z4⟩:=ab z;obtain⟨z,z3⟩:=ab z;obtain⟨z1,z2⟩:=ab z;rw[beq_iff_eq]at z1;subst z1;exact⟨yR h.hu ((ae a h l).1 z3) ((ae b h r).1 z4) z2,yv h.hu ((ae a h l).1 z3) ((ae b h r).1 z4) z2,rfl⟩
 | .and a b,C,X,h,e=>⟨(fun z=>by
   obtain⟨⟨op,es,p⟩,z0,z⟩:=aj z;obtain⟨l,r,rest,y1,z⟩:=j0 z;have e0:=fD z0;have y1:es=l::r::rest:=y1;obtain⟨z,z3⟩:=ab z;obtain⟨z1,z2⟩:=ab z;rw[beq_iff_eq]at z1;have z1:op=.And:=z1;subst y1 z1 e0;refine Aa ((ae a h l).1 z2) ?_;split at z3
   ·rename_i hr;rw[List.isEmpty_iff]at hr;subst hr;exact qQ ((ae b h r).1 z3)
   ·exact(ae b h _).1 z3),(fun z=>by
   obtain⟨⟨op,es,p⟩,z0,z⟩:=aj z;obtain⟨l,r,rest,y1,z⟩:=j0 z;have e0:=fD z0;have y1:es=l::r::rest:=y1;obtain⟨z,z3⟩:=ab z;obtain⟨z1,z2⟩:=ab z;rw[beq_iff_eq]at z1;have z1:op=.And:=z1;subst y1 z1 e0
   have w:SW X cl (.BoolOp .And (l::r::rest) p) (.and a b):=by
    refine Az ((ae a h l).2 z2).1 ?_;split at z3
    ·rename_i hr;rw[List.isEmpty_iff]at hr;subst hr;exact sJ ((ae b h r).2 z3).1
    ·exact((ae b h _).2 z3).2 rfl
   exact⟨w.pt,fun _=>w⟩)⟩
 | .or a b,C,X,h,e=>⟨(fun z=>by
   obtain⟨⟨op,es,p⟩,z0,z⟩:=aj z;obtain⟨l,r,rest,y1,z⟩:=j0 z;have e0:=fD z0;have y1:es=l::r::rest:=y1;obtain⟨z,z3⟩:=ab z;obtain⟨z1,z2⟩:=ab z;rw[beq_iff_eq]at z1;have z1:op=.Or:=z1;subst y1 z1 e0;refine C4 ((ae a h l).1 z2) ?_;split at z3
   ·rename_i hr;rw[List.isEmpty_iff]at hr;subst hr;exact qQ ((ae b h r).1 z3)
   ·exact(ae b h _).1 z3),(fun z=>by
   obtain⟨⟨op,es,p⟩,z0,z⟩:=aj z;obtain⟨l,r,rest,y1,z⟩:=j0 z;have e0:=fD z0;have y1:es=l::r::rest:=y1;obtain⟨z,z3⟩:=ab z;obtain⟨z1,z2⟩:=ab z;rw[beq_iff_eq]at z1;have z1:op=.Or:=z1;subst y1 z1 e0
   have w:SW X cl (.BoolOp .Or (l::r::rest) p) (.or a b):=by
    refine Cd ((ae a h l).2 z2).1 ?_;split at z3
    ·rename_i hr;rw[List.isEmpty_iff]at hr;subst hr;exact sJ ((ae b h r).2 z3).1
    ·exact((ae b h _).2 z3).2 rfl
   exact⟨w.pt,fun _=>w⟩)⟩
 | .not a,C,X,h,e=>⟨(fun z=>by
   obtain⟨⟨op,x⟩,z0,z⟩:=aj z;obtain⟨p,rfl⟩:=mD z0;obtain⟨z1,z2⟩:=ab z;rw[beq_iff_eq]at z1;have z1:op=.Not:=z1;subst z1
   exact zj ((ae a h x).1 z2)),(fun z=>by
   obtain⟨⟨op,x⟩,z0,z⟩:=aj z;obtain⟨p,rfl⟩:=mD z0;obtain⟨z1,z2⟩:=ab z;rw[beq_iff_eq]at z1;have z1:op=.Not:=z1;subst z1
   exact⟨Bb ((ae a h x).2 z2).1,fun q=>by cases q⟩)⟩
 | .ifx c a b,C,X,h,e=>⟨(fun z=>by
   obtain⟨⟨q,l,r⟩,z0,z⟩:=aj z;obtain⟨p,rfl⟩:=xE z0;obtain⟨z,z4⟩:=ab z;obtain⟨z,z3⟩:=ab z;obtain⟨z1,z2⟩:=ab z
   exact zc ((ae c h q).2 z2).1 ((ae a h l).1 z3) ((ae b h r).1 z4)),(fun z=>by
   obtain⟨⟨q,l,r⟩,z0,z⟩:=aj z;obtain⟨z,z4⟩:=ab z;obtain⟨z,z3⟩:=ab z;obtain⟨z1,z2⟩:=ab z
   cases z1)⟩
 | .tup es,C,X,h,e=>aw (b:=chk C false (.tup es) e) fun z=>by
  obtain⟨xs,z0,z⟩:=aj z;obtain⟨k,p,rfl⟩:=cQ z0;obtain⟨z1,z2⟩:=ab z;exact⟨yA (fW es h _ z1).1 (by simpa using z2),rfl⟩
 | .lst es,C,X,h,e=>aw (b:=chk C false (.lst es) e) fun z=>by
  obtain⟨xs,z0,z⟩:=aj z;obtain⟨p,rfl⟩:=x5 z0;obtain⟨z1,z2⟩:=ab z;exact⟨yW (fW es h _ z1).1 (by simpa using z2),rfl⟩
 | .ix a b,C,X,h,e=>aw (b:=chk C false (.ix a b) e) fun z=>by
  obtain⟨⟨l,r⟩,z0,z⟩:=aj z;obtain⟨p,rfl⟩:=fA z0;obtain⟨z,z3⟩:=ab z;obtain⟨z1,z2⟩:=ab z;exact⟨Cg ((ae a h l).1 z2) ((ae b h r).1 z3) z1,rfl⟩
 | .ixD a b,C,X,h,e=>aw (b:=chk C false (.ixD a b) e) fun z=>by
  obtain⟨⟨l,r⟩,z0,z⟩:=aj z;obtain⟨p,rfl⟩:=fA z0;obtain⟨z,z3⟩:=ab z;obtain⟨z1,z2⟩:=ab z;exact⟨yf h.hu ((ae a h l).1 z2) ((ae b h r).1 z3) (sF z1),rfl⟩
 | .slT a b,C,X,h,e=>aw (b:=chk C false (.slT a b) e) fun z=>by
  obtain⟨⟨l,s⟩,z0,z⟩:=aj z;obtain⟨p,rfl⟩:=fA z0;obtain⟨z1,z⟩:=ab z;obtain⟨⟨s1,s2,s3⟩,z0,z⟩:=aj z;obtain⟨q,e0⟩:=rZ z0;have e0:s=.Slice s1 s2 s3 q:=e0;obtain⟨z,z4⟩:=ab z;obtain⟨z2,z3⟩:=ab z;have w2:s1=none:=iw z2;have w3:s3=none:=iw z3;obtain⟨r,y0,z4⟩:=aj z4;have y1:s2=some r:=y0;rw[w2,w3,y1]at e0;subst e0;exact⟨yg ((ae a h l).1 z1) ((ae b h r).1 z4),rfl⟩
 | .rev a,C,X,h,e=>aw (b:=chk C false (.rev a) e) fun z=>by
  obtain⟨⟨l,s⟩,z0,z⟩:=aj z;obtain⟨p,rfl⟩:=fA z0;obtain⟨z1,z⟩:=ab z;obtain⟨⟨s1,s2,s3⟩,z0,z⟩:=aj z;obtain⟨q,e0⟩:=rZ z0;have e0:s=.Slice s1 s2 s3 q:=e0;obtain⟨z,z4⟩:=ab z;obtain⟨z2,z3⟩:=ab z;have w2:s1=none:=iw z2;have w3:s2=none:=iw z3;obtain⟨r,y0,z4⟩:=aj z4;have y1:s3=some r:=y0;rw[w2,w3,y1]at e0;subst e0;exact⟨zT ((ae a h l).1 z1) z4,rfl⟩
 | .call f es,C,X,h,e=>aw (b:=chk C false (.call f es) e) fun z=>by
  obtain⟨⟨g,as,ks,p⟩,z0,z⟩:=aj z;have z0:=dI z0;subst z0;obtain⟨z,z4⟩:=ab z;obtain⟨z,z3⟩:=ab z;obtain⟨z1,z2⟩:=ab z;obtain⟨x,y0,z1⟩:=aj z1;obtain⟨q,e0⟩:=bT y0;have e0:g=.Name x q:=e0;obtain⟨y1,y2⟩:=ab z1;rw[beq_iff_eq]at y2
  have w2:ks=[]:=by rw[List.isEmpty_iff]at z2;exact z2
  subst e0 w2;obtain⟨q1,q2,q3⟩:=fW es h _ z4;dsimp only at z3 q1 q2 q3
  cases as with
  | nil=>cases z3
  |cons y ys=>
   rw[List.all_cons]at q3;exact⟨xR h y1 y2 q1 q2 (ab q3).1 (ab q3).2,rfl⟩
 | .bi o a,C,X,h,e=>by
  have gen:(∀ t,chk C t (.bi o a) e=((pV o).any fun x=>aG C e x fun ys=>of1 ys fun y=>chk C false a y))->nj X cl e (.bi o a) (chk C false (.bi o a) e) (chk C true (.bi o a) e):=fun heq=>by
   rw[heq,heq];refine aw fun z=>?_;obtain⟨x,y0,z⟩:=aj z;obtain⟨p,as,pos,rfl,b1,b2,z3,z4⟩:=aS h z;obtain⟨y,rfl,z4⟩:=a7 z4;exact⟨C7 h.calm y0 b1 b2 ((ae a h y).1 z4) (all1 z3),rfl⟩
  cases o
  case lenSet =>
   refine aw (b:=chk C false (.bi .lenSet a) e) fun z=>?_;have z:(aG C e "len" fun ys=>of1 ys fun y=>aG C y "set" fun zs=>of1 zs fun z=>chk C false a z)=true:=z;obtain⟨p,as,pos,rfl,b1,b2,z3,z4⟩:=aS h z;obtain⟨y,rfl,z5⟩:=a7 z4;obtain⟨p',as',pos',rfl,b1',b2',z3',z6⟩:=aS h z5;obtain⟨y,rfl,z7⟩:=a7 z6;exact⟨sj h.calm b1 b2 b1' b2' ((ae a h y).1 z7) (all1 z3'),rfl⟩
  case sortedSet =>
   refine aw (b:=chk C false (.bi .sortedSet a) e) fun z=>?_;have z:(aG C e "sorted" fun ys=>of1 ys fun y=>aG C y "set" fun zs=>of1 zs fun z=>chk C false a z)=true:=z;obtain⟨p,as,pos,rfl,b1,b2,z3,z4⟩:=aS h z;obtain⟨y,rfl,z5⟩:=a7 z4;obtain⟨p',as',pos',rfl,b1',b2',z3',z6⟩:=aS h z5;obtain⟨y,rfl,z7⟩:=a7 z6;exact⟨lD h.calm b1 b2 b1' b2' ((ae a h y).1 z7) (all1 z3'),rfl⟩
  all_goals exact gen fun t=>rfl
 | .isi a ty,C,X,h,e=>aw (b:=chk C false (.isi a ty) e) fun z=>by
  have z:(aG C e "isinstance" fun ys=>of2 ys fun y z=>(cZ z).any (fun x=>x == lU ty&&nE C x)&&chk C false a y)=true:=z;obtain⟨p,as,pos,rfl,b1,b2,z3,z4⟩:=aS h z;obtain⟨y,u,rfl,z4⟩:=cL z4;obtain⟨z5,z6⟩:=ab z4;obtain⟨x,w0,w⟩:=aj z5;obtain⟨q,rfl⟩:=bT w0;obtain⟨w1,w2⟩:=ab w;rw[beq_iff_eq]at w1;subst w1;obtain⟨t1,t2,t3⟩:=rO ty;exact⟨yL b1 b2 (h.bl w2).1 (h.bl w2).2 t1 t2 t3 ((ae a h y).1 z6) (all2 z3).1,rfl⟩
 | .rng1 a,C,X,h,e=>aw (b:=chk C false (.rng1 a) e) fun z=>by
  have z:(aG C e "list" fun ys=>of1 ys fun y=>aG C y "range" fun zs=>of1 zs fun z=>chk C false a z)=true:=z;obtain⟨p,as,pos,rfl,b1,b2,z3,z4⟩:=aS h z;obtain⟨y,rfl,z5⟩:=a7 z4;obtain⟨p',as',pos',rfl,b1',b2',z3',z6⟩:=aS h z5;obtain⟨y,rfl,z7⟩:=a7 z6;exact⟨wR h.calm b1 b2 b1' b2' ((ae a h y).1 z7) (all1 z3'),rfl⟩
 | .rng2 a b,C,X,h,e=>aw (b:=chk C false (.rng2 a b) e) fun z=>by
  have z:(aG C e "list" fun ys=>of1 ys fun y=>aG C y "range" fun zs=>of2 zs fun z u=>chk C false a z&&chk C false b u)=true:=z;obtain⟨p,as,pos,rfl,b1,b2,z3,z4⟩:=aS h z;obtain⟨y,rfl,z5⟩:=a7 z4;obtain⟨p',as',pos',rfl,b1',b2',z3',z6⟩:=aS h z5;obtain⟨y,u,rfl,z7⟩:=cL z6;exact⟨xX h.calm b1 b2 b1' b2' ((ae a h y).1 (ab z7).1) ((ae b h u).1 (ab z7).2) (all2 z3').1 (all2 z3').2,rfl⟩
 | .comp d tg it c,C,X,h,e=>aw (b:=chk C false (.comp d tg it c) e) fun z=>by
  obtain⟨⟨elt,gens,scope,p⟩,z0,z⟩:=aj z;have z0:=iV z0;subst z0;obtain⟨⟨tgE,iter,ifs,asy⟩,y1,z⟩:=a7 z;have y1:gens=[⟨tgE,iter,ifs,asy⟩]:=y1;obtain⟨w,y2,z⟩:=a7 z;have y2:ifs=[w]:=y2;obtain⟨z,z8⟩:=ab z;obtain⟨z,z7⟩:=ab z;obtain⟨z,z6⟩:=ab z;obtain⟨z,z5⟩:=ab z;obtain⟨z,z4⟩:=ab z;obtain⟨z,z3⟩:=ab z;obtain⟨z,z2⟩:=ab z;obtain⟨z0,z1⟩:=ab z;rw[beq_iff_eq]at z0;have w0:asy=0:=z0;subst y1 w0;subst y2;refine⟨uv (fun _ _ _ _=>h.calm) (by rw[h.scope];exact iy z1) (cX it h _ _ z6) ?_ (bS z3 _),rfl⟩;exact⟨fun cls Ca fp s H=>fj h z5 z4,fun cls Ca fp s H pins s' σ H' Q I q=>k6 ((ae c (h.blk cls Ca fp s H) _).2 z8).1 I q,fun cls Ca fp s H=>(ae d (h.blk cls Ca fp s H) _).1 z7,fun i x hx hl=>cM z2 i x (by rw[<-h.names];exact hx) hl⟩
 | .compA d tg it,C,X,h,e=>aw (b:=chk C false (.compA d tg it) e) fun z=>by
  obtain⟨⟨elt,gens,scope,p⟩,z0,z⟩:=aj z;have z0:=iV z0;subst z0;obtain⟨⟨tgE,iter,ifs,asy⟩,y1,z⟩:=a7 z;have y1:gens=[⟨tgE,iter,ifs,asy⟩]:=y1;obtain⟨z,z7⟩:=ab z;obtain⟨z,z6⟩:=ab z;obtain⟨z,z5⟩:=ab z;obtain⟨z,z4⟩:=ab z;obtain⟨z,z3⟩:=ab z;obtain⟨z,z2⟩:=ab z;obtain⟨z,z1⟩:=ab z;obtain⟨y2,z0⟩:=ab z;rw[beq_iff_eq]at z0;have w0:asy=0:=z0
  have w2:ifs=[]:=by rw[List.isEmpty_iff]at y2;exact y2
  subst y1 w0;subst w2;refine⟨uq h.calm (by rw[h.scope];exact iy z1) (cX it h _ _ z6) ?_ (bS z3 _),rfl⟩;exact⟨fun cls Ca fp s H=>fj h z5 z4,fun cls Ca fp s H pins s' σ H' Q I q=>eQ I q,fun cls Ca fp s H=>(ae d (h.blk cls Ca fp s H) _).1 z7,fun i x hx hl=>cM z2 i x (by rw[<-h.names];exact hx) hl⟩
 | .compL d tg it,C,X,h,e=>aw (b:=chk C false (.compL d tg it) e) fun z=>by
  obtain⟨⟨elt,gens,scope,p⟩,z0,z⟩:=aj z;have z0:=iV z0;subst z0;obtain⟨⟨tgE,iter,ifs,asy⟩,y1,z⟩:=a7 z;have y1:gens=[⟨tgE,iter,ifs,asy⟩]:=y1;obtain⟨z,z7⟩:=ab z;obtain⟨z,z6⟩:=ab z;obtain⟨z,z5⟩:=ab z;obtain⟨z,z4⟩:=ab z;obtain⟨z,z3⟩:=ab z;obtain⟨z,z2⟩:=ab z;obtain⟨z,z1⟩:=ab z;obtain⟨y2,z0⟩:=ab z;rw[beq_iff_eq]at z0;have w0:asy=0:=z0
  have w2:ifs=[]:=by rw[List.isEmpty_iff]at y2;exact y2
  subst y1 w0;subst w2;refine⟨sY h.calm (by rw[h.scope];exact iy z1) (cX it h _ _ z6) ?_ (bS z3 _),rfl⟩;exact⟨fun cls Ca fp s H=>fj h z5 z4,fun cls Ca fp s H pins s' σ H' Q I q=>eQ I q,fun cls Ca fp s H=>(ae d (h.blk cls Ca fp s H) _).1 z7,fun i x hx hl=>cM z2 i x (by rw[<-h.names];exact hx) hl⟩
 | .dk0,C,X,h,e=>aw (b:=chk C false .dk0 e) fun z=>by
  obtain⟨⟨ks,vs⟩,z0,z⟩:=aj z;obtain⟨p,rfl⟩:=iX z0;obtain⟨z1,z2⟩:=ab z;rw[List.isEmpty_iff]at z1 z2;have z1:ks=[]:=z1;have z2:vs=[]:=z2;subst z1 z2;exact⟨yE,rfl⟩
 | .dt0,C,X,h,e=>aw (b:=chk C false .dt0 e) fun z=>by
  obtain⟨⟨ks,vs⟩,z0,z⟩:=aj z;obtain⟨p,rfl⟩:=iX z0;obtain⟨z1,z2⟩:=ab z;rw[List.isEmpty_iff]at z1 z2;have z1:ks=[]:=z1;have z2:vs=[]:=z2;subst z1 z2;exact⟨AX,rfl⟩
 | .get a b c,C,X,h,e=>aw (b:=chk C false (.get a b c) e) fun z=>by
  obtain⟨⟨g,as,ks,p⟩,z0,z⟩:=aj z;have z0:=dI z0;obtain⟨z,z3⟩:=ab z;obtain⟨z1,z2⟩:=ab z;obtain⟨⟨o,nm,apos⟩,y0,z1⟩:=aj z1;have e1:=nG y0;have e1:g=.Attribute o nm apos:=e1;obtain⟨z1,y4⟩:=ab z1;obtain⟨z1,y3⟩:=ab z1;obtain⟨y1,y2⟩:=ab z1;rw[beq_iff_eq]at y1;have y1:nm = "get" := y1;obtain⟨x,hx⟩:=Option.isSome_iff_exists.mp y3;obtain⟨xp,e2⟩:=bT hx;have e2:o=.Name x xp:=e2
  have w2:ks=[]:=by rw[List.isEmpty_iff]at z2;exact z2
  obtain⟨y,u,e3,z3⟩:=cL z3;have e3:as=[y,u]:=e3;obtain⟨z3,z6⟩:=ab z3;obtain⟨z3,z5⟩:=ab z3;obtain⟨z3,z4⟩:=ab z3;rw[e1,y1,e2,w2,e3]at z0;subst z0;have y4:chk C false a o=true:=y4;rw[e2]at y4;exact⟨AD h.hu ((ae a h _).1 y4) ((ae b h y).1 z5) ((ae c h u).1 z6) z3 z4 y2,rfl⟩
 | .dt1 a b,C,X,h,e=>aw (b:=chk C false (.dt1 a b) e) fun z=>by
  obtain⟨⟨ks,vs⟩,z0,z⟩:=aj z;obtain⟨p,rfl⟩:=iX z0;obtain⟨k,y1,z⟩:=a7 z;obtain⟨v,y2,z⟩:=a7 z;have y1:ks=[k]:=y1;have y2:vs=[v]:=y2;subst y1 y2;obtain⟨z1,z2⟩:=ab z;obtain⟨k',rfl,z1⟩:=aj z1;exact⟨yS h.hu ((ae a h k').1 z1) ((ae b h v).1 z2),rfl⟩
 | .lsD a,C,X,h,e=>aw (b:=chk C false (.lsD a) e) fun z=>by
  have z:(aG C e "list" fun ys=>of1 ys fun y=>chk C false a y)=true:=z;obtain⟨p,as,pos,rfl,b1,b2,z3,z4⟩:=aS h z;obtain⟨y,rfl,z5⟩:=a7 z4;exact⟨Ba h.calm b1 b2 ((ae a h y).1 z5) (all1 z3),rfl⟩
 | .minL a,C,X,h,e=>aw (b:=chk C false (.minL a) e) fun z=>by
  have z:(aG C e "min" fun ys=>of1 ys fun y=>chk C false a y)=true:=z;obtain⟨p,as,pos,rfl,b1,b2,z3,z4⟩:=aS h z;obtain⟨y,rfl,z5⟩:=a7 z4;exact⟨x4 h.calm h.hu b1 b2 ((ae a h y).1 z5) (all1 z3),rfl⟩
 | .frz a,C,X,h,e=>aw (b:=chk C false (.frz a) e) fun z=>by
  obtain⟨z1,z2⟩:=ab z;exact⟨Bt ((ae a h e).1 z2),by cases e<;>first | rfl | exact Bool.noConfusion z1⟩
 | .cat a b,C,X,h,e=>aw (b:=chk C false (.cat a b) e) fun z=>by
  obtain⟨⟨l,op,r⟩,z0,z⟩:=aj z;obtain⟨p,rfl⟩:=nY z0;obtain⟨z,z3⟩:=ab z;obtain⟨z1,z2⟩:=ab z;rw[beq_iff_eq]at z1;have z1:op=.Add:=z1;subst z1;exact⟨BG ((ae a h l).1 z2) ((ae b h r).1 z3),rfl⟩
theorem fW{cl:RL.Cl}:∀ (es':RL.Es) {C:CC} {X:Cx} (h:XOk C X cl) (es:List Expr),ju C es' es=true->SEs X cl es es'/\cE es'=es.length/\es.all noStar=true
 | .nil,C,X,h,es,z=>by
  have z:es=[]:=List.isEmpty_iff.mp z;subst z;exact⟨bp,rfl,rfl⟩
 | .cons e' es',C,X,h,es,z=>by
  cases es with
  | nil=>cases z
  |cons e es=>
   obtain⟨z,z3⟩:=ab z;obtain⟨z1,z2⟩:=ab z;obtain⟨q1,q2,q3⟩:=fW es' h es z3;exact⟨aR ((ae e' h e).1 z2) q1 z1,by rw[cE,q2,List.length_cons],by rw[List.all_cons,z1,q3];rfl⟩
theorem cX{cl:RL.Cl}:∀ (it:RL.It) {C:CC} {X:Cx} (h:XOk C X cl) (tg e:Expr),lG C it tg e=true->SI X cl tg e it
 | .seq a,C,X,h,tg,e,z=>we ((ae a h e).1 z)
 | .rng1 a,C,X,h,tg,e,z=>by
  have z:(aG C e "range" fun ys=>of1 ys fun y=>chk C false a y)=true:=z;obtain⟨p,as,pos,rfl,b1,b2,z3,z4⟩:=aS h z;obtain⟨y,rfl,z4⟩:=a7 z4;exact xW b1 b2 ((ae a h y).1 z4) (all1 z3)
 | .rng2 a b,C,X,h,tg,e,z=>by
  have z:(aG C e "range" fun ys=>of2 ys fun y z=>chk C false a y&&chk C false b z)=true:=z;obtain⟨p,as,pos,rfl,b1,b2,z3,z4⟩:=aS h z;obtain⟨y,u,rfl,z4⟩:=cL z4;exact wL b1 b2 ((ae a h y).1 (ab z4).1) ((ae b h u).1 (ab z4).2) (all2 z3).1 (all2 z3).2
 | .key a,C,X,h,tg,e,z=>ze ((ae a h e).1 z)
 | .enm a,C,X,h,tg,e,z=>by
  obtain⟨z0,zz⟩:=ab z;obtain⟨ts,z0⟩:=Option.isSome_iff_exists.mp z0;obtain⟨k,tp,rfl⟩:=cQ z0;obtain⟨p,as,pos,rfl,b1,b2,z3,z4⟩:=aS h zz;obtain⟨y,rfl,z4⟩:=a7 z4;exact xB b1 b2 ((ae a h y).1 z4) (all1 z3)
 | .zip a b,C,X,h,tg,e,z=>by
  obtain⟨z0,zz⟩:=ab z;obtain⟨ts,z0⟩:=Option.isSome_iff_exists.mp z0;obtain⟨k,tp,rfl⟩:=cQ z0;obtain⟨p,as,pos,rfl,b1,b2,z3,z4⟩:=aS h zz;obtain⟨y,u,rfl,z4⟩:=cL z4;exact PI'.calm (BI b1 b2 ((ae a h y).1 (ab z4).1) ((ae b h u).1 (ab z4).2) (all2 z3).1 (all2 z3).2)
end
abbrev f9:Expr->Bool
 | .ListComp _ _ _ _=>false
 | .SetComp _ _ _ _=>false
 | .DictComp _ _ _ _ _=>false
 | _=>true
abbrev sH:Expr->Bool
 | .Tuple vs _ _=>vs.all (foldedForSure 8)
 | _=>true
abbrev pJ(e:Expr):Bool:=match e with
 | .SetComp _ _ _ _=>false
 | .DictComp _ _ _ _ _=>false
 | _=>true
abbrev vw(C:CC)(x y:Str)(px py:Pos)(a b:Expr):Bool :=
 C.sc.kind == .function&&C.sc.names.lookup x == some .local&&C.sc.names.lookup y == some .local&&px.line == py.line && !(x == y)&&noStar a&&noStar b && !(foldedForSure 8 a&&foldedForSure 8 b) && !(constantsAlone 8 a&&constantsAlone 8 b)
abbrev oA(M:List Nat):RL.E->Bool
 | .var i=>M.contains i
 | _=>false
abbrev pj(C:CC):RL.Es->List Expr->Bool
 | .nil=>fun xs=>xs.isEmpty
 | .cons e es=>fun xs=>match xs with
  | x::xs=>noStar x&&chk C false e x&&pj C es xs
  | []=>false
abbrev lR:Expr->Option (Str × Pos)
 | .Name x p=>some (x,p)
 | _=>none
def kI{e:Expr}{x:Str}{p:Pos}(h:lR e=some (x,p)):e=.Name x p:=by
 cases e
 case Name=>cases h;rfl
 all_goals exact nos h
abbrev l3(C:CC)(i:Nat)(nm:Str)(e:Expr)(f:List Expr->Bool):Bool:=(fM e).any fun q=>(qa q.1).any (fun a=>l5 C i a.1&&a.2.1 == nm&&a.2.2.endLine == q.2.2.2.line)&&q.2.2.1.isEmpty&&f q.2.1
abbrev nB(C:CC)(M:List Nat)(f:Nat)(es:RL.Es)(ps ms:List Nat)(e:Expr):Bool:=(fM e).any fun q=>(cZ q.1).any (fun x=>glB C x&&C.F[f]? == some (x,ps))&&q.2.2.1.isEmpty && !q.2.1.isEmpty && !ps.isEmpty&&pj C es q.2.1&&bo es ps ms&&ms.all (fun i=>M.contains i)&&decide ms.Nodup&&decide ps.Nodup
abbrev vq(C:CC)(i:Nat)(e':RL.E)(st:Stmt):Bool:=(iT st).any fun q=>of1 q.1 fun t=>fN C i t&&pJ q.2&&chk C false e' q.2
mutual
noncomputable def tY(C:CC)(M:List Nat):RL.S->Stmt->Bool
 | .asg i e'=>fun st=>(iT st).any fun q=>of1 q.1 fun t=>fN C i t && !M.contains i&&pJ q.2&&chk C false e' q.2
 | .own i e'=>fun st=>(iT st).any fun q=>of1 q.1 fun t=>fN C i t&&M.contains i&&decide (M.count i<2)&&pJ q.2&&chk C false e' q.2
 | .unp is e'=>fun st=>(iT st).any fun q=>of1 q.1 fun t=>(gC t).any fun ts=>hG C is ts&&is.all (fun i=>!M.contains i)&&sH q.2&&chk C false e' q.2
 | .par i j a' b'=>fun st=>(iT st).any fun q=>of1 q.1 fun t=>(gC t).any fun ts=>of2 ts fun s u=>(lR s).any fun x=>(lR u).any fun y=>(gC q.2).any fun vs=>of2 vs fun a b=>nmB C i x.1&&nmB C j y.1 && !(i == j) && !M.contains i && !M.contains j&&vw C x.1 y.1 x.2 y.2 a b&&chk C false a' a&&chk C false b' b
 | .app i e'=>fun st=>(pS st).any fun e=>l3 C i "append" e fun as=>of1 as fun y=>M.contains i&&noStar y&&chk C false e' y
 | .put i k' e'=>fun st=>(iT st).any fun q=>of1 q.1 fun t=>(kc t).any fun u=>l5 C i u.1&&M.contains i&&iN u.2&&f9 q.2&&chk C false k' u.2&&chk C false e' q.2
 | .ife c' a' b'=>fun st=>(wIf st).any fun q=>chk C true c' q.1&&cG C M a' q.2.1&&cG C M b' q.2.2
 | .forr tg it b'=>fun st=>(zS st).any fun q=>q.2.2.2.isEmpty&&lG C it q.1 q.2.1&&iQ C tg q.1&&gx q.2.1&&RL.pb M it&&tg.all (fun i=>!M.contains i)&&cG C M b' q.2.2.1
 | .mexc f es ps ms=>fun st=>(pS st).any fun e=>nB C M f es ps ms e
 | .ret e'=>fun st=>(AK st).any fun o=>o.any fun e=>chk C false e' e
 | .exc e'=>fun st=>(pS st).any fun e=>f9 e&&chk C false e' e
 | .ifp i e' a' b'=>fun st=>(wIf st).any fun q=>(jN q.1).any fun u=>of1 u.2.1 fun op=>of1 u.2.2 fun e=>op == .NotEq&&M.contains i&&chk C false e' e&&cG C M a' q.2.1&&cG C M b' q.2.2&&l3 C i "pop" u.1 fun as=>as.isEmpty
 | .whil c' b'=>fun st=>(yB st).any fun q=>q.2.2.isEmpty&&chk C true c' q.1&&cG C M b' q.2.1
 | .rais _ _=>fun _=>true
noncomputable def cG(C:CC)(M:List Nat):RL.Ss->List Stmt->Bool
 | .nil=>fun xs=>xs.isEmpty
 | .cons s r=>fun xs=>match xs with
  | x::xs=>tY C M s x&&cG C M r xs
  | []=>false
 | .opn j e' r=>fun xs=>match xs with
  | x::xs=>vq C j e' x && !M.contains j&&jr C M (j::M) r xs
  | []=>false
noncomputable def jr(C:CC)(M:List Nat)(N:List Nat):RL.Sq->List Stmt->Bool
 | .cls r=>fun xs=>cG C M r xs
 | .cons s r=>fun xs=>match xs with
  | x::xs=>tY C N s x&&jr C M N r xs
  | []=>false
 | .opn j e' r=>fun xs=>match xs with
  | x::xs=>vq C j e' x&&decide (M.count j<2)&&jr C M (j::N) r xs
  | []=>false
 | .frz j r=>fun xs=>cG C M r xs&&(!M.contains j&&decide (N=j::M))
 | .fz j r=>fun xs=>jr C M N.tail r xs&&(!N.tail.contains j && !M.contains j&&decide (N=j::N.tail))
end
structure YOk(C:CC)(X:Cx)(cl:RL.Cl):Prop extends XOk C X cl where
 fn:∀ x,X.fn x=true
section
variable{C:CC}{X:Cx}{cl:RL.Cl}{M:List Nat}{st:Stmt}{e:Expr}{e' k':RL.E}{i:Nat}
def dP{t:Option Expr}{l:Nat}{env:Env}(h:f9 e=true):swapsWith e t l env=pure false:=by
 cases e<;>first | rfl | (cases h;done)
def qf{t:Expr}{spos:Pos}(h:YOk C X cl)(hn:fN C i t=true)(ha:pJ e=true)(hc:chk C false e' e=true):SA X cl (.Assign [t] e spos) i e':=by
 obtain⟨y,py,rfl,hN,hl⟩:=iE h.toXOk hn
 have plain:swapsWith e (some (.Name y py)) spos.line X.env=pure false->SA X cl (.Assign [.Name y py] e spos) i e':=fun z =>
  tP h.ndX hN hl ((ae e' h.toXOk e).1 hc) (.inl (h.fn y)) z trivial
 by_cases hcomp:f9 e=true
 ·exact plain (dP hcomp)
 ·have:∃ elt gens scope p,e=.ListComp elt gens scope p:=by
   cases e<;>first | exact absurd rfl hcomp | exact Bool.noConfusion ha | exact⟨_,_,_,_,rfl⟩
  obtain⟨elt,gens,scope,p,rfl⟩:=this;have hsw:swapsWith (.ListComp elt gens scope p) (some (.Name y py)) spos.line X.env=pure (X.env.blockKind == .function&&X.env.kindOf y == some .local&&py.line == p.line && !(scope.names.any fun(n,k)=>n == y&&(k == .local || k == .cell))):=rfl;by_cases hb:(X.env.blockKind == .function&&X.env.kindOf y == some .local&&py.line == p.line && !(scope.names.any fun(n,k)=>n == y&&(k == .local || k == .cell)))=true
  ·have hy:X.env.scope.names.lookup y=some .local:=by
    obtain⟨q,_⟩:=ab (ab hb).1;have q2:=(ab q).2;rw[beq_iff_eq]at q2;exact q2
   rw[hb]at hsw;by_cases hk:∃ d tg it c,e'=.comp d tg it c
   ·obtain⟨d,tg,it,c,rfl⟩:=hk;obtain⟨⟨tgE,iter,ifs,asy⟩,y1,z⟩:=a7 hc;have y1:gens=[⟨tgE,iter,ifs,asy⟩]:=y1;obtain⟨w,y2,z⟩:=a7 z;have y2:ifs=[w]:=y2;obtain⟨z,z8⟩:=ab z;obtain⟨z,z7⟩:=ab z;obtain⟨z,z6⟩:=ab z;obtain⟨z,z5⟩:=ab z;obtain⟨z,z4⟩:=ab z;obtain⟨z,z3⟩:=ab z;obtain⟨z,z2⟩:=ab z;obtain⟨z0,z1⟩:=ab z;rw[beq_iff_eq]at z0;have w0:asy=0:=z0;subst y1 w0;subst y2;refine tV h.calm h.ndX hN hy (by rw[h.scope];exact iy z1) (cX it h.toXOk _ _ z6) ?_ (bS z3 _) hsw;exact⟨fun cls Ca fp s H=>fj h.toXOk z5 z4,fun cls Ca fp s H pins s' σ H' Q I q=>k6 ((ae c (h.toXOk.blk cls Ca fp s H) _).2 z8).1 I q,fun cls Ca fp s H=>(ae d (h.toXOk.blk cls Ca fp s H) _).1 z7,fun i x hx hl=>cM z2 i x (by rw[<-h.names];exact hx) hl⟩
   ·by_cases hk2:∃ d tg it,e'=.compA d tg it
    ·obtain⟨d,tg,it,rfl⟩:=hk2;obtain⟨⟨tgE,iter,ifs,asy⟩,y1,z⟩:=a7 hc;have y1:gens=[⟨tgE,iter,ifs,asy⟩]:=y1;obtain⟨z,z7⟩:=ab z;obtain⟨z,z6⟩:=ab z;obtain⟨z,z5⟩:=ab z;obtain⟨z,z4⟩:=ab z;obtain⟨z,z3⟩:=ab z;obtain⟨z,z2⟩:=ab z;obtain⟨z,z1⟩:=ab z;obtain⟨y2,z0⟩:=ab z;rw[beq_iff_eq]at z0;have w0:asy=0:=z0
     have w2:ifs=[]:=by rw[List.isEmpty_iff]at y2;exact y2
     subst y1 w0;subst w2;refine uM h.calm h.ndX hN hy (by rw[h.scope];exact iy z1) (cX it h.toXOk _ _ z6) ?_ (bS z3 _) hsw;exact⟨fun cls Ca fp s H=>fj h.toXOk z5 z4,fun cls Ca fp s H pins s' σ H' Q I q=>eQ I q,fun cls Ca fp s H=>(ae d (h.toXOk.blk cls Ca fp s H) _).1 z7,fun i x hx hl=>cM z2 i x (by rw[<-h.names];exact hx) hl⟩
    ·by_cases hk3:∃ d tg it,e'=.compL d tg it
     ·obtain⟨d,tg,it,rfl⟩:=hk3;obtain⟨⟨tgE,iter,ifs,asy⟩,y1,z⟩:=a7 hc;have y1:gens=[⟨tgE,iter,ifs,asy⟩]:=y1;obtain⟨z,z7⟩:=ab z;obtain⟨z,z6⟩:=ab z;obtain⟨z,z5⟩:=ab z;obtain⟨z,z4⟩:=ab z;obtain⟨z,z3⟩:=ab z;obtain⟨z,z2⟩:=ab z;obtain⟨z,z1⟩:=ab z;obtain⟨y2,z0⟩:=ab z;rw[beq_iff_eq]at z0;have w0:asy=0:=z0
      have w2:ifs=[]:=by rw[List.isEmpty_iff]at y2;exact y2
      subst y1 w0;subst w2;refine tM h.calm h.ndX hN hy (by rw[h.scope];exact iy z1) (cX it h.toXOk _ _ z6) ?_ (bS z3 _) hsw;exact⟨fun cls Ca fp s H=>fj h.toXOk z5 z4,fun cls Ca fp s H pins s' σ H' Q I q=>eQ I q,fun cls Ca fp s H=>(ae d (h.toXOk.blk cls Ca fp s H) _).1 z7,fun i x hx hl=>cM z2 i x (by rw[<-h.names];exact hx) hl⟩
     ·cases e'<;>first | exact Bool.noConfusion hc | exact absurd ⟨_,_,_,_,rfl⟩ hk | exact absurd ⟨_,_,_,rfl⟩ hk2 | exact absurd ⟨_,_,_,rfl⟩ hk3 | (rename_i b a;cases b<;>exact Bool.noConfusion hc)
  ·have hb':=Bool.not_eq_true _▸hb;rw[hb']at hsw;exact plain hsw
def sE{st:Stmt}(h:YOk C X cl)(z:vq C i e' st=true):SA X cl st i e':=by
 obtain⟨⟨ts,e⟩,z0,z⟩:=aj z;obtain⟨p,rfl⟩:=dB z0;obtain⟨t,y1,z⟩:=a7 z;have y1:ts=[t]:=y1;obtain⟨z,z3⟩:=ab z;obtain⟨z1,z2⟩:=ab z;subst y1;exact qf h z1 z2 z3
def nD(h:XOk C X cl):∀ {es':RL.Es} {es:List Expr},pj C es' es=true->PA X es (fJ X.K cl es')/\es.all noStar=true
 | .nil,es,z=>by
  have z:es=[]:=List.isEmpty_iff.mp z;subst z;exact⟨cB,rfl⟩
 | .cons _ _,[],z=>by cases z
 | .cons e' es',e::es,z=>by
  obtain⟨z,z3⟩:=ab z;obtain⟨z1,z2⟩:=ab z;obtain⟨q1,q2⟩:=nD h z3;refine⟨?_,by rw[List.all_cons,z1,q2];rfl⟩;rw[fJ];refine b9 ?_ q1 (ay es z1);by_cases hv:∃ j,e'=.var j
  ·obtain⟨j,rfl⟩:=hv;obtain⟨x,p,rfl,g1,g2,g3,g4⟩:=fy h z2;exact fg g1 g2 g3 g4
  ·have ht:lN X.K cl e'=tE X.K cl e':=by
    cases e'<;>first | rfl | exact absurd ⟨_,rfl⟩ hv
   rw[ht];exact(ae _ h e).1 z2
def nS{is:List Nat}(h:is.all (fun i=>!M.contains i)=true):∀ i∈is,M.contains i=false:=fun i hi=>by
 rw[List.all_eq_true]at h;simpa using h i hi
def AL{is:List Nat}(h:is.all (fun i=>M.contains i)=true):∀ i∈is,M.contains i=true:=fun i hi=>by
 rw[List.all_eq_true]at h;exact h i hi
def dY{b:Bool}(h:(!b)=true):b=false:=by simpa using h
def uQ{f:Nat}{ps ms:List Nat}{es:RL.Es}(h:XOk C X cl)(z:nB C M f es ps ms e=true):PE X e (l6 (spM X.K cl ps f) [] E0 (fJ X.K cl es))/\bo es ps ms=true/\(∀ i∈ms,M.contains i=true)/\ms.Nodup/\ps.Nodup/\f9 e=true:=by
 unfold nB at z;obtain⟨⟨g,as,ks,pos⟩,z0,z⟩:=aj z;have e0:=dI z0;obtain⟨z,z9⟩:=ab z;obtain⟨z,z8⟩:=ab z;obtain⟨z,z7⟩:=ab z;obtain⟨z,z6⟩:=ab z;obtain⟨z,z5⟩:=ab z;obtain⟨z,z4⟩:=ab z;obtain⟨z,z3⟩:=ab z;obtain⟨z1,z2⟩:=ab z;obtain⟨x,y0,z1⟩:=aj z1;obtain⟨p,e1⟩:=bT y0;have e1:g=.Name x p:=e1;obtain⟨y1,y2⟩:=ab z1;rw[beq_iff_eq]at y2
 have w2:ks=[]:=by rw[List.isEmpty_iff]at z2;exact z2
 rw[e1,w2]at e0;subst e0;refine⟨?_,z6,AL z7,by simpa using z8,by simpa using z9,rfl⟩;obtain⟨k,fa,fd,pn,F,hr,hm,hk,hb⟩:=h.fns f x ps y2;rw[if_neg (fun z=>by subst z;cases z4)]at F;obtain⟨q1,q2⟩:=nD h z5;obtain⟨g1,g2⟩:=h.gl y1
 cases as with
 | nil=>cases z3
 |cons y ys=>
  rw[List.all_cons]at q2;exact nR F hr g1 hm hk hb .nil vH q1 (cJ g2).1 (ay ys (ab q2).1) (fU (ab q2).2)
def oI{nm:Str}{f:List Expr->Bool}(h:XOk C X cl)(z:l3 C i nm e f=true):∃ x p apos as pos,e=.Call (.Attribute (.Name x p) nm apos) as [] pos/\X.N[i]?=some x/\Vis X.env.scope x/\(x == ("__debug__" : Str))=false/\(x == ("__classdict__" : Str))=false/\(apos.endLine == pos.line)=true/\f as=true:=by
 unfold l3 at z;obtain⟨⟨g,as,ks,pos⟩,z0,z⟩:=aj z;have e0:=dI z0;obtain⟨z,z3⟩:=ab z;obtain⟨z1,z2⟩:=ab z;obtain⟨⟨o,a,apos⟩,y0,z1⟩:=aj z1;have e1:=nG y0;have e1:g=.Attribute o a apos:=e1;obtain⟨z1,y3⟩:=ab z1;obtain⟨y1,y2⟩:=ab z1;rw[beq_iff_eq]at y2;have y2:a=nm:=y2
 have w2:ks=[]:=by rw[List.isEmpty_iff]at z2;exact z2
 obtain⟨x,p,e2,g1,g2,g3,g4⟩:=fy h y1;have e2:o=.Name x p:=e2;rw[e1,w2,y2,e2]at e0;exact⟨x,p,apos,as,pos,e0,g1,g2,g3,g4,y3,z3⟩
def yc(h1:PS X st (lT (tE X.K cl e') (uY (gN i) (tE X.K cl k') pG)))(h2:PS X st (pI (gN i) (tE X.K cl k') (tE X.K cl e')))(hi:M.contains i=true):SS X cl M st (.put i k' e'):=by
 have a1:=zY h1 hi trivial;have a2:=xD h2 hi;intro pins s σ H D I h;obtain⟨σD,o,σD',rv,e,k⟩:=h;obtain⟨d,e1,e⟩:=bind_some e;obtain⟨kk,e2,e⟩:=bind_some e;obtain⟨l,e3,e⟩:=bind_some e
 cases l with
 | lst ds=>exact a1 pins s σ H D I ⟨σD,o,σD',rv,by dsimp only;rw[e1];dsimp only[Option.bind_some];rw[e2];dsimp only[Option.bind_some];rw[e3];exact e,k⟩
 | _=>exact a2 pins s σ H D I ⟨σD,o,σD',rv,by dsimp only;rw[e1];dsimp only[Option.bind_some];rw[e2];dsimp only[Option.bind_some];rw[e3];exact e,k⟩
def qj{o k:Expr}{pos:Pos}{env:Env}(h:iN k=true)(v:Value):assign (.Subscript o k pos) env v=(do
   let ov <- holding [v] (eval o env)
   let iv <- holding [v,ov] (eval k env)
   standAt pos
   holding [v,ov,iv] (setItem ov iv v)
   release [v,ov,iv] []):=by
 cases k<;>first | rfl | (cases h;done)
def q0{us:List Expr}{kk:Nat}{tp:Pos}{env:Env}(h:sH e=true):swappedStores [.Tuple us kk tp] e env=pure none:=by
 cases e with
 |Tuple vs k p=>
  have h:vs.all (foldedForSure 8)=true:=h;unfold swappedStores;dsimp only;split
  ·rfl
  ·split
   ·rfl
   ·split
    ·rfl
    ·first | rfl | (rw[if_pos h];rfl)
 | _=>rfl
def A0{x y:Str}{px py pt pt2:Pos}{kt k2:Nat}{a b:Expr}(h:XOk C X cl)(hp:vw C x y px py a b=true):swappedStores [.Tuple [.Name x px,.Name y py] kt pt] (.Tuple [a,b] k2 pt2) X.env=pure (some [x,y]) /\
  X.env.scope.names.lookup x=some .local/\X.env.scope.names.lookup y=some .local/\noStar a=true/\noStar b=true:=by
 unfold vw at hp;obtain⟨hp,h9⟩:=ab hp;obtain⟨hp,h8⟩:=ab hp;obtain⟨hp,h7⟩:=ab hp;obtain⟨hp,h6⟩:=ab hp;obtain⟨hp,h5⟩:=ab hp;obtain⟨hp,h4⟩:=ab hp;obtain⟨hp,h3⟩:=ab hp;obtain⟨h1,h2⟩:=ab hp;rw[beq_iff_eq]at h1 h2 h3 h4;rw[<-h.scope]at h1 h2 h3;refine⟨?_,h2,h3,h6,h7⟩
 have bk:X.env.blockKind=.function:=by
  unfold Env.blockKind;rw[h1];rfl
 have k1:X.env.kindOf x=some .local:=h2;have k2:X.env.kindOf y=some .local:=h3
 have hxy:x≠y:=by simpa using h5
 have fs':foldedForSure 8 a=true->foldedForSure 8 b=false:=fun z=>by simpa[z]using h8
 have ca':constantsAlone 8 a=true->constantsAlone 8 b=false:=fun z=>by simpa[z]using h9
 have ed:[x,y].eraseDups=[x,y]:=by
  rw[List.eraseDups_cons];simp[Ne.symm hxy];rfl
 unfold swappedStores;simp only[bk];simp[show ∀ (x:Str) (p:Pos),(Expr.Name x p).pos=p from fun _ _=>rfl,k1,k2,h4,ed];refine(if_neg ?_).trans ((if_neg ?_).trans (if_neg ?_))
 ·intro hh;rcases hh with hh | hh
  ·cases a<;>first | exact Bool.noConfusion (show false=true from hh) | exact Bool.noConfusion (show false=true from h6)
  ·cases b<;>first | exact Bool.noConfusion (show false=true from hh) | exact Bool.noConfusion (show false=true from h7)
 ·intro hh;have:=fs' hh.1;rw[hh.2]at this;cases this
 ·intro hh;have:=ca' hh.1;rw[hh.2]at this;cases this
end
section
variable{X:Cx}{cl:RL.Cl}
mutual
theorem oY:∀ (s:RL.S) {C:CC} {M:List Nat} (h:YOk C X cl) (st:Stmt),tY C M s st=true->SS X cl M st s
 | .asg i e',C,M,h,st,z=>by
  obtain⟨⟨ts,e⟩,z0,z⟩:=aj z;obtain⟨p,rfl⟩:=dB z0;obtain⟨t,y1,z⟩:=a7 z;have y1:ts=[t]:=y1;obtain⟨z,z4⟩:=ab z;obtain⟨z,z3⟩:=ab z;obtain⟨z1,z2⟩:=ab z;subst y1;exact yi (qf h z1 z3 z4) (dY z2)
 | .own i e',C,M,h,st,z=>by
  obtain⟨⟨ts,e⟩,z0,z⟩:=aj z;obtain⟨p,rfl⟩:=dB z0;obtain⟨t,y1,z⟩:=a7 z;have y1:ts=[t]:=y1;obtain⟨z,z5⟩:=ab z;obtain⟨z,z4⟩:=ab z;obtain⟨z,z3⟩:=ab z;obtain⟨z1,z2⟩:=ab z;subst y1;exact BE (qf h z1 z4 z5) z2 (by simpa using z3)
 | .unp is e',C,M,h,st,z=>by
  obtain⟨⟨ts,e⟩,z0,z⟩:=aj z;obtain⟨p,rfl⟩:=dB z0;obtain⟨t,y1,z⟩:=a7 z;have y1:ts=[t]:=y1;obtain⟨us,y2,z⟩:=aj z;obtain⟨k,tp,rfl⟩:=cQ y2;obtain⟨z,z4⟩:=ab z;obtain⟨z,z3⟩:=ab z;obtain⟨z1,z2⟩:=ab z;subst y1;obtain⟨g1,g2,g3⟩:=kd h.toXOk (T:=is) (fun i x _ _=>.inl (h.fn x)) (fun _ h=>h) z1;refine xa (qY ((ae e' h.toXOk e).1 z4) (qZ (se h.calm g1 g2 g3) (sU h.calm g1 g2 g3)) ?_ (q0 z3) rfl) (nS z2);cases e<;>rfl
 | .par i j a' b',C,M,h,st,z=>by
  obtain⟨⟨ts,e⟩,z0,z⟩:=aj z;obtain⟨p,rfl⟩:=dB z0;obtain⟨t,y1,z⟩:=a7 z;have y1:ts=[t]:=y1;obtain⟨us,y2,z⟩:=aj z;obtain⟨k,tp,e2⟩:=cQ y2;obtain⟨s1,s2,y3,z⟩:=cL z;obtain⟨⟨x,px⟩,y4,z⟩:=aj z;obtain⟨⟨y,py⟩,y5,z⟩:=aj z;obtain⟨vs,y6,z⟩:=aj z;obtain⟨k',tp',e6⟩:=cQ y6;have e6:e=.Tuple vs k' tp':=e6;obtain⟨a,b,y7,w⟩:=cL z;rw[kI y4,kI y5]at y3;rw[y3]at e2
  have e7:e=.Tuple [a,b] k' tp':=by rw[<-y7];exact e6
  rw[e2]at y1;subst y1 e7;obtain⟨w,z8⟩:=ab w;obtain⟨w,z7⟩:=ab w;obtain⟨w,z6⟩:=ab w;obtain⟨w,z5⟩:=ab w;obtain⟨w,z4⟩:=ab w;obtain⟨w,z3⟩:=ab w;obtain⟨z1,z2⟩:=ab w;obtain⟨g1,g2,g3,g4,g5⟩:=A0 h.toXOk z6;exact A5 (ym h.calm h.ndX (h.nm z1).1 (h.nm z2).1 (by simpa using z3) g2 g3 (aR (cl:=cl) ((ae a' h.toXOk a).1 z7) (aR ((ae b' h.toXOk b).1 z8) bp g5) g4) g1 rfl) (dY z4) (dY z5)
 | .app i e',C,M,h,st,z=>by
  obtain⟨e,z0,z8⟩:=aj z;obtain⟨p0,rfl⟩:=kh z0;obtain⟨x,p,apos,as,pos,rfl,g1,g2,g3,g4,z6,z7⟩:=oI h.toXOk z8;obtain⟨y,rfl,z9⟩:=a7 z7;obtain⟨z9,z7⟩:=ab z9;obtain⟨z4,z5⟩:=ab z9;refine B0 (jL (BY PySem.F.plainAttrs_list PySem.F.slot_list_append PySem.F.type_list_append ku (fg g1 g2 g3 g4) (aR (cl:=cl) ((ae e' h.toXOk y).1 z7) bp z5) rfl ?_ z6 (ay [] z5) rfl) rfl) z4;rw[ay [] z5];rfl
 | .put i k' e',C,M,h,st,z=>by
  obtain⟨⟨ts,e⟩,z0,z⟩:=aj z;obtain⟨p,rfl⟩:=dB z0;obtain⟨t,y1,z⟩:=a7 z;have y1:ts=[t]:=y1;obtain⟨⟨o,k⟩,y2,z⟩:=aj z;obtain⟨sp,e2⟩:=fA y2;obtain⟨z,z7⟩:=ab z;obtain⟨z,z6⟩:=ab z;obtain⟨z,z5⟩:=ab z;obtain⟨z,z4⟩:=ab z;obtain⟨z1,z3⟩:=ab z;obtain⟨x,px,e3,g1,g2,g3,g4⟩:=fy h.toXOk z1;have e3:o=.Name x px:=e3;rw[e3]at e2;rw[e2]at y1;subst y1;have pv:=fun pos=>fg (X:=X) (pos:=pos) g1 g2 g3 g4;refine yc (qY ((ae e' h.toXOk e).1 z7) (yK (pv _) ((ae k' h.toXOk k).1 z6) set_list (qj z4)) ?_ ?_ rfl) (wo (Nat.lt_of_le_of_lt (by lia) h.hu) (pv _) ((ae k' h.toXOk k).1 z6) ((ae e' h.toXOk e).1 z7) (dP z5)) z3
  ·unfold swapsWithSole;exact dP z5
  ·rfl
 | .ife c' a' b',C,M,h,st,z=>by
  obtain⟨⟨c,a,b⟩,z0,z⟩:=aj z;obtain⟨p,rfl⟩:=qJ z0;obtain⟨z,z3⟩:=ab z;obtain⟨z1,z2⟩:=ab z;exact Cy ((ae c' h.toXOk c).2 z1).1 (bz a' h a z2) (bz b' h b z3)
 | .forr tg it b',C,M,h,st,z=>by
  obtain⟨⟨t,it',b,o⟩,z0,z⟩:=aj z;obtain⟨p,rfl⟩:=xv z0;obtain⟨z,z7⟩:=ab z;obtain⟨z,z6⟩:=ab z;obtain⟨z,z5⟩:=ab z;obtain⟨z,z4⟩:=ab z;obtain⟨z,z3⟩:=ab z;obtain⟨z1,z2⟩:=ab z;have z1:o=[]:=List.isEmpty_iff.mp z1;subst z1;exact AO h.xe h.calm (cX it h.toXOk t it' z2) (sP h.toXOk (fun i x _ _=>.inl (h.fn x)) z3) (bz b' h b z7) (bS z4 _) z5 (nS z6)
 | .mexc f es ps ms,C,M,h,st,z=>by
  obtain⟨e,z0,z⟩:=aj z;obtain⟨p0,rfl⟩:=kh z0;obtain⟨g1,g2,g3,g4,g5,g6⟩:=uQ h.toXOk z;exact xl (jL g1 (dP g6)) g2 g3 g4 g5
 | .ret e',C,M,h,st,z=>by
  obtain⟨o,z0,z⟩:=aj z;obtain⟨p,rfl⟩:=wY z0;obtain⟨e,rfl,zz⟩:=aj z;by_cases hv:oA M e'=true
  ·have:∃ i,e'=.var i:=by
    cases e'<;>first | exact⟨_,rfl⟩ | exact Bool.noConfusion hv
   obtain⟨i,rfl⟩:=this;obtain⟨x,q,rfl,g1,g2,g3,g4⟩:=fy h.toXOk zz;exact xy g1 g2 g3 g4 hv
  ·exact AB ((ae e' h.toXOk e).1 zz) fun i hi=>by
    subst hi;simpa[oA]using hv
 | .exc e',C,M,h,st,z=>by
  obtain⟨e,z0,z⟩:=aj z;obtain⟨p0,rfl⟩:=kh z0;obtain⟨z1,z2⟩:=ab z;exact y9 (jL ((ae e' h.toXOk e).1 z2) (dP z1))
 | .ifp i e' a' b',C,M,h,st,z=>by
  obtain⟨⟨c,a,b⟩,z0,z⟩:=aj z;obtain⟨p,rfl⟩:=qJ z0;obtain⟨⟨l,os,rs⟩,z0,z⟩:=aj z;obtain⟨cp,ec⟩:=fc z0;have ec:c=.Compare l os rs cp:=ec;obtain⟨op,y1,z⟩:=a7 z;obtain⟨e,y2,z⟩:=a7 z;have y1:os=[op]:=y1;have y2:rs=[e]:=y2;obtain⟨z,z6⟩:=ab z;obtain⟨z,z5⟩:=ab z;obtain⟨z,z4⟩:=ab z;obtain⟨z,z3⟩:=ab z;obtain⟨z1,z2⟩:=ab z;rw[beq_iff_eq]at z1;obtain⟨x,px,apos,as,pos,e2,g1,g2,g3,g4,z7,z8⟩:=oI h.toXOk z6;have e2:l=.Call (.Attribute (.Name x px) "pop" apos) as [] pos:=e2;have z8:as=[]:=List.isEmpty_iff.mp z8;rw[z8]at e2;rw[y1,y2,z1,e2]at ec;subst ec;exact B7 (Ah PySem.F.plainAttrs_list PySem.F.slot_list_pop PySem.F.type_list_pop AQ (fg g1 g2 g3 g4) rfl z7) ((ae e' h.toXOk e).1 z3) (bz a' h a z4) (bz b' h b z5) z2
 | .whil c' b',C,M,h,st,z=>by
  obtain⟨⟨c,b,o⟩,z0,z⟩:=aj z;obtain⟨p,rfl⟩:=wU z0;obtain⟨z,z3⟩:=ab z;obtain⟨z1,z2⟩:=ab z;have z1:o=[]:=List.isEmpty_iff.mp z1;subst z1;exact ue h.xe ((ae c' h.toXOk c).2 z2).1 (bz b' h b z3)
 | .rais _ _,C,M,h,st,z=>fun pins s σ H D I ⟨σD,r,σD',_,e,_⟩=>by
  rw[RL.evS]at e;cases e
theorem bz:∀ (s:RL.Ss) {C:CC} {M:List Nat} (h:YOk C X cl) (st:List Stmt),cG C M s st=true->SSs X cl M st s
 | .nil,C,M,h,st,z=>by
  have z:st=[]:=List.isEmpty_iff.mp z;subst z;exact xo
 | .cons s r,C,M,h,st,z=>by
  cases st with
  | nil=>cases z
  |cons x xs=>
   obtain⟨z1,z2⟩:=ab z;exact u6 (oY s h x z1) (bz r h xs z2)
 | .opn j e' r,C,M,h,st,z=>by
  cases st with
  | nil=>cases z
  |cons x xs=>
   obtain⟨z,z3⟩:=ab z;obtain⟨z1,z2⟩:=ab z;exact x8 (sE h z1) (dY z2) (fV r h xs z3 (fun _=>b0) fun k hk=>Nat.le_trans hk (List.count_le_count_cons ..))
theorem fV:∀ (s:RL.Sq) {C:CC} {M N:List Nat} (h:YOk C X cl) (st:List Stmt),jr C M N s st=true->(∀ i,M.contains i=true->N.contains i=true)->(∀ j,2<=M.count j->2<=N.count j)->SQ X cl M N st s
 | .cls r,C,M,N,h,st,z,hs,hc=>Ag (bz r h st z) hs
 | .cons s r,C,M,N,h,st,z,hs,hc=>by
  cases st with
  | nil=>cases z
  |cons x xs=>
   obtain⟨z1,z2⟩:=ab z;exact xK (oY s h x z1) (fV r h xs z2 hs hc) hc
 | .opn j e' r,C,M,N,h,st,z,hs,hc=>by
  cases st with
  | nil=>cases z
  |cons x xs=>
   obtain⟨z,z3⟩:=ab z;obtain⟨z1,z2⟩:=ab z;exact zK (sE h z1) (by simpa using z2) (fV r h xs z3 (fun i hi=>b0 (hs i hi)) fun k hk=>Nat.le_trans (hc k hk) (List.count_le_count_cons ..))
 | .frz j r,C,M,N,h,st,z,hs,hc=>by
  obtain⟨z1,z⟩:=ab z;obtain⟨z2,z3⟩:=ab z
  have e:N=j::M:=by simpa using z3
  subst e;exact AE (bz r h st z1) (dY z2)
 | .fz j r,C,M,N,h,st,z,hs,hc=>by
  obtain⟨z1,z⟩:=ab z;obtain⟨z,z3⟩:=ab z;obtain⟨z2,z4⟩:=ab z
  have e:N=j::N.tail:=by simpa using z3
  have z4:=dY z4;generalize N.tail=N' at *;subst e;refine BQ (fV r h st z1 (fun i hi=>?_) fun i hi=>?_) (dY z2)
  ·exact(bV (hs i hi)).resolve_left fun q=>by subst q;rw[z4]at hi;cases hi
  ·have:=hc i hi;rw[List.count_cons]at this;split at this
   ·rename_i q
    have q:j=i:=by simpa using q
    subst q;have:M.count j=0:=List.count_eq_zero.mpr (by simpa using z4);omega
   ·exact this
end
end
structure eR where
 name:Str
 st:Stmt
 ps:List Str
 N:List Str
structure PT' where
 B:List Str
 G:List (Str × Int)
 Ds:List eR
 T:List RL.Fn
abbrev PT'.F(p:PT'):List (Str × List Nat):=(p.Ds.zip p.T).map fun q=>(q.1.name,q.2.mp)
abbrev PT'.cc(p:PT')(d:eR):CC:=⟨d.N,bg d.st,p.B,p.G,p.F⟩
abbrev lC(N ps:List Str)(sc:Scope):Bool :=
 sc.kind == .function && !sc.isCoroutine && !sc.isGenerator&&decide N.Nodup&&N.take ps.length == ps&&ps.all (fun x=>sc.names.lookup x == some .local || sc.names.lookup x == some .cell)&&sc.names.all (fun y=>!(y.2 == .free))
abbrev fnB(p:PT')(d:eR)(fn:RL.Fn):Bool :=
 lC d.N d.ps (bg d.st)&&fn.ps == d.ps.length&&fn.nn == d.N.length&&decide (d.ps.length<=d.N.length)&&(List.range fn.ps).all (fun i=>!fn.M.contains i || fn.mp.contains i)&&fn.mp.all (fun i=>decide (i<fn.ps)&&decide (2<=fn.M.count i))&&cG (p.cc d) fn.M fn.body (cz d.st)
abbrev PT'.ok(p:PT'):Bool:=p.Ds.length == p.T.length&&(p.Ds.zip p.T).all fun q=>fnB p q.1 q.2
def v3{N ps:List Str}{sc:Scope}(h:lC N ps sc=true):gY N ps sc:=by
 unfold lC at h;obtain⟨h,h7⟩:=ab h;obtain⟨h,h6⟩:=ab h;obtain⟨h,h5⟩:=ab h;obtain⟨h,h4⟩:=ab h;obtain⟨h,h3⟩:=ab h;obtain⟨h1,h2⟩:=ab h;refine⟨by simpa using h1,by simpa using h2,by simpa using h3,by simpa using h4,by simpa using h5,fun x hx=>?_,fun y hy=>?_⟩
 ·rw[List.all_eq_true]at h6;have:=h6 x hx;rw[Bool.or_eq_true,beq_iff_eq,beq_iff_eq]at this;exact this
 ·rw[List.all_eq_true]at h7;have:=h7 y hy;intro z;rw[z]at this;simp at this
structure v9(p:PT')(K:PySem.W.Frag)(mg:Str->Option Value):Prop where
 defs:∀ (f:Nat) (d:eR),p.Ds[f]?=some d->∃ fa fd,mg d.name=some (.ref fa)/\Fun K d.name d.name d.st fa fd/\PySem.W.keepIn K (.ref fa)=true/\Binds K fd d.ps []
 blt:∀ x∈p.B,mg x=none
 glb:∀ x i,p.G.lookup x=some i->∃ u,mg x=some u/\RelV (.int i) u
section
variable{p:PT'}{K:PySem.W.Frag}{mg:Str->Option Value}{base:Heap}{P:Program}{w:World}
abbrev mX(K:PySem.W.Frag)(cl:RL.Cl)(mp:List Nat)(f:Nat):Sp:=if mp=[]then spF K cl f else spM K cl mp f
def aL{α:Type}(vs:List α)(k:Nat)(i:Nat)(v:α):(vs.map some++List.replicate k none)[i]?=some (some v)↔vs[i]?=some v:=by
 by_cases h:i<vs.length
 ·rw[List.getElem?_append_left (by simpa using h)];simp[h]
 ·rw[List.getElem?_append_right (by simpa using h)];constructor
  ·intro e;rw[List.getElem?_replicate]at e;split at e<;>cases e
  ·intro e;have:=(List.getElem?_eq_some_iff.mp e).1;lia
def xG{ds:List RL.D}{vs:List V}{H:Hp}{M:List Nat}{k n:Nat}(r:aa nP K H ds vs)(hM:∀ i,i<n->M.contains i=false)(hn:ds.length=n):RVm K M (ds.map some++List.replicate k none) (vs.map some++List.replicate k none) H:=by
 have nA:∀ a,¬ aE M (vs.map some++List.replicate k none) a:=fun a ⟨i,hi,e⟩=>by
  rw[aL]at e;have:=(List.getElem?_eq_some_iff.mp e).1;rw[hM i (by rw[<-hn,r.length];exact this)]at hi;cases hi
 refine⟨by simp[r.length],fun i d e=>?_,fun i v e=>?_,fun i j a hi hj e1 e2=>(nA a ⟨i,hi,e1⟩).elim⟩
 ·rw[aL]at e;obtain⟨v,h1,h2⟩:=r.get e;have hl:=(List.getElem?_eq_some_iff.mp e).1;refine⟨v,(aL _ _ _ _).mpr h1,?_⟩;rw[if_neg (by rw[hM i (by lia)];decide)];exact h2.weak fun a ha=>nA a ha
 ·rw[aL]at e;have hl:=(List.getElem?_eq_some_iff.mp e).1;exact⟨ds[i]'(by rw[r.length];exact hl),(aL _ _ _ _).mpr (by simp)⟩
def xk{ds:List RL.D}{vs:List V}{H:Hp}{M mp:List Nat}{k n:Nat}(a:zH K mp ds vs H)(hM:∀ i,i<n->M.contains i=true->i∈mp)(hp:∀ i∈mp,M.contains i=true)(hn:ds.length=n):RVm K M (ds.map some++List.replicate k none) (vs.map some++List.replicate k none) H:=by
 have r:=a.gH
 have inM:∀ i v,(vs.map some++List.replicate k none)[i]?=some (some v)->M.contains i=true->i∈mp/\vs[i]?=some v:=fun i v e hi=>by
  rw[aL]at e;have:=(List.getElem?_eq_some_iff.mp e).1;exact⟨hM i (by rw[<-hn,r.length];exact this) hi,e⟩
 refine⟨by simp[r.length],fun i d e=>?_,fun i v e=>?_,fun i j b hi hj e1 e2=>?_⟩
 ·rw[aL]at e;obtain⟨v,h1,h2⟩:=r.get e;have hl:=(List.getElem?_eq_some_iff.mp e).1;refine⟨v,(aL _ _ _ _).mpr h1,?_⟩;by_cases hm:M.contains i=true
  ·rw[if_pos hm];obtain⟨d',b,g1,g2,g3⟩:=a.own i (hM i (by lia) hm);rw[e]at g1;cases g1;rw[h1]at g2;cases g2;exact g3
  ·rw[if_neg hm];refine(a.oth i d v (fun z=>hm (hp i z)) e h1).weak fun b ⟨j,hj,ej⟩=>?_;obtain⟨q1,q2⟩:=inM j _ ej hj;exact⟨j,q1,q2⟩
 ·rw[aL]at e;have hl:=(List.getElem?_eq_some_iff.mp e).1;exact⟨ds[i]'(by rw[r.length];exact hl),(aL _ _ _ _).mpr (by simp)⟩
 ·obtain⟨q1,q2⟩:=inM i _ e1 hi;obtain⟨q3,q4⟩:=inM j _ e2 hj;exact a.sep i q1 j q3 b q2 q4
def mM{σ:RL.St}:∀ {mp:List Nat} {outs:List RL.D},RL.fo σ mp=some outs->outs.length=mp.length/\∀ (k i:Nat) o,mp[k]?=some i->outs[k]?=some o->σ[i]?=some (some o)
 | [],outs,h=>by
  rw[RL.fo]at h;cases h;exact⟨rfl,fun k i o e=>by simp at e⟩
 | m::mp,outs,h=>by
  rw[RL.fo]at h;obtain⟨d,h1,h⟩:=bind_some h;obtain⟨os,h2,h3⟩:=map_some h;subst h3;obtain⟨g1,g2⟩:=mM h2;refine⟨by simp[g1],fun k i o e1 e2=>?_⟩
  cases k with
  |zero=>
   simp at e1 e2;subst e1 e2;exact slot_get h1
  | succ k=>exact g2 k i o (by simpa using e1) (by simpa using e2)
def qU{fn:RL.Fn}{d r:RL.D}{σ:RL.St}(h:RL.bE fn d σ=some r)(hm:fn.mp=[]):r=d:=by
 unfold RL.bE at h;rw[hm]at h;simpa using h.symm
def Bn{fn:RL.Fn}{d r:RL.D}{σ:RL.St}(h:RL.bE fn d σ=some r)(hm:fn.mp≠[]):d.imm=true/\∃ outs,RL.fo σ fn.mp=some outs/\r=.tup (d::outs):=by
 unfold RL.bE at h;rw[if_neg (by simpa using hm)]at h;split at h
 ·rename_i im;obtain⟨os,h1,h2⟩:=map_some h;exact⟨im,os,h1,h2.symm⟩
 ·cases h
def qD(hok:p.ok=true)(tp:v9 p K mg):∀ (n f:Nat) (d:eR) (fn:RL.Fn),p.Ds[f]?=some d->p.T[f]?=some fn->∀ fa fd,Fun K d.name d.name d.st fa fd->eT P w K mg base CX0 n fa fd d.ps (mX K (RL.aK p.T n) fn.mp f)
 | 0,f,d,fn,hd,hf,fa,fd,F=>by
  have no:∀ vs H Q E,¬ mX K (RL.aK p.T 0) fn.mp f vs H Q E:=fun vs H Q E h=>by
   unfold mX at h;split at h
   ·obtain⟨ds,r,_,e,_⟩:=h;cases e
   ·obtain⟨ds,r,o,e,_⟩:=h;cases e
  exact⟨fun vs H Q E h=>(no vs H Q E h).elim,fun A outer s H args us vs Q E _ _ _ _ h=>(no vs H Q E h).elim⟩
 | n+1,f,d,fn,hd,hf,fa,fd,F=>by
  have hok':=hok;unfold PT'.ok at hok';obtain⟨hl,hall⟩:=ab hok';rw[beq_iff_eq]at hl;rw[List.all_eq_true]at hall
  have hz:(p.Ds.zip p.T)[f]?=some (d,fn):=by
   rw[List.getElem?_zip_eq_some];exact⟨hd,hf⟩
  have hB:=hall (d,fn) (List.mem_of_getElem? hz);unfold fnB at hB;dsimp only at hB;obtain⟨hB,b7⟩:=ab hB;obtain⟨hB,b6⟩:=ab hB;obtain⟨hB,b5⟩:=ab hB;obtain⟨hB,b4⟩:=ab hB;obtain⟨hB,b3⟩:=ab hB;obtain⟨b1,b2⟩:=ab hB;rw[beq_iff_eq]at b2 b3;rw[decide_eq_true_eq]at b4;rw[List.all_eq_true]at b5 b6;have S:=v3 b1
  have hM:∀ i,i<fn.ps->fn.M.contains i=true->i∈fn.mp:=fun i hi hm=>by
   have:=b5 i (List.mem_range.mpr hi);rw[hm]at this;simpa using this
  have hp2:∀ i∈fn.mp,i<fn.ps/\2<=fn.M.count i:=fun i hi=>by simpa using b6 i hi
  have unf:∀ ds r,RL.aK p.T (n+1) f ds=some r->ds.length=fn.ps/\∃ o σ',RL.ak (RL.aK p.T n) fn.M fn.body (ds.map some++List.replicate (fn.nn-fn.ps) none)=some (o,σ')/\(match o with | .nx=>RL.bE fn .non σ' | .rt d=>RL.bE fn d σ')=some r:=by
   intro ds r h;rw[RL.aK,hf]at h;dsimp only[Option.bind_some]at h;split at h
   ·rename_i hlen;obtain⟨⟨o,σ'⟩,h1,h2⟩:=bind_some h;exact⟨hlen,o,σ',h1,h2⟩
   ·cases h
  refine Fun.ok F S (fun vs H Q E h=>?_) fun cdv A outer s H vs Q E hr h=>?_
  ·unfold mX at h;split at h
   ·obtain⟨ds,r,r1,e,_⟩:=h;rw[<-r1.length,(unf ds r e).1,b2]
   ·obtain⟨ds,r,o,e,a,_⟩:=h;rw[<-a.gH.length,(unf ds _ e).1,b2]
  ·-- the body's context
   have Y:YOk (p.cc d) (iR CX0 P w K mg base d.N d.name (bg d.st) fa cdv A outer s H E).nox (RL.aK p.T n):={
    scope:=rfl
    names:=rfl
    nd:=S.nd
    calm:=rfl
    xe:=rfl
    hu:=by
     have:=hr.un;show(A.deeper _).units+100<cLine;lia
    blt:=tp.blt
    glb:=tp.glb
    fns:=fun g x mp hg=>by
     have hg':p.F[g]?=some (x,mp):=hg;unfold PT'.F at hg';rw[List.getElem?_map]at hg';obtain⟨⟨d',fn'⟩,q1,q2⟩:=map_some hg';cases q2;rw[List.getElem?_zip_eq_some]at q1;obtain⟨fa',fd',t1,t2,t3,t4⟩:=tp.defs g d' q1.1;exact⟨n,fa',fd',d'.ps,qD hok tp n g d' fn' q1.1 q1.2 fa' fd' t2,hr,t1,t3,t4⟩
    fn:=fun _=>rfl }
   have body:=bz fn.body Y (M:=fn.M) _ b7;refine⟨_,body,?_⟩;have hst:start d.N vs=vs.map some++List.replicate (d.N.length-vs.length) none:=rfl;unfold mX at h;split at h
   ·rename_i hmp;obtain⟨ds,r,r1,e,k⟩:=h;obtain⟨hlen,o,σ',e1,e2⟩:=unf ds r e
    have hvl:vs.length=fn.ps:=by rw[<-r1.length];exact hlen
    refine⟨_,o,σ',?_,e1,?_⟩
    ·rw[hst,hvl,<-b3]
     exact xG r1 (fun i hi=>by
      cases hc:fn.M.contains i with
      | false=>rfl
      |true=>
       have:=hM i hi hc;rw[hmp]at this
       cases this) hlen
    ·have noA:∀ a,¬ aE fn.M (start d.N vs) a:=fun a ⟨i,hi,ei⟩=>by
      rw[hst,aL]at ei;have h3:=(List.getElem?_eq_some_iff.mp ei).1;have:=hM i (by lia) hi;rw[hmp]at this;cases this
     cases o with
     |nx=>
      have hr':=qU (d:=.non) e2 hmp;subst hr';intro σ1 H1 rv1 fr1;refine k .non H1 (fun b u eb=>(fr1.1 b u eb (noA b)).1) (by rw[Rep])
     |rt d0=>
      have hr':=qU (d:=d0) e2 hmp;subst hr';intro σ1 H1 v H' rv1 fr1 sm rp;refine k v H' (fun b u eb=>sm _ _ (fr1.1 b u eb (noA b)).1) (rp _ fun q hq=>?_);obtain⟨u,hu⟩:=Option.ne_none_iff_exists'.mp hq;have:=fr1.1 q u hu (noA q);exact⟨(by rw[this.1];exact fun z=>nomatch z),this.2⟩
   ·rename_i hmp;obtain⟨ds,r,outs,e,a,k⟩:=h;obtain⟨hlen,o,σ',e1,e2⟩:=unf ds _ e
    have hvl:vs.length=fn.ps:=by rw[<-a.gH.length];exact hlen
    refine⟨_,o,σ',?_,e1,?_⟩
    ·rw[hst,hvl,<-b3];exact xk a hM (fun i hi=>gX (hp2 i hi).2) hlen
    ·-- the lists behind it
     have fin:∀ (d0:RL.D) (σ1:L2.St) (H1 H':Hp) (v:V),RL.bE fn d0 σ'=some (.tup (r::outs))->RVm K fn.M σ' σ1 H1->Fr' fn.M (start d.N vs) H σ1 H1->ao H1 H'->(d0.imm=true->Rep nP K H' d0 v)->Q v H':=by
      intro d0 σ1 H1 H' v ht rv1 fr1 sm rp;obtain⟨im,os,g1,g2⟩:=Bn ht hmp;cases g2;obtain⟨l1,l2⟩:=mM g1;refine k v H' (fun b u nb eb=>sm _ _ (fr1.1 b u eb fun⟨i,hi,ei⟩=>?_).1) (rp im) im ⟨l1,fun kk pp oo hk ho=>?_⟩
      ·rw[hst,aL]at ei;have h3:=(List.getElem?_eq_some_iff.mp ei).1;exact nb ⟨i,hM i (by lia) hi,ei⟩
      ·have hpm:=List.mem_of_getElem? hk;obtain⟨dp,ap,g3,g4,g5⟩:=a.own pp hpm;have g6:=fr1.2 pp (hp2 pp hpm).2
       have g7:(start d.N vs)[pp]?=some (some (.ref ap)):=by rw[hst,aL];exact g4
       rw[g7]at g6;obtain⟨v',g8,g9⟩:=rv1.val pp oo (l2 kk pp oo hk ho);rw[g6]at g8;cases g8;rw[if_pos (gX (hp2 pp hpm).2)]at g9;exact⟨ap,g4,g9.same sm⟩
     cases o with
     |nx=>
      intro σ1 H1 rv1 fr1
      exact fin .non σ1 H1 H1 .non e2 rv1 fr1 (ao.refl _) fun _=>by rw[Rep]
     |rt d0=>
      intro σ1 H1 v H' rv1 fr1 sm rp;exact fin d0 σ1 H1 H' v e2 rv1 fr1 sm fun im=>rp nP fun _ z=>z.elim
end
abbrev spL(n:Nat)(p:PT')(f:Nat)(K:PySem.W.Frag):Sp:=spF K (RL.aK p.T n) f
def Ar{n:Nat}{p:PT'}{f:Nat}{K:PySem.W.Frag}{H:Hp}{a:Addr}{ns:List Int}(hO:lE H)(hS:SqL K H a (ns.map V.int))(h:RL.aK p.T n f [.scr (ns.map RL.D.int)]=some (.bl true)):spL n p f K [.ref a] H (fun v _=>v=.bl true) fun _ _ _=>False:=by
 refine⟨_,_,?_,h,fun v H' _ r=>aF r⟩;refine aa.cons ?_ aa.nil;rw[Rep];refine⟨a,ns.map V.int,rfl,?_,?_⟩
 ·rcases hS with(z | ⟨o,z⟩) | z
  ·rcases hO a with q | ⟨o,xs,q⟩
   ·rw[q]at z;cases z
   ·rw[q]at z;cases z
  ·exact .inl ⟨o,z⟩
  ·exact .inr (.inr z)
 ·clear hS h
  induction ns with
  | nil=>exact aa.nil
  | cons i r ih=>exact aa.cons aA ih
end RS
namespace K26
open PySem PySem.Spec PyProof.Rows L2
abbrev top(i:Nat):Stmt:=PySem.Challenge.pw_ribbonloft_k26_whole_no_row_is_shorter.main.body.getD i (.Pass ⟨0,0,0,0⟩)
abbrev mkD(x:Str)(i n:Nat)(N:List Str):RS.eR:=⟨x,top i,N.take n,N⟩
abbrev Ds:List RS.eR:=[
 mkD "is_number" 5 1 ["value"],
 mkD "is_peg_count" 6 1 ["value"],
 mkD "is_pairing" 8 1 ["row", "place"],
 mkD "names_back" 9 2 ["row", "place", "other"],
 mkD "is_uncrossed" 10 1 ["row", "waiting", "place", "other"],
 mkD "tie" 11 3 ["row", "one", "other"],
 mkD "is_frame" 13 1 ["frame", "pegs", "alone", "peg", "other"],
 mkD "check_frame" 14 1 ["frame"],
 mkD "pegs_of" 15 1 ["frame"],
 mkD "ties" 16 1 ["frame", "peg", "other"],
 mkD "round_place" 17 2 ["pegs", "peg"],
 mkD "in_round" 18 1 ["frame", "pegs", "peg"],
 mkD "moved" 19 2 ["frame", "to", "ends", "peg", "other"],
 mkD "seams" 21 1 ["frame", "pegs", "spans", "seam", "peg", "other", "left", "right"],
 mkD "length" 22 1 ["frame"],
 mkD "shortest_row" 23 1 ["frame", "rest", "row", "beginnings"],
 mkD "firsts" 24 1 ["frame"],
 mkD "lasts" 25 1 ["frame"],
 mkD "neighbours_tied" 26 2 ["frame", "start", "number"],
 mkD "take_off" 27 2 ["frame", "number", "left", "right"],
 mkD "next_across" 28 2 ["frame", "seam", "pegs", "around", "peg"],
 mkD "_law_plain" 30 1 ["_law_pegs", "_law_peg"],
 mkD "_law_rings_by" 31 3 ["_law_high", "_law_low", "_law_inner", "_law_pegs", "_law_head", "_law_peg", "_law_other", "_law_one", "_law_keep", "_law_go"],
 mkD "_law_hung" 32 2 ["_law_high", "_law_low", "_law_pegs", "_law_near", "_law_peg", "_law_found", "_law_gone", "_law_here", "_law_turn"],
 mkD "_law_hook" 33 2 ["_law_pegs", "_law_number", "_law_found", "_law_start"],
 mkD "_law_mix" 34 1 ["_law_seed", "_law_one", "_law_two"],
 mkD "_law_raw" 35 2 ["_law_script", "_law_k", "_law_cell", "_law_found", "_law_turn"],
 mkD "_law_digits" 36 3 ["_law_script", "_law_k", "_law_sizes", "_law_rest", "_law_found", "_law_size"],
 mkD "_law_same" 37 2 ["_law_told", "_law_due", "_law_one", "_law_other"],
 mkD "_law_shortest" 38 1 ["_law_pegs", "_law_found", "_law_begins", "_law_layer", "_law_turn", "_law_later", "_law_frame", "_law_there", "_law_number", "_law_heads", "_law_line", "_law_starts"],
 mkD "law" 39 1 ["_law_script", "_law_pegs", "_law_frame", "_law_rows_of", "_law_begins", "_law_again", "_law_found"]]
abbrev p:RS.PT':=⟨["all", "bool", "enumerate", "int", "isinstance", "len", "list", "min", "range", "set", "sorted", "str", "sum", "tuple", "zip"],[("MOST_PEGS",10)],Ds,T⟩
def DJ:p.ok=true:=by decide +kernel
def all1{P:List Value->Prop}(h:∀ a0,P [a0]):∀ us:List Value,us.length=1->P us
 | [a0],_=>h a0
def all2{P:List Value->Prop}(h:∀ a0 a1,P [a0,a1]):∀ us:List Value,us.length=2->P us
 | [a0,a1],_=>h a0 a1
def DA{P:List Value->Prop}(h:∀ a0 a1 a2,P [a0,a1,a2]):∀ us:List Value,us.length=3->P us
 | [a0,a1,a2],_=>h a0 a1 a2
section
variable{K:PySem.W.Frag}{h:Heap}{mg:Str->Option Value}{x:Str}{st:Stmt}{f:Addr}{oc kV dc pm cd ct:Value}{od an:Option Addr}{sl:Array (Option Value)}{ps:List Str}
abbrev At(K:PySem.W.Frag)(mg:Str->Option Value)(x:Str)(st:Stmt)(ps:List Str):Prop:=∃ f fd,mg x=some (.ref f)/\Fun K x x st f fd/\PySem.W.keepIn K (.ref f)=true/\Binds K fd ps []
def yI(X:K.In h)(G:h.Ns mainGlobals mg)(a:PySem.W.nsIn K mainGlobals x=some (some (.ref f)))(l:K.lookup f=some ⟨oc,od,.func (PySem.W.fnOf x x (dF st) (cz st) (bg st) .none kV dc pm an cd ct),sl⟩)(c:PySem.W.codeIn K cd x=true)(k:PySem.W.keepIn K (.ref f)=true)
 (b:∀ (kV doc pm:Value) (an:Option Addr) (cdv ct:Value) (us:List Value),us.length=ps.length->bindArgs (PySem.W.fnOf x x (dF st) (cz st) (bg st) .none kV doc pm an cdv ct) ⟨us,[]⟩=pure (ps.zip us)):At K mg x st ps :=
 ⟨f,_,PySem.W.mg_of X G a,qG (st:=st) l c k,k,(qG (st:=st) l c k).binds b⟩
abbrev jI(K:PySem.W.Frag)(mg:Str->Option Value):List RS.eR->Prop
 | []=>True
 | d::r=>At K mg d.name d.st d.ps/\jI K mg r
def jI.get:∀ {l:List RS.eR} {f:Nat} {d:RS.eR},jI K mg l->l[f]?=some d->At K mg d.name d.st d.ps
 | [],_,_,_,e=>by cases e
 | _::_,0,_,h,e=>by cases e;exact h.1
 | _::_,f+1,_,h,e=>jI.get (f:=f) h.2 e
abbrev AllP(P:Str->Prop):List Str->Prop
 | []=>True
 | x::r=>P x/\AllP P r
def AllP.get{P:Str->Prop}:∀ {l:List Str},AllP P l->x∈l->P x
 | _::_,h,e=>(List.mem_cons.mp e).elim (fun z=>z▸h.1) fun z=>AllP.get h.2 z
abbrev jJ(K:PySem.W.Frag):List (Str × Int)->Prop
 | []=>True
 | q::r=>(∃ t,PySem.W.nsIn K mainGlobals q.1=some (some (.int q.2 t)))/\jJ K r
def jJ.get{i:Int}:∀ {l:List (Str × Int)},jJ K l->l.lookup x=some i->∃ t,PySem.W.nsIn K mainGlobals x=some (some (.int i t))
 | [],_,e=>by cases e
 | q::_,h,e=>by
  rw[List.lookup_cons]at e
  cases hb:x == q.1 with
  | true=>rw[hb]at e;cases e;rw[eq_of_beq hb];exact h.1
  | false=>rw[hb]at e;exact jJ.get h.2 e
structure Tp(K:PySem.W.Frag)(mg:Str->Option Value):Prop where
 t1:jI K mg Ds
 t2:AllP (fun x=>PySem.W.nsIn K mainGlobals x=some none) p.B
 t3:jJ K p.G
def zh(X:K.In h)(G:h.Ns mainGlobals mg)(A:Tp K mg):RS.v9 p K mg where
 defs:=fun f d e=>A.t1.get e
 blt:=fun x hx=>PySem.W.mg_none_of X G (A.t2.get hx)
 glb:=fun x i hx=>let ⟨t,ht⟩:=A.t3.get hx;⟨_,PySem.W.mg_of X G ht,t,rfl⟩
end
end K26
end
namespace PySem.W.Fast
local macro_rules|`(universe $x*)=>do pure (Lean.mkNullNode (<-x.mapM fun x=>`(theorem $(Lean.mkIdent (.mkSimple s!"tw{x.getId.toString.foldl (fun a c=>52*a+c.toNat-if c.toNat<97 then 65 else 71) 0}")) :True:=trivial)))
universe htttQGpKCIA CDFvvAYlfhCo BLMIfZpaMlzU BuLgjyLFEZGY CNcmWaiDbiTk BcJibYVJXzQw BnoTuKvBFiwB uIbWItAROjl BicZdLMXuRCp BqrdirlfnQBt zRCrwjdoJmZ EHpchrRUEJt lYjOzcthdKJ BeGWRYRTeONd BQgvUZvKBtXF CGkDWjVFVRWZ BqxQGnnXDfJe CWHpbzfFmOmq BYLPWHDsjypu BHjAArYobiRu BVMspEiJiQUS BZBbpMCcanVO BxzcoNsUMlAy YBykdhcJtSK BiniWvTWsyFe hxeGgTCVpEi CTscdpwKyXoS BtkjNPtTqSzn nkgBVMYVqzn BNrfBPVMuiTn jMpWhkAcmMT OVCzBxVaYbI BBBKeAgpWDcE MClLLWKKhRA dHCLxtVQTbY BOYAegouYOSc BapjwiHORrgV qIgmddTRTPJ BbduCiYiSDUF BFWhwUdhlcwF BKgXXxhJMRbZ swHjyPCkkV CJGlgnlyEGjp BOXjGrZPiaIl BXRIsqDqslhh BGEmPfqjyOZx WOqmOAjWrxh SkaIMxAeihR CDGHCPVLFKtC agWELtEMysW CKgfnzYGzvNy CCJlwpCarQWO BCXbnJXWKwna dSXWTcspQye BFzbNBgNFxza BtFPIusOXDtS BTrOHevRzDkm RPTcAAXtEhT BqSUNQxsTPyv BuPNbYFonlcH BYmJnayQiutj BSXHfElgGPAX KVyGKUbzUnb BbVeKnmMBEOP mYLhhHkUwzL cZTaodOwugn ojhQdnRvQgH CPtjHKndgJkH CLIojmiHYZhD COWLhQqPpSlD BwzGbqJXgjPr BHRkyaovXFEI CMecXdEIHOtE tWrWqKzjkkY CDHNbpuYNrpE BhazAUPdgDyQ ZypaqqwHiPc BUMAayKWUcGx BtYfmoMNYVWB BDgtxlrYaHkp BQAlvfpXrnxF BnJlwjvSOiqB BTMVDyTHKOdm BxYdkaKPwSWy pTopzVqNPuC eDQhQIbsqCi sVcDjkUTyzO QbfuUoHZDui iZFENdllTmi zbMmxJnUCNG nPaMbCHqhSy BjCYeUYSbzbf oaDrPOplFtX PYUEXPUtcIL GqCyszQawRX BBjVmoigSDXv BrvrFkNXjndY BBkSvvKJbdqU BbsSDIWKNraU lFwQSkvZJXQ KlmylLZclBI CFcnnHahfcDx BypHNxSsfkGV aXCGujHwtMt BoinOHqbRMNJ BGCrAOZlJumV PFKzzfyJVjh BrZpCAIhApWF BxfpVjIdptta tbecRDOlGym TPRLHAjUbZK CErwUeEnszfS BmfhvhprqYKG CCrFxIBnEMXC CBxZHQaaejLi BosJCvhDZhsu LmaoyVQIhuG BjRsGfjPhtsv BIBzzlJnfuHD BWPkcyLQiEqH agqZycaaQJb CSthDgaoOein CXFVFcCgAzjD UCMiFBwIrJL CWuiTvRPAPXT CSUvvZGlPZPT BPKQGmJGYvoA GXFqsVwKInE CDYVuZqDCGWY NdhGGgBugFs CPscLWHLhkao OEsSWBYfAnk sYinoZImxwg NBfZopptevE MsFicuSILDF CSlIncjwTIYR rhtEOrZnOUB jonQisJzGdN CSsgcGVhezEx BcdxMNbgtUgx BuaYVgCedjgB CPaBXlVcdrF CQwTQYcjEQMB BoUZxTntuIGa BLVbNBhMuOjW BuayKfzfTKqK jEMdWeCZoIS EqtaNXvkyIS BjqaOaZzVhqa BxKGTajdWFde CIMRokdwwfVe OCGGXiXfdnX BSYLuMSLWGiL fhWWIuYYJCb BUtWIFHGjBBQ HmtFKXNCGIU BwejzfuwqcWc QMlYWggnWnI BrPaCTfmccpg BVHbhQLmeaPo HGFGFivwEVQ CUkcNKuKyrOs CAkAtcVUqVsU ylXIfELdwcE BvzFjXDGWPCd BySEvIGJMsVR stmISIntHBx DxwfOPRJvGN NWaStGNvEZh BrerMYkFNwme BhSRGKGLRlwm ibbAUCjlgly BlpQZyaOTkxC BcnKWUvOADND CQVnjhxYDyVz BrqtLRitEXQn BtSBdPWwdXdD bkvuYLBkqRj CCXPFWjyNfTL CVEDDBtwWXL KjhXnkDooPr JXpYXTIwBk BWJOkOXkumyw SssPmyUpvfc CIvhajWqhUTc MutxPIdSRRU BgrzgKQriAyQ YWUjnoTUcUo BJHHHWggdXZV HnBkWzfbpOx BtHTHnGkmOJF BAEJdOiQvuWh BgQlEohIxwiR BTClXgXTmxFm QxNWixNPUlW BzzJqGFzGnDu CIRCywguzkvO CXKuqnvBgMnO CNHqrAoWWWeC CIJfoEXQLFuz CJoImndhkrAL zmFzTtqerOz BpINEdYqakyz sZpkntrAbFn MvXhnJUtlAL CPpAjTiBjJlH CGEhBuGMzabf BtbrAPtZQVZX jXHkNmWParg BEuuntoGEwzA PuUwpjHPlUc BwKfGuERVMhI BFwtuoezsEXQ BLXHhesbidGU lFEpzAdaRUc BDSVaQMLZHvg HrgxWaTyoc BmFyVzRXNbIs WtuUOiLvXwM BpLjDxqYQYZo COvSmAyRPkmk BeiHGxSAEBzR BBCHjYIPXAMN BcybIZEgvUst CVtDxDKihWTh BSkoSzwSBzLS WMHTObCquCW CJVZxwjLRhVq CUxsYSEPWsNa BJWAtybFYMpK CLHdHHYuAeQe CGEbTvLYzqji BWlFCYDkmDAO BToNaVWwppa BKWufulUHmbC BOGLFFsGjLdK YThMPMfrcSX BZAZMORzXmjD ELMxblUGkDD BleDzoEQJYmn sbxfpSOPfEf BmyAflyxuipr DoGxJqOCgWH GFBQBESblYP BGfPGaYvgdKn BRnHiHjFgmqR
end PySem.W.Fast
open PySem PySem.W PyProof.Rows
set_option maxRecDepth 100000 in
set_option maxHeartbeats 0 in
theorem PySem.Challenge.cw_ribbonloft_k26_whole_no_row_is_shorter_holds : PySem.Challenge.rw_ribbonloft_k26_whole_no_row_is_shorter.Holds := by
 w_on;o_law;k_head;(case hw=>w_witness2)
 k_fill
 refine L2.uU (l:=PySem.Challenge.rw_ribbonloft_k26_whole_no_row_is_shorter) (n:=63) (k:=30) (x := "_law_script") (CX:=L2.CX0) (sp:=RS.spL 30 K26.p 30) rfl (by decide) rfl ⟨rfl,by decide,by decide⟩ (fun w h Y=>PySem.W.kIn_of Y) ?F ?S ?C
 case F =>
  intro w mg fa h KX G hmg
  have T:K26.Tp (L2.KOf KX) mg:=by
   dsimp only[L2.KOf];constructor
   ·dsimp only[K26.jI,K26.Ds,K26.mkD,List.take]
    iterate 31 (refine' ⟨K26.yI KX G ?a ?l ?c ?k ?b,?_⟩;(case a=>k_is);(case l=>k_is);(case c=>k_is);(case k=>k_is);(case b=>first | exact fun _ _ _ _ _ _=>K26.all1 fun _=>rfl | exact fun _ _ _ _ _ _=>K26.all2 fun _ _=>rfl | exact fun _ _ _ _ _ _=>K26.DA fun _ _ _=>rfl))
    exact True.intro
   ·dsimp only[K26.AllP,K26.p]
    iterate 15 (refine' ⟨?a,?_⟩;(case a=>k_is))
    exact True.intro
   ·dsimp only[K26.jJ,K26.p]
    iterate 1 (refine⟨⟨_,by k_is⟩,?_⟩)
    exact True.intro
  have tp:=K26.zh KX G T;obtain⟨fa',fd,h1,h2,h3,h4⟩:=tp.defs 30 _ rfl;have e0:=hmg.symm.trans h1;cases e0;refine⟨fd,fun s u=>?_,fun base kb nb=>RS.qD K26.DJ tp 30 30 _ _ rfl rfl _ _ h2⟩;obtain⟨oc,od,kV,doc,pm,an,cdv,ct,osl,e9,_,_⟩:=h2.ex;subst e9;exact .of_eq rfl
 case S=>exact fun K H a ns hl hO hS=>RS.Ar hO hS (K26.main ns hl)
 case C=>exact fun _ _ _ _ h=>h
