import PyProof.Rows.All
import Wide.All
import OpenK.AllK
import Wide.FinOn
import PyProof.EqAt
import PyProof.EqKinds
import PyProof.TupleCall
import PySem.Str
import PyProof.NeKinds
import PyProof.CompMap
import PyProof.CompFree
import PyProof.EnumMake
import PyProof.Draws
import PyProof.ListRange
import PyProof.ConsumeWalk
import PyProof.Rows.SetFrom
import PyProof.SetRoads
import PyProof.ZipIter
import PyProof.Rows.SumAny
import PyProof.Rows.SortWalk
import PyProof.Rows.SeqMore2
import PySem.Challenge.RW_ribbonloft_k37_from_both_sides
set_option Elab.async false
set_option linter.all false
set_option maxRecDepth 100000
set_option maxHeartbeats 4000000
set_option genSizeOf false
set_option genSizeOfSpec false
namespace RL
open PySem (Str)
abbrev Ky:=Sum Int Str
inductive D where
 | non
 | bl (b:Bool)
 | int (i:Int)
 | str (x:Str)
 | tup (xs:List D)
 | lst (xs:List D)
 | dK (ks:List Ky) (vs:List D)
 | dT (ks:List (List Ky)) (vs:List D)
 | scr (xs:List D)
 deriving Inhabited
mutual
noncomputable def D.imm:D->Bool
 | .tup xs=>aq xs
 | .lst _=>false
 | .dK _ _=>false
 | .dT _ _=>false
 | .scr xs=>aq xs
 | _=>true
noncomputable def aq:List D->Bool
 | []=>true
 | d::r=>d.imm&&aq r
end
inductive Bop where | add | sub | mul | fdiv | mod | pow
 deriving DecidableEq
inductive Cop where | lt | le | gt | ge | eq | ne
 deriving DecidableEq
inductive Bi where | len | list | tuple | int | all | any | lenSet | sorted | sortedSet | abs | sum
 deriving DecidableEq
inductive Ty where | int | bool | list | tuple | str
 deriving DecidableEq
mutual
inductive E where
 | var (i:Nat)
 | cst (d:D)
 | glb (x:Str) (i:Int)
 | bin (o:Bop) (a b:E)
 | cmp (c:Cop) (a b:E)
 | chain (c c':Cop) (a b e:E)
 | isB (neg:Bool) (a:E) (b:Bool)
 | isN (neg:Bool) (a:E)
 | inn (neg:Bool) (a b:E)
 | inD (neg:Bool) (a b:E)
 | and (a b:E)
 | or (a b:E)
 | not (a:E)
 | ifx (t a b:E)
 | tup (es:Es)
 | lst (es:Es)
 | ix (a b:E)
 | ixD (a b:E)
 | slT (a b:E)
 | slF (a b:E)
 | rev (a:E)
 | call (f:Nat) (es:Es)
 | bi (b:Bi) (a:E)
 | max (a b:E)
 | min (a b:E)
 | isi (a:E) (t:Ty)
 | rng1 (a:E)
 | rng2 (a b:E)
 | rng3 (c:Int) (a b:E)
 | neg (a:E)
 | comp (e:E) (tg:List Nat) (it:It) (c:E)
 | compA (e:E) (tg:List Nat) (it:It)
 | compL (e:E) (tg:List Nat) (it:It)
 | index (a b:E)
 | chain3 (c c' c'':Cop) (a b e g:E)
 | slB (a b c:E)
 | join (a:E)
 | dk0
 | dt0
inductive Es where
 | nil
 | cons (e:E) (es:Es)
inductive It where
 | seq (e:E)
 | rng1 (a:E)
 | rng2 (a b:E)
 | rng3 (c:Int) (a b:E)
 | chr (e:E)
 | enm (e:E)
 | zip (a b:E)
 | nope
end
mutual
inductive S where
 | asg (i:Nat) (e:E)
 | own (i:Nat) (e:E)
 | unp (is:List Nat) (e:E)
 | par (i j:Nat) (a b:E)
 | parO (i j:Nat) (a b:E)
 | app (i:Nat) (e:E)
 | put (i:Nat) (k e:E)
 | put2 (i:Nat) (k l a b:E)
 | pop (i j:Nat)
 | clr (i:Nat)
 | aug (i:Nat) (o:Bop) (e:E)
 | ife (t:E) (a b:Ss)
 | ifp (i:Nat) (e:E) (a b:Ss)
 | forr (tg:List Nat) (it:It) (b:Ss)
 | whil (t:E) (b:Ss)
 | mexc (f:Nat) (es:Es) (ps ms:List Nat)
 | maug (i f:Nat) (es:Es) (ps ms:List Nat)
 | ret (e:E)
 | exc (e:E)
 | never
inductive Ss where
 | nil
 | cons (s:S) (r:Ss)
end
abbrev St:=List (Option D)
abbrev Cl:=Nat->List D->Option D
noncomputable def most:Nat:=100000
noncomputable def cB{α:Type}(xs:List α)(i:Int):Option α :=
 if 0<=i then xs[i.toNat]? else if -(xs.length:Int)<=i then xs[(i+xs.length).toNat]? else none
noncomputable def mD(n:Nat)(i:Int):Option Nat :=
 if 0<=i then(if i<n then some i.toNat else none)else if -(n:Int)<=i then some (i+n).toNat else none
noncomputable def cutAt(n:Nat)(i:Int):Nat:=if 0<=i then min i.toNat n else(i+n).toNat
noncomputable def aB:Bop->D->D->Option D
 | .add,.int a,.int b=>some (.int (a+b))
 | .add,.str a,.str b=>if a.length+b.length<=most then some (.str (a++b))else none
 | .add,.lst a,.lst b=>if a.length+b.length<=most then some (.lst (a++b))else none
 | .add,.tup a,.tup b=>if a.length+b.length<=most/\0<a.length/\0<b.length then some (.tup (a++b))else none
 | .sub,.int a,.int b=>some (.int (a-b))
 | .mul,.int a,.int b=>if(-(2 ^ 64)<a/\a<2 ^ 64)\/(-(2 ^ 64)<b/\b<2 ^ 64)then some (.int (a*b))else none
 | .mul,.lst a,.int b=>if 0<=b/\b<=most/\a.length*b.toNat<=most then some (.lst (List.replicate b.toNat a).flatten)else none
 | .fdiv,.int a,.int b=>if 0<b/\b<2 ^ 200 then some (.int (a / b))else none
 | .mod,.int a,.int b=>if 0<b then some (.int (a%b))else none
 | .pow,.int a,.int b=>if 0<=b/\b<=1000/\a.natAbs<2 ^ 64 then some (.int (a ^ b.toNat))else none
 | _,_,_=>none
noncomputable def eqs(f:D->D->Option Bool):List D->List D->Option Bool
 | a::r,b::s=>(f a b).bind fun e=>(eqs f r s).map fun k=>e&&k
 | _,_=>some true
noncomputable def eqD:Nat->D->D->Option Bool
 | _,.int a,.int b=>some (a == b)
 | _,.str a,.str b=>some (a == b)
 | _,.bl a,.bl b=>some (a == b)
 | n+1,.tup a,.tup b=>(eqs (eqD n) a b).map fun k=>k&&a.length == b.length
 | n+1,.lst a,.lst b=>(eqs (eqD n) a b).map fun k=>k&&a.length == b.length
 | _,_,_=>none
noncomputable def bh:Cop->D->D->Option Bool
 | .lt,.int a,.int b=>some (decide (a<b))
 | .le,.int a,.int b=>some (decide (a<=b))
 | .gt,.int a,.int b=>some (decide (b<a))
 | .ge,.int a,.int b=>some (decide (b<=a))
 | .eq,a,b=>eqD 8 a b
 | .ne,a,b=>(eqD 8 a b).map not
 | _,_,_=>none
noncomputable def truth:D->Option Bool
 | .bl b=>some b
 | .lst xs=>some (!xs.isEmpty)
 | .tup xs=>some (!xs.isEmpty)
 | .int i=>some (i != 0)
 | _=>none
noncomputable def c8:List D->Option (List Int)
 | []=>some []
 | .int i::r=>(c8 r).map (i :: ·)
 | _=>none
noncomputable def cG:List D->Option (List Bool)
 | []=>some []
 | .bl i::r=>(cG r).map (i :: ·)
 | _=>none
noncomputable def strs?:List D->Option (List Str)
 | []=>some []
 | .str i::r=>(strs? r).map (i :: ·)
 | _=>none
noncomputable def fH(a:Int):List Int->List Int
 | []=>[a]
 | b::r=>if a<=b then a::b::r else b::fH a r
noncomputable def sortI:List Int->List Int
 | []=>[]
 | a::r=>fH a (sortI r)
noncomputable def iS(xs:List Int):List Int:=xs.foldl (fun m k=>if m.any (· == k)then m else m++[k]) []
noncomputable def items:D->Option (List D)
 | .lst xs=>some xs
 | .tup xs=>some xs
 | _=>none
noncomputable def dU:D->Option (List D)
 | .lst xs=>some xs
 | .tup xs=>some xs
 | .str x=>some (x.cps.toList.map fun c=>.str ⟨#[c]⟩)
 | _=>none
noncomputable def biV:Bi->D->Option D
 | .len,.str x=>if x.length<=most then some (.int x.length)else none
 | .len,.dK ks _=>some (.int ks.length)
 | .len,d=>(items d).map fun xs=>.int xs.length
 | .list,d=>(items d).map .lst
 | .tuple,d=>(items d).map .tup
 | .int,.bl b=>some (.int (if b then 1 else 0))
 | .int,.int i=>some (.int i)
 | .int,_=>none
 | .all,.lst xs=>(cG xs).map fun bs=>.bl (bs.all id)
 | .any,.lst xs=>(cG xs).map fun bs=>.bl (bs.any id)
 | .all,_=>none
 | .any,_=>none
 | .lenSet,.lst xs=>if xs.length<=1000 then(c8 xs).map fun is=>.int (iS is).length else none
 | .lenSet,_=>none
 | .sorted,.lst xs=>if xs.length<64 then(c8 xs).map fun is=>.lst ((sortI is).map .int)else none
 | .sorted,_=>none
 | .sortedSet,.lst xs=>(c8 xs).map fun is=>.lst ((sortI (iS is)).map .int)
 | .sortedSet,_=>none
 | .abs,.int i=>some (.int (if i<0 then -i else i))
 | .abs,_=>none
 | .sum,.lst xs=>(c8 xs).map fun is=>.int is.sum
 | .sum,_=>none
noncomputable def cY:Ty->D->Option Bool
 | .int,.int _=>some true
 | .int,.bl _=>some true
 | .bool,.bl _=>some true
 | .list,.lst _=>some true
 | .tuple,.tup _=>some true
 | .str,.str _=>some true
 | _,.non=>some false
 | _,.bl _=>some false
 | _,.int _=>some false
 | _,.str _=>some false
 | _,.tup _=>some false
 | _,.lst _=>some false
 | _,_=>none
noncomputable def keyOf:D->Option Ky
 | .int i=>some (.inl i)
 | .str x=>some (.inr x)
 | _=>none
noncomputable def keysOf:List D->Option (List Ky)
 | []=>some []
 | d::r=>(keyOf d).bind fun k=>(keysOf r).map (k :: ·)
noncomputable def aM{κ:Type} [DecidableEq κ]:List κ->List D->κ->Option D
 | k::ks,v::vs,x=>if k=x then some v else aM ks vs x
 | _,_,_=>none
noncomputable def putD{κ:Type} [DecidableEq κ](ks:List κ)(vs:List D)(x:κ)(d:D):List κ × List D :=
 if x∈ks then(ks,List.zipWith (fun k v=>if k=x then d else v) ks vs)else(ks++[x],vs++[d])
noncomputable def ixV:D->D->Option D
 | .lst xs,.int i=>cB xs i
 | .tup xs,.int i=>cB xs i
 | .str x,.int i=>if x.length<=most then(cB x.cps.toList i).map fun c=>.str ⟨#[c]⟩else none
 | _,_=>none
noncomputable def pe:D->D->Option D
 | .dK ks vs,k=>(keyOf k).bind (aM ks vs)
 | .dT ks vs,.tup k=>(keysOf k).bind (aM ks vs)
 | _,_=>none
noncomputable def yQ:D->D->Option Bool
 | .dK ks vs,k=>(keyOf k).map fun k=>(aM ks vs k).isSome
 | .dT ks vs,.tup k=>(keysOf k).map fun k=>(aM ks vs k).isSome
 | _,_=>none
noncomputable def flat:D->Bool
 | .int _=>true
 | .str _=>true
 | _=>false
noncomputable def eqF:D->D->Bool
 | .int a,.int b=>a == b
 | .str a,.str b=>a == b
 | _,_=>false
noncomputable def inV(a b:D):Option Bool :=
 (items b).bind fun xs=>if flat a&&xs.all flat then some (xs.any fun x=>eqF x a)else none
noncomputable def kc:D->D->Option D
 | .scr xs,.int k=>some (.lst (xs.take (cutAt xs.length k)))
 | .lst xs,.int k=>some (.lst (xs.take (cutAt xs.length k)))
 | .tup xs,.int k=>if cutAt xs.length k<xs.length then some (.tup (xs.take (cutAt xs.length k)))else none
 | _,_=>none
noncomputable def v3:D->D->Option D
 | .lst xs,.int k=>some (.lst (xs.drop (cutAt xs.length k)))
 | .tup xs,.int k=>if 0<cutAt xs.length k then some (.tup (xs.drop (cutAt xs.length k)))else none
 | _,_=>none
noncomputable def GX:D->D->D->Option D
 | .lst xs,.int i,.int k=>some (.lst ((xs.take (cutAt xs.length k)).drop (cutAt xs.length i)))
 | .tup xs,.int i,.int k=>if 0<cutAt xs.length i\/cutAt xs.length k<xs.length then some (.tup ((xs.take (cutAt xs.length k)).drop (cutAt xs.length i)))else none
 | _,_,_=>none
noncomputable def cH(lo:Int):Nat->List D
 | 0=>[]
 | n+1=>.int lo::cH (lo+1) n
noncomputable def bI(c lo:Int):Nat->List D
 | 0=>[]
 | n+1=>.int lo::bI c (lo+c) n
noncomputable def bo(c a b:Int):Nat:=(if c > 0 then(if a<b then(b-a-1) / c+1 else 0)else(if a > b then(a-b-1) / (-c)+1 else 0)).toNat
noncomputable def dA:D->D->Option (List D)
 | .int a,.int b=>if(b-a).toNat<=most/\-(2 ^ 60)<=a/\a<2 ^ 60/\-(2 ^ 60)<=b/\b<2 ^ 60 then some (cH a (b-a).toNat)else none
 | _,_=>none
noncomputable def fQ(c:Int):D->D->Option (List D)
 | .int a,.int b=>if c≠0/\-(2 ^ 60)<c/\c<2 ^ 60/\bo c a b<=most/\-(2 ^ 60)<=a/\a<2 ^ 60/\-(2 ^ 60)<=b/\b<2 ^ 60 then some (bI c a (bo c a b))else none
 | _,_=>none
noncomputable def cF(i:Int):List D->List D
 | []=>[]
 | d::r=>.tup [.int i,d]::cF (i+1) r
noncomputable def dO:List D->List D->List D
 | a::r,b::s=>.tup [a,b]::dO r s
 | _,_=>[]
noncomputable def bA:List Nat->List D->St->Option St
 | [],[],σ=>some σ
 | i::is,d::ds,σ=>bA is ds (σ.set i (some d))
 | _,_,_=>none
noncomputable def aJ(tg:List Nat)(d:D)(σ:St):Option St :=
 match tg with
 | [i]=>some (σ.set i (some d))
 | tg=>match d with
  | .tup ds=>bA tg ds σ
  | .lst ds=>bA tg ds σ
  | _=>none
noncomputable def ko(y:Option D)(ys:List D):Option (List D) :=
 match y with
 | some e=>if e.imm then some (e::ys)else none
 | none=>some ys
noncomputable def bW(f:St->Option (Option D))(tg:List Nat)(σ:St):List D->Option (List D)
 | []=>some []
 | d::r=>(aJ tg d σ).bind fun σ1=>(f σ1).bind fun y=>(bW f tg σ r).bind (ko y)
noncomputable def a9:D->Bool
 | .lst xs=>aq xs
 | .dK _ vs=>aq vs
 | .dT _ vs=>aq vs
 | _=>false
noncomputable def DN(f:St->Option D)(fr:Bool)(tg:List Nat)(σ:St):List D->Option (List D)
 | []=>some []
 | d::r=>(aJ tg d σ).bind fun σ1=>(f σ1).bind fun y=>if a9 y&&fr then(DN f fr tg σ r).map (y :: ·)else none
noncomputable def fits(xs:List D):Option (List D):=if xs.length<=most then some xs else none
noncomputable def aG:E->Bool
 | .lst _=>true
 | .tup _=>true
 | .comp _ _ _ _=>true
 | .compA _ _ _=>true
 | .compL _ _ _=>true
 | .bin _ _ _=>true
 | .slT _ _=>true
 | .slF _ _=>true
 | .slB _ _ _=>true
 | .rev _=>true
 | .call _ _=>true
 | .bi _ _=>true
 | .rng1 _=>true
 | .rng2 _ _=>true
 | .rng3 _ _ _=>true
 | .dk0=>true
 | .dt0=>true
 | _=>false
mutual
noncomputable def ev(cl:Cl)(σ:St):E->Option D
 | .var i=>(σ[i]?).bind id
 | .cst d=>some d
 | .glb _ i=>some (.int i)
 | .bin o a b=>(ev cl σ a).bind fun x=>(ev cl σ b).bind fun y=>aB o x y
 | .cmp c a b=>(ev cl σ a).bind fun x=>(ev cl σ b).bind fun y=>(bh c x y).map .bl
 | .chain c c' a b e=>(ev cl σ a).bind fun x=>(ev cl σ b).bind fun y=>(bh c x y).bind fun k=>if k then(ev cl σ e).bind fun z=>(bh c' y z).map .bl else some (.bl false)
 | .isB neg a b=>(ev cl σ a).bind fun x=>match x with
  | .bl k=>some (.bl (if neg then !decide (k=b)else decide (k=b)))
  | _=>none
 | .isN neg a=>(ev cl σ a).bind fun x=>match x with
  | .non=>some (.bl (!neg))
  | .dK _ _=>none
  | .dT _ _=>none
  | _=>some (.bl neg)
 | .inn neg a b=>(ev cl σ a).bind fun x=>(ev cl σ b).bind fun y=>(inV x y).map fun k=>.bl (if neg then !k else k)
 | .inD neg a b=>(ev cl σ a).bind fun x=>(ev cl σ b).bind fun y=>(yQ y x).map fun k=>.bl (if neg then !k else k)
 | .and a b=>(ev cl σ a).bind fun x=>match x with
  | .bl true=>ev cl σ b
  | .bl false=>some (.bl false)
  | _=>none
 | .or a b=>(ev cl σ a).bind fun x=>match x with
  | .bl false=>ev cl σ b
  | .bl true=>some (.bl true)
  | _=>none
 | .not a=>((ev cl σ a).bind truth).map fun k=>.bl (!k)
 | .ifx t a b=>((ev cl σ t).bind truth).bind fun k=>if k then ev cl σ a else ev cl σ b
 | .tup es=>(evs cl σ es).map .tup
 | .lst es=>(evs cl σ es).map .lst
 | .ix a b=>(ev cl σ a).bind fun x=>(ev cl σ b).bind fun y=>ixV x y
 | .ixD a b=>(ev cl σ a).bind fun x=>(ev cl σ b).bind fun y=>pe x y
 | .slT a b=>(ev cl σ a).bind fun x=>(ev cl σ b).bind fun y=>kc x y
 | .slF a b=>(ev cl σ a).bind fun x=>(ev cl σ b).bind fun y=>v3 x y
 | .rev a=>(ev cl σ a).bind fun x=>match x with
  | .lst xs=>some (.lst xs.reverse)
  | _=>none
 | .call f es=>(evs cl σ es).bind fun ds=>cl f ds
 | .bi b a=>(ev cl σ a).bind fun x=>biV b x
 | .max a b=>(ev cl σ a).bind fun x=>(ev cl σ b).bind fun y=>match x,y with
  | .int i,.int j=>some (.int (if j > i then j else i))
  | _,_=>none
 | .min a b=>(ev cl σ a).bind fun x=>(ev cl σ b).bind fun y=>match x,y with
  | .int i,.int j=>some (.int (if j<i then j else i))
  | _,_=>none
 | .isi a t=>(ev cl σ a).bind fun x=>(cY t x).map .bl
 | .rng1 a=>(ev cl σ a).bind fun x=>(dA (.int 0) x).map .lst
 | .rng2 a b=>(ev cl σ a).bind fun x=>(ev cl σ b).bind fun y=>(dA x y).map .lst
 | .rng3 c a b=>(ev cl σ a).bind fun x=>(ev cl σ b).bind fun y=>(fQ c x y).map .lst
 | .neg a=>(ev cl σ a).bind fun x=>match x with
  | .int i=>some (.int (-i))
  | _=>none
 | .comp e tg it c=>(bb cl σ it).bind fun ds=>(fits ds).bind fun ds=>(bW (fun σ1=>((ev cl σ1 c).bind truth).bind fun k=>if k then(ev cl σ1 e).map some else some none) tg σ ds).map .lst
 | .compA e tg it=>(bb cl σ it).bind fun ds=>(fits ds).bind fun ds=>(bW (fun σ1=>(ev cl σ1 e).map some) tg σ ds).map .lst
 | .compL e tg it=>(bb cl σ it).bind fun ds=>(fits ds).bind fun ds=>(DN (fun σ1=>ev cl σ1 e) (aG e) tg σ ds).map .lst
 | .index a b=>(ev cl σ a).bind fun x=>(ev cl σ b).bind fun y=>match x,y with
  | .lst xs,.int i=>(c8 xs).bind fun is=>if i∈is then some (.int (is.idxOf i))else none
  | _,_=>none
 | .join a=>(ev cl σ a).bind fun x=>match x with
  | .lst xs=>(strs? xs).bind fun ss=>if ss.length<=most/\ss.all (fun s=>s.length<=10)then some (.str ⟨(ss.flatMap fun s=>s.cps.toList).toArray⟩)else none
  | _=>none
 | .chain3 c c' c'' a b e g=>(ev cl σ a).bind fun x=>(ev cl σ b).bind fun y=>(bh c x y).bind fun k=>if k then(ev cl σ e).bind fun z=>(bh c' y z).bind fun k'=>if k' then(ev cl σ g).bind fun w=>(bh c'' z w).map .bl else some (.bl false)else some (.bl false)
 | .slB a b c=>(ev cl σ a).bind fun x=>(ev cl σ b).bind fun y=>(ev cl σ c).bind fun z=>GX x y z
 | .dk0=>some (.dK [] [])
 | .dt0=>some (.dT [] [])
noncomputable def evs(cl:Cl)(σ:St):Es->Option (List D)
 | .nil=>some []
 | .cons e es=>(ev cl σ e).bind fun d=>(evs cl σ es).map (d :: ·)
noncomputable def bb(cl:Cl)(σ:St):It->Option (List D)
 | .seq e=>(ev cl σ e).bind items
 | .rng1 a=>(ev cl σ a).bind fun x=>dA (.int 0) x
 | .rng2 a b=>(ev cl σ a).bind fun x=>(ev cl σ b).bind fun y=>dA x y
 | .rng3 c a b=>(ev cl σ a).bind fun x=>(ev cl σ b).bind fun y=>fQ c x y
 | .chr e=>(ev cl σ e).bind fun x=>match x with
  | .str x=>dU (.str x)
  | _=>none
 | .enm e=>(ev cl σ e).bind fun x=>(dU x).map (cF 0)
 | .zip a b=>(ev cl σ a).bind fun x=>(ev cl σ b).bind fun y=>(items x).bind fun xs=>(items y).bind fun ys=>if xs.length=ys.length then some (dO xs ys)else none
 | .nope=>none
end
inductive Out where
 | nx
 | rt (d:D)
noncomputable def avE(M:List Nat):E->Bool
 | .var j=>!M.contains j
 | .ix a _=>avE M a
 | .call _ _=>true
 | .compL _ _ _=>true
 | .ifx _ a b=>avE M a&&avE M b
 | _=>false
noncomputable def vx(M:List Nat):It->Bool
 | .seq e=>avE M e || aG e
 | .enm e=>avE M e || aG e
 | .zip a b=>(avE M a || aG a)&&(avE M b || aG b)
 | _=>true
noncomputable def aS(M:List Nat)(e:E)(d:D):Bool :=
 d.imm || (a9 d&&(aG e || match e with | .var i=>M.contains i | _=>false))
noncomputable def aQ(M:List Nat)(e:E)(d:D):Bool:=d.imm || (a9 d&&aG e) || avE M e
noncomputable def isVar:E->Bool
 | .var _=>true
 | _=>false
noncomputable def dP(M ps:List Nat):Nat->Es->List D->Bool
 | _,.nil,[]=>true
 | q,.cons e es,d::ds=>(if ps.contains q then isVar e else aQ M e d)&&dP M ps (q+1) es ds
 | _,_,_=>false
noncomputable def d5:D->D->D->Option D
 | .lst xs,.int k,d=>(mD xs.length k).map fun j=>.lst (xs.set j d)
 | .dK ks vs,k,d=>(keyOf k).bind fun k=>if ks.length<most then some (.dK (putD ks vs k d).1 (putD ks vs k d).2)else none
 | .dT ks vs,.tup k,d=>(keysOf k).bind fun k=>if ks.length<most then some (.dT (putD ks vs k d).1 (putD ks vs k d).2)else none
 | _,_,_=>none
noncomputable def bg(f:St->Option (Out × St))(tg:List Nat):List D->St->Option (Out × St)
 | [],σ=>some (.nx,σ)
 | d::r,σ=>if d.imm then(aJ tg d σ).bind fun σ1=>(f σ1).bind fun p=>match p.1 with
   | .nx=>bg f tg r p.2
   | .rt d=>some (.rt d,p.2)
  else none
noncomputable def whF(t:St->Option Bool)(f:St->Option (Out × St)):Nat->St->Option (Out × St)
 | 0,_=>none
 | n+1,σ=>(t σ).bind fun k=>if k then(f σ).bind fun p=>match p.1 with
   | .nx=>whF t f n p.2
   | .rt d=>some (.rt d,p.2)
  else some (.nx,σ)
mutual
noncomputable def evS(cl:Cl)(M:List Nat):S->St->Option (Out × St)
 | .asg i e,σ=>(ev cl σ e).bind fun d=>if aQ M e d then some (.nx,σ.set i (some d))else none
 | .own i e,σ=>(ev cl σ e).bind fun d=>if a9 d&&aG e then some (.nx,σ.set i (some d))else none
 | .unp is e,σ=>(ev cl σ e).bind fun d=>(items d).bind fun ds=>if aq ds then(bA is ds σ).map fun σ1=>(.nx,σ1)else none
 | .par i j a b,σ=>(ev cl σ a).bind fun x=>(ev cl σ b).bind fun y=>if x.imm&&y.imm then some (.nx,(σ.set i (some x)).set j (some y))else none
 | .parO i j a b,σ=>(ev cl σ a).bind fun x=>(ev cl σ b).bind fun y=>if(a9 x&&aG a)&&(a9 y&&aG b)then some (.nx,(σ.set i (some x)).set j (some y))else none
 | .app i e,σ=>(ev cl σ e).bind fun d=>((σ[i]?).bind id).bind fun l=>match l with
  | .lst xs=>if d.imm&&decide (xs.length<most)then some (.nx,σ.set i (some (.lst (xs++[d]))))else none
  | _=>none
 | .put i k e,σ=>(ev cl σ e).bind fun d=>(ev cl σ k).bind fun kk=>((σ[i]?).bind id).bind fun l=>if d.imm then(d5 l kk d).map fun l'=>(.nx,σ.set i (some l'))else none
 | .put2 i k l a b,σ=>(ev cl σ a).bind fun x=>(ev cl σ b).bind fun y=>if x.imm&&y.imm then
   (ev cl σ k).bind fun kk=>((σ[i]?).bind id).bind fun c=>match c with
   | .lst _=>(d5 c kk x).bind fun c1=>(ev cl (σ.set i (some c1)) l).bind fun ll=>(d5 c1 ll y).map fun c2=>(.nx,(σ.set i (some c1)).set i (some c2))
   | _=>none
  else none
 | .pop i j,σ=>((σ[i]?).bind id).bind fun l=>match l with
  | .lst xs=>(xs[xs.length-1]?).map fun d=>(.nx,(σ.set i (some (.lst xs.dropLast))).set j (some d))
  | _=>none
 | .clr i,σ=>((σ[i]?).bind id).bind fun l=>match l with
  | .lst _=>some (.nx,σ.set i (some (.lst [])))
  | _=>none
 | .aug i o e,σ=>((σ[i]?).bind id).bind fun x=>(ev cl σ e).bind fun y=>match x,y with
  | .int a,.int b=>(aB o (.int a) (.int b)).map fun z=>(.nx,σ.set i (some z))
  | _,_=>none
 | .ife t a b,σ=>((ev cl σ t).bind truth).bind fun k=>if k then af cl M a σ else af cl M b σ
 | .ifp i e a b,σ=>((σ[i]?).bind id).bind fun l=>match l with
  | .lst xs=>(xs[xs.length-1]?).bind fun d=>(ev cl (σ.set i (some (.lst xs.dropLast))) e).bind fun y=>match d,y with
   | .int p,.int q=>if decide (p=q)then af cl M b (σ.set i (some (.lst xs.dropLast)))else af cl M a (σ.set i (some (.lst xs.dropLast)))
   | _,_=>none
  | _=>none
 | .forr tg it b,σ=>(bb cl σ it).bind fun ds=>bg (af cl M b) tg ds σ
 | .whil t b,σ=>whF (fun σ=>(ev cl σ t).bind truth) (af cl M b) most σ
 | .mexc f es ps ms,σ=>(evs cl σ es).bind fun ds=>if dP M ps 0 es ds then(cl f ds).bind fun r=>match r with
  | .tup (_::outs)=>(bA ms outs σ).map fun σ1=>(.nx,σ1)
  | _=>none
  else none
 | .maug i f es ps ms,σ=>((σ[i]?).bind id).bind fun x=>(evs cl σ es).bind fun ds=>if dP M ps 0 es ds then(cl f ds).bind fun r=>match r with
  | .tup (y::outs)=>match x,y with
   | .int a,.int b=>(bA ms outs σ).map fun σ1=>(.nx,σ1.set i (some (.int (a+b))))
   | _,_=>none
  | _=>none
  else none
 | .ret e,σ=>(ev cl σ e).bind fun d=>if aS M e d then some (.rt d,σ)else none
 | .exc e,σ=>(ev cl σ e).map fun _=>(.nx,σ)
 | .never,_=>none
noncomputable def af(cl:Cl)(M:List Nat):Ss->St->Option (Out × St)
 | .nil,σ=>some (.nx,σ)
 | .cons s r,σ=>(evS cl M s σ).bind fun p=>match p.1 with
  | .nx=>af cl M r p.2
  | .rt d=>some (.rt d,p.2)
end
structure Fn where
 ps:Nat
 nn:Nat
 M:List Nat
 mp:List Nat
 body:Ss
noncomputable def fv(σ:St):List Nat->Option (List D)
 | []=>some []
 | i::is=>((σ[i]?).bind id).bind fun d=>(fv σ is).map (d :: ·)
noncomputable def aU(fn:Fn)(d:D)(σ:St):Option D :=
 if fn.mp.isEmpty then some d else if d.imm then(fv σ fn.mp).map fun os=>.tup (d::os)else none
noncomputable def au(T:List Fn):Nat->Cl
 | 0,_,_=>none
 | n+1,f,ds=>(T[f]?).bind fun fn=>if ds.length=fn.ps then(af (au T n) fn.M fn.body (ds.map some++List.replicate (fn.nn-fn.ps) none)).bind fun p=>match p.1 with
  | .nx=>aU fn .non p.2
  | .rt d=>aU fn d p.2
  else none
end RL
namespace RT
open RL
noncomputable def i8:Fn :=
 ⟨1,1,[],[],(.cons (.ret (.and (.isi (.var 0) .int) (.not (.isi (.var 0) .bool)))) .nil)⟩
noncomputable def dM(f_is_number:Nat):Fn :=
 ⟨1,1,[],[],(.cons (.ret (.and (.call f_is_number (.cons (.var 0) .nil)) (.chain .le .le (.cst (.int 1)) (.var 0) (.glb "MOST_PEGS" 10)))) .nil)⟩
noncomputable def bV(f_is_peg_count:Nat):Fn :=
 ⟨1,1,[],[],(.cons (.ife (.not (.call f_is_peg_count (.cons (.var 0) .nil))) (.cons .never .nil) .nil) .nil)⟩
noncomputable def qd:Fn :=
 ⟨3,3,[0,0],[0],(.cons (.put 0 (.var 1) (.var 2)) (.cons (.put 0 (.var 2) (.var 1)) .nil))⟩
noncomputable def jU:Fn :=
 ⟨1,1,[],[],(.cons (.ret (.bin .fdiv (.bi .len (.var 0)) (.cst (.int 2)))) .nil)⟩
noncomputable def fD(f_check_pegs:Nat):Fn :=
 ⟨1,1,[],[],(.cons (.exc (.call f_check_pegs (.cons (.var 0) .nil))) (.cons (.ret (.bi .tuple (.bin .add (.rng2 (.var 0) (.bin .mul (.cst (.int 2)) (.var 0))) (.rng1 (.var 0))))) .nil))⟩
noncomputable def jT:Fn :=
 ⟨1,3,[],[],(.cons (.asg 1 (.bin .mod (.bin .add (.bin .mul (.var 0) (.cst (.int 48271))) (.cst (.int 11))) (.cst (.int 2147483647)))) (.cons (.asg 2 (.bin .mod (.bin .add (.bin .add (.bin .mul (.var 1) (.var 1)) (.bin .mul (.cst (.int 40692)) (.var 1))) (.var 0)) (.cst (.int 2147483399)))) (.cons (.ret (.bin .mod (.bin .add (.bin .add (.bin .mul (.var 2) (.var 2)) (.bin .mul (.cst (.int 69621)) (.var 2))) (.var 1)) (.cst (.int 2147483563)))) .nil)))⟩
noncomputable def jm(f_law_mix:Nat):Ss :=
 (.cons (.asg 3 (.bin .add (.bin .mul (.var 3) (.cst (.int 2147483563))) (.call f_law_mix (.cons (.bin .add (.bin .add (.var 2) (.bin .mul (.cst (.int 1009)) (.var 1))) (.bin .mul (.cst (.int 7919)) (.var 4))) .nil)))) .nil)
noncomputable def jS(f_law_mix:Nat):Fn :=
 ⟨2,5,[],[],(.cons (.asg 2 (.bin .add (.bin .mul (.cst (.int 7)) (.var 1)) (.cst (.int 3)))) (.cons (.ife (.cmp .gt (.bi .len (.var 0)) (.cst (.int 0))) (.cons (.asg 2 (.bin .add (.ix (.var 0) (.bin .mod (.var 1) (.bi .len (.var 0)))) (.bin .mul (.cst (.int 9973)) (.bin .fdiv (.var 1) (.bi .len (.var 0)))))) .nil) .nil) (.cons (.ife (.and (.cmp .lt (.var 1) (.bi .len (.var 0))) (.cmp .ge (.var 2) (.bin .pow (.cst (.int 10)) (.cst (.int 18))))) (.cons (.ret (.bin .sub (.var 2) (.bin .pow (.cst (.int 10)) (.cst (.int 18))))) .nil) .nil) (.cons (.asg 3 (.cst (.int 0))) (.cons (.forr [4] (.rng1 (.cst (.int 40))) (jm f_law_mix)) (.cons (.ret (.var 3)) .nil))))))⟩
noncomputable def gj(f_law_raw:Nat):Ss :=
 (.cons (.app 4 (.bin .mod (.var 3) (.var 5))) (.cons (.asg 3 (.bin .fdiv (.var 3) (.var 5))) .nil))
noncomputable def eU(f_law_raw:Nat):Fn :=
 ⟨3,6,[4],[],(.cons (.asg 3 (.call f_law_raw (.cons (.var 0) (.cons (.var 1) .nil)))) (.cons (.own 4 (.lst .nil)) (.cons (.forr [5] (.seq (.var 2)) (gj f_law_raw)) (.cons (.ret (.var 4)) .nil))))⟩
noncomputable def eY(f_names_back:Nat):Fn :=
 ⟨1,2,[],[],(.cons (.ret (.and (.isi (.var 0) .tuple) (.bi .all (.compA (.call f_names_back (.cons (.var 0) (.cons (.var 1) .nil))) [1] (.rng1 (.bi .len (.var 0))))))) .nil)⟩
noncomputable def fh(f_is_number:Nat):Fn :=
 ⟨2,3,[],[],(.cons (.asg 2 (.ix (.var 0) (.var 1))) (.cons (.ret (.and (.call f_is_number (.cons (.var 2) .nil)) (.and (.chain .le .lt (.cst (.int 0)) (.var 2) (.bi .len (.var 0))) (.cmp .eq (.ix (.var 0) (.var 2)) (.var 1))))) .nil))⟩
noncomputable def bN:Ss :=
 (.cons (.ife (.cmp .gt (.var 3) (.var 2)) (.cons (.app 1 (.var 2)) .nil) (.cons (.ife (.cmp .eq (.var 3) (.var 2)) (.cons (.ife (.var 1) (.cons (.ret (.cst (.bl false))) .nil) .nil) .nil) (.cons (.ifp 1 (.var 3) (.cons (.ret (.cst (.bl false))) .nil) .nil) .nil)) .nil)) .nil)
noncomputable def dH:Fn :=
 ⟨1,4,[1],[],(.cons (.own 1 (.lst .nil)) (.cons (.forr [2,3] (.enm (.var 0)) (bN)) (.cons (.ret (.cst (.bl true))) .nil)))⟩
noncomputable def gE(f_is_uncrossed f_in_round f_is_pairing f_is_peg_count f_pegs_of:Nat):Fn :=
 ⟨1,5,[],[],(.cons (.asg 1 (.call f_pegs_of (.cons (.var 0) .nil))) (.cons (.ife (.or (.cmp .ne (.bi .len (.var 0)) (.bin .mul (.cst (.int 2)) (.var 1))) (.or (.not (.call f_is_peg_count (.cons (.var 1) .nil))) (.not (.call f_is_pairing (.cons (.var 0) .nil))))) (.cons (.ret (.cst (.bl false))) .nil) .nil) (.cons (.asg 2 (.comp (.var 3) [3,4] (.enm (.var 0)) (.cmp .eq (.var 3) (.var 4)))) (.cons (.ret (.and (.not (.var 2)) (.call f_is_uncrossed (.cons (.call f_in_round (.cons (.var 0) .nil)) .nil)))) .nil))))⟩
noncomputable def dY(f_is_frame:Nat):Fn :=
 ⟨1,1,[],[],(.cons (.ife (.not (.call f_is_frame (.cons (.var 0) .nil))) (.cons .never .nil) .nil) .nil)⟩
noncomputable def iz(f_pegs_of f_check_frame:Nat):Fn :=
 ⟨1,3,[],[],(.cons (.exc (.call f_check_frame (.cons (.var 0) .nil))) (.cons (.asg 1 (.call f_pegs_of (.cons (.var 0) .nil))) (.cons (.ret (.bi .len (.comp (.var 2) [2] (.seq (.slT (.var 0) (.var 1))) (.cmp .ge (.var 2) (.var 1))))) .nil)))⟩
noncomputable def jX(f_check_frame:Nat):Fn :=
 ⟨1,3,[],[],(.cons (.exc (.call f_check_frame (.cons (.var 0) .nil))) (.cons (.ret (.comp (.tup (.cons (.var 1) (.cons (.var 2) .nil))) [1,2] (.enm (.var 0)) (.cmp .lt (.var 1) (.var 2)))) .nil))⟩
noncomputable def dh:Fn :=
 ⟨2,2,[],[],(.cons (.ret (.ifx (.cmp .lt (.var 1) (.var 0)) (.var 1) (.bin .sub (.bin .sub (.bin .mul (.cst (.int 3)) (.var 0)) (.cst (.int 1))) (.var 1)))) .nil)⟩
noncomputable def gu(f_moved f_round_place f_pegs_of:Nat):Fn :=
 ⟨1,3,[],[],(.cons (.asg 1 (.call f_pegs_of (.cons (.var 0) .nil))) (.cons (.ret (.call f_moved (.cons (.var 0) (.cons (.compA (.call f_round_place (.cons (.var 1) (.cons (.var 2) .nil))) [2] (.rng1 (.bin .mul (.cst (.int 2)) (.var 1)))) .nil)))) .nil))⟩
noncomputable def mK:Ss :=
 (.cons (.put 2 (.ix (.var 1) (.var 3)) (.ix (.var 1) (.var 4))) .nil)
noncomputable def kU:Fn :=
 ⟨2,5,[2],[],(.cons (.own 2 (.bin .mul (.lst (.cons (.cst (.int 0)) .nil)) (.bi .len (.var 0)))) (.cons (.forr [3,4] (.enm (.var 0)) (mK)) (.cons (.ret (.bi .tuple (.var 2))) .nil)))⟩
noncomputable def dR:Fn :=
 ⟨1,2,[],[],(.cons (.ret (.bi .tuple (.bin .add (.compA (.bin .add (.var 0) (.var 1)) [1] (.rng1 (.var 0))) (.rng1 (.var 0))))) .nil)⟩
noncomputable def lP(f_law_plain:Nat):Ss :=
 (.cons (.put 2 (.var 3) (.bin .add (.var 3) (.cst (.int 1)))) (.cons (.put 2 (.bin .add (.var 3) (.cst (.int 1))) (.var 3)) .nil))
noncomputable def gC(f_law_plain:Nat):Fn :=
 ⟨2,4,[2],[],(.cons (.own 2 (.bi .list (.call f_law_plain (.cons (.var 0) .nil)))) (.cons (.forr [3] (.seq (.tup (.cons (.var 1) (.cons (.bin .add (.var 0) (.var 1)) .nil)))) (lP f_law_plain)) (.cons (.ret (.bi .tuple (.var 2))) .nil)))⟩
noncomputable def eN:Fn :=
 ⟨1,1,[],[],(.cons (.ret (.bin .add (.rng1 (.var 0)) (.rng3 (-1) (.bin .sub (.bin .mul (.cst (.int 2)) (.var 0)) (.cst (.int 1))) (.bin .sub (.var 0) (.cst (.int 1)))))) .nil)⟩
noncomputable def cV(f_law_circle:Nat):Ss :=
 (.cons (.ife (.cmp .eq (.var 6) (.cst (.str "("))) (.cons (.app 4 (.ix (.var 2) (.var 5))) .nil) (.cons (.pop 4 8) (.cons (.put 3 (.var 8) (.ix (.var 2) (.var 5))) (.cons (.put 3 (.ix (.var 2) (.var 5)) (.var 8)) .nil)))) .nil)
noncomputable def fk(f_law_circle:Nat):Fn :=
 ⟨1,9,[3,4],[],(.cons (.asg 1 (.bin .fdiv (.bi .len (.var 0)) (.cst (.int 2)))) (.cons (.asg 2 (.call f_law_circle (.cons (.var 1) .nil))) (.cons (.own 3 (.compA (.cst (.int 0)) [7] (.seq (.var 2)))) (.cons (.own 4 (.lst .nil)) (.cons (.forr [5,6] (.enm (.var 0)) (cV f_law_circle)) (.cons (.ret (.bi .tuple (.var 3))) .nil))))))⟩
noncomputable def fK:Ss :=
 (.cons (.par 0 6 (.bin .fdiv (.var 0) (.cst (.int 2))) (.bin .mod (.var 0) (.cst (.int 2)))) (.cons (.asg 5 (.or (.cmp .eq (.var 3) (.cst (.int 0))) (.and (.cmp .lt (.var 3) (.var 4)) (.cmp .eq (.var 6) (.cst (.int 1)))))) (.cons (.asg 2 (.bin .add (.var 2) (.ix (.lst (.cons (.cst (.str ")")) (.cons (.cst (.str "(")) .nil))) (.bi .int (.var 5))))) (.cons (.asg 3 (.bin .add (.var 3) (.ix (.lst (.cons (.neg (.cst (.int 1))) (.cons (.cst (.int 1)) .nil))) (.bi .int (.var 5))))) .nil))))
noncomputable def js:Fn :=
 ⟨2,7,[],[],(.cons (.asg 2 (.cst (.str ""))) (.cons (.asg 3 (.cst (.int 0))) (.cons (.forr [4] (.rng3 (-1) (.bin .mul (.cst (.int 2)) (.var 1)) (.cst (.int 0))) (fK)) (.cons (.ret (.var 2)) .nil))))⟩
noncomputable def dB:Ss :=
 (.cons (.ife (.cmp .eq (.ixD (.var 4) (.var 7)) (.var 9)) (.cons (.put 4 (.var 7) (.var 8)) .nil) .nil) .nil)
noncomputable def eO:Ss :=
 (.cons (.par 8 9 (.ixD (.var 4) (.var 5)) (.ixD (.var 4) (.var 6))) (.cons (.forr [7] (.seq (.var 2)) (dB)) .nil))
noncomputable def il:Ss :=
 (.cons (.forr [6] (.seq (.tup (.cons (.ix (.var 1) (.var 5)) (.cons (.bin .sub (.ix (.var 0) (.bin .add (.var 3) (.var 5))) (.var 3)) .nil)))) (eO)) .nil)
noncomputable def ig:Ss :=
 (.cons (.put 4 (.var 5) (.var 5)) .nil)
noncomputable def fG:Fn :=
 ⟨3,10,[4],[],(.cons (.asg 3 (.bin .fdiv (.bi .len (.var 0)) (.cst (.int 2)))) (.cons (.own 4 .dk0) (.cons (.forr [5] (.seq (.var 2)) (ig)) (.cons (.forr [5] (.seq (.var 2)) (il)) (.cons (.ret (.bi .lenSet (.compA (.ixD (.var 4) (.var 5)) [5] (.seq (.var 2))))) .nil)))))⟩
noncomputable def dz(f_law_rings_by:Nat):Ss :=
 (.cons (.ife (.cmp .eq (.cmp .eq (.ix (.var 7) (.cst (.int 0))) (.cst (.str "high"))) (.cmp .ge (.ix (.var 7) (.cst (.int 1))) (.var 2))) (.cons (.put 6 (.bin .mod (.ix (.var 7) (.cst (.int 1))) (.var 2)) (.cst (.bl true))) (.cons (.asg 7 (.ixD (.var 3) (.tup (.cons (.ix (.lst (.cons (.cst (.str "high")) (.cons (.cst (.str "low")) .nil))) (.bi .int (.cmp .eq (.ix (.var 7) (.cst (.int 0))) (.cst (.str "high"))))) (.cons (.bin .mod (.bin .add (.ix (.var 7) (.cst (.int 1))) (.var 2)) (.bin .mul (.cst (.int 2)) (.var 2))) .nil))))) .nil)) .nil) .nil)
noncomputable def fS(f_law_rings_by:Nat):Ss :=
 (.cons (.asg 7 (.ixD (.var 3) (.tup (.cons (.ix (.lst (.cons (.cst (.str "high")) (.cons (.cst (.str "low")) .nil))) (.bi .int (.cmp .ge (.var 4) (.var 2)))) (.cons (.var 4) .nil))))) (.cons (.forr [8] (.rng1 (.bin .mul (.cst (.int 4)) (.var 2))) (dz f_law_rings_by)) (.cons (.app 5 (.ix (.var 7) (.cst (.int 1)))) .nil)))
noncomputable def fO(f_law_rings_by:Nat):Ss :=
 (.cons (.put 3 (.tup (.cons (.cst (.str "high")) (.cons (.var 4) .nil))) (.tup (.cons (.cst (.str "high")) (.cons (.ix (.var 0) (.var 4)) .nil)))) (.cons (.put 3 (.tup (.cons (.cst (.str "low")) (.cons (.var 4) .nil))) (.tup (.cons (.cst (.str "low")) (.cons (.ix (.var 1) (.var 4)) .nil)))) .nil))
noncomputable def gy(f_law_rings_by:Nat):Fn :=
 ⟨2,9,[3,5,6],[],(.cons (.asg 2 (.bin .fdiv (.bi .len (.var 0)) (.cst (.int 2)))) (.cons (.own 3 .dt0) (.cons (.forr [4] (.rng1 (.bin .mul (.cst (.int 2)) (.var 2))) (fO f_law_rings_by)) (.cons (.own 5 (.lst .nil)) (.cons (.own 6 .dk0) (.cons (.forr [4] (.rng1 (.bin .mul (.cst (.int 2)) (.var 2))) (fS f_law_rings_by)) (.cons (.ret (.tup (.cons (.bi .tuple (.var 5)) (.cons (.call f_law_rings_by (.cons (.var 0) (.cons (.var 1) (.cons (.comp (.var 4) [4] (.rng1 (.var 2)) (.inD true (.var 4) (.var 6))) .nil)))) .nil)))) .nil)))))))⟩
noncomputable def gq:Fn :=
 ⟨1,3,[],[],(.cons (.asg 1 (.bin .fdiv (.bi .len (.var 0)) (.cst (.int 2)))) (.cons (.ret (.bi .tuple (.compA (.bin .mod (.bin .add (.ix (.var 0) (.bin .mod (.bin .add (.var 2) (.var 1)) (.bin .mul (.cst (.int 2)) (.var 1)))) (.var 1)) (.bin .mul (.cst (.int 2)) (.var 1))) [2] (.rng1 (.bin .mul (.cst (.int 2)) (.var 1)))))) .nil))⟩
noncomputable def i4(f_law_hung f_law_over f_law_from_text f_law_text f_law_hook f_law_plain f_law_digits:Nat):Fn :=
 ⟨3,7,[],[],(.cons (.unp [4,5,6] (.call f_law_digits (.cons (.var 0) (.cons (.var 1) (.cons (.lst (.cons (.cst (.int 8)) (.cons (.bin .pow (.cst (.int 10)) (.cst (.int 12))) (.cons (.max (.cst (.int 1)) (.bin .sub (.var 2) (.cst (.int 1)))) .nil)))) .nil))))) (.cons (.ife (.cmp .eq (.var 4) (.cst (.int 0))) (.cons (.ret (.call f_law_plain (.cons (.var 2) .nil))) .nil) .nil) (.cons (.ife (.and (.cmp .eq (.var 4) (.cst (.int 1))) (.cmp .gt (.var 2) (.cst (.int 1)))) (.cons (.ret (.call f_law_hook (.cons (.var 2) (.cons (.var 6) .nil)))) .nil) .nil) (.cons (.asg 3 (.call f_law_from_text (.cons (.call f_law_text (.cons (.var 5) (.cons (.var 2) .nil))) .nil))) (.cons (.ife (.cmp .eq (.var 4) (.cst (.int 2))) (.cons (.ret (.ix (.call f_law_hung (.cons (.var 3) (.cons (.call f_law_over (.cons (.var 3) .nil)) .nil))) (.cst (.int 0)))) .nil) .nil) (.cons (.ret (.var 3)) .nil))))))⟩
noncomputable def cX(f_law_same:Nat):Fn :=
 ⟨2,4,[],[],(.cons (.ife (.isN false (.var 1)) (.cons (.ret (.isN false (.var 0))) .nil) .nil) (.cons (.ife (.or (.cmp .ne (.isi (.var 0) .bool) (.isi (.var 1) .bool)) (.cmp .ne (.isi (.var 0) .int) (.isi (.var 1) .int))) (.cons (.ret (.cst (.bl false))) .nil) .nil) (.cons (.ife (.or (.cmp .ne (.isi (.var 0) .list) (.isi (.var 1) .list)) (.cmp .ne (.isi (.var 0) .tuple) (.isi (.var 1) .tuple))) (.cons (.ret (.cst (.bl false))) .nil) .nil) (.cons (.ife (.and (.not (.isi (.var 1) .list)) (.not (.isi (.var 1) .tuple))) (.cons (.ret (.and (.cmp .eq (.isi (.var 0) .str) (.isi (.var 1) .str)) (.cmp .eq (.var 0) (.var 1)))) .nil) .nil) (.cons (.ret (.and (.cmp .eq (.bi .len (.var 0)) (.bi .len (.var 1))) (.bi .all (.compA (.call f_law_same (.cons (.var 2) (.cons (.var 3) .nil))) [2,3] (.zip (.var 0) (.var 1)))))) .nil)))))⟩
noncomputable def jf(f_moved f_plain f_pegs_of f_check_frame:Nat):Fn :=
 ⟨1,1,[],[],(.cons (.exc (.call f_check_frame (.cons (.var 0) .nil))) (.cons (.ret (.call f_moved (.cons (.var 0) (.cons (.call f_plain (.cons (.call f_pegs_of (.cons (.var 0) .nil)) .nil)) .nil)))) .nil))⟩
noncomputable def xt:Ss :=
 (.cons (.app 3 (.var 4)) (.cons (.asg 5 (.ifx (.cmp .eq (.bin .mod (.bi .len (.var 3)) (.cst (.int 2))) (.cst (.int 0))) (.var 0) (.var 1))) (.cons (.asg 4 (.ix (.var 5) (.var 4))) .nil)))
noncomputable def qo:Fn :=
 ⟨3,6,[3],[],(.cons (.own 3 (.lst (.cons (.var 2) .nil))) (.cons (.asg 4 (.ix (.var 1) (.var 2))) (.cons (.whil (.inn true (.var 4) (.tup (.cons (.ix (.var 3) (.neg (.cst (.int 1)))) (.cons (.var 2) .nil)))) (xt)) (.cons (.ret (.var 3)) .nil))))⟩
noncomputable def iB(f_mark f_run:Nat):Ss :=
 (.cons (.ife (.not (.ix (.var 2) (.var 3))) (.cons (.aug 4 .add (.cst (.int 1))) (.cons (.mexc f_mark (.cons (.var 2) (.cons (.call f_run (.cons (.var 0) (.cons (.var 1) (.cons (.var 3) .nil)))) .nil)) [0] [2]) .nil)) .nil) .nil)
noncomputable def iG(f_mark f_run:Nat):Ss :=
 (.cons (.ife (.cmp .eq (.ix (.var 0) (.var 3)) (.var 3)) (.cons (.mexc f_mark (.cons (.var 2) (.cons (.call f_run (.cons (.var 0) (.cons (.var 1) (.cons (.var 3) .nil)))) .nil)) [0] [2]) .nil) .nil) (.cons (.ife (.cmp .eq (.ix (.var 1) (.var 3)) (.var 3)) (.cons (.mexc f_mark (.cons (.var 2) (.cons (.call f_run (.cons (.var 1) (.cons (.var 0) (.cons (.var 3) .nil)))) .nil)) [0] [2]) .nil) .nil) .nil))
noncomputable def jC(f_mark f_run:Nat):Fn :=
 ⟨2,5,[2],[],(.cons (.own 2 (.bin .mul (.lst (.cons (.cst (.bl false)) .nil)) (.bi .len (.var 0)))) (.cons (.forr [3] (.rng1 (.bi .len (.var 0))) (iG f_mark f_run)) (.cons (.asg 4 (.cst (.int 0))) (.cons (.forr [3] (.rng1 (.bi .len (.var 0))) (iB f_mark f_run)) (.cons (.ret (.var 4)) .nil)))))⟩
noncomputable def tP:Ss :=
 (.cons (.put 0 (.var 2) (.cst (.bl true))) .nil)
noncomputable def sI:Fn :=
 ⟨2,3,[0,0],[0],(.cons (.forr [2] (.seq (.var 1)) (tP)) .nil)⟩
noncomputable def fY(f_check_frame:Nat):Fn :=
 ⟨2,2,[],[],(.cons (.exc (.call f_check_frame (.cons (.var 0) .nil))) (.cons (.exc (.call f_check_frame (.cons (.var 1) .nil))) (.cons (.ife (.cmp .ne (.bi .len (.var 0)) (.bi .len (.var 1))) (.cons .never .nil) .nil) .nil)))⟩
noncomputable def wB(f_put_under f_check_two_frames:Nat):Fn :=
 ⟨2,2,[],[],(.cons (.exc (.call f_check_two_frames (.cons (.var 0) (.cons (.var 1) .nil)))) (.cons (.ret (.call f_put_under (.cons (.var 0) (.cons (.var 1) .nil)))) .nil))⟩
noncomputable def iA(f_rings_of f_run f_joints_between f_pegs_of:Nat):Fn :=
 ⟨2,10,[],[],(.cons (.asg 2 (.call f_pegs_of (.cons (.var 0) .nil))) (.cons (.asg 3 (.bin .add (.bi .list (.var 0)) (.compA (.bin .add (.bin .mul (.cst (.int 2)) (.var 2)) (.var 8)) [8] (.seq (.var 1))))) (.cons (.asg 4 (.call f_joints_between (.cons (.var 2) .nil))) (.cons (.asg 5 (.bin .add (.rng1 (.var 2)) (.rng2 (.bin .mul (.cst (.int 3)) (.var 2)) (.bin .mul (.cst (.int 4)) (.var 2))))) (.cons (.asg 6 (.compA (.ix (.call f_run (.cons (.var 4) (.cons (.var 3) (.cons (.var 8) .nil)))) (.neg (.cst (.int 1)))) [8] (.seq (.var 5)))) (.cons (.asg 7 (.bi .tuple (.compA (.ifx (.cmp .lt (.var 9) (.var 2)) (.var 9) (.bin .sub (.var 9) (.bin .mul (.cst (.int 2)) (.var 2)))) [9] (.seq (.var 6))))) (.cons (.ret (.tup (.cons (.var 7) (.cons (.call f_rings_of (.cons (.var 4) (.cons (.var 3) .nil))) .nil)))) .nil)))))))⟩
noncomputable def eC:Fn :=
 ⟨1,5,[],[],(.cons (.asg 1 (.rng1 (.var 0))) (.cons (.asg 2 (.rng2 (.var 0) (.bin .mul (.cst (.int 2)) (.var 0)))) (.cons (.asg 3 (.rng2 (.bin .mul (.cst (.int 2)) (.var 0)) (.bin .mul (.cst (.int 3)) (.var 0)))) (.cons (.asg 4 (.rng2 (.bin .mul (.cst (.int 3)) (.var 0)) (.bin .mul (.cst (.int 4)) (.var 0)))) (.cons (.ret (.bin .add (.bin .add (.bin .add (.var 1) (.var 3)) (.var 2)) (.var 4))) .nil)))))⟩
noncomputable def gU(f_law_frame:Nat):Fn :=
 ⟨4,5,[],[],(.cons (.ret (.compA (.call f_law_frame (.cons (.var 0) (.cons (.bin .add (.var 1) (.var 4)) (.cons (.var 2) .nil)))) [4] (.rng1 (.var 3)))) .nil)⟩
noncomputable def k8(f_is_uncrossed f_is_pairing f_is_peg_count:Nat):Fn :=
 ⟨1,1,[],[],(.cons (.ret (.and (.call f_is_peg_count (.cons (.bi .len (.var 0)) .nil)) (.and (.call f_is_pairing (.cons (.var 0) .nil)) (.call f_is_uncrossed (.cons (.var 0) .nil))))) .nil)⟩
end RT
namespace M
noncomputable def hg(l r:Nat)(g:Nat->Nat):Nat->Nat:=fun x=>if g l=r then g x else if x=r then l else if x=l then r else if x=g r then g l else if x=g l then g r else g x
section
variable{l r s p q:Nat}{g:Nat->Nat}
theorem F5(e:g l=r):hg l r g=g:=by funext x;unfold hg;rw[if_pos e]
theorem Ek(hlr:l≠r)(h:∀ x,g (g x)=x)(n1:g l≠l)(n2:g r≠r)(x:Nat):hg l r g (hg l r g x)=x:=by
 by_cases e:g l=r
 ·rw[F5 e];exact h x
 ·have k:∀ y,hg l r g y=if y=r then l else if y=l then r else if y=g r then g l else if y=g l then g r else g y:=fun y=>by unfold hg;rw[if_neg e]
  rw[k x,k]
  grind
theorem yR(hlr:l≠r)(h:∀ x,g (g x)=x)(n1:g l≠l)(n2:g r≠r){x:Nat}(nx:g x≠x):hg l r g x≠x:=by
 unfold hg;grind
end
end M
namespace RL
noncomputable def evF(cl:Cl)(fn:Fn)(ds:List D):Option D:=if ds.length=fn.ps then(af cl fn.M fn.body (ds.map some++List.replicate (fn.nn-fn.ps) none)).bind fun p=>match p.1 with
  | .nx=>aU fn .non p.2
  | .rt d=>aU fn d p.2
  else none
theorem ao{T:List Fn}{n f:Nat}{fn:Fn}{ds:List D}(h:T[f]?=some fn):au T (n+1) f ds=evF (au T n) fn ds:=by
 rw[au,h];rfl
noncomputable def L(xs:List Nat):List D:=xs.map fun(i:Nat)=>.int (i:Int)
theorem ud{f:St->Option (Out × St)}{tg:List Nat}(I:List D->St->Prop):∀ (ds done:List D) (σ:St),(∀ pre d post σ,done++ds=pre++d::post->I pre σ->d.imm=true/\∃ σ2,(aJ tg d σ).bind f=some (.nx,σ2)/\I (pre++[d]) σ2)->I done σ->∃ σ',bg f tg ds σ=some (.nx,σ')/\I (done++ds) σ'
 | [],done,σ,_,h=>⟨σ,rfl,by simpa using h⟩
 | d::ds,done,σ,hs,h=>by
  obtain⟨im,σ2,h1,h3⟩:=hs done d ds σ rfl h
  obtain⟨σ',h4,h5⟩:=ud I ds (done++[d]) σ2 (fun pre e post σ he=>hs pre e post σ (by simpa using he)) h3
  refine⟨σ',?_,by simpa using h5⟩
  rw[bg,if_pos im]
  cases hb:aJ tg d σ with
  | none=>rw[hb]at h1;cases h1
  |some σ1=>
   rw[hb]at h1
   simp only[Option.bind_some]at h1 ⊢
   rw[h1]
   exact h4
theorem Bz{f:St->Option (Out × St)}{tg:List Nat}{ds:List D}{σ:St}(I:List D->St->Prop)(h0:I [] σ)(hs:∀ pre d post σ,ds=pre++d::post->I pre σ->d.imm=true/\∃ σ2,(aJ tg d σ).bind f=some (.nx,σ2)/\I (pre++[d]) σ2):∃ σ',bg f tg ds σ=some (.nx,σ')/\I ds σ' :=
 ud I ds [] σ (by simpa using hs) h0
@[simp] theorem tf_lst {a:Es}:aG (.lst a)=true:=rfl
@[simp] theorem tf_tup {a:Es}:aG (.tup a)=true:=rfl
@[simp] theorem tf_comp {a:E} {b:List Nat} {c:It} {d:E}:aG (.comp a b c d)=true:=rfl
@[simp] theorem tf_compA {a:E} {b:List Nat} {c:It}:aG (.compA a b c)=true:=rfl
@[simp] theorem tf_bin {a:Bop} {b:E} {c:E}:aG (.bin a b c)=true:=rfl
@[simp] theorem tf_slT {a:E} {b:E}:aG (.slT a b)=true:=rfl
@[simp] theorem tf_slF {a:E} {b:E}:aG (.slF a b)=true:=rfl
@[simp] theorem tf_slB {a:E} {b:E} {c:E}:aG (.slB a b c)=true:=rfl
@[simp] theorem tf_rev {a:E}:aG (.rev a)=true:=rfl
@[simp] theorem tf_call {a:Nat} {b:Es}:aG (.call a b)=true:=rfl
@[simp] theorem tf_bi {a:Bi} {b:E}:aG (.bi a b)=true:=rfl
@[simp] theorem tf_rng1 {a:E}:aG (.rng1 a)=true:=rfl
@[simp] theorem tf_rng2 {a:E} {b:E}:aG (.rng2 a b)=true:=rfl
@[simp] theorem tf_rng3 {a:Int} {b:E} {c:E}:aG (.rng3 a b c)=true:=rfl
@[simp] theorem tf_dk0:aG .dk0=true:=rfl
@[simp] theorem tf_dt0:aG .dt0=true:=rfl
end RL
namespace RM
open RL RT
section basics
variable{a b:Int}
theorem c6:bh .lt (.int a) (.int b)=some (decide (a<b)):=rfl
theorem uI:bh .le (.int a) (.int b)=some (decide (a<=b)):=rfl
theorem ib:bh .gt (.int a) (.int b)=some (decide (b<a)):=rfl
theorem pz:bh .ge (.int a) (.int b)=some (decide (b<=a)):=rfl
theorem cA:bh .eq (.int a) (.int b)=some (a == b):=rfl
theorem m9:bh .ne (.int a) (.int b)=some (!(a == b)):=rfl
theorem bX:aB .add (.int a) (.int b)=some (.int (a+b)):=rfl
theorem j0:aB .sub (.int a) (.int b)=some (.int (a-b)):=rfl
theorem eh(h:0<b):aB .mod (.int a) (.int b)=some (.int (a%b)):=by dsimp only[aB];rw[if_pos h]
theorem l5(h:0<b)(h':b<2 ^ 200):aB .fdiv (.int a) (.int b)=some (.int (a / b)):=by dsimp only[aB];rw[if_pos ⟨h,h'⟩]
theorem bM(h1:-(2 ^ 64)<a)(h2:a<2 ^ 64):aB .mul (.int a) (.int b)=some (.int (a*b)):=by dsimp only[aB];rw[if_pos (.inl ⟨h1,h2⟩)]
theorem vP(h1:-(2 ^ 64)<b)(h2:b<2 ^ 64):aB .mul (.int a) (.int b)=some (.int (a*b)):=by dsimp only[aB];rw[if_pos (.inr ⟨h1,h2⟩)]
end basics
theorem B1{xs:List Nat}{pre post:List D}{d:D}(h:L xs=pre++d::post):∃ p x q,xs=p++x::q/\pre=L p/\d=.int (x:Nat)/\post=L q:=by
 unfold L at h
 obtain⟨p,r,rfl,h1,h2⟩:=List.map_eq_append_iff.mp h
 obtain⟨x,q,rfl,h3,h4⟩:=List.map_eq_cons_iff.mp h2
 exact⟨p,x,q,rfl,h1.symm,h3.symm,h4.symm⟩
theorem uM:∀ {a b:List Nat},L a=L b->a=b
 | [],[],_=>rfl
 | [],_::_,h=>by simp[L]at h
 | _::_,[],h=>by simp[L]at h
 | x::a,y::b,h=>by
  unfold L at h
  rw[List.map_cons,List.map_cons,List.cons.injEq]at h
  have h1:(x:Int)=y:=by injection h.1
  rw[uM (a:=a) (b:=b) h.2,Int.ofNat_inj.mp h1]
theorem cJ{f:St->Option (Out × St)}{tg:List Nat}{xs:List Nat}{σ:St}(I:List Nat->St->Prop)(h0:I [] σ)(hs:∀ p x q σ,xs=p++x::q->I p σ->∃ σ2,(aJ tg (.int (x:Nat)) σ).bind f=some (.nx,σ2)/\I (p++[x]) σ2):∃ σ',bg f tg (L xs) σ=some (.nx,σ')/\I xs σ':=by
 obtain⟨σ',e,p,hp,hi⟩:=Bz (f:=f) (tg:=tg) (ds:=L xs) (σ:=σ) (fun pre σ=>∃ p,pre=L p/\I p σ) ⟨[],rfl,h0⟩ (by
  rintro pre d post σ hd ⟨p',hp',hi⟩
  obtain⟨p,x,q,rfl,rfl,rfl,rfl⟩:=B1 hd
  have:=uM hp'
  subst this
  obtain⟨σ2,h1,h2⟩:=hs p x q σ rfl hi
  exact⟨rfl,σ2,h1,p++[x],by simp[L],h2⟩)
 have:=uM hp
 subst this
 exact⟨σ',e,hi⟩
theorem aF(xs:List Nat):(L xs).length=xs.length:=by simp[L]
theorem ql(xs:List Nat)(i:Nat):(L xs)[i]?=(xs[i]?).map fun(i:Nat)=>.int (i:Int):=by simp[L]
theorem AE(xs:List Nat)(i j:Nat):(L xs).set i (.int j)=L (xs.set i j):=by simp[L,List.map_set]
theorem aK:∀ xs:List Nat,aq (L xs)=true
 | []=>rfl
 | x::xs=>by
  show((D.int x).imm&&aq (L xs))=true
  rw[aK xs];rfl
theorem cN(xs ys:List Nat):L (xs++ys)=L xs++L ys:=by simp[L]
theorem fJ(xs:List α)(i:Nat):cB xs (i:Int)=xs[i]?:=by
 unfold cB
 rw[if_pos (Int.natCast_nonneg i)]
 rfl
theorem sQ{n i:Nat}(h:i<n):mD n (i:Int)=some i:=by
 unfold mD
 rw[if_pos (Int.natCast_nonneg i),if_pos (by lia)]
 rfl
theorem mw(a:Nat):∀ n:Nat,cH (a:Int) n=L (List.range' a n)
 | 0=>rfl
 | n+1=>by
  rw[cH,List.range'_succ]
  have:=mw (a+1) n
  rw[show((a+1:Nat):Int)=(a:Int)+1 by lia]at this
  rw[this]
  rfl
theorem cT{a b:Nat}(h1:a<=1000)(h2:b<=1000):dA (.int a) (.int b)=some (L (List.range' a (b-a))):=by
 dsimp only[dA]
 have:((b:Int)-a).toNat=b-a:=by lia
 rw[if_pos ⟨by unfold most;lia,by lia,by lia,by lia,by lia⟩,this,mw]
section
variable{cl:Cl}
theorem pX(i:Int):evF cl i8 [.int i]=some (.bl true):=rfl
theorem m8{f:Nat}(h:∀ i:Int,cl f [.int i]=some (.bl true))(i:Int):evF cl (dM f) [.int i]=some (.bl (decide (1<=i/\i<=10))):=by
 simp[evF,dM,af,evS,ev,evs,h,bh,aS,D.imm,aU]
 by_cases h1:1<=i<;>simp[h1,aS,D.imm,aU]
theorem oU{f:Nat}{i:Int}(h:cl f [.int i]=some (.bl true)):evF cl (bV f) [.int i]=some .non:=by
 simp[evF,bV,af,evS,ev,evs,h,truth,aU]
theorem B4(xs:List Nat){i j:Nat}(hi:i<xs.length)(hj:j<xs.length):evF cl qd [.lst (L xs),.int i,.int j]=some (.tup [.non,.lst (L ((xs.set i j).set j i))]):=by
 simp[evF,qd,af,evS,ev,evs,d5,mD,hi,hj,D.imm,aU,fv,aF,AE]
theorem qz(xs:List D):evF cl jU [.tup xs]=some (.int (xs.length / 2)):=rfl
noncomputable def aT(n:Nat):List Nat:=List.range' n n++List.range' 0 n
theorem run_plain{f:Nat}{n:Nat}(hn:n<=10)(h:cl f [.int n]=some .non):evF cl (fD f) [.int n]=some (.tup (L (aT n))):=by
 have e1:=cT (a:=n) (b:=2*n) (by lia) (by lia)
 rw[show 2*n-n=n by lia,show((2*n:Nat):Int)=2*(n:Int) by lia]at e1
 have e2:=cT (a:=0) (b:=n) (by lia) (by lia)
 rw[Nat.sub_zero]at e2
 have e3:aB .mul (.int 2) (.int n)=some (.int (2*n)):=by
  dsimp only[aB]
  rw[if_pos (by lia)]
 have e4:aB .add (.lst (L (List.range' n n))) (.lst (L (List.range' 0 n)))=some (.lst (L (aT n))):=by
  dsimp only[aB]
  rw[if_pos (by simp[aF,most];lia),aT,cN]
 simp only[Int.natCast_zero]at e2
 simp[evF,fD,af,evS,ev,evs,h,e1,e2,e3,e4,biV,items,aS,D.imm,aK,aU]
noncomputable def at'(f:List Nat)(x:Nat):Nat:=(f[x]?).getD x
noncomputable def j7(f:List Nat)(l:Nat):List Nat:=if at' f l=l+1 then f else(((f.set (at' f l) (at' f (l+1))).set (at' f (l+1)) (at' f l)).set l (l+1)).set (l+1) l
structure Frm(n:Nat)(f:List Nat):Prop where
 len:f.length=2*n
 lt:∀ x,x<2*n->at' f x<2*n
 inv:∀ x,at' f (at' f x)=x
 no:∀ x,x<2*n->at' f x≠x
theorem fI{f:List Nat}{x:Nat}(h:x<f.length):f[x]?=some (at' f x):=by simp[at',h]
theorem di{f:List Nat}{x:Nat}(h:f.length<=x):at' f x=x:=by simp[at',h]
theorem cQ{f:List Nat}{i j x:Nat}(h:i<f.length):at' (f.set i j) x=if x=i then j else at' f x:=by
 unfold at'
 rw[List.getElem?_set]
 by_cases e:i=x
 ·subst e
  simp[h]
 ·simp[e,Ne.symm e]
theorem oA(F:Frm n f){l:Nat}(hl:l+1<2*n):at' (j7 f l)=M.hg l (l+1) (at' f):=by
 funext x
 unfold j7 M.hg
 have a1:=F.lt l (by lia)
 have a2:=F.lt (l+1) hl
 have hlen:=F.len
 by_cases e:at' f l=l+1
 ·rw[if_pos e,if_pos e]
 ·rw[if_neg e,if_neg e,cQ (by simp;lia),cQ (by simp;lia),cQ (by simp;lia),cQ (by lia)]
theorem zt{f:List Nat}{l:Nat}:(j7 f l).length=f.length:=by
 unfold j7
 split
 ·rfl
 ·simp
theorem yx(F:Frm n f){l:Nat}(hl:l+1<2*n):Frm n (j7 f l):=by
 have n1:=F.no l (by lia)
 have n2:=F.no (l+1) hl
 refine⟨by rw[zt];exact F.len,fun x hx=>?_,fun x=>?_,fun x hx=>?_⟩
 ·rw[oA F hl]
  unfold M.hg
  have a1:=F.lt l (by lia)
  have a2:=F.lt (l+1) hl
  have a3:=F.lt x hx
  repeat' split
  all_goals lia
 ·rw[oA F hl]
  exact M.Ek (by lia) F.inv n1 n2 x
 ·rw[oA F hl]
  exact M.yR (by lia) F.inv n1 n2 (F.no x hx)
theorem xG{n:Nat}{f g:List Nat}(F:f.length=2*n)(G:g.length=2*n)(h:at' f=at' g):f=g:=by
 apply List.ext_getElem?
 intro i
 by_cases hi:i<2*n
 ·rw[fI (by lia),fI (by lia),h]
 ·rw[List.getElem?_eq_none (by lia),List.getElem?_eq_none (by lia)]
end
section
variable{cl:Cl}
theorem plain_at(n x:Nat):at' (aT n) x=if x<n then n+x else if x<2*n then x-n else x:=by
 unfold at' aT
 by_cases h1:x<n
 ·rw[List.getElem?_append_left (by simpa using h1),if_pos h1]
  simp[h1]
 ·rw[List.getElem?_append_right (by simpa using h1),if_neg h1]
  by_cases h2:x<2*n
  ·rw[if_pos h2]
   simp[show x-n<n by lia]
  ·rw[if_neg h2]
   simp[show ¬ x-n<n by lia]
theorem jV(n:Nat):Frm n (aT n):=by
 refine⟨by simp[aT];lia,fun x hx=>?_,fun x=>?_,fun x hx=>?_⟩
 ·rw[plain_at];repeat' split
  all_goals lia
 ·rw[plain_at,plain_at];repeat' split
  all_goals lia
 ·rw[plain_at];repeat' split
  all_goals lia
end
end RM
namespace RL
section
variable{cl:Cl}{M:List Nat}{σ σ':St}{e t:E}{d:D}{r a b:Ss}{i j:Nat}{res:Option (Out × St)}
theorem aC:af cl M .nil σ=some (.nx,σ):=by rw[af]
theorem d6{s:S}(h:evS cl M s σ=some (.nx,σ'))(k:af cl M r σ'=res):af cl M (.cons s r) σ=res:=by
 rw[af,h];exact k
theorem qi{s:S}(h:evS cl M s σ=some (.rt d,σ')):af cl M (.cons s r) σ=some (.rt d,σ'):=by
 rw[af,h];rfl
theorem a7(h:ev cl σ e=some d)(ok:aQ M e d=true)(k:af cl M r (σ.set i (some d))=res):af cl M (.cons (.asg i e) r) σ=res :=
 d6 (by rw[evS,h];show(if aQ M e d=true then _ else _)=_;rw[if_pos ok]) k
theorem eQ(h:ev cl σ e=some d)(ok:(a9 d&&aG e)=true)(k:af cl M r (σ.set i (some d))=res):af cl M (.cons (.own i e) r) σ=res :=
 d6 (by rw[evS,h];show(if(a9 d&&aG e)=true then _ else _)=_;rw[if_pos ok]) k
theorem df(h:ev cl σ e=some d)(k:af cl M r σ=res):af cl M (.cons (.exc e) r) σ=res :=
 d6 (by rw[evS,h];rfl) k
theorem aL(h:ev cl σ e=some d)(ok:aS M e d=true):af cl M (.cons (.ret e) r) σ=some (.rt d,σ) :=
 qi (by rw[evS,h];show(if aS M e d=true then _ else _)=_;rw[if_pos ok])
theorem dQ(h:(ev cl σ t).bind truth=some true)(h1:af cl M a σ=some (.nx,σ'))(k:af cl M r σ'=res):af cl M (.cons (.ife t a b) r) σ=res :=
 d6 (by rw[evS,h];exact h1) k
theorem dI(h:(ev cl σ t).bind truth=some true)(h1:af cl M a σ=some (.rt d,σ')):af cl M (.cons (.ife t a b) r) σ=some (.rt d,σ') :=
 qi (by rw[evS,h];exact h1)
theorem hZ(h:(ev cl σ t).bind truth=some false)(h1:af cl M b σ=some (.nx,σ'))(k:af cl M r σ'=res):af cl M (.cons (.ife t a b) r) σ=res :=
 d6 (by rw[evS,h];exact h1) k
theorem lu(h:(ev cl σ t).bind truth=some false)(h1:af cl M b σ=some (.rt d,σ')):af cl M (.cons (.ife t a b) r) σ=some (.rt d,σ') :=
 qi (by rw[evS,h];exact h1)
theorem br(h:(ev cl σ t).bind truth=some false)(k:af cl M r σ=res):af cl M (.cons (.ife t a .nil) r) σ=res:=hZ h aC k
theorem r9{is:List Nat}{ds:List D}(h:ev cl σ e=some d)(hd:items d=some ds)(im:aq ds=true)(hs:bA is ds σ=some σ')(k:af cl M r σ'=res):af cl M (.cons (.unp is e) r) σ=res :=
 d6 (by rw[evS,h,Option.bind_some,hd];show(if aq ds=true then _ else _)=_;rw[if_pos im,hs];rfl) k
theorem nJ{x y:D}{e':E}(h:ev cl σ e=some x)(h':ev cl σ e'=some y)(im:(x.imm&&y.imm)=true)(k:af cl M r ((σ.set i (some x)).set j (some y))=res):af cl M (.cons (.par i j e e') r) σ=res :=
 d6 (by rw[evS,h,Option.bind_some,h'];show(if(x.imm&&y.imm)=true then _ else _)=_;rw[if_pos im]) k
theorem sE{xs:List D}(h:ev cl σ e=some d)(hi:(σ[i]?).bind id=some (.lst xs))(im:d.imm=true)(hl:xs.length<most)(k:af cl M r (σ.set i (some (.lst (xs++[d]))))=res):af cl M (.cons (.app i e) r) σ=res :=
 d6 (by rw[evS,h,Option.bind_some,hi];show(if(d.imm&&decide (xs.length<most))=true then _ else _)=_;rw[if_pos (by rw[im,decide_eq_true hl];rfl)]) k
theorem ke{x kk l l':D}{e':E}(h:ev cl σ e'=some x)(h':ev cl σ e=some kk)(hi:(σ[i]?).bind id=some l)(im:x.imm=true)(hp:d5 l kk x=some l')(k:af cl M r (σ.set i (some l'))=res):af cl M (.cons (.put i e e') r) σ=res :=
 d6 (by rw[evS,h,Option.bind_some,h',Option.bind_some,hi,Option.bind_some,if_pos im,hp];rfl) k
theorem Dh{x y z:Int}{o:Bop}(hi:(σ[i]?).bind id=some (.int x))(h:ev cl σ e=some (.int y))(hb:aB o (.int x) (.int y)=some (.int z))(k:af cl M r (σ.set i (some (.int z)))=res):af cl M (.cons (.aug i o e) r) σ=res :=
 d6 (by rw[evS,hi,Option.bind_some,h];show Option.map _ (aB o (.int x) (.int y))=_;rw[hb];rfl) k
theorem Ei{xs:List D}(hi:(σ[i]?).bind id=some (.lst (xs++[d])))(k:af cl M r ((σ.set i (some (.lst xs))).set j (some d))=res):af cl M (.cons (.pop i j) r) σ=res :=
 d6 (by rw[evS,hi];simp) k
theorem cm{tg:List Nat}{it:It}{ds:List D}{b:Ss}(h:bb cl σ it=some ds)(h1:bg (af cl M b) tg ds σ=some (.nx,σ'))(k:af cl M r σ'=res):af cl M (.cons (.forr tg it b) r) σ=res :=
 d6 (by rw[evS,h];exact h1) k
theorem AZ{tg:List Nat}{it:It}{ds:List D}{b:Ss}(h:bb cl σ it=some ds)(h1:bg (af cl M b) tg ds σ=some (.rt d,σ')):af cl M (.cons (.forr tg it b) r) σ=some (.rt d,σ') :=
 qi (by rw[evS,h];exact h1)
theorem EH{b:Ss}(h1:whF (fun σ=>(ev cl σ t).bind truth) (af cl M b) most σ=some (.nx,σ'))(k:af cl M r σ'=res):af cl M (.cons (.whil t b) r) σ=res :=
 d6 (by rw[evS];exact h1) k
theorem iX{f:Nat}{es:Es}{ps ms:List Nat}{ds outs:List D}(h:evs cl σ es=some ds)(ok:dP M ps 0 es ds=true)(hc:cl f ds=some (.tup (d::outs)))(hs:bA ms outs σ=some σ')(k:af cl M r σ'=res):af cl M (.cons (.mexc f es ps ms) r) σ=res :=
 d6 (by rw[evS,h,Option.bind_some,if_pos ok,hc,Option.bind_some];show Option.map _ (bA ms outs σ)=_;rw[hs];rfl) k
theorem aa(h:(σ[i]?).bind id=some d):ev cl σ (.var i)=some d:=by rw[ev];exact h
theorem aj:ev cl σ (.cst d)=some d:=by rw[ev]
theorem x_call{f:Nat}{es:Es}{ds:List D}(h:evs cl σ es=some ds)(hc:cl f ds=some d):ev cl σ (.call f es)=some d:=by rw[ev,h];exact hc
theorem bu:evs cl σ .nil=some []:=by rw[evs]
theorem a6{es:Es}{ds:List D}(h:ev cl σ e=some d)(hr:evs cl σ es=some ds):evs cl σ (.cons e es)=some (d::ds):=by rw[evs,h,Option.bind_some,hr];rfl
theorem b8{f:Nat}(h:ev cl σ e=some d){x:D}(hc:cl f [d]=some x):ev cl σ (.call f (.cons e .nil))=some x:=x_call (a6 h bu) hc
theorem c9{f:Nat}{e':E}{d' x:D}(h:ev cl σ e=some d)(h':ev cl σ e'=some d')(hc:cl f [d,d']=some x):ev cl σ (.call f (.cons e (.cons e' .nil)))=some x:=x_call (a6 h (a6 h' bu)) hc
theorem mj{f:Nat}{e' e'':E}{d' d'' x:D}(h:ev cl σ e=some d)(h':ev cl σ e'=some d')(h'':ev cl σ e''=some d'')(hc:cl f [d,d',d'']=some x):ev cl σ (.call f (.cons e (.cons e' (.cons e'' .nil))))=some x:=x_call (a6 h (a6 h' (a6 h'' bu))) hc
theorem az{o:Bop}{e':E}{x y:D}(h:ev cl σ e=some x)(h':ev cl σ e'=some y)(hb:aB o x y=some d):ev cl σ (.bin o e e')=some d:=by rw[ev,h,Option.bind_some,h'];exact hb
theorem a8{o:Cop}{e':E}{x y:D}{k:Bool}(h:ev cl σ e=some x)(h':ev cl σ e'=some y)(hb:bh o x y=some k):ev cl σ (.cmp o e e')=some (.bl k):=by rw[ev,h,Option.bind_some,h',Option.bind_some,hb];rfl
theorem b9{e':E}{x y:D}(h:ev cl σ e=some x)(h':ev cl σ e'=some y)(hb:ixV x y=some d):ev cl σ (.ix e e')=some d:=by rw[ev,h,Option.bind_some,h'];exact hb
theorem aO{o:Bi}{x:D}(h:ev cl σ e=some x)(hb:biV o x=some d):ev cl σ (.bi o e)=some d:=by rw[ev,h];exact hb
theorem vt{e':E}{x y:D}(h:ev cl σ e=some x)(h':ev cl σ e'=some y)(hb:kc x y=some d):ev cl σ (.slT e e')=some d:=by rw[ev,h,Option.bind_some,h'];exact hb
theorem FY{e':E}{x y:D}(h:ev cl σ e=some x)(h':ev cl σ e'=some y)(hb:v3 x y=some d):ev cl σ (.slF e e')=some d:=by rw[ev,h,Option.bind_some,h'];exact hb
theorem j5{e':E}{x y:D}(h:ev cl σ e=some x)(h':ev cl σ e'=some y)(hb:pe x y=some d):ev cl σ (.ixD e e')=some d:=by rw[ev,h,Option.bind_some,h'];exact hb
theorem G4{e':E}{x y:D}{n k:Bool}(h:ev cl σ e=some x)(h':ev cl σ e'=some y)(hb:inV x y=some k):ev cl σ (.inn n e e')=some (.bl (if n then !k else k)):=by rw[ev,h,Option.bind_some,h',Option.bind_some,hb];rfl
theorem cI{t:Ty}{x:D}{k:Bool}(h:ev cl σ e=some x)(hb:cY t x=some k):ev cl σ (.isi e t)=some (.bl k):=by rw[ev,h,Option.bind_some,hb];rfl
theorem uR{k:Int}(h:ev cl σ e=some (.int k)):ev cl σ (.neg e)=some (.int (-k)):=by rw[ev,h];rfl
theorem FW{e':E}{x y:Int}(h:ev cl σ e=some (.int x))(h':ev cl σ e'=some (.int y)):ev cl σ (.max e e')=some (.int (if y > x then y else x)):=by rw[ev,h,Option.bind_some,h'];rfl
theorem oq{c c':Cop}{e' e'':E}{x y z:D}{k:Bool}(h:ev cl σ e=some x)(h':ev cl σ e'=some y)(h'':ev cl σ e''=some z)(b1:bh c x y=some true)(b2:bh c' y z=some k):ev cl σ (.chain c c' e e' e'')=some (.bl k):=by rw[ev,h,Option.bind_some,h',Option.bind_some,b1,Option.bind_some,if_pos rfl,h'',Option.bind_some,b2];rfl
theorem zA{c c':Cop}{e' e'':E}{x y:D}(h:ev cl σ e=some x)(h':ev cl σ e'=some y)(b1:bh c x y=some false):ev cl σ (.chain c c' e e' e'')=some (.bl false):=by rw[ev,h,Option.bind_some,h',Option.bind_some,b1];rfl
theorem uv{x:D}{ds:List D}(h:ev cl σ e=some x)(hr:dA (.int 0) x=some ds):ev cl σ (.rng1 e)=some (.lst ds):=by rw[ev,h,Option.bind_some,hr];rfl
theorem lB{e':E}{x y:D}{ds:List D}(h:ev cl σ e=some x)(h':ev cl σ e'=some y)(hr:dA x y=some ds):ev cl σ (.rng2 e e')=some (.lst ds):=by rw[ev,h,Option.bind_some,h',Option.bind_some,hr];rfl
theorem Bb{e':E}{xs:List D}{is:List Int}{k:Int}(h:ev cl σ e=some (.lst xs))(h':ev cl σ e'=some (.int k))(hi:c8 xs=some is)(hm:k∈is):ev cl σ (.index e e')=some (.int (is.idxOf k)):=by
 rw[ev,h,Option.bind_some,h',Option.bind_some]
 show(c8 xs).bind _=_
 rw[hi,Option.bind_some,if_pos hm]
theorem dZ{es:Es}{ds:List D}(h:evs cl σ es=some ds):ev cl σ (.lst es)=some (.lst ds):=by rw[ev,h];rfl
theorem gz{es:Es}{ds:List D}(h:evs cl σ es=some ds):ev cl σ (.tup es)=some (.tup ds):=by rw[ev,h];rfl
theorem cq{e':E}(h:ev cl σ e=some (.bl true))(h':ev cl σ e'=some d):ev cl σ (.and e e')=some d:=by rw[ev,h];exact h'
theorem fW{e':E}(h:ev cl σ e=some (.bl false)):ev cl σ (.and e e')=some (.bl false):=by rw[ev,h];rfl
theorem i7{e':E}(h:ev cl σ e=some (.bl false))(h':ev cl σ e'=some d):ev cl σ (.or e e')=some d:=by rw[ev,h];exact h'
theorem G5{e':E}(h:ev cl σ e=some (.bl true)):ev cl σ (.or e e')=some (.bl true):=by rw[ev,h];rfl
theorem Gx{k:Bool}(h:(ev cl σ e).bind truth=some k):ev cl σ (.not e)=some (.bl (!k)):=by rw[ev,h];rfl
theorem cO{k:Bool}(h:ev cl σ e=some (.bl k)):ev cl σ (.not e)=some (.bl (!k)):=Gx (by rw[h];rfl)
theorem kY{t e':E}{k:Bool}(h:(ev cl σ t).bind truth=some k)(h':ev cl σ (if k then e else e')=some d):ev cl σ (.ifx t e e')=some d:=by
 rw[ev,h];cases k<;>exact h'
theorem aI{k:Bool}(h:ev cl σ e=some (.bl k)):(ev cl σ e).bind truth=some k:=by rw[h];rfl
theorem cb{tg:List Nat}{it:It}{ds ys:List D}(h:bb cl σ it=some ds)(hf:ds.length<=most)(hm:bW (fun σ1=>(ev cl σ1 e).map some) tg σ ds=some ys):ev cl σ (.compA e tg it)=some (.lst ys):=by
 rw[ev,h,Option.bind_some,fits,if_pos hf,Option.bind_some,hm];rfl
theorem sk{tg:List Nat}{it:It}{ds ys:List D}(h:bb cl σ it=some ds)(hf:ds.length<=most)(hm:bW (fun σ1=>((ev cl σ1 t).bind truth).bind fun k=>if k then(ev cl σ1 e).map some else some none) tg σ ds=some ys):ev cl σ (.comp e tg it t)=some (.lst ys):=by
 rw[ev,h,Option.bind_some,fits,if_pos hf,Option.bind_some,hm];rfl
theorem iM{x:D}{ds:List D}(h:ev cl σ e=some x)(hr:dA (.int 0) x=some ds):bb cl σ (.rng1 e)=some ds:=by rw[bb,h];exact hr
theorem xr{c:Int}{e':E}{x y:D}{ds:List D}(h:ev cl σ e=some x)(h':ev cl σ e'=some y)(hr:fQ c x y=some ds):bb cl σ (.rng3 c e e')=some ds:=by rw[bb,h,Option.bind_some,h'];exact hr
theorem cK{x:D}{ds:List D}(h:ev cl σ e=some x)(hr:items x=some ds):bb cl σ (.seq e)=some ds:=by rw[bb,h];exact hr
theorem AA{e':E}{x y:D}{xs ys:List D}(h:ev cl σ e=some x)(h':ev cl σ e'=some y)(hx:items x=some xs)(hy:items y=some ys)(hl:xs.length=ys.length):bb cl σ (.zip e e')=some (dO xs ys):=by rw[bb,h,Option.bind_some,h',Option.bind_some,hx,Option.bind_some,hy,Option.bind_some,if_pos hl]
theorem Gp{x:D}{n k:Bool}(hk:(match x with | .non=>some (D.bl (!n)) | .dK _ _=>none | .dT _ _=>none | _=>some (.bl n))=some (D.bl k))(h:ev cl σ e=some x):ev cl σ (.isN n e)=some (.bl k):=by rw[ev,h];exact hk
theorem jg{x:D}{ds:List D}(h:ev cl σ e=some x)(hr:dU x=some ds):bb cl σ (.enm e)=some (cF 0 ds):=by rw[bb,h,Option.bind_some,hr];rfl
end
theorem EO{f:St->Option (Out × St)}{tg:List Nat}{σ:St}:bg f tg [] σ=some (.nx,σ):=rfl
theorem u7{f:St->Option (Out × St)}{tg:List Nat}{d:D}{r:List D}{σ σ1 σ2:St}{res:Option (Out × St)}(im:d.imm=true)(hb:aJ tg d σ=some σ1)(h:f σ1=some (.nx,σ2))(k:bg f tg r σ2=res):bg f tg (d::r) σ=res:=by
 rw[bg,if_pos im,hb,Option.bind_some,h];exact k
theorem aN{cl:Cl}{fn:Fn}{ds:List D}{d:D}{σ':St}(hl:ds.length=fn.ps)(hm:fn.mp=[])(h:af cl fn.M fn.body (ds.map some++List.replicate (fn.nn-fn.ps) none)=some (.rt d,σ')):evF cl fn ds=some d:=by
 unfold evF
 rw[if_pos hl,h]
 show aU fn d σ'=_
 unfold aU
 rw[hm]
 rfl
theorem nS{cl:Cl}{fn:Fn}{ds:List D}{σ':St}(hl:ds.length=fn.ps)(hm:fn.mp=[])(h:af cl fn.M fn.body (ds.map some++List.replicate (fn.nn-fn.ps) none)=some (.nx,σ')):evF cl fn ds=some .non:=by
 unfold evF
 rw[if_pos hl,h]
 show aU fn .non σ'=_
 unfold aU
 rw[hm]
 rfl
end RL
namespace RM
open RL RT
noncomputable def LI(xs:List Int):List D:=xs.map D.int
theorem xO(xs:List Int):(LI xs).length=xs.length:=by simp[LI]
theorem vS:∀ xs:List Int,aq (LI xs)=true
 | []=>rfl
 | x::xs=>by
  show((D.int x).imm&&aq (LI xs))=true
  rw[vS xs];rfl
section
variable{cl:Cl}
theorem mod_lt{a b:Int}(h:0<b):0<=a%b/\a%b<b:=⟨Int.emod_nonneg _ (by lia),Int.emod_lt_of_pos _ h⟩
theorem BD(s:Int):∃ m:Int,evF cl jT [.int s]=some (.int m):=by
 have a1:=mod_lt (a:=s*48271+11) (b:=2147483647) (by decide)
 generalize h1:(s*48271+11)%2147483647=one at a1
 have a2:=mod_lt (a:=one*one+40692*one+s) (b:=2147483399) (by decide)
 generalize h2:(one*one+40692*one+s)%2147483399=two at a2
 exact⟨_,aN rfl rfl (a7 (d:=.int one) (az (az (az (aa rfl) aj (vP (by decide) (by decide))) aj bX) aj (by rw[eh (by decide),h1])) rfl
  (a7 (d:=.int two) (az (az (az (az (aa rfl) (aa rfl) (bM (by lia) (by lia))) (az aj (aa rfl) (bM (by decide) (by decide))) bX) (aa rfl) bX) aj (by rw[eh (by decide),h2])) rfl
  (aL (az (az (az (az (aa rfl) (aa rfl) (bM (by omega) (by omega))) (az aj (aa rfl) (bM (by decide) (by decide))) bX) (aa rfl) bX) aj (eh (by decide))) rfl)))⟩
theorem BA{f:Nat}(h:∀ s:Int,∃ m:Int,cl f [.int s]=some (.int m)){ns:List Int}(hl:ns.length<=63){k:Nat}(hk:k<=1000):∃ r:Int,evF cl (jS f) [.lst (LI ns),.int k]=some (.int r):=by
 have pw:aB .pow (.int 10) (.int 18)=some (.int 1000000000000000000):=rfl
 have rest:∀ c:Int,∃ r σ',af cl [] (.cons (.asg 3 (.cst (.int 0))) (.cons (.forr [4] (.rng1 (.cst (.int 40))) (jm f)) (.cons (.ret (.var 3)) .nil))) [some (.lst (LI ns)),some (.int k),some (.int c),none,none]=some (.rt (.int r),σ'):=by
  intro c
  have hr:dA (.int 0) (.int 40)=some (L (List.range' 0 40)):=congrArg some (mw 0 40)
  obtain⟨σ',e,r,o,rfl⟩:=cJ (f:=af cl [] (jm f)) (tg:=[4]) (xs:=List.range' 0 40) (σ:=[some (.lst (LI ns)),some (.int k),some (.int c),some (.int 0),none])
   (fun p σ=>∃ (r:Int) (o:Option D),σ=[some (.lst (LI ns)),some (.int k),some (.int c),some (.int r),o]) ⟨0,none,rfl⟩ (by
    rintro p x q σ hx ⟨r,o,rfl⟩
    obtain⟨m,hm⟩:=h (c+1009*k+7919*x)
    exact⟨_,a7 (az (az (aa rfl) aj (vP (by decide) (by decide))) (b8 (az (az (aa rfl) (az aj (aa rfl) (bM (by decide) (by decide))) bX) (az aj (aa rfl) (bM (by decide) (by decide))) bX) hm) bX) rfl aC,_,_,rfl⟩)
  exact⟨r,_,a7 aj rfl (cm (iM aj hr) e (aL (aa rfl) rfl))⟩
 have len:biV .len (.lst (LI ns))=some (.int ns.length):=congrArg (fun n:Nat=>some (D.int n)) (xO ns)
 have first:ev cl [some (.lst (LI ns)),some (.int k),none,none,none] (.bin .add (.bin .mul (.cst (.int 7)) (.var 1)) (.cst (.int 3)))=some (.int (7*k+3)):=az (az aj (aa rfl) (bM (by decide) (by decide))) aj bX
 by_cases h0:0<ns.length
 ·have hmod:=mod_lt (a:=(k:Int)) (b:=(ns.length:Int)) (by lia)
  obtain⟨j,hj⟩:=Int.eq_ofNat_of_zero_le hmod.1
  have hjl:j<ns.length:=by lia
  have ix:ixV (.lst (LI ns)) (.int ((k:Int)%ns.length))=some (.int ns[j]):=by
   show cB (LI ns) _=_
   rw[hj,fJ]
   simp[LI,hjl]
  obtain⟨r,σ',hr⟩:=rest (ns[j]+9973*((k:Int) / ns.length))
  generalize hc:ns[j]+9973*((k:Int) / ns.length)=cell at hr
  have cel:∀ {r':Ss} {res:Option (Out × St)},af cl [] r' [some (.lst (LI ns)),some (.int k),some (.int cell),none,none]=res->af cl [] (.cons (.asg 2 (.bin .add (.bin .mul (.cst (.int 7)) (.var 1)) (.cst (.int 3)))) (.cons (.ife (.cmp .gt (.bi .len (.var 0)) (.cst (.int 0))) (.cons (.asg 2 (.bin .add (.ix (.var 0) (.bin .mod (.var 1) (.bi .len (.var 0)))) (.bin .mul (.cst (.int 9973)) (.bin .fdiv (.var 1) (.bi .len (.var 0)))))) .nil) .nil) r')) [some (.lst (LI ns)),some (.int k),none,none,none]=res:=fun z =>
   a7 first rfl (dQ (aI (a8 (aO (aa rfl) len) aj (by rw[ib,decide_eq_true (by lia)]))) (a7 (d:=.int cell) (az (b9 (aa rfl) (az (aa rfl) (aO (aa rfl) len) (eh (by lia))) ix) (az aj (az (aa rfl) (aO (aa rfl) len) (l5 (by lia) (by lia))) (bM (by decide) (by decide))) (by rw[bX,hc])) rfl aC) z)
  by_cases h1:k<ns.length
  ·have c1:bh .lt (.int (k:Nat)) (.int (ns.length:Nat))=some true:=by rw[c6,decide_eq_true (by lia)]
   by_cases h2:(1000000000000000000:Int)<=cell
   ·exact⟨_,aN rfl rfl (cel (dI (aI (cq (a8 (aa rfl) (aO (aa rfl) len) c1) (a8 (aa rfl) (az aj aj pw) (by rw[pz,decide_eq_true h2])))) (aL (az (aa rfl) (az aj aj pw) j0) rfl)))⟩
   ·exact⟨r,aN rfl rfl (cel (br (aI (cq (a8 (aa rfl) (aO (aa rfl) len) c1) (a8 (aa rfl) (az aj aj pw) (by rw[pz,decide_eq_false h2])))) hr))⟩
  ·exact⟨r,aN rfl rfl (cel (br (aI (fW (a8 (aa rfl) (aO (aa rfl) len) (by rw[c6,decide_eq_false (by lia)])))) hr))⟩
 ·obtain⟨r,σ',hr⟩:=rest (7*k+3)
  exact⟨r,aN rfl rfl (a7 first rfl (br (aI (a8 (aO (aa rfl) len) aj (by rw[ib,decide_eq_false (by lia)]))) (br (aI (fW (a8 (aa rfl) (aO (aa rfl) len) (by rw[c6,decide_eq_false (by lia)])))) hr)))⟩
end
section
variable{cl:Cl}
noncomputable def kG(ds sizes:List Nat):Prop:=ds.length=sizes.length/\∀ (i d s:Nat),ds[i]?=some d->sizes[i]?=some s->d<s
theorem kG.snoc{d s:Nat}(h:kG ds sizes)(hd:d<s):kG (ds++[d]) (sizes++[s]):=by
 refine⟨by simp[h.1],fun i x y h1 h2=>?_⟩
 by_cases hi:i<ds.length
 ·rw[List.getElem?_append_left hi]at h1
  rw[List.getElem?_append_left (by rw[<-h.1];exact hi)]at h2
  exact h.2 i x y h1 h2
 ·rw[List.getElem?_append_right (by lia)]at h1
  rw[List.getElem?_append_right (by rw[<-h.1];lia)]at h2
  rw[h.1]at h1
  cases hk:i-sizes.length with
  | zero=>rw[hk]at h1 h2;simp at h1 h2;lia
  | succ k=>rw[hk]at h1;simp at h1
theorem vb{f:Nat}{scr:D}{k:Nat}{sizes:List Nat}{r:Int}(h:cl f [scr,.int k]=some (.int r))(hp:∀ s∈sizes,0<s/\s<2 ^ 200)(hlen:sizes.length<=1000):∃ ds:List Nat,kG ds sizes/\evF cl (eU f) [scr,.int k,.lst (L sizes)]=some (.lst (L ds)):=by
 obtain⟨σ',e,r',ds,o,hds,rfl⟩:=cJ (f:=af cl [4] (gj f)) (tg:=[5]) (xs:=sizes) (σ:=[some scr,some (.int k),some (.lst (L sizes)),some (.int r),some (.lst []),none])
  (fun p σ=>∃ (r:Int) (ds:List Nat) (o:Option D),kG ds p/\σ=[some scr,some (.int k),some (.lst (L sizes)),some (.int r),some (.lst (L ds)),o]) ⟨r,[],none,⟨rfl,by simp⟩,rfl⟩ (by
   rintro p x q σ hx ⟨r,ds,o,hds,rfl⟩
   have hx0:=hp x (by rw[hx];simp)
   have hpl:p.length<1000:=by
    have:=congrArg List.length hx
    simp at this
    lia
   have hx1:(0:Int)<x:=by lia
   have hx2:(x:Int)<2 ^ 200:=by
    have:=hx0.2
    lia
   obtain⟨d,hd⟩:=Int.eq_ofNat_of_zero_le (Int.emod_nonneg r (show(x:Int)≠0 by lia))
   have hdx:d<x:=by
    have:=Int.emod_lt_of_pos r hx1
    lia
   refine⟨[some scr,some (.int k),some (.lst (L sizes)),some (.int (r / x)),some (.lst (L (ds++[d]))),some (.int x)],?_,_,_,_,hds.snoc hdx,rfl⟩
   have hl:(L ds).length<most:=by
    rw[aF,hds.1]
    unfold most
    lia
   simp[aJ,gj,af,evS,ev,eh hx1,l5 hx1 hx2,hd,D.imm,hl,aQ,cN]
   rfl)
 refine⟨ds,hds,?_⟩
 simp[evF,eU,af,evS,ev,evs,bb,items,h,aQ,D.imm,a9,aq]
 simp[e,ev,aS,a9,aK,aU]
end
section
variable{cl:Cl}
theorem qQ(c:Nat):∀ (n a:Nat),bI (c:Int) (a:Int) n=L (List.range' a n c)
 | 0,a=>rfl
 | n+1,a=>by
  rw[bI,List.range'_succ]
  have:=qQ c n (a+c)
  rw[show((a+c:Nat):Int)=(a:Int)+(c:Int) by lia]at this
  rw[this]
  rfl
theorem sA(xs:List Nat)(n:Nat):(L xs).take n=L (xs.take n):=by simp[L]
end
section
variable{n:Nat}{f:List Nat}{l:Nat}
end
noncomputable def dpf:Nat->List Bool->Option Nat
 | d,[]=>some d
 | d,true::r=>dpf (d+1) r
 | 0,false::_=>none
 | d+1,false::r=>dpf d r
theorem fA(b:Bool):∀ (w:List Bool) (d:Nat),dpf d (w++[b])=(dpf d w).bind fun e=>dpf e [b]
 | [],d=>rfl
 | true::r,d=>by simpa[dpf]using fA b r (d+1)
 | false::r,0=>rfl
 | false::r,d+1=>by simpa[dpf]using fA b r d
noncomputable def sg(b:Bool):Nat:=if b then 40 else 41
noncomputable def tx(w:List Bool):PySem.Str:=⟨(w.map sg).toArray⟩
theorem rQ(w:List Bool):(tx w).length=w.length:=by simp[tx,PySem.Str.length]
theorem Dz(w v:List Bool):tx w++tx v=tx (w++v):=by
 show PySem.Str.mk _=_
 simp[tx]
theorem Fo:(PySem.Str.ofString "")=tx []:=by decide +kernel
theorem vh:(PySem.Str.ofString "(")=tx [true]:=by decide +kernel
theorem Gr:(PySem.Str.ofString ")")=tx [false]:=by decide +kernel
theorem jW:∀ (k a:Nat),k<=a->bI (-1) (a:Int) k=L ((List.range k).map fun i=>a-i)
 | 0,_,_=>rfl
 | k+1,a,h=>by
  rw[bI,List.range_succ_eq_map]
  have:=jW k (a-1) (by lia)
  have e:(a:Int)+-1=((a-1:Nat):Int):=by lia
  rw[e,this]
  simp[L]
  intro i hi
  lia
theorem du{k:Nat}{g:Nat->Nat}{p q:List Nat}{x:Nat}(h:(List.range k).map g=p++x::q):p.length<k/\x=g p.length:=by
 have l:((List.range k).map g).length=(p++x::q).length:=by rw[h]
 have e:((List.range k).map g)[p.length]?=(p++x::q)[p.length]?:=by rw[h]
 simp at l e
 obtain⟨y,hy,e⟩:=e
 refine⟨by lia,?_⟩
 rw[List.getElem?_range (by lia)]at hy
 cases hy
 exact e.symm
theorem xP{w v:List Bool}(h:w.length+v.length<=most):aB .add (.str (tx w)) (.str (tx v))=some (.str (tx (w++v))):=by
 dsimp only[aB]
 rw[rQ,rQ,if_pos h,Dz]
theorem zX{r:Int}{n:Nat}(hn:n<=10):∃ w:List Bool,w.length=2*n/\dpf 0 w=some 0/\evF cl js [.int r,.int n]=some (.str (tx w)):=by
 have e1:aB .mul (.int 2) (.int n)=some (.int (2*n)):=bM (by decide) (by decide)
 have e2:fQ (-1) (.int (2*(n:Int))) (.int 0)=some (L ((List.range (2*n)).map fun i=>2*n-i)):=by
  have hN:bo (-1) (2*(n:Int)) 0=2*n:=by
   unfold bo
   rw[show(- -1:Int)=1 from rfl,Int.ediv_one,if_neg (by decide)]
   split<;>lia
  dsimp only[fQ]
  rw[hN]
  rw[if_pos ⟨by decide,by decide,by decide,by unfold most;lia,by lia,by lia,by lia,by lia⟩]
  have:=jW (2*n) (2*n) (Nat.le_refl _)
  rw[<-this]
  rfl
 obtain⟨σ',e,I⟩:=cJ (f:=af cl [] fK) (tg:=[4]) (xs:=(List.range (2*n)).map fun i=>2*n-i) (σ:=[some (.int r),some (.int n),some (.str (tx [])),some (.int 0),none,none,none])
  (fun p σ=>∃ (r:Int) (w:List Bool) (d:Nat) (o4 o5 o6:Option D),σ=[some (.int r),some (.int n),some (.str (tx w)),some (.int d),o4,o5,o6]/\w.length=p.length/\dpf 0 w=some d/\d+p.length<=2*n/\(d+p.length)%2=0) ⟨r,[],0,none,none,none,rfl,rfl,rfl,by simp,rfl⟩ (by
   rintro p x q σ hx ⟨r,w,d,o4,o5,o6,rfl,hw,hd,hl,hp⟩
   obtain⟨h1,h2⟩:=du hx
   have m1:aB .fdiv (.int r) (.int 2)=some (.int (r / 2)):=l5 (by decide) (by decide)
   have m2:aB .mod (.int r) (.int 2)=some (.int (r%2)):=eh (by decide)
   generalize hr:r%2=st at m2
   have tx1:ixV (.lst [.str (PySem.Str.ofString ")"),.str (PySem.Str.ofString "(")]) (.int 1)=some (.str (tx [true])):=by rw[vh];rfl
   have tx0:ixV (.lst [.str (PySem.Str.ofString ")"),.str (PySem.Str.ofString "(")]) (.int 0)=some (.str (tx [false])):=by rw[Gr];rfl
   by_cases up:d=0\/(d<x/\st=1)
   ·have ee:ev cl [some (.int (r / 2)),some (.int n),some (.str (tx w)),some (.int d),some (.int x),o5,some (.int st)] (.or (.cmp .eq (.var 3) (.cst (.int 0))) (.and (.cmp .lt (.var 3) (.var 4)) (.cmp .eq (.var 6) (.cst (.int 1)))))=some (.bl true):=by
     by_cases h0:d=0
     ·subst h0
      exact G5 (a8 (aa rfl) aj rfl)
     ·have g:d<x/\st=1:=by lia
      have hb:((d:Int) == 0)=false:=beq_eq_false_iff_ne.mpr (by lia)
      exact i7 (a8 (aa rfl) aj (by rw[cA,hb])) (cq (a8 (aa rfl) (aa rfl) (by rw[c6,decide_eq_true (by lia)])) (a8 (aa rfl) aj (by rw[cA,g.2];rfl)))
    exact⟨_,show af cl [] fK [some (.int r),some (.int n),some (.str (tx w)),some (.int d),some (.int x),o5,o6]=some (.nx,_)from nJ (az (aa rfl) aj m1) (az (aa rfl) aj m2) rfl (a7 ee rfl (a7 (az (aa rfl) (b9 (dZ (a6 aj (a6 aj bu))) (aO (aa rfl) rfl) tx1) (xP (by simp[most];lia))) rfl (a7 (d:=.int ((d+1:Nat):Int)) (az (aa rfl) (b9 (dZ (a6 (uR aj) (a6 aj bu))) (aO (aa rfl) rfl) rfl) rfl) rfl aC))),
     r / 2,w++[true],d+1,_,_,_,rfl,by simp[hw],by rw[fA,hd];rfl,by simp;omega,by simp;lia⟩
   ·have hd0:0<d:=by lia
    have ee:ev cl [some (.int (r / 2)),some (.int n),some (.str (tx w)),some (.int d),some (.int x),o5,some (.int st)] (.or (.cmp .eq (.var 3) (.cst (.int 0))) (.and (.cmp .lt (.var 3) (.var 4)) (.cmp .eq (.var 6) (.cst (.int 1)))))=some (.bl false):=by
     have hb:((d:Int) == 0)=false:=beq_eq_false_iff_ne.mpr (by lia)
     refine i7 (a8 (aa rfl) aj (by rw[cA,hb])) ?_
     by_cases hx:d<x
     ·have h1:(st == 1)=false:=beq_eq_false_iff_ne.mpr (by lia)
      exact cq (a8 (aa rfl) (aa rfl) (by rw[c6,decide_eq_true (by lia)])) (a8 (aa rfl) aj (by rw[cA,h1]))
     ·exact fW (a8 (aa rfl) (aa rfl) (by rw[c6,decide_eq_false (by lia)]))
    have es:aB .add (.int (d:Nat)) (.int (-1))=some (.int ((d-1:Nat):Int)):=by rw[bX];congr 2;lia
    exact⟨_,show af cl [] fK [some (.int r),some (.int n),some (.str (tx w)),some (.int d),some (.int x),o5,o6]=some (.nx,_)from nJ (az (aa rfl) aj m1) (az (aa rfl) aj m2) rfl (a7 ee rfl (a7 (az (aa rfl) (b9 (dZ (a6 aj (a6 aj bu))) (aO (aa rfl) rfl) tx0) (xP (by simp[most];lia))) rfl (a7 (az (aa rfl) (b9 (dZ (a6 (uR aj) (a6 aj bu))) (aO (aa rfl) rfl) rfl) es) rfl aC))),
     r / 2,w++[false],d-1,_,_,_,rfl,by simp[hw],by rw[fA,hd];obtain⟨e,rfl⟩:∃ e,d=e+1:=⟨d-1,by lia⟩;rfl,by simp;lia,by simp;lia⟩)
 obtain⟨r',w,d,o4,o5,o6,rfl,hw,hd,hl,hp⟩:=I
 simp at hw hl
 have:d=0:=by lia
 subst this
 refine⟨w,hw,hd,?_⟩
 rw[<-Fo]at e
 exact aN rfl rfl (a7 aj rfl (a7 aj rfl (cm (xr (az aj (aa rfl) e1) aj e2) e (aL (aa rfl) rfl))))
noncomputable def rd(n q:Nat):Nat:=if q<n then q else 3*n-1-q
theorem aX{n q:Nat}(h:q<2*n):rd n q<2*n:=by unfold rd;split<;>omega
theorem bO{n q:Nat}(h:q<2*n):rd n (rd n q)=q:=by
 unfold rd
 by_cases e:q<n
 ·rw[if_pos e,if_pos e]
 ·rw[if_neg e,if_neg (by omega)]
  lia
theorem iT{n p q:Nat}(hp:p<2*n)(hq:q<2*n)(h:rd n p=rd n q):p=q:=by rw[<-bO hp,h,bO hq]
noncomputable def rnd(n:Nat)(f:List Nat)(q:Nat):Nat:=rd n (at' f (rd n q))
structure Val(n:Nat)(f:List Nat):Prop where
 frm:Frm n f
 nox:∀ q q',q<2*n->q'<2*n->¬ (q<q'/\q'<rnd n f q/\rnd n f q<rnd n f q')
structure Mt(n k:Nat)(f S:List Nat):Prop where
 len:f.length=2*n
 kn:k<=2*n
 up:S.Pairwise (·<·)
 lt:∀ s∈S,s<k
 ok:∀ q,q<k->q∉S->rnd n f q<k/\rnd n f q∉S/\rnd n f q≠q/\rnd n f (rnd n f q)=q
 bt:∀ q s,q<k->q∉S->s∈S->¬ (q<s/\s<rnd n f q)
 nox:∀ q q',q<k->q'<k->q∉S->q'∉S->¬ (q<q'/\q'<rnd n f q/\rnd n f q<rnd n f q')
theorem Mt.push{n k:Nat}{f S:List Nat}(m:Mt n k f S)(hk:k<2*n):Mt n (k+1) f (S++[k]):=by
 have nk:∀ q,q<k+1->q∉S++[k]->q<k/\q∉S:=by
  intro q h1 h2
  simp at h2
  exact⟨by lia,h2.1⟩
 refine⟨m.len,by lia,?_,?_,?_,?_,?_⟩
 ·rw[List.pairwise_append]
  exact⟨m.up,by simp,fun a ha b hb=>by simp at hb;have:=m.lt a ha;lia⟩
 ·intro s hs
  simp at hs
  rcases hs with h | h
  ·have:=m.lt s h;lia
  ·lia
 ·intro q h1 h2
  obtain⟨a,b⟩:=nk q h1 h2
  obtain⟨c1,c2,c3,c4⟩:=m.ok q a b
  exact⟨by lia,by simp;exact⟨c2,by lia⟩,c3,c4⟩
 ·intro q s h1 h2 hs
  obtain⟨a,b⟩:=nk q h1 h2
  simp at hs
  rcases hs with h | h
  ·exact m.bt q s a b h
  ·have:=(m.ok q a b).1;lia
 ·intro q q' h1 h2 h3 h4
  obtain⟨a,b⟩:=nk q h1 h3
  obtain⟨a',b'⟩:=nk q' h2 h4
  exact m.nox q q' a a' b b'
theorem AO{n k m:Nat}{f:List Nat}(hl:f.length=2*n)(hk:k<2*n)(hm:m<2*n){q:Nat}(hq:q<2*n):rnd n ((f.set (rd n m) (rd n k)).set (rd n k) (rd n m)) q=if q=k then m else if q=m then k else rnd n f q:=by
 have l1:=aX hk
 have l2:=aX hm
 unfold rnd
 rw[cQ (by simp;lia),cQ (by lia)]
 by_cases h1:q=k
 ·subst h1
  rw[if_pos rfl,if_pos rfl,bO hm]
 ·rw[if_neg (fun h=>h1 (iT hq hk h)),if_neg h1]
  by_cases h2:q=m
  ·subst h2
   rw[if_pos rfl,if_pos rfl,bO hk]
  ·rw[if_neg (fun h=>h2 (iT hq hm h)),if_neg h2]
theorem Mt.pop{n k m:Nat}{f S:List Nat}(h:Mt n k f (S++[m]))(hk:k<2*n):Mt n (k+1) ((f.set (rd n m) (rd n k)).set (rd n k) (rd n m)) S:=by
 have hmk:m<k:=h.lt m (by simp)
 have hm:m<2*n:=by lia
 have P:=fun q hq=>AO (f:=f) h.len hk hm (q:=q) hq
 have up:=List.pairwise_append.mp h.up
 have hmS:∀ s∈S,s<m:=fun s hs=>up.2.2 s hs m (by simp)
 have kS:k∉S:=fun c=>by have:=hmS k c;lia
 have mS:m∉S:=fun c=>by have:=hmS m c;lia
 have cs:∀ q,q<k+1->q∉S->q=k\/q=m\/(q≠k/\q≠m/\q<k/\q∉S++[m]):=by
  intro q h1 h2
  by_cases e1:q=k
  ·exact .inl e1
  ·by_cases e2:q=m
   ·exact .inr (.inl e2)
   ·exact .inr (.inr ⟨e1,e2,by lia,by simp;exact⟨h2,e2⟩⟩)
 have old:∀ q,q<k->q∉S++[m]->rnd n f q<k/\rnd n f q∉S/\rnd n f q≠m/\rnd n f q≠q/\rnd n f (rnd n f q)=q:=by
  intro q h1 h2
  obtain⟨c1,c2,c3,c4⟩:=h.ok q h1 h2
  simp at c2
  exact⟨c1,c2.1,c2.2,c3,c4⟩
 refine⟨by simp[h.len],by lia,up.1,fun s hs=>by have:=hmS s hs;lia,?_,?_,?_⟩
 ·intro q h1 h2
  rcases cs q h1 h2 with rfl | rfl | ⟨e1,e2,e3,e4⟩
  ·rw[P q hk,if_pos rfl,P m hm,if_neg (by lia),if_pos rfl]
   exact⟨by lia,mS,by lia,rfl⟩
  ·rw[P q hm,if_neg (by lia),if_pos rfl,P k hk,if_pos rfl]
   exact⟨by lia,kS,by lia,rfl⟩
  ·obtain⟨c1,c2,c3,c4,c5⟩:=old q e3 e4
   rw[P q (by lia),if_neg e1,if_neg e2,P _ (by lia),if_neg (by lia),if_neg c3]
   exact⟨by lia,c2,c4,c5⟩
 ·intro q s h1 h2 hs
  have:=hmS s hs
  rcases cs q h1 h2 with rfl | rfl | ⟨e1,e2,e3,e4⟩
  ·lia
  ·lia
  ·rw[P q (by lia),if_neg e1,if_neg e2]
   exact h.bt q s e3 e4 (by simp[hs])
 ·intro q q' h1 h2 h3 h4
  rcases cs q h1 h3 with rfl | rfl | ⟨e1,e2,e3,e4⟩
  ·lia
  ·rw[P q hm,if_neg (by lia),if_pos rfl]
   rcases cs q' h2 h4 with rfl | rfl | ⟨d1,d2,d3,d4⟩
   ·lia
   ·lia
   ·rw[P q' (by lia),if_neg d1,if_neg d2]
    have:=(old q' d3 d4).1
    lia
  ·rw[P q (by lia),if_neg e1,if_neg e2]
   have a:=(old q e3 e4).1
   rcases cs q' h2 h4 with rfl | rfl | ⟨d1,d2,d3,d4⟩
   ·lia
   ·have:=h.bt q q' e3 e4 (by simp)
    lia
   ·rw[P q' (by lia),if_neg d1,if_neg d2]
    exact h.nox q q' e3 d3 e4 d4
theorem Mt.val{n:Nat}{f:List Nat}(h:Mt n (2*n) f [])(hlt:∀ x,x<2*n->at' f x<2*n):Val n f:=by
 refine⟨⟨h.len,hlt,?_,?_⟩,fun q q' h1 h2=>h.nox q q' h1 h2 (by simp) (by simp)⟩
 ·intro x
  by_cases hx:x<2*n
  ·have a:=(h.ok (rd n x) (aX hx) (by simp)).2.2.2
   unfold rnd at a
   rw[bO hx,bO (hlt x hx)]at a
   exact iT (hlt _ (hlt x hx)) hx a
  ·have e:at' f x=x:=di (by rw[h.len];lia)
   rw[e,e]
 ·intro x hx e
  have a:=(h.ok (rd n x) (aX hx) (by simp)).2.2.1
  unfold rnd at a
  rw[bO hx,e]at a
  exact a rfl
theorem yg{β:Type}{f:St->Option (Out × St)}{tg:List Nat}(g:β->D)(im:∀ b,(g b).imm=true)(I:List β->St->Prop):∀ (w done:List β) (σ:St),(∀ u b v σ,done++w=u++b::v->I u σ->∃ σ2,(aJ tg (.tup [.int u.length,g b]) σ).bind f=some (.nx,σ2)/\I (u++[b]) σ2)->I done σ->∃ σ',bg f tg (cF done.length (w.map g)) σ=some (.nx,σ')/\I (done++w) σ'
 | [],done,σ,_,h=>⟨σ,rfl,by simpa using h⟩
 | b::w,done,σ,hs,h=>by
  obtain⟨σ2,h1,h3⟩:=hs done b w σ rfl h
  obtain⟨σ',h4,h5⟩:=yg g im I w (done++[b]) σ2 (fun pre e post σ he=>hs pre e post σ (by simpa using he)) h3
  refine⟨σ',?_,by simpa using h5⟩
  rw[List.map_cons,cF,bg,if_pos (by simp[D.imm,aq,im])]
  rw[show((done++[b]).length:Int)=(done.length:Int)+1 by simp]at h4
  cases hb:aJ tg (.tup [.int done.length,g b]) σ with
  | none=>rw[hb]at h1;cases h1
  |some σ1=>
   rw[hb]at h1
   simp only[Option.bind_some]at h1 ⊢
   rw[h1]
   exact h4
noncomputable def bL(n:Nat):List Nat:=(List.range (2*n)).map (rd n)
theorem rT(n:Nat):(bL n).length=2*n:=by simp[bL]
theorem BF{n:Nat}(h:1<=n):bL n=List.range' 0 n++(List.range n).map (fun i=>(2*n-1)-i):=by
 unfold bL
 rw[show 2*n=n+n by lia,List.range_add,List.map_append,<-List.range_eq_range',List.map_map]
 congr 1
 ·conv=>rhs;rw[<-List.map_id (List.range n)]
  apply List.map_congr_left
  intro i hi
  simp at hi
  simp[rd,hi]
 ·apply List.map_congr_left
  intro i hi
  simp at hi
  show rd n (n+i)=_
  unfold rd
  rw[if_neg (by lia)]
  lia
theorem Cm{a b:Nat}(h:b<=a)(ha:a<=1000):fQ (-1) (.int (a:Int)) (.int ((a:Int)-b))=some (L ((List.range b).map fun i=>a-i)):=by
 have hN:bo (-1) (a:Int) ((a:Int)-b)=b:=by
  unfold bo
  rw[show(- -1:Int)=1 from rfl,Int.ediv_one,if_neg (by decide)]
  split<;>lia
 dsimp only[fQ]
 rw[hN]
 rw[if_pos ⟨by decide,by decide,by decide,by unfold most;lia,by lia,by lia,by lia,by lia⟩]
 rw[jW b a h]
theorem vD{n:Nat}(h1:1<=n)(hn:n<=10):evF cl eN [.int n]=some (.lst (L (bL n))):=by
 have e1:aB .mul (.int 2) (.int n)=some (.int (2*n)):=bM (by decide) (by decide)
 have e2:=cT (a:=0) (b:=n) (by lia) (by lia)
 rw[Nat.sub_zero]at e2
 simp only[Int.natCast_zero]at e2
 have e3:=Cm (a:=2*n-1) (b:=n) (by lia) (by lia)
 rw[show((2*n-1:Nat):Int)=2*n-1 by lia,show 2*(n:Int)-1-n=n-1 by lia]at e3
 have e4:aB .add (.lst (L (List.range' 0 n))) (.lst (L ((List.range n).map fun i=>2*n-1-i)))=some (.lst (L (bL n))):=by
  dsimp only[aB]
  rw[if_pos (by simp[aF,most];lia),BF h1,cN]
 simp[evF,eN,af,evS,ev,evs,e1,e2,e3,e4,j0,aS,D.imm,a9,aK,aU]
theorem oY{n q:Nat}(h:q<2*n):ixV (.lst (L (bL n))) (.int (q:Int))=some (.int ((rd n q:Nat):Int)):=by
 show cB _ _=_
 rw[fJ,ql]
 simp[bL,h]
theorem gR{f:List Nat}{i j:Nat}(h:i<f.length):d5 (.lst (L f)) (.int (i:Int)) (.int (j:Int))=some (.lst (L (f.set i j))):=by
 dsimp only[d5]
 rw[aF,sQ h]
 simp[AE]
theorem jD(v:List Bool):∀ (w:List Bool) (d:Nat),dpf d (w++v)=(dpf d w).bind fun e=>dpf e v
 | [],d=>rfl
 | true::r,d=>by simpa[dpf]using jD v r (d+1)
 | false::r,0=>rfl
 | false::r,d+1=>by simpa[dpf]using jD v r d
theorem si:∀ (w:List Bool) (d:Nat) {e:Nat},dpf d w=some e->e<=d+w.length
 | [],d,e,h=>by cases h;simp
 | true::r,d,e,h=>by have:=si r (d+1) h;simp;lia
 | false::r,0,e,h=>nomatch h
 | false::r,d+1,e,h=>by have:=si r d h;simp;lia
theorem zeros(cl:Cl)(σ:St):∀ xs:List Nat,bW (fun σ1=>(ev cl σ1 (.cst (.int 0))).map some) [7] σ (L xs)=some (L (List.replicate xs.length 0))
 | []=>rfl
 | x::r=>by
  rw[show L (x::r)=.int x::L r from rfl,bW,zeros cl σ r]
  rfl
theorem pW{fc:Nat}{n:Nat}{w:List Bool}(h1:1<=n)(hn:n<=10)(hc:cl fc [.int n]=some (.lst (L (bL n))))(hw:w.length=2*n)(hd:dpf 0 w=some 0):∃ f:List Nat,Val n f/\evF cl (fk fc) [.str (tx w)]=some (.tup (L f)):=by
 obtain⟨σ',e,I⟩:=yg (f:=af cl [3,4] (cV fc)) (tg:=[5,6]) (fun b:Bool=>D.str (tx [b])) (fun _=>rfl)
  (fun u σ=>∃ (f S:List Nat) (o5 o6 o8:Option D),σ=[some (.str (tx w)),some (.int n),some (.lst (L (bL n))),some (.lst (L f)),some (.lst (L (S.map (rd n)))),o5,o6,none,o8]/\dpf 0 u=some S.length/\Mt n u.length f S/\∀ x,x<2*n->at' f x<2*n)
  w [] [some (.str (tx w)),some (.int n),some (.lst (L (bL n))),some (.lst (L (List.replicate (2*n) 0))),some (.lst (L [])),none,none,none,none] (by
   rintro u b v σ hu ⟨f,S,o5,o6,o8,rfl,hS,m,hlt⟩
   have hk:u.length<2*n:=by
    rw[<-hw]
    have:=congrArg List.length hu
    simp at this
    lia
   have hdb:∃ d,dpf S.length [b]=some d:=by
    have:dpf 0 (u++b::v)=some 0:=by rw[<-hu];exact hd
    rw[jD,hS]at this
    revert this
    cases b with
    | true=>exact fun _=>⟨_,rfl⟩
    |false=>
     cases S.length with
     | zero=>exact fun h=>nomatch h
     | succ d=>exact fun _=>⟨_,rfl⟩
   cases b with
   |true=>
    refine⟨[some (.str (tx w)),some (.int n),some (.lst (L (bL n))),some (.lst (L f)),some (.lst (L ((S++[u.length]).map (rd n)))),some (.int u.length),some (.str (tx [true])),none,o8],?_,f,S++[u.length],_,_,_,rfl,?_,by simpa using m.push hk,hlt⟩
    ·have hl:S.length<most:=by have:=si u 0 hS;unfold most;lia
     have ap:L ((S++[u.length]).map (rd n))=L (S.map (rd n))++[.int ((rd n u.length:Nat):Int)]:=by simp[L]
     rw[ap]
     exact show af cl [3,4] (cV fc) [some (.str (tx w)),some (.int n),some (.lst (L (bL n))),some (.lst (L f)),some (.lst (L (S.map (rd n)))),some (.int u.length),some (.str (tx [true])),none,o8]=some (.nx,_)from dQ (aI (a8 (k:=true) (aa rfl) aj (by rw[vh];decide))) (sE (b9 (aa rfl) (aa rfl) (oY hk)) rfl rfl (by rw[aF,List.length_map];exact hl) aC) aC
    ·rw[fA,hS]
     simp[dpf]
   |false=>
    obtain⟨d,hdb⟩:=hdb
    have hS0:S≠[]:=by
     rintro rfl
     simp[dpf]at hdb
    obtain⟨S0,m0,rfl⟩:∃ S0 m0,S=S0++[m0]:=⟨S.dropLast,S.getLast hS0,(List.dropLast_concat_getLast hS0).symm⟩
    have hm0:m0<u.length:=m.lt m0 (by simp)
    have c:=oY hk
    have p1:=gR (f:=f) (i:=rd n m0) (j:=rd n u.length) (by rw[m.len];exact aX (by lia))
    have p2:=gR (f:=f.set (rd n m0) (rd n u.length)) (i:=rd n u.length) (j:=rd n m0) (by rw[List.length_set,m.len];exact aX (by lia))
    refine⟨[some (.str (tx w)),some (.int n),some (.lst (L (bL n))),some (.lst (L ((f.set (rd n m0) (rd n u.length)).set (rd n u.length) (rd n m0)))),some (.lst (L (S0.map (rd n)))),some (.int u.length),some (.str (tx [false])),none,some (.int ((rd n m0:Nat):Int))],?_,_,S0,_,_,_,rfl,?_,by simpa using m.pop hk,?_⟩
    ·have ap:L ((S0++[m0]).map (rd n))=L (S0.map (rd n))++[.int ((rd n m0:Nat):Int)]:=by simp[L]
     rw[ap]
     exact show af cl [3,4] (cV fc) [some (.str (tx w)),some (.int n),some (.lst (L (bL n))),some (.lst (L f)),some (.lst (L (S0.map (rd n))++[.int ((rd n m0:Nat):Int)])),some (.int u.length),some (.str (tx [false])),none,o8]=some (.nx,_)from hZ (aI (a8 (k:=false) (aa rfl) aj (by rw[vh];decide))) (Ei rfl (ke (b9 (aa rfl) (aa rfl) c) (aa rfl) rfl rfl p1 (ke (aa rfl) (b9 (aa rfl) (aa rfl) c) rfl rfl p2 aC))) aC
    ·rw[fA,hS]
     simp[dpf]
    ·intro x hx
     rw[cQ (by simp[m.len];exact aX (by lia)),cQ (by rw[m.len];exact aX (by lia))]
     have:=aX (n:=n) (q:=m0) (by lia)
     have:=aX (n:=n) (q:=u.length) (by lia)
     have:=hlt x hx
     repeat' split
     all_goals lia)
  ⟨List.replicate (2*n) 0,[],none,none,none,rfl,rfl,⟨by simp,by simp,by simp,by simp,by simp,by simp,by simp⟩,fun x hx=>by simp[at',hx];lia⟩
 obtain⟨f,S,o5,o6,o8,rfl,hS,m,hlt⟩:=I
 simp only[List.nil_append]at hS m
 rw[hd]at hS
 have hS0:S=[]:=List.eq_nil_of_length_eq_zero (by simpa using hS.symm)
 subst hS0
 rw[hw]at m
 refine⟨f,m.val hlt,?_⟩
 have len:biV .len (.str (tx w))=some (.int ((2*n:Nat):Int)):=by
  dsimp only[biV]
  rw[rQ,hw,if_pos (by unfold most;lia)]
 have dv:aB .fdiv (.int ((2*n:Nat):Int)) (.int 2)=some (.int (n:Nat)):=by
  rw[l5 (by decide) (by decide)]
  congr 2
  lia
 have it:dU (.str (tx w))=some (w.map fun b=>D.str (tx [b])):=by
  simp[dU,tx,Function.comp_def]
 have z:=zeros cl [some (.str (tx w)),some (.int n),some (.lst (L (bL n))),none,none,none,none,none,none] (bL n)
 rw[rT]at z
 exact aN rfl rfl (a7 (az (aO (aa rfl) len) aj dv) rfl (a7 (b8 (aa rfl) hc) (by unfold aQ;rw[show a9 (.lst (L (bL n)))=true from aK _];rfl) (eQ (cb (cK (aa rfl) rfl) (by rw[aF,rT];unfold most;lia) z) (by rw[show a9 (.lst (L (List.replicate (2*n) 0)))=true from aK _];rfl) (eQ (dZ bu) rfl
  (cm (jg (aa rfl) it) e (aL (aO (aa rfl) rfl) (by unfold aS;rw[show(D.tup (L f)).imm=true from aK _];rfl)))))))
theorem kj{F:St->Option (Option D)}{tg:List Nat}{σ:St}{g:Nat->D}(im:∀ x,(g x).imm=true):∀ xs:List Nat,(∀ x∈xs,(aJ tg (.int (x:Nat)) σ).bind F=some (some (g x)))->bW F tg σ (L xs)=some (xs.map g)
 | [],_=>rfl
 | x::r,h=>by
  have a:=h x (by simp)
  have b:=kj im r (fun y hy=>h y (by simp[hy]))
  rw[show L (x::r)=.int x::L r from rfl,bW]
  cases hb:aJ tg (.int (x:Nat)) σ with
  | none=>rw[hb]at a;cases a
  |some σ1=>
   rw[hb]at a
   simp only[Option.bind_some]at a ⊢
   rw[a,b]
   simp[ko,im]
theorem sr{F:St->Option (Option D)}{tg:List Nat}{σ:St}{g:Nat->D}{c:Nat->Bool}(im:∀ x,(g x).imm=true):∀ xs:List Nat,(∀ x∈xs,(aJ tg (.int (x:Nat)) σ).bind F=some (if c x then some (g x)else none))->bW F tg σ (L xs)=some ((xs.filter c).map g)
 | [],_=>rfl
 | x::r,h=>by
  have a:=h x (by simp)
  have b:=sr im r (fun y hy=>h y (by simp[hy]))
  rw[show L (x::r)=.int x::L r from rfl,bW]
  cases hb:aJ tg (.int (x:Nat)) σ with
  | none=>rw[hb]at a;cases a
  |some σ1=>
   rw[hb]at a
   simp only[Option.bind_some]at a ⊢
   rw[a,b]
   cases hc:c x<;>simp[ko,im,hc]
theorem uW(xs:List Nat)(g:Nat->Nat):(xs.map fun x=>D.int (g x:Nat))=L (xs.map g):=by simp[L]
theorem ky{xs:List Nat}(h:xs.length<=1000):fits (L xs)=some (L xs):=by
 unfold fits
 rw[if_pos (by rw[aF];unfold most;lia)]
theorem cj{n:Nat}(h:n<=1000):dA (.int 0) (.int n)=some (L (List.range n)):=by
 have e2:=cT (a:=0) (b:=n) (by lia) h
 rw[Nat.sub_zero,<-List.range_eq_range']at e2
 exact e2
theorem oR{n:Nat}(hn:n<=100):evF cl dR [.int n]=some (.tup (L (aT n))):=by
 have e2:=cj (n:=n) (by lia)
 have e3:=kj (F:=fun σ1=>(ev cl σ1 (.bin .add (.var 0) (.var 1))).map some) (tg:=[1]) (σ:=[some (.int n),none]) (g:=fun x=>.int ((n+x:Nat):Int)) (fun _=>rfl) (List.range n) (by
  intro x _
  simp[aJ,ev,bX])
 rw[uW]at e3
 have e4:aB .add (.lst (L ((List.range n).map fun x=>n+x))) (.lst (L (List.range n)))=some (.lst (L (aT n))):=by
  dsimp only[aB]
  rw[if_pos (by simp[aF,most];lia),aT,cN]
  congr 3
  ·rw[List.range'_eq_map_range]
  ·rw[List.range_eq_range']
 have e5:=ky (xs:=List.range n) (by simp;lia)
 simp only[evF,dR,af,evS,ev,bb]
 simp[ev,e2,e5]
 simp[ev]at e3
 rw[e3]
 simp[e4,biV,items,aS,D.imm,aK,aU]
theorem pV{n:Nat}(hn:n<=10):evF cl dR [.int n]=some (.tup (L (aT n))):=oR (by lia)
theorem p8{n q:Nat}(h:q<2*n):rnd n (aT n) q=2*n-1-q:=by
 unfold rnd rd
 by_cases c:q<n
 ·rw[if_pos c,plain_at,if_pos c,if_neg (by lia)];lia
 ·have e:at' (aT n) (3*n-1-q)=2*n-1-q:=by rw[plain_at,if_neg (by omega),if_pos (by omega)];lia
  rw[if_neg c,e,if_pos (by omega)]
theorem we(n:Nat):Val n (aT n):=by
 refine⟨jV n,fun q q' h1 h2=>?_⟩
 rw[p8 h1,p8 h2]
 omega
noncomputable def fL(n i:Nat):List Nat:=j7 (aT n) (n+i)
set_option synthInstance.maxSize 10000 in
set_option synthInstance.maxHeartbeats 0 in
theorem yp:∀ n,n<11->∀ i,i<n->i+1<n->∀ q,q<2*n->∀ q',q'<2*n->¬ (q<q'/\q'<rnd n (fL n i) q/\rnd n (fL n i) q<rnd n (fL n i) q'):=by decide +kernel
theorem yO{n i:Nat}(hn:n<=10)(h:i+1<n):Val n (fL n i):=⟨yx (jV n) (by lia),fun q q' h1 h2=>yp n (by lia) i (by lia) h q h1 q' h2⟩
theorem sN{fp:Nat}{n i:Nat}(hn:n<=10)(hi:i+1<n)(hp:cl fp [.int n]=some (.tup (L (aT n)))):evF cl (gC fp) [.int n,.int i]=some (.tup (L (fL n i))):=by
 have hl:=(jV n).len
 have e:fL n i=((((aT n).set i (i+1)).set (i+1) i).set (n+i) (n+i+1)).set (n+i+1) (n+i):=by
  unfold fL j7
  have a1:at' (aT n) (n+i)=i:=by rw[plain_at,if_neg (by lia),if_pos (by lia)];lia
  have a2:at' (aT n) (n+i+1)=i+1:=by rw[plain_at,if_neg (by lia),if_pos (by lia)];lia
  rw[a1,a2,if_neg (by lia)]
 have p1:=gR (f:=aT n) (i:=i) (j:=i+1) (by lia)
 have p2:=gR (f:=(aT n).set i (i+1)) (i:=i+1) (j:=i) (by simp;lia)
 have p3:=gR (f:=((aT n).set i (i+1)).set (i+1) i) (i:=n+i) (j:=n+i+1) (by simp;lia)
 have p4:=gR (f:=(((aT n).set i (i+1)).set (i+1) i).set (n+i) (n+i+1)) (i:=n+i+1) (j:=n+i) (by simp;lia)
 rw[<-e]at p4
 simp only[Int.natCast_add,Int.natCast_one]at p1 p2 p3 p4
 simp[evF,gC,af,evS,ev,evs,hp,biV,items,a9,aK,bb,bX,bg,D.imm,aJ,lP,p1,p2,p3,p4,aS,aU]
noncomputable def bp(n:Nat)(f:List Nat):List Nat:=(List.range (2*n)).map fun p=>(at' f ((p+n)%(2*n))+n)%(2*n)
theorem oJ{n:Nat}{f:List Nat}{p:Nat}(h:p<2*n):at' (bp n f) p=(at' f ((p+n)%(2*n))+n)%(2*n):=by
 simp[at',bp,h]
theorem half{xs:List D}{n:Nat}(h:xs.length=2*n):biV .len (.tup xs)=some (.int (2*n)):=by
 simp[biV,items,h]
theorem yA(n:Nat):aB .fdiv (.int (2*(n:Int))) (.int 2)=some (.int n):=by
 rw[l5 (by decide) (by decide)]
 congr 2
 lia
theorem dk{f:List Nat}{x:Nat}(h:x<f.length):ixV (.tup (L f)) (.int (x:Nat))=some (.int (at' f x:Nat)):=by
 show cB _ _=_
 rw[fJ,ql,fI h]
 rfl
theorem sL{n:Nat}{f:List Nat}(h1:1<=n)(hn:n<=10)(hf:f.length=2*n):evF cl gq [.tup (L f)]=some (.tup (L (bp n f))):=by
 have e1:aB .mul (.int 2) (.int n)=some (.int (2*n)):=bM (by decide) (by decide)
 have e2:=cj (n:=2*n) (by lia)
 rw[show((2*n:Nat):Int)=2*(n:Int) by lia]at e2
 have e3:=kj (F:=fun σ1=>(ev cl σ1 (.bin .mod (.bin .add (.ix (.var 0) (.bin .mod (.bin .add (.var 2) (.var 1)) (.bin .mul (.cst (.int 2)) (.var 1)))) (.var 1)) (.bin .mul (.cst (.int 2)) (.var 1)))).map some) (tg:=[2]) (σ:=[some (.tup (L f)),some (.int n),none]) (g:=fun p=>.int (((at' f ((p+n)%(2*n))+n)%(2*n):Nat):Int)) (fun _=>rfl) (List.range (2*n)) (by
  intro x _
  have m1:aB .mod (.int ((x:Int)+n)) (.int (2*(n:Int)))=some (.int (((x+n)%(2*n):Nat):Int)):=by
   rw[eh (by lia)]
   simp
  have m2:=dk (f:=f) (x:=(x+n)%(2*n)) (by rw[hf];exact Nat.mod_lt _ (by lia))
  have m3:aB .mod (.int ((at' f ((x+n)%(2*n)):Nat)+(n:Int))) (.int (2*(n:Int)))=some (.int (((at' f ((x+n)%(2*n))+n)%(2*n):Nat):Int)):=by
   rw[eh (by lia)]
   simp
  simp only[aJ,ev,List.set,Option.bind_some,List.getElem?_cons_zero,List.getElem?_cons_succ,id,e1,bX,m1,m2,m3,Option.map_some])
 rw[uW]at e3
 have e5:=ky (xs:=List.range (2*n)) (by simp;lia)
 have e6:=half (xs:=L f) (n:=n) (by rw[aF,hf])
 have e7:=yA n
 simp only[evF,gq,af,evS,ev,bb]
 simp[ev,e2,e5,e1,e6,e7,aQ,D.imm]
 simp[ev]at e3
 rw[e3]
 simp[biV,items,aS,D.imm,aK,aU,bp]
section dicts
variable{κ:Type} [DecidableEq κ]
theorem sh:∀ {ks:List κ} {vs:List D} {x:κ} {d:D} {y:κ},ks.length=vs.length->x∉ks->aM (ks++[x]) (vs++[d]) y=if x=y then some d else aM ks vs y
 | [],[],x,d,y,_,_=>by simp[aM]
 | k::ks,v::vs,x,d,y,h,hn=>by
  simp at h hn
  have:=sh (ks:=ks) (vs:=vs) (x:=x) (d:=d) (y:=y) h hn.2
  simp only[List.cons_append,aM]
  by_cases e:k=y
  ·rw[if_pos e,if_pos e,if_neg (fun c=>hn.1 (c.trans e.symm))]
  ·rw[if_neg e,if_neg e,this]
theorem qJ:∀ {ks:List κ} {vs:List D} {x:κ} {d:D} {y:κ},ks.length=vs.length->x∈ks->aM ks (List.zipWith (fun k v=>if k=x then d else v) ks vs) y=if x=y then some d else aM ks vs y
 | k::ks,v::vs,x,d,y,h,hm=>by
  simp at h
  simp only[List.zipWith_cons_cons,aM]
  by_cases e:k=y
  ·rw[if_pos e,if_pos e]
   by_cases e':k=x
   ·rw[if_pos e',if_pos (e'.symm.trans e)]
   ·rw[if_neg e',if_neg (fun c=>e' (e.trans c.symm))]
  ·rw[if_neg e,if_neg e]
   by_cases hx:x∈ks
   ·exact qJ h hx
   ·have kx:x=k:=by simpa[hx]using hm
    rw[if_neg (fun c=>e (kx.symm.trans c))]
    have:List.zipWith (fun k v=>if k=x then d else v) ks vs=vs:=by
     clear e hm kx
     induction ks generalizing vs with
     | nil=>cases vs with | nil=>rfl | cons _ _=>simp at h
     | cons a ks ih=>cases vs with
      | nil=>simp at h
      |cons b vs=>
       simp at h hx
       simp only[List.zipWith_cons_cons]
       rw[if_neg (fun c=>hx.1 c.symm),ih (vs:=vs) (h:=h) (hx:=hx.2)]
    rw[this]
theorem fE{ks:List κ}{vs:List D}{x:κ}{d:D}{y:κ}(h:ks.length=vs.length):aM (putD ks vs x d).1 (putD ks vs x d).2 y=if x=y then some d else aM ks vs y:=by
 unfold putD
 split
 ·exact qJ h ‹_›
 ·exact sh h ‹_›
theorem gI{ks:List κ}{vs:List D}{x:κ}{d:D}(h:ks.length=vs.length):(putD ks vs x d).1.length=(putD ks vs x d).2.length/\(putD ks vs x d).1.length<=ks.length+1:=by
 unfold putD
 split<;>simp[h]
end dicts
noncomputable def sd(b:Bool):PySem.Str:=if b then PySem.Str.ofString "high" else PySem.Str.ofString "low"
theorem qp(b:Bool):(sd b == PySem.Str.ofString "high")=b:=by cases b<;>decide +kernel
theorem DA{a b:Bool}(h:sd a=sd b):a=b:=by
 have:=qp a
 rw[h,qp]at this
 exact this.symm
noncomputable def nk(b:Bool)(p:Nat):List Ky:=[.inr (sd b),.inl (p:Int)]
theorem rY{a b:Bool}{p q:Nat}(h:nk a p=nk b q):a=b/\p=q:=by
 unfold nk at h
 injection h with h1 h2
 injection h1 with h1
 injection h2 with h2
 injection h2 with h2
 exact⟨DA h1,by lia⟩
noncomputable def bj(b:Bool)(x:Nat):D:=.tup [.str (sd b),.int x]
noncomputable def pick(h l:List Nat)(b:Bool):List Nat:=if b then h else l
noncomputable def jY(h l:List Nat)(k:Nat)(ks:List (List Ky))(vs:List D):Prop:=ks.length=vs.length/\ks.length<=2*k/\∀ b p,p<k->aM ks vs (nk b p)=some (bj b (at' (pick h l b) p))
theorem jY.next{k:Nat}(N:jY h l k ks vs):jY h l (k+1) (putD (putD ks vs (nk true k) (bj true (at' h k))).1 (putD ks vs (nk true k) (bj true (at' h k))).2 (nk false k) (bj false (at' l k))).1 (putD (putD ks vs (nk true k) (bj true (at' h k))).1 (putD ks vs (nk true k) (bj true (at' h k))).2 (nk false k) (bj false (at' l k))).2:=by
 obtain⟨n1,n2,n3⟩:=N
 obtain⟨a1,a2⟩:=gI (x:=nk true k) (d:=bj true (at' h k)) n1
 obtain⟨b1,b2⟩:=gI (x:=nk false k) (d:=bj false (at' l k)) a1
 refine⟨b1,by lia,fun b p hp=>?_⟩
 rw[fE a1,fE n1]
 by_cases e:p=k
 ·subst e
  cases b
  ·rw[if_pos rfl];rfl
  ·rw[if_neg (fun c=>by have:=(rY c).1;cases this),if_pos rfl];rfl
 ·rw[if_neg (fun c=>e (rY c).2.symm),if_neg (fun c=>e (rY c).2.symm)]
  exact n3 b p (by lia)
theorem x9{fr:Nat}{n:Nat}{h l:List Nat}(hn:n<=10)(hh:h.length=2*n)(hl:l.length=2*n):∃ ks vs o,jY h l (2*n) ks vs/\bg (af cl [3,5,6] (fO fr)) [4] (L (List.range (2*n))) [some (.tup (L h)),some (.tup (L l)),some (.int n),some (.dT [] []),none,none,none,none,none]=some (.nx,[some (.tup (L h)),some (.tup (L l)),some (.int n),some (.dT ks vs),o,none,none,none,none]):=by
 obtain⟨σ',e,ks,vs,o,rfl,N⟩:=cJ (f:=af cl [3,5,6] (fO fr)) (tg:=[4]) (xs:=List.range (2*n)) (σ:=[some (.tup (L h)),some (.tup (L l)),some (.int n),some (.dT [] []),none,none,none,none,none])
  (fun p σ=>∃ ks vs o,σ=[some (.tup (L h)),some (.tup (L l)),some (.int n),some (.dT ks vs),o,none,none,none,none]/\jY h l p.length ks vs) ⟨[],[],none,rfl,rfl,by simp,by simp⟩ (by
   rintro p x q σ hx ⟨ks,vs,o,rfl,N⟩
   obtain⟨h1,h2⟩:=du (g:=id) (by simpa using hx)
   simp only[id]at h2
   subst h2
   have i1:=dk (f:=h) (x:=p.length) (by lia)
   have i2:=dk (f:=l) (x:=p.length) (by lia)
   have a:=gI (x:=nk true p.length) (d:=bj true (at' h p.length)) N.1
   have m1:ks.length<most:=by have:=N.2.1;unfold most;lia
   have m2:(putD ks vs (nk true p.length) (bj true (at' h p.length))).1.length<most:=by have:=N.2.1;unfold most;lia
   refine⟨_,?_,_,_,some (.int (p.length:Int)),rfl,by simpa using N.next⟩
   have k1:keysOf [.str (PySem.Str.ofString "high"),.int (p.length:Int)]=some (nk true p.length):=rfl
   have k2:keysOf [.str (PySem.Str.ofString "low"),.int (p.length:Int)]=some (nk false p.length):=rfl
   have u1:d5 (.dT ks vs) (.tup [.str (PySem.Str.ofString "high"),.int (p.length:Int)]) (.tup [.str (PySem.Str.ofString "high"),.int (at' h p.length:Nat)])=some (.dT (putD ks vs (nk true p.length) (bj true (at' h p.length))).1 (putD ks vs (nk true p.length) (bj true (at' h p.length))).2):=by
    dsimp only[d5]
    rw[k1,Option.bind_some,if_pos m1]
    rfl
   have u2:∀ ks vs,ks.length<most->d5 (.dT ks vs) (.tup [.str (PySem.Str.ofString "low"),.int (p.length:Int)]) (.tup [.str (PySem.Str.ofString "low"),.int (at' l p.length:Nat)])=some (.dT (putD ks vs (nk false p.length) (bj false (at' l p.length))).1 (putD ks vs (nk false p.length) (bj false (at' l p.length))).2):=by
    intro ks vs m
    dsimp only[d5]
    rw[k2,Option.bind_some,if_pos m]
    rfl
   simp only[aJ,fO,af,evS,ev,evs,List.set,Option.bind_some,List.getElem?_cons_zero,List.getElem?_cons_succ,id,i1,i2,Option.map_some,D.imm,aq,Bool.and_self,if_true,u1,u2 _ _ m2])
 simp only[List.length_range]at N
 exact⟨ks,vs,o,N,e⟩
noncomputable def stp(n:Nat)(h l:List Nat)(s:Bool × Nat):Bool × Nat:=if s.1=decide (n<=s.2)then(!s.1,at' (pick h l (!s.1)) ((s.2+n)%(2*n)))else s
noncomputable def itr(n:Nat)(h l:List Nat):Nat->Bool × Nat->Bool × Nat
 | 0,s=>s
 | i+1,s=>stp n h l (itr n h l i s)
noncomputable def Tr(n:Nat)(s:Bool × Nat)(m:Nat):Prop:=s.1=decide (n<=s.2)/\s.2%n=m
noncomputable def GD(gk:List Ky)(gv:List D)(k:Nat)(P:Nat->Prop):Prop:=gk.length=gv.length/\gk.length<=k/\∀ m:Nat,(aM gk gv (.inl (m:Int))).isSome=true↔P m
theorem GD.put{k:Nat}(G:GD gk gv k P)(m0:Nat)(d:D):GD (putD gk gv (.inl (m0:Int)) d).1 (putD gk gv (.inl (m0:Int)) d).2 (k+1) (fun m=>P m\/m0=m):=by
 obtain⟨g1,g2,g3⟩:=G
 obtain⟨a1,a2⟩:=gI (x:=(.inl (m0:Int):Ky)) (d:=d) g1
 refine⟨a1,by lia,fun m=>?_⟩
 rw[fE g1]
 by_cases e:m0=m
 ·subst e
  simp
 ·rw[if_neg (fun c=>e (by injection c;lia)),g3]
  simp[e]
theorem GD.mono{k k':Nat}{P Q:Nat->Prop}(G:GD gk gv k P)(hk:k<=k')(h:∀ m,P m↔Q m):GD gk gv k' Q :=
 ⟨G.1,by have:=G.2.1;lia,fun m=>(G.2.2 m).trans (h m)⟩
noncomputable def hst(n:Nat)(h l:List Nat)(ks:List (List Ky))(vs:List D)(o4:Option D)(fnd:List Nat)(gk:List Ky)(gv:List D)(o7 o8:Option D):St :=
 [some (.tup (L h)),some (.tup (L l)),some (.int n),some (.dT ks vs),o4,some (.lst (L fnd)),some (.dK gk gv),o7,o8]
section
variable{fr n:Nat}{h l:List Nat}{ks:List (List Ky)}{vs:List D}{fnd:List Nat}
theorem sy(b:Bool)(x:Nat):ixV (bj b x) (.int 0)=some (.str (sd b)):=rfl
theorem lW(b:Bool)(x:Nat):ixV (bj b x) (.int 1)=some (.int (x:Nat)):=rfl
theorem m6(b:Bool):ixV (.lst [.str (PySem.Str.ofString "high"),.str (PySem.Str.ofString "low")]) (.int (if b=true then 1 else 0))=some (.str (sd !b)):=by cases b<;>rfl
theorem Bd(h1:1<=n)(hn:n<=10)(N:jY h l (2*n) ks vs){b:Bool}{x:Nat}(hx:x<2*n){k:Nat}(G:GD gk gv k P)(hk:k<=2000)(o4 o8:Option D)(t:D) :
  ∃ gk' gv',GD gk' gv' (k+1) (fun m=>P m\/Tr n (b,x) m)/\(aJ [8] t (hst n h l ks vs o4 fnd gk gv (some (bj b x)) o8)).bind (af cl [3,5,6] (dz fr))=some (.nx,hst n h l ks vs o4 fnd gk' gv' (some (bj (stp n h l (b,x)).1 (stp n h l (b,x)).2)) (some t)):=by
 have e1:aB .mul (.int 2) (.int n)=some (.int (2*n)):=bM (by decide) (by decide)
 have cnd:ev cl (hst n h l ks vs o4 fnd gk gv (some (bj b x)) (some t)) (.cmp .eq (.cmp .eq (.ix (.var 7) (.cst (.int 0))) (.cst (.str "high"))) (.cmp .ge (.ix (.var 7) (.cst (.int 1))) (.var 2)))=some (.bl (b == decide (n<=x))):=by
  simp only[hst,ev,Option.bind_some,List.getElem?_cons_zero,List.getElem?_cons_succ,id,sy,lW,bh,eqD,qp,Option.map_some]
  simp
 by_cases e:b=decide (n<=x)
 ·refine⟨_,_,(G.put (x%n) (.bl true)).mono (Nat.le_refl _) (fun m=>by simp[Tr,e]),?_⟩
  have m1:aB .mod (.int (x:Nat)) (.int n)=some (.int ((x%n:Nat):Int)):=by rw[eh (by lia)];simp
  have m2:aB .mod (.int ((x:Nat)+(n:Int))) (.int (2*(n:Int)))=some (.int (((x+n)%(2*n):Nat):Int)):=by rw[eh (by lia)];simp
  have u:d5 (.dK gk gv) (.int ((x%n:Nat):Int)) (.bl true)=some (.dK (putD gk gv (.inl ((x%n:Nat):Int)) (.bl true)).1 (putD gk gv (.inl ((x%n:Nat):Int)) (.bl true)).2):=by
   dsimp only[d5,keyOf]
   rw[Option.bind_some,if_pos (by have:=G.2.1;unfold most;lia)]
  have lk:pe (.dT ks vs) (.tup [.str (sd !b),.int (((x+n)%(2*n):Nat):Int)])=some (bj (!b) (at' (pick h l !b) ((x+n)%(2*n)))):=by
   have:=N.2.2 (!b) ((x+n)%(2*n)) (Nat.mod_lt _ (by lia))
   rw[<-this]
   rfl
  have s1:stp n h l (b,x)=(!b,at' (pick h l !b) ((x+n)%(2*n))):=by unfold stp;rw[if_pos e]
  rw[s1]
  have eb:(b == decide (n<=x))=true:=by simp[e]
  rw[eb]at cnd
  simp only[aJ,hst,List.set,Option.bind_some,dz,af,evS]at cnd ⊢
  rw[cnd]
  simp only[Option.bind_some,truth,if_true,af,evS,ev,evs,List.getElem?_cons_zero,List.getElem?_cons_succ,id,sy,lW,m1,u,D.imm,Option.map_some,List.set,bh,eqD,qp,biV,m6,bX,e1,m2,lk]
  have ok:aQ [3,5,6] (.ixD (.var 3) (.tup (.cons (.ix (.lst (.cons (.cst (.str "high")) (.cons (.cst (.str "low")) .nil))) (.bi .int (.cmp .eq (.ix (.var 7) (.cst (.int 0))) (.cst (.str "high"))))) (.cons (.bin .mod (.bin .add (.ix (.var 7) (.cst (.int 1))) (.var 2)) (.bin .mul (.cst (.int 2)) (.var 2))) .nil)))) (bj (!b) (at' (pick h l !b) ((x+n)%(2*n))))=true:=rfl
  rw[if_pos ok]
  rfl
 ·refine⟨gk,gv,G.mono (by lia) (fun m=>by simp[Tr,e]),?_⟩
  have s1:stp n h l (b,x)=(b,x):=by unfold stp;rw[if_neg e]
  rw[s1]
  have eb:(b == decide (n<=x))=false:=by simp[e]
  rw[eb]at cnd
  simp only[aJ,hst,List.set,Option.bind_some,dz,af,evS]at cnd ⊢
  rw[cnd]
  simp[truth,af]
theorem C3(hh:∀ x,x<2*n->at' h x<2*n)(hl:∀ x,x<2*n->at' l x<2*n){s:Bool × Nat}(hs:s.2<2*n):(stp n h l s).2<2*n:=by
 unfold stp
 split
 ·have m:(s.2+n)%(2*n)<2*n:=Nat.mod_lt _ (by lia)
  cases s.1
  ·exact hh _ m
  ·exact hl _ m
 ·exact hs
theorem gZ(hh:∀ x,x<2*n->at' h x<2*n)(hl:∀ x,x<2*n->at' l x<2*n){s:Bool × Nat}(hs:s.2<2*n):∀ i,(itr n h l i s).2<2*n
 | 0=>hs
 | i+1=>C3 hh hl (gZ hh hl hs i)
noncomputable def Met(n:Nat)(h l:List Nat)(s:Bool × Nat)(i:Nat)(m:Nat):Prop:=∃ j,j<i/\Tr n (itr n h l j s) m
theorem Bq(h1:1<=n)(hn:n<=10)(N:jY h l (2*n) ks vs)(hh:∀ x,x<2*n->at' h x<2*n)(hl:∀ x,x<2*n->at' l x<2*n){s:Bool × Nat}(hs:s.2<2*n){k:Nat}(G:GD gk gv k P)(hk:k<=1000)(o4 o8:Option D) :
  ∃ gk' gv' o8',GD gk' gv' (k+4*n) (fun m=>P m\/Met n h l s (4*n) m)/\bg (af cl [3,5,6] (dz fr)) [8] (L (List.range (4*n))) (hst n h l ks vs o4 fnd gk gv (some (bj s.1 s.2)) o8)=some (.nx,hst n h l ks vs o4 fnd gk' gv' (some (bj (itr n h l (4*n) s).1 (itr n h l (4*n) s).2)) o8'):=by
 obtain⟨σ',e,gk',gv',o8',rfl,G'⟩:=cJ (f:=af cl [3,5,6] (dz fr)) (tg:=[8]) (xs:=List.range (4*n)) (σ:=hst n h l ks vs o4 fnd gk gv (some (bj s.1 s.2)) o8)
  (fun p σ=>∃ gk' gv' o8',σ=hst n h l ks vs o4 fnd gk' gv' (some (bj (itr n h l p.length s).1 (itr n h l p.length s).2)) o8'/\GD gk' gv' (k+p.length) (fun m=>P m\/Met n h l s p.length m))
  ⟨gk,gv,o8,rfl,G.mono (by simp) (fun m=>by simp[Met])⟩ (by
   rintro p x q σ hx ⟨gk',gv',o8',rfl,G'⟩
   obtain⟨a1,a2⟩:=du (g:=id) (by simpa using hx)
   obtain⟨gk2,gv2,G2,e2⟩:=Bd (cl:=cl) (fr:=fr) (fnd:=fnd) h1 hn N (gZ hh hl hs p.length) G' (by lia) o4 o8' (.int (x:Nat)) (b:=(itr n h l p.length s).1)
   refine⟨_,e2,gk2,gv2,_,by rw[List.length_append];rfl,G2.mono (by simp;lia) (fun m=>?_)⟩
   simp only[Met,List.length_append,List.length_singleton]
   constructor
   ·rintro((hp | ⟨j,h1,h2⟩) | h2)
    ·exact .inl hp
    ·exact .inr ⟨j,by lia,h2⟩
    ·exact .inr ⟨p.length,by lia,h2⟩
   ·rintro(hp | ⟨j,h1,h2⟩)
    ·exact .inl (.inl hp)
    ·by_cases hj:j=p.length
     ·subst hj
      exact .inr h2
     ·exact .inl (.inr ⟨j,by lia,h2⟩))
 simp only[List.length_range]at G' e
 exact⟨gk',gv',o8',G',e⟩
noncomputable def beg(n:Nat)(h l:List Nat)(p:Nat):Bool × Nat:=(decide (p<n),at' (pick h l (decide (p<n))) p)
noncomputable def ay(n:Nat)(h l:List Nat):List Nat:=(List.range (2*n)).map fun p=>(itr n h l (4*n) (beg n h l p)).2
noncomputable def Gn(n:Nat)(h l:List Nat)(k m:Nat):Prop:=∃ p,p<k/\Met n h l (beg n h l p) (4*n) m
theorem GK(b:Bool):ixV (.lst [.str (PySem.Str.ofString "high"),.str (PySem.Str.ofString "low")]) (.int (if b=true then 1 else 0))=some (.str (sd !b)):=m6 b
theorem Br(h1:1<=n)(hn:n<=10)(N:jY h l (2*n) ks vs)(hh:∀ x,x<2*n->at' h x<2*n)(hl:∀ x,x<2*n->at' l x<2*n)(o4 o7 o8:Option D) :
  ∃ gk gv o4' o7' o8',GD gk gv 1000 (Gn n h l (2*n))/\bg (af cl [3,5,6] (fS fr)) [4] (L (List.range (2*n))) (hst n h l ks vs o4 [] [] [] o7 o8)=some (.nx,hst n h l ks vs o4' (ay n h l) gk gv o7' o8'):=by
 have e4:aB .mul (.int 4) (.int n)=some (.int (4*n)):=bM (by decide) (by decide)
 have r4:=cj (n:=4*n) (by lia)
 rw[show((4*n:Nat):Int)=4*(n:Int) by lia]at r4
 obtain⟨σ',e,gk,gv,o4',o7',o8',rfl,G⟩:=cJ (f:=af cl [3,5,6] (fS fr)) (tg:=[4]) (xs:=List.range (2*n)) (σ:=hst n h l ks vs o4 [] [] [] o7 o8)
  (fun p σ=>∃ gk gv o4' o7' o8',σ=hst n h l ks vs o4' ((List.range p.length).map fun p=>(itr n h l (4*n) (beg n h l p)).2) gk gv o7' o8'/\GD gk gv (40*p.length) (Gn n h l p.length))
  ⟨[],[],o4,o7,o8,rfl,rfl,by simp,fun m=>by simp[aM,Gn]⟩ (by
   rintro p x q σ hx ⟨gk,gv,o4',o7',o8',rfl,G⟩
   obtain⟨a1,a2⟩:=du (g:=id) (by simpa using hx)
   simp only[id]at a2
   subst a2
   have hb:(beg n h l p.length).2<2*n:=by
    unfold beg pick
    cases decide (p.length<n)
    ·exact hl _ a1
    ·exact hh _ a1
   obtain⟨gk2,gv2,o82,G2,e2⟩:=Bq (cl:=cl) (fr:=fr) (fnd:=(List.range p.length).map fun p=>(itr n h l (4*n) (beg n h l p)).2) h1 hn N hh hl hb G (by lia) (some (.int (p.length:Nat))) o8'
   have c1:bh .ge (.int (p.length:Nat)) (.int n)=some (!decide (p.length<n)):=by
    rw[pz]
    congr 1
    by_cases c:p.length<n
    ·simp[c]
    ·simp[c];lia
   have lk:pe (.dT ks vs) (.tup [.str (sd (decide (p.length<n))),.int (p.length:Nat)])=some (bj (beg n h l p.length).1 (beg n h l p.length).2):=by
    have:=N.2.2 (decide (p.length<n)) p.length a1
    rw[show bj (beg n h l p.length).1 (beg n h l p.length).2=bj (decide (p.length<n)) (at' (pick h l (decide (p.length<n))) p.length)from rfl,<-this]
    rfl
   have sx:=m6 (!decide (p.length<n))
   rw[Bool.not_not]at sx
   refine⟨hst n h l ks vs (some (.int (p.length:Nat))) ((List.range (p++[p.length]).length).map fun p=>(itr n h l (4*n) (beg n h l p)).2) gk2 gv2 (some (bj (itr n h l (4*n) (beg n h l p.length)).1 (itr n h l (4*n) (beg n h l p.length)).2)) o82,?_,gk2,gv2,_,_,_,rfl,G2.mono (by simp;lia) (fun m=>?_)⟩
   ·have ok:aQ [3,5,6] (.ixD (.var 3) (.tup (.cons (.ix (.lst (.cons (.cst (.str "high")) (.cons (.cst (.str "low")) .nil))) (.bi .int (.cmp .ge (.var 4) (.var 2)))) (.cons (.var 4) .nil)))) (bj (beg n h l p.length).1 (beg n h l p.length).2)=true:=rfl
    simp only[aJ,hst,List.set,Option.bind_some,fS,af,evS,ev,evs,bb,List.getElem?_cons_zero,List.getElem?_cons_succ,id,c1,Option.map_some,biV,sx,lk,e4,r4]at e2 ⊢
    rw[if_pos ok]
    simp only[Option.bind_some,e4,r4,List.getElem?_cons_zero,List.getElem?_cons_succ,id,e2,lW]
    have ml:((D.int (((itr n h l (4*n) (beg n h l p.length)).2:Nat):Int)).imm&&decide ((L (List.map (fun p=>(itr n h l (4*n) (beg n h l p)).snd) (List.range p.length))).length<most))=true:=by
     simp[D.imm,aF,most]
     lia
    rw[if_pos ml]
    simp[L,List.range_succ]
   ·simp only[Gn,List.length_append,List.length_singleton]
    constructor
    ·rintro(⟨j,h1,h2⟩ | h2)
     ·exact⟨j,by lia,h2⟩
     ·exact⟨p.length,by lia,h2⟩
    ·rintro⟨j,h1,h2⟩
     by_cases hj:j=p.length
     ·subst hj
      exact .inr h2
     ·exact .inl ⟨j,by lia,h2⟩)
 simp only[List.length_range]at G e
 exact⟨gk,gv,o4',o7',o8',G.mono (by lia) (fun _=>Iff.rfl),e⟩
theorem Ac(h1:1<=n)(hn:n<=10)(h2:h.length=2*n)(l2:l.length=2*n)(hh:∀ x,x<2*n->at' h x<2*n)(hl:∀ x,x<2*n->at' l x<2*n) :
  ∃ inner:List Nat,(∀ m,m∈inner↔m<n/\¬ Gn n h l (2*n) m)/\inner.length<=n/\∀ r:Int,cl fr [.tup (L h),.tup (L l),.lst (L inner)]=some (.int r)->evF cl (gy fr) [.tup (L h),.tup (L l)]=some (.tup [.tup (L (ay n h l)),.int r]):=by
 have e1:aB .mul (.int 2) (.int n)=some (.int (2*n)):=bM (by decide) (by decide)
 have r2:=cj (n:=2*n) (by lia)
 rw[show((2*n:Nat):Int)=2*(n:Int) by lia]at r2
 have r1:=cj (n:=n) (by lia)
 obtain⟨ks,vs,o,N,en⟩:=x9 (cl:=cl) (fr:=fr) hn h2 l2
 obtain⟨gk,gv,o4,o7,o8,G,eb⟩:=Br (cl:=cl) (fr:=fr) h1 hn N hh hl o none none
 refine⟨(List.range n).filter fun m:Nat=>!(aM gk gv (.inl (m:Int))).isSome,fun m=>?_,?_,?_⟩
 ·have:=G.2.2 m
  simp[<-this]
 ·have:=List.length_filter_le (fun m:Nat=>!(aM gk gv (.inl (m:Int))).isSome) (List.range n)
  simpa using this
 ·intro r hr
  have e6:=half (xs:=L h) (n:=n) (by rw[aF,h2])
  have e7:=yA n
  have ft:=ky (xs:=List.range n) (by simp;lia)
  have mc:=sr (F:=fun σ1=>((ev cl σ1 (.inD true (.var 4) (.var 6))).bind truth).bind fun k=>if k then(ev cl σ1 (.var 4)).map some else some none) (tg:=[4]) (σ:=hst n h l ks vs o4 (ay n h l) gk gv o7 o8) (g:=fun m=>.int (m:Nat)) (c:=fun m=>!(aM gk gv (.inl (m:Int))).isSome) (fun _=>rfl) (List.range n) (by
   intro x _
   simp only[aJ,hst,List.set,Option.bind_some,ev,List.getElem?_cons_zero,List.getElem?_cons_succ,id,yQ,keyOf,Option.map_some,truth,if_true]
   cases(aM gk gv (.inl (x:Int))).isSome<;>rfl)
  simp only[evF,gy,af,evS,ev,bb]
  simp[ev,e6,e7,aQ,D.imm,a9,aq,e1,r2]
  rw[en]
  simp[af,evS,ev,evs,bb,e1,r2,a9,aq,D.imm]
  simp[hst]at eb
  rw[show L []=[]from rfl]at eb
  rw[eb]
  simp[af,evS,ev,evs,bb,r1,ft,biV,items]
  simp[ev,hst]at mc
  rw[mc]
  rw[show(List.map (fun m:Nat=>D.int (m:Int)) (List.filter (fun m:Nat=>(aM gk gv (Sum.inl (m:Int))).isNone) (List.range n)))=L (List.filter (fun m:Nat=>(aM gk gv (Sum.inl (m:Int))).isNone) (List.range n))from rfl]
  simp at hr
  simp[hr,aS,D.imm,aq,aK,aU]
end
theorem sC{κ:Type} [DecidableEq κ]:∀ {ks:List κ} {vs:List D} {x:κ} {d:D},aM ks vs x=some d->x∈ks
 | k::ks,v::vs,x,d,h=>by
  rw[aM]at h
  by_cases e:k=x
  ·simp[e]
  ·rw[if_neg e]at h
   simp[sC h]
theorem ym{κ:Type} [DecidableEq κ]{ks:List κ}{vs:List D}{x:κ}{d e:D}(h:aM ks vs x=some d):(putD ks vs x e).1=ks:=by
 unfold putD
 rw[if_pos (sC h)]
noncomputable def HI(inner:List Nat)(hk:List Ky)(hv:List D):Prop:=hk.length=hv.length/\hk.length<=10/\∀ m∈inner,∃ v:Int,aM hk hv (.inl (m:Int))=some (.int v)
theorem HI.put{inner:List Nat}(H:HI inner hk hv){m:Nat}(hm:m∈inner)(v:Int):HI inner (putD hk hv (.inl (m:Int)) (.int v)).1 (putD hk hv (.inl (m:Int)) (.int v)).2:=by
 obtain⟨a,b,c⟩:=H
 obtain⟨v0,h0⟩:=c m hm
 refine⟨(gI a).1,by rw[ym h0];exact b,fun i hi=>?_⟩
 rw[fE a]
 by_cases e:(.inl (m:Int):Ky)=.inl (i:Int)
 ·rw[if_pos e];exact⟨v,rfl⟩
 ·rw[if_neg e];exact c i hi
noncomputable def rst(n:Nat)(h l inner:List Nat)(hk:List Ky)(hv:List D)(o5 o6 o7 o8 o9:Option D):St :=
 [some (.tup (L h)),some (.tup (L l)),some (.lst (L inner)),some (.int n),some (.dK hk hv),o5,o6,o7,o8,o9]
section
variable{n:Nat}{h l inner:List Nat}
theorem kM{hk:List Ky}{hv:List D}{m:Nat}{v:Int}(e:aM hk hv (.inl (m:Int))=some (.int v)):pe (.dK hk hv) (.int (m:Nat))=some (.int v):=e
theorem ints_map(v:Nat->Int):∀ xs:List Nat,c8 (xs.map fun m=>.int (v m))=some (xs.map v)
 | []=>rfl
 | x::r=>by simp[c8,ints_map v r]
end
noncomputable def cU(n:Nat)(f:List Nat):List Nat:=(List.range (2*n)).map fun p=>if p<n then(if at' f p<n then at' f p else p+n)else(if at' f (p-n)<n then at' f (p-n)+n else p-n)
theorem nO{n:Nat}{f:List Nat}{p:Nat}(h:p<2*n):at' (cU n f) p=if p<n then(if at' f p<n then at' f p else p+n)else(if at' f (p-n)<n then at' f (p-n)+n else p-n):=by
 unfold cU
 rw[at']
 rw[List.getElem?_map,List.getElem?_range h]
 rfl
theorem cW{n:Nat}{h l:List Nat}{s:Bool × Nat}(hs:stp n h l s=s):∀ i,itr n h l i s=s
 | 0=>rfl
 | i+1=>by rw[itr,cW hs i,hs]
theorem eG{n:Nat}{h l:List Nat}{s t:Bool × Nat}(hs:stp n h l s=t)(ht:stp n h l t=t):∀ i,itr n h l (i+1) s=t
 | 0=>hs
 | i+1=>by rw[itr,eG hs ht i,ht]
section
variable{n:Nat}{f:List Nat}
theorem B3(F:Frm n f){p:Nat}(h:p<n):at' (bp n f) p=if at' f (p+n)<n then at' f (p+n)+n else at' f (p+n)-n:=by
 rw[oJ (by lia),Nat.mod_eq_of_lt (a:=p+n) (by lia)]
 have:=F.lt (p+n) (by lia)
 split
 ·rw[Nat.mod_eq_of_lt (by lia)]
 ·rw[Nat.mod_eq_sub_mod (by lia),Nat.mod_eq_of_lt (by lia)];lia
theorem BQ(F:Frm n f){p:Nat}(h:n<=p)(h2:p<2*n):at' (bp n f) p=if at' f (p-n)<n then at' f (p-n)+n else at' f (p-n)-n:=by
 rw[oJ (by lia),show(p+n)%(2*n)=p-n by rw[Nat.mod_eq_sub_mod (by lia),Nat.mod_eq_of_lt (by omega)];lia]
 have:=F.lt (p-n) (by lia)
 split
 ·rw[Nat.mod_eq_of_lt (by lia)]
 ·rw[Nat.mod_eq_sub_mod (by lia),Nat.mod_eq_of_lt (by lia)];lia
theorem AS(F:Frm n f){p:Nat}(hp:p<2*n):(∀ i,(itr n f (bp n f) (i+1) (beg n f (bp n f) p)).2=at' (cU n f) p)/\∀ i m,m<n->Tr n (itr n f (bp n f) i (beg n f (bp n f) p)) m->at' f (n+m)<n:=by
 rw[nO hp]
 by_cases h:p<n
 ·have b0:beg n f (bp n f) p=(true,at' f p):=by simp[beg,h,pick]
  rw[b0,if_pos h]
  have l0:=F.lt p (by lia)
  by_cases c:at' f p<n
  ·have st:stp n f (bp n f) (true,at' f p)=(true,at' f p):=by
    unfold stp
    rw[if_neg (by simp;lia)]
   refine⟨fun i=>by rw[cW st,if_pos c],fun i m hm t=>?_⟩
   rw[cW st]at t
   have:=t.1
   simp at this
   lia
  ·have st:stp n f (bp n f) (true,at' f p)=(false,p+n):=by
    unfold stp
    rw[if_pos (by simp;lia)]
    show(false,at' (bp n f) ((at' f p+n)%(2*n)))=_
    rw[show(at' f p+n)%(2*n)=at' f p-n by rw[Nat.mod_eq_sub_mod (by lia),Nat.mod_eq_of_lt (by lia)];lia,B3 F (by lia),show at' f p-n+n=at' f p by lia,F.inv,if_pos h]
   have s2:stp n f (bp n f) (false,p+n)=(false,p+n):=by
    unfold stp
    rw[if_neg (by simp)]
   refine⟨fun i=>by rw[eG st s2,if_neg c],fun i m hm t=>?_⟩
   cases i with
   |zero=>
    have t2:=t.2
    simp only[itr]at t2
    have:n+m=at' f p:=by
     rw[Nat.mod_eq_sub_mod (by lia),Nat.mod_eq_of_lt (by omega)]at t2
     lia
    rw[this,F.inv]
    exact h
   |succ i=>
    rw[eG st s2]at t
    have:=t.1
    simp at this
 ·have b0:beg n f (bp n f) p=(false,at' (bp n f) p):=by simp[beg,h,pick]
  rw[b0,if_neg h,BQ F (by lia) hp]
  have l0:=F.lt (p-n) (by lia)
  by_cases c:at' f (p-n)<n
  ·rw[if_pos c,if_pos c]
   have st:stp n f (bp n f) (false,at' f (p-n)+n)=(false,at' f (p-n)+n):=by
    unfold stp
    rw[if_neg (by simp)]
   refine⟨fun i=>by rw[cW st],fun i m hm t=>?_⟩
   rw[cW st]at t
   have:=t.1
   simp at this
  ·rw[if_neg c,if_neg c]
   have st:stp n f (bp n f) (false,at' f (p-n)-n)=(true,p-n):=by
    unfold stp
    rw[if_pos (by simp;lia)]
    show(true,at' f ((at' f (p-n)-n+n)%(2*n)))=_
    rw[show at' f (p-n)-n+n=at' f (p-n) by lia,Nat.mod_eq_of_lt l0,F.inv]
   have s2:stp n f (bp n f) (true,p-n)=(true,p-n):=by
    unfold stp
    rw[if_neg (by simp;lia)]
   refine⟨fun i=>by rw[eG st s2],fun i m hm t=>?_⟩
   cases i with
   |zero=>
    have t2:=t.2
    simp only[itr]at t2
    rw[Nat.mod_eq_of_lt (by omega)]at t2
    have:n+m=at' f (p-n):=by lia
    rw[this,F.inv]
    lia
   |succ i=>
    rw[eG st s2]at t
    have:=t.1
    simp at this
    lia
theorem ye(h1:1<=n)(F:Frm n f):ay n f (bp n f)=cU n f:=by
 apply xG (n:=n) (by simp[ay]) (by simp[cU])
 funext p
 by_cases hp:p<2*n
 ·have:=(AS F hp).1 (4*n-1)
  rw[<-this,show 4*n-1+1=4*n by lia]
  simp[at',ay,hp]
 ·rw[di (by simp[ay];lia),di (by simp[cU];lia)]
theorem mM(F:Frm n f){q:Nat}(h:q<n):rnd n f q=if at' f q<n then at' f q else 3*n-1-at' f q:=by
 unfold rnd
 rw[show rd n q=q by simp[rd,h]]
 rfl
end
theorem vJ{fhu fov ffr ftx fho fpl fdi:Nat}{scr:D}{k n:Nat}(h1:1<=n)(hn:n<=10)
 (hd:∃ ds:List Nat,kG ds [8,10 ^ 12,max 1 (n-1)]/\cl fdi [scr,.int k,.lst (L [8,10 ^ 12,max 1 (n-1)])]=some (.lst (L ds)))
 (hpl:cl fpl [.int n]=some (.tup (L (aT n))))
 (hho:∀ i:Nat,i+1<n->cl fho [.int n,.int i]=some (.tup (L (fL n i))))
 (htx:∀ r:Int,∃ w:List Bool,w.length=2*n/\dpf 0 w=some 0/\cl ftx [.int r,.int n]=some (.str (tx w)))
 (hfr:∀ w:List Bool,w.length=2*n->dpf 0 w=some 0->∃ f:List Nat,Val n f/\cl ffr [.str (tx w)]=some (.tup (L f)))
 (hov:∀ f:List Nat,f.length=2*n->cl fov [.tup (L f)]=some (.tup (L (bp n f))))
 (hhu:∀ f:List Nat,Val n f->∃ (g:List Nat) (r:Int),Val n g/\cl fhu [.tup (L f),.tup (L (bp n f))]=some (.tup [.tup (L g),.int r])) :
  ∃ f:List Nat,Val n f/\evF cl (i4 fhu fov ffr ftx fho fpl fdi) [scr,.int k,.int n]=some (.tup (L f)):=by
 obtain⟨ds,⟨dl,dd⟩,hd⟩:=hd
 match ds,dl with
 |[a,b,c],_=>
  have hc:c<max 1 (n-1):=dd 2 c _ rfl rfl
  have mx:(if(n:Int)-1 > 1 then(n:Int)-1 else 1)=((max 1 (n-1):Nat):Int):=by
   split<;>lia
  have pw:aB .pow (.int 10) (.int 12)=some (.int ((10 ^ 12:Nat):Int)):=rfl
  obtain⟨w,w1,w2,w3⟩:=htx b
  obtain⟨f,V,f3⟩:=hfr w w1 w2
  obtain⟨g,r,V',hu⟩:=hhu f V
  have ho:=hov f V.frm.len
  have tl:∀ g:List Nat,aS [] (.cst .non) (.tup (L g))=true/\(D.tup (L g)).imm=true:=fun g=>by simp[aS,D.imm,aK]
  have ret:∀ (e:E) (g:List Nat),aS [] e (.tup (L g))=true:=fun e g=>by unfold aS;rw[(tl g).2];rfl
  have start:∀ {rest:Ss} {d:D},(∃ σ,af cl [] rest [some scr,some (.int k),some (.int n),none,some (.int (a:Nat)),some (.int (b:Nat)),some (.int (c:Nat))]=some (.rt d,σ))->evF cl ⟨3,7,[],[],.cons (.unp [4,5,6] (.call fdi (.cons (.var 0) (.cons (.var 1) (.cons (.lst (.cons (.cst (.int 8)) (.cons (.bin .pow (.cst (.int 10)) (.cst (.int 12))) (.cons (.max (.cst (.int 1)) (.bin .sub (.var 2) (.cst (.int 1)))) .nil)))) .nil))))) rest⟩ [scr,.int k,.int n]=some d:=fun {rest d} ⟨σ,h⟩ =>
   aN rfl rfl (r9 (mj (aa rfl) (aa rfl) (dZ (a6 aj (a6 (az aj aj pw) (a6 ((FW aj (az (aa rfl) aj j0)).trans (by rw[mx])) bu)))) hd) rfl rfl rfl h)
  have no:∀ {j:Nat},a≠j->∀ o,(ev cl [some scr,some (.int k),some (.int n),o,some (.int (a:Nat)),some (.int (b:Nat)),some (.int (c:Nat))] (.cmp .eq (.var 4) (.cst (.int (j:Nat)))))=some (.bl false):=fun {j} h o=>a8 (aa rfl) aj (by rw[cA,beq_eq_false_iff_ne.mpr (by lia)])
  have yes:∀ {j:Nat},a=j->∀ o,(ev cl [some scr,some (.int k),some (.int n),o,some (.int (a:Nat)),some (.int (b:Nat)),some (.int (c:Nat))] (.cmp .eq (.var 4) (.cst (.int (j:Nat)))))=some (.bl true):=fun {j} h o=>a8 (aa rfl) aj (by rw[cA,h,beq_self_eq_true])
  by_cases a0:a=0
  ·exact⟨aT n,we n,start ⟨_,dI (aI (yes a0 _)) (aL (b8 (aa rfl) hpl) (ret ..))⟩⟩
  ·by_cases a1:a=1/\1<n
   ·exact⟨fL n c,yO hn (by lia),start ⟨_,br (aI (no a0 _)) (dI (aI (cq (yes a1.1 _) (a8 (aa rfl) aj (by rw[ib,decide_eq_true (by lia)])))) (aL (c9 (aa rfl) (aa rfl) (hho c (by lia))) (ret ..)))⟩⟩
   ·have cnd:ev cl [some scr,some (.int k),some (.int n),none,some (.int (a:Nat)),some (.int (b:Nat)),some (.int (c:Nat))] (.and (.cmp .eq (.var 4) (.cst (.int 1))) (.cmp .gt (.var 2) (.cst (.int 1))))=some (.bl false):=by
     by_cases e1:a=1
     ·exact cq (yes e1 _) (a8 (aa rfl) aj (by rw[ib,decide_eq_false (by lia)]))
     ·exact fW (no e1 _)
    have on:∀ {rest:Ss} {d:D},(∃ σ,af cl [] rest [some scr,some (.int k),some (.int n),some (.tup (L f)),some (.int (a:Nat)),some (.int (b:Nat)),some (.int (c:Nat))]=some (.rt d,σ))->∃ σ,af cl [] (.cons (.ife (.cmp .eq (.var 4) (.cst (.int 0))) (.cons (.ret (.call fpl (.cons (.var 2) .nil))) .nil) .nil) (.cons (.ife (.and (.cmp .eq (.var 4) (.cst (.int 1))) (.cmp .gt (.var 2) (.cst (.int 1)))) (.cons (.ret (.call fho (.cons (.var 2) (.cons (.var 6) .nil)))) .nil) .nil) (.cons (.asg 3 (.call ffr (.cons (.call ftx (.cons (.var 5) (.cons (.var 2) .nil))) .nil))) rest))) [some scr,some (.int k),some (.int n),none,some (.int (a:Nat)),some (.int (b:Nat)),some (.int (c:Nat))]=some (.rt d,σ):=fun⟨σ,h⟩ =>
     ⟨σ,br (aI (no a0 _)) (br (aI cnd) (a7 (b8 (c9 (aa rfl) (aa rfl) w3) f3) (by unfold aQ;rw[(tl f).2];rfl) h))⟩
    by_cases a2:a=2
    ·exact⟨g,V',start (on ⟨_,dI (aI (yes a2 _)) (aL (b9 (c9 (aa rfl) (b8 (aa rfl) ho) hu) aj rfl) (ret ..))⟩)⟩
    ·exact⟨f,V,start (on ⟨_,br (aI (no a2 _)) (aL (aa rfl) (ret ..))⟩)⟩
theorem iL{F:St->Option (Option D)}{tg:List Nat}{σ:St}{h g:Nat->D}{c:Nat->Bool}(im:∀ x,(g x).imm=true):∀ xs:List Nat,(∀ x∈xs,(aJ tg (h x) σ).bind F=some (if c x then some (g x)else none))->bW F tg σ (xs.map h)=some ((xs.filter c).map g)
 | [],_=>rfl
 | x::r,hh=>by
  have a:=hh x (by simp)
  have b:=iL im r (fun y hy=>hh y (by simp[hy]))
  rw[List.map_cons,bW]
  cases hb:aJ tg (h x) σ with
  | none=>rw[hb]at a;cases a
  |some σ1=>
   rw[hb]at a
   simp only[Option.bind_some]at a ⊢
   rw[a,b]
   cases hc:c x<;>simp[ko,im,hc]
noncomputable def pr(f:List Nat)(p:Nat):D:=.tup [.int (p:Nat),.int (at' f p:Nat)]
theorem ur:∀ (f:List Nat) (k:Nat),cF (k:Int) (L f)=(List.range f.length).map fun p=>.tup [.int ((k+p:Nat):Int),.int (at' f p:Nat)]
 | [],k=>rfl
 | x::r,k=>by
  rw[show L (x::r)=.int x::L r from rfl,cF,show(k:Int)+1=((k+1:Nat):Int) by lia,ur r (k+1),List.length_cons,List.range_succ_eq_map,List.map_cons,List.map_map]
  congr 1
  apply List.map_congr_left
  intro p hp
  simp at hp
  have e:at' (x::r) (p+1)=at' r p:=by simp[at',hp]
  simp[e]
  lia
theorem gQ{f:List Nat}{m:Nat}(h:f.length=m):cF 0 (L f)=(List.range m).map (pr f):=by
 have:=ur f 0
 rw[h]at this
 simp only[Nat.zero_add]at this
 exact this
theorem mL{β:Type}{f:St->Option (Out × St)}{tg:List Nat}(g:β->D)(im:∀ b,(g b).imm=true)(I:List β->St->Prop):∀ (w done:List β) (σ:St),(∀ u b v σ,done++w=u++b::v->I u σ->∃ σ2,(aJ tg (g b) σ).bind f=some (.nx,σ2)/\I (u++[b]) σ2)->I done σ->∃ σ',bg f tg (w.map g) σ=some (.nx,σ')/\I (done++w) σ'
 | [],done,σ,_,h=>⟨σ,rfl,by simpa using h⟩
 | b::w,done,σ,hs,h=>by
  obtain⟨σ2,h1,h3⟩:=hs done b w σ rfl h
  obtain⟨σ',h4,h5⟩:=mL g im I w (done++[b]) σ2 (fun pre e post σ he=>hs pre e post σ (by simpa using he)) h3
  refine⟨σ',?_,by simpa using h5⟩
  rw[List.map_cons,bg,if_pos (im b)]
  cases hb:aJ tg (g b) σ with
  | none=>rw[hb]at h1;cases h1
  |some σ1=>
   rw[hb]at h1
   simp only[Option.bind_some]at h1 ⊢
   rw[h1]
   exact h4
section
variable{n:Nat}{f:List Nat}
theorem nB{p:Nat}(hp:p<2*n):evF cl dh [.int n,.int (p:Nat)]=some (.int (rd n p:Nat)):=by
 have e1:aB .mul (.int 3) (.int n)=some (.int (3*n)):=bM (by decide) (by decide)
 by_cases c:p<n
 ·have c1:decide ((p:Int)<n)=true:=by simp;lia
  simp[evF,dh,af,evS,ev,c6,c1,truth,aS,D.imm,aU,rd,c]
 ·have c1:decide ((p:Int)<n)=false:=by simp;lia
  simp[evF,dh,af,evS,ev,c6,c1,truth,e1,j0,aS,D.imm,aU,rd,c]
  lia
theorem yb{T:D}{to:Nat->Nat}(hn:n<=10)(F:Frm n f)(hT:∀ p:Nat,p<2*n->ixV T (.int (p:Nat))=some (.int (to p:Nat)))(hlt:∀ p,p<2*n->to p<2*n)(inj:∀ p q,p<2*n->q<2*n->to p=to q->p=q) :
  ∃ E:List Nat,E.length=2*n/\(∀ p,p<2*n->at' E (to p)=to (at' f p))/\evF cl kU [.tup (L f),T]=some (.tup (L E)):=by
 have ln:=half (xs:=L f) (n:=n) (by rw[aF,F.len])
 have en:=gQ F.len
 have e0:aB .mul (.lst [.int 0]) (.int (2*(n:Int)))=some (.lst (L (List.replicate (2*n) 0))):=by
  dsimp only[aB]
  rw[if_pos ⟨by lia,by unfold most;lia,by simp[most];lia⟩]
  have:(2*(n:Int)).toNat=2*n:=by lia
  rw[this]
  simp[L]
 obtain⟨σ',e,E,o3,o4,rfl,El,EE⟩:=mL (f:=af cl [2] mK) (tg:=[3,4]) (pr f) (fun _=>rfl)
  (fun u σ=>∃ (E:List Nat) (o3 o4:Option D),σ=[some (.tup (L f)),some T,some (.lst (L E)),o3,o4]/\E.length=2*n/\∀ p∈u,at' E (to p)=to (at' f p))
  (List.range (2*n)) [] [some (.tup (L f)),some T,some (.lst (L (List.replicate (2*n) 0))),none,none] (by
   rintro u p v σ hu ⟨E,o3,o4,rfl,El,EE⟩
   have hp:p<2*n:=by
    have:p∈List.range (2*n):=by
     simp only[List.nil_append]at hu
     rw[hu];simp
    simpa using this
   have hpu:∀ x∈u,x<2*n/\x≠p:=by
    intro x hx
    simp only[List.nil_append]at hu
    have nd:(List.range (2*n)).Nodup:=List.nodup_range
    have m:x∈List.range (2*n):=by rw[hu];simp[hx]
    rw[hu,List.nodup_append]at nd
    exact⟨by simpa using m,nd.2.2 x hx p (by simp)⟩
   have t1:=hT p hp
   have t2:=hT (at' f p) (F.lt p hp)
   have pt:=gR (f:=E) (i:=to p) (j:=to (at' f p)) (by have:=hlt p hp;lia)
   refine⟨_,?_,E.set (to p) (to (at' f p)),some (.int (p:Nat)),some (.int (at' f p:Nat)),rfl,by simp[El],fun x hx=>?_⟩
   ·simp[aJ,bA,pr,mK,af,evS,ev,t1,t2,D.imm,pt]
   ·rw[cQ (by have:=hlt p hp;lia)]
    simp at hx
    rcases hx with hx | rfl
    ·rw[if_neg (fun c=>(hpu x hx).2 (inj x p (hpu x hx).1 hp c))]
     exact EE x hx
    ·rw[if_pos rfl])
  ⟨_,none,none,rfl,by simp,by simp⟩
 refine⟨E,El,fun p hp=>EE p (by simp[hp]),?_⟩
 simp only[evF,kU,af,evS,ev,evs,bb]
 simp[ev,evs,ln,e0,a9,aK,dU,en]
 rw[e]
 simp[af,evS,ev,biV,items,aS,D.imm,aK,aU]
theorem se{fm frp fpo:Nat}(hn:n<=10)(F:Frm n f)(hpo:∀ xs:List D,cl fpo [.tup xs]=some (.int (xs.length / 2)))(hrp:∀ p:Nat,p<2*n->cl frp [.int n,.int (p:Nat)]=some (.int (rd n p:Nat)))
 (hm:∃ E:List Nat,E.length=2*n/\(∀ p,p<2*n->at' E (rd n p)=rd n (at' f p))/\cl fm [.tup (L f),.lst (L (bL n))]=some (.tup (L E))) :
  ∃ E:List Nat,E.length=2*n/\(∀ q,q<2*n->at' E q=rnd n f q)/\evF cl (gu fm frp fpo) [.tup (L f)]=some (.tup (L E)):=by
 obtain⟨E,El,EE,hm⟩:=hm
 refine⟨E,El,fun q hq=>?_,?_⟩
 ·have:=EE (rd n q) (aX hq)
  rw[bO hq]at this
  exact this
 ·have e1:aB .mul (.int 2) (.int n)=some (.int (2*n)):=bM (by decide) (by decide)
  have r2:=cj (n:=2*n) (by lia)
  rw[show((2*n:Nat):Int)=2*(n:Int) by lia]at r2
  have ft:=ky (xs:=List.range (2*n)) (by simp;lia)
  have po:=hpo (L f)
  rw[aF,F.len,show(((2*n:Nat):Int) / 2)=(n:Int) by lia]at po
  have mc:=kj (F:=fun σ1=>(ev cl σ1 (.call frp (.cons (.var 1) (.cons (.var 2) .nil)))).map some) (tg:=[2]) (σ:=[some (.tup (L f)),some (.int n),none]) (g:=fun p=>.int (rd n p:Nat)) (fun _=>rfl) (List.range (2*n)) (by
   intro x hx
   simp at hx
   have:=hrp x hx
   simp[aJ,ev,evs,this])
  rw[uW,show(List.range (2*n)).map (fun p=>rd n p)=bL n from rfl]at mc
  simp only[evF,gu,af,evS,ev,evs,bb]
  simp[ev,evs,po,aQ,D.imm,e1,r2,ft]
  simp[ev,evs]at mc
  rw[mc]
  simp[hm,aS,D.imm,aK,aU]
end
structure Op(r:Nat->Nat)(k:Nat)(W:List Nat):Prop where
 up:W.Pairwise (·<·)
 mem:∀ p,p∈W↔p<k/\k<=r p
section
variable{r:Nat->Nat}{m k:Nat}{W:List Nat}
theorem Op.push(O:Op r k W)(inv:∀ q,q<m->r (r q)=q)(hk:k<m)(h:k<r k):Op r (k+1) (W++[k]):=by
 refine⟨?_,fun p=>?_⟩
 ·rw[List.pairwise_append]
  exact⟨O.up,by simp,fun a ha b hb=>by simp at hb;have:=(O.mem a).mp ha;lia⟩
 ·simp only[List.mem_append,List.mem_singleton,O.mem]
  constructor
  ·rintro(⟨a,b⟩ | rfl)
   ·refine⟨by lia,?_⟩
    by_cases c:r p=k
    ·have:=inv p (by lia)
     rw[c]at this
     lia
    ·lia
   ·lia
  ·rintro⟨a,b⟩
   by_cases c:p=k
   ·exact .inr c
   ·exact .inl ⟨by lia,by lia⟩
end
section
variable{n:Nat}{f:List Nat}
theorem rK{fu fi fp fc fo:Nat}(h1:1<=n)(hn:n<=10)(V:Val n f)(hpo:∀ xs:List D,cl fo [.tup xs]=some (.int (xs.length / 2)))(hc:cl fc [.int n]=some (.bl true))(hp:cl fp [.tup (L f)]=some (.bl true))
 (hi:∃ E:List Nat,E.length=2*n/\(∀ q,q<2*n->at' E q=rnd n f q)/\cl fi [.tup (L f)]=some (.tup (L E)))
 (hu:∀ E:List Nat,E.length=2*n->(∀ q,q<2*n->at' E (at' E q)=q)->(∀ q,q<2*n->at' E q≠q)->(∀ q q',q<2*n->q'<2*n->¬ (q<q'/\q'<at' E q/\at' E q<at' E q'))->(∀ q,q<2*n->at' E q<2*n)->cl fu [.tup (L E)]=some (.bl true)) :
  evF cl (gE fu fi fp fc fo) [.tup (L f)]=some (.bl true):=by
 have F:=V.frm
 obtain⟨E,El,Ea,hi⟩:=hi
 have rl:∀ q,q<2*n->rnd n f q<2*n:=fun q hq=>aX (F.lt _ (aX hq))
 have hu:=hu E El (fun q hq=>by
   rw[Ea q hq,Ea _ (rl q hq)]
   unfold rnd
   rw[bO (F.lt _ (aX hq)),F.inv,bO hq]) (fun q hq e=>by
   rw[Ea q hq]at e
   unfold rnd at e
   have:=congrArg (rd n) e
   rw[bO (F.lt _ (aX hq))]at this
   exact F.no _ (aX hq) this) (fun q q' h h'=>by
   rw[Ea q h,Ea q' h']
   exact V.nox q q' h h') (fun q hq=>by rw[Ea q hq];exact rl q hq)
 have e1:aB .mul (.int 2) (.int n)=some (.int (2*n)):=bM (by decide) (by decide)
 have ln:=half (xs:=L f) (n:=n) (by rw[aF,F.len])
 have po:=hpo (L f)
 rw[aF,F.len,show(((2*n:Nat):Int) / 2)=(n:Int) by lia]at po
 have en:=gQ F.len
 have ft:fits ((List.range (2*n)).map (pr f))=some ((List.range (2*n)).map (pr f)):=by
  unfold fits
  rw[if_pos (by simp[most];lia)]
 have mc:=iL (F:=fun σ1=>((ev cl σ1 (.cmp .eq (.var 3) (.var 4))).bind truth).bind fun k=>if k then(ev cl σ1 (.var 3)).map some else some none) (tg:=[3,4]) (σ:=[some (.tup (L f)),some (.int n),none,none,none]) (h:=pr f) (g:=fun p=>.int (p:Nat)) (c:=fun _=>false) (fun _=>rfl) (List.range (2*n)) (by
  intro x hx
  simp at hx
  have c2:((x:Int) == (at' f x:Nat))=false:=beq_eq_false_iff_ne.mpr (by have:=F.no x hx;lia)
  simp[aJ,bA,pr,ev,cA,c2,truth])
 rw[show(List.range (2*n)).filter (fun _=>false)=[]from List.filter_eq_nil_iff.mpr (by simp),List.map_nil]at mc
 have ne0:bh .ne (.int (2*(n:Int))) (.int (2*(n:Int)))=some false:=by
  rw[m9]
  simp
 simp only[evF,gE,af,evS,ev,evs,bb]
 simp[ev,evs,po,aQ,D.imm,ln,e1,ne0,hc,hp,truth,af,evS,bb,dU,en,ft]
 simp[ev]at mc
 rw[mc]
 simp[af,evS,ev,evs,a9,aq,hi,hu,truth,aS,D.imm,aU,avE]
theorem ng{fi:Nat}{x:D}(h:cl fi [x]=some (.bl true)):evF cl (dY fi) [x]=some .non:=by
 simp[evF,dY,af,evS,ev,evs,h,truth,aU]
noncomputable def vg(n:Nat)(f:List Nat):D:=.lst (((List.range (2*n)).filter fun p=>decide (p<at' f p)).map (pr f))
theorem yC{fc:Nat}(hn:n<=10)(F:Frm n f)(hc:cl fc [.tup (L f)]=some .non):evF cl (jX fc) [.tup (L f)]=some (vg n f):=by
 have en:=gQ F.len
 have ft:fits ((List.range (2*n)).map (pr f))=some ((List.range (2*n)).map (pr f)):=by
  unfold fits
  rw[if_pos (by simp[most];lia)]
 have mc:=iL (F:=fun σ1=>((ev cl σ1 (.cmp .lt (.var 1) (.var 2))).bind truth).bind fun k=>if k then(ev cl σ1 (.tup (.cons (.var 1) (.cons (.var 2) .nil)))).map some else some none) (tg:=[1,2]) (σ:=[some (.tup (L f)),none,none]) (h:=pr f) (g:=pr f) (c:=fun p=>decide (p<at' f p)) (fun _=>rfl) (List.range (2*n)) (by
  intro x hx
  by_cases c:x<at' f x
  ·have c2:decide ((x:Int)<(at' f x:Nat))=true:=by simp;lia
   simp[aJ,bA,pr,ev,evs,c6,c2,truth,c]
  ·have c2:decide ((x:Int)<(at' f x:Nat))=false:=by simp;lia
   simp[aJ,bA,pr,ev,evs,c6,c2,truth,c])
 have im:∀ xs:List Nat,aq (xs.map (pr f))=true:=by
  intro xs
  induction xs with
  | nil=>rfl
  | cons x r ih=>simp[aq,ih,pr,D.imm]
 simp only[evF,jX,af,evS,ev,evs,bb]
 simp[ev,evs,hc,af,evS,bb,dU,en,ft]
 simp[ev,evs]at mc
 rw[mc]
 simp[aS,D.imm,a9,im,aU,vg]
noncomputable def thr(n:Nat)(f:List Nat):Nat:=((List.range n).filter fun p=>decide (n<=at' f p)).length
theorem oZ(F:Frm n f):f.take n=(List.range n).map (at' f):=by
 have hl:=F.len
 apply List.ext_getElem?
 intro i
 by_cases hi:i<n
 ·rw[List.getElem?_take_of_lt hi,fI (by lia)]
  simp[hi]
 ·rw[List.getElem?_eq_none (by simp;lia),List.getElem?_eq_none (by simp;lia)]
theorem tm{fo fc:Nat}(h1:1<=n)(hn:n<=10)(F:Frm n f)(hpo:∀ xs:List D,cl fo [.tup xs]=some (.int (xs.length / 2)))(hc:cl fc [.tup (L f)]=some .non):evF cl (iz fo fc) [.tup (L f)]=some (.int (thr n f:Nat)):=by
 have po:=hpo (L f)
 rw[aF,F.len,show(((2*n:Nat):Int) / 2)=(n:Int) by lia]at po
 have ct:cutAt (L f).length (n:Int)=n:=by
  unfold cutAt
  rw[if_pos (by lia),aF,F.len]
  lia
 have sl:kc (.tup (L f)) (.int n)=some (.tup (L ((List.range n).map (at' f)))):=by
  dsimp only[kc]
  rw[ct,if_pos (by rw[aF,F.len];lia),sA,oZ F]
 have ft:=ky (xs:=(List.range n).map (at' f)) (by simp;lia)
 have mc:=sr (F:=fun σ1=>((ev cl σ1 (.cmp .ge (.var 2) (.var 1))).bind truth).bind fun k=>if k then(ev cl σ1 (.var 2)).map some else some none) (tg:=[2]) (σ:=[some (.tup (L f)),some (.int n),none]) (g:=fun p=>.int (p:Nat)) (c:=fun p=>decide (n<=p)) (fun _=>rfl) ((List.range n).map (at' f)) (by
  intro x hx
  by_cases c:n<=x
  ·have c2:decide ((n:Int)<=(x:Nat))=true:=by simp;lia
   simp[aJ,bA,ev,pz,c2,truth,c]
  ·have c2:decide ((n:Int)<=(x:Nat))=false:=by simp;lia
   simp[aJ,bA,ev,pz,c2,truth,c])
 have ll:∀ xs:List D,biV .len (.lst xs)=some (.int xs.length):=fun _=>rfl
 simp only[evF,iz,af,evS,ev,evs,bb]
 simp[ev,evs,hc,af,evS,bb,po,aQ,D.imm,sl,items,ft]
 simp[ev]at mc
 rw[mc]
 simp[ll,aS,D.imm,aU,thr,List.filter_map,Function.comp_def]
end
theorem eR{β:Type}{F:St->Option (Option D)}{tg:List Nat}{σ:St}{h g:β->D}(im:∀ x,(g x).imm=true):∀ xs:List β,(∀ x∈xs,(aJ tg (h x) σ).bind F=some (some (g x)))->bW F tg σ (xs.map h)=some (xs.map g)
 | [],_=>rfl
 | x::r,hh=>by
  have a:=hh x (by simp)
  have b:=eR im r (fun y hy=>hh y (by simp[hy]))
  rw[List.map_cons,bW]
  cases hb:aJ tg (h x) σ with
  | none=>rw[hb]at a;cases a
  |some σ1=>
   rw[hb]at a
   simp only[Option.bind_some]at a ⊢
   rw[a,b]
   simp[ko,im]
theorem qf(x:Bool):bh .ne (.bl x) (.bl x)=some false:=by cases x<;>rfl
theorem Au(x:Bool):bh .eq (.bl x) (.bl x)=some true:=by cases x<;>rfl
section
variable{fs:Nat}{d:D}{kb ki kl kt:Bool}{res:Option (Out × St)}{r:Ss}
theorem oC(hN:(match d with | .non=>some (D.bl (!false)) | .dK _ _=>none | .dT _ _=>none | _=>some (.bl false))=some (D.bl false))(hb:cY .bool d=some kb)(hi:cY .int d=some ki)(hl:cY .list d=some kl)(ht:cY .tuple d=some kt)
 (k:af cl [] r [some d,some d,none,none]=res):af cl [] (.cons (.ife (.isN false (.var 1)) (.cons (.ret (.isN false (.var 0))) .nil) .nil) (.cons (.ife (.or (.cmp .ne (.isi (.var 0) .bool) (.isi (.var 1) .bool)) (.cmp .ne (.isi (.var 0) .int) (.isi (.var 1) .int))) (.cons (.ret (.cst (.bl false))) .nil) .nil) (.cons (.ife (.or (.cmp .ne (.isi (.var 0) .list) (.isi (.var 1) .list)) (.cmp .ne (.isi (.var 0) .tuple) (.isi (.var 1) .tuple))) (.cons (.ret (.cst (.bl false))) .nil) .nil) r))) [some d,some d,none,none]=res :=
 br (aI (Gp hN (aa rfl))) (br (aI (i7 (a8 (cI (aa rfl) hb) (cI (aa rfl) hb) (qf _)) (a8 (cI (aa rfl) hi) (cI (aa rfl) hi) (qf _)))) (br (aI (i7 (a8 (cI (aa rfl) hl) (cI (aa rfl) hl) (qf _)) (a8 (cI (aa rfl) ht) (cI (aa rfl) ht) (qf _)))) k))
theorem kq{ks:Bool}(hN:(match d with | .non=>some (D.bl (!false)) | .dK _ _=>none | .dT _ _=>none | _=>some (.bl false))=some (D.bl false))(hb:cY .bool d=some kb)(hi:cY .int d=some ki)(hl:cY .list d=some false)(ht:cY .tuple d=some false)(hs:cY .str d=some ks)(he:bh .eq d d=some true):evF cl (cX fs) [d,d]=some (.bl true) :=
 aN rfl rfl (oC hN hb hi hl ht (dI (aI (cq (cO (cI (aa rfl) hl)) (cO (cI (aa rfl) ht)))) (aL (cq (a8 (cI (aa rfl) hs) (cI (aa rfl) hs) (Au _)) (a8 (aa rfl) (aa rfl) he)) rfl)))
end
theorem same_int{fs:Nat}(a:Int):evF cl (cX fs) [.int a,.int a]=some (.bl true):=kq rfl rfl rfl rfl rfl rfl (by rw[cA,beq_self_eq_true])
theorem m4:∀ xs:List D,dO xs xs=xs.map fun x=>.tup [x,x]
 | []=>rfl
 | x::r=>by simp[dO,m4 r]
theorem xC{β:Type}:∀ xs:List β,cG (xs.map fun _=>D.bl true)=some (xs.map fun _=>true)
 | []=>rfl
 | x::r=>by simp[cG,xC r]
theorem rL{fs:Nat}{d:D}{xs:List D}(hd:d=.tup xs\/d=.lst xs)(hl:xs.length<=1000)(h:∀ x∈xs,cl fs [x,x]=some (.bl true)):evF cl (cX fs) [d,d]=some (.bl true):=by
 have al:biV .all (.lst (xs.map fun _=>.bl true))=some (.bl true):=by
  simp only[biV,xC]
  simp
 have mc:=eR (F:=fun σ1=>(ev cl σ1 (.call fs (.cons (.var 2) (.cons (.var 3) .nil)))).map some) (tg:=[2,3]) (σ:=[some d,some d,none,none]) (h:=fun x=>.tup [x,x]) (g:=fun _=>.bl true) (fun _=>rfl) xs (by
  intro x hx
  show(ev cl [some d,some d,some x,some x] (.call fs (.cons (.var 2) (.cons (.var 3) .nil)))).map some=_
  rw[c9 (aa rfl) (aa rfl) (h x hx)]
  rfl)
 have it:items d=some xs:=by rcases hd with rfl | rfl<;>rfl
 have ln:biV .len d=some (.int xs.length):=by rcases hd with rfl | rfl<;>rfl
 have lq:bh .eq (.int (xs.length:Int)) (.int (xs.length:Int))=some true:=by simp[cA]
 have lz:(dO xs xs).length<=most:=by rw[m4,List.length_map];unfold most;lia
 rw[<-m4]at mc
 have tl:∀ {res:Option (Out × St)},some (Out.rt (.bl true),[some d,some d,none,none])=res->af cl [] (.cons (.ret (.and (.cmp .eq (.bi .len (.var 0)) (.bi .len (.var 1))) (.bi .all (.compA (.call fs (.cons (.var 2) (.cons (.var 3) .nil))) [2,3] (.zip (.var 0) (.var 1)))))) .nil) [some d,some d,none,none]=res:=fun e=>(aL (cq (a8 (aO (aa rfl) ln) (aO (aa rfl) ln) lq) (aO (cb (AA (aa rfl) (aa rfl) it it rfl) lz mc) al)) rfl).trans e
 rcases hd with rfl | rfl
 ·exact aN rfl rfl (oC rfl rfl rfl rfl rfl (br (aI (cq (cO (k:=false) (cI (aa rfl) rfl)) (cO (k:=true) (cI (aa rfl) rfl)))) (tl rfl)))
 ·exact aN rfl rfl (oC rfl rfl rfl rfl rfl (br (aI (fW (cO (k:=true) (cI (aa rfl) rfl)))) (tl rfl)))
end RM
set_option maxHeartbeats 1000000
namespace RM
open RL RT
theorem wM{β:Type}{f:St->Option (Out × St)}{tg:List Nat}{d:D}{B:Prop}(g:β->D)(im:∀ b,(g b).imm=true)(I:List β->St->Prop):∀ (w done:List β) (σ:St),(∀ u b v σ,done++w=u++b::v->I u σ->(∃ σ2,(aJ tg (g b) σ).bind f=some (.nx,σ2)/\I (u++[b]) σ2)\/(B/\∃ σ2,(aJ tg (g b) σ).bind f=some (.rt d,σ2)))->I done σ->(∃ σ',bg f tg (w.map g) σ=some (.nx,σ')/\I (done++w) σ')\/(B/\∃ σ',bg f tg (w.map g) σ=some (.rt d,σ'))
 | [],done,σ,_,h=>.inl ⟨σ,rfl,by simpa using h⟩
 | b::w,done,σ,hs,h=>by
  rcases hs done b w σ rfl h with⟨σ2,h1,h3⟩ | ⟨hB,σ2,h1⟩
  ·have go:∀ {r:Option (Out × St)},bg f tg (w.map g) σ2=r->bg f tg ((b::w).map g) σ=r:=fun {r} e=>by
    rw[List.map_cons,bg,if_pos (im b)]
    cases hb:aJ tg (g b) σ with
    | none=>rw[hb]at h1;cases h1
    |some σ1=>
     rw[hb]at h1
     simp only[Option.bind_some]at h1 ⊢
     rw[h1]
     exact e
   rcases wM (d:=d) (B:=B) g im I w (done++[b]) σ2 (fun pre e post σ he=>hs pre e post σ (by simpa using he)) h3 with⟨σ',h4,h5⟩ | ⟨hB,σ',h4⟩
   ·exact .inl ⟨σ',go h4,by simpa using h5⟩
   ·exact .inr ⟨hB,σ',go h4⟩
  ·refine .inr ⟨hB,σ2,?_⟩
   rw[List.map_cons,bg,if_pos (im b)]
   cases hb:aJ tg (g b) σ with
   | none=>rw[hb]at h1;cases h1
   |some σ1=>
    rw[hb]at h1
    simp only[Option.bind_some]at h1 ⊢
    rw[h1]
    rfl
theorem vV{cl:Cl}{M:List Nat}{σ:St}{i:Nat}{e:E}{a b r:Ss}{xs:List D}{p q:Int}{res:Option (Out × St)}(hi:(σ[i]?).bind id=some (.lst (xs++[.int p])))(h:ev cl (σ.set i (some (.lst xs))) e=some (.int q))(k:af cl M (.cons (.ife (.cst (.bl (decide (p=q)))) b a) r) (σ.set i (some (.lst xs)))=res):af cl M (.cons (.ifp i e a b) r) σ=res:=by
 have l:evS cl M (.ifp i e a b) σ=if decide (p=q)=true then af cl M b (σ.set i (some (.lst xs)))else af cl M a (σ.set i (some (.lst xs))):=by
  rw[evS,hi,Option.bind_some]
  show((xs++[D.int p])[(xs++[D.int p]).length-1]?).bind _=_
  rw[show(xs++[D.int p])[(xs++[D.int p]).length-1]?=some (.int p) by simp,Option.bind_some,List.dropLast_concat,h]
  rfl
 have r':evS cl M (.ife (.cst (.bl (decide (p=q)))) b a) (σ.set i (some (.lst xs)))=if decide (p=q)=true then af cl M b (σ.set i (some (.lst xs)))else af cl M a (σ.set i (some (.lst xs))):=by
  rw[evS,aj]
  rfl
 rw[af,r',<-l,<-af]at k
 exact k
noncomputable def Nx(r:Nat->Nat)(m:Nat):Prop:=∀ q q',q<q'->q'<r q->r q<m->¬ (r q<r q'\/r q'=q')
structure Oq(r:Nat->Nat)(k:Nat)(W:List Nat):Prop extends Op r k W where
 nx:Nx r k
 al:∀ q q',q<q'->q'<k->k<=r q->r q'≠q'
section
variable{r:Nat->Nat}{m k:Nat}{W:List Nat}
theorem Oq.push(O:Oq r k W)(inv:∀ q,q<m->r (r q)=q)(hk:k<m)(h:k<r k):Oq r (k+1) (W++[k]) where
 toOp:=O.toOp.push inv hk h
 nx:=fun q q' h1 h2 h3=>by
  by_cases c:r q=k
  ·exfalso
   have:=inv q (by lia)
   rw[c]at this
   lia
  ·exact O.nx q q' h1 h2 (by lia)
 al:=fun q q' h1 h2 h3=>by
  by_cases c:q'=k
  ·subst c;lia
  ·exact O.al q q' h1 (by lia) (by lia)
theorem Oq.alone(O:Oq r k [])(inv:∀ q,q<m->r (r q)=q)(hk:k<m)(h:r k=k):Oq r (k+1) []:=by
 have no:∀ q,q<k->k<=r q->False:=fun q h1 h2=>by
  have:=(O.mem q).mpr ⟨h1,h2⟩
  cases this
 refine⟨⟨.nil,fun p=>⟨fun h=>(by cases h),fun⟨a,b⟩=>?_⟩⟩,fun q q' h1 h2 h3=>?_,fun q q' h1 h2 h3=>?_⟩
 ·by_cases c:p=k
  ·subst c;lia
  ·exact(no p (by lia) (by lia)).elim
 ·by_cases c:r q=k
  ·exfalso
   have:=inv q (by lia)
   rw[c,h]at this
   lia
  ·exact O.nx q q' h1 h2 (by lia)
 ·exact(no q (by lia) (by lia)).elim
theorem Oq.pop{W0:List Nat}(O:Oq r k (W0++[r k]))(inv:∀ q,q<m->r (r q)=q)(hk:k<m)(h:r k<k):Oq r (k+1) W0:=by
 have up:=O.up
 rw[List.pairwise_append]at up
 refine⟨⟨up.1,fun p=>?_⟩,fun q q' h1 h2 h3=>?_,fun q q' h1 h2 h3=>?_⟩
 ·constructor
  ·intro hp
   have lt:=up.2.2 p hp (r k) (by simp)
   have:=(O.mem p).mp (by simp[hp])
   refine⟨by lia,?_⟩
   by_cases c:r p=k
   ·have i:=inv p (by lia)
    rw[c]at i
    lia
   ·lia
  ·rintro⟨a,b⟩
   have pk:p≠k:=by rintro rfl;lia
   have:=(O.mem p).mpr ⟨by lia,by lia⟩
   simp at this
   rcases this with h | h
   ·exact h
   ·rw[h,inv k hk]at b
    lia
 ·by_cases c:r q=k
  ·have i:=inv q (by lia)
   rw[c]at i
   subst i
   rintro(z | z)
   ·have mq:=(O.mem q').mpr ⟨by lia,by lia⟩
    simp at mq
    rcases mq with mq | mq
    ·have:=up.2.2 q' mq (r k) (by simp)
     lia
    ·lia
   ·exact O.al (r k) q' h1 (by lia) (by lia) z
  ·exact O.nx q q' h1 h2 (by lia)
 ·by_cases c:q'=k
  ·subst c;lia
  ·exact O.al q q' h1 (by lia) (by lia)
end
theorem uj{cl:Cl}{m:Nat}{E:List Nat}(hm:m<=1000)(El:E.length=m)(inv:∀ q,q<m->at' E (at' E q)=q)(lt:∀ q,q<m->at' E q<m):∃ b:Bool,evF cl dH [.tup (L E)]=some (.bl b)/\(b=true->Nx (at' E) m)/\(Nx (at' E) m->b=true):=by
 have en:=gQ El
 have st:=wM (B:=¬ Nx (at' E) m) (f:=af cl [1] bN) (tg:=[2,3]) (d:=.bl false) (pr E) (fun _=>rfl)
  (fun u σ=>∃ (W:List Nat) (o2 o3:Option D),σ=[some (.tup (L E)),some (.lst (L W)),o2,o3]/\Oq (at' E) u.length W/\W.length<=u.length)
  (List.range m) [] [some (.tup (L E)),some (.lst (L [])),none,none] (by
   rintro u p v σ hu ⟨W,o2,o3,rfl,O,Wl⟩
   obtain⟨hk,hp⟩:=du (g:=id) (by simpa using hu)
   simp only[id]at hp
   subst hp
   have ml:(L W).length<most:=by rw[aF];unfold most;lia
   by_cases c:u.length<at' E u.length
   ·refine .inl ⟨_,show af cl [1] bN [some (.tup (L E)),some (.lst (L W)),some (.int (u.length:Nat)),some (.int (at' E u.length:Nat))]=some (.nx,_)from dQ (aI (a8 (k:=true) (aa rfl) (aa rfl) (by rw[ib,decide_eq_true (by lia)]))) (sE (aa rfl) rfl rfl ml aC) aC,W++[u.length],some (.int (u.length:Nat)),some (.int (at' E u.length:Nat)),?_,?_,?_⟩
    ·rw[cN];rfl
    ·rw[List.length_append];exact O.push inv hk c
    ·simp;lia
   ·have cg:(ev cl [some (.tup (L E)),some (.lst (L W)),some (.int (u.length:Nat)),some (.int (at' E u.length:Nat))] (.cmp .gt (.var 3) (.var 2))).bind truth=some false:=aI (a8 (k:=false) (aa rfl) (aa rfl) (by rw[ib,decide_eq_false (by lia)]))
    by_cases c2:at' E u.length=u.length
    ·have ce:(ev cl [some (.tup (L E)),some (.lst (L W)),some (.int (u.length:Nat)),some (.int (at' E u.length:Nat))] (.cmp .eq (.var 3) (.var 2))).bind truth=some true:=aI (a8 (k:=true) (aa rfl) (aa rfl) (by rw[cA,c2,beq_self_eq_true]))
     cases W with
     |nil=>
      exact .inl ⟨_,show af cl [1] bN [some (.tup (L E)),some (.lst (L [])),some (.int (u.length:Nat)),some (.int (at' E u.length:Nat))]=some (.nx,_)from hZ cg (dQ ce (br (by rw[aa rfl];rfl) aC) aC) aC,[],_,_,rfl,by rw[List.length_append];exact O.alone inv hk c2,by simp⟩
     |cons w W=>
      exact .inr ⟨fun N=>by
       obtain⟨w1,w2⟩:=(O.mem w).mp (List.mem_cons_self ..)
       have wk:at' E w≠u.length:=fun z=>by
        have:=inv w (by lia)
        rw[z,c2]at this
        lia
       exact N w u.length w1 (by lia) (lt w (by lia)) (.inr c2),_,show af cl [1] bN [some (.tup (L E)),some (.lst (L (w::W))),some (.int (u.length:Nat)),some (.int (at' E u.length:Nat))]=some (.rt (.bl false),_)from lu cg (dI ce (dI (by rw[aa rfl];rfl) (aL aj rfl)))⟩
    ·have ce:(ev cl [some (.tup (L E)),some (.lst (L W)),some (.int (u.length:Nat)),some (.int (at' E u.length:Nat))] (.cmp .eq (.var 3) (.var 2))).bind truth=some false:=aI (a8 (k:=false) (aa rfl) (aa rfl) (by rw[cA,beq_eq_false_iff_ne.mpr (by lia)]))
     have m1:at' E u.length∈W:=(O.mem _).mpr ⟨by lia,by rw[inv _ hk];exact Nat.le_refl _⟩
     have ne:W≠[]:=List.ne_nil_of_mem m1
     have dl:=List.dropLast_concat_getLast ne
     generalize W.getLast ne=z at dl
     generalize W.dropLast=W0 at dl
     subst dl
     have hi:(([some (D.tup (L E)),some (.lst (L (W0++[z]))),some (.int (u.length:Nat)),some (.int (at' E u.length:Nat))]:St)[1]?).bind id=some (.lst (L W0++[.int (z:Nat)])):=by rw[cN];rfl
     by_cases c3:z=at' E u.length
     ·refine .inl ⟨_,show af cl [1] bN [some (.tup (L E)),some (.lst (L (W0++[z]))),some (.int (u.length:Nat)),some (.int (at' E u.length:Nat))]=some (.nx,_)from hZ cg (hZ ce (vV hi (aa rfl) (dQ (by rw[aj,decide_eq_true (by lia)];rfl) aC aC)) aC) aC,W0,_,_,rfl,?_,?_⟩
      ·rw[List.length_append]
       subst c3
       exact O.pop inv hk (by lia)
      ·simp at Wl ⊢;lia
     ·exact .inr ⟨fun N=>by
       have up:=O.up
       rw[List.pairwise_append]at up
       have m0:at' E u.length∈W0:=by
        rcases List.mem_append.mp m1 with h | h
        ·exact h
        ·exact absurd (List.mem_singleton.mp h).symm c3
       have lz:=up.2.2 _ m0 z (by simp)
       have zz:=(O.mem z).mp (by simp)
       have zk:at' E z≠u.length:=fun q=>by
        have:=inv z (by lia)
        rw[q]at this
        exact c3 this.symm
       have i:=inv u.length hk
       exact N (at' E u.length) z lz (by rw[i];exact zz.1) (by rw[i];exact hk) (.inl (by rw[i];lia)),_,show af cl [1] bN [some (.tup (L E)),some (.lst (L (W0++[z]))),some (.int (u.length:Nat)),some (.int (at' E u.length:Nat))]=some (.rt (.bl false),_)from lu cg (lu ce (vV hi (aa rfl) (lu (by rw[aj,decide_eq_false (by lia)];rfl) (aL aj rfl))))⟩)
  ⟨[],none,none,rfl,⟨⟨by simp,by simp⟩,fun q q' _ _ h=>absurd h (Nat.not_lt_zero _),fun q q' _ h=>absurd h (Nat.not_lt_zero _)⟩,by simp⟩
 rw[<-en]at st
 rcases st with⟨σ',e,W,o2,o3,rfl,O,_⟩ | ⟨nN,σ',e⟩
 ·refine⟨true,aN rfl rfl (eQ (dZ bu) rfl (cm (jg (aa rfl) rfl) e (aL aj rfl))),fun _=>?_,fun _=>rfl⟩
  have:=O.nx
  rw[List.nil_append,List.length_range]at this
  exact this
 ·exact⟨false,aN rfl rfl (eQ (dZ bu) rfl (AZ (jg (aa rfl) rfl) e)),(fun h=>by cases h),fun N=>absurd N nN⟩
end RM
set_option maxHeartbeats 1000000
namespace RM
open RL RT
noncomputable def xi(xs:List Int)(p:Nat):Int:=(xs[p]?).getD 0
noncomputable def nb(xs:List Int)(p:Nat):Bool:=decide (0<=xi xs p/\xi xs p<xs.length)&&decide (xi xs (xi xs p).toNat=p)
theorem A4{xs:List Int}{p:Nat}(h:p<xs.length):ixV (.tup (LI xs)) (.int (p:Nat))=some (.int (xi xs p)):=by
 show cB _ _=_
 rw[fJ]
 simp[LI,xi,h]
theorem sG(xs:List Int):biV .len (.tup (LI xs))=some (.int (xs.length:Nat)):=congrArg (fun n:Nat=>some (D.int n)) (xO xs)
theorem bls{β:Type}(g:β->Bool):∀ xs:List β,cG (xs.map fun x=>D.bl (g x))=some (xs.map g)
 | []=>rfl
 | x::r=>by rw[List.map_cons,cG,bls g r];rfl
theorem Bk{β:Type}(g:β->Bool)(xs:List β):biV .all (.lst (xs.map fun x=>D.bl (g x)))=some (.bl (xs.all g)):=by
 show(cG (xs.map fun x=>D.bl (g x))).map _=_
 rw[bls,Option.map_some,List.all_map]
 rfl
section
variable{cl:Cl}{xs:List Int}
theorem xq{fn:Nat}(hnum:∀ i:Int,cl fn [.int i]=some (.bl true)){p:Nat}(hp:p<xs.length):evF cl (fh fn) [.tup (LI xs),.int (p:Nat)]=some (.bl (nb xs p)):=by
 unfold nb
 have a1:ev cl [some (.tup (LI xs)),some (.int (p:Nat)),some (.int (xi xs p))] (.call fn (.cons (.var 2) .nil))=some (.bl true):=b8 (aa rfl) (hnum _)
 have as:∀ {res:Option (Out × St)} {r:Ss},af cl [] r [some (.tup (LI xs)),some (.int (p:Nat)),some (.int (xi xs p))]=res->af cl [] (.cons (.asg 2 (.ix (.var 0) (.var 1))) r) [some (.tup (LI xs)),some (.int (p:Nat)),none]=res:=fun h=>a7 (b9 (aa rfl) (aa rfl) (A4 hp)) rfl h
 by_cases c:0<=xi xs p/\xi xs p<xs.length
 ·rw[decide_eq_true c,Bool.true_and]
  obtain⟨j,hj⟩:=Int.eq_ofNat_of_zero_le c.1
  rw[hj]at c as a1 ⊢
  have i2:=A4 (xs:=xs) (p:=j) (by lia)
  exact aN rfl rfl (as (aL (cq a1 (cq (oq (k:=true) aj (aa rfl) (aO (aa rfl) (sG xs)) (by rw[uI,decide_eq_true c.1]) (by rw[c6,decide_eq_true c.2])) (a8 (b9 (aa rfl) (aa rfl) i2) (aa rfl) (by
   rw[cA,Int.toNat_natCast]
   congr 1)))) rfl))
 ·rw[decide_eq_false c,Bool.false_and]
  by_cases c1:0<=xi xs p
  ·exact aN rfl rfl (as (aL (cq a1 (fW (oq (k:=false) aj (aa rfl) (aO (aa rfl) (sG xs)) (by rw[uI,decide_eq_true c1]) (by rw[c6,decide_eq_false (fun z=>c ⟨c1,z⟩)])))) rfl))
  ·exact aN rfl rfl (as (aL (cq a1 (fW (zA aj (aa rfl) (by rw[uI,decide_eq_false c1])))) rfl))
theorem lO{fb:Nat}(hm:xs.length<=1000)(hb:∀ p:Nat,p<xs.length->cl fb [.tup (LI xs),.int (p:Nat)]=some (.bl (nb xs p))):evF cl (eY fb) [.tup (LI xs)]=some (.bl ((List.range xs.length).all (nb xs))):=by
 have mc:=eR (F:=fun σ1=>(ev cl σ1 (.call fb (.cons (.var 0) (.cons (.var 1) .nil)))).map some) (tg:=[1]) (σ:=[some (.tup (LI xs)),none]) (h:=fun p=>.int (p:Nat)) (g:=fun p=>.bl (nb xs p)) (fun _=>rfl) (List.range xs.length) (by
  intro p hp
  show(ev cl [some (.tup (LI xs)),some (.int (p:Nat))] (.call fb (.cons (.var 0) (.cons (.var 1) .nil)))).map some=_
  rw[c9 (aa rfl) (aa rfl) (hb p (List.mem_range.mp hp))]
  rfl)
 exact aN rfl rfl (aL (cq (cI (aa rfl) rfl) (aO (cb (iM (aO (aa rfl) (sG xs)) (cj hm)) (by rw[aF,List.length_range];unfold most;lia) mc) (Bk _ _))) rfl)
theorem D5(f:List Nat):L f=LI (f.map Int.ofNat):=by unfold L LI;rw[List.map_map];rfl
theorem mV{m:Nat}{h:List Nat}(len:h.length=m)(lt:∀ q,q<m->at' h q<m)(inv:∀ q,q<m->at' h (at' h q)=q):(List.range (h.map Int.ofNat).length).all (nb (h.map Int.ofNat))=true:=by
 have x1:∀ q,q<m->xi (h.map Int.ofNat) q=(at' h q:Nat):=fun q hq=>by simp[xi,at',show q<h.length by lia]
 rw[List.all_eq_true,List.length_map,len]
 intro q hq
 have hq:=List.mem_range.mp hq
 have l:=lt q hq
 unfold nb
 rw[x1 q hq,Int.toNat_natCast,x1 _ l,inv q hq,List.length_map,len]
 rw[decide_eq_true ⟨by lia,by lia⟩]
 simp
end
structure Dg(T:List Fn)(mx rw dg:Nat):Prop where
 HW:T[mx]?=some jT
 Hh:T[rw]?=some (jS mx)
 GZ:T[dg]?=some (eU rw)
theorem Dg.digits{T:List Fn}(h:Dg T mx rw dg){ns:List Int}(hl:ns.length<=63)(n:Nat){k:Nat}{sizes:List Nat}(hk:k<=1000)(hp:∀ s∈sizes,0<s/\s<2 ^ 200)(hz:sizes.length<=1000) :
  ∃ ds:List Nat,kG ds sizes/\au T (n+3) dg [.lst (LI ns),.int k,.lst (L sizes)]=some (.lst (L ds)):=by
 obtain⟨r,hr⟩:=BA (cl:=au T (n+1)) (f:=mx) (fun s=>by
  obtain⟨m,hm⟩:=BD (cl:=au T n) s
  exact⟨m,(ao h.HW).trans hm⟩) hl hk
 obtain⟨ds,h1,h2⟩:=vb (cl:=au T (n+2)) (f:=rw) ((ao h.Hh).trans hr) hp hz
 exact⟨ds,h1,(ao h.GZ).trans h2⟩
structure Dr(T:List Fn)(mx rw dg pl hk ci ft tx rg hu ov fr:Nat):Prop extends Dg T mx rw dg where
 Hz:T[pl]?=some dR
 GQ:T[hk]?=some (gC pl)
 GS:T[ci]?=some eN
 HX:T[ft]?=some (fk ci)
 Hn:T[tx]?=some js
 zW:T[rg]?=some fG
 zK:T[hu]?=some (gy rg)
 HL:T[ov]?=some gq
 HU:T[fr]?=some (i4 hu ov ft tx hk pl dg)
section
variable{T:List Fn}{mx rw dg pl hk ci ft tx rg hu ov fr:Nat}
theorem Dr.plain(h:Dr T mx rw dg pl hk ci ft tx rg hu ov fr)(n:Nat){k:Nat}(hk:k<=10):au T (n+1) pl [.int k]=some (.tup (L (aT k))):=(ao h.Hz).trans (pV hk)
theorem Dr.hook(h:Dr T mx rw dg pl hk ci ft tx rg hu ov fr)(n:Nat){k i:Nat}(hk':k<=10)(hi:i+1<k):au T (n+2) hk [.int k,.int i]=some (.tup (L (fL k i))):=(ao h.GQ).trans (sN hk' hi (h.plain n hk'))
theorem Dr.x3(h:Dr T mx rw dg pl hk ci ft tx rg hu ov fr)(n:Nat){k:Nat}(h1:1<=k)(hk':k<=10):au T (n+1) ci [.int k]=some (.lst (L (bL k))):=(ao h.GS).trans (vD h1 hk')
theorem Dr.over(h:Dr T mx rw dg pl hk ci ft tx rg hu ov fr)(n:Nat){k:Nat}{f:List Nat}(h1:1<=k)(hk':k<=10)(hf:f.length=2*k):au T (n+1) ov [.tup (L f)]=some (.tup (L (bp k f))):=(ao h.HL).trans (sL h1 hk' hf)
theorem Dr.DL(h:Dr T mx rw dg pl hk ci ft tx rg hu ov fr){ns:List Int}(hl:ns.length<=63)(n:Nat){k m:Nat}(hk':k<=1000)(h1:1<=m)(hm:m<=10)
 (hh:∀ f:List Nat,Val m f->∃ (g:List Nat) (r:Int),Val m g/\au T (n+3) hu [.tup (L f),.tup (L (bp m f))]=some (.tup [.tup (L g),.int r])):∃ f:List Nat,Val m f/\au T (n+4) fr [.lst (LI ns),.int k,.int m]=some (.tup (L f)):=by
 obtain⟨f,V,e⟩:=vJ (cl:=au T (n+3)) (fhu:=hu) (fov:=ov) (ffr:=ft) (ftx:=tx) (fho:=hk) (fpl:=pl) (fdi:=dg) (scr:=.lst (LI ns)) (k:=k) h1 hm
  (h.digits hl n hk' (by
   intro s hs
   simp only[List.mem_cons,List.not_mem_nil,or_false]at hs
   rcases hs with rfl | rfl | rfl
   ·decide
   ·decide
   ·exact⟨by omega,Nat.lt_of_le_of_lt (show max 1 (m-1)<=10 by lia) (by decide)⟩) (by simp))
  (h.plain (n+2) hm) (fun i hi=>h.hook (n+1) hm hi)
  (fun r=>by
   obtain⟨w,h1,h2,h3⟩:=zX (cl:=au T (n+2)) (r:=r) hm
   exact⟨w,h1,h2,(ao h.Hn).trans h3⟩)
  (fun w a b=>by
   obtain⟨f,V,e⟩:=pW (cl:=au T (n+2)) (fc:=ci) h1 hm (h.x3 (n+1) h1 hm) a b
   exact⟨f,V,(ao h.HX).trans e⟩)
  (fun f hf=>h.over (n+2) h1 hm hf) hh
 exact⟨f,V,(ao h.HU).trans e⟩
end
structure Ck(T:List Fn)(nu pc pa nb un if' cf po rp ir mv:Nat):Prop where
 GW:T[nu]?=some i8
 GV:T[pc]?=some (dM nu)
 GN:T[pa]?=some (eY nb)
 Ho:T[nb]?=some (fh nu)
 GY:T[un]?=some dH
 G8:T[if']?=some (gE un ir pa pc po)
 HG:T[cf]?=some (dY if')
 GL:T[po]?=some jU
 GR:T[rp]?=some dh
 HR:T[ir]?=some (gu mv rp po)
 HC:T[mv]?=some kU
section
variable{T:List Fn}{nu pc pa nb un if' cf po rp ir mv:Nat}
theorem Ck.num(h:Ck T nu pc pa nb un if' cf po rp ir mv)(n:Nat)(i:Int):au T (n+1) nu [.int i]=some (.bl true):=(ao h.GW).trans (pX i)
theorem Ck.zO(h:Ck T nu pc pa nb un if' cf po rp ir mv)(n:Nat)(i:Int):au T (n+2) pc [.int i]=some (.bl (decide (1<=i/\i<=10))):=(ao h.GV).trans (m8 (h.num n) i)
theorem Ck.of(h:Ck T nu pc pa nb un if' cf po rp ir mv)(n:Nat)(xs:List D):au T (n+1) po [.tup xs]=some (.int (xs.length / 2)):=(ao h.GL).trans (qz xs)
theorem Ck.half(h:Ck T nu pc pa nb un if' cf po rp ir mv)(n:Nat){k:Nat}{f:List Nat}(hf:f.length=2*k):au T (n+1) po [.tup (L f)]=some (.int k):=by
 rw[h.of,aF,hf]
 congr 2
 lia
theorem Ck.place(h:Ck T nu pc pa nb un if' cf po rp ir mv)(n:Nat){k p:Nat}(hp:p<2*k):au T (n+1) rp [.int k,.int (p:Nat)]=some (.int (rd k p:Nat)):=(ao h.GR).trans (nB hp)
theorem Ck.move(h:Ck T nu pc pa nb un if' cf po rp ir mv)(n:Nat){k:Nat}{U:D}{to:Nat->Nat}(hk:k<=10)(F:Frm k f)(hT:∀ p:Nat,p<2*k->ixV U (.int (p:Nat))=some (.int (to p:Nat)))(hlt:∀ p,p<2*k->to p<2*k)(inj:∀ p q,p<2*k->q<2*k->to p=to q->p=q) :
  ∃ E:List Nat,E.length=2*k/\(∀ p,p<2*k->at' E (to p)=to (at' f p))/\au T (n+1) mv [.tup (L f),U]=some (.tup (L E)):=by
 obtain⟨E,h1,h2,h3⟩:=yb (cl:=au T n) (T:=U) (to:=to) hk F hT hlt inj
 exact⟨E,h1,h2,(ao h.HC).trans h3⟩
theorem Ck.round(h:Ck T nu pc pa nb un if' cf po rp ir mv)(n:Nat){k:Nat}(hk:k<=10)(F:Frm k f):∃ E:List Nat,E.length=2*k/\(∀ q,q<2*k->at' E q=rnd k f q)/\au T (n+2) ir [.tup (L f)]=some (.tup (L E)):=by
 obtain⟨E,h1,h2,h3⟩:=se (cl:=au T (n+1)) (fm:=mv) (frp:=rp) (fpo:=po) hk F (h.of n) (fun p hp=>h.place n hp) (h.move n (U:=.lst (L (bL k))) (to:=rd k) hk F (fun p hp=>oY hp) (fun p hp=>aX hp) (fun p q hp hq h=>iT hp hq h))
 exact⟨E,h1,h2,(ao h.HR).trans h3⟩
theorem Ck.frame(h:Ck T nu pc pa nb un if' cf po rp ir mv)(n:Nat){k:Nat}(h1:1<=k)(hk:k<=10)(V:Val k f):au T (n+4) if' [.tup (L f)]=some (.bl true) :=
 (ao h.G8).trans (rK h1 hk V (h.of (n+2)) (by rw[h.zO (n+1),decide_eq_true (by lia)])
  (by
   have F:=V.frm
   have p:=(ao (n:=n+2) h.GN).trans (lO (xs:=f.map Int.ofNat) (by rw[List.length_map,F.len];lia) fun q hq=>(ao h.Ho).trans (xq (h.num n) hq))
   rw[mV F.len F.lt (fun q _=>F.inv q),<-D5]at p
   exact p)
  (h.round (n+1) hk V.frm) (fun E a b c d l=>(ao h.GY).trans (by
   obtain⟨w,e,_,hb⟩:=uj (cl:=au T (n+2)) (m:=2*k) (by lia) a b l
   rw[hb fun q q' x y z w=>by
    have:=d q q' (by lia) (by lia)
    have:=c q' (by lia)
    lia]at e
   exact e)))
theorem Ck.check(h:Ck T nu pc pa nb un if' cf po rp ir mv)(n:Nat){k:Nat}(h1:1<=k)(hk:k<=10)(V:Val k f):au T (n+5) cf [.tup (L f)]=some .non:=(ao h.HG).trans (ng (h.frame n h1 hk V))
theorem Ck.Gd(h:Ck T nu pc pa nb un if' cf po rp ir mv){cp:Nat}(hcp:T[cp]?=some (bV pc))(n:Nat){k:Nat}(h1:1<=k)(hk:k<=10):au T (n+3) cp [.int k]=some .non:=(ao hcp).trans (oU (by rw[h.zO,decide_eq_true (by lia)]))
theorem Ck.plain(h:Ck T nu pc pa nb un if' cf po rp ir mv){cp pl:Nat}(hcp:T[cp]?=some (bV pc))(hpl:T[pl]?=some (fD cp))(n:Nat){k:Nat}(h1:1<=k)(hk:k<=10):au T (n+4) pl [.int k]=some (.tup (L (aT k))):=(ao hpl).trans (run_plain hk (h.Gd hcp n h1 hk))
theorem Ck.through(h:Ck T nu pc pa nb un if' cf po rp ir mv){th:Nat}(hth:T[th]?=some (iz po cf))(n:Nat){k:Nat}(h1:1<=k)(hk:k<=10)(V:Val k f):au T (n+6) th [.tup (L f)]=some (.int (thr k f:Nat)):=(ao hth).trans (tm h1 hk V.frm (h.of (n+4)) (h.check n h1 hk V))
theorem Ck.Hc(h:Ck T nu pc pa nb un if' cf po rp ir mv){ti:Nat}(hti:T[ti]?=some (jX cf))(n:Nat){k:Nat}(h1:1<=k)(hk:k<=10)(V:Val k f):au T (n+6) ti [.tup (L f)]=some (vg k f):=(ao hti).trans (yC hk V.frm (h.check n h1 hk V))
end
inductive Pl:Nat->D->Prop
 | int (n:Nat) (i:Int):Pl n (.int i)
 | bl (n:Nat) (b:Bool):Pl n (.bl b)
 | str (n:Nat) (x:PySem.Str):Pl n (.str x)
 | tup (n:Nat) (xs:List D) (hl:xs.length<=1000) (h:∀ x∈xs,Pl n x):Pl (n+1) (.tup xs)
 | lst (n:Nat) (xs:List D) (hl:xs.length<=1000) (h:∀ x∈xs,Pl n x):Pl (n+1) (.lst xs)
theorem tY{cl:Cl}{fs:Nat}(a:Bool):evF cl (cX fs) [.bl a,.bl a]=some (.bl true):=kq rfl rfl rfl rfl rfl rfl (Au a)
theorem same_str{cl:Cl}{fs:Nat}(x:PySem.Str):evF cl (cX fs) [.str x,.str x]=some (.bl true):=kq rfl rfl rfl rfl rfl rfl (show some (x == x)=some true by rw[beq_self_eq_true])
theorem sameAll{T:List Fn}{sm:Nat}(h:T[sm]?=some (cX sm)):∀ (k n:Nat) (d:D),Pl k d->k<=n->au T (n+1) sm [d,d]=some (.bl true):=by
 intro k
 induction k with
 |zero=>
  intro n d p _
  cases p with
  | int=>exact(ao h).trans (same_int _)
  | bl=>exact(ao h).trans (tY _)
  | str=>exact(ao h).trans (same_str _)
 |succ k ih=>
  intro n d p hn
  cases p with
  | int=>exact(ao h).trans (same_int _)
  | bl=>exact(ao h).trans (tY _)
  | str=>exact(ao h).trans (same_str _)
  |tup _ xs hl hx=>
   obtain⟨m,rfl⟩:∃ m,n=m+1:=⟨n-1,by lia⟩
   exact(ao h).trans (rL (.inl rfl) hl fun x hd=>ih m x (hx x hd) (by lia))
  |lst _ xs hl hx=>
   obtain⟨m,rfl⟩:∃ m,n=m+1:=⟨n-1,by lia⟩
   exact(ao h).trans (rL (.inr rfl) hl fun x hd=>ih m x (hx x hd) (by lia))
theorem Pl.L{n:Nat}{xs:List Nat}(h:xs.length<=1000):Pl (n+1) (.tup (L xs)):=.tup _ _ (by rw[aF];exact h) fun x hx=>by
 obtain⟨a,_,rfl⟩:=List.mem_map.mp hx
 exact .int _ _
noncomputable def Cyc(a b c d:Nat):Prop:=(a<b/\b<c/\c<d)\/(b<c/\c<d/\d<a)\/(c<d/\d<a/\a<b)\/(d<a/\a<b/\b<c)
theorem ug{m:Nat}{r:Nat->Nat}(inv:∀ q,q<m->r (r q)=q)(nox:∀ q q',q<m->q'<m->¬ (q<q'/\q'<r q/\r q<r q')){a b c d:Nat}(ha:a<m)(hb:b<m)(hc:c<m)(hd:d<m)(e1:r a=c)(e2:r b=d):¬ Cyc a b c d:=by
 have e3:r c=a:=by rw[<-e1];exact inv a ha
 have e4:r d=b:=by rw[<-e2];exact inv b hb
 rintro(h | h | h | h)
 ·exact nox a b ha hb ⟨h.1,by lia,by lia⟩
 ·exact nox b c hb hc ⟨h.1,by lia,by lia⟩
 ·exact nox c d hc hd ⟨h.1,by lia,by lia⟩
 ·exact nox d a hd ha ⟨h.1,by lia,by lia⟩
theorem eZ{n:Nat}{f g:List Nat}(hf:f.length=n)(hg:g.length=n)(h:∀ x,x<n->at' f x=at' g x):f=g:=by
 refine List.ext_getElem? fun x=>?_
 by_cases hx:x<n
 ·rw[fI (by lia),fI (by lia),h x hx]
 ·rw[List.getElem?_eq_none (by lia),List.getElem?_eq_none (by lia)]
structure Way(n:Nat)(to ba:Nat->Nat):Prop where
 lt:∀ p,p<2*n->to p<2*n
 blt:∀ p,p<2*n->ba p<2*n
 tb:∀ p,p<2*n->to (ba p)=p
 bt:∀ p,p<2*n->ba (to p)=p
 cyc:∀ a b c d,a<2*n->b<2*n->c<2*n->d<2*n->a<b->b<c->c<d->Cyc (rd n (ba (rd n a))) (rd n (ba (rd n b))) (rd n (ba (rd n c))) (rd n (ba (rd n d)))\/Cyc (rd n (ba (rd n d))) (rd n (ba (rd n c))) (rd n (ba (rd n b))) (rd n (ba (rd n a)))
noncomputable def bc(n:Nat)(to ba:Nat->Nat)(f:List Nat):List Nat:=(List.range (2*n)).map fun p=>to (at' f (ba p))
theorem f9(n:Nat)(to ba:Nat->Nat)(f:List Nat):(bc n to ba f).length=2*n:=by simp[bc]
theorem bP{n:Nat}{to ba:Nat->Nat}{f:List Nat}{p:Nat}(h:p<2*n):at' (bc n to ba f) p=to (at' f (ba p)):=by
 simp[bc,at',h]
theorem Way.inj{to ba:Nat->Nat}(W:Way n to ba){p q:Nat}(hp:p<2*n)(hq:q<2*n)(h:to p=to q):p=q:=by rw[<-W.bt p hp,h,W.bt q hq]
theorem Way.val{to ba:Nat->Nat}(W:Way n to ba)(V:Val n f):Val n (bc n to ba f):=by
 have F:=V.frm
 have hl:=f9 n to ba f
 refine⟨⟨hl,fun x hx=>?_,fun x=>?_,fun x hx e=>?_⟩,fun q q' hq hq' h=>?_⟩
 ·rw[bP hx]
  exact W.lt _ (F.lt _ (W.blt _ hx))
 ·by_cases hx:x<2*n
  ·have h1:=F.lt _ (W.blt _ hx)
   rw[bP hx,bP (W.lt _ h1),W.bt _ h1,F.inv,W.tb _ hx]
  ·rw[di (f:=bc n to ba f) (x:=x) (by lia),di (by lia)]
 ·rw[bP hx]at e
  have h1:=F.lt _ (W.blt _ hx)
  have:at' f (ba x)=ba x:=by rw[<-W.bt _ h1,e]
  exact F.no _ (W.blt _ hx) this
 ·obtain⟨h1,h2,h3⟩:=h
  have rl:∀ q,q<2*n->rnd n f q<2*n:=fun q hq=>aX (F.lt _ (aX hq))
  have rr:∀ q,q<2*n->rnd n f (rnd n f q)=q:=fun q hq=>by
   unfold rnd
   rw[bO (F.lt _ (aX hq)),F.inv,bO hq]
  have key:∀ q,q<2*n->rnd n (bc n to ba f) q<2*n/\rnd n f (rd n (ba (rd n q)))=rd n (ba (rd n (rnd n (bc n to ba f) q))):=fun q hq=>by
   have a1:=aX hq
   have a2:=W.blt _ a1
   have a3:=F.lt _ a2
   unfold rnd
   rw[bP a1]
   refine⟨aX (W.lt _ a3),?_⟩
   rw[bO a2,bO (W.lt _ a3),W.bt _ a3]
  obtain⟨k1,k2⟩:=key q hq
  obtain⟨k3,k4⟩:=key q' hq'
  have bl:∀ q,q<2*n->rd n (ba (rd n q))<2*n:=fun q hq=>aX (W.blt _ (aX hq))
  rcases W.cyc q q' _ _ hq hq' k1 k3 h1 h2 h3 with c | c
  ·exact ug rr V.nox (bl _ hq) (bl _ hq') (bl _ k1) (bl _ k3) k2 k4 c
  ·refine ug rr V.nox (bl _ k3) (bl _ k1) (bl _ hq') (bl _ hq) ?_ ?_ c
   ·rw[<-k4,rr _ (bl _ hq')]
   ·rw[<-k2,rr _ (bl _ hq)]
noncomputable def ovr(n p:Nat):Nat:=if p<n then p+n else p-n
noncomputable def mir(n p:Nat):Nat:=if p<n then n-1-p else 3*n-1-p
theorem lF{n q:Nat}(c:q<n):rd n q=q:=by unfold rd;rw[if_pos c]
theorem Aw{n q:Nat}(c:¬ q<n):rd n q=3*n-1-q:=by unfold rd;rw[if_neg c]
theorem mP{n q:Nat}(c:q<n):ovr n q=q+n:=by unfold ovr;rw[if_pos c]
theorem qL{n q:Nat}(c:¬ q<n):ovr n q=q-n:=by unfold ovr;rw[if_neg c]
theorem nv{n p:Nat}(hp:p<2*n):ovr n p<2*n/\ovr n (ovr n p)=p:=by
 by_cases c:p<n
 ·rw[mP c,qL (by lia)];exact⟨by lia,by lia⟩
 ·rw[qL c,mP (by omega)];exact⟨by lia,by lia⟩
theorem nc{n q:Nat}(hq:q<2*n):rd n (ovr n (rd n q))=2*n-1-q:=by
 by_cases c:q<n
 ·rw[lF c,mP c,Aw (by lia)];lia
 ·rw[Aw c,qL (by omega),lF (by omega)];lia
theorem bG(n:Nat):Way n (ovr n) (ovr n) :=
 ⟨fun p hp=>(nv hp).1,fun p hp=>(nv hp).1,fun p hp=>(nv hp).2,fun p hp=>(nv hp).2,fun a b c d ha hb hc hd h1 h2 h3=>.inr (.inl (by
  rw[nc ha,nc hb,nc hc,nc hd]
  exact⟨by lia,by lia,by omega⟩))⟩
theorem mE(F:Frm n f):bp n f=bc n (ovr n) (ovr n) f:=by
 refine eZ (n:=2*n) (by simp[bp]) (f9 ..) fun p hp=>?_
 rw[oJ hp,bP hp]
 have e:∀ p,p<2*n->(p+n)%(2*n)=ovr n p:=fun p hp=>by
  unfold ovr
  split
  ·rw[Nat.mod_eq_of_lt (by lia)]
  ·rw[Nat.mod_eq_sub_mod (by lia),Nat.mod_eq_of_lt (by lia)];lia
 rw[e p hp,e _ (F.lt _ ((bG n).lt p hp))]
theorem BK{to ba to' ba':Nat->Nat}{f:List Nat}(W:Way n to ba)(W':Way n to' ba'):bc n to' ba' (bc n to ba f)=bc n (fun p=>to' (to p)) (fun p=>ba (ba' p)) f:=by
 refine eZ (n:=2*n) (f9 ..) (f9 ..) fun p hp=>?_
 rw[bP hp,bP (W'.blt _ hp),bP hp]
theorem Cy{to ba:Nat->Nat}(F:Frm n f)(h1:∀ p,p<2*n->to p=p)(h2:∀ p,p<2*n->ba p=p):bc n to ba f=f:=by
 refine eZ (n:=2*n) (f9 ..) F.len fun p hp=>?_
 rw[bP hp,h2 p hp,h1 _ (F.lt _ hp)]
theorem cL:∀ {a b:List Nat},a.Nodup->(∀ x∈a,x∈b)->a.length<=b.length
 | [],_,_,_=>Nat.zero_le _
 | x::r,b,hn,h=>by
  rw[List.nodup_cons]at hn
  have hx:=h x List.mem_cons_self
  have:=cL (a:=r) (b:=b.erase x) hn.2 fun y hy=>(List.mem_erase_of_ne (fun e=>hn.1 (by rw[<-e];exact hy))).mpr (h y (List.mem_cons_of_mem _ hy))
  rw[List.length_erase_of_mem hx]at this
  have:0<b.length:=List.length_pos_of_mem hx
  simp only[List.length_cons]
  lia
noncomputable def cnt(n:Nat)(P:Nat->Bool):Nat:=((List.range n).filter P).length
theorem wC{n m:Nat}{P Q:Nat->Bool}(g:Nat->Nat)(h:∀ p,p<n->P p=true->g p<m/\Q (g p)=true)(inj:∀ p q,p<n->q<n->P p=true->P q=true->g p=g q->p=q):cnt n P<=cnt m Q:=by
 unfold cnt
 have:((List.range n).filter P).length=(((List.range n).filter P).map g).length:=by simp
 rw[this]
 refine cL ?_ ?_
 ·rw[List.nodup_iff_pairwise_ne,List.pairwise_map]
  refine List.Pairwise.imp_of_mem ?_ ((List.nodup_iff_pairwise_ne.mp (List.nodup_range (n:=n))).filter P)
  intro a b ha hb hne e
  simp only[List.mem_filter,List.mem_range]at ha hb
  exact hne (inj a b ha.1 hb.1 ha.2 hb.2 e)
 ·intro x hx
  obtain⟨p,hp,rfl⟩:=List.mem_map.mp hx
  simp only[List.mem_filter,List.mem_range]at hp ⊢
  exact h p hp.1 hp.2
theorem yG(F:Frm n f):thr n (bc n (ovr n) (ovr n) f)=thr n f:=by
 have W:=bG n
 refine Nat.le_antisymm (wC (fun p=>at' f (p+n)) (fun p hp h=>?_) fun p q hp hq _ _ e=>?_) (wC (fun p=>at' f p-n) (fun p hp h=>?_) fun p q hp hq h1 h2 e=>?_)
 ·rw[decide_eq_true_eq,bP (by lia)]at h
  have e:ovr n p=p+n:=by unfold ovr;rw[if_pos hp]
  rw[e]at h
  have l:=F.lt (p+n) (by lia)
  have:at' f (p+n)<n:=by
   unfold ovr at h
   split at h<;>lia
  refine⟨this,?_⟩
  rw[decide_eq_true_eq,F.inv]
  lia
 ·have:=congrArg (at' f) e
  rw[F.inv,F.inv]at this
  lia
 ·rw[decide_eq_true_eq]at h
  have l:=F.lt p (by lia)
  have e:ovr n (at' f p-n)=at' f p:=by unfold ovr;rw[if_pos (by lia)];lia
  refine⟨by lia,?_⟩
  rw[decide_eq_true_eq,bP (by lia),e,F.inv]
  unfold ovr
  rw[if_pos hp]
  lia
 ·rw[decide_eq_true_eq]at h1 h2
  have:at' f p=at' f q:=by lia
  have:=congrArg (at' f) this
  rw[F.inv,F.inv]at this
  exact this
theorem mJ{f:D->D->Option Bool}:∀ xs:List D,(∀ x∈xs,f x x=some true)->eqs f xs xs=some true
 | [],_=>rfl
 | x::r,h=>by
  rw[eqs,h x List.mem_cons_self,Option.bind_some,mJ r fun y hy=>h y (List.mem_cons_of_mem _ hy)]
  rfl
theorem Gg:∀ (k n:Nat) (d:D),Pl k d->k<=n->eqD n d d=some true:=by
 intro k
 induction k with
 |zero=>
  intro n d p _
  cases p with
  | int i=>cases n<;>simp[eqD]
  | bl i=>cases n<;>simp[eqD]
  | str i=>cases n<;>simp[eqD]
 |succ k ih=>
  intro n d p hn
  obtain⟨m,rfl⟩:∃ m,n=m+1:=⟨n-1,by lia⟩
  cases p with
  | int i=>simp[eqD]
  | bl i=>simp[eqD]
  | str i=>simp[eqD]
  | tup _ xs hl h=>rw[eqD,mJ xs fun x hx=>ih m x (h x hx) (by lia)];simp
  | lst _ xs hl h=>rw[eqD,mJ xs fun x hx=>ih m x (h x hx) (by lia)];simp
theorem G6{k:Nat}(p:Pl k d)(h:k<=8):bh .ne d d=some false:=by
 show(eqD 8 d d).map not=some false
 rw[Gg k 8 d p h];rfl
theorem GG{ns:List Int}(hl:ns.length<=63):kc (.scr (LI ns)) (.int 63)=some (.lst (LI ns)):=by
 show some (D.lst ((LI ns).take (cutAt (LI ns).length 63)))=_
 rw[List.take_of_length_le]
 have:(LI ns).length=ns.length:=by simp[LI]
 rw[this]
 unfold cutAt
 rw[if_pos (by decide)]
 have:(63:Int).toNat=63:=rfl
 lia
theorem yj{cl:Cl}{m N:Nat}{M:List Nat}{B:Ss}{ns:List Int}(hl:ns.length<=63)(hN:N<=1000)
 (turn:∀ (k:Nat) (os:List (Option D)),k<N->os.length=m->∃ os',os'.length=m+1/\af cl M B (some (.lst (LI ns))::some (.int (k:Nat))::os)=some (.nx,some (.lst (LI ns))::os')) :
  evF cl ⟨1,m+2,M,[],.cons (.asg 0 (.slT (.var 0) (.cst (.int 63)))) (.cons (.forr [1] (.rng1 (.cst (.int (N:Nat)))) B) (.cons (.ret (.cst (.bl true))) .nil))⟩ [.scr (LI ns)]=some (.bl true):=by
 have e1:=cj (n:=N) hN
 obtain⟨σ',e,os,hos,rfl⟩:=cJ (f:=af cl M B) (tg:=[1]) (xs:=List.range N) (σ:=some (.lst (LI ns))::List.replicate (m+1) none) (fun _ σ=>∃ os:List (Option D),os.length=m+1/\σ=some (.lst (LI ns))::os) ⟨_,by simp,rfl⟩ (by
  rintro p x q σ hx ⟨os,ho,rfl⟩
  have hxN:x<N:=by
   have:x∈List.range N:=by rw[hx];simp
   simpa using this
  cases os with
  | nil=>simp at ho
  |cons o os=>
   obtain⟨os',h1,h2⟩:=turn x os hxN (by simpa using ho)
   exact⟨_,by simpa[aJ]using h2,os',h1,rfl⟩)
 exact aN rfl rfl (a7 (vt (aa rfl) aj (GG hl)) (by simp[aQ,D.imm,a9,vS]) (cm (iM aj e1) e (aL aj rfl)))
section
variable{cl:Cl}{n:Nat}{f:List Nat}
theorem A1(n:Nat):aB .mul (.int 2) (.int (n:Nat))=some (.int ((2*n:Nat):Int)):=by
 rw[bM (by decide) (by decide)]
 simp
theorem zf{p:Nat}(h:p<2*n):ixV (.tup (L (aT n))) (.int (p:Nat))=some (.int (ovr n p:Nat)):=by
 rw[dk (by simp[aT];lia),plain_at]
 unfold ovr
 split
 ·rw[Nat.add_comm]
 ·rfl
theorem yl{fm fp fo fc:Nat}(h1:1<=n)(hn:n<=10)(F:Frm n f)(hc:cl fc [.tup (L f)]=some .non)(ho:cl fo [.tup (L f)]=some (.int n))(hp:cl fp [.int n]=some (.tup (L (aT n))))
 (hm:cl fm [.tup (L f),.tup (L (aT n))]=some (.tup (L (bc n (ovr n) (ovr n) f)))):evF cl (jf fm fp fo fc) [.tup (L f)]=some (.tup (L (bc n (ovr n) (ovr n) f))):=by
 simp[evF,jf,af,evS,ev,evs,hc,ho,hp,hm,aS,D.imm,aK,aU]
end
section
variable{T:List Fn}{nu pc pa nb un if' cf po rp ir mv:Nat}
theorem xm{to ba:Nat->Nat}{f E:List Nat}(W:Way n to ba)(h1:E.length=2*n)(h2:∀ p,p<2*n->at' E (to p)=to (at' f p)):E=bc n to ba f:=by
 refine eZ h1 (f9 ..) fun p hp=>?_
 rw[bP hp]
 have:=h2 (ba p) (W.blt _ hp)
 rw[W.tb _ hp]at this
 exact this
theorem Ck.FA(h:Ck T nu pc pa nb un if' cf po rp ir mv)(n:Nat){k:Nat}{U:D}{to ba:Nat->Nat}(hk:k<=10)(F:Frm k f)(W:Way k to ba)(hT:∀ p:Nat,p<2*k->ixV U (.int (p:Nat))=some (.int (to p:Nat))):au T (n+1) mv [.tup (L f),U]=some (.tup (L (bc k to ba f))):=by
 obtain⟨E,h1,h2,h3⟩:=h.move n hk F hT W.lt fun p q hp hq e=>W.inj hp hq e
 rw[h3,xm W h1 h2]
theorem Ck.over(h:Ck T nu pc pa nb un if' cf po rp ir mv){cp pl ov:Nat}(hcp:T[cp]?=some (bV pc))(hpl:T[pl]?=some (fD cp))(hov:T[ov]?=some (jf mv pl po cf))(n:Nat){k:Nat}(h1:1<=k)(hk:k<=10)(V:Val k f):au T (n+6) ov [.tup (L f)]=some (.tup (L (bc k (ovr k) (ovr k) f))) :=
 (ao hov).trans (yl h1 hk V.frm (h.check n h1 hk V) (h.half (n+4) V.frm.len) (h.plain hcp hpl (n+1) h1 hk) (h.FA (n+4) hk V.frm (bG k) fun p hp=>zf hp))
end
end RM
set_option maxHeartbeats 1000000
namespace RT
open RL
noncomputable def gg:Fn :=
 ⟨2,6,[],[],(.cons (.unp [2,3] (.var 1)) (.cons (.ret (.bi .any (.compA (.chain3 .lt .lt .lt (.var 2) (.var 4) (.var 3) (.var 5)) [4,5] (.seq (.var 0))))) .nil))⟩
noncomputable def lR(f_law_crosses f_law_circle:Nat):Ss :=
 (.cons (.ife (.or (.not (.chain .le .lt (.cst (.int 0)) (.var 5) (.var 1))) (.or (.cmp .eq (.var 5) (.var 4)) (.cmp .ne (.ix (.var 0) (.var 5)) (.var 4)))) (.cons (.ret (.cst (.bl false))) .nil) .nil) .nil)
noncomputable def jQ(f_law_crosses f_law_circle:Nat):Fn :=
 ⟨1,7,[],[],(.cons (.asg 1 (.bi .len (.var 0))) (.cons (.ife (.or (.cmp .lt (.var 1) (.cst (.int 2))) (.or (.cmp .gt (.var 1) (.cst (.int 20))) (.cmp .eq (.bin .mod (.var 1) (.cst (.int 2))) (.cst (.int 1))))) (.cons (.ret (.cst (.bl false))) .nil) .nil) (.cons (.forr [4,5] (.enm (.var 0)) (lR f_law_crosses f_law_circle)) (.cons (.asg 2 (.call f_law_circle (.cons (.bin .fdiv (.var 1) (.cst (.int 2))) .nil))) (.cons (.asg 3 (.compA (.bi .tuple (.bi .sorted (.lst (.cons (.index (.var 2) (.var 4)) (.cons (.index (.var 2) (.var 5)) .nil))))) [4,5] (.enm (.var 0)))) (.cons (.ret (.not (.bi .any (.compA (.call f_law_crosses (.cons (.var 3) (.cons (.var 6) .nil))) [6] (.seq (.var 3)))))) .nil))))))⟩
end RT
namespace RM
open RL RT
theorem zx{cl:Cl}{σ:St}{a b e g:E}{x y z w:Int}(h1:ev cl σ a=some (.int x))(h2:ev cl σ b=some (.int y))(h3:ev cl σ e=some (.int z))(h4:ev cl σ g=some (.int w))(no:¬ (x<y/\y<z/\z<w)):ev cl σ (.chain3 .lt .lt .lt a b e g)=some (.bl false):=by
 rw[ev,h1,Option.bind_some,h2,Option.bind_some,c6,Option.bind_some]
 by_cases c:x<y
 ·rw[decide_eq_true c,if_pos rfl,h3,Option.bind_some,c6,Option.bind_some]
  by_cases c':y<z
  ·rw[decide_eq_true c',if_pos rfl,h4,Option.bind_some,c6,decide_eq_false (fun c''=>no ⟨c,c',c''⟩)]
   rfl
  ·rw[decide_eq_false c',if_neg (by decide)]
 ·rw[decide_eq_false c,if_neg (by decide)]
theorem uo{β:Type}:∀ xs:List β,biV .any (.lst (xs.map fun _=>D.bl false))=some (.bl false):=by
 intro xs
 have h:∀ xs:List β,cG (xs.map fun _=>D.bl false)=some (xs.map fun _=>false):=fun xs=>by
  induction xs with
  | nil=>rfl
  | cons x r ih=>simp only[List.map_cons,cG,ih];rfl
 show(cG (xs.map fun _=>D.bl false)).map _=_
 rw[h,Option.map_some]
 congr 2
 induction xs with
 | nil=>rfl
 | cons x r ih=>exact ih
noncomputable def lo(n:Nat)(f:List Nat)(p:Nat):Nat:=if rd n p<=rd n (at' f p)then rd n p else rd n (at' f p)
noncomputable def hi(n:Nat)(f:List Nat)(p:Nat):Nat:=if rd n p<=rd n (at' f p)then rd n (at' f p)else rd n p
noncomputable def iF(n:Nat)(f:List Nat)(p:Nat):D:=.tup [.int (lo n f p:Nat),.int (hi n f p:Nat)]
noncomputable def dX(n:Nat)(f:List Nat):List D:=(List.range (2*n)).map (iF n f)
theorem AD(F:Frm n f){p:Nat}(hp:p<2*n):lo n f p<2*n/\rnd n f (lo n f p)=hi n f p:=by
 have l:=F.lt p hp
 unfold lo hi rnd
 split
 ·exact⟨aX hp,by rw[bO hp]⟩
 ·exact⟨aX l,by rw[bO l,F.inv]⟩
theorem Bw(V:Val n f){p q:Nat}(hp:p<2*n)(hq:q<2*n):¬ ((lo n f p:Int)<lo n f q/\(lo n f q:Int)<hi n f p/\(hi n f p:Int)<hi n f q):=by
 obtain⟨a1,a2⟩:=AD V.frm hp
 obtain⟨b1,b2⟩:=AD V.frm hq
 have:=V.nox _ _ a1 b1
 rw[a2,b2]at this
 lia
section
variable{cl:Cl}{n:Nat}{f:List Nat}
theorem sW(hn:n<=10)(V:Val n f){p:Nat}(hp:p<2*n):evF cl gg [.lst (dX n f),iF n f p]=some (.bl false):=by
 have mc:=eR (F:=fun σ1=>(ev cl σ1 (.chain3 .lt .lt .lt (.var 2) (.var 4) (.var 3) (.var 5))).map some) (tg:=[4,5]) (σ:=[some (.lst (dX n f)),some (iF n f p),some (.int (lo n f p:Nat)),some (.int (hi n f p:Nat)),none,none]) (h:=iF n f) (g:=fun _=>.bl false) (fun _=>rfl) (List.range (2*n)) (by
  intro q hq
  show(ev cl [some (.lst (dX n f)),some (iF n f p),some (.int (lo n f p:Nat)),some (.int (hi n f p:Nat)),some (.int (lo n f q:Nat)),some (.int (hi n f q:Nat))] (.chain3 .lt .lt .lt (.var 2) (.var 4) (.var 3) (.var 5))).map some=_
  rw[zx (aa rfl) (aa rfl) (aa rfl) (aa rfl) (Bw V hp (List.mem_range.mp hq))]
  rfl)
 exact aN rfl rfl (r9 (aa rfl) rfl rfl rfl (aL (aO (cb (cK (aa rfl) rfl) (by simp[dX,most];lia) mc) (uo _)) rfl))
theorem zg:∀ n,n<11->∀ p:Nat,p<2*n->Int.ofNat p∈(bL n).map Int.ofNat/\((bL n).map Int.ofNat).idxOf (Int.ofNat p)=rd n p:=by decide +kernel
theorem vO:∀ xs:List Nat,c8 (L xs)=some (xs.map Int.ofNat)
 | []=>rfl
 | x::r=>by rw[show L (x::r)=.int x::L r from rfl,c8,vO r];rfl
theorem vI{σ:St}{e e':E}{p:Nat}(hn:n<=10)(h:ev cl σ e=some (.lst (L (bL n))))(h':ev cl σ e'=some (.int (p:Nat)))(hp:p<2*n):ev cl σ (.index e e')=some (.int (rd n p:Nat)):=by
 obtain⟨a,b⟩:=zg n (by lia) p hp
 exact(Bb h h' (vO _) a).trans (congrArg (fun k:Nat=>some (D.int (k:Int))) b)
theorem HP(x y:Nat):biV .sorted (.lst [.int (x:Nat),.int (y:Nat)])=some (.lst [.int ((if x<=y then x else y:Nat):Int),.int ((if x<=y then y else x:Nat):Int)]):=by
 show some (D.lst ((if(x:Int)<=(y:Int)then [(x:Int),(y:Int)]else [(y:Int),(x:Int)]).map .int))=_
 by_cases c:x<=y
 ·rw[if_pos (by lia),if_pos c,if_pos c]
  rfl
 ·rw[if_neg (by lia),if_neg c,if_neg c]
  rfl
theorem rf{fc fi:Nat}(h1:1<=n)(hn:n<=10)(V:Val n f)(hci:cl fi [.int (n:Nat)]=some (.lst (L (bL n))))(hcr:∀ p,p<2*n->cl fc [.lst (dX n f),iF n f p]=some (.bl false)):evF cl (jQ fc fi) [.tup (L f)]=some (.bl true):=by
 have F:=V.frm
 have ln:biV .len (.tup (L f))=some (.int ((2*n:Nat):Int)):=by
  show some (D.int ((L f).length:Nat))=_
  rw[aF,F.len]
 have en:=gQ F.len
 obtain⟨σ',e1,o4,o5,rfl⟩:=mL (f:=af cl [] (lR fc fi)) (tg:=[4,5]) (pr f) (fun _=>rfl) (fun _ σ=>∃ o4 o5,σ=[some (.tup (L f)),some (.int ((2*n:Nat):Int)),none,none,o4,o5,none]) (List.range (2*n)) [] [some (.tup (L f)),some (.int ((2*n:Nat):Int)),none,none,none,none,none] (by
  rintro u p v σ he ⟨o4,o5,rfl⟩
  have hp:p<2*n:=by
   have:p∈List.range (2*n):=by rw[List.nil_append]at he;rw[he];simp
   exact List.mem_range.mp this
  have l:=F.lt p hp
  refine⟨_,br (aI (i7 (cO (k:=true) (oq aj (aa rfl) (aa rfl) (by rw[uI];simp) (by rw[c6];simp;lia))) (i7 (a8 (k:=false) (aa rfl) (aa rfl) (by rw[cA];have:=F.no p hp;simp;lia)) (a8 (k:=false) (b9 (aa rfl) (aa rfl) (dk (by rw[F.len];exact l))) (aa rfl) (by rw[m9,F.inv];simp))))) aC,_,_,rfl⟩) ⟨_,_,rfl⟩
 have mc:=eR (F:=fun σ1=>(ev cl σ1 (.bi .tuple (.bi .sorted (.lst (.cons (.index (.var 2) (.var 4)) (.cons (.index (.var 2) (.var 5)) .nil)))))).map some) (tg:=[4,5]) (σ:=[some (.tup (L f)),some (.int ((2*n:Nat):Int)),some (.lst (L (bL n))),none,o4,o5,none]) (h:=pr f) (g:=iF n f) (fun _=>rfl) (List.range (2*n)) (by
  intro p hp
  have hp:=List.mem_range.mp hp
  show(ev cl [some (.tup (L f)),some (.int ((2*n:Nat):Int)),some (.lst (L (bL n))),none,some (.int (p:Nat)),some (.int (at' f p:Nat)),none] _).map some=_
  rw[aO (aO (dZ (a6 (vI hn (aa rfl) (aa rfl) hp) (a6 (vI hn (aa rfl) (aa rfl) (F.lt p hp)) bu))) (HP _ _)) rfl]
  rfl)
 have mk:=eR (F:=fun σ1=>(ev cl σ1 (.call fc (.cons (.var 3) (.cons (.var 6) .nil)))).map some) (tg:=[6]) (σ:=[some (.tup (L f)),some (.int ((2*n:Nat):Int)),some (.lst (L (bL n))),some (.lst (dX n f)),o4,o5,none]) (h:=iF n f) (g:=fun _=>.bl false) (fun _=>rfl) (List.range (2*n)) (by
  intro p hp
  show(ev cl [some (.tup (L f)),some (.int ((2*n:Nat):Int)),some (.lst (L (bL n))),some (.lst (dX n f)),o4,o5,some (iF n f p)] _).map some=_
  rw[c9 (aa rfl) (aa rfl) (hcr p (List.mem_range.mp hp))]
  rfl)
 have c3:bh .eq (.int (((2*n:Nat):Int)%2)) (.int 1)=some false:=by
  rw[cA,show((2*n:Nat):Int)%2=0 by lia]
  rfl
 have hm:(List.range (2*n)).length<=most:=by rw[List.length_range];unfold most;lia
 have hm1:(cF 0 (L f)).length<=most:=by rw[en,List.length_map];exact hm
 have hm2:(dX n f).length<=most:=by unfold dX;rw[List.length_map];exact hm
 rw[<-en]at e1 mc
 have im:aq (dX n f)=true:=by
  have:∀ xs:List Nat,aq (xs.map (iF n f))=true:=fun xs=>by
   induction xs with
   | nil=>rfl
   | cons x r ih=>exact ih
  exact this _
 exact aN rfl rfl (a7 (aO (aa rfl) ln) rfl
  (br (aI (i7 (a8 (k:=false) (aa rfl) aj (by rw[c6];simp;lia)) (i7 (a8 (k:=false) (aa rfl) aj (by rw[ib];simp;lia)) (a8 (k:=false) (az (aa rfl) aj (eh (by decide))) aj c3))))
  (cm (jg (aa rfl) rfl) e1
  (a7 (b8 (az (d:=.int (n:Nat)) (aa rfl) aj (by rw[l5 (by decide) (by decide)];congr 2;lia)) hci) (by simp[aQ,a9,aK,D.imm])
  (a7 (d:=.lst (dX n f)) (cb (jg (aa rfl) rfl) hm1 mc) (by unfold aQ;rw[show a9 (.lst (dX n f))=true from im];rfl)
  (aL (cO (aO (cb (cK (aa rfl) rfl) hm2 mk) (uo _))) rfl))))))
end
structure Two(m:Nat)(a b:Nat->Nat):Prop where
 al:∀ x,x<m->a x<m
 bl:∀ x,x<m->b x<m
 ai:∀ x,x<m->a (a x)=x
 bi:∀ x,x<m->b (b x)=x
theorem Two.swap(T:Two m a b):Two m b a:=⟨T.bl,T.al,T.bi,T.ai⟩
noncomputable def wk(a b:Nat->Nat)(x:Nat):Nat->Nat
 | 0=>x
 | k+1=>if k%2=0 then b (wk a b x k)else a (wk a b x k)
noncomputable def Stp(a b:Nat->Nat)(x k:Nat):Prop:=wk a b x (k+1)=wk a b x k\/wk a b x (k+1)=x
noncomputable instance{a b:Nat->Nat}{x k:Nat}:Decidable (Stp a b x k):=inferInstanceAs (Decidable (_\/_))
section
variable{m:Nat}{a b:Nat->Nat}{x:Nat}
theorem dC{k:Nat}(h:k%2=0):wk a b x (k+1)=b (wk a b x k):=by rw[wk,if_pos h]
theorem fP{k:Nat}(h:k%2=1):wk a b x (k+1)=a (wk a b x k):=by rw[wk,if_neg (by lia)]
theorem fR(T:Two m a b)(hx:x<m):∀ k,wk a b x k<m
 | 0=>hx
 | k+1=>by
  rw[wk]
  split
  ·exact T.bl _ (fR T hx k)
  ·exact T.al _ (fR T hx k)
theorem iJ(T:Two m a b)(hx:x<m)(k:Nat):(if k%2=0 then b (wk a b x (k+1))else a (wk a b x (k+1)))=wk a b x k:=by
 have h:=fR T hx k
 rw[wk]
 split
 ·exact T.bi _ h
 ·exact T.ai _ h
theorem EM(T:Two m a b)(hx:x<m){i j:Nat}(hp:i%2=j%2)(h:wk a b x (i+1)=wk a b x (j+1)):wk a b x i=wk a b x j:=by
 rw[<-iJ T hx i,<-iJ T hx j,h,hp]
theorem ui(T:Two m a b)(hx:x<m){k:Nat}(hs:∀ j,j<k->¬ Stp a b x j){d:Nat}(hd:d%2=1):∀ i,i+(d+1)<=k->wk a b x i≠wk a b x (i+(d+1))
 | 0,hk,h=>hs d (by lia) (.inr (by rw[Nat.zero_add]at h;exact h.symm))
 | i+1,hk,h=>ui T hx hs hd i (by lia) (EM T hx (i:=i) (j:=i+(d+1)) (by lia) (by rw[h];congr 1;lia))
theorem xV(T:Two m a b)(hx:x<m){k:Nat}(hs:∀ j,j<k->¬ Stp a b x j):∀ (c i:Nat),i+(2*c+1)<=k->wk a b x i≠wk a b x (i+(2*c+1))
 | 0,i,hk,h=>hs i (by lia) (.inl h.symm)
 | c+1,i,hk,h=>by
  refine xV T hx hs c (i+1) (by lia) ?_
  have h1:=iJ T hx (i+(2*c+2))
  rw[show i+(2*c+2)+1=i+(2*(c+1)+1) by lia,<-h]at h1
  have h2:wk a b x (i+1)=if(i+(2*c+2))%2=0 then b (wk a b x i)else a (wk a b x i):=by
   rw[wk]
   have:(i+(2*c+2))%2=i%2:=by lia
   rw[this]
  rw[h2,h1]
  congr 1
  lia
theorem lH(T:Two m a b)(hx:x<m){k:Nat}(hs:∀ j,j<k->¬ Stp a b x j){i j:Nat}(hij:i<j)(hj:j<=k):wk a b x i≠wk a b x j:=by
 obtain⟨d,rfl⟩:∃ d,j=i+(d+1):=⟨j-i-1,by lia⟩
 by_cases c:d%2=1
 ·exact ui T hx hs c i hj
 ·obtain⟨e,rfl⟩:∃ e,d=2*e:=⟨d / 2,by lia⟩
  exact xV T hx hs e i hj
theorem least{P:Nat->Prop} [DecidablePred P]:∀ n,P n->∃ k,k<=n/\P k/\∀ j,j<k->¬ P j:=by
 intro n
 induction n using Nat.strongRecOn with
 |_ n ih=>
  intro h
  by_cases c:∃ j,j<n/\P j
  ·obtain⟨j,hj,hp⟩:=c
   obtain⟨k,h1,h2,h3⟩:=ih j hj hp
   exact⟨k,by lia,h2,h3⟩
  ·exact⟨n,Nat.le_refl _,h,fun j hj hp=>c ⟨j,hj,hp⟩⟩
theorem f7(T:Two m a b)(hx:x<m):∃ k,k<m/\Stp a b x k/\∀ j,j<k->¬ Stp a b x j:=by
 by_cases c:∃ k,k<m/\Stp a b x k
 ·obtain⟨k,h1,h2⟩:=c
  obtain⟨j,h3,h4,h5⟩:=least k h2
  exact⟨j,by lia,h4,h5⟩
 ·exfalso
  have hs:∀ j,j<m->¬ Stp a b x j:=fun j hj h=>c ⟨j,hj,h⟩
  have nd:((List.range (m+1)).map (wk a b x)).Nodup:=by
   rw[List.nodup_iff_pairwise_ne,List.pairwise_map]
   refine List.Pairwise.imp_of_mem ?_ (List.pairwise_lt_range (n:=m+1))
   intro i j hi hj hlt
   exact lH T hx hs hlt (by have:=List.mem_range.mp hj;lia)
  have:=cL nd (b:=List.range m) fun y hy=>by
   obtain⟨i,_,rfl⟩:=List.mem_map.mp hy
   exact List.mem_range.mpr (fR T hx i)
  simp at this
  lia
inductive Cn (a b:Nat->Nat) (x:Nat):Nat->Prop
 | refl:Cn a b x x
 | sa {y:Nat}:Cn a b x y->Cn a b x (a y)
 | sb {y:Nat}:Cn a b x y->Cn a b x (b y)
theorem Cn.lt(T:Two m a b)(hx:x<m)(h:Cn a b x y):y<m:=by
 induction h with
 | refl=>exact hx
 | sa _ ih=>exact T.al _ ih
 | sb _ ih=>exact T.bl _ ih
theorem Cn.trans(h:Cn a b x y)(h':Cn a b y z):Cn a b x z:=by
 induction h' with
 | refl=>exact h
 | sa _ ih=>exact .sa ih
 | sb _ ih=>exact .sb ih
theorem Cn.symm(T:Two m a b)(hx:x<m)(h:Cn a b x y):Cn a b y x:=by
 induction h with
 | refl=>exact .refl
 |@sa y h ih=>
  have:=Cn.sa (a:=a) (b:=b) (Cn.refl (x:=a y))
  rw[T.ai _ (h.lt T hx)]at this
  exact this.trans ih
 |@sb y h ih=>
  have:=Cn.sb (a:=a) (b:=b) (Cn.refl (x:=b y))
  rw[T.bi _ (h.lt T hx)]at this
  exact this.trans ih
theorem Cn.flip(h:Cn a b x y):Cn b a x y:=by
 induction h with
 | refl=>exact .refl
 | sa _ ih=>exact .sb ih
 | sb _ ih=>exact .sa ih
theorem jH:∀ k,Cn a b x (wk a b x k)
 | 0=>.refl
 | k+1=>by
  rw[wk]
  split
  ·exact .sb (jH k)
  ·exact .sa (jH k)
theorem kZ(T:Two m a b)(hx:x<m){k:Nat}(st:Stp a b x k)(hs:∀ j,j<k->¬ Stp a b x j)(h:a x=x\/∀ y,Cn a b x y->a y≠y/\b y≠y)(hy:Cn a b x y):∃ i,i<=k/\wk a b x i=y:=by
 have bx:∃ i,i<=k/\wk a b x i=b x:=by
  by_cases c:k=0
  ·subst c
   refine⟨0,Nat.le_refl _,?_⟩
   rcases st with st | st
   ·rw[dC rfl]at st;exact st.symm
   ·rw[dC rfl]at st;exact st.symm
  ·exact⟨1,by lia,dC rfl⟩
 have key:∀ j,0<j->j<=k->(∃ i,i<=k/\wk a b x i=a (wk a b x j))/\∃ i,i<=k/\wk a b x i=b (wk a b x j):=by
  intro j h0 hj
  have prev:=iJ T hx (j-1)
  rw[show j-1+1=j by omega]at prev
  have next:∃ i,i<=k/\wk a b x i=wk a b x (j+1):=by
   by_cases c:j<k
   ·exact⟨j+1,by lia,rfl⟩
   ·have:j=k:=by lia
    subst this
    rcases st with st | st
    ·exact⟨j,Nat.le_refl _,st.symm⟩
    ·exact⟨0,by lia,st.symm⟩
  by_cases c:j%2=0
  ·rw[if_neg (by lia)]at prev
   rw[dC c]at next
   exact⟨⟨j-1,by lia,prev.symm⟩,next⟩
  ·rw[if_pos (by lia)]at prev
   rw[fP (by lia)]at next
   exact⟨next,⟨j-1,by omega,prev.symm⟩⟩
 have ax:∃ i,i<=k/\wk a b x i=a x:=by
  rcases h with h | h
  ·exact⟨0,by lia,h.symm⟩
  ·rcases st with st | st
   ·exfalso
    have hc:=h _ (jH k)
    by_cases c:k%2=0
    ·rw[dC c]at st;exact hc.2 st
    ·rw[fP (by lia)]at st;exact hc.1 st
   ·by_cases c:k%2=0
    ·exfalso
     rw[dC c]at st
     have e:wk a b x k=b x:=by
      have:=congrArg b st
      rw[T.bi _ (fR T hx k)]at this
      exact this
     by_cases k0:k=0
     ·subst k0
      exact(h x .refl).2 e.symm
     ·have:wk a b x 1=b x:=dC rfl
      exact lH T hx hs (i:=1) (j:=k) (by lia) (Nat.le_refl _) (by rw[this,e])
    ·rw[fP (by lia)]at st
     exact⟨k,Nat.le_refl _,by
      have:=congrArg a st
      rw[T.ai _ (fR T hx k)]at this
      exact this⟩
 induction hy with
 | refl=>exact⟨0,by lia,rfl⟩
 |sa _ ih=>
  obtain⟨i,hi,rfl⟩:=ih
  by_cases c:i=0
  ·subst c;exact ax
  ·exact(key i (by lia) hi).1
 |sb _ ih=>
  obtain⟨i,hi,rfl⟩:=ih
  by_cases c:i=0
  ·subst c;exact bx
  ·exact(key i (by lia) hi).2
theorem lj(T:Two m a b)(hx:x<m){k:Nat}(st:Stp a b x k)(hs:∀ j,j<k->¬ Stp a b x j)(hb:∀ y,y<m->b y≠y)(ha:a x=x):k%2=1/\a (wk a b x k)=wk a b x k:=by
 have lk:=fR T hx k
 by_cases c:k%2=0
 ·exfalso
  rcases st with st | st
  ·rw[dC c]at st
   exact hb _ lk st
  ·rw[dC c]at st
   have e:wk a b x k=b x:=by
    have:=congrArg b st
    rw[T.bi _ lk]at this
    exact this
   by_cases k0:k=0
   ·subst k0
    exact hb x hx e.symm
   ·have:wk a b x 1=b x:=dC rfl
    exact lH T hx hs (i:=1) (j:=k) (by lia) (Nat.le_refl _) (by rw[this,e])
 ·refine⟨by lia,?_⟩
  rcases st with st | st
  ·rw[fP (by lia)]at st;exact st
  ·exfalso
   rw[fP (by lia)]at st
   have e:wk a b x k=x:=by rw[<-T.ai _ lk,st,ha]
   exact lH T hx hs (i:=0) (j:=k) (by lia) (Nat.le_refl _) e.symm
end
structure cn(m:Nat)(a b:Nat->Nat)(S:List Nat):Prop where
 lt:∀ s∈S,s<m
 nd:S.Pairwise fun s t=>¬ Cn a b s t
 ring:∀ s∈S,∀ y,Cn a b s y->a y≠y/\b y≠y
 all:∀ x,x<m->(∃ s,s<m/\(a s=s\/b s=s)/\Cn a b s x)\/∃ s∈S,Cn a b s x
theorem cn.le(T:Two m a b){S S':List Nat}(R:cn m a b S)(R':cn m a b S'):S.length<=S'.length:=by
 have pick:∀ s∈S,∃ t∈S',Cn a b t s:=fun s hs=>by
  rcases R'.all s (R.lt s hs)with⟨q,h1,h2,h3⟩ | h
  ·exfalso
   have:=R.ring s hs q (h3.symm T h1)
   rcases h2 with h2 | h2
   ·exact this.1 h2
   ·exact this.2 h2
  ·exact h
 have:∀ s,∃ t,s∈S->t∈S'/\Cn a b t s:=fun s=>by
  by_cases hs:s∈S
  ·obtain⟨t,h1,h2⟩:=pick s hs
   exact⟨t,fun _=>⟨h1,h2⟩⟩
  ·exact⟨0,fun z=>absurd z hs⟩
 obtain⟨g,hg⟩:=Classical.axiomOfChoice this
 have nd:(S.map g).Nodup:=by
  rw[List.nodup_iff_pairwise_ne,List.pairwise_map]
  refine List.Pairwise.imp_of_mem ?_ R.nd
  intro s t hs ht hn e
  obtain⟨h1,h2⟩:=hg s hs
  obtain⟨h3,h4⟩:=hg t ht
  rw[<-e]at h4
  exact hn ((h2.symm T (R'.lt _ h1)).trans h4)
 have:=cL nd (b:=S') fun y hy=>by
  obtain⟨s,hs,rfl⟩:=List.mem_map.mp hy
  exact(hg s hs).1
 simpa using this
theorem cn.one(T:Two m a b){S S':List Nat}(R:cn m a b S)(R':cn m a b S'):S.length=S'.length:=Nat.le_antisymm (R.le T R') (R'.le T R)
theorem AK{t:St->Option Bool}{f:St->Option (Out × St)}{σ:Nat->St}{k:Nat}(h1:∀ i,i<k->t (σ i)=some true/\f (σ i)=some (.nx,σ (i+1)))(h2:t (σ k)=some false):∀ (d i fuel:Nat),i+d=k->d<fuel->whF t f fuel (σ i)=some (.nx,σ k)
 | 0,i,0,_,h=>by lia
 | 0,i,fuel+1,hi,_=>by
  have:i=k:=by lia
  subst this
  rw[whF,h2]
  rfl
 | d+1,i,0,_,h=>by lia
 | d+1,i,fuel+1,hi,hf=>by
  obtain⟨e1,e2⟩:=h1 i (by lia)
  rw[whF,e1,Option.bind_some,if_pos rfl,e2,Option.bind_some]
  exact AK h1 h2 d (i+1) fuel (by lia) (by lia)
section
variable{cl:Cl}{m x:Nat}{a b:Nat->Nat}{A B:D}
noncomputable def zP(A B:D):Nat->Option D
 | 0=>none
 | t+1=>some (if t%2=0 then A else B)
noncomputable def wks(a b:Nat->Nat)(x k:Nat):List Nat:=(List.range (k+1)).map (wk a b x)
theorem yW(k:Nat):wks a b x (k+1)=wks a b x k++[wk a b x (k+1)]:=by
 unfold wks
 rw[List.range_succ,List.map_append]
 rfl
theorem rR(k:Nat):ixV (.lst (L (wks a b x k))) (.int (-1))=some (.int (wk a b x k:Nat)):=by
 show cB (L (wks a b x k)) (-1)=_
 unfold cB
 have hl:(L (wks a b x k)).length=k+1:=by simp[L,wks]
 rw[if_neg (by decide),if_pos (by rw[hl];lia),hl,show((-1:Int)+((k+1:Nat):Int)).toNat=k by lia,ql]
 simp[wks]
theorem E9{σ:St}:ev cl σ (.neg (.cst (.int 1)))=some (.int (-1)):=uR aj
theorem uC(T:Two m a b)(hm:m<=1000)(hA:∀ x:Nat,x<m->ixV A (.int (x:Nat))=some (.int (a x:Nat)))(hB:∀ x:Nat,x<m->ixV B (.int (x:Nat))=some (.int (b x:Nat)))(hx:x<m) :
  ∃ k,k<m/\Stp a b x k/\(∀ j,j<k->¬ Stp a b x j)/\evF cl qo [A,B,.int (x:Nat)]=some (.lst (L (wks a b x k))):=by
 obtain⟨k,hk,st,hs⟩:=f7 T hx
 refine⟨k,hk,st,hs,?_⟩
 have cond:∀ (i:Nat) (o:Option D),(ev cl [some A,some B,some (.int (x:Nat)),some (.lst (L (wks a b x i))),some (.int (wk a b x (i+1):Nat)),o] (.inn true (.var 4) (.tup (.cons (.ix (.var 3) (.neg (.cst (.int 1)))) (.cons (.var 2) .nil))))).bind truth=some (!decide (Stp a b x i)):=fun i o=>by
  have hv:inV (.int (wk a b x (i+1):Nat)) (.tup [.int (wk a b x i:Nat),.int (x:Nat)])=some (decide (Stp a b x i)):=by
   show(if(flat (.int (wk a b x (i+1):Nat))&&[D.int (wk a b x i:Nat),.int (x:Nat)].all flat)=true then some ([D.int (wk a b x i:Nat),.int (x:Nat)].any fun y=>eqF y (.int (wk a b x (i+1):Nat)))else none)=_
   rw[if_pos (by simp[flat])]
   congr 1
   simp only[List.any_cons,List.any_nil,eqF,Bool.or_false]
   unfold Stp
   rw[Bool.eq_iff_iff]
   simp only[Bool.or_eq_true,beq_iff_eq,decide_eq_true_eq,Int.ofNat_inj]
   exact⟨fun h=>decide_eq_true (h.imp Eq.symm Eq.symm),fun h=>(of_decide_eq_true h).imp Eq.symm Eq.symm⟩
  exact aI (G4 (n:=true) (aa rfl) (gz (a6 (b9 (aa rfl) E9 (rR i)) (a6 (aa rfl) bu))) hv)
 have wh:=AK (t:=fun σ=>(ev cl σ (.inn true (.var 4) (.tup (.cons (.ix (.var 3) (.neg (.cst (.int 1)))) (.cons (.var 2) .nil))))).bind truth) (f:=af cl [3] xt) (σ:=fun i=>[some A,some B,some (.int (x:Nat)),some (.lst (L (wks a b x i))),some (.int (wk a b x (i+1):Nat)),zP A B i]) (k:=k) (fun i hi=>by
  refine⟨by rw[cond];simp[hs i hi],?_⟩
  have hl:(L (wks a b x i)).length<most:=by simp[L,wks,most];lia
  have ha:L (wks a b x i)++[D.int (wk a b x (i+1):Nat)]=L (wks a b x (i+1)):=by rw[yW,cN];rfl
  have ln:biV .len (.lst (L (wks a b x (i+1))))=some (.int ((i+2:Nat):Int)):=by
   show some (D.int ((L (wks a b x (i+1))).length:Nat))=_
   simp[L,wks]
   lia
  have md:aB .mod (.int ((i+2:Nat):Int)) (.int 2)=some (.int (((i+2)%2:Nat):Int)):=by rw[eh (by decide)];simp
  have lt:=fR T hx (i+1)
  refine sE (aa rfl) rfl rfl hl ?_
  rw[ha]
  by_cases c:i%2=0
  ·have h0:bh .eq (.int (((i+2)%2:Nat):Int)) (.int 0)=some true:=by
    rw[show(i+2)%2=0 by lia];rfl
   refine a7 (d:=A) (kY (k:=true) (aI (a8 (az (aO (aa rfl) ln) aj md) aj h0)) (aa rfl)) (by simp[aQ,avE]) (a7 (b9 (aa rfl) (aa rfl) (hA _ lt)) rfl ?_)
   rw[aC]
   show some (Out.nx,[some A,some B,some (D.int (x:Nat)),some (.lst (L (wks a b x (i+1)))),some (.int (a (wk a b x (i+1)):Nat)),some A])=_
   rw[<-fP (a:=a) (b:=b) (x:=x) (k:=i+1) (by lia)]
   simp[zP,c]
  ·have h0:bh .eq (.int (((i+2)%2:Nat):Int)) (.int 0)=some false:=by
    rw[show(i+2)%2=1 by lia];rfl
   refine a7 (d:=B) (kY (k:=false) (aI (a8 (az (aO (aa rfl) ln) aj md) aj h0)) (aa rfl)) (by simp[aQ,avE]) (a7 (b9 (aa rfl) (aa rfl) (hB _ lt)) rfl ?_)
   rw[aC]
   show some (Out.nx,[some A,some B,some (D.int (x:Nat)),some (.lst (L (wks a b x (i+1)))),some (.int (b (wk a b x (i+1)):Nat)),some B])=_
   rw[<-dC (a:=a) (b:=b) (x:=x) (k:=i+1) (by lia)]
   simp[zP,c]) (by rw[cond];simp[st]) k 0 most (by lia) (by unfold most;lia)
 have w1:wk a b x (0+1)=b x:=dC rfl
 rw[w1]at wh
 exact aN rfl rfl (eQ (d:=.lst (L (wks a b x 0))) (dZ (a6 (aa rfl) bu)) rfl (a7 (b9 (aa rfl) (aa rfl) (hB x hx)) rfl (EH wh (aL (aa rfl) (by simp[aS,a9,aK,qo])))))
end
theorem EZ{cl:Cl}{fn:Fn}{ds:List D}{σ':St}{o:D}(hl:ds.length=fn.ps)(hm:fn.mp=[0])(h:af cl fn.M fn.body (ds.map some++List.replicate (fn.nn-fn.ps) none)=some (.nx,σ'))(ho:(σ'[0]?).bind id=some o):evF cl fn ds=some (.tup [.non,o]):=by
 unfold evF
 rw[if_pos hl,h]
 show aU fn .non σ'=_
 unfold aU
 rw[hm]
 show(if D.non.imm=true then Option.map _ (fv σ' [0])else none)=_
 rw[if_pos (show D.non.imm=true from rfl),fv,ho]
 rfl
noncomputable def BL(s:List Bool):List D:=s.map D.bl
theorem yc:∀ s:List Bool,aq (BL s)=true
 | []=>rfl
 | x::r=>by
  show((D.bl x).imm&&aq (BL r))=true
  rw[yc r];rfl
noncomputable def Sn(m:Nat)(s:List Bool)(P:Nat->Prop):Prop:=s.length=m/\∀ y,y<m->(s[y]?=some true↔P y)
theorem Sn.set(h:Sn m s P){p:Nat}(hp:p<m):Sn m (s.set p true) (fun y=>P y\/y=p):=by
 obtain⟨h1,h2⟩:=h
 refine⟨by simp[h1],fun y hy=>?_⟩
 rw[List.getElem?_set]
 by_cases c:p=y
 ·subst c
  rw[if_pos rfl,if_pos (by lia)]
  exact⟨fun _=>.inr rfl,fun _=>rfl⟩
 ·rw[if_neg c,h2 y hy]
  exact⟨.inl,fun z=>z.resolve_right fun e=>c e.symm⟩
theorem Sn.congr{P Q:Nat->Prop}(h:Sn m s P)(e:∀ y,y<m->(P y↔Q y)):Sn m s Q:=⟨h.1,fun y hy=>(h.2 y hy).trans (e y hy)⟩
section
variable{cl:Cl}{m:Nat}{a b:Nat->Nat}{A B:D}
theorem zJ(h:Sn m s P){ps:List Nat}(hp:∀ p∈ps,p<m):∃ s',Sn m s' (fun y=>P y\/y∈ps)/\evF cl sI [.lst (BL s),.lst (L ps)]=some (.tup [.non,.lst (BL s')]):=by
 obtain⟨σ',e,s',o,rfl,hs⟩:=cJ (f:=af cl [0,0] tP) (tg:=[2]) (xs:=ps) (σ:=[some (.lst (BL s)),some (.lst (L ps)),none]) (fun u σ=>∃ (s':List Bool) (o:Option D),σ=[some (.lst (BL s')),some (.lst (L ps)),o]/\Sn m s' fun y=>P y\/y∈u) ⟨s,none,rfl,h.congr fun y _=>by simp⟩ (by
  rintro u p v σ hu ⟨s',o,rfl,hs⟩
  have hpm:=hp p (by rw[hu];simp)
  have hl:(BL s').length=m:=by simp[BL,hs.1]
  have hput:d5 (.lst (BL s')) (.int (p:Nat)) (.bl true)=some (.lst (BL (s'.set p true))):=by
   show Option.map (fun j=>D.lst ((BL s').set j (.bl true))) (mD (BL s').length (p:Int))=_
   rw[hl,sQ hpm]
   simp[BL,List.map_set]
  refine⟨_,ke (cl:=cl) (M:=[0,0]) (r:=.nil) aj (aa rfl) rfl rfl hput aC,s'.set p true,_,rfl,(hs.set hpm).congr fun y _=>by simp[or_assoc]⟩)
 exact⟨s',hs,EZ rfl rfl (cm (cK (aa rfl) rfl) e aC) rfl⟩
theorem By(h:Sn m s P){p:Nat}(hp:p<m):∃ v:Bool,ixV (.lst (BL s)) (.int (p:Nat))=some (.bl v)/\(v=true↔P p):=by
 have hl:p<s.length:=by rw[h.1];exact hp
 refine⟨s[p],?_,?_⟩
 ·show cB (BL s) (p:Int)=_
  rw[fJ]
  simp[BL,hl]
 ·rw[<-h.2 p hp,List.getElem?_eq_getElem hl]
  simp
noncomputable def Pth(m:Nat)(a b:Nat->Nat)(y:Nat):Prop:=∃ s,s<m/\(a s=s\/b s=s)/\Cn a b s y
theorem ot{x k y:Nat}:y∈wks a b x k↔∃ i,i<=k/\wk a b x i=y:=by
 unfold wks
 rw[List.mem_map]
 constructor
 ·rintro⟨i,hi,e⟩
  exact⟨i,by have:=List.mem_range.mp hi;lia,e⟩
 ·rintro⟨i,hi,e⟩
  exact⟨i,List.mem_range.mpr (by lia),e⟩
theorem nZ{fr:Nat}(T:Two m a b)(hr:∀ x:Nat,x<m->∃ k,k<m/\Stp a b x k/\(∀ j,j<k->¬ Stp a b x j)/\cl fr [A,B,.int (x:Nat)]=some (.lst (L (wks a b x k)))){x:Nat}(hx:x<m)(h:a x=x\/∀ y,Cn a b x y->a y≠y/\b y≠y) :
  ∃ ps:List Nat,(∀ p∈ps,p<m)/\(∀ y,y∈ps↔Cn a b x y)/\cl fr [A,B,.int (x:Nat)]=some (.lst (L ps)):=by
 obtain⟨k,_,st,hs,e⟩:=hr x hx
 refine⟨_,fun p hp=>?_,fun y=>?_,e⟩
 ·obtain⟨i,_,rfl⟩:=ot.mp hp
  exact fR T hx i
 ·rw[ot]
  exact⟨fun⟨i,_,e⟩=>e▸jH i,fun hy=>kZ T hx st hs h hy⟩
theorem sF{fm fr:Nat}(T:Two m a b)(hm:m<=1000)(lA:biV .len A=some (.int (m:Nat)))
 (hA:∀ x:Nat,x<m->ixV A (.int (x:Nat))=some (.int (a x:Nat)))(hB:∀ x:Nat,x<m->ixV B (.int (x:Nat))=some (.int (b x:Nat)))
 (hr:∀ x:Nat,x<m->∃ k,k<m/\Stp a b x k/\(∀ j,j<k->¬ Stp a b x j)/\cl fr [A,B,.int (x:Nat)]=some (.lst (L (wks a b x k))))
 (hr':∀ x:Nat,x<m->∃ k,k<m/\Stp b a x k/\(∀ j,j<k->¬ Stp b a x j)/\cl fr [B,A,.int (x:Nat)]=some (.lst (L (wks b a x k))))
 (hk:∀ (s:List Bool) (P:Nat->Prop) (ps:List Nat),Sn m s P->(∀ p∈ps,p<m)->∃ s',Sn m s' (fun y=>P y\/y∈ps)/\cl fm [.lst (BL s),.lst (L ps)]=some (.tup [.non,.lst (BL s')])) :
  ∃ S:List Nat,cn m a b S/\evF cl (jC fm fr) [A,B]=some (.int (S.length:Nat)):=by
 have e1:=cj (n:=m) hm
 obtain⟨σ1,l1,s1,o1,rfl,hs1⟩:=cJ (f:=af cl [2] (iG fm fr)) (tg:=[3]) (xs:=List.range m) (σ:=[some A,some B,some (.lst (BL (List.replicate m false))),none,none]) (fun u σ=>∃ (s:List Bool) (o:Option D),σ=[some A,some B,some (.lst (BL s)),o,none]/\Sn m s fun y=>∃ x,x∈u/\(a x=x\/b x=x)/\Cn a b x y)
  ⟨_,none,rfl,by simp,fun y hy=>by
   simp[List.getElem?_replicate,hy]⟩ (by
  rintro u x v σ hu ⟨s,o,rfl,hs⟩
  have hx:x<m:=by
   have:x∈List.range m:=by rw[hu];simp
   simpa using this
  show ∃ σ2,af cl [2] (iG fm fr) [some A,some B,some (.lst (BL s)),some (.int (x:Nat)),none]=some (.nx,σ2)/\_
  obtain⟨s2,hs2,k2⟩:∃ s2,Sn m s2 (fun y=>(∃ x,x∈u/\(a x=x\/b x=x)/\Cn a b x y)\/(a x=x/\Cn a b x y))/\∀ (r:Ss) (res:Option (Out × St)),af cl [2] r [some A,some B,some (.lst (BL s2)),some (.int (x:Nat)),none]=res->af cl [2] (.cons (.ife (.cmp .eq (.ix (.var 0) (.var 3)) (.var 3)) (.cons (.mexc fm (.cons (.var 2) (.cons (.call fr (.cons (.var 0) (.cons (.var 1) (.cons (.var 3) .nil)))) .nil)) [0] [2]) .nil) .nil) r) [some A,some B,some (.lst (BL s)),some (.int (x:Nat)),none]=res:=by
   by_cases c:a x=x
   ·obtain⟨ps,p1,p2,p3⟩:=nZ T hr hx (.inl c)
    obtain⟨s',hs',e⟩:=hk s _ ps hs p1
    refine⟨s',hs'.congr fun y _=>by rw[p2];simp[c],fun r res k=>dQ (aI (a8 (b9 (aa rfl) (aa rfl) (hA x hx)) (aa rfl) (by rw[cA,c];simp))) (iX (a6 (aa rfl) (a6 (mj (aa rfl) (aa rfl) (aa rfl) p3) bu)) (by simp[dP,isVar,aQ,D.imm,a9,aK]) e rfl aC) k⟩
   ·refine⟨s,hs.congr fun y _=>by simp[c],fun r res k=>br (aI (a8 (b9 (aa rfl) (aa rfl) (hA x hx)) (aa rfl) (by rw[cA];congr 1;simp;lia))) k⟩
  obtain⟨s3,hs3,k3⟩:∃ s3,Sn m s3 (fun y=>((∃ x,x∈u/\(a x=x\/b x=x)/\Cn a b x y)\/(a x=x/\Cn a b x y))\/(b x=x/\Cn a b x y))/\af cl [2] (.cons (.ife (.cmp .eq (.ix (.var 1) (.var 3)) (.var 3)) (.cons (.mexc fm (.cons (.var 2) (.cons (.call fr (.cons (.var 1) (.cons (.var 0) (.cons (.var 3) .nil)))) .nil)) [0] [2]) .nil) .nil) .nil) [some A,some B,some (.lst (BL s2)),some (.int (x:Nat)),none]=some (.nx,[some A,some B,some (.lst (BL s3)),some (.int (x:Nat)),none]):=by
   by_cases c:b x=x
   ·obtain⟨ps,p1,p2,p3⟩:=nZ T.swap hr' hx (.inl c)
    obtain⟨s',hs',e⟩:=hk s2 _ ps hs2 p1
    refine⟨s',hs'.congr fun y _=>?_,dQ (aI (a8 (b9 (aa rfl) (aa rfl) (hB x hx)) (aa rfl) (by rw[cA,c];simp))) (iX (a6 (aa rfl) (a6 (mj (aa rfl) (aa rfl) (aa rfl) p3) bu)) (by simp[dP,isVar,aQ,D.imm,a9,aK]) e rfl aC) aC⟩
    rw[p2]
    have:Cn b a x y↔Cn a b x y:=⟨Cn.flip,Cn.flip⟩
    simp[c,this]
   ·exact⟨s2,hs2.congr fun y _=>by simp[c],br (aI (a8 (b9 (aa rfl) (aa rfl) (hB x hx)) (aa rfl) (by rw[cA];congr 1;simp;lia))) aC⟩
  refine⟨_,k2 _ _ k3,s3,_,rfl,hs3.congr fun y _=>?_⟩
  constructor
  ·rintro((⟨z,h1,h2,h3⟩ | ⟨h1,h2⟩) | ⟨h1,h2⟩)
   ·exact⟨z,by simp[h1],h2,h3⟩
   ·exact⟨x,by simp,.inl h1,h2⟩
   ·exact⟨x,by simp,.inr h1,h2⟩
  ·rintro⟨z,h1,h2,h3⟩
   rcases List.mem_append.mp h1 with h1 | h1
   ·exact .inl (.inl ⟨z,h1,h2,h3⟩)
   ·have:z=x:=by simpa using h1
    subst this
    rcases h2 with h2 | h2
    ·exact .inl (.inr ⟨h2,h3⟩)
    ·exact .inr ⟨h2,h3⟩)
 have hs1':Sn m s1 (Pth m a b):=hs1.congr fun y _=>⟨fun⟨x,h1,h2,h3⟩=>⟨x,by simpa using h1,h2,h3⟩,fun⟨x,h1,h2,h3⟩=>⟨x,by simpa using h1,h2,h3⟩⟩
 obtain⟨σ2,l2,s2,o2,S,rfl,hs2,c1,c2,c3,c4⟩:=cJ (f:=af cl [2] (iB fm fr)) (tg:=[3]) (xs:=List.range m) (σ:=[some A,some B,some (.lst (BL s1)),o1,some (.int ((([]:List Nat).length:Nat):Int))]) (fun u σ=>∃ (s:List Bool) (o:Option D) (S:List Nat),σ=[some A,some B,some (.lst (BL s)),o,some (.int (S.length:Nat))]/\Sn m s (fun y=>Pth m a b y\/∃ t∈S,Cn a b t y)/\(∀ t∈S,t<m)/\(S.Pairwise fun t t'=>¬ Cn a b t t')/\(∀ t∈S,¬ Pth m a b t)/\∀ y∈u,Pth m a b y\/∃ t∈S,Cn a b t y)
  ⟨s1,o1,[],rfl,hs1'.congr fun y _=>by simp,by simp,.nil,by simp,by simp⟩ (by
  rintro u x v σ hu ⟨s,o,S,rfl,hs,c1,c2,c3,c4⟩
  have hx:x<m:=by
   have:x∈List.range m:=by rw[hu];simp
   simpa using this
  show ∃ σ2,af cl [2] (iB fm fr) [some A,some B,some (.lst (BL s)),some (.int (x:Nat)),some (.int (S.length:Nat))]=some (.nx,σ2)/\_
  obtain⟨w,w1,w2⟩:=By hs hx
  cases w with
  |true=>
   refine⟨_,br (aI (cO (b9 (aa rfl) (aa rfl) w1))) aC,s,_,S,rfl,hs,c1,c2,c3,fun y hy=>?_⟩
   rcases List.mem_append.mp hy with hy | hy
   ·exact c4 y hy
   ·have:y=x:=by simpa using hy
    subst this
    exact w2.mp rfl
  |false=>
   have hn:¬ (Pth m a b x\/∃ t∈S,Cn a b t x):=fun z=>Bool.noConfusion (w2.mpr z)
   have np:¬ Pth m a b x:=fun z=>hn (.inl z)
   have ring:∀ y,Cn a b x y->a y≠y/\b y≠y:=fun y hy=>⟨fun e=>np ⟨y,hy.lt T hx,.inl e,hy.symm T hx⟩,fun e=>np ⟨y,hy.lt T hx,.inr e,hy.symm T hx⟩⟩
   obtain⟨ps,p1,p2,p3⟩:=nZ T hr hx (.inr ring)
   obtain⟨s',hs',e⟩:=hk s _ ps hs p1
   refine⟨_,dQ (aI (cO (b9 (aa rfl) (aa rfl) w1))) (Dh rfl aj bX (iX (a6 (aa rfl) (a6 (mj (aa rfl) (aa rfl) (aa rfl) p3) bu)) (by simp[dP,isVar,aQ,D.imm,a9,aK]) e rfl aC)) aC,s',_,S++[x],by simp;rfl,hs'.congr fun y _=>?_,fun t ht=>?_,?_,fun t ht=>?_,fun y hy=>?_⟩
   ·rw[p2]
    constructor
    ·rintro((h | ⟨t,h1,h2⟩) | h)
     ·exact .inl h
     ·exact .inr ⟨t,by simp[h1],h2⟩
     ·exact .inr ⟨x,by simp,h⟩
    ·rintro(h | ⟨t,h1,h2⟩)
     ·exact .inl (.inl h)
     ·rcases List.mem_append.mp h1 with h1 | h1
      ·exact .inl (.inr ⟨t,h1,h2⟩)
      ·have:t=x:=by simpa using h1
       subst this
       exact .inr h2
   ·rcases List.mem_append.mp ht with ht | ht
    ·exact c1 t ht
    ·have:t=x:=by simpa using ht
     subst this
     exact hx
   ·rw[List.pairwise_append]
    refine⟨c2,by simp,fun t ht t' ht' z=>?_⟩
    have:t'=x:=by simpa using ht'
    subst this
    exact hn (.inr ⟨t,ht,z⟩)
   ·rcases List.mem_append.mp ht with ht | ht
    ·exact c3 t ht
    ·have:t=x:=by simpa using ht
     subst this
     exact np
   ·rcases List.mem_append.mp hy with hy | hy
    ·rcases c4 y hy with h | ⟨t,h1,h2⟩
     ·exact .inl h
     ·exact .inr ⟨t,by simp[h1],h2⟩
    ·have:y=x:=by simpa using hy
     subst this
     exact .inr ⟨y,by simp,.refl⟩)
 refine⟨S,⟨c1,c2,fun t ht y hy=>⟨fun e=>c3 t ht ⟨y,hy.lt T (c1 t ht),.inl e,hy.symm T (c1 t ht)⟩,fun e=>c3 t ht ⟨y,hy.lt T (c1 t ht),.inr e,hy.symm T (c1 t ht)⟩⟩,fun x hx=>c4 x (by simpa using hx)⟩,?_⟩
 have e0:aB .mul (.lst [.bl false]) (.int (m:Nat))=some (.lst (BL (List.replicate m false))):=by
  dsimp only[aB]
  rw[if_pos ⟨by lia,by unfold most;lia,by simp[most];lia⟩]
  simp[BL]
 exact aN rfl rfl (eQ (az (dZ (a6 aj bu)) (aO (aa rfl) lA) e0) (by simp[a9,yc]) (cm (iM (aO (aa rfl) lA) e1) l1 (a7 aj rfl (cm (iM (aO (aa rfl) lA) e1) l2 (aL (aa rfl) rfl)))))
end
noncomputable def jn(n x:Nat):Nat:=if x<n then x else if x<2*n then x+n else if x<3*n then x-n else x
noncomputable def rb(n:Nat)(h l:List Nat)(x:Nat):Nat:=if x<2*n then at' h x else 2*n+at' l (x-2*n)
noncomputable def out(n p:Nat):Nat:=if p<n then p else p+2*n
section
variable{n:Nat}{h l:List Nat}
theorem two(F:Frm n h)(G:Frm n l):Two (4*n) (jn n) (rb n h l):=by
 refine⟨fun x hx=>?_,fun x hx=>?_,fun x hx=>?_,fun x hx=>?_⟩
 ·unfold jn;(repeat' split)<;>lia
 ·unfold rb
  split
  ·have:=F.lt x (by lia);lia
  ·have:=G.lt (x-2*n) (by omega);lia
 ·unfold jn;(repeat' split)<;>lia
 ·unfold rb
  by_cases c:x<2*n
  ·rw[if_pos c,if_pos (F.lt x c),F.inv]
  ·rw[if_neg c,if_neg (by lia),Nat.add_sub_cancel_left,G.inv]
   omega
theorem et(F:Frm n h)(G:Frm n l){x:Nat}(hx:x<4*n):rb n h l x≠x:=by
 unfold rb
 split
 ·rename_i c
  exact F.no x c
 ·have:=G.no (x-2*n) (by omega)
  lia
theorem aZ{p:Nat}(hp:p<2*n):out n p<4*n:=by unfold out;split<;>lia
theorem dS{p:Nat}(hp:p<2*n):jn n (out n p)=out n p:=by unfold out jn;(repeat' split)<;>lia
theorem om{p q:Nat}(e:out n p=out n q)(hp:p<2*n)(hq:q<2*n):p=q:=by unfold out at e;(repeat' split at e)<;>lia
theorem vN{x:Nat}(hx:x<4*n)(e:jn n x=x):∃ p,p<2*n/\x=out n p:=by
 by_cases c:x<n
 ·exact⟨x,by lia,by unfold out;rw[if_pos c]⟩
 ·have:3*n<=x:=by
   unfold jn at e
   (repeat' split at e)<;>lia
  exact⟨x-2*n,by lia,by unfold out;rw[if_neg (by lia)];lia⟩
noncomputable def en2(n:Nat)(s:Bool × Nat):Nat:=if s.1 then s.2 else 2*n+s.2
theorem C0{s:Bool × Nat}(hs:s.2<2*n)(c:s.1=decide (n<=s.2)):en2 n (stp n h l s)=rb n h l (jn n (en2 n s)):=by
 obtain⟨b,q⟩:=s
 unfold stp
 rw[if_pos c]
 dsimp only at c hs ⊢
 rw[c]
 clear c
 by_cases c:n<=q
 ·have e:(q+n)%(2*n)=q-n:=by rw[Nat.mod_eq_sub_mod (by lia),Nat.mod_eq_of_lt (by omega)];lia
  have e2:jn n q=q+n:=by unfold jn;rw[if_neg (by lia),if_pos hs]
  simp only[c,decide_true,Bool.not_true,en2,pick,if_true,Bool.false_eq_true,if_false,e,e2,rb]
  rw[if_neg (by lia),show q+n-2*n=q-n by lia]
 ·have e:(q+n)%(2*n)=q+n:=Nat.mod_eq_of_lt (by lia)
  have e2:jn n (2*n+q)=n+q:=by unfold jn;rw[if_neg (by lia),if_neg (by lia),if_pos (by lia)];lia
  simp only[c,decide_false,Bool.not_false,en2,pick,if_true,Bool.false_eq_true,if_false,e,e2,rb]
  rw[if_pos (by lia),Nat.add_comm]
theorem uV{s:Bool × Nat}(hs:s.2<2*n):s.1=decide (n<=s.2)↔jn n (en2 n s)≠en2 n s:=by
 obtain⟨b,q⟩:=s
 dsimp only at hs
 cases b
 ·simp only[en2,Bool.false_eq_true,if_false]
  by_cases c:n<=q
  ·simp only[c,decide_true,Bool.false_eq_true,false_iff,Classical.not_not]
   unfold jn;rw[if_neg (by lia),if_neg (by lia),if_neg (by lia)]
  ·simp only[c,decide_false,true_iff]
   unfold jn;rw[if_neg (by lia),if_neg (by lia),if_pos (by lia)];lia
 ·simp only[en2,if_true]
  by_cases c:n<=q
  ·simp only[c,decide_true,true_iff]
   unfold jn;rw[if_neg (by lia),if_pos hs];lia
  ·simp only[c,decide_false,Bool.true_eq_false,false_iff,Classical.not_not]
   unfold jn;rw[if_pos (by lia)]
theorem Cu{s:Bool × Nat}(c:¬ s.1=decide (n<=s.2)):stp n h l s=s:=by
 unfold stp
 rw[if_neg c]
theorem C6{p:Nat}(hp:p<2*n):en2 n (beg n h l p)=rb n h l (out n p):=by
 unfold beg en2 rb out pick
 by_cases c:p<n
 ·simp only[c,decide_true,if_true]
  rw[if_pos (by lia)]
 ·simp only[c,decide_false,Bool.false_eq_true,if_false]
  rw[if_neg (by lia),show p+2*n-2*n=p by lia]
theorem jk(F:Frm n h)(G:Frm n l){p k:Nat}(hp:p<2*n)(st:Stp (jn n) (rb n h l) (out n p) k)(hs:∀ j,j<k->¬ Stp (jn n) (rb n h l) (out n p) j) :
  ∀ j,en2 n (itr n h l j (beg n h l p))=wk (jn n) (rb n h l) (out n p) (if 2*j+1<=k then 2*j+1 else k):=by
 have T:=two F G
 obtain⟨k1,k2⟩:=lj T (aZ hp) st hs (fun y hy=>et F G hy) (dS hp)
 have blt:(beg n h l p).2<2*n:=by
  unfold beg pick
  dsimp only
  split
  ·exact F.lt p hp
  ·exact G.lt p hp
 intro j
 induction j with
 |zero=>
  rw[if_pos (by lia)]
  show en2 n (beg n h l p)=_
  rw[C6 hp]
  exact(dC (k:=0) rfl).symm
 |succ j ih=>
  have hl:=gZ (fun x hx=>F.lt x hx) (fun x hx=>G.lt x hx) (h:=h) (l:=l) blt j
  show en2 n (stp n h l (itr n h l j (beg n h l p)))=_
  by_cases c:2*(j+1)+1<=k
  ·rw[if_pos (by lia)]at ih
   rw[if_pos c]
   have ne:jn n (en2 n (itr n h l j (beg n h l p)))≠en2 n (itr n h l j (beg n h l p)):=by
    rw[ih]
    intro e
    exact hs (2*j+1) (by lia) (.inl (by rw[fP (by lia)];exact e))
   rw[C0 hl ((uV hl).mpr ne),ih,<-fP (a:=jn n) (b:=rb n h l) (x:=out n p) (k:=2*j+1) (by lia),<-dC (a:=jn n) (b:=rb n h l) (x:=out n p) (k:=2*j+1+1) (by lia)]
   congr 1
  ·rw[if_neg c]
   have e:(if 2*j+1<=k then 2*j+1 else k)=k:=by split<;>lia
   rw[e]at ih
   rw[Cu (fun z=>(uV hl).mp z (by rw[ih];exact k2)),ih]
theorem dG:(ay n h l).length=2*n:=by simp[ay]
theorem mB{p:Nat}(hp:p<2*n):at' (ay n h l) p=(itr n h l (4*n) (beg n h l p)).2:=by simp[ay,at',hp]
theorem kh(F:Frm n h)(G:Frm n l){p k:Nat}(hp:p<2*n)(hk:k<4*n)(st:Stp (jn n) (rb n h l) (out n p) k)(hs:∀ j,j<k->¬ Stp (jn n) (rb n h l) (out n p) j) :
  at' (ay n h l) p<2*n/\wk (jn n) (rb n h l) (out n p) k=out n (at' (ay n h l) p):=by
 have T:=two F G
 obtain⟨k1,k2⟩:=lj T (aZ hp) st hs (fun y hy=>et F G hy) (dS hp)
 have w:=jk F G hp st hs (4*n)
 rw[show(if 2*(4*n)+1<=k then 2*(4*n)+1 else k)=k by split<;>lia]at w
 rw[mB hp]
 have blt:(beg n h l p).2<2*n:=by
  unfold beg pick
  dsimp only
  split
  ·exact F.lt p hp
  ·exact G.lt p hp
 have hl:=gZ (fun x hx=>F.lt x hx) (fun x hx=>G.lt x hx) (h:=h) (l:=l) blt (4*n)
 refine⟨hl,?_⟩
 rw[<-w]
 have no:¬ (itr n h l (4*n) (beg n h l p)).1=decide (n<=(itr n h l (4*n) (beg n h l p)).2):=fun z=>(uV hl).mp z (by rw[w];exact k2)
 generalize itr n h l (4*n) (beg n h l p)=s at *
 obtain⟨b,q⟩:=s
 unfold en2 out
 dsimp only at no hl ⊢
 cases b
 ·rw[if_neg (by decide)]
  have:¬ q<n:=fun c=>no (by simp[show ¬ n<=q by lia])
  rw[if_neg this];lia
 ·rw[if_pos rfl]
  have:q<n:=by
   apply Classical.byContradiction
   intro c
   exact no (by simp[show n<=q by lia])
  rw[if_pos this]
theorem found_iff(F:Frm n h)(G:Frm n l){p q:Nat}(hp:p<2*n)(hq:q<2*n)(ne:p≠q):at' (ay n h l) p=q↔Cn (jn n) (rb n h l) (out n p) (out n q):=by
 have T:=two F G
 obtain⟨k,hk,st,hs⟩:=f7 T (aZ hp)
 obtain⟨e1,e2⟩:=kh F G hp hk st hs
 constructor
 ·intro e
  rw[<-e,<-e2]
  exact jH k
 ·intro c
  obtain⟨i,hi,e⟩:=kZ T (aZ hp) st hs (.inl (dS hp)) c
  have fx:jn n (wk (jn n) (rb n h l) (out n p) i)=wk (jn n) (rb n h l) (out n p) i:=by rw[e];exact dS hq
  have ik:i=k:=by
   apply Classical.byContradiction
   intro z
   have i0:i≠0:=fun z=>by
    subst z
    exact ne (om e hp hq)
   by_cases c:i%2=1
   ·exact hs i (by lia) (.inl (by rw[fP c];exact fx))
   ·have:=iJ T (aZ hp) (i-1)
    rw[show i-1+1=i by lia,if_neg (by lia),fx]at this
    exact hs (i-1) (by lia) (.inl (by rw[show i-1+1=i by lia];exact this))
  subst ik
  rw[e2]at e
  exact(om e e1 hq)
theorem cS(F:Frm n h)(G:Frm n l):Frm n (ay n h l):=by
 have T:=two F G
 have lt:∀ p,p<2*n->at' (ay n h l) p<2*n/\at' (ay n h l) p≠p:=fun p hp=>by
  obtain⟨k,hk,st,hs⟩:=f7 T (aZ hp)
  obtain⟨e1,e2⟩:=kh F G hp hk st hs
  obtain⟨k1,k2⟩:=lj T (aZ hp) st hs (fun y hy=>et F G hy) (dS hp)
  refine⟨e1,fun e=>?_⟩
  rw[e]at e2
  exact lH T (aZ hp) hs (i:=0) (j:=k) (by lia) (Nat.le_refl _) e2.symm
 refine⟨dG,fun p hp=>(lt p hp).1,fun p=>?_,fun p hp=>(lt p hp).2⟩
 by_cases hp:p<2*n
 ·obtain⟨l1,l2⟩:=lt p hp
  have c:=(found_iff F G hp l1 (Ne.symm l2)).mp rfl
  exact(found_iff F G l1 hp l2).mpr (c.symm T (aZ hp))
 ·rw[di (f:=ay n h l) (x:=p) (by rw[dG];lia),di (by rw[dG];lia)]
end
section
variable{cl:Cl}{n:Nat}{h l:List Nat}
theorem oX{β:Type}{σ:St}{e:E}{i:Nat}{u g:β->D}(im:∀ x,(g x).imm=true)(xs:List β)(h:∀ x∈xs,ev cl (σ.set i (some (u x))) e=some (g x)):bW (fun σ1=>(ev cl σ1 e).map some) [i] σ (xs.map u)=some (xs.map g) :=
 eR im xs fun x hx=>by
  show Option.map some (ev cl (σ.set i (some (u x))) e)=_
  rw[h x hx]
  rfl
theorem oS{σ:St}{e:E}{i:Nat}{g:Nat->D}(im:∀ x,(g x).imm=true)(xs:List Nat)(h:∀ x∈xs,ev cl (σ.set i (some (.int (x:Nat)))) e=some (g x)):bW (fun σ1=>(ev cl σ1 e).map some) [i] σ (L xs)=some (xs.map g) :=
 oX im xs h
noncomputable def jL(n:Nat):List Nat:=List.range n++List.range' (2*n) n++List.range' n n++List.range' (3*n) n
noncomputable def rbL(n:Nat)(h l:List Nat):List Nat:=h++l.map fun x=>2*n+x
theorem xU:(jL n).length=4*n:=by simp[jL];lia
theorem DQ{x:Nat}(hx:x<4*n):(jL n)[x]?=some (jn n x):=by
 unfold jL jn
 by_cases c1:x<n
 ·rw[if_pos c1,List.append_assoc,List.append_assoc,List.getElem?_append_left (by simpa using c1),List.getElem?_range c1]
 ·rw[if_neg c1]
  by_cases c2:x<2*n
  ·rw[if_pos c2,List.append_assoc,List.append_assoc,List.getElem?_append_right (by simp;lia),List.length_range,List.getElem?_append_left (by simp;omega),List.getElem?_range' (by omega)]
   congr 1;lia
  ·rw[if_neg c2]
   by_cases c3:x<3*n
   ·rw[if_pos c3,List.getElem?_append_left (by simp;lia),List.getElem?_append_right (by simp;lia)]
    simp only[List.length_append,List.length_range,List.length_range']
    rw[List.getElem?_range' (by omega)]
    congr 1;lia
   ·rw[if_neg c3,List.getElem?_append_right (by simp;lia)]
    simp only[List.length_append,List.length_range,List.length_range']
    rw[List.getElem?_range' (by omega)]
    congr 1;lia
theorem FD{x:Nat}(hx:x<4*n):at' (jL n) x=jn n x:=by
 unfold at'
 rw[DQ hx]
 rfl
theorem uf(F:Frm n h)(G:Frm n l):(rbL n h l).length=4*n:=by simp[rbL,F.len,G.len];lia
theorem Dm(F:Frm n h)(G:Frm n l){x:Nat}(hx:x<4*n):at' (rbL n h l) x=rb n h l x:=by
 unfold rb rbL
 by_cases c:x<2*n
 ·rw[if_pos c]
  unfold at'
  rw[List.getElem?_append_left (by rw[F.len];exact c)]
 ·rw[if_neg c]
  unfold at'
  rw[List.getElem?_append_right (by rw[F.len];lia),F.len,List.getElem?_map]
  have:x-2*n<l.length:=by rw[G.len];omega
  simp[this]
theorem wH{f:List Nat}{x:Nat}(hx:x<f.length):ixV (.lst (L f)) (.int (x:Nat))=some (.int (at' f x:Nat)):=by
 show cB (L f) (x:Int)=_
 rw[fJ,ql,fI hx]
 rfl
theorem gA{k:Nat}(hk:k<100)(n:Nat):aB .mul (.int (k:Nat)) (.int (n:Nat))=some (.int ((k*n:Nat):Int)):=by
 rw[bM (by lia) (by lia)]
 simp
theorem vi(hn:n<=10):evF cl eC [.int (n:Nat)]=some (.lst (L (jL n))):=by
 have a1:=cj (n:=n) (by lia)
 have a2:=cT (a:=n) (b:=2*n) (by lia) (by lia)
 have a3:=cT (a:=2*n) (b:=3*n) (by lia) (by lia)
 have a4:=cT (a:=3*n) (b:=4*n) (by lia) (by lia)
 rw[show 2*n-n=n by lia]at a2
 rw[show 3*n-2*n=n by lia]at a3
 rw[show 4*n-3*n=n by lia]at a4
 have ad:∀ xs ys:List Nat,xs.length+ys.length<=1000->aB .add (.lst (L xs)) (.lst (L ys))=some (.lst (L (xs++ys))):=fun xs ys hl=>by
  show(if(L xs).length+(L ys).length<=most then some (D.lst (L xs++L ys))else none)=_
  rw[if_pos (by rw[aF,aF];unfold most;lia),cN]
 have im:∀ (e:E) (xs:List Nat),aG e=true->aQ [] e (.lst (L xs))=true:=fun e xs ht=>by simp[aQ,D.imm,a9,aK,ht]
 refine aN rfl rfl (a7 (uv (aa rfl) a1) (im _ _ rfl) (a7 (lB (aa rfl) (az aj (aa rfl) (gA (k:=2) (by decide) n)) a2) (im _ _ rfl) (a7 (lB (az aj (aa rfl) (gA (k:=2) (by decide) n)) (az aj (aa rfl) (gA (k:=3) (by decide) n)) a3) (im _ _ rfl) (a7 (lB (az aj (aa rfl) (gA (k:=3) (by decide) n)) (az aj (aa rfl) (gA (k:=4) (by decide) n)) a4) (im _ _ rfl) (aL (d:=.lst (L (jL n))) (az (az (az (aa rfl) (aa rfl) (ad _ _ ?_)) (aa rfl) (ad _ _ ?_)) (aa rfl) (ad _ _ ?_)) ?_)))))
 ·simp;lia
 ·simp;lia
 ·simp;lia
 ·simp[aS,a9,aK]
theorem pT{fg fr fj fo:Nat}{r:Nat}(h1:1<=n)(hn:n<=10)(F:Frm n h)(G:Frm n l)(ho:cl fo [.tup (L h)]=some (.int (n:Nat)))(hj:cl fj [.int (n:Nat)]=some (.lst (L (jL n))))
 (hr:∀ x:Nat,x<4*n->∃ k,k<4*n/\Stp (jn n) (rb n h l) x k/\(∀ j,j<k->¬ Stp (jn n) (rb n h l) x j)/\cl fr [.lst (L (jL n)),.lst (L (rbL n h l)),.int (x:Nat)]=some (.lst (L (wks (jn n) (rb n h l) x k))))
 (hg:cl fg [.lst (L (jL n)),.lst (L (rbL n h l))]=some (.int (r:Nat))):evF cl (iA fg fr fj fo) [.tup (L h),.tup (L l)]=some (.tup [.tup (L (ay n h l)),.int (r:Nat)]):=by
 have lm:∀ xs:List Nat,xs.length<=1000->(L xs).length<=most:=fun xs hl=>by rw[aF];unfold most;lia
 have ad:∀ xs ys:List Nat,xs.length+ys.length<=1000->aB .add (.lst (L xs)) (.lst (L ys))=some (.lst (L (xs++ys))):=fun xs ys hl=>by
  show(if(L xs).length+(L ys).length<=most then some (D.lst (L xs++L ys))else none)=_
  rw[if_pos (by rw[aF,aF];unfold most;lia),cN]
 have im:∀ (e:E) (xs:List Nat),aG e=true->aQ [] e (.lst (L xs))=true:=fun e xs ht=>by simp[aQ,D.imm,a9,aK,ht]
 have a1:=cj (n:=n) (by lia)
 have a4:=cT (a:=3*n) (b:=4*n) (by lia) (by lia)
 rw[show 4*n-3*n=n by lia]at a4
 have oL:List.range n++List.range' (3*n) n=(List.range (2*n)).map (out n):=by
  rw[show 2*n=n+n by lia,List.range_add,List.map_append]
  congr 1
  ·rw[<-List.map_id (List.range n),List.map_map]
   refine List.map_congr_left fun p hp=>?_
   unfold out
   rw[Function.comp,id,if_pos (List.mem_range.mp hp)]
  ·rw[List.range'_eq_map_range,List.map_map]
   refine List.map_congr_left fun p hp=>?_
   unfold out
   simp only[Function.comp]
   rw[if_neg (by lia)]
   lia
 have l4:(rbL n h l).length<=1000:=by rw[uf F G];lia
 have c1:bW (fun σ1=>(ev cl σ1 (.bin .add (.bin .mul (.cst (.int 2)) (.var 2)) (.var 8))).map some) [8] [some (.tup (L h)),some (.tup (L l)),some (.int (n:Nat)),none,none,none,none,none,none,none] (L l)=some (L (l.map fun x=>2*n+x)):=by
  rw[oS (g:=fun x=>.int ((2*n+x:Nat):Int)) (fun _=>rfl),uW]
  exact fun x _=>az (az aj (aa rfl) (gA (k:=2) (by decide) n)) (aa rfl) (show aB .add (.int ((2*n:Nat):Int)) (.int (x:Nat))=some (.int ((2*n+x:Nat):Int)) by rw[bX];simp)
 have c2:bW (fun σ1=>(ev cl σ1 (.ix (.call fr (.cons (.var 4) (.cons (.var 3) (.cons (.var 8) .nil)))) (.neg (.cst (.int 1))))).map some) [8] [some (.tup (L h)),some (.tup (L l)),some (.int (n:Nat)),some (.lst (L (rbL n h l))),some (.lst (L (jL n))),some (.lst (L ((List.range (2*n)).map (out n)))),none,none,none,none] (L ((List.range (2*n)).map (out n)))=some (L ((List.range (2*n)).map fun p=>out n (at' (ay n h l) p))):=by
  have e:L ((List.range (2*n)).map (out n))=(List.range (2*n)).map fun p=>D.int (out n p:Nat):=by simp[L]
  rw[e,oX (g:=fun p=>.int ((out n (at' (ay n h l) p):Nat):Int)) (fun _=>rfl)]
  ·simp[L]
  ·intro p hp
   rw[List.mem_range]at hp
   obtain⟨k,k1,k2,k3,k4⟩:=hr (out n p) (aZ hp)
   obtain⟨e1,e2⟩:=kh F G hp k1 k2 k3
   rw[<-e2]
   exact b9 (mj (aa rfl) (aa rfl) (aa rfl) k4) E9 (rR k)
 have c3:bW (fun σ1=>(ev cl σ1 (.ifx (.cmp .lt (.var 9) (.var 2)) (.var 9) (.bin .sub (.var 9) (.bin .mul (.cst (.int 2)) (.var 2))))).map some) [9] [some (.tup (L h)),some (.tup (L l)),some (.int (n:Nat)),some (.lst (L (rbL n h l))),some (.lst (L (jL n))),some (.lst (L ((List.range (2*n)).map (out n)))),some (.lst (L ((List.range (2*n)).map fun p=>out n (at' (ay n h l) p)))),none,none,none] (L ((List.range (2*n)).map fun p=>out n (at' (ay n h l) p)))=some (L (ay n h l)):=by
  have e:L ((List.range (2*n)).map fun p=>out n (at' (ay n h l) p))=(List.range (2*n)).map fun p=>D.int (out n (at' (ay n h l) p):Nat):=by simp[L]
  have e':ay n h l=(List.range (2*n)).map (at' (ay n h l)):=eZ dG (by simp) fun x hx=>by simp[at',hx]
  have FF:=cS F G
  rw[e,oX (g:=fun p=>.int ((at' (ay n h l) p:Nat):Int)) (fun _=>rfl)]
  ·conv=>rhs;rw[e']
   simp[L]
  ·intro p hp
   rw[List.mem_range]at hp
   have hl:=FF.lt p hp
   by_cases c:at' (ay n h l) p<n
   ·have eo:out n (at' (ay n h l) p)=at' (ay n h l) p:=by unfold out;rw[if_pos c]
    have v:∀ {σ:St},(σ[9]?).bind id=some (D.int (out n (at' (ay n h l) p):Nat))->ev cl σ (.var 9)=some (.int (at' (ay n h l) p:Nat)):=fun h=>by rw[aa h,eo]
    exact kY (k:=true) (aI (a8 (aa rfl) (aa rfl) (by rw[c6,decide_eq_true (by lia)]))) (v rfl)
   ·have eo:out n (at' (ay n h l) p)=at' (ay n h l) p+2*n:=by unfold out;rw[if_neg c]
    exact kY (k:=false) (aI (a8 (aa rfl) (aa rfl) (by rw[c6,decide_eq_false (by lia)]))) (az (aa rfl) (az aj (aa rfl) (gA (k:=2) (by decide) n)) (by rw[j0,eo];congr 2;lia))
 have ll:(L l).length<=most:=lm l (by rw[G.len];lia)
 exact aN rfl rfl (a7 (b8 (aa rfl) ho) rfl (a7 (d:=.lst (L (rbL n h l))) (az (aO (aa rfl) rfl) (cb (cK (aa rfl) rfl) ll c1) (ad _ _ (by simp[F.len,G.len];lia))) (im _ _ rfl) (a7 (b8 (aa rfl) hj) (im _ _ rfl) (a7 (d:=.lst (L ((List.range (2*n)).map (out n)))) (az (uv (aa rfl) a1) (lB (az aj (aa rfl) (gA (k:=3) (by decide) n)) (az aj (aa rfl) (gA (k:=4) (by decide) n)) a4) (by rw[ad _ _ (by simp;lia),oL])) (im _ _ rfl) (a7 (cb (cK (aa rfl) rfl) (lm _ (by simp;lia)) c2) (im _ _ rfl) (a7 (aO (cb (cK (aa rfl) rfl) (lm _ (by simp;lia)) c3) rfl) (by simp[aQ,D.imm,aK]) (aL (gz (a6 (aa rfl) (a6 (c9 (aa rfl) (aa rfl) hg) bu))) (by simp[aS,D.imm,aq,aK]))))))))
end
section
variable{n:Nat}{h l:List Nat}
theorem Pth.step(h:Pth m a b x)(c:Cn a b x y):Pth m a b y:=by
 obtain⟨s,h1,h2,h3⟩:=h
 exact⟨s,h1,h2,h3.trans c⟩
theorem m7{m:Nat}(hm:m<n):jn n (n+m)=2*n+m:=by unfold jn;rw[if_neg (by lia),if_pos (by lia)];lia
theorem qS{m:Nat}(hm:m<n):jn n (2*n+m)=n+m:=by unfold jn;rw[if_neg (by lia),if_neg (by lia),if_pos (by lia)];lia
theorem vf{a b:Nat->Nat}{x y:Nat}(e:a x=y):Cn a b x y:=by rw[<-e];exact .sa .refl
theorem A2{a b:Nat->Nat}{x y:Nat}(e:b x=y):Cn a b x y:=by rw[<-e];exact .sb .refl
theorem rM(F:Frm n h)(G:Frm n l){m:Nat}(hm:m<n):Gn n h l (2*n) m↔Pth (4*n) (jn n) (rb n h l) (n+m):=by
 have T:=two F G
 constructor
 ·rintro⟨p,hp,j,hj,t1,t2⟩
  obtain⟨k,hk,st,hs⟩:=f7 T (aZ hp)
  have w:=jk F G hp st hs j
  refine⟨out n p,aZ hp,.inl (dS hp),?_⟩
  have c:Cn (jn n) (rb n h l) (out n p) (en2 n (itr n h l j (beg n h l p))):=by rw[w];exact jH _
  have blt:(beg n h l p).2<2*n:=by
   unfold beg pick
   dsimp only
   split
   ·exact F.lt p hp
   ·exact G.lt p hp
  have hl:=gZ (fun x hx=>F.lt x hx) (fun x hx=>G.lt x hx) (h:=h) (l:=l) blt j
  generalize itr n h l j (beg n h l p)=s at *
  obtain⟨b,q⟩:=s
  dsimp only at t1 t2 hl
  unfold en2 at c
  cases b
  ·simp only[Bool.false_eq_true,if_false]at c
   have:q<n:=by
    apply Classical.byContradiction
    intro z
    rw[decide_eq_true (by lia)]at t1
    cases t1
   rw[Nat.mod_eq_of_lt this]at t2
   subst t2
   have:=Cn.sa c
   rw[qS hm]at this
   exact this
  ·rw[if_pos rfl]at c
   have:n<=q:=of_decide_eq_true t1.symm
   rw[Nat.mod_eq_sub_mod this,Nat.mod_eq_of_lt (by lia)]at t2
   rw[show n+m=q by lia]
   exact c
 ·rintro⟨s,h1,h2,h3⟩
  have h2:jn n s=s:=h2.resolve_right (et F G h1)
  obtain⟨p,hp,rfl⟩:=vN h1 h2
  obtain⟨k,hk,st,hs⟩:=f7 T (aZ hp)
  obtain⟨k1,k2⟩:=lj T (aZ hp) st hs (fun y hy=>et F G hy) (dS hp)
  obtain⟨i,hi,e⟩:=kZ T (aZ hp) st hs (.inl (dS hp)) h3
  have na:=m7 hm
  have i0:i≠0:=fun z=>by
   subst z
   have:=dS hp
   rw[show out n p=n+m from e,na]at this
   lia
  have ik:i≠k:=fun z=>by
   subst z
   rw[e,na]at k2
   lia
  have blt:(beg n h l p).2<2*n:=by
   unfold beg pick
   dsimp only
   split
   ·exact F.lt p hp
   ·exact G.lt p hp
  by_cases c:i%2=1
  ·obtain⟨j,rfl⟩:∃ j,i=2*j+1:=⟨i / 2,by lia⟩
   have w:=jk F G hp st hs j
   rw[if_pos hi,e]at w
   have hl:=gZ (fun x hx=>F.lt x hx) (fun x hx=>G.lt x hx) (h:=h) (l:=l) blt j
   refine⟨p,hp,j,by lia,?_⟩
   unfold Tr
   generalize itr n h l j (beg n h l p)=s at *
   obtain⟨b,q⟩:=s
   unfold en2 at w
   dsimp only at w hl ⊢
   cases b
   ·rw[if_neg (by decide)]at w;lia
   ·rw[if_pos rfl]at w
    subst w
    exact⟨(decide_eq_true (by lia)).symm,by rw[Nat.mod_eq_sub_mod (by lia),Nat.mod_eq_of_lt (by lia)];lia⟩
  ·obtain⟨j,rfl⟩:∃ j,i=2*j+1+1:=⟨i / 2-1,by lia⟩
   have w:=jk F G hp st hs j
   rw[fP (by lia)]at e
   have e':wk (jn n) (rb n h l) (out n p) (2*j+1)=2*n+m:=by
    have:=congrArg (jn n) e
    rw[T.ai _ (fR T (aZ hp) _),na]at this
    exact this
   rw[if_pos (by lia),e']at w
   have hl:=gZ (fun x hx=>F.lt x hx) (fun x hx=>G.lt x hx) (h:=h) (l:=l) blt j
   refine⟨p,hp,j,by lia,?_⟩
   unfold Tr
   generalize itr n h l j (beg n h l p)=s at *
   obtain⟨b,q⟩:=s
   unfold en2 at w
   dsimp only at w hl ⊢
   cases b
   ·rw[if_neg (by decide)]at w
    have:q=m:=by lia
    subst this
    exact⟨(decide_eq_false (by lia)).symm,Nat.mod_eq_of_lt hm⟩
   ·rw[if_pos rfl]at w;lia
theorem lZ(F:Frm n h)(G:Frm n l){x:Nat}(hx:x<4*n)(np:¬ Pth (4*n) (jn n) (rb n h l) x):∃ m,m<n/\(x=n+m\/x=2*n+m)/\¬ Pth (4*n) (jn n) (rb n h l) (n+m):=by
 have no:jn n x≠x:=fun e=>np ⟨x,hx,.inl e,.refl⟩
 by_cases c:x<2*n
 ·have:n<=x:=by
   apply Classical.byContradiction
   intro z
   exact no (by unfold jn;rw[if_pos (by lia)])
  exact⟨x-n,by omega,.inl (by lia),by rw[show n+(x-n)=x by lia];exact np⟩
 ·have:x<3*n:=by
   apply Classical.byContradiction
   intro z
   exact no (by unfold jn;rw[if_neg (by lia),if_neg (by lia),if_neg (by lia)])
  refine⟨x-2*n,by omega,.inr (by lia),fun z=>np (z.step ?_)⟩
  have:=m7 (n:=n) (m:=x-2*n) (by omega)
  rw[show 2*n+(x-2*n)=x by lia]at this
  exact vf this
theorem rV(F:Frm n h)(G:Frm n l){m:Nat}(hm:m<n)(np:¬ Pth (4*n) (jn n) (rb n h l) (n+m)):at' l m<n/\¬ Pth (4*n) (jn n) (rb n h l) (n+at' l m)/\Cn (jn n) (rb n h l) (n+m) (n+at' l m):=by
 have T:=two F G
 have hl:=G.lt m (by lia)
 have e:rb n h l (2*n+m)=2*n+at' l m:=by unfold rb;rw[if_neg (by lia),show 2*n+m-2*n=m by lia]
 have c:Cn (jn n) (rb n h l) (n+m) (2*n+at' l m):=(vf (m7 hm)).trans (A2 e)
 have np':¬ Pth (4*n) (jn n) (rb n h l) (2*n+at' l m):=fun z=>np (z.step (c.symm T (by lia)))
 obtain⟨j,hj,e1 | e1,e2⟩:=lZ F G (by lia) np'
 ·lia
 ·have:at' l m=j:=by lia
  rw[this]
  refine⟨hj,e2,?_⟩
  rw[this]at c
  have:=Cn.sa c
  rw[qS hj]at this
  exact this
theorem pI(F:Frm n h)(G:Frm n l){m:Nat}(hm:m<n)(np:¬ Pth (4*n) (jn n) (rb n h l) (n+m)):∃ j,j<n/\at' h (n+m)=n+j/\¬ Pth (4*n) (jn n) (rb n h l) (n+j)/\Cn (jn n) (rb n h l) (n+m) (n+j):=by
 have T:=two F G
 have hl:=F.lt (n+m) (by lia)
 have e:rb n h l (n+m)=at' h (n+m):=by unfold rb;rw[if_pos (by lia)]
 have c:Cn (jn n) (rb n h l) (n+m) (at' h (n+m)):=A2 e
 have np':¬ Pth (4*n) (jn n) (rb n h l) (at' h (n+m)):=fun z=>np (z.step (c.symm T (by lia)))
 obtain⟨j,hj,e1 | e1,e2⟩:=lZ F G (by lia) np'
 ·exact⟨j,hj,e1,e2,by rw[<-e1];exact c⟩
 ·lia
theorem y9(F:Frm n h)(G:Frm n l){inner:List Nat}(hin:∀ m,m∈inner↔m<n/\¬ Pth (4*n) (jn n) (rb n h l) (n+m)){f:Nat->Int}
 (f1:∀ x∈inner,∀ y∈inner,f x=f y->Cn (jn n) (rb n h l) (n+x) (n+y))(f2:∀ m∈inner,f (at' l m)=f m)(f3:∀ m∈inner,∀ j,at' h (n+m)=n+j->f j=f m) :
  ∃ S,cn (4*n) (jn n) (rb n h l) S/\(iS (inner.map f)).length=S.length:=by
 have T:=two F G
 have f4:∀ x∈inner,∀ z,Cn (jn n) (rb n h l) (n+x) z->∃ m∈inner,(z=n+m\/z=2*n+m)/\f m=f x:=by
  intro x hx z c
  induction c with
  | refl=>exact⟨x,hx,.inl rfl,rfl⟩
  |sa _ ih=>
   obtain⟨m,hm,e | e,ef⟩:=ih
   ·exact⟨m,hm,.inr (by rw[e,m7 ((hin m).mp hm).1]),ef⟩
   ·exact⟨m,hm,.inl (by rw[e,qS ((hin m).mp hm).1]),ef⟩
  |sb _ ih=>
   obtain⟨m,hm,e | e,ef⟩:=ih
   ·have mn:=((hin m).mp hm).1
    obtain⟨j,h1,h2,h3,_⟩:=pI F G ((hin m).mp hm).1 ((hin m).mp hm).2
    exact⟨j,(hin j).mpr ⟨h1,h3⟩,.inl (by rw[e];unfold rb;rw[if_pos (by lia),h2]),by rw[f3 m hm j h2,ef]⟩
   ·obtain⟨h1,h2,_⟩:=rV F G ((hin m).mp hm).1 ((hin m).mp hm).2
    exact⟨at' l m,(hin _).mpr ⟨h1,h2⟩,.inr (by rw[e];unfold rb;rw[if_neg (by lia),show 2*n+m-2*n=m by lia]),by rw[f2 m hm,ef]⟩
 have jZ:∀ xs:List Nat,∃ R:List Nat,(∀ r∈R,r∈xs)/\R.map f=iS (xs.map f)/\(R.Pairwise fun r t=>f r≠f t)/\∀ x∈xs,∃ r∈R,f r=f x:=by
  intro xs
  suffices H:∀ (ys:List Nat) (R:List Nat) (done:List Nat),(∀ r∈R,r∈done)->(R.Pairwise fun r t=>f r≠f t)->(∀ x∈done,∃ r∈R,f r=f x)->∃ R':List Nat,(∀ r∈R',r∈done++ys)/\R'.map f=(ys.map f).foldl (fun m k=>if m.any (· == k)then m else m++[k]) (R.map f)/\(R'.Pairwise fun r t=>f r≠f t)/\∀ x∈done++ys,∃ r∈R',f r=f x by
   obtain⟨R,h1,h2,h3,h4⟩:=H xs [] [] (by simp) .nil (by simp)
   exact⟨R,by simpa using h1,h2,h3,by simpa using h4⟩
  intro ys
  induction ys with
  | nil=>intro R done h1 h2 h3;exact⟨R,by simpa using h1,rfl,h2,by simpa using h3⟩
  |cons y ys ih=>
   intro R done h1 h2 h3
   by_cases c:(R.map f).any (· == f y)=true
   ·obtain⟨R',g1,g2,g3,g4⟩:=ih R (done++[y]) (fun r hr=>by simp[h1 r hr]) h2 (fun x hx=>by
     rcases List.mem_append.mp hx with hx | hx
     ·exact h3 x hx
     ·have:x=y:=by simpa using hx
      subst this
      simpa using c)
    exact⟨R',by simpa using g1,by rw[List.map_cons,List.foldl_cons,if_pos c];exact g2,g3,by simpa using g4⟩
   ·obtain⟨R',g1,g2,g3,g4⟩:=ih (R++[y]) (done++[y]) (fun r hr=>by
     rcases List.mem_append.mp hr with hr | hr
     ·simp[h1 r hr]
     ·simp at hr;simp[hr]) (by
     rw[List.pairwise_append]
     refine⟨h2,by simp,fun r hr t ht e=>c ?_⟩
     have:t=y:=by simpa using ht
     subst this
     simpa using⟨r,hr,e⟩) (fun x hx=>by
     rcases List.mem_append.mp hx with hx | hx
     ·obtain⟨r,a1,a2⟩:=h3 x hx
      exact⟨r,by simp[a1],a2⟩
     ·have:x=y:=by simpa using hx
      subst this
      exact⟨x,by simp,rfl⟩)
    exact⟨R',by simpa using g1,by rw[List.map_cons,List.foldl_cons,if_neg c];simpa using g2,g3,by simpa using g4⟩
 obtain⟨R,r1,r2,r3,r4⟩:=jZ inner
 refine⟨R.map fun m=>n+m,⟨fun s hs=>?_,?_,fun s hs y hy=>?_,fun x hx=>?_⟩,by rw[<-r2];simp⟩
 ·obtain⟨m,hm,rfl⟩:=List.mem_map.mp hs
  have:=((hin m).mp (r1 m hm)).1
  lia
 ·rw[List.pairwise_map]
  refine List.Pairwise.imp_of_mem ?_ r3
  intro a b ha hb ne c
  obtain⟨m,hm,e | e,ef⟩:=f4 a (r1 a ha) _ c
  ·have:m=b:=by lia
   subst this
   exact ne ef.symm
  ·have:=((hin m).mp hm).1
   have:=((hin b).mp (r1 b hb)).1
   lia
 ·obtain⟨m,hm,rfl⟩:=List.mem_map.mp hs
  obtain⟨j,hj,e,_⟩:=f4 m (r1 m hm) y hy
  have jn':=((hin j).mp hj).1
  refine⟨?_,et F G (by rcases e with rfl | rfl<;>lia)⟩
  rcases e with rfl | rfl
  ·rw[m7 jn'];lia
  ·rw[qS jn'];lia
 ·by_cases np:Pth (4*n) (jn n) (rb n h l) x
  ·exact .inl np
  ·obtain⟨m,hm,e,nm⟩:=lZ F G hx np
   have mi:=(hin m).mpr ⟨hm,nm⟩
   obtain⟨r,hr,er⟩:=r4 m mi
   refine .inr ⟨n+r,List.mem_map.mpr ⟨r,hr,rfl⟩,?_⟩
   have c:=f1 r (r1 r hr) m mi er
   rcases e with rfl | rfl
   ·exact c
   ·exact c.trans (vf (m7 hm))
end
section
variable{cl:Cl}{n:Nat}{h l inner:List Nat}
noncomputable def HF(inner:List Nat)(hk:List Ky)(hv:List D)(f:Nat->Int):Prop:=hk.length=hv.length/\hk.length<=10/\∀ m∈inner,aM hk hv (.inl (m:Int))=some (.int (f m))
theorem HF.hi(H:HF inner hk hv f):HI inner hk hv:=⟨H.1,H.2.1,fun m hm=>⟨f m,H.2.2 m hm⟩⟩
theorem HF.put(H:HF inner hk hv f){m:Nat}(hm:m∈inner)(v:Int):HF inner (putD hk hv (.inl (m:Int)) (.int v)).1 (putD hk hv (.inl (m:Int)) (.int v)).2 (fun x=>if x=m then v else f x):=by
 obtain⟨p1,p2,_⟩:=H.hi.put hm v
 refine⟨p1,p2,fun x hx=>?_⟩
 rw[fE H.1]
 dsimp only
 by_cases c:x=m
 ·subst c;rw[if_pos rfl,if_pos rfl]
 ·rw[if_neg (fun e=>c (by injection e with e;lia)),if_neg c]
  exact H.2.2 x hx
theorem wx{hk:List Ky}{hv:List D}(hl:hk.length<=10)(x:Nat)(d:D):d5 (.dK hk hv) (.int (x:Nat)) d=some (.dK (putD hk hv (.inl (x:Int)) d).1 (putD hk hv (.inl (x:Int)) d).2):=by
 dsimp only[d5,keyOf]
 rw[Option.bind_some,if_pos (by unfold most;lia)]
theorem rA(H:HF inner hk hv f)(o5 o6 o7:Option D)(keep go:Int):∃ hk' hv' o7',HF inner hk' hv' (fun x=>if f x=go then keep else f x)/\bg (af cl [4] dB) [7] (L inner) (rst n h l inner hk hv o5 o6 o7 (some (.int keep)) (some (.int go)))=some (.nx,rst n h l inner hk' hv' o5 o6 o7' (some (.int keep)) (some (.int go))):=by
 obtain⟨σ',e,hk',hv',o7',g,rfl,H',hg⟩:=cJ (f:=af cl [4] dB) (tg:=[7]) (xs:=inner) (σ:=rst n h l inner hk hv o5 o6 o7 (some (.int keep)) (some (.int go)))
  (fun p σ=>∃ (hk':List Ky) (hv':List D) (o7':Option D) (g:Nat->Int),σ=rst n h l inner hk' hv' o5 o6 o7' (some (.int keep)) (some (.int go))/\HF inner hk' hv' g/\∀ x,g x=if x∈p then(if f x=go then keep else f x)else f x) ⟨hk,hv,o7,f,rfl,H,fun x=>by simp⟩ (by
   rintro p x q σ hx ⟨hk',hv',o7',g,rfl,H',hg⟩
   have hm:x∈inner:=by rw[hx];simp
   have lk:=kM (H'.2.2 x hm)
   show ∃ σ2,af cl [4] dB (rst n h l inner hk' hv' o5 o6 (some (.int (x:Nat))) (some (.int keep)) (some (.int go)))=some (.nx,σ2)/\_
   by_cases c:g x=go
   ·refine⟨rst n h l inner (putD hk' hv' (.inl (x:Int)) (.int keep)).1 (putD hk' hv' (.inl (x:Int)) (.int keep)).2 o5 o6 (some (.int (x:Nat))) (some (.int keep)) (some (.int go)),dQ (aI (a8 (j5 (aa rfl) (aa rfl) lk) (aa rfl) (by rw[cA];congr 1;simp[c]))) (ke (aa rfl) (aa rfl) rfl rfl (wx H'.2.1 x _) aC) aC,_,_,_,_,rfl,H'.put hm keep,fun y=>?_⟩
    by_cases e:y=x
    ·subst e
     rw[if_pos rfl,if_pos (by simp)]
     rw[hg]at c
     split at c
     ·split
      ·rfl
      ·rename_i z1 z2
       rw[if_neg z2]at c
       exact absurd c z2
     ·rw[if_pos c]
    ·rw[if_neg e,hg y]
     simp[e]
   ·refine⟨rst n h l inner hk' hv' o5 o6 (some (.int (x:Nat))) (some (.int keep)) (some (.int go)),br (aI (a8 (j5 (aa rfl) (aa rfl) lk) (aa rfl) (by rw[cA];congr 1;simp[c]))) aC,_,_,_,_,rfl,H',fun y=>?_⟩
    by_cases e:y=x
    ·subst e
     rw[if_pos (by simp)]
     rw[hg]at c ⊢
     split at c
     ·rename_i z;rw[if_pos z]
     ·rename_i z;rw[if_neg z,if_neg c]
    ·rw[hg y]
     simp[e])
 refine⟨hk',hv',o7',⟨H'.1,H'.2.1,fun m hm=>?_⟩,e⟩
 rw[H'.2.2 m hm,hg m,if_pos hm]
noncomputable def Tog(n:Nat)(h l inner:List Nat)(f:Nat->Int):Prop:=∀ x∈inner,∀ y∈inner,f x=f y->Cn (jn n) (rb n h l) (n+x) (n+y)
noncomputable def mg(f:Nat->Int)(m o x:Nat):Int:=if f x=f o then f m else f x
theorem mX{f:Nat->Int}{m o a b:Nat}(e:f a=f b):mg f m o a=mg f m o b:=by unfold mg;rw[e]
theorem Ar{f:Nat->Int}{m o:Nat}:mg f m o o=mg f m o m:=by
 unfold mg
 rw[if_pos rfl]
 split<;>rfl
theorem Tog.merge(F:Frm n h)(G:Frm n l)(t:Tog n h l inner f)(hlt:∀ m∈inner,m<n){m o:Nat}(hm:m∈inner)(ho:o∈inner)(c:Cn (jn n) (rb n h l) (n+m) (n+o)):Tog n h l inner (mg f m o):=by
 have T:=two F G
 intro x hx y hy e
 have lx:=hlt x hx
 have ly:=hlt y hy
 have lm:=hlt m hm
 have lo:=hlt o ho
 unfold mg at e
 split at e
 ·rename_i e1
  split at e
  ·rename_i e2
   exact t x hx y hy (e1.trans e2.symm)
  ·exact(t x hx o ho e1).trans ((c.symm T (by lia)).trans (t m hm y hy e))
 ·split at e
  ·rename_i e2
   exact(t x hx m hm e).trans (c.trans (t o ho y hy e2.symm))
  ·exact t x hx y hy e
theorem vo(h1:1<=n)(hn:n<=10)(F:Frm n h)(G:Frm n l)(hil:inner.length<=n)(hin:∀ m,m∈inner↔m<n/\¬ Pth (4*n) (jn n) (rb n h l) (n+m)):∃ S:List Nat,cn (4*n) (jn n) (rb n h l) S/\evF cl fG [.tup (L h),.tup (L l),.lst (L inner)]=some (.int (S.length:Nat)):=by
 have e6:=half (xs:=L h) (n:=n) (by rw[aF,F.len])
 obtain⟨σ1,l1,hk,hv,o5,rfl,H0,H1,H2⟩:=cJ (f:=af cl [4] ig) (tg:=[5]) (xs:=inner) (σ:=rst n h l inner [] [] none none none none none)
  (fun p σ=>∃ hk hv o5,σ=rst n h l inner hk hv o5 none none none none/\hk.length=hv.length/\hk.length<=p.length/\∀ m∈p,aM hk hv (.inl (m:Int))=some (.int (m:Nat))) ⟨[],[],none,rfl,rfl,by simp,by simp⟩ (by
   rintro p x q σ hx ⟨hk,hv,o5,rfl,H0,H1,H2⟩
   have hp:p.length<10:=by
    have:=congrArg List.length hx
    simp at this
    lia
   have pl:=gI (x:=(.inl (x:Int):Ky)) (d:=.int (x:Nat)) H0
   refine⟨rst n h l inner (putD hk hv (.inl (x:Int)) (.int (x:Nat))).1 (putD hk hv (.inl (x:Int)) (.int (x:Nat))).2 (some (.int (x:Nat))) none none none none,ke (cl:=cl) (M:=[4]) (σ:=rst n h l inner hk hv (some (.int (x:Nat))) none none none none) (r:=.nil) (aa rfl) (aa rfl) rfl rfl (wx (by lia) x _) aC,_,_,_,rfl,pl.1,by have:=pl.2;simp;lia,fun m hm=>?_⟩
   rw[fE H0]
   by_cases e:(.inl (x:Int):Ky)=.inl (m:Int)
   ·rw[if_pos e]
    injection e with e
    have:x=m:=by lia
    rw[this]
   ·rw[if_neg e]
    simp at hm
    rcases hm with hm | hm
    ·exact H2 m hm
    ·exact absurd (by rw[hm]) e)
 have H:HF inner hk hv (fun m=>(m:Int)):=⟨H0,by lia,H2⟩
 obtain⟨σ2,l2',hk',hv',o5',o6',o7',o8',o9',f,rfl,H',t,pr⟩:=cJ (f:=af cl [4] il) (tg:=[5]) (xs:=inner) (σ:=rst n h l inner hk hv o5 none none none none)
  (fun p σ=>∃ (hk:List Ky) (hv:List D) (o5 o6 o7 o8 o9:Option D) (f:Nat->Int),σ=rst n h l inner hk hv o5 o6 o7 o8 o9/\HF inner hk hv f/\Tog n h l inner f/\∀ m∈p,f (at' l m)=f m/\∀ j,at' h (n+m)=n+j->f j=f m) ⟨hk,hv,o5,none,none,none,none,_,rfl,H,fun x _ y _ e=>by
   have e:(x:Int)=(y:Int):=e
   have:x=y:=by lia
   subst this
   exact .refl,by simp⟩ (by
   rintro p x q σ hx ⟨hk',hv',o5',o6',o7',o8',o9',f,rfl,H',t,pr⟩
   have hm:x∈inner:=by rw[hx];simp
   have hsub:∀ m∈p,m∈inner:=fun m hm=>by rw[hx];simp[hm]
   have hlt:∀ m∈inner,m<n:=fun m hm=>((hin m).mp hm).1
   have xn:=hlt x hm
   obtain⟨ln,lp,lc⟩:=rV F G xn ((hin x).mp hm).2
   obtain⟨j,jn',hjj,jp,jc⟩:=pI F G xn ((hin x).mp hm).2
   have li:=(hin _).mpr ⟨ln,lp⟩
   have ji:=(hin _).mpr ⟨jn',jp⟩
   obtain⟨hk2,hv2,o72,H2,e2⟩:=rA (cl:=cl) (n:=n) (h:=h) (l:=l) H' (some (.int (x:Nat))) (some (.int (at' l x:Nat))) o7' (f x) (f (at' l x))
   have t2:=t.merge F G hlt hm li lc
   have H2:HF inner hk2 hv2 (mg f x (at' l x)):=H2
   obtain⟨hk3,hv3,o73,H3,e3⟩:=rA (cl:=cl) (n:=n) (h:=h) (l:=l) H2 (some (.int (x:Nat))) (some (.int (j:Nat))) o72 (mg f x (at' l x) x) (mg f x (at' l x) j)
   have H3:HF inner hk3 hv3 (mg (mg f x (at' l x)) x j):=H3
   have t3:=t2.merge F G hlt hm ji jc
   have s1:af cl [4] eO (rst n h l inner hk' hv' (some (.int (x:Nat))) (some (.int (at' l x:Nat))) o7' o8' o9')=some (.nx,rst n h l inner hk2 hv2 (some (.int (x:Nat))) (some (.int (at' l x:Nat))) o72 (some (.int (f x))) (some (.int (f (at' l x))))) :=
    nJ (j5 (aa rfl) (aa rfl) (kM (H'.2.2 x hm))) (j5 (aa rfl) (aa rfl) (kM (H'.2.2 _ li))) rfl (cm (cK (aa rfl) rfl) e2 aC)
   have s2:af cl [4] eO (rst n h l inner hk2 hv2 (some (.int (x:Nat))) (some (.int (j:Nat))) o72 (some (.int (f x))) (some (.int (f (at' l x)))))=some (.nx,rst n h l inner hk3 hv3 (some (.int (x:Nat))) (some (.int (j:Nat))) o73 (some (.int (mg f x (at' l x) x))) (some (.int (mg f x (at' l x) j)))) :=
    nJ (j5 (aa rfl) (aa rfl) (kM (H2.2.2 x hm))) (j5 (aa rfl) (aa rfl) (kM (H2.2.2 _ ji))) rfl (cm (cK (aa rfl) rfl) e3 aC)
   have i1:=dk (f:=l) (x:=x) (by rw[G.len];lia)
   have i2:=dk (f:=h) (x:=n+x) (by rw[F.len];lia)
   rw[hjj]at i2
   refine⟨rst n h l inner hk3 hv3 (some (.int (x:Nat))) (some (.int (j:Nat))) o73 (some (.int (mg f x (at' l x) x))) (some (.int (mg f x (at' l x) j))),cm (cl:=cl) (M:=[4]) (σ:=rst n h l inner hk' hv' (some (.int (x:Nat))) o6' o7' o8' o9') (cK (x:=.tup [.int (at' l x:Nat),.int (j:Nat)]) (gz (a6 (b9 (aa rfl) (aa rfl) i1) (a6 (az (b9 (aa rfl) (az (aa rfl) (aa rfl) (by rw[bX];rfl)) i2) (aa rfl) (by rw[j0];congr 2;lia)) bu))) rfl) ?_ aC,_,_,_,_,_,_,_,_,rfl,H3,t3,fun m hm'=>?_⟩
   ·exact u7 rfl rfl s1 (u7 rfl rfl s2 EO)
   ·rcases List.mem_append.mp hm' with hp | hp
    ·obtain⟨q1,q2⟩:=pr m hp
     exact⟨mX (mX q1),fun j' hj'=>mX (mX (q2 j' hj'))⟩
    ·have:m=x:=by simpa using hp
     subst this
     refine⟨mX Ar,fun j' hj'=>?_⟩
     have:j'=j:=by lia
     subst this
     exact Ar)
 obtain⟨S,R,hS⟩:=y9 F G hin t (fun m hm=>(pr m hm).1) (fun m hm=>(pr m hm).2)
 refine⟨S,R,?_⟩
 have mc:=oS (cl:=cl) (σ:=rst n h l inner hk' hv' o5' o6' o7' o8' o9') (e:=.ixD (.var 4) (.var 5)) (i:=5) (g:=fun m=>.int (f m)) (fun _=>rfl) inner (fun x hx=>j5 (aa rfl) (aa rfl) (kM (H'.2.2 x hx)))
 have ls:biV .lenSet (.lst (inner.map fun m=>.int (f m)))=some (.int (S.length:Nat)):=by
  dsimp only[biV]
  rw[if_pos (by simp;lia),ints_map,<-hS]
  rfl
 exact aN rfl rfl (a7 (az (aO (aa rfl) e6) aj (yA n)) rfl (eQ (d:=.dK [] []) (by rw[ev]) rfl (cm (cK (aa rfl) rfl) l1 (cm (cK (aa rfl) rfl) l2' (aL (aO (cb (cK (aa rfl) rfl) (by rw[aF];unfold most;lia) mc) ls) rfl)))))
end
structure Hg(T:List Fn)(cf po rn mk rg jb pu c2 hu:Nat):Prop where
 Fc:T[rn]?=some qo
 HA:T[mk]?=some sI
 zW:T[rg]?=some (jC mk rn)
 Hq:T[jb]?=some eC
 Hi:T[pu]?=some (iA rg rn jb po)
 Dy:T[c2]?=some (fY cf)
 zK:T[hu]?=some (wB pu c2)
section
variable{T:List Fn}{nu pc pa nb un if' cf po rp ir mv rn mk rg jb pu c2 hu:Nat}
theorem Hg.under(H:Hg T cf po rn mk rg jb pu c2 hu)(C:Ck T nu pc pa nb un if' cf po rp ir mv)(n:Nat){k:Nat}(h1:1<=k)(hk:k<=10)(F:Frm k f)(G:Frm k g) :
  ∃ S:List Nat,cn (4*k) (jn k) (rb k f g) S/\au T (n+3) pu [.tup (L f),.tup (L g)]=some (.tup [.tup (L (ay k f g)),.int (S.length:Nat)]):=by
 have T2:=two F G
 have hj:∀ x:Nat,x<4*k->ixV (.lst (L (jL k))) (.int (x:Nat))=some (.int (jn k x:Nat)):=fun x hx=>by rw[wH (by rw[xU];exact hx),FD hx]
 have hb:∀ x:Nat,x<4*k->ixV (.lst (L (rbL k f g))) (.int (x:Nat))=some (.int (rb k f g x:Nat)):=fun x hx=>by rw[wH (by rw[uf F G];exact hx),Dm F G hx]
 have r1:∀ (n x:Nat),x<4*k->∃ i,i<4*k/\Stp (jn k) (rb k f g) x i/\(∀ j,j<i->¬ Stp (jn k) (rb k f g) x j)/\au T (n+1) rn [.lst (L (jL k)),.lst (L (rbL k f g)),.int (x:Nat)]=some (.lst (L (wks (jn k) (rb k f g) x i))):=fun n x hx=>by
  obtain⟨i,a1,a2,a3,a4⟩:=uC (cl:=au T n) T2 (by lia) hj hb hx
  exact⟨i,a1,a2,a3,(ao H.Fc).trans a4⟩
 have r2:∀ (n x:Nat),x<4*k->∃ i,i<4*k/\Stp (rb k f g) (jn k) x i/\(∀ j,j<i->¬ Stp (rb k f g) (jn k) x j)/\au T (n+1) rn [.lst (L (rbL k f g)),.lst (L (jL k)),.int (x:Nat)]=some (.lst (L (wks (rb k f g) (jn k) x i))):=fun n x hx=>by
  obtain⟨i,a1,a2,a3,a4⟩:=uC (cl:=au T n) T2.swap (by lia) hb hj hx
  exact⟨i,a1,a2,a3,(ao H.Fc).trans a4⟩
 obtain⟨S,R,e⟩:=sF (cl:=au T (n+1)) (fm:=mk) (fr:=rn) T2 (by lia) (A:=.lst (L (jL k))) (B:=.lst (L (rbL k f g))) (by
  show some (D.int ((L (jL k)).length:Nat))=_
  rw[aF,xU]) hj hb (r1 n) (r2 n) (fun s P ps hs hp=>by
  obtain⟨s',b1,b2⟩:=zJ (cl:=au T n) hs hp
  exact⟨s',b1,(ao H.HA).trans b2⟩)
 exact⟨S,R,(ao H.Hi).trans (pT h1 hk F G (C.half (n+1) F.len) ((ao H.Hq).trans (vi hk)) (r1 (n+1)) ((ao H.zW).trans e))⟩
theorem Hg.sO(H:Hg T cf po rn mk rg jb pu c2 hu)(C:Ck T nu pc pa nb un if' cf po rp ir mv)(n:Nat){k:Nat}(h1:1<=k)(hk:k<=10)(V:Val k f)(W:Val k g) :
  ∃ S:List Nat,cn (4*k) (jn k) (rb k f g) S/\au T (n+7) hu [.tup (L f),.tup (L g)]=some (.tup [.tup (L (ay k f g)),.int (S.length:Nat)]):=by
 obtain⟨S,R,e⟩:=H.under C (n+3) h1 hk V.frm W.frm
 refine⟨S,R,(ao H.zK).trans ?_⟩
 have ck2:au T (n+6) c2 [.tup (L f),.tup (L g)]=some .non:=by
  refine(ao H.Dy).trans (nS rfl rfl (df (b8 (aa rfl) (C.check n h1 hk V)) (df (b8 (aa rfl) (C.check n h1 hk W)) (br (aI (a8 (aO (aa rfl) (half (n:=k) (by rw[aF,V.frm.len]))) (aO (aa rfl) (half (n:=k) (by rw[aF,W.frm.len]))) (by rw[m9];simp))) aC))))
 exact aN rfl rfl (df (c9 (aa rfl) (aa rfl) ck2) (aL (c9 (aa rfl) (aa rfl) e) (by simp[aS,D.imm,aq,aK])))
end
section
variable{T:List Fn}{mx rw dg pl hk ci ft tx rg hu ov fr:Nat}
theorem Dr.sO(D0:Dr T mx rw dg pl hk ci ft tx rg hu ov fr)(n:Nat){k:Nat}(h1:1<=k)(hk':k<=10)(F:Frm k f)(G:Frm k g) :
  ∃ S:List Nat,cn (4*k) (jn k) (rb k f g) S/\au T (n+2) hu [.tup (L f),.tup (L g)]=some (.tup [.tup (L (ay k f g)),.int (S.length:Nat)]):=by
 obtain⟨inner,i1,i2,i3⟩:=Ac (cl:=au T (n+1)) (fr:=rg) h1 hk' F.len G.len F.lt G.lt
 obtain⟨S,R,e⟩:=vo (cl:=au T n) h1 hk' F G i2 (fun m=>by
  rw[i1 m]
  exact⟨fun⟨a,b⟩=>⟨a,fun z=>b ((rM F G a).mpr z)⟩,fun⟨a,b⟩=>⟨a,fun z=>b ((rM F G a).mp z)⟩⟩)
 exact⟨S,R,(ao D0.zK).trans (i3 _ ((ao D0.zW).trans e))⟩
theorem FZ{fs:Nat}(hfs:T[fs]?=some (gU fr)){ns:List Int}(n:Nat){k m q:Nat}(hq:q<=100)(one:∀ i:Nat,i<=100->∃ f:List Nat,Val m f/\au T (n+4) fr [.lst (LI ns),.int ((k+i:Nat):Int),.int m]=some (.tup (L f))) :
  ∃ fs':List (List Nat),fs'.length=q/\(∀ f∈fs',Val m f)/\au T (n+5) fs [.lst (LI ns),.int k,.int m,.int q]=some (.lst (fs'.map fun f=>.tup (L f))):=by
 have:∀ i,∃ f:List Nat,i<=100->Val m f/\au T (n+4) fr [.lst (LI ns),.int ((k+i:Nat):Int),.int m]=some (.tup (L f)):=fun i=>by
  by_cases c:i<=100
  ·obtain⟨f,V,e⟩:=one i c
   exact⟨f,fun _=>⟨V,e⟩⟩
  ·exact⟨[],fun z=>absurd z c⟩
 obtain⟨g,hg⟩:=Classical.axiomOfChoice this
 refine⟨(List.range q).map g,by simp,fun f hf=>?_,?_⟩
 ·obtain⟨i,hi,rfl⟩:=List.mem_map.mp hf
  exact(hg i (by have:=List.mem_range.mp hi;lia)).1
 ·refine(ao hfs).trans (aN rfl rfl (aL (cb (iM (aa rfl) (cj (by lia))) (by simp[L,most];lia) (oS (g:=fun i=>.tup (L (g i))) (fun x=>by simp[D.imm,aK]) _ fun i hi=>?_)) ?_)) |>.trans (by rw[List.map_map];rfl)
  ·have hi:=List.mem_range.mp hi
   exact mj (aa rfl) (az (aa rfl) (aa rfl) (by rw[bX];rfl)) (aa rfl) (hg i (by lia)).2
  ·have:∀ xs:List Nat,aq (xs.map fun i=>D.tup (L (g i)))=true:=fun xs=>by
    induction xs with
    | nil=>rfl
    | cons x r ih=>rw[List.map_cons,aq,ih];simp[D.imm,aK]
   simp[aS,a9,this]
end
section
variable{n:Nat}{f:List Nat}
end
theorem mm{xs:List Nat}{b:Nat->Nat}(nd:xs.Nodup)(cl:∀ x∈xs,b x∈xs)(bi:∀ x∈xs,b (b x)=x)(no:∀ x∈xs,b x≠x):xs.length%2=0:=by
 have h1:(xs.filter fun x=>decide (x<b x)).length<=(xs.filter fun x=>decide (b x<x)).length:=by
  have:(xs.filter fun x=>decide (x<b x)).length=((xs.filter fun x=>decide (x<b x)).map b).length:=by simp
  rw[this]
  refine cL ?_ fun y hy=>?_
  ·rw[List.nodup_iff_pairwise_ne,List.pairwise_map]
   refine List.Pairwise.imp_of_mem ?_ (List.nodup_iff_pairwise_ne.mp (nd.filter _))
   intro x y hx hy hne e
   rw[List.mem_filter]at hx hy
   exact hne (by rw[<-bi x hx.1,e,bi y hy.1])
  ·obtain⟨x,hx,rfl⟩:=List.mem_map.mp hy
   rw[List.mem_filter,decide_eq_true_eq]at hx ⊢
   exact⟨cl x hx.1,by rw[bi x hx.1];exact hx.2⟩
 have h2:(xs.filter fun x=>decide (b x<x)).length<=(xs.filter fun x=>decide (x<b x)).length:=by
  have:(xs.filter fun x=>decide (b x<x)).length=((xs.filter fun x=>decide (b x<x)).map b).length:=by simp
  rw[this]
  refine cL ?_ fun y hy=>?_
  ·rw[List.nodup_iff_pairwise_ne,List.pairwise_map]
   refine List.Pairwise.imp_of_mem ?_ (List.nodup_iff_pairwise_ne.mp (nd.filter _))
   intro x y hx hy hne e
   rw[List.mem_filter]at hx hy
   exact hne (by rw[<-bi x hx.1,e,bi y hy.1])
  ·obtain⟨x,hx,rfl⟩:=List.mem_map.mp hy
   rw[List.mem_filter,decide_eq_true_eq]at hx ⊢
   exact⟨cl x hx.1,by rw[bi x hx.1];exact hx.2⟩
 have h3:∀ ys:List Nat,(∀ x∈ys,b x≠x)->ys.length=(ys.filter fun x=>decide (x<b x)).length+(ys.filter fun x=>decide (b x<x)).length:=by
  intro ys
  induction ys with
  | nil=>intro _;rfl
  |cons y ys ih=>
   intro h
   have i:=ih fun x hx=>h x (List.mem_cons_of_mem _ hx)
   have hy:=h y List.mem_cons_self
   rw[List.filter_cons,List.filter_cons]
   by_cases c:y<b y
   ·rw[if_pos (decide_eq_true c),if_neg (by rw[decide_eq_true_eq];lia)]
    simp only[List.length_cons]
    lia
   ·rw[if_neg (by rw[decide_eq_true_eq];exact c),if_pos (decide_eq_true (by lia))]
    simp only[List.length_cons]
    lia
 have:=h3 xs no
 lia
section
variable{n:Nat}{h l:List Nat}
noncomputable def rp(n x:Nat):Nat:=if x<2*n then rd n x else 2*n+rd n (x-2*n)
noncomputable def phi(n:Nat)(Q:List Nat)(x:Nat):Nat:=(Q.filter fun y=>decide (y<2*n↔x<2*n)&&decide (rp n y<rp n x)).length
theorem gf(Q:List Nat)(P R:Nat->Bool):(Q.filter P).length=(Q.filter fun y=>P y&&R y).length+(Q.filter fun y=>P y && !R y).length:=by
 induction Q with
 | nil=>rfl
 |cons y Q ih=>
  rw[List.filter_cons,List.filter_cons,List.filter_cons]
  cases P y<;>cases R y<;>simp[ih]<;>lia
theorem bQ{Q:List Nat}{P R:Nat->Bool}(e:∀ y∈Q,P y=R y):(Q.filter P).length=(Q.filter R).length:=by rw[List.filter_congr e]
theorem mW{x y:Nat}(hx:x<4*n)(hy:y<4*n)(e:rp n x=rp n y):x=y:=by
 unfold rp at e
 have:∀ q,q<2*n->rd n q<2*n:=fun q hq=>aX hq
 split at e<;>split at e
 ·exact iT (by lia) (by lia) e
 ·have:=this x (by lia);lia
 ·have:=this y (by lia);lia
 ·have:=iT (n:=n) (p:=x-2*n) (q:=y-2*n) (by omega) (by omega) (by lia)
  omega
theorem xo(V:Val n h)(W:Val n l){x y:Nat}(hx:x<4*n)(hy:y<4*n):¬ (rp n x<rp n y/\rp n y<rp n (rb n h l x)/\rp n (rb n h l x)<rp n (rb n h l y)):=by
 have F:=V.frm
 have G:=W.frm
 have T:=two F G
 rintro⟨h1,h2,h3⟩
 have r2:∀ q,q<2*n->rd n q<2*n:=fun q hq=>aX hq
 by_cases cx:x<2*n
 ·have ex:rb n h l x=at' h x:=by unfold rb;rw[if_pos cx]
  have lx:=F.lt x cx
  by_cases cy:y<2*n
  ·have ey:rb n h l y=at' h y:=by unfold rb;rw[if_pos cy]
   have ly:=F.lt y cy
   rw[ex]at h2 h3
   rw[ey]at h3
   unfold rp at h1 h2 h3
   rw[if_pos cx,if_pos cy]at h1
   rw[if_pos cy,if_pos lx]at h2
   rw[if_pos lx,if_pos ly]at h3
   refine V.nox (rd n x) (rd n y) (aX cx) (aX cy) ?_
   unfold rnd
   rw[bO cx,bO cy]
   exact⟨h1,h2,h3⟩
  ·rw[ex]at h2
   unfold rp at h2
   rw[if_neg cy,if_pos lx]at h2
   have:=r2 _ lx
   lia
 ·have ex:rb n h l x=2*n+at' l (x-2*n):=by unfold rb;rw[if_neg cx]
  have lx:=G.lt (x-2*n) (by omega)
  by_cases cy:y<2*n
  ·unfold rp at h1
   rw[if_neg cx,if_pos cy]at h1
   have:=r2 _ cy
   lia
  ·have ey:rb n h l y=2*n+at' l (y-2*n):=by unfold rb;rw[if_neg cy]
   have ly:=G.lt (y-2*n) (by omega)
   rw[ex]at h2 h3
   rw[ey]at h3
   unfold rp at h1 h2 h3
   rw[if_neg cx,if_neg cy]at h1
   rw[if_neg cy,if_neg (by lia),Nat.add_sub_cancel_left]at h2
   rw[if_neg (by lia),if_neg (by lia),Nat.add_sub_cancel_left,Nat.add_sub_cancel_left]at h3
   refine W.nox (rd n (x-2*n)) (rd n (y-2*n)) (aX (by omega)) (aX (by omega)) ?_
   unfold rnd
   rw[bO (by omega),bO (by omega)]
   exact⟨by lia,by lia,by lia⟩
structure Cls(n:Nat)(h l Q:List Nat):Prop where
 nd:Q.Nodup
 lt:∀ y∈Q,y<4*n
 b:∀ y∈Q,rb n h l y∈Q
 a:∀ y∈Q,jn n y∈Q
theorem oH(F:Frm n h)(G:Frm n l){x:Nat}(hx:x<4*n):rb n h l x<2*n↔x<2*n:=by
 unfold rb
 split
 ·rename_i c
  have:=F.lt x c
  lia
 ·lia
theorem FP(V:Val n h)(W:Val n l)(C:Cls n h l Q){x:Nat}(hx:x<4*n)(hq:x∉Q):phi n Q (rb n h l x)%2=phi n Q x%2:=by
 have F:=V.frm
 have G:=W.frm
 have T:=two F G
 have key:∀ x,x<4*n->x∉Q->rp n x<rp n (rb n h l x)->phi n Q (rb n h l x)%2=phi n Q x%2:=by
  intro x hx hq lt
  have bl:=T.bl x hx
  have bq:rb n h l x∉Q:=fun z=>hq (by have:=C.b _ z;rw[T.bi x hx]at this;exact this)
  have sd:=oH F G (h:=h) (l:=l) hx
  have e:phi n Q (rb n h l x)=phi n Q x+(Q.filter fun y=>decide (y<2*n↔x<2*n)&&(decide (rp n x<rp n y)&&decide (rp n y<rp n (rb n h l x)))).length:=by
   unfold phi
   rw[gf Q (fun y=>decide (y<2*n↔rb n h l x<2*n)&&decide (rp n y<rp n (rb n h l x))) (fun y=>decide (rp n y<rp n x))]
   congr 1
   ·refine bQ fun y hy=>?_
    rw[Bool.eq_iff_iff]
    simp only[Bool.and_eq_true,decide_eq_true_eq]
    rw[sd]
    lia
   ·refine bQ fun y hy=>?_
    have ne:rp n y≠rp n x:=fun e=>hq (mW (C.lt y hy) hx e▸hy)
    rw[Bool.eq_iff_iff]
    simp only[Bool.and_eq_true,decide_eq_true_eq,Bool.not_eq_true',decide_eq_false_iff_not]
    rw[sd]
    lia
  have ev:=mm (b:=rb n h l) (xs:=Q.filter fun y=>decide (y<2*n↔x<2*n)&&(decide (rp n x<rp n y)&&decide (rp n y<rp n (rb n h l x)))) (C.nd.filter _) (fun y hy=>by
   simp only[List.mem_filter,Bool.and_eq_true,decide_eq_true_eq]at hy ⊢
   obtain⟨y1,y2,y3,y4⟩:=hy
   have ly:=C.lt y y1
   have lb:=T.bl y ly
   refine⟨C.b y y1,by rw[oH F G ly];exact y2,?_⟩
   have n1:=xo V W hx ly
   have n2:=xo V W lb hx
   rw[T.bi y ly]at n2
   have ne1:rp n (rb n h l y)≠rp n x:=fun e=>hq (mW lb hx e▸C.b y y1)
   have ne2:rp n (rb n h l y)≠rp n (rb n h l x):=fun e=>bq (mW lb bl e▸C.b y y1)
   lia) (fun y hy=>by
   simp only[List.mem_filter]at hy
   exact T.bi y (C.lt y hy.1)) (fun y hy=>by
   simp only[List.mem_filter]at hy
   exact et F G (C.lt y hy.1))
  lia
 by_cases c:rp n x<rp n (rb n h l x)
 ·exact key x hx hq c
 ·have bl:=T.bl x hx
  have bq:rb n h l x∉Q:=fun z=>hq (by have:=C.b _ z;rw[T.bi x hx]at this;exact this)
  have ne:rp n (rb n h l x)≠rp n x:=fun e=>et F G hx (mW bl hx e)
  have:=key (rb n h l x) bl bq (by rw[T.bi x hx];lia)
  rw[T.bi x hx]at this
  exact this.symm
theorem uy(F:Frm n h)(G:Frm n l)(C:Cls n h l Q):(Q.filter fun y=>decide (y<2*n)).length%2=0:=by
 have T:=two F G
 refine mm (b:=rb n h l) (C.nd.filter _) (fun y hy=>?_) (fun y hy=>?_) (fun y hy=>?_)
 ·simp only[List.mem_filter,decide_eq_true_eq]at hy ⊢
  exact⟨C.b y hy.1,(oH F G (C.lt y hy.1)).mpr hy.2⟩
 ·simp only[List.mem_filter]at hy
  exact T.bi y (C.lt y hy.1)
 ·simp only[List.mem_filter]at hy
  exact et F G (C.lt y hy.1)
set_option synthInstance.maxSize 10000 in
set_option synthInstance.maxHeartbeats 0 in
theorem jd:∀ n,n<11->∀ m,m<n->∀ y,y<4*n->(decide (y<2*n↔2*n+m<2*n)&&decide (rp n y<rp n (2*n+m)))=decide (2*n<=y/\y<2*n+m) /\
  (y≠n+m->(decide (y<2*n) && !decide (rp n y<rp n (n+m)))=decide (n<=y/\y<n+m))/\(decide (y<2*n↔n+m<2*n)&&decide (rp n y<rp n (n+m)))=(decide (y<2*n)&&decide (rp n y<rp n (n+m))) /\
  (2*n<=y->y<2*n+m->n<=jn n y/\jn n y<n+m)/\(n<=y->y<n+m->2*n<=jn n y/\jn n y<2*n+m):=by decide +kernel
theorem um(hn:n<11)(F:Frm n h)(G:Frm n l)(C:Cls n h l Q){m:Nat}(hm:m<n)(hq:n+m∉Q):phi n Q (2*n+m)%2=phi n Q (n+m)%2:=by
 have T:=two F G
 have swap:(Q.filter fun y=>decide (2*n<=y/\y<2*n+m)).length=(Q.filter fun y=>decide (n<=y/\y<n+m)).length:=by
  have go:∀ (P R:Nat->Bool),(∀ y,y<4*n->P y=true->R (jn n y)=true)->(Q.filter P).length<=(Q.filter R).length:=fun P R hPR=>by
   have:(Q.filter P).length=((Q.filter P).map (jn n)).length:=by simp
   rw[this]
   refine cL ?_ fun y hy=>?_
   ·rw[List.nodup_iff_pairwise_ne,List.pairwise_map]
    refine List.Pairwise.imp_of_mem ?_ (List.nodup_iff_pairwise_ne.mp (C.nd.filter _))
    intro x y hx hy hne e
    rw[List.mem_filter]at hx hy
    exact hne (by rw[<-T.ai x (C.lt x hx.1),e,T.ai y (C.lt y hy.1)])
   ·obtain⟨x,hx,rfl⟩:=List.mem_map.mp hy
    rw[List.mem_filter]at hx ⊢
    exact⟨C.a x hx.1,hPR x (C.lt x hx.1) hx.2⟩
  refine Nat.le_antisymm (go _ _ fun y hy e=>?_) (go _ _ fun y hy e=>?_)
  ·rw[decide_eq_true_eq]at e ⊢
   exact(jd n hn m hm y hy).2.2.2.1 e.1 e.2
  ·rw[decide_eq_true_eq]at e ⊢
   exact(jd n hn m hm y hy).2.2.2.2 e.1 e.2
 have e1:phi n Q (2*n+m)=(Q.filter fun y=>decide (2*n<=y/\y<2*n+m)).length:=bQ fun y hy=>(jd n hn m hm y (C.lt y hy)).1
 have e2:phi n Q (n+m)+(Q.filter fun y=>decide (n<=y/\y<n+m)).length=(Q.filter fun y=>decide (y<2*n)).length:=by
  rw[gf Q (fun y=>decide (y<2*n)) (fun y=>decide (rp n y<rp n (n+m)))]
  congr 1
  ·exact bQ fun y hy=>(jd n hn m hm y (C.lt y hy)).2.2.1
  ·exact(bQ fun y hy=>(jd n hn m hm y (C.lt y hy)).2.1 fun e=>hq (e▸hy)).symm
 have e3:=uy F G C
 lia
theorem CT(hn:n<11)(V:Val n h)(W:Val n l)(C:Cls n h l Q){x z:Nat}(hx:x<4*n)(hq:x∉Q)(c:Cn (jn n) (rb n h l) x z):z∉Q/\phi n Q z%2=phi n Q x%2:=by
 have F:=V.frm
 have G:=W.frm
 have T:=two F G
 induction c with
 | refl=>exact⟨hq,rfl⟩
 |@sa y hy ih=>
  obtain⟨i1,i2⟩:=ih
  have ly:=hy.lt T hx
  have nq:jn n y∉Q:=fun z=>i1 (by have:=C.a _ z;rw[T.ai y ly]at this;exact this)
  refine⟨nq,?_⟩
  rw[<-i2]
  by_cases c1:y<n
  ·have:jn n y=y:=by unfold jn;rw[if_pos c1]
   rw[this]
  ·by_cases c2:y<2*n
   ·have e:y=n+(y-n):=by lia
    have:jn n y=2*n+(y-n):=by rw[e,m7 (by lia)];lia
    rw[this]
    have:=um hn F G C (m:=y-n) (by lia) (by rw[<-e];exact i1)
    rw[<-e]at this
    exact this
   ·by_cases c3:y<3*n
    ·have e:y=2*n+(y-2*n):=by lia
     have ej:jn n y=n+(y-2*n):=by rw[e,qS (by lia)];lia
     have:=um hn F G C (m:=y-2*n) (by lia) (by rw[<-ej];exact nq)
     rw[<-e,<-ej]at this
     exact this.symm
    ·have:jn n y=y:=by unfold jn;rw[if_neg c1,if_neg c2,if_neg c3]
     rw[this]
 |@sb y hy ih=>
  obtain⟨i1,i2⟩:=ih
  have ly:=hy.lt T hx
  exact⟨fun z=>i1 (by have:=C.b _ z;rw[T.bi y ly]at this;exact this),by rw[FP V W C ly i1,i2]⟩
end
section
variable{n:Nat}{h l:List Nat}
theorem AY{Q:List Nat}(nd:Q.Nodup){P:Nat->Bool}{u v:Nat}(hu:u∈Q)(hv:v∈Q)(ne:u≠v)(only:∀ y∈Q,P y=true->y=u\/y=v):(Q.filter P).length=([u,v].filter P).length:=by
 have nz:[u,v].Nodup:=by simp[ne]
 refine Nat.le_antisymm (cL (nd.filter _) fun y hy=>?_) (cL (nz.filter _) fun y hy=>?_)
 ·rw[List.mem_filter]at hy ⊢
  exact⟨by rcases only y hy.1 hy.2 with e | e<;>simp[e],hy.2⟩
 ·rw[List.mem_filter]at hy ⊢
  refine⟨?_,hy.2⟩
  have:=hy.1
  simp only[List.mem_cons,List.not_mem_nil,or_false]at this
  rcases this with rfl | rfl<;>assumption
noncomputable def psi(n p y:Nat):Bool:=(decide (y<n)&&decide (y<rd n p)) || (decide (3*n<=y)&&decide (rd n (y-2*n)<rd n p))
set_option synthInstance.maxSize 10000 in
set_option synthInstance.maxHeartbeats 0 in
theorem tG:∀ n,n<11->∀ p,p<2*n->∀ y,y<4*n->(p<n->(decide (y<2*n↔p<2*n)&&decide (rp n y<rp n p))=psi n p y) /\
  (¬ p<n->(decide (y<2*n↔p+2*n<2*n)&&decide (rp n y<rp n (p+2*n))&&decide (y<3*n))=decide (2*n<=y/\y<3*n) /\
   (decide (y<2*n↔p+2*n<2*n)&&decide (rp n y<rp n (p+2*n)) && !decide (y<3*n))=(decide (3*n<=y)&&decide (rd n (y-2*n)<rd n p)) /\
   (psi n p y&&decide (y<n))=decide (y<n)/\(psi n p y && !decide (y<n))=(decide (3*n<=y)&&decide (rd n (y-2*n)<rd n p))) /\
  (decide (y<2*n)&&decide (y<n))=decide (y<n)/\(decide (y<2*n) && !decide (y<n))=decide (n<=y/\y<2*n) /\
  (2*n<=y->y<3*n->n<=jn n y/\jn n y<2*n)/\(n<=y->y<2*n->2*n<=jn n y/\jn n y<3*n)/\(psi n p y=true->jn n y=y):=by decide +kernel
theorem t5(hn:n<11)(F:Frm n h)(G:Frm n l)(C:Cls n h l Q){p:Nat}(hp:p<2*n):phi n Q (out n p)%2=(Q.filter (psi n p)).length%2:=by
 have T:=two F G
 have fin:=fun y (hy:y∈Q)=>tG n hn p hp y (C.lt y hy)
 by_cases c:p<n
 ·have eo:out n p=p:=by unfold out;rw[if_pos c]
  rw[eo]
  congr 1
  exact bQ fun y hy=>(fin y hy).1 c
 ·have eo:out n p=p+2*n:=by unfold out;rw[if_neg c]
  rw[eo]
  have go:∀ (P R:Nat->Bool),(∀ y,y∈Q->P y=true->R (jn n y)=true)->(Q.filter P).length<=(Q.filter R).length:=fun P R hPR=>by
   have:(Q.filter P).length=((Q.filter P).map (jn n)).length:=by simp
   rw[this]
   refine cL ?_ fun y hy=>?_
   ·rw[List.nodup_iff_pairwise_ne,List.pairwise_map]
    refine List.Pairwise.imp_of_mem ?_ (List.nodup_iff_pairwise_ne.mp (C.nd.filter _))
    intro x y hx hy hne e
    rw[List.mem_filter]at hx hy
    exact hne (by rw[<-T.ai x (C.lt x hx.1),e,T.ai y (C.lt y hy.1)])
   ·obtain⟨x,hx,rfl⟩:=List.mem_map.mp hy
    rw[List.mem_filter]at hx ⊢
    exact⟨C.a x hx.1,hPR x hx.1 hx.2⟩
  have swap:(Q.filter fun y=>decide (2*n<=y/\y<3*n)).length=(Q.filter fun y=>decide (n<=y/\y<2*n)).length:=by
   refine Nat.le_antisymm (go _ _ fun y hy e=>?_) (go _ _ fun y hy e=>?_)
   ·rw[decide_eq_true_eq]at e ⊢
    exact(fin y hy).2.2.2.2.1 e.1 e.2
   ·rw[decide_eq_true_eq]at e ⊢
    exact(fin y hy).2.2.2.2.2.1 e.1 e.2
  have e1:phi n Q (p+2*n)=(Q.filter fun y=>decide (2*n<=y/\y<3*n)).length+(Q.filter fun y=>decide (3*n<=y)&&decide (rd n (y-2*n)<rd n p)).length:=by
   unfold phi
   rw[gf Q (fun y=>decide (y<2*n↔p+2*n<2*n)&&decide (rp n y<rp n (p+2*n))) (fun y=>decide (y<3*n)),bQ fun y hy=>((fin y hy).2.1 c).1,bQ fun y hy=>((fin y hy).2.1 c).2.1]
  have e2:(Q.filter (psi n p)).length=(Q.filter fun y=>decide (y<n)).length+(Q.filter fun y=>decide (3*n<=y)&&decide (rd n (y-2*n)<rd n p)).length:=by
   rw[gf Q (psi n p) (fun y=>decide (y<n)),bQ fun y hy=>((fin y hy).2.1 c).2.2.1,bQ fun y hy=>((fin y hy).2.1 c).2.2.2]
  have e3:(Q.filter fun y=>decide (y<2*n)).length=(Q.filter fun y=>decide (y<n)).length+(Q.filter fun y=>decide (n<=y/\y<2*n)).length:=by
   rw[gf Q (fun y=>decide (y<2*n)) (fun y=>decide (y<n)),bQ fun y hy=>(fin y hy).2.2.1,bQ fun y hy=>(fin y hy).2.2.2.1]
  have e4:=uy F G C
  rw[e1,e2,swap]
  rw[e3]at e4
  clear e1 e2 e3 swap go fin
  lia
theorem Du(F:Frm n h)(G:Frm n l){s:Nat}(hs:s<2*n):∃ Q,Cls n h l Q/\∀ y,y∈Q↔Cn (jn n) (rb n h l) (out n s) y:=by
 have T:=two F G
 obtain⟨k,hk,st,hn⟩:=f7 T (aZ hs)
 have mem:∀ y,y∈wks (jn n) (rb n h l) (out n s) k↔Cn (jn n) (rb n h l) (out n s) y:=fun y=>by
  rw[ot]
  exact⟨fun⟨i,_,e⟩=>e▸jH i,fun c=>kZ T (aZ hs) st hn (.inl (dS hs)) c⟩
 refine⟨_,⟨?_,fun y hy=>((mem y).mp hy).lt T (aZ hs),fun y hy=>(mem _).mpr (.sb ((mem y).mp hy)),fun y hy=>(mem _).mpr (.sa ((mem y).mp hy))⟩,mem⟩
 unfold wks
 rw[List.nodup_iff_pairwise_ne,List.pairwise_map]
 refine List.Pairwise.imp_of_mem ?_ (List.pairwise_lt_range (n:=k+1))
 intro i j hi hj hlt
 exact lH T (aZ hs) hn hlt (by have:=List.mem_range.mp hj;lia)
theorem lC{p q:Nat}(hp:p<2*n)(hq:q<2*n):psi n p (out n q)=decide (rd n q<rd n p):=by
 rw[Bool.eq_iff_iff]
 unfold psi out
 simp only[Bool.and_eq_true,Bool.or_eq_true,decide_eq_true_eq]
 split
 ·rename_i c
  have:rd n q=q:=by unfold rd;rw[if_pos c]
  rw[this]
  lia
 ·rename_i c
  rw[show q+2*n-2*n=q by lia]
  lia
theorem eI(hn:n<=10)(V:Val n h)(W:Val n l):Val n (ay n h l):=by
 have F:=V.frm
 have G:=W.frm
 have T:=two F G
 have FF:=cS F G
 refine⟨FF,fun q q' hq hq' hc=>?_⟩
 obtain⟨c1,c2,c3⟩:=hc
 have p1:=aX hq
 have s1:=aX hq'
 unfold rnd at c2 c3
 have ep:rd n (rd n q)=q:=bO hq
 have es:rd n (rd n q')=q':=bO hq'
 generalize rd n q=p at *
 generalize rd n q'=s at *
 have lp:=FF.lt p p1
 have ls:=FF.lt s s1
 obtain⟨Q,C,mem⟩:=Du F G s1
 have su:out n s∈Q:=(mem _).mpr .refl
 have sv:out n (at' (ay n h l) s)∈Q:=(mem _).mpr ((found_iff F G s1 ls (Ne.symm (FF.no s s1))).mp rfl)
 have suv:out n s≠out n (at' (ay n h l) s):=fun e=>FF.no s s1 (om e s1 ls).symm
 have only:∀ t,t<2*n->out n t∈Q->t=s\/t=at' (ay n h l) s:=fun t ht hm=>by
  by_cases c:s=t
  ·exact .inl c.symm
  ·exact .inr ((found_iff F G s1 ht c).mpr ((mem _).mp hm)).symm
 have pq:out n p∉Q:=fun z=>by
  rcases only p p1 z with e | e
  ·subst e;lia
  ·subst e;lia
 have pc:=(found_iff F G p1 lp (Ne.symm (FF.no p p1))).mp rfl
 obtain⟨_,ph⟩:=CT (by lia) V W C (aZ p1) pq pc
 rw[t5 (by lia) F G C lp,t5 (by lia) F G C p1]at ph
 have cnt2:∀ t,t<2*n->(Q.filter (psi n t)).length=([out n s,out n (at' (ay n h l) s)].filter (psi n t)).length:=fun t ht=>by
  refine AY C.nd su sv suv fun y hy e=>?_
  have ly:=C.lt y hy
  have:jn n y=y:=(tG n (by lia) t ht y ly).2.2.2.2.2.2 e
  obtain⟨u,hu,rfl⟩:=vN ly this
  rcases only u hu hy with e | e
  ·exact .inl (by rw[e])
  ·exact .inr (by rw[e])
 rw[cnt2 p p1,cnt2 _ lp,List.filter_cons,List.filter_cons,List.filter_cons,List.filter_cons,lC lp s1,lC lp ls,lC p1 s1,lC p1 ls]at ph
 rw[if_pos (by rw[decide_eq_true_eq];lia),if_neg (by rw[decide_eq_true_eq];lia),if_neg (by rw[decide_eq_true_eq];lia),if_neg (by rw[decide_eq_true_eq];lia)]at ph
 simp at ph
end
section
variable{T:List Fn}{mx rw dg pl hk ci ft tx rg hu ov fr:Nat}
theorem Dr.Dd(h:Dr T mx rw dg pl hk ci ft tx rg hu ov fr){ns:List Int}(hl:ns.length<=63)(n:Nat){k m:Nat}(hk':k<=1000)(h1:1<=m)(hm:m<=10):∃ f:List Nat,Val m f/\au T (n+4) fr [.lst (LI ns),.int k,.int m]=some (.tup (L f)) :=
 h.DL hl n hk' h1 hm fun f V=>by
  have W:Val m (bp m f):=by rw[mE V.frm];exact(bG m).val V
  obtain⟨S,_,e⟩:=h.sO (n+1) h1 hm V.frm W.frm
  exact⟨_,_,eI hm V W,e⟩
theorem Dr.rows(D0:Dr T mx rw dg pl hk ci ft tx rg hu ov fr){fs:Nat}(hfs:T[fs]?=some (gU fr)){ns:List Int}(hl:ns.length<=63)(n:Nat){k m q:Nat}(hk':k<=500)(h1:1<=m)(hm:m<=10)(hq:q<=100) :
  ∃ fs':List (List Nat),fs'.length=q/\(∀ f∈fs',Val m f)/\au T (n+5) fs [.lst (LI ns),.int k,.int m,.int q]=some (.lst (fs'.map fun f=>.tup (L f))) :=
 FZ hfs n hq fun i hi=>D0.Dd hl n (k:=k+i) (by lia) h1 hm
end
structure Fld(M:Nat)(a a' b:Nat->Nat)(N:Nat)(c f o:Nat->Nat):Prop where
 T:Two M a b
 T':Two M a' b
 T2:Two N c f
 ol:∀ p,p<N->o p<M
 oi:∀ p q,p<N->q<N->o p=o q->p=q
 fx:∀ x,x<M->a x=x->∃ p,p<N/\x=o p
 fo:∀ p,p<N->a (o p)=o p
 jo:∀ p,p<N->a' (o p)=o (c p)
 jj:∀ x,x<M->a x≠x->a' x=a x
 ff:∀ p q,p<N->q<N->p≠q->(f p=q↔Cn a b (o p) (o q))
 nb:∀ x,x<M->b x≠x
 nf:∀ p,p<N->f p≠p
section
variable{M N:Nat}{a a' b c f o:Nat->Nat}
theorem Fld.up(D:Fld M a a' b N c f o){x y:Nat}(hx:x<M)(h:Cn a b x y):Cn a' b x y:=by
 induction h with
 | refl=>exact .refl
 |@sa y hy ih=>
  by_cases e:a y=y
  ·rw[e];exact ih
  ·rw[<-D.jj y (hy.lt D.T hx) e];exact .sa ih
 | @sb y hy ih=>exact .sb ih
theorem Fld.to(D:Fld M a a' b N c f o){p q:Nat}(hp:p<N)(h:Cn c f p q):Cn a' b (o p) (o q):=by
 induction h with
 | refl=>exact .refl
 | @sa y hy ih=>rw[<-D.jo y (hy.lt D.T2 hp)];exact .sa ih
 |@sb y hy ih=>
  have ly:=hy.lt D.T2 hp
  exact ih.trans (D.up (D.ol y ly) ((D.ff y _ ly (D.T2.bl y ly) (Ne.symm (D.nf y ly))).mp rfl))
theorem Fld.one(D:Fld M a a' b N c f o){p q t:Nat}(hq:q<N)(ht:t<N)(h2:Cn c f p q)(h3:Cn a b (o q) (o t)):Cn c f p t:=by
 by_cases z:q=t
 ·rw[<-z];exact h2
 ·have:=(D.ff q t hq ht z).mpr h3
  rw[<-this];exact .sb h2
theorem Fld.back(D:Fld M a a' b N c f o){p y:Nat}(hp:p<N)(h:Cn a' b (o p) y):∃ q,q<N/\Cn c f p q/\Cn a b (o q) y:=by
 induction h with
 | refl=>exact⟨p,hp,.refl,.refl⟩
 |@sa y hy ih=>
  obtain⟨q,h1,h2,h3⟩:=ih
  have ly:=h3.lt D.T (D.ol q h1)
  by_cases e:a y=y
  ·obtain⟨t,ht,rfl⟩:=D.fx y ly e
   exact⟨c t,D.T2.al t ht,.sa (D.one h1 ht h2 h3),by rw[D.jo t ht];exact .refl⟩
  ·exact⟨q,h1,h2,by rw[D.jj y ly e];exact .sa h3⟩
 |@sb y hy ih=>
  obtain⟨q,h1,h2,h3⟩:=ih
  exact⟨q,h1,h2,.sb h3⟩
theorem Fld.iff(D:Fld M a a' b N c f o){p q:Nat}(hp:p<N)(hq:q<N):Cn c f p q↔Cn a' b (o p) (o q) :=
 ⟨D.to hp,fun h=>by
  obtain⟨t,h1,h2,h3⟩:=D.back hp h
  exact D.one h1 hq h2 h3⟩
end
theorem zL(T:Two m a b):∃ S,cn m a b S:=by
 classical
 refine⟨(List.range m).filter fun x=>decide ((∀ y,Cn a b x y->a y≠y/\b y≠y)/\∀ y,Cn a b x y->x<=y),fun s hs=>?_,?_,fun s hs y c=>?_,fun x hx=>?_⟩
 ·exact List.mem_range.mp (List.mem_filter.mp hs).1
 ·refine List.Pairwise.imp_of_mem ?_ (List.pairwise_lt_range.filter _)
  intro x y hx hy lt c
  have hy:=List.mem_filter.mp hy
  have lx:=List.mem_range.mp (List.mem_filter.mp hx).1
  have:=(of_decide_eq_true hy.2).2 x (c.symm T lx)
  lia
 ·exact(of_decide_eq_true (List.mem_filter.mp hs).2).1 y c
 ·by_cases p:Pth m a b x
  ·exact .inl p
  ·refine .inr ?_
   obtain⟨k,_,hk,hm⟩:=least (P:=fun k=>Cn a b x k) x .refl
   have lk:=hk.lt T hx
   refine⟨k,List.mem_filter.mpr ⟨List.mem_range.mpr lk,decide_eq_true ⟨fun y c=>?_,fun y c=>Nat.le_of_not_lt fun z=>hm y z (hk.trans c)⟩⟩,hk.symm T hx⟩
   have cy:=hk.trans c
   have ly:=cy.lt T hx
   exact⟨fun e=>p ⟨y,ly,.inl e,cy.symm T hx⟩,fun e=>p ⟨y,ly,.inr e,cy.symm T hx⟩⟩
section
variable{m m':Nat}{a b a' b':Nat->Nat}
theorem Cn.map{t:Nat->Nat}(T:Two m a b)(ha:∀ x,x<m->t (a x)=a' (t x))(hb:∀ x,x<m->t (b x)=b' (t x)){x y:Nat}(hx:x<m)(c:Cn a b x y):Cn a' b' (t x) (t y):=by
 induction c with
 | refl=>exact .refl
 | @sa y hy ih=>rw[ha y (hy.lt T hx)];exact .sa ih
 | @sb y hy ih=>rw[hb y (hy.lt T hx)];exact .sb ih
theorem cn.map{t u:Nat->Nat}(T:Two m a b)(T':Two m a' b')(tl:∀ x,x<m->t x<m)(ul:∀ x,x<m->u x<m)(tu:∀ x,x<m->t (u x)=x)(ut:∀ x,x<m->u (t x)=x)
 (ha:∀ x,x<m->t (a x)=a' (t x))(hb:∀ x,x<m->t (b x)=b' (t x)){S:List Nat}(R:cn m a b S):cn m a' b' (S.map t):=by
 have ha':∀ x,x<m->u (a' x)=a (u x):=fun x hx=>by
  have:=ha (u x) (ul x hx)
  rw[tu x hx]at this
  rw[<-this,ut _ (T.al _ (ul x hx))]
 have hb':∀ x,x<m->u (b' x)=b (u x):=fun x hx=>by
  have:=hb (u x) (ul x hx)
  rw[tu x hx]at this
  rw[<-this,ut _ (T.bl _ (ul x hx))]
 have back:∀ {x y:Nat},x<m->Cn a' b' (t x) y->Cn a b x (u y):=fun {x y} hx c=>by
  have:=c.map T' ha' hb' (tl x hx)
  rw[ut x hx]at this
  exact this
 refine⟨fun s hs=>?_,?_,fun s hs y c=>?_,fun x hx=>?_⟩
 ·obtain⟨x,hx,rfl⟩:=List.mem_map.mp hs
  exact tl x (R.lt x hx)
 ·rw[List.pairwise_map]
  refine List.Pairwise.imp_of_mem ?_ R.nd
  intro x y hx hy hn c
  have:=back (R.lt x hx) c
  rw[ut y (R.lt y hy)]at this
  exact hn this
 ·obtain⟨x,hx,rfl⟩:=List.mem_map.mp hs
  have ly:=c.lt T' (tl x (R.lt x hx))
  have:=R.ring x hx _ (back (R.lt x hx) c)
  refine⟨fun e=>this.1 ?_,fun e=>this.2 ?_⟩
  ·rw[<-ha' y ly,e]
  ·rw[<-hb' y ly,e]
 ·rcases R.all (u x) (ul x hx)with⟨s,h1,h2,h3⟩ | ⟨s,h1,h2⟩
  ·refine .inl ⟨t s,tl s h1,?_,?_⟩
   ·rcases h2 with h2 | h2
    ·exact .inl (by rw[<-ha s h1,h2])
    ·exact .inr (by rw[<-hb s h1,h2])
   ·have:=h3.map T ha hb h1
    rw[tu x hx]at this
    exact this
  ·refine .inr ⟨t s,List.mem_map.mpr ⟨s,h1,rfl⟩,?_⟩
   have:=h2.map T ha hb (R.lt s h1)
   rw[tu x hx]at this
   exact this
end
section
variable{n:Nat}{h l f:List Nat}
end
noncomputable def j3(n x:Nat):Nat:=if x<n then x else if x<2*n then x+n else if x<3*n then x-n else if x<4*n then x+n else if x<5*n then x-n else x
noncomputable def jB(n x:Nat):Nat:=if x<3*n then x else if x<4*n then x+n else if x<5*n then x-n else x
noncomputable def r3(n:Nat)(h m l:List Nat)(x:Nat):Nat:=if x<2*n then at' h x else 2*n+rb n m l (x-2*n)
noncomputable def oB(n p:Nat):Nat:=if p<3*n then p else p+2*n
section
variable{n:Nat}{h m l:List Nat}
theorem nV(F:Frm n h){x:Nat}(hx:x<4*n):r3 n h m l x=rb n h m x:=by
 unfold r3 rb
 by_cases c:x<2*n
 ·rw[if_pos c,if_pos c]
 ·rw[if_neg c,if_neg c,if_pos (by omega)]
theorem Gq{x:Nat}(hx:4*n<=x):r3 n h m l x=4*n+at' l (x-4*n):=by
 unfold r3 rb
 rw[if_neg (by lia),if_neg (by lia),show x-2*n-2*n=x-4*n by lia]
 lia
theorem pZ{x:Nat}:r3 n h m l (2*n+x)=2*n+rb n m l x:=by
 unfold r3
 rw[if_neg (by lia),show 2*n+x-2*n=x by lia]
theorem kP(F:Frm n h)(G:Frm n m)(H:Frm n l){x:Nat}(hx:x<6*n):r3 n h m l x<6*n/\r3 n h m l (r3 n h m l x)=x/\r3 n h m l x≠x:=by
 by_cases c:x<2*n
 ·have e:r3 n h m l x=at' h x:=by unfold r3;rw[if_pos c]
  have lt:=F.lt x c
  rw[e]
  refine⟨by lia,?_,F.no x c⟩
  unfold r3
  rw[if_pos lt]
  exact F.inv x
 ·obtain⟨y,rfl⟩:∃ y,x=2*n+y:=⟨x-2*n,by omega⟩
  have T:=two G H
  have ly:y<4*n:=by lia
  have lt:=T.bl y ly
  rw[pZ]
  refine⟨by lia,by rw[pZ,T.bi y ly],?_⟩
  have:=et G H ly
  lia
theorem qq(F:Frm n h)(G:Frm n m)(H:Frm n l){j:Nat->Nat}(jl:∀ x,x<6*n->j x<6*n)(jj:∀ x,x<6*n->j (j x)=x):Two (6*n) j (r3 n h m l):=⟨jl,fun x hx=>(kP F G H hx).1,jj,fun x hx=>(kP F G H hx).2.1⟩
theorem qk{f g:List Nat}{p:Nat}(hp:p<2*n):rb n f g p=at' f p:=by unfold rb;rw[if_pos hp]
theorem qm{f g:List Nat}{p:Nat}:rb n f g (2*n+p)=2*n+at' g p:=by unfold rb;rw[if_neg (by lia),show 2*n+p-2*n=p by lia]
theorem wN{a b:Nat->Nat}{x y:Nat}(h1:a x=x)(h2:a (b x)=b x)(h3:b (b x)=x)(c:Cn a b x y):y=x\/y=b x:=by
 induction c with
 | refl=>exact .inl rfl
 |sa _ ih=>
  rcases ih with rfl | rfl
  ·exact .inl h1
  ·exact .inr h2
 |sb _ ih=>
  rcases ih with rfl | rfl
  ·exact .inr rfl
  ·exact .inl h3
set_option synthInstance.maxSize 10000 in
set_option synthInstance.maxHeartbeats 0 in
theorem AH:∀ n,n<11->∀ x,x<6*n->(jn n x<6*n/\jn n (jn n x)=x)/\(j3 n x<6*n/\j3 n (j3 n x)=x)/\(jB n x<6*n/\jB n (jB n x)=x)/\(jn n x=x->x<n\/3*n<=x)/\(jn n x≠x->j3 n x=jn n x)/\(jB n x=x->x<3*n\/5*n<=x)/\(jB n x≠x->j3 n x=jB n x):=by decide +kernel
set_option synthInstance.maxSize 10000 in
set_option synthInstance.maxHeartbeats 0 in
theorem Ao:∀ n,n<11->∀ p,p<4*n->(out n p<6*n/\jn n (out n p)=out n p/\j3 n (out n p)=out n (jn n p))/\(oB n p<6*n/\jB n (oB n p)=oB n p/\j3 n (oB n p)=oB n (jn n p)):=by decide +kernel
theorem eT{p:Nat}(c:¬ p<n):out n p=p+2*n:=by unfold out;rw[if_neg c]
theorem gS{p:Nat}(c:p<n):out n p=p:=by unfold out;rw[if_pos c]
theorem iy{p:Nat}(c:p<3*n):oB n p=p:=by unfold oB;rw[if_pos c]
theorem kQ{p:Nat}(c:¬ p<3*n):oB n p=p+2*n:=by unfold oB;rw[if_neg c]
theorem vp{p q:Nat}(e:out n p=out n q):p=q:=by
 by_cases c:p<n
 ·rw[gS c]at e
  by_cases d:q<n
  ·rw[gS d]at e;exact e
  ·rw[eT d]at e;lia
 ·rw[eT c]at e
  by_cases d:q<n
  ·rw[gS d]at e;lia
  ·rw[eT d]at e;lia
theorem zZ{p q:Nat}(e:oB n p=oB n q):p=q:=by
 by_cases c:p<3*n
 ·rw[iy c]at e
  by_cases d:q<3*n
  ·rw[iy d]at e;exact e
  ·rw[kQ d]at e;lia
 ·rw[kQ c]at e
  by_cases d:q<3*n
  ·rw[iy d]at e;lia
  ·rw[kQ d]at e;lia
theorem Fj(hn:n<11)(F:Frm n h)(G:Frm n m)(H:Frm n l):Fld (6*n) (jn n) (j3 n) (r3 n h m l) (4*n) (jn n) (rb n (ay n h m) l) (out n):=by
 have FF:=cS F G
 have f3:=AH n hn
 have f4:=Ao n hn
 have T4:Two (4*n) (jn n) (rb n h m):=two F G
 have T4':Two (4*n) (jn n) (r3 n h m l):=⟨T4.al,fun x hx=>by rw[nV F hx];exact T4.bl x hx,T4.ai,fun x hx=>by rw[nV F hx,nV F (T4.bl x hx)];exact T4.bi x hx⟩
 refine⟨qq F G H (fun x hx=>(f3 x hx).1.1) (fun x hx=>(f3 x hx).1.2),qq F G H (fun x hx=>(f3 x hx).2.1.1) (fun x hx=>(f3 x hx).2.1.2),two FF H,
  fun p hp=>(f4 p hp).1.1,fun p q _ _ e=>vp e,fun x hx e=>?_,fun p hp=>(f4 p hp).1.2.1,fun p hp=>(f4 p hp).1.2.2,fun x hx e=>(f3 x hx).2.2.2.2.1 e,fun p q hp hq ne=>?_,fun x hx=>(kP F G H hx).2.2,fun p hp=>et FF H hp⟩
 ·rcases(f3 x hx).2.2.2.1 e with c | c
  ·exact⟨x,by lia,(gS c).symm⟩
  ·exact⟨x-2*n,by lia,by rw[eT (by lia)];lia⟩
 ·by_cases c:p<2*n
  ·have lo:=aZ c
   rw[qk c]
   constructor
   ·rintro rfl
    have lf:=FF.lt p c
    exact((found_iff F G c lf ne).mp rfl).map T4 (t:=fun x=>x) (fun x hx=>rfl) (fun x hx=>(nV F hx).symm) lo
   ·intro z
    have z:=z.map T4' (t:=fun x=>x) (a':=jn n) (b':=rb n h m) (fun x hx=>rfl) (fun x hx=>nV F hx) lo
    have lz:=z.lt T4 lo
    have lq:q<2*n:=by
     by_cases d:q<n
     ·lia
     ·rw[eT d]at lz;lia
    exact(found_iff F G c lq ne).mpr z
  ·obtain⟨y,rfl⟩:∃ y,p=2*n+y:=⟨p-2*n,by lia⟩
   have ly:y<2*n:=by lia
   have la:=H.lt y ly
   have eo:∀ y,out n (2*n+y)=4*n+y:=fun y=>by rw[eT (by lia)];lia
   have er:∀ y,r3 n h m l (4*n+y)=4*n+at' l y:=fun y=>by rw[Gq (by lia),Nat.add_sub_cancel_left]
   have ej:∀ y,jn n (4*n+y)=4*n+y:=fun y=>by unfold jn;rw[if_neg (by lia),if_neg (by lia),if_neg (by lia)]
   rw[qm,eo]
   constructor
   ·rintro rfl
    rw[eo,<-er]
    exact .sb .refl
   ·intro z
    have e2:=(kP (l:=l) F G H (x:=4*n+y) (by lia)).2.1
    rcases wN (ej y) (by rw[er,ej]) e2 z with w | w
    ·exact absurd (vp ((eo y).trans w.symm)) ne
    ·rw[er,<-eo]at w
     exact vp w.symm
theorem FK(y:Nat):jB n (2*n+y)=2*n+jn n y:=by
 unfold jB jn
 by_cases c:y<n
 ·rw[if_pos c,if_pos (by lia)]
 ·rw[if_neg c,if_neg (by lia)]
  by_cases d:y<2*n
  ·rw[if_pos d,if_pos (by lia)];lia
  ·rw[if_neg d,if_neg (by lia)]
   by_cases e:y<3*n
   ·rw[if_pos e,if_pos (by lia)];lia
   ·rw[if_neg e,if_neg (by lia)]
theorem DY(hn:n<11)(F:Frm n h)(G:Frm n m)(H:Frm n l):Fld (6*n) (jB n) (j3 n) (r3 n h m l) (4*n) (jn n) (rb n h (ay n m l)) (oB n):=by
 have FF:=cS G H
 have f3:=AH n hn
 have f4:=Ao n hn
 have T4:Two (4*n) (jn n) (rb n m l):=two G H
 have eo:∀ y,oB n (2*n+y)=2*n+out n y:=fun y=>by
  by_cases c:y<n
  ·rw[iy (by lia),gS c]
  ·rw[kQ (by lia),eT c];lia
 have ej:=FK (n:=n)
 refine⟨qq F G H (fun x hx=>(f3 x hx).2.2.1.1) (fun x hx=>(f3 x hx).2.2.1.2),qq F G H (fun x hx=>(f3 x hx).2.1.1) (fun x hx=>(f3 x hx).2.1.2),two F FF,
  fun p hp=>(f4 p hp).2.1,fun p q _ _ e=>zZ e,fun x hx e=>?_,fun p hp=>(f4 p hp).2.2.1,fun p hp=>(f4 p hp).2.2.2,fun x hx e=>(f3 x hx).2.2.2.2.2.2 e,fun p q hp hq ne=>?_,fun x hx=>(kP F G H hx).2.2,fun p hp=>et F FF hp⟩
 ·rcases(f3 x hx).2.2.2.2.2.1 e with c | c
  ·exact⟨x,by lia,(iy c).symm⟩
  ·exact⟨x-2*n,by lia,by rw[kQ (by lia)];lia⟩
 ·by_cases c:p<2*n
  ·have la:=F.lt p c
   have eb:∀ {y:Nat},y<2*n->oB n y=y:=fun {y} hy=>iy (by lia)
   have er:∀ {y:Nat},y<2*n->r3 n h m l y=at' h y:=fun {y} hy=>by unfold r3;rw[if_pos hy]
   have ejj:∀ {y:Nat},y<2*n->jB n y=y:=fun {y} hy=>by unfold jB;rw[if_pos (by lia)]
   rw[qk c,eb c]
   constructor
   ·rintro rfl
    rw[eb la,<-er c]
    exact .sb .refl
   ·intro z
    have e2:=(kP (l:=l) F G H (x:=p) (by lia)).2.1
    rcases wN (ejj c) (by rw[er c,ejj la]) e2 z with w | w
    ·exact absurd (zZ ((eb c).trans w.symm)) ne
    ·rw[er c,<-eb la]at w
     exact zZ w.symm
  ·obtain⟨y,rfl⟩:∃ y,p=2*n+y:=⟨p-2*n,by lia⟩
   have ly:y<2*n:=by lia
   have lo:=aZ ly
   rw[qm,eo]
   constructor
   ·rintro rfl
    have lf:=FF.lt y ly
    rw[eo]
    exact((found_iff G H ly lf (by lia)).mp rfl).map T4 (t:=fun x=>2*n+x) (fun x hx=>(ej x).symm) (fun x hx=>pZ.symm) lo
   ·intro z
    have back:∀ {x w:Nat},x<4*n->Cn (jB n) (r3 n h m l) (2*n+x) w->∃ v,w=2*n+v/\Cn (jn n) (rb n m l) x v:=fun {x w} hx cc=>by
     induction cc with
     | refl=>exact⟨x,rfl,.refl⟩
     |sa _ ih=>
      obtain⟨v,rfl,hv⟩:=ih
      exact⟨_,ej v,.sa hv⟩
     |sb _ ih=>
      obtain⟨v,rfl,hv⟩:=ih
      exact⟨_,pZ,.sb hv⟩
    obtain⟨v,hv,cv⟩:=back lo z
    obtain⟨u,rfl⟩:∃ u,q=2*n+u:=⟨q-2*n,by
     by_cases d:q<3*n
     ·rw[iy d]at hv;lia
     ·lia⟩
    rw[eo]at hv
    have:v=out n u:=Nat.add_left_cancel hv.symm
    subst this
    rw[(found_iff G H ly (show u<2*n by lia) (by lia)).mpr cv]
theorem lT(hn:n<11)(F:Frm n h)(G:Frm n m)(H:Frm n l):ay n (ay n h m) l=ay n h (ay n m l):=by
 have A:=cS F G
 have B:=cS G H
 have C:=cS A H
 refine eZ dG dG fun p hp=>?_
 have lq:=C.lt p hp
 have ne:=Ne.symm (C.no p hp)
 have c1:=((Fj hn F G H).iff (aZ hp) (aZ lq)).mp ((found_iff A H hp lq ne).mp rfl)
 have e:∀ {p:Nat},p<2*n->out n (out n p)=oB n (out n p):=fun {p} hp=>by
  by_cases c:p<n
  ·rw[gS c,gS c,iy (by lia)]
  ·rw[eT c,eT (by lia),kQ (by lia)]
 rw[e hp,e lq]at c1
 exact((found_iff F B hp lq ne).mpr (((DY hn F G H).iff (aZ hp) (aZ lq)).mpr c1)).symm
end
end RM
set_option maxHeartbeats 1000000
namespace RM
open RL RT
section
variable{n:Nat}{f g h l:List Nat}
theorem nI{x:Nat}(c:x<n):stp n h l (true,x)=(true,x):=by
 unfold stp
 rw[if_neg (by simp;exact c)]
theorem rX{x:Nat}(c:¬ x<n):stp n h l (false,x)=(false,x):=by
 unfold stp
 rw[if_neg (by simp;lia)]
theorem yd{x:Nat}(c:¬ x<n)(d:x<2*n):stp n h l (true,x)=(false,at' l (x-n)):=by
 unfold stp
 rw[if_pos (by simp;lia)]
 show(false,at' l ((x+n)%(2*n)))=_
 rw[show(x+n)%(2*n)=x-n by rw[Nat.mod_eq_sub_mod (by lia),Nat.mod_eq_of_lt (by omega)];lia]
theorem wF{x:Nat}(c:x<n):stp n h l (false,x)=(true,at' h (x+n)):=by
 unfold stp
 rw[if_pos (by simp;exact c)]
 show(true,at' h ((x+n)%(2*n)))=_
 rw[Nat.mod_eq_of_lt (by lia)]
theorem D9(h1:1<=n)(F:Frm n f)(G:Frm n g)(s:∀ p,p<n->at' f p<n->at' g p=at' f p):ay n (cU n f) g=g:=by
 have q:∀ x,x<n->¬ at' f x<n->(∀ i,(itr n (cU n f) g (i+1) (false,at' g x)).2=at' g x):=by
  intro x hx nx i
  by_cases c:at' g x<n
  ·have k:¬ at' f (at' g x)<n:=fun k=>by
    have:=s _ c k
    rw[G.inv]at this
    have e:=F.inv (at' g x)
    rw[<-this]at e
    lia
   have e:stp n (cU n f) g (false,at' g x)=(true,at' g x):=by
    rw[wF c,nO (by lia),if_neg (by lia),show at' g x+n-n=at' g x by lia,if_neg k]
   rw[eG e (nI c)]
  ·rw[cW (rX c)]
 apply xG (n:=n) (by simp[ay]) G.len
 funext p
 by_cases hp:p<2*n
 ·rw[show at' (ay n (cU n f) g) p=(itr n (cU n f) g (4*n) (beg n (cU n f) g p)).2 by simp[ay,at',hp],show 4*n=(4*n-2)+2 by lia]
  by_cases c:p<n
  ·rw[show beg n (cU n f) g p=(true,at' (cU n f) p) by simp[beg,c,pick],nO hp,if_pos c]
   by_cases d:at' f p<n
   ·rw[if_pos d,cW (nI d),s p c d]
   ·rw[if_neg d]
    have e:stp n (cU n f) g (true,p+n)=(false,at' g p):=by rw[yd (by lia) (by lia),show p+n-n=p by lia]
    have step:∀ i,itr n (cU n f) g (i+1) (true,p+n)=itr n (cU n f) g i (false,at' g p):=fun i=>by
     induction i with
     | zero=>exact e
     | succ i ih=>rw[itr,ih];rfl
    rw[step]
    exact q p c d _
  ·rw[show beg n (cU n f) g p=(false,at' g p) by simp[beg,c,pick]]
   by_cases d:at' g p<n
   ·have k:¬ at' f (at' g p)<n:=fun k=>by
     have:=s _ d k
     rw[G.inv]at this
     lia
    have e:stp n (cU n f) g (false,at' g p)=(true,at' g p):=by
     rw[wF d,nO (by lia),if_neg (by lia),show at' g p+n-n=at' g p by lia,if_neg k]
    rw[eG e (nI d)]
   ·rw[cW (rX d)]
 ·rw[di (by simp[ay];lia),di (by rw[G.len];lia)]
theorem zl(h1:1<=n)(hn:n<=10)(F:Frm n f)(O:Frm n (bp n f))(G:Frm n g)(s:∀ p,p<n->at' f p<n->at' g p=at' f p):ay n f (ay n (bp n f) g)=g:=by
 rw[<-lT (by lia) F O G,ye h1 F,D9 h1 F G s]
end
end RM
set_option maxHeartbeats 1000000
namespace RT
open RL
noncomputable def uE(f_hung f_over f_ties f_pegs_of f_check_two_frames:Nat):Fn :=
 ⟨2,6,[],[],(.cons (.exc (.call f_check_two_frames (.cons (.var 0) (.cons (.var 1) .nil)))) (.cons (.asg 2 (.call f_pegs_of (.cons (.var 0) .nil))) (.cons (.asg 3 (.comp (.tup (.cons (.var 4) (.cons (.var 5) .nil))) [4,5] (.seq (.call f_ties (.cons (.var 0) .nil))) (.and (.cmp .lt (.var 5) (.var 2)) (.cmp .ne (.ix (.var 1) (.var 4)) (.var 5))))) (.cons (.ife (.var 3) (.cons (.ret (.bin .add (.tup (.cons (.cst (.str "bar")) .nil)) (.ix (.var 3) (.cst (.int 0))))) .nil) .nil) (.cons (.ret (.tup (.cons (.cst (.str "frame")) (.cons (.ix (.call f_hung (.cons (.call f_over (.cons (.var 0) .nil)) (.cons (.var 1) .nil))) (.cst (.int 0))) .nil)))) .nil)))))⟩
end RT
namespace RM
open RL RT
noncomputable def mis(n:Nat)(f g:List Nat):List Nat:=((List.range (2*n)).filter fun p=>decide (p<at' f p)).filter fun p=>decide (at' f p<n) && !decide (at' g p=at' f p)
noncomputable def yz(p q:Nat):D:=.tup [.str "bar",.int (p:Nat),.int (q:Nat)]
noncomputable def ET(f:List Nat):D:=.tup [.str "frame",.tup (L f)]
noncomputable def vE(n:Nat)(f g:List Nat):List Nat->D
 | []=>ET (ay n (bc n (ovr n) (ovr n) f) g)
 | p::_=>yz p (at' f p)
theorem AU(n:Nat)(f g:List Nat):∀ m,(vE n f g m).imm=true
 | []=>by
  rw[vE,show ∀ x:List Nat,(ET x).imm=(aq (L x)&&true)from fun _=>rfl,aK]
  rfl
 | _::_=>rfl
theorem u6(f:List Nat):∀ xs:List Nat,aq (xs.map (pr f))=true
 | []=>rfl
 | x::r=>u6 f r
theorem Gi(p q:Nat):aB .add (.tup [.str "bar"]) (.tup [.int (p:Nat),.int (q:Nat)])=some (yz p q):=rfl
theorem Hb(a b:Nat):(!((a:Int) == (b:Int)))=!decide (a=b):=by
 by_cases c:a=b
 ·subst c;simp
 ·rw[decide_eq_false c,beq_eq_false_iff_ne.mpr (by lia)]
section
variable{T:List Fn}{nu pc pa nb un if' cf po rp ir mv rn mk rg jb pu c2 hu:Nat}
theorem Hg.ck2(H:Hg T cf po rn mk rg jb pu c2 hu)(C:Ck T nu pc pa nb un if' cf po rp ir mv)(n:Nat){k:Nat}(h1:1<=k)(hk:k<=10)(V:Val k f)(W:Val k g):au T (n+6) c2 [.tup (L f),.tup (L g)]=some .non :=
 (ao H.Dy).trans (nS rfl rfl (df (b8 (aa rfl) (C.check n h1 hk V)) (df (b8 (aa rfl) (C.check n h1 hk W)) (br (aI (a8 (aO (aa rfl) (half (n:=k) (by rw[aF,V.frm.len]))) (aO (aa rfl) (half (n:=k) (by rw[aF,W.frm.len]))) (by rw[m9];simp))) aC))))
theorem Hg.below(H:Hg T cf po rn mk rg jb pu c2 hu)(C:Ck T nu pc pa nb un if' cf po rp ir mv){cp pl ov ti be:Nat}(hcp:T[cp]?=some (bV pc))(hpl:T[pl]?=some (fD cp))(hov:T[ov]?=some (jf mv pl po cf))(hti:T[ti]?=some (jX cf))(hbe:T[be]?=some (uE hu ov ti po c2))(n:Nat){k:Nat}(h1:1<=k)(hk:k<=10)(V:Val k f)(W:Val k g) :
  au T (n+8) be [.tup (L f),.tup (L g)]=some (vE k f g (mis k f g)):=by
 have F:=V.frm
 have G:=W.frm
 have mc:=iL (F:=fun σ1=>((ev (au T (n+7)) σ1 (.and (.cmp .lt (.var 5) (.var 2)) (.cmp .ne (.ix (.var 1) (.var 4)) (.var 5)))).bind truth).bind fun k=>if k then(ev (au T (n+7)) σ1 (.tup (.cons (.var 4) (.cons (.var 5) .nil)))).map some else some none) (tg:=[4,5]) (σ:=[some (.tup (L f)),some (.tup (L g)),some (.int (k:Nat)),none,none,none]) (h:=pr f) (g:=pr f) (c:=fun p=>decide (at' f p<k) && !decide (at' g p=at' f p)) (fun _=>rfl) ((List.range (2*k)).filter fun p=>decide (p<at' f p)) (by
  intro p hp
  have hp:p<2*k:=List.mem_range.mp (List.mem_filter.mp hp).1
  show((ev (au T (n+7)) [some (.tup (L f)),some (.tup (L g)),some (.int (k:Nat)),none,some (.int (p:Nat)),some (.int (at' f p:Nat))] (.and (.cmp .lt (.var 5) (.var 2)) (.cmp .ne (.ix (.var 1) (.var 4)) (.var 5)))).bind truth).bind (fun kk=>if kk then(ev (au T (n+7)) [some (.tup (L f)),some (.tup (L g)),some (.int (k:Nat)),none,some (.int (p:Nat)),some (.int (at' f p:Nat))] (.tup (.cons (.var 4) (.cons (.var 5) .nil)))).map some else some none)=_
  have t:ev (au T (n+7)) [some (.tup (L f)),some (.tup (L g)),some (.int (k:Nat)),none,some (.int (p:Nat)),some (.int (at' f p:Nat))] (.tup (.cons (.var 4) (.cons (.var 5) .nil)))=some (pr f p):=gz (a6 (aa rfl) (a6 (aa rfl) bu))
  by_cases c:at' f p<k
  ·rw[aI (cq (a8 (k:=true) (aa rfl) (aa rfl) (by rw[c6];simp;exact c)) (a8 (b9 (aa rfl) (aa rfl) (dk (by rw[G.len];exact hp))) (aa rfl) m9)),Hb,decide_eq_true c,Bool.true_and,Option.bind_some,t]
   split<;>rfl
  ·rw[aI (fW (a8 (k:=false) (aa rfl) (aa rfl) (by rw[c6];simp;lia))),decide_eq_false c,Bool.false_and]
   rfl)
 have lm:(((List.range (2*k)).filter fun p=>decide (p<at' f p)).map (pr f)).length<=most:=by
  rw[List.length_map]
  refine Nat.le_trans (List.length_filter_le _ _) ?_
  rw[List.length_range]
  unfold most
  lia
 have last:∀ m:List Nat,∃ σ',af (au T (n+7)) [] (.cons (.ife (.var 3) (.cons (.ret (.bin .add (.tup (.cons (.cst (.str "bar")) .nil)) (.ix (.var 3) (.cst (.int 0))))) .nil) .nil) (.cons (.ret (.tup (.cons (.cst (.str "frame")) (.cons (.ix (.call hu (.cons (.call ov (.cons (.var 0) .nil)) (.cons (.var 1) .nil))) (.cst (.int 0))) .nil)))) .nil)) [some (.tup (L f)),some (.tup (L g)),some (.int (k:Nat)),some (.lst (m.map (pr f))),none,none]=some (.rt (vE k f g m),σ'):=by
  intro m
  cases m with
  |nil=>
   obtain⟨S,_,e⟩:=H.sO C n h1 hk ((bG k).val V) W
   exact⟨_,br (by rw[aa rfl];rfl) (aL (gz (a6 aj (a6 (b9 (c9 (b8 (aa rfl) (C.over hcp hpl hov (n+1) h1 hk V)) (aa rfl) e) aj rfl) bu))) (by
    unfold aS
    rw[AU]
    rfl))⟩
  | cons p r=>exact⟨_,dI (by rw[aa rfl];rfl) (aL (az (gz (a6 aj bu)) (b9 (aa rfl) aj rfl) (Gi p (at' f p))) rfl)⟩
 obtain⟨σ',e⟩:=last (mis k f g)
 exact(ao hbe).trans (aN rfl rfl (df (c9 (aa rfl) (aa rfl) (H.ck2 C (n+1) h1 hk V W)) (a7 (b8 (aa rfl) (C.half (n+6) F.len)) rfl (a7 (d:=.lst ((mis k f g).map (pr f))) (sk (cK (b8 (aa rfl) (C.Hc hti (n+1) h1 hk V)) rfl) lm mc) (by unfold aQ;rw[show a9 (.lst ((mis k f g).map (pr f)))=true from u6 f _];rfl) e))))
end
noncomputable def rgN(n:Nat)(h l:List Nat):Nat:=Classical.epsilon fun r=>∃ S,cn (4*n) (jn n) (rb n h l) S/\S.length=r
section
variable{n:Nat}{h l h' l':List Nat}
theorem A6(F:Frm n h)(G:Frm n l){S:List Nat}(R:cn (4*n) (jn n) (rb n h l) S):rgN n h l=S.length:=by
 have:=Classical.epsilon_spec (p:=fun r=>∃ S,cn (4*n) (jn n) (rb n h l) S/\S.length=r) ⟨_,S,R,rfl⟩
 obtain⟨S',R',e⟩:=this
 exact e.symm.trans (R'.one (two F G) R)
theorem wD{s t s':Nat->Nat}(W:Way n s s')(F:Frm n h)(G:Frm n l)(F':Frm n h')(G':Frm n l')(tl:∀ x,x<4*n->t x<4*n)(tt:∀ x,x<4*n->t (t x)=x)(tj:∀ x,x<4*n->t (jn n x)=jn n (t x))(tb:∀ x,x<4*n->t (rb n h l x)=rb n h' l' (t x))(to:∀ p,p<2*n->t (out n p)=out n (s p)) :
  ay n h' l'=bc n s s' (ay n h l)/\rgN n h' l'=rgN n h l:=by
 have FF:=cS F G
 have T:=two F G
 constructor
 ·refine xm W dG fun p hp=>?_
  have lq:=FF.lt p hp
  have ne:=Ne.symm (FF.no p hp)
  have c:=((found_iff F G hp lq ne).mp rfl).map T tj tb (aZ hp)
  rw[to p hp,to _ lq]at c
  exact(found_iff F' G' (W.lt p hp) (W.lt _ lq) (fun e=>ne ((W.bt p hp).symm.trans ((congrArg s' e).trans (W.bt _ lq))))).mpr c
 ·obtain⟨S,R⟩:=zL T
  have R':=R.map T (two F' G') (t:=t) (u:=t) tl tl tt tt tj tb
  rw[A6 F' G' R',A6 F G R,List.length_map]
noncomputable def ovT(n x:Nat):Nat:=if x<2*n then 2*n+ovr n x else ovr n (x-2*n)
noncomputable def miT(n x:Nat):Nat:=if x<2*n then mir n x else 2*n+mir n (x-2*n)
set_option synthInstance.maxSize 10000 in
set_option synthInstance.maxHeartbeats 0 in
theorem GC:∀ n,n<11->∀ x,x<4*n->(ovT n x<4*n/\ovT n (ovT n x)=x/\ovT n (jn n x)=jn n (ovT n x))/\(miT n x<4*n/\miT n (miT n x)=x/\miT n (jn n x)=jn n (miT n x)):=by decide +kernel
theorem G0:∀ n,n<11->∀ p,p<2*n->ovT n (out n p)=out n (ovr n p)/\miT n (out n p)=out n (mir n p):=by decide +kernel
theorem xR(hn:n<=10)(V:Val n h)(W:Val n l):ay n (bc n (ovr n) (ovr n) l) (bc n (ovr n) (ovr n) h)=bc n (ovr n) (ovr n) (ay n h l)/\rgN n (bc n (ovr n) (ovr n) l) (bc n (ovr n) (ovr n) h)=rgN n h l:=by
 have wo:=bG n
 have oo:∀ {p},p<2*n->ovr n (ovr n p)=p:=fun {p} hp=>wo.bt p hp
 have f:=GC n (by lia)
 refine wD (t:=ovT n) wo V.frm W.frm (wo.val W).frm (wo.val V).frm (fun x hx=>(f x hx).1.1) (fun x hx=>(f x hx).1.2.1) (fun x hx=>(f x hx).1.2.2) (fun x hx=>?_) (fun p hp=>(G0 n (by lia) p hp).1)
 unfold ovT
 by_cases c:x<2*n
 ·have lx:=V.frm.lt x c
  rw[qk c,if_pos lx,if_pos c,qm,bP (wo.lt x c),oo c]
 ·obtain⟨y,rfl⟩:∃ y,x=2*n+y:=⟨x-2*n,by lia⟩
  have ly:y<2*n:=by lia
  rw[qm,if_neg (by lia),if_neg c,Nat.add_sub_cancel_left,Nat.add_sub_cancel_left,qk (wo.lt y ly),bP (wo.lt y ly),oo ly]
end
end RM
set_option maxHeartbeats 1000000
namespace RT
open RL
noncomputable def lG(f_pegs_of f_check_frame:Nat):Fn :=
 ⟨1,4,[],[],(.cons (.exc (.call f_check_frame (.cons (.var 0) .nil))) (.cons (.asg 1 (.call f_pegs_of (.cons (.var 0) .nil))) (.cons (.ret (.bi .tuple (.compA (.ifx (.cmp .lt (.var 3) (.var 1)) (.var 3) (.var 2)) [2,3] (.enm (.slT (.var 0) (.var 1)))))) .nil)))⟩
noncomputable def uB(f_upper f_over:Nat):Fn :=
 ⟨1,1,[],[],(.cons (.ret (.call f_upper (.cons (.call f_over (.cons (.var 0) .nil)) .nil))) .nil)⟩
end RT
namespace RM
open RL RT
noncomputable def up(n:Nat)(f:List Nat)(p:Nat):Nat:=if at' f p<n then at' f p else p
noncomputable def upL(n:Nat)(f:List Nat):List Nat:=(List.range n).map (up n f)
section
variable{cl:Cl}{n:Nat}{f:List Nat}
theorem kN:(upL n f).length=n:=by simp[upL]
theorem dm{p:Nat}(h:p<n):at' (upL n f) p=up n f p:=by simp[upL,at',h]
theorem Gw(F:Frm n f){p:Nat}(h:p<n):at' (f.take n) p=at' f p:=by
 rw[oZ F]
 simp[at',h]
theorem vT{fo fc:Nat}(h1:1<=n)(hn:n<=10)(F:Frm n f)(hc:cl fc [.tup (L f)]=some .non)(ho:cl fo [.tup (L f)]=some (.int (n:Nat))):evF cl (lG fo fc) [.tup (L f)]=some (.tup (L (upL n f))):=by
 have hl:(f.take n).length=n:=by rw[List.length_take,F.len];lia
 have en:=gQ hl
 have sl:kc (.tup (L f)) (.int (n:Nat))=some (.tup (L (f.take n))):=by
  have c:cutAt (L f).length (n:Nat)=n:=by
   unfold cutAt
   rw[if_pos (by lia),Int.toNat_natCast,aF,F.len]
   lia
  show(if cutAt (L f).length (n:Nat)<(L f).length then some (D.tup ((L f).take (cutAt (L f).length (n:Nat))))else none)=_
  rw[c,if_pos (by rw[aF,F.len];lia),sA]
 have mc:=eR (F:=fun σ1=>(ev cl σ1 (.ifx (.cmp .lt (.var 3) (.var 1)) (.var 3) (.var 2))).map some) (tg:=[2,3]) (σ:=[some (.tup (L f)),some (.int (n:Nat)),none,none]) (h:=pr (f.take n)) (g:=fun p=>.int (up n f p:Nat)) (fun _=>rfl) (List.range n) (by
  intro p hp
  have hp:=List.mem_range.mp hp
  show(ev cl [some (.tup (L f)),some (.int (n:Nat)),some (.int (p:Nat)),some (.int (at' (f.take n) p:Nat))] (.ifx (.cmp .lt (.var 3) (.var 1)) (.var 3) (.var 2))).map some=_
  rw[Gw F hp]
  unfold up
  by_cases c:at' f p<n
  ·rw[kY (k:=true) (aI (a8 (aa rfl) (aa rfl) (by rw[c6];simp;exact c))) (aa rfl),if_pos c]
   rfl
  ·rw[kY (k:=false) (aI (a8 (aa rfl) (aa rfl) (by rw[c6];simp;lia))) (aa rfl),if_neg c]
   rfl)
 rw[<-en]at mc
 have lm:(cF 0 (L (f.take n))).length<=most:=by rw[en,List.length_map,List.length_range];unfold most;lia
 have e:((List.range n).map fun p=>D.int (up n f p:Nat))=L (upL n f):=by unfold upL L;rw[List.map_map];rfl
 rw[e]at mc
 exact aN rfl rfl (df (b8 (aa rfl) hc) (a7 (b8 (aa rfl) ho) rfl (aL (aO (cb (jg (vt (aa rfl) (aa rfl) sl) rfl) lm mc) rfl) (by unfold aS;rw[show ∀ x:List Nat,(D.tup (L x)).imm=aq (L x)from fun _=>rfl,aK];rfl))))
end
section
variable{T:List Fn}{nu pc pa nb un if' cf po rp ir mv:Nat}
theorem Ck.upper(C:Ck T nu pc pa nb un if' cf po rp ir mv){up':Nat}(hup:T[up']?=some (lG po cf))(n:Nat){k:Nat}(h1:1<=k)(hk:k<=10)(V:Val k f):au T (n+6) up' [.tup (L f)]=some (.tup (L (upL k f))) :=
 (ao hup).trans (vT h1 hk V.frm (C.check n h1 hk V) (C.half (n+4) V.frm.len))
theorem Ck.lower(C:Ck T nu pc pa nb un if' cf po rp ir mv){up' cp pl ov lw:Nat}(hup:T[up']?=some (lG po cf))(hcp:T[cp]?=some (bV pc))(hpl:T[pl]?=some (fD cp))(hov:T[ov]?=some (jf mv pl po cf))(hlw:T[lw]?=some (uB up' ov))(n:Nat){k:Nat}(h1:1<=k)(hk:k<=10)(V:Val k f):au T (n+7) lw [.tup (L f)]=some (.tup (L (upL k (bc k (ovr k) (ovr k) f)))) :=
 (ao hlw).trans (aN rfl rfl (aL (b8 (b8 (aa rfl) (C.over hcp hpl hov n h1 hk V)) (C.upper hup n h1 hk ((bG k).val V))) (by unfold aS;rw[show ∀ x:List Nat,(D.tup (L x)).imm=aq (L x)from fun _=>rfl,aK];rfl)))
end
section
variable{n:Nat}{f:List Nat}
theorem FJ(F:Frm n f):bc n (ovr n) (ovr n) (bc n (ovr n) (ovr n) f)=f:=by
 rw[BK (bG n) (bG n)]
 exact Cy F (fun p hp=>(bG n).bt p hp) (fun p hp=>(bG n).bt p hp)
theorem nQ(F:Frm n f){p:Nat}(hp:p<n):at' (bc n (ovr n) (ovr n) f) p=if at' f (n+p)<n then at' f (n+p)+n else at' f (n+p)-n:=by
 rw[bP (by lia),mP hp,Nat.add_comm p n]
 rfl
end
noncomputable def Has(n:Nat)(a b:List Nat):Prop:=∀ p,p<n->at' a p<n->at' b p=at' a p
section
variable{n:Nat}{a b h l:List Nat}
theorem xE(hp:∀ p,p<n->at' h p<n->p<2*n):Has n h (ay n h l):=fun p c d=>by
 rw[mB (by lia),show beg n h l p=(true,at' h p) by simp[beg,c,pick],cW (nI d)]
theorem Has.ups(H:Has n a b)(A:Frm n a)(B:Frm n b):upL n b=upL n a↔Has n b a:=by
 constructor
 ·intro e p hp c
  have:=congrArg (fun l=>at' l p) e
  simp only[dm hp]at this
  unfold RM.up at this
  rw[if_pos c]at this
  by_cases d:at' a p<n
  ·rw[if_pos d]at this
   exact this.symm
  ·rw[if_neg d]at this
   exact absurd this (B.no p (by lia))
 ·intro k
  unfold upL
  apply List.map_congr_left
  intro p hp
  have hp:=List.mem_range.mp hp
  unfold RM.up
  by_cases d:at' a p<n
  ·rw[if_pos d,H p hp d,if_pos d]
  ·rw[if_neg d,if_neg fun c=>?_]
   have:=k p hp c
   lia
theorem Bm(A:Frm n a)(B:Frm n b)(hm:mis n a b=[]->Has n a b):mis n a b=[]↔Has n a b:=by
 refine⟨hm,fun k=>?_⟩
 unfold mis
 rw[List.filter_filter]
 refine List.filter_eq_nil_iff.mpr fun p hp c=>?_
 simp only[Bool.and_eq_true,Bool.not_eq_true',decide_eq_true_eq,decide_eq_false_iff_not]at c
 exact c.1.2 (k p (by lia) c.1.1)
end
end RM
set_option maxHeartbeats 1000000
namespace RM
open RL RT
structure Hf(n:Nat)(h:List Nat):Prop where
 len:h.length=n
 lt:∀ q,q<n->at' h q<n
 inv:∀ q,q<n->at' h (at' h q)=q
 nx:Nx (at' h) n
noncomputable def fx(n:Nat)(h:List Nat):List Nat:=(List.range n).filter fun q=>decide (at' h q=q)
section
variable{n:Nat}{f h a b:List Nat}
theorem kD{q:Nat}:q∈fx n h↔q<n/\at' h q=q:=by
 unfold fx
 rw[List.mem_filter,List.mem_range,decide_eq_true_eq]
theorem As:(fx n h).Pairwise (·<·):=by
 unfold fx
 exact List.Pairwise.filter _ List.pairwise_lt_range
theorem bE{k:Nat}(hk:k<(fx n h).length):at' (fx n h) k<n/\at' h (at' (fx n h) k)=at' (fx n h) k:=by
 have e:at' (fx n h) k=(fx n h)[k]:=by simp[at',hk]
 rw[e]
 exact kD.mp (List.getElem_mem hk)
theorem lK{k m:Nat}(h1:k<m)(hm:m<(fx n h).length):at' (fx n h) k<at' (fx n h) m:=by
 have e:at' (fx n h) k=(fx n h)[k]'(by lia):=by simp[at',show k<(fx n h).length by lia]
 have e':at' (fx n h) m=(fx n h)[m]:=by simp[at',hm]
 rw[e,e']
 exact List.pairwise_iff_getElem.mp As k m (by lia) hm h1
theorem gn{q:Nat}(hq:q<n)(e:at' h q=q):∃ k,k<(fx n h).length/\at' (fx n h) k=q:=by
 obtain⟨k,hk,ek⟩:=List.getElem_of_mem (kD.mpr ⟨hq,e⟩)
 exact⟨k,hk,by simp[at',hk,ek]⟩
theorem Ej(V:Val n f){p q:Nat}(hp:p<n)(hq:q<n)(c:at' f p<n):¬ (p<q/\q<at' f p/\(at' f p<at' f q\/n<=at' f q)):=by
 rintro⟨c1,c2,c3⟩
 have F:=V.frm
 have:=V.nox p q (by lia) (by lia)
 rw[mM F hp,mM F hq,if_pos c]at this
 have lb:=F.lt q (by lia)
 split at this<;>lia
theorem oG(V:Val n f):Hf n (upL n f):=by
 have F:=V.frm
 have hi:∀ q,q<n->at' f q<n->up n f q=at' f q:=fun q _ c=>by unfold up;rw[if_pos c]
 have lo:∀ q,¬ at' f q<n->up n f q=q:=fun q c=>by unfold up;rw[if_neg c]
 have lt:∀ q,q<n->up n f q<n:=fun q hq=>by
  by_cases c:at' f q<n
  ·rw[hi q hq c];exact c
  ·rw[lo q c];exact hq
 refine⟨kN,fun q hq=>by rw[dm hq];exact lt q hq,fun q hq=>?_,fun q q' h1 h2 h3=>?_⟩
 ·rw[dm hq,dm (lt q hq)]
  by_cases c:at' f q<n
  ·rw[hi q hq c]
   unfold up
   rw[F.inv,if_pos hq]
  ·rw[lo q c,lo q c]
 ·by_cases hq:q<n
  ·rw[dm hq]at h2 h3 ⊢
   rw[dm (show q'<n by lia)]
   by_cases c:at' f q<n
   ·rw[hi q hq c]at h2 h3 ⊢
    have x:=Ej V hq (show q'<n by lia) c
    by_cases d:at' f q'<n
    ·rw[hi q' (by lia) d]
     have:=F.no q' (by lia)
     lia
    ·lia
   ·rw[lo q c]at h2
    lia
  ·rw[di (by rw[kN];omega)]at h2
   lia
theorem CF:(fx n (upL n f)).length=thr n f\/¬ Frm n f:=by
 by_cases F:Frm n f
 ·refine .inl ?_
  unfold fx thr
  congr 1
  apply List.filter_congr
  intro q hq
  have hq:=List.mem_range.mp hq
  rw[dm hq]
  apply decide_eq_decide.mpr
  unfold up
  have:=F.no q (by lia)
  split<;>lia
 ·exact .inr F
theorem yw(H:Hf n h){x y:Nat}{r:List Nat}(e:fx n h=x::y::r):Hf n ((h.set x y).set y x)/\fx n ((h.set x y).set y x)=r/\∀ q,q<n->at' h q≠q->at' ((h.set x y).set y x) q=at' h q:=by
 have up:=As (n:=n) (h:=h)
 rw[e]at up
 obtain⟨hx,hx'⟩:=kD.mp (show x∈fx n h by rw[e];simp)
 obtain⟨hy,hy'⟩:=kD.mp (show y∈fx n h by rw[e];simp)
 have xy:x<y:=(List.pairwise_cons.mp up).1 y (by simp)
 have ry:∀ z∈r,y<z:=(List.pairwise_cons.mp (List.pairwise_cons.mp up).2).1
 have mid:∀ z,z<n->at' h z=z->z=x\/z=y\/y<z:=fun z hz e'=>by
  have:=kD.mpr ⟨hz,e'⟩
  rw[e]at this
  simp only[List.mem_cons]at this
  rcases this with q | q | q
  ·exact .inl q
  ·exact .inr (.inl q)
  ·exact .inr (.inr (ry z q))
 have at1:∀ q,at' ((h.set x y).set y x) q=if q=y then x else if q=x then y else at' h q:=fun q=>by
  rw[cQ (by rw[List.length_set,H.len];exact hy),cQ (by rw[H.len];exact hx)]
 refine⟨⟨by rw[List.length_set,List.length_set,H.len],fun q hq=>?_,fun q hq=>?_,fun q q' h1 h2 h3=>?_⟩,?_,fun q hq c=>?_⟩
 ·rw[at1]
  have:=H.lt q hq
  split
  ·exact hx
  ·split
   ·exact hy
   ·exact this
 ·rw[at1 q]
  by_cases c1:q=y
  ·rw[if_pos c1,at1,if_neg (by lia),if_pos rfl,c1]
  ·rw[if_neg c1]
   by_cases c2:q=x
   ·rw[if_pos c2,at1,if_pos rfl,c2]
   ·rw[if_neg c2,at1]
    have i:=H.inv q hq
    rw[if_neg (fun z=>by rw[z,hy']at i;exact c1 i.symm),if_neg (fun z=>by rw[z,hx']at i;exact c2 i.symm),i]
 ·rw[at1 q]at h2 h3 ⊢
  rw[at1 q']
  by_cases c1:q=y
  ·rw[if_pos c1]at h2
   lia
  ·rw[if_neg c1]at h2 h3 ⊢
   by_cases c2:q=x
   ·rw[if_pos c2]at h2 h3 ⊢
    rw[if_neg (by lia),if_neg (by lia)]
    rintro(z | z)
    ·by_cases c:at' h q'<n
     ·exact H.nx q' y h2 z c (.inr hy')
     ·exact c (H.lt q' (by lia))
    ·rcases mid q' (by lia) z with w | w | w<;>lia
   ·rw[if_neg c2]at h2 h3 ⊢
    have k:=H.nx q q' h1 h2 h3
    rw[if_neg (fun z=>k (.inr (by rw[z];exact hy'))),if_neg (fun z=>k (.inr (by rw[z];exact hx')))]
    exact k
 ·have:fx n ((h.set x y).set y x)=(fx n h).filter fun q=>!decide (q=x) && !decide (q=y):=by
   unfold fx
   rw[List.filter_filter]
   apply List.filter_congr
   intro q _
   rw[at1 q,Bool.eq_iff_iff]
   simp only[Bool.and_eq_true,Bool.not_eq_true',decide_eq_true_eq,decide_eq_false_iff_not]
   by_cases c1:q=y
   ·rw[if_pos c1]
    constructor
    ·intro z;lia
    ·intro z;exact absurd c1 z.1.2
   ·rw[if_neg c1]
    by_cases c2:q=x
    ·rw[if_pos c2]
     constructor
     ·intro z;lia
     ·intro z;exact absurd c2 z.1.1
    ·rw[if_neg c2]
     exact⟨fun z=>⟨⟨c2,c1⟩,z⟩,fun z=>z.2⟩
  rw[this,e,List.filter_cons,List.filter_cons]
  rw[if_neg (by simp),if_neg (by simp)]
  apply List.filter_eq_self.mpr
  intro z hz
  have:=ry z hz
  simp
  lia
 ·rw[at1,if_neg (fun z=>c (by rw[z];exact hy')),if_neg (fun z=>c (by rw[z];exact hx'))]
structure Jn(n:Nat)(a b J:List Nat):Prop where
 len:J.length=2*n
 thr:∀ k,k<(fx n a).length->at' J (at' (fx n a) k)=n+at' (fx n b) k/\at' J (n+at' (fx n b) k)=at' (fx n a) k
 hi:∀ p,p<n->at' a p≠p->at' J p=at' a p
 lo:∀ p,p<n->at' b p≠p->at' J (n+p)=n+at' b p
theorem Jn.frm(A:Hf n a)(B:Hf n b)(t:(fx n a).length=(fx n b).length)(j:Jn n a b J):Frm n J:=by
 have cas:∀ x,x<2*n->(∃ k,k<(fx n a).length/\x=at' (fx n a) k)\/(x<n/\at' a x≠x)\/(∃ k,k<(fx n a).length/\x=n+at' (fx n b) k)\/∃ p,p<n/\at' b p≠p/\x=n+p:=fun x hx=>by
  by_cases c:x<n
  ·by_cases d:at' a x=x
   ·obtain⟨k,h1,h2⟩:=gn c d
    exact .inl ⟨k,h1,h2.symm⟩
   ·exact .inr (.inl ⟨c,d⟩)
  ·by_cases d:at' b (x-n)=x-n
   ·obtain⟨k,h1,h2⟩:=gn (show x-n<n by lia) d
    exact .inr (.inr (.inl ⟨k,by lia,by lia⟩))
   ·exact .inr (.inr (.inr ⟨x-n,by lia,d,by lia⟩))
 refine⟨j.len,fun x hx=>?_,fun x=>?_,fun x hx=>?_⟩
 ·rcases cas x hx with⟨k,hk,rfl⟩ | ⟨h1,h2⟩ | ⟨k,hk,rfl⟩ | ⟨p,hp,h2,rfl⟩
  ·rw[(j.thr k hk).1]
   have:=(bE (h:=b) (n:=n) (k:=k) (by lia)).1
   lia
  ·rw[j.hi x h1 h2]
   have:=A.lt x h1
   lia
  ·rw[(j.thr k hk).2]
   have:=(bE (h:=a) (n:=n) hk).1
   lia
  ·rw[j.lo p hp h2]
   have:=B.lt p hp
   lia
 ·by_cases hx:x<2*n
  ·rcases cas x hx with⟨k,hk,rfl⟩ | ⟨h1,h2⟩ | ⟨k,hk,rfl⟩ | ⟨p,hp,h2,rfl⟩
   ·rw[(j.thr k hk).1,(j.thr k hk).2]
   ·rw[j.hi x h1 h2,j.hi _ (A.lt x h1) (fun z=>h2 (by rw[A.inv x h1]at z;exact z.symm)),A.inv x h1]
   ·rw[(j.thr k hk).2,(j.thr k hk).1]
   ·rw[j.lo p hp h2,j.lo _ (B.lt p hp) (fun z=>h2 (by rw[B.inv p hp]at z;exact z.symm)),B.inv p hp]
  ·rw[di (f:=J) (x:=x) (by rw[j.len];lia),di (by rw[j.len];lia)]
 ·rcases cas x hx with⟨k,hk,rfl⟩ | ⟨h1,h2⟩ | ⟨k,hk,rfl⟩ | ⟨p,hp,h2,rfl⟩
  ·rw[(j.thr k hk).1]
   have:=(bE (h:=a) (n:=n) hk).1
   lia
  ·rw[j.hi x h1 h2]
   exact h2
  ·rw[(j.thr k hk).2]
   have:=(bE (h:=a) (n:=n) hk).1
   lia
  ·rw[j.lo p hp h2]
   lia
theorem Jn.up(A:Hf n a)(t:(fx n a).length=(fx n b).length)(j:Jn n a b J):upL n J=a:=by
 refine eZ kN A.len fun p hp=>?_
 rw[dm hp]
 unfold RM.up
 by_cases c:at' a p=p
 ·obtain⟨k,h1,h2⟩:=gn hp c
  have:=(j.thr k h1).1
  rw[h2]at this
  rw[this,if_neg (by lia),c]
 ·rw[j.hi p hp c,if_pos (A.lt p hp)]
theorem Jn.dn(A:Hf n a)(B:Hf n b)(t:(fx n a).length=(fx n b).length)(j:Jn n a b J):upL n (bc n (ovr n) (ovr n) J)=b:=by
 refine eZ kN B.len fun p hp=>?_
 rw[dm hp]
 unfold RM.up
 rw[nQ (j.frm A B t) hp]
 by_cases c:at' b p=p
 ·obtain⟨k,h1,h2⟩:=gn hp c
  have e:=(j.thr k (by lia)).2
  rw[h2]at e
  have:=(bE (h:=a) (n:=n) (k:=k) (by lia)).1
  rw[e,if_pos this,if_neg (by lia),c]
 ·have:=B.lt p hp
  have e:(if at' J (n+p)<n then at' J (n+p)+n else at' J (n+p)-n)=at' b p:=by
   rw[j.lo p hp c,if_neg (by lia)]
   lia
  rw[e,if_pos this]
theorem mQ{q:Nat}(h:n<=q)(h2:q<2*n):rd n q=n+(2*n-1-q):=by
 unfold rd
 rw[if_neg (by lia)]
 lia
theorem Jn.val(A:Hf n a)(B:Hf n b)(t:(fx n a).length=(fx n b).length)(j:Jn n a b J):Val n J:=by
 have F:=j.frm A B t
 have top:∀ q,q<n->at' a q≠q->rnd n J q=at' a q:=fun q hq c=>by
  unfold rnd
  have:=A.lt q hq
  rw[lF hq,j.hi q hq c,lF this]
 have thr:∀ k,k<(fx n a).length->rnd n J (at' (fx n a) k)=2*n-1-at' (fx n b) k:=fun k hk=>by
  unfold rnd
  have h1:=(bE (h:=a) (n:=n) hk).1
  have h2:=(bE (h:=b) (n:=n) (k:=k) (by lia)).1
  rw[lF h1,(j.thr k hk).1,mQ (by lia) (by lia)]
  have:n+(2*n-1-(n+at' (fx n b) k))=2*n-1-at' (fx n b) k:=by lia
  exact this
 have bot:∀ u,u<n->at' b u≠u->rnd n J (2*n-1-u)=2*n-1-at' b u:=fun u hu c=>by
  unfold rnd
  have:=B.lt u hu
  rw[show rd n (2*n-1-u)=n+u by rw[mQ (by lia) (by omega)];lia,j.lo u hu c,show rd n (n+at' b u)=2*n-1-at' b u by rw[mQ (by lia) (by lia)];lia]
 have bth:∀ k,k<(fx n a).length->rnd n J (2*n-1-at' (fx n b) k)=at' (fx n a) k:=fun k hk=>by
  unfold rnd
  have h1:=(bE (h:=a) (n:=n) hk).1
  have h2:=(bE (h:=b) (n:=n) (k:=k) (by lia)).1
  rw[show rd n (2*n-1-at' (fx n b) k)=n+at' (fx n b) k by rw[mQ (by lia) (by lia)];lia,(j.thr k hk).2,lF h1]
 refine⟨F,fun q q' h1 h2 ⟨c1,c2,c3⟩=>?_⟩
 by_cases hq:q<n
 ·by_cases d:at' a q=q
  ·obtain⟨k,hk,rfl⟩:=gn hq d
   have bk:=(bE (h:=b) (n:=n) (k:=k) (by lia)).1
   rw[thr k hk]at c2 c3
   by_cases hq':q'<n
   ·by_cases d':at' a q'=q'
    ·obtain⟨m,hm,rfl⟩:=gn hq' d'
     rw[thr m hm]at c3
     have km:k<m:=by
      rcases Nat.lt_trichotomy k m with z | z | z
      ·exact z
      ·subst z;lia
      ·have:=lK z hk;lia
     have:=lK (h:=b) (n:=n) km (by lia)
     lia
    ·rw[top q' hq' d']at c3
     have:=A.lt q' hq'
     lia
   ·obtain⟨u,hu,rfl⟩:∃ u,u<n/\q'=2*n-1-u:=⟨2*n-1-q',by lia,by lia⟩
    by_cases d':at' b u=u
    ·obtain⟨m,hm,rfl⟩:=gn hu d'
     rw[bth m (by lia)]at c3
     have:=(bE (h:=a) (n:=n) (k:=m) (by lia)).1
     lia
    ·rw[bot u hu d']at c3
     have lb:=B.lt u hu
     exact B.nx (at' b u) (at' (fx n b) k) (by lia) (by rw[B.inv u hu];lia) (by rw[B.inv u hu];exact hu) (.inr (bE (h:=b) (n:=n) (k:=k) (by lia)).2)
  ·rw[top q hq d]at c2 c3
   have la:=A.lt q hq
   have k:=A.nx q q' c1 c2 la
   have d':at' a q'≠q':=fun z=>k (.inr z)
   rw[top q' (by lia) d']at c3
   exact k (.inl c3)
 ·obtain⟨u,hu,rfl⟩:∃ u,u<n/\q=2*n-1-u:=⟨2*n-1-q,by lia,by lia⟩
  by_cases d:at' b u=u
  ·obtain⟨m,hm,rfl⟩:=gn hu d
   rw[bth m (by lia)]at c2
   have:=(bE (h:=a) (n:=n) (k:=m) (by lia)).1
   lia
  ·rw[bot u hu d]at c2 c3
   have lb:=B.lt u hu
   obtain⟨v,hv,rfl⟩:∃ v,v<n/\q'=2*n-1-v:=⟨2*n-1-q',by lia,by lia⟩
   by_cases d':at' b v=v
   ·obtain⟨m,hm,rfl⟩:=gn hv d'
    rw[bth m (by lia)]at c3
    have:=(bE (h:=a) (n:=n) (k:=m) (by lia)).1
    lia
   ·rw[bot v hv d']at c3
    have lv:=B.lt v hv
    exact B.nx (at' b v) (at' b u) (by omega) (by rw[B.inv v hv];omega) (by rw[B.inv v hv];exact hv) (.inl (by rw[B.inv v hv,B.inv u hu];lia))
end
end RM
set_option maxHeartbeats 1000000
namespace RM
open RL RT
section
variable{n:Nat}{f:List Nat}
theorem zV{m:Nat}{P:Nat->Bool}(g:Nat->Nat)(h:∀ p,p<m->P p=true->g p<m/\P (g p)=true/\g (g p)=p/\g p≠p):cnt m P%2=0:=by
 unfold cnt
 have mem:∀ x,x∈(List.range m).filter P↔x<m/\P x=true:=fun x=>by rw[List.mem_filter,List.mem_range]
 refine mm (b:=g) (List.nodup_range.filter _) (fun x hx=>?_) (fun x hx=>?_) (fun x hx=>?_)
 ·obtain⟨a,b⟩:=(mem x).mp hx
  exact(mem _).mpr ⟨(h x a b).1,(h x a b).2.1⟩
 ·obtain⟨a,b⟩:=(mem x).mp hx
  exact(h x a b).2.2.1
 ·obtain⟨a,b⟩:=(mem x).mp hx
  exact(h x a b).2.2.2
theorem uh{A B C:Nat->Bool}:∀ xs:List Nat,(∀ x∈xs,(if A x then 1 else 0)=(if B x then 1 else 0)+(if C x then 1 else 0))->(xs.filter A).length=(xs.filter B).length+(xs.filter C).length
 | [],_=>rfl
 | x::r,h=>by
  have ih:=uh r fun y hy=>h y (List.mem_cons_of_mem _ hy)
  have hx:=h x (List.mem_cons_self ..)
  rw[List.filter_cons,List.filter_cons,List.filter_cons]
  cases a:A x<;>cases b:B x<;>cases c:C x<;>rw[a,b,c]at hx<;>simp at hx ⊢<;>lia
end
end RM
set_option maxHeartbeats 1000000
namespace RM
open RL RT
section
variable{n:Nat}{f g A B:List Nat}
theorem up_eq(F:Frm n f)(e:upL n f=upL n g){p:Nat}(hp:p<n)(c:at' f p<n):at' g p=at' f p:=by
 have:=congrArg (fun l=>at' l p) e
 simp only[dm hp]at this
 unfold up at this
 rw[if_pos c]at this
 by_cases d:at' g p<n
 ·rw[if_pos d]at this
  exact this.symm
 ·rw[if_neg d]at this
  exact absurd this (F.no p (by lia))
theorem A5(V:Val n f)(W:Val n g)(e:upL n (bc n (ovr n) (ovr n) f)=upL n (bc n (ovr n) (ovr n) g)){p:Nat}(hp:p<n)(c:n<=at' f (n+p)):at' g (n+p)=at' f (n+p):=by
 have l:=V.frm.lt (n+p) (by lia)
 have l':=W.frm.lt (n+p) (by lia)
 have:=up_eq ((bG n).val V).frm e hp (by rw[nQ V.frm hp,if_neg (by lia)];lia)
 rw[nQ V.frm hp,nQ W.frm hp,if_neg (show ¬ at' f (n+p)<n by lia)]at this
 split at this<;>lia
theorem xA(V:Val n f)(W:Val n g)(e:upL n f=upL n g)(e':upL n (bc n (ovr n) (ovr n) f)=upL n (bc n (ovr n) (ovr n) g)):f=g:=by
 have F:=V.frm
 have G:=W.frm
 have key:∀ {f g:List Nat},Val n f->Val n g->upL n (bc n (ovr n) (ovr n) f)=upL n (bc n (ovr n) (ovr n) g)->∀ p,p<n->(∀ q,q<p->at' f q=at' g q)->n<=at' f p->n<=at' g p->¬ at' f p<at' g p:=by
  intro f g V W e' p hp ih c d z
  have F:=V.frm
  have G:=W.frm
  have lf:=F.lt p (by lia)
  have lg:=G.lt p (by lia)
  obtain⟨b,hb⟩:∃ b,at' f p=n+b:=⟨at' f p-n,by lia⟩
  have fb:at' f (n+b)=p:=by rw[<-hb,F.inv]
  have gb:at' g (n+b)<n:=by
   by_cases q:at' g (n+b)<n
   ·exact q
   ·have:=A5 W V e'.symm (p:=b) (by lia) (by lia)
    lia
  have gi:=G.inv (n+b)
  have ne:at' g (n+b)≠p:=fun q=>by rw[q]at gi;lia
  have le:¬ at' g (n+b)<p:=fun q=>by
   have:=ih _ q
   rw[gi,<-hb]at this
   have:=congrArg (at' f) this
   rw[F.inv,F.inv,hb]at this
   exact ne this
  refine W.nox p (at' g (n+b)) (by lia) (by lia) ?_
  rw[mM G hp,mM G gb,gi,if_neg (by lia),if_neg (by lia)]
  lia
 have tops:∀ m p,p<m->p<n->at' f p=at' g p:=by
  intro m
  induction m with
  | zero=>intro p h;lia
  |succ m ih=>
   intro p h hp
   by_cases c:at' f p<n
   ·exact(up_eq F e hp c).symm
   ·by_cases d:at' g p<n
    ·exact up_eq G e.symm hp d
    ·have k1:=key V W e' p hp (fun q hq=>ih q (by lia) (by lia)) (by lia) (by lia)
     have k2:=key W V e'.symm p hp (fun q hq=>(ih q (by lia) (by lia)).symm) (by lia) (by lia)
     lia
 refine eZ F.len G.len fun x hx=>?_
 by_cases c:x<n
 ·exact tops n x c c
 ·obtain⟨q,hq⟩:∃ q,x=n+q:=⟨x-n,by lia⟩
  subst hq
  by_cases d:at' f (n+q)<n
  ·have:=tops n _ d d
   rw[F.inv]at this
   have:=congrArg (at' g) this
   rw[G.inv]at this
   exact this.symm
  ·exact(A5 V W e' (by lia) (by lia)).symm
theorem sM(hn:n<=10)(V:Val n A)(W:Val n B)(e:upL n (bc n (ovr n) (ovr n) A)=upL n B):upL n (ay n A B)=upL n A:=by
 have F:=V.frm
 have G:=W.frm
 have R:=eI hn V W
 have H:Has n A (ay n A B):=xE fun _ _ _=>by lia
 refine(H.ups F R.frm).mpr fun p hp c=>?_
 by_cases d:at' A p<n
 ·exact(H p hp d).symm
 ·exfalso
  have l:=F.lt p (by lia)
  obtain⟨m,hm⟩:∃ m,at' A p=n+m:=⟨at' A p-n,by lia⟩
  have am:at' A (n+m)=p:=by rw[<-hm,F.inv]
  have bm:¬ at' B m<n:=fun q=>by
   have:=congrArg (fun l=>at' l m) e
   simp only[dm (show m<n by lia)]at this
   unfold up at this
   rw[nQ F (by lia),am,if_pos hp,if_neg (show ¬ p+n<n by lia),if_pos q]at this
   exact G.no m (by lia) this.symm
  rw[mB (by lia),show beg n A B p=(true,n+m) by simp[beg,hp,pick,hm]]at c
  have st:stp n A B (true,n+m)=(false,at' B m):=by rw[yd (by lia) (by lia),Nat.add_sub_cancel_left]
  rw[show 4*n=(4*n-1)+1 by lia,eG st (rX bm)]at c
  exact bm c
theorem zY{M:List Nat}(hn:n<=10)(VA:Val n A)(VB:Val n B)(Vg:Val n g)(a1:upL n A=upL n g)(a2:upL n (bc n (ovr n) (ovr n) A)=M)(b1:upL n B=M)(b2:upL n (bc n (ovr n) (ovr n) B)=upL n (bc n (ovr n) (ovr n) g)):ay n A B=g:=by
 have R:=eI hn VA VB
 refine xA R Vg ((sM hn VA VB (a2.trans b1.symm)).trans a1) ?_
 rw[<-(xR hn VA VB).1]
 have:=sM hn ((bG n).val VB) ((bG n).val VA) (by rw[FJ VB.frm];exact b1.trans a2.symm)
 exact this.trans b2
theorem tQ(F:Frm n f):thr n f%2=n%2:=by
 have e1:cnt n (fun p=>decide (at' f p<n))%2=0:=zV (at' f) fun p hp h=>by
  rw[decide_eq_true_eq]at h
  rw[decide_eq_true_eq,F.inv]
  exact⟨h,hp,rfl,F.no p (by lia)⟩
 have e2:((List.range n).filter fun _=>true).length=cnt n (fun p=>decide (at' f p<n))+thr n f:=by
  unfold cnt thr
  refine uh _ fun x _=>?_
  by_cases c:at' f x<n
  ·rw[if_pos rfl,if_pos (decide_eq_true c),if_neg (by rw[decide_eq_true_eq];lia)]
  ·rw[if_pos rfl,if_neg (by rw[decide_eq_true_eq];exact c),if_pos (by rw[decide_eq_true_eq];lia)]
 rw[List.filter_eq_self.mpr (fun _ _=>rfl),List.length_range]at e2
 lia
end
end RM
set_option maxHeartbeats 1000000
namespace RM
open RL RT
section
variable{cl:Cl}{xs:List Int}
end
end RM
set_option maxHeartbeats 1000000
namespace RT
open RL
noncomputable def k6(f_is_half:Nat):Fn :=
 ⟨1,1,[],[],(.cons (.ife (.not (.call f_is_half (.cons (.var 0) .nil))) (.cons .never .nil) .nil) .nil)⟩
noncomputable def gd(f_check_half:Nat):Fn :=
 ⟨2,2,[],[],(.cons (.exc (.call f_check_half (.cons (.var 0) .nil))) (.cons (.exc (.call f_check_half (.cons (.var 1) .nil))) (.cons (.ife (.cmp .ne (.bi .len (.var 0)) (.bi .len (.var 1))) (.cons .never .nil) .nil) .nil)))⟩
noncomputable def kd(f_tie f_going f_check_two_halves:Nat):Ss :=
 (.cons (.mexc f_tie (.cons (.var 5) (.cons (.var 6) (.cons (.bin .add (.var 4) (.var 7)) .nil))) [0] [5]) .nil)
noncomputable def mh(f_tie f_going f_check_two_halves:Nat):Fn :=
 ⟨2,9,[5],[],(.cons (.exc (.call f_check_two_halves (.cons (.var 0) (.cons (.var 1) .nil)))) (.cons (.asg 2 (.call f_going (.cons (.var 0) .nil))) (.cons (.asg 3 (.call f_going (.cons (.var 1) .nil))) (.cons (.ife (.cmp .ne (.bi .len (.var 2)) (.bi .len (.var 3))) (.cons .never .nil) .nil) (.cons (.asg 4 (.bi .len (.var 0))) (.cons (.own 5 (.bin .add (.bi .list (.var 0)) (.compA (.bin .add (.var 4) (.var 8)) [8] (.seq (.var 1))))) (.cons (.forr [6,7] (.zip (.var 2) (.var 3)) (kd f_tie f_going f_check_two_halves)) (.cons (.ret (.bi .tuple (.var 5))) .nil))))))))⟩
noncomputable def p7:Fn :=
 ⟨1,3,[],[],(.cons (.ret (.comp (.var 1) [1,2] (.enm (.var 0)) (.cmp .eq (.var 1) (.var 2)))) .nil)⟩
noncomputable def kr(f_joined f_upper f_below f_lower f_narrowed f_through f_check_two_frames:Nat):Fn :=
 ⟨2,6,[],[],(.cons (.exc (.call f_check_two_frames (.cons (.var 0) (.cons (.var 1) .nil)))) (.cons (.asg 2 (.call f_through (.cons (.var 1) .nil))) (.cons (.asg 3 (.call f_through (.cons (.var 0) .nil))) (.cons (.ife (.cmp .gt (.var 2) (.var 3)) (.cons (.ret (.tup (.cons (.cst (.str "bar")) (.cons (.var 2) (.cons (.var 3) .nil))))) .nil) .nil) (.cons (.asg 4 (.call f_narrowed (.cons (.call f_upper (.cons (.var 0) .nil)) (.cons (.bin .sub (.var 3) (.var 2)) .nil)))) (.cons (.asg 5 (.ix (.call f_below (.cons (.var 0) (.cons (.call f_joined (.cons (.var 4) (.cons (.call f_lower (.cons (.var 1) .nil)) .nil))) .nil))) (.cst (.int 1)))) (.cons (.ret (.tup (.cons (.cst (.str "frames")) (.cons (.call f_joined (.cons (.call f_upper (.cons (.var 1) .nil)) (.cons (.var 4) .nil))) (.cons (.var 5) .nil))))) .nil)))))))⟩
noncomputable def i5(f_tie f_going:Nat):Ss :=
 (.cons (.mexc f_tie (.cons (.var 2) (.cons (.ix (.var 3) (.var 4)) (.cons (.ix (.var 3) (.bin .add (.var 4) (.cst (.int 1)))) .nil))) [0] [2]) .nil)
noncomputable def jO(f_tie f_going:Nat):Fn :=
 ⟨2,5,[2],[],(.cons (.own 2 (.bi .list (.var 0))) (.cons (.asg 3 (.call f_going (.cons (.var 0) .nil))) (.cons (.forr [4] (.rng3 (2) (.cst (.int 0)) (.var 1)) (i5 f_tie f_going)) (.cons (.ret (.bi .tuple (.var 2))) .nil))))⟩
end RT
namespace RM
open RL RT
section
variable{cl:Cl}{n:Nat}{h a b:List Nat}
theorem xx(hn:n<=10)(hl:h.length=n):evF cl p7 [.tup (L h)]=some (.lst (L (fx n h))):=by
 have en:=gQ hl
 have mc:=iL (F:=fun σ1=>((ev cl σ1 (.cmp .eq (.var 1) (.var 2))).bind truth).bind fun k=>if k then(ev cl σ1 (.var 1)).map some else some none) (tg:=[1,2]) (σ:=[some (.tup (L h)),none,none]) (h:=pr h) (g:=fun p=>.int (p:Nat)) (c:=fun p=>decide (at' h p=p)) (fun _=>rfl) (List.range n) (by
  intro p hp
  show((ev cl [some (.tup (L h)),some (.int (p:Nat)),some (.int (at' h p:Nat))] (.cmp .eq (.var 1) (.var 2))).bind truth).bind (fun k=>if k then(ev cl [some (.tup (L h)),some (.int (p:Nat)),some (.int (at' h p:Nat))] (.var 1)).map some else some none)=_
  have q:bh .eq (.int (p:Nat)) (.int (at' h p:Nat))=some (decide (at' h p=p)):=by
   rw[cA]
   congr 1
   rw[Bool.eq_iff_iff,beq_iff_eq,decide_eq_true_eq]
   lia
  rw[aI (a8 (aa rfl) (aa rfl) q),Option.bind_some,aa rfl]
  split<;>rfl)
 rw[<-en]at mc
 exact aN rfl rfl (aL (d:=.lst (L (fx n h))) (sk (jg (aa rfl) rfl) (by rw[en,List.length_map,List.length_range];unfold most;lia) mc) (by unfold aS;rw[show a9 (.lst (L (fx n h)))=true from aK _];rfl))
theorem vv(H:Hf n h):(List.range (h.map Int.ofNat).length).all (nb (h.map Int.ofNat))=true:=mV H.len H.lt H.inv
theorem sR{fu fp fc:Nat}(h1:1<=n)(hn:n<=10)(H:Hf n h)(hc:∀ i:Int,cl fc [.int i]=some (.bl (decide (1<=i/\i<=10))))(hp:cl fp [.tup (L h)]=some (.bl true))(hu:cl fu [.tup (L h)]=some (.bl true)):evF cl (k8 fu fp fc) [.tup (L h)]=some (.bl true):=by
 have ln:biV .len (.tup (L h))=some (.int (n:Nat)):=by
  show some (D.int ((L h).length:Nat))=_
  rw[aF,H.len]
 have c:=hc (n:Nat)
 rw[decide_eq_true (by lia)]at c
 exact aN rfl rfl (aL (cq (b8 (aO (aa rfl) ln) c) (cq (b8 (aa rfl) hp) (b8 (aa rfl) hu))) rfl)
theorem sD{ti go m:Nat}(hn:n<=10)(H:Hf n h)(hm:2*m<=(fx n h).length)(hg:cl go [.tup (L h)]=some (.lst (L (fx n h))))(ht:∀ (xs:List Nat) (i j:Nat),i<xs.length->j<xs.length->cl ti [.lst (L xs),.int (i:Nat),.int (j:Nat)]=some (.tup [.non,.lst (L ((xs.set i j).set j i))])) :
  ∃ M:List Nat,Hf n M/\fx n M=(fx n h).drop (2*m)/\(∀ q,q<n->at' h q≠q->at' M q=at' h q)/\evF cl (jO ti go) [.tup (L h),.int ((2*m:Nat):Int)]=some (.tup (L M)):=by
 have fl:(fx n h).length<=n:=by
  unfold fx
  refine Nat.le_trans (List.length_filter_le _ _) ?_
  rw[List.length_range]
  exact Nat.le_refl _
 have rg:fQ 2 (.int 0) (.int ((2*m:Nat):Int))=some (L (List.range' 0 m 2)):=by
  have hN:bo 2 0 ((2*m:Nat):Int)=m:=by
   unfold bo
   rw[if_pos (by decide)]
   split<;>lia
  show(if _ then some (bI 2 0 (bo 2 0 ((2*m:Nat):Int)))else none)=_
  rw[hN,if_pos ⟨by decide,by decide,by decide,by unfold most;lia,by decide,by decide,by lia,by lia⟩]
  exact congrArg some (qQ 2 m 0)
 obtain⟨σ',e,M,o4,rfl,HM,fM,ag⟩:=cJ (f:=af cl [2] (i5 ti go)) (tg:=[4]) (xs:=List.range' 0 m 2) (σ:=[some (.tup (L h)),some (.int ((2*m:Nat):Int)),some (.lst (L h)),some (.lst (L (fx n h))),none])
  (fun u σ=>∃ (M:List Nat) (o4:Option D),σ=[some (.tup (L h)),some (.int ((2*m:Nat):Int)),some (.lst (L M)),some (.lst (L (fx n h))),o4]/\Hf n M/\fx n M=(fx n h).drop (2*u.length)/\∀ q,q<n->at' h q≠q->at' M q=at' h q)
  ⟨h,none,rfl,H,rfl,fun _ _ _=>rfl⟩ (by
   rintro u x v σ hu ⟨M,o4,rfl,HM,fM,ag⟩
   have hlen:=congrArg List.length hu
   rw[List.length_range',List.length_append,List.length_cons]at hlen
   have hx:x=2*u.length:=by
    have this:=congrArg (fun l=>l[u.length]?) hu
    simp only[List.getElem?_append_right (Nat.le_refl _),Nat.sub_self,List.getElem?_cons_zero]at this
    rw[List.getElem?_range' (by lia)]at this
    have:=Option.some.inj this
    lia
   subst hx
   have l1:2*u.length<(fx n h).length:=by lia
   have l2:2*u.length+1<(fx n h).length:=by lia
   have e1:at' (fx n h) (2*u.length)=(fx n h)[2*u.length]:=by simp[at',l1]
   have e2:at' (fx n h) (2*u.length+1)=(fx n h)[2*u.length+1]:=by simp[at',l2]
   have fM':fx n M=at' (fx n h) (2*u.length)::at' (fx n h) (2*u.length+1)::(fx n h).drop (2*u.length+2):=by
    rw[fM,List.drop_eq_getElem_cons l1,List.drop_eq_getElem_cons l2,e1,e2]
   obtain⟨s1,s2,s3⟩:=yw HM fM'
   have g1:=(bE (n:=n) (h:=h) l1).1
   have g2:=(bE (n:=n) (h:=h) l2).1
   have i1:ixV (.lst (L (fx n h))) (.int ((2*u.length:Nat):Int))=some (.int (at' (fx n h) (2*u.length):Nat)):=dk (f:=fx n h) l1
   have i2:ixV (.lst (L (fx n h))) (.int ((2*u.length+1:Nat):Int))=some (.int (at' (fx n h) (2*u.length+1):Nat)):=dk (f:=fx n h) l2
   refine⟨_,show af cl [2] (i5 ti go) [some (.tup (L h)),some (.int ((2*m:Nat):Int)),some (.lst (L M)),some (.lst (L (fx n h))),some (.int ((2*u.length:Nat):Int))]=some (.nx,_)from iX (a6 (aa rfl) (a6 (b9 (aa rfl) (aa rfl) i1) (a6 (b9 (aa rfl) (az (d:=.int ((2*u.length+1:Nat):Int)) (aa rfl) aj rfl) i2) bu))) rfl (ht M _ _ (by rw[HM.len];exact g1) (by rw[HM.len];exact g2)) rfl aC,_,some (.int ((2*u.length:Nat):Int)),rfl,s1,?_,fun q hq c=>?_⟩
   ·rw[s2,List.length_append,List.length_singleton]
    rfl
   ·rw[s3 q hq (by rw[ag q hq c];exact c),ag q hq c])
 rw[List.length_range']at fM
 exact⟨M,HM,fM,ag,aN rfl rfl (eQ (aO (aa rfl) rfl) (by rw[show a9 (.lst (L h))=true from aK _];rfl) (a7 (b8 (aa rfl) hg) (by unfold aQ;rw[show a9 (.lst (L (fx n h)))=true from aK _];rfl) (cm (xr aj (aa rfl) rg) e (aL (aO (aa rfl) rfl) (by unfold aS;rw[show(D.tup (L M)).imm=true from aK _];rfl)))))⟩
theorem ue:∀ (xs ys:List Nat),xs.length=ys.length->dO (L xs) (L ys)=(List.range xs.length).map fun k=>.tup [.int (at' xs k:Nat),.int (at' ys k:Nat)]
 | [],[],_=>rfl
 | x::r,y::s,e=>by
  rw[show L (x::r)=.int x::L r from rfl,show L (y::s)=.int y::L s from rfl,dO,ue r s (by simpa using e),List.length_cons,List.range_succ_eq_map,List.map_cons,List.map_map]
  congr 1
  apply List.map_congr_left
  intro p hp
  have h1:=List.mem_range.mp hp
  have h2:p<s.length:=by
   have:r.length=s.length:=by simpa using e
   lia
  have e1:at' (x::r) (p+1)=at' r p:=by simp[at',h1]
  have e2:at' (y::s) (p+1)=at' s p:=by simp[at',h2]
  simp[e1,e2]
theorem uP{ti go c2:Nat}(hn:n<=10)(A:Hf n a)(B:Hf n b)(t:(fx n a).length=(fx n b).length)(hc:cl c2 [.tup (L a),.tup (L b)]=some .non)(ga:cl go [.tup (L a)]=some (.lst (L (fx n a))))(gb:cl go [.tup (L b)]=some (.lst (L (fx n b))))(ht:∀ (xs:List Nat) (i j:Nat),i<xs.length->j<xs.length->cl ti [.lst (L xs),.int (i:Nat),.int (j:Nat)]=some (.tup [.non,.lst (L ((xs.set i j).set j i))])) :
  ∃ J:List Nat,Jn n a b J/\evF cl (mh ti go c2) [.tup (L a),.tup (L b)]=some (.tup (L J)):=by
 have ln:biV .len (.tup (L a))=some (.int (n:Nat)):=by
  show some (D.int ((L a).length:Nat))=_
  rw[aF,A.len]
 have fl:(fx n a).length<=n:=by
  unfold fx
  refine Nat.le_trans (List.length_filter_le _ _) ?_
  rw[List.length_range]
  exact Nat.le_refl _
 have la:biV .len (.lst (L (fx n a)))=some (.int ((fx n a).length:Nat)):=by
  show some (D.int ((L (fx n a)).length:Nat))=_
  rw[aF]
 have lb:biV .len (.lst (L (fx n b)))=some (.int ((fx n a).length:Nat)):=by
  show some (D.int ((L (fx n b)).length:Nat))=_
  rw[aF,t]
 have mc:=kj (F:=fun σ1=>(ev cl σ1 (.bin .add (.var 4) (.var 8))).map some) (tg:=[8]) (σ:=[some (.tup (L a)),some (.tup (L b)),some (.lst (L (fx n a))),some (.lst (L (fx n b))),some (.int (n:Nat)),none,none,none,none]) (g:=fun x=>.int ((n+x:Nat):Int)) (fun _=>rfl) b (by
  intro x _
  show(ev cl [some (.tup (L a)),some (.tup (L b)),some (.lst (L (fx n a))),some (.lst (L (fx n b))),some (.int (n:Nat)),none,none,none,some (.int (x:Nat))] (.bin .add (.var 4) (.var 8))).map some=_
  rw[az (aa rfl) (aa rfl) bX]
  rfl)
 have em:(b.map fun x=>D.int ((n+x:Nat):Int))=L (b.map fun x=>n+x):=by unfold L;rw[List.map_map];rfl
 rw[em]at mc
 have ad:aB .add (.lst (L a)) (.lst (L (b.map fun x=>n+x)))=some (.lst (L (a++b.map fun x=>n+x))):=by
  show(if(L a).length+(L (b.map fun x=>n+x)).length<=most then some (D.lst (L a++L (b.map fun x=>n+x)))else none)=_
  rw[aF,aF,List.length_map,A.len,B.len,if_pos (by unfold most;lia),cN]
 have f1:∀ p,p<n->at' (a++b.map fun x=>n+x) p=at' a p:=fun p hp=>by
  have:=A.len
  simp[at',List.getElem?_append_left (show p<a.length by lia)]
 have f2:∀ p,p<n->at' (a++b.map fun x=>n+x) (n+p)=n+at' b p:=fun p hp=>by
  have h1:=A.len
  have h2:=B.len
  unfold at'
  rw[List.getElem?_append_right (by lia),show n+p-a.length=p by lia,List.getElem?_map]
  simp[show p<b.length by lia]
 obtain⟨σ',e,J,o6,o7,rfl,jl,jt,jo⟩:=mL (f:=af cl [5] (kd ti go c2)) (tg:=[6,7]) (fun k=>.tup [.int (at' (fx n a) k:Nat),.int (at' (fx n b) k:Nat)]) (fun _=>rfl)
  (fun u σ=>∃ (J:List Nat) (o6 o7:Option D),σ=[some (.tup (L a)),some (.tup (L b)),some (.lst (L (fx n a))),some (.lst (L (fx n b))),some (.int (n:Nat)),some (.lst (L J)),o6,o7,none]/\J.length=2*n/\(∀ k,k<u.length->at' J (at' (fx n a) k)=n+at' (fx n b) k/\at' J (n+at' (fx n b) k)=at' (fx n a) k)/\∀ x,(∀ k,k<u.length->x≠at' (fx n a) k/\x≠n+at' (fx n b) k)->at' J x=at' (a++b.map fun x=>n+x) x)
  (List.range (fx n a).length) [] [some (.tup (L a)),some (.tup (L b)),some (.lst (L (fx n a))),some (.lst (L (fx n b))),some (.int (n:Nat)),some (.lst (L (a++b.map fun x=>n+x))),none,none,none] (by
   rintro u p v σ hu ⟨J,o6,o7,rfl,jl,jt,jo⟩
   obtain⟨hk,hp⟩:=du (g:=id) (by simpa using hu)
   simp only[id]at hp
   subst hp
   have g1:=(bE (n:=n) (h:=a) hk).1
   have g2:=(bE (n:=n) (h:=b) (k:=u.length) (by lia)).1
   have at1:∀ x,at' ((J.set (at' (fx n a) u.length) (n+at' (fx n b) u.length)).set (n+at' (fx n b) u.length) (at' (fx n a) u.length)) x=if x=n+at' (fx n b) u.length then at' (fx n a) u.length else if x=at' (fx n a) u.length then n+at' (fx n b) u.length else at' J x:=fun x=>by
    rw[cQ (by rw[List.length_set,jl];lia),cQ (by rw[jl];lia)]
   refine⟨_,show af cl [5] (kd ti go c2) [some (.tup (L a)),some (.tup (L b)),some (.lst (L (fx n a))),some (.lst (L (fx n b))),some (.int (n:Nat)),some (.lst (L J)),some (.int (at' (fx n a) u.length:Nat)),some (.int (at' (fx n b) u.length:Nat)),none]=some (.nx,_)from iX (a6 (aa rfl) (a6 (aa rfl) (a6 (az (d:=.int ((n+at' (fx n b) u.length:Nat):Int)) (aa rfl) (aa rfl) rfl) bu))) rfl (ht J _ _ (by rw[jl];lia) (by rw[jl];lia)) rfl aC,_,some (.int (at' (fx n a) u.length:Nat)),some (.int (at' (fx n b) u.length:Nat)),rfl,by rw[List.length_set,List.length_set,jl],fun k hk'=>?_,fun x hx=>?_⟩
   ·rw[List.length_append,List.length_singleton]at hk'
    by_cases c:k=u.length
    ·subst c
     rw[at1,at1,if_neg (by lia),if_pos rfl,if_pos rfl]
     exact⟨rfl,rfl⟩
    ·have hk2:k<u.length:=by lia
     have q1:=lK (n:=n) (h:=a) hk2 hk
     have q2:=lK (n:=n) (h:=b) hk2 (by lia)
     have q3:=(bE (n:=n) (h:=b) (k:=k) (by lia)).1
     rw[at1,at1,if_neg (by lia),if_neg (by lia),if_neg (by lia),if_neg (by lia)]
     exact jt k hk2
   ·have z:=hx u.length (by rw[List.length_append,List.length_singleton];lia)
    rw[at1,if_neg z.2,if_neg z.1]
    exact jo x fun k hk'=>hx k (by rw[List.length_append];lia))
  ⟨_,none,none,rfl,by rw[List.length_append,List.length_map,A.len,B.len];lia,fun k hk=>absurd hk (Nat.not_lt_zero _),fun _ _=>rfl⟩
 rw[<-ue _ _ t]at e
 rw[List.nil_append,List.length_range]at jt jo
 refine⟨J,⟨jl,jt,fun p hp c=>?_,fun p hp c=>?_⟩,aN rfl rfl (df (c9 (aa rfl) (aa rfl) hc) (a7 (b8 (aa rfl) ga) (by unfold aQ;rw[show a9 (.lst (L (fx n a)))=true from aK _];rfl) (a7 (b8 (aa rfl) gb) (by unfold aQ;rw[show a9 (.lst (L (fx n b)))=true from aK _];rfl)
  (br (aI (a8 (aO (aa rfl) la) (aO (aa rfl) lb) (by rw[m9,beq_self_eq_true];rfl)))
  (a7 (aO (aa rfl) ln) rfl
  (eQ (az (aO (aa rfl) rfl) (cb (cK (aa rfl) rfl) (by rw[aF,B.len];unfold most;lia) mc) ad) (by rw[show a9 (.lst (L (a++b.map fun x=>n+x)))=true from aK _];rfl)
  (cm (AA (aa rfl) (aa rfl) rfl rfl (by rw[aF,aF,t])) e (aL (aO (aa rfl) rfl) (by unfold aS;rw[show(D.tup (L J)).imm=true from aK _];rfl)))))))))⟩
 ·rw[jo p fun k hk=>⟨fun z=>c (by rw[z];exact(bE (n:=n) (h:=a) hk).2),by lia⟩,f1 p hp]
 ·rw[jo (n+p) fun k hk=>⟨by have:=(bE (n:=n) (h:=a) hk).1;lia,fun z=>c (by have:=(bE (n:=n) (h:=b) (k:=k) (by lia)).2;rw[show p=at' (fx n b) k by lia];exact this)⟩,f2 p hp]
end
end RM
set_option maxHeartbeats 1000000
namespace RM
open RL RT
theorem Cc(F:Frm n f)(G:Frm n g)(h:mis n f g=[]):∀ p,p<n->at' f p<n->at' g p=at' f p:=by
 have key:∀ p,p<n->p<at' f p->at' f p<n->at' g p=at' f p:=fun p h1 h2 h3=>by
  unfold mis at h
  rw[List.filter_filter]at h
  have:=List.filter_eq_nil_iff.mp h p (List.mem_range.mpr (by lia))
  simp[h2,h3]at this
  exact this
 intro p hp hf
 by_cases c:p<at' f p
 ·exact key p hp c hf
 ·have:=key (at' f p) hf (by rw[F.inv];have:=F.no p (by lia);lia) (by rw[F.inv];exact hp)
  rw[F.inv]at this
  rw[<-G.inv (at' f p),this]
theorem Pl.bar(p q:Nat):Pl 1 (yz p q):=.tup _ _ (show 3<=1000 by decide) fun x hx=>by
 simp only[List.mem_cons,List.not_mem_nil,or_false]at hx
 rcases hx with rfl | rfl | rfl
 ·exact .str _ _
 ·exact .int _ _
 ·exact .int _ _
theorem Ge{α:Type}:∀ {os:List α},os.length=2->∃ a b,os=[a,b]
 | [a,b],_=>⟨a,b,rfl⟩
theorem Gj{α:Type}:∀ {os:List α},os.length=8->∃ a b c d e f g h,os=[a,b,c,d,e,f,g,h]
 | [a,b,c,d,e,f,g,h],_=>⟨a,b,c,d,e,f,g,h,rfl⟩
end RM
set_option maxHeartbeats 1000000
namespace K37
open RL RT
noncomputable def wc(f_law_same f_law_hung f_law_good f_between f_law_frames f_law_digits:Nat):Ss :=
 (.cons (.ife (.cmp .gt (.var 4) (.var 3)) (.cons (.ife (.not (.call f_law_same (.cons (.var 5) (.cons (.tup (.cons (.cst (.str "bar")) (.cons (.var 4) (.cons (.var 3) .nil)))) .nil)))) (.cons (.ret (.cst (.bl false))) .nil) .nil) .nil) (.cons (.ife (.or (.not (.isi (.var 5) .tuple)) (.or (.cmp .ne (.bi .len (.var 5)) (.cst (.int 3))) (.cmp .ne (.ix (.var 5) (.cst (.int 0))) (.cst (.str "frames"))))) (.cons (.ret (.cst (.bl false))) .nil) (.cons (.ife (.not (.bi .all (.compA (.and (.call f_law_good (.cons (.var 9) .nil)) (.cmp .eq (.bi .len (.var 9)) (.bin .mul (.cst (.int 2)) (.var 2)))) [9] (.seq (.slF (.var 5) (.cst (.int 1))))))) (.cons (.ret (.cst (.bl false))) .nil) .nil) (.cons (.ife (.cmp .ne (.ix (.call f_law_hung (.cons (.ix (.call f_law_hung (.cons (.ix (.var 5) (.cst (.int 1))) (.cons (.var 6) .nil))) (.cst (.int 0))) (.cons (.ix (.var 5) (.cst (.int 2))) .nil))) (.cst (.int 0))) (.var 7)) (.cons (.ret (.cst (.bl false))) .nil) .nil) .nil))) .nil)) .nil)
noncomputable def Eb(f_law_same f_law_hung f_law_good f_between f_law_frames f_law_digits:Nat):Ss :=
 (.cons (.asg 2 (.bin .add (.cst (.int 1)) (.ix (.call f_law_digits (.cons (.var 0) (.cons (.bin .add (.cst (.int 40)) (.var 1)) (.cons (.lst (.cons (.cst (.int 10)) .nil)) .nil)))) (.cst (.int 0))))) (.cons (.unp [6,7] (.call f_law_frames (.cons (.var 0) (.cons (.bin .mul (.cst (.int 2)) (.var 1)) (.cons (.var 2) (.cons (.cst (.int 2)) .nil)))))) (.cons (.asg 3 (.bi .len (.comp (.var 8) [8] (.seq (.slT (.var 6) (.var 2))) (.cmp .ge (.var 8) (.var 2))))) (.cons (.asg 4 (.bi .len (.comp (.var 8) [8] (.seq (.slT (.var 7) (.var 2))) (.cmp .ge (.var 8) (.var 2))))) (.cons (.asg 5 (.call f_between (.cons (.var 6) (.cons (.var 7) .nil)))) (wc f_law_same f_law_hung f_law_good f_between f_law_frames f_law_digits))))))
noncomputable def Av(f_law_same f_law_hung f_law_good f_between f_law_frames f_law_digits:Nat):Fn :=
 ⟨1,10,[],[],(.cons (.asg 0 (.slT (.var 0) (.cst (.int 63)))) (.cons (.forr [1] (.rng1 (.cst (.int 8))) (Eb f_law_same f_law_hung f_law_good f_between f_law_frames f_law_digits)) (.cons (.ret (.cst (.bl true))) .nil)))⟩
noncomputable def T:List Fn:=[i8,dM 0,bV 1,eY 4,fh 0,dH,qd,qo,jC 9 7,sI,gE 5 19 3 1 13,dY 10,fY 11,jU,fD 2,jf 20 14 13 11,iz 13 11,jX 11,dh,gu 20 18 13,kU,k8 5 3 1,k6 21,gd 22,lG 13 11,uB 24 15,mh 6 27 23,p7,wB 29 12,iA 8 7 30 13,eC,uE 28 15 17 13 12,kr 26 24 31 25 33 16 12,jO 6 27,jT,jS 34,eU 35,dR,gC 37,eN,fk 39,js,fG,gy 42,gq,i4 43 44 40 41 38 37 36,gU 45,cX 47,gg,jQ 48 39,Av 47 43 49 32 46 36]
open RM
theorem G9{ds:List Nat}{a:Nat}(h:kG ds [a]):∃ x,ds=[x]/\x<a:=by
 obtain⟨h1,h2⟩:=h
 match ds,h1 with
 | [x],_=>exact⟨x,rfl,h2 0 x a rfl rfl⟩
theorem ck:Ck T 0 1 3 4 5 10 11 13 18 19 20:=⟨rfl,rfl,rfl,rfl,rfl,rfl,rfl,rfl,rfl,rfl,rfl⟩
theorem dr:Dr T 34 35 36 37 38 39 40 41 42 43 44 45:=⟨⟨rfl,rfl,rfl⟩,rfl,rfl,rfl,rfl,rfl,rfl,rfl,rfl,rfl⟩
theorem hg:Hg T 11 13 7 9 8 30 29 12 28:=⟨rfl,rfl,rfl,rfl,rfl,rfl,rfl⟩
theorem D6(m:Nat)(xs:List Nat)(i j:Nat)(hi:i<xs.length)(hj:j<xs.length):au T (m+1) 6 [.lst (L xs),.int (i:Nat),.int (j:Nat)]=some (.tup [.non,.lst (L ((xs.set i j).set j i))]):=(ao (fn:=qd) rfl).trans (B4 xs hi hj)
section
variable{n:Nat}{f g h a b:List Nat}
theorem qF(m:Nat)(hn:n<=10)(H:Hf n h):au T (m+1) 27 [.tup (L h)]=some (.lst (L (fx n h))):=(ao (fn:=p7) rfl).trans (xx hn H.len)
theorem isH(m:Nat)(h1:1<=n)(hn:n<=10)(H:Hf n h):au T (m+4) 21 [.tup (L h)]=some (.bl true):=by
 have p:=(ao (T:=T) (n:=m+2) (f:=3) (fn:=eY 4) rfl).trans (lO (xs:=h.map Int.ofNat) (by rw[List.length_map,H.len];lia) fun q hq=>(ao (fn:=fh 0) rfl).trans (xq (ck.num m) hq))
 rw[vv H,<-D5]at p
 obtain⟨b,e,_,hb⟩:=uj (cl:=au T (m+2)) (m:=n) (by lia) H.len H.inv H.lt
 rw[hb H.nx]at e
 exact(ao (fn:=k8 5 3 1) rfl).trans (sR h1 hn H (ck.zO (m+1)) p ((ao (fn:=dH) rfl).trans e))
theorem ckH(m:Nat)(h1:1<=n)(hn:n<=10)(H:Hf n h):au T (m+5) 22 [.tup (L h)]=some .non :=
 (ao (fn:=k6 21) rfl).trans (nS rfl rfl (br (aI (cO (b8 (aa rfl) (isH m h1 hn H)))) aC))
theorem CD(H:Hf n h):biV .len (.tup (L h))=some (.int (n:Nat)):=by
 show some (D.int ((L h).length:Nat))=_
 rw[aF,H.len]
theorem tV(m:Nat)(h1:1<=n)(hn:n<=10)(A:Hf n a)(B:Hf n b)(t:(fx n a).length=(fx n b).length):∃ J,Jn n a b J/\au T (m+7) 26 [.tup (L a),.tup (L b)]=some (.tup (L J)):=by
 have c2:au T (m+6) 23 [.tup (L a),.tup (L b)]=some .non:=(ao (fn:=gd 22) rfl).trans (nS rfl rfl (df (b8 (aa rfl) (ckH m h1 hn A)) (df (b8 (aa rfl) (ckH m h1 hn B)) (br (aI (a8 (aO (aa rfl) (CD A)) (aO (aa rfl) (CD B)) (by rw[m9,beq_self_eq_true];rfl))) aC))))
 obtain⟨J,j,e⟩:=uP (cl:=au T (m+6)) (ti:=6) (go:=27) (c2:=23) hn A B t c2 (qF (m+5) hn A) (qF (m+5) hn B) (D6 (m+5))
 exact⟨J,j,(ao (fn:=mh 6 27 23) rfl).trans e⟩
theorem zN(V:Val n f):(fx n (upL n f)).length=thr n f:=by
 rcases CF (n:=n) (f:=f)with h | h
 ·exact h
 ·exact absurd V.frm h
theorem btw(h1:1<=n)(hn:n<=10)(V:Val n f)(W:Val n g):(thr n f<thr n g/\au T 29 32 [.tup (L f),.tup (L g)]=some (.tup [.str "bar",.int (thr n g:Nat),.int (thr n f:Nat)]))\/(thr n g<=thr n f/\∃ A U:List Nat,Val n A/\Val n U/\ay n (ay n A f) U=g/\au T 29 32 [.tup (L f),.tup (L g)]=some (.tup [.str "frames",.tup (L A),.tup (L U)])):=by
 have c2:=hg.ck2 ck 22 h1 hn V W
 have tf:=ck.through (th:=16) rfl 22 h1 hn V
 have tg:=ck.through (th:=16) rfl 22 h1 hn W
 by_cases c:thr n f<thr n g
 ·exact .inl ⟨c,(ao (fn:=kr 26 24 31 25 33 16 12) rfl).trans (aN rfl rfl (df (c9 (aa rfl) (aa rfl) c2) (a7 (b8 (aa rfl) tg) rfl (a7 (b8 (aa rfl) tf) rfl (dI (aI (a8 (aa rfl) (aa rfl) (by rw[ib,decide_eq_true (by lia)]))) (aL (gz (a6 aj (a6 (aa rfl) (a6 (aa rfl) bu)))) rfl))))))⟩
 ·refine .inr ⟨by lia,?_⟩
  have V':=(bG n).val V
  have W':=(bG n).val W
  have pf:=tQ V.frm
  have pg:=tQ W.frm
  obtain⟨m,hm⟩:∃ m,thr n f-thr n g=2*m:=⟨(thr n f-thr n g) / 2,by lia⟩
  have U1:=oG V
  have U2:=oG W
  have U3:=oG W'
  have l1:=zN V
  have l2:=zN W
  have l3:=zN W'
  rw[yG W.frm]at l3
  obtain⟨M,HM,fM,ag,eM⟩:=sD (cl:=au T 27) (ti:=6) (go:=27) (m:=m) hn U1 (by lia) (qF 26 hn U1) (D6 26)
  have eM:au T 28 33 [.tup (L (upL n f)),.int ((2*m:Nat):Int)]=some (.tup (L M)):=(ao (fn:=jO 6 27) rfl).trans eM
  have lM:(fx n M).length=thr n g:=by rw[fM,List.length_drop];omega
  obtain⟨B,jB,eB⟩:=tV 21 h1 hn HM U3 (by lia)
  obtain⟨A,jA,eA⟩:=tV 21 h1 hn U2 HM (by lia)
  have VA:=jA.val U2 HM (by lia)
  have VB:=jB.val HM U3 (by lia)
  have Hs:Has n f B:=fun p hp c'=>by
   have u1:at' (upL n f) p=at' f p:=by rw[dm hp];unfold up;rw[if_pos c']
   have no:=V.frm.no p (by lia)
   have e1:at' M p=at' f p:=by rw[ag p hp (by rw[u1];exact no),u1]
   rw[jB.hi p hp (by rw[e1];exact no),e1]
  have mn:=(Bm V.frm VB.frm (Cc V.frm VB.frm)).mpr Hs
  have be:=hg.below ck (cp:=2) (pl:=14) (ov:=15) (ti:=17) (be:=31) rfl rfl rfl rfl rfl 20 h1 hn V VB
  rw[mn]at be
  refine⟨A,ay n (bc n (ovr n) (ovr n) f) B,VA,eI hn V' VB,?_,?_⟩
  ·have:=zl h1 hn V.frm (by rw[mE V.frm];exact V'.frm) VB.frm Hs
   rw[mE V.frm]at this
   rw[lT (by lia) VA.frm V.frm (eI hn V' VB).frm,this]
   exact zY hn VA VB W (jA.up U2 (by lia)) (jA.dn U2 HM (by lia)) (jB.up HM (by lia)) (jB.dn HM U3 (by lia))
  ·have sb:aB .sub (.int (thr n f:Nat)) (.int (thr n g:Nat))=some (.int ((2*m:Nat):Int)):=by
    rw[j0]
    congr 2
    omega
   have im:∀ x:List Nat,(D.tup (L x)).imm=true:=fun x=>aK x
   exact(ao (fn:=kr 26 24 31 25 33 16 12) rfl).trans (aN rfl rfl (df (c9 (aa rfl) (aa rfl) c2) (a7 (b8 (aa rfl) tg) rfl (a7 (b8 (aa rfl) tf) rfl (br (aI (a8 (aa rfl) (aa rfl) (by rw[ib,decide_eq_false (by lia)])))
    (a7 (c9 (b8 (aa rfl) (ck.upper (up':=24) rfl 22 h1 hn V)) (az (aa rfl) (aa rfl) sb) eM) (by unfold aQ;rw[im];rfl)
    (a7 (b9 (c9 (aa rfl) (c9 (aa rfl) (b8 (aa rfl) (ck.lower (up':=24) (cp:=2) (pl:=14) (ov:=15) (lw:=25) rfl rfl rfl rfl rfl 21 h1 hn W)) eB) be) aj rfl) (by unfold aQ;rw[im];rfl)
    (aL (gz (a6 aj (a6 (c9 (b8 (aa rfl) (ck.upper (up':=24) rfl 22 h1 hn W)) (aa rfl) eA) (a6 (aa rfl) bu)))) (by
     unfold aS
     rw[show ∀ x y:List Nat,(D.tup [.str "frames",.tup (L x),.tup (L y)]).imm=(aq (L x)&&(aq (L y)&&true))from fun _ _=>rfl,aK,aK]
     rfl)))))))))
theorem good{n:Nat}(h1:1<=n)(hn:n<=10)(V:Val n f):au T 29 49 [.tup (L f)]=some (.bl true) :=
 (ao (fn:=jQ 48 39) rfl).trans (rf h1 hn V (dr.x3 27 h1 hn) fun p hp=>(ao (fn:=gg) rfl).trans (sW hn V hp))
theorem count(hn:n<=10)(h1:1<=n)(F:Frm n f){σ:St}{i:Nat}(hi:(σ[i]?).bind id=some (.tup (L f)))(h2:(σ[2]?).bind id=some (.int (n:Nat)))(h8:∀ x,((σ.set 8 x)[2]?).bind id=some (.int (n:Nat)))(h9:∀ x:D,((σ.set 8 (some x))[8]?).bind id=some x):ev (au T 29) σ (.bi .len (.comp (.var 8) [8] (.seq (.slT (.var i) (.var 2))) (.cmp .ge (.var 8) (.var 2))))=some (.int (thr n f:Nat)):=by
 have sl:kc (.tup (L f)) (.int (n:Nat))=some (.tup (L (f.take n))):=by
  have c:cutAt (L f).length (n:Nat)=n:=by
   unfold cutAt
   rw[if_pos (by lia),Int.toNat_natCast,aF,F.len]
   lia
  show(if cutAt (L f).length (n:Nat)<(L f).length then some (D.tup ((L f).take (cutAt (L f).length (n:Nat))))else none)=_
  rw[c,if_pos (by rw[aF,F.len];lia),sA]
 have mc:=iL (F:=fun σ1=>((ev (au T 29) σ1 (.cmp .ge (.var 8) (.var 2))).bind truth).bind fun k=>if k then(ev (au T 29) σ1 (.var 8)).map some else some none) (tg:=[8]) (σ:=σ) (h:=fun x=>.int (x:Nat)) (g:=fun x=>.int (x:Nat)) (c:=fun x=>decide (n<=x)) (fun _=>rfl) (f.take n) (by
  intro x _
  show((ev (au T 29) (σ.set 8 (some (.int (x:Nat)))) (.cmp .ge (.var 8) (.var 2))).bind truth).bind (fun k=>if k then(ev (au T 29) (σ.set 8 (some (.int (x:Nat)))) (.var 8)).map some else some none)=_
  have q:bh .ge (.int (x:Nat)) (.int (n:Nat))=some (decide (n<=x)):=by
   rw[pz]
   congr 1
   apply decide_eq_decide.mpr
   omega
  rw[aI (a8 (aa (h9 _)) (aa (h8 _)) q),Option.bind_some,aa (h9 _)]
  split<;>rfl)
 have ln:biV .len (.lst (((f.take n).filter fun x=>decide (n<=x)).map fun x=>D.int (x:Nat)))=some (.int (thr n f:Nat)):=by
  show some (D.int (List.length _:Nat))=_
  rw[List.length_map,oZ F,List.filter_map,List.length_map]
  rfl
 have lm:(L (f.take n)).length<=most:=by rw[aF,List.length_take];unfold most;lia
 exact aO (sk (cK (vt (aa hi) (aa h2) sl) rfl) lm mc) ln
theorem FO(p q:Nat):Pl 1 (.tup [.str "bar",.int (p:Nat),.int (q:Nat)]):=Pl.bar p q
theorem last(h1:1<=n)(hn:n<=10)(V:Val n f)(W:Val n g)(s1 s2:D)(o8 o9:Option D):∃ d os',d.imm=true/\au T 29 32 [.tup (L f),.tup (L g)]=some d/\os'.length=9/\af (au T 29) [] (wc 47 43 49 32 46 36) [some s1,some s2,some (.int (n:Nat)),some (.int (thr n f:Nat)),some (.int (thr n g:Nat)),some d,some (.tup (L f)),some (.tup (L g)),o8,o9]=some (.nx,some s1::os'):=by
 rcases btw h1 hn V W with⟨c,e⟩ | ⟨c,A,U,VA,VU,eq,e⟩
 ·refine⟨_,_,rfl,e,?_,dQ (aI (a8 (aa rfl) (aa rfl) (by rw[ib,decide_eq_true (by lia)]))) (br (aI (cO (c9 (aa rfl) (gz (a6 aj (a6 (aa rfl) (a6 (aa rfl) bu)))) (sameAll (T:=T) (sm:=47) rfl _ 28 _ (FO _ _) (by decide))))) aC) aC⟩
  rfl
 ·obtain⟨S1,_,q1⟩:=dr.sO 27 h1 hn VA.frm V.frm
  obtain⟨S2,_,q2⟩:=dr.sO 27 h1 hn (eI hn VA V).frm VU.frm
  rw[eq]at q2
  have l2:∀ {x:List Nat},Val n x->biV .len (.tup (L x))=some (.int ((2*n:Nat):Int)):=fun {x} X=>by
   show some (D.int ((L x).length:Nat))=_
   rw[aF,X.frm.len]
  have mc:=eR (F:=fun σ1=>(ev (au T 29) σ1 (.and (.call 49 (.cons (.var 9) .nil)) (.cmp .eq (.bi .len (.var 9)) (.bin .mul (.cst (.int 2)) (.var 2))))).map some) (tg:=[9]) (σ:=[some s1,some s2,some (.int (n:Nat)),some (.int (thr n f:Nat)),some (.int (thr n g:Nat)),some (.tup [.str "frames",.tup (L A),.tup (L U)]),some (.tup (L f)),some (.tup (L g)),o8,o9]) (h:=fun x:List Nat=>.tup (L x)) (g:=fun _=>.bl true) (fun _=>rfl) [A,U] (by
   intro x hx
   have X:Val n x:=by
    simp only[List.mem_cons,List.not_mem_nil,or_false]at hx
    rcases hx with rfl | rfl
    ·exact VA
    ·exact VU
   show(ev (au T 29) [some s1,some s2,some (.int (n:Nat)),some (.int (thr n f:Nat)),some (.int (thr n g:Nat)),some (.tup [.str "frames",.tup (L A),.tup (L U)]),some (.tup (L f)),some (.tup (L g)),o8,some (.tup (L x))] (.and (.call 49 (.cons (.var 9) .nil)) (.cmp .eq (.bi .len (.var 9)) (.bin .mul (.cst (.int 2)) (.var 2))))).map some=_
   rw[cq (b8 (aa rfl) (good h1 hn X)) (a8 (k:=true) (aO (aa rfl) (l2 X)) (az aj (aa rfl) (A1 n)) (by rw[cA,beq_self_eq_true]))]
   rfl)
  refine⟨_,_,?_,e,?_,hZ (aI (a8 (aa rfl) (aa rfl) (by rw[ib,decide_eq_false (by lia)]))) (hZ (aI (i7 (cO (k:=true) (cI (aa rfl) rfl)) (i7 (a8 (k:=false) (aO (aa rfl) rfl) aj rfl) (a8 (k:=false) (b9 (aa rfl) aj rfl) aj rfl)))) (br (aI (cO (aO (cb (cK (FY (aa rfl) aj (show v3 (.tup [.str "frames",.tup (L A),.tup (L U)]) (.int 1)=some (.tup [.tup (L A),.tup (L U)])from rfl)) rfl) (show 2<=most by decide) mc) (show biV .all (.lst [.bl true,.bl true])=some (.bl true)from rfl)))) (br (aI (a8 (b9 (c9 (b9 (c9 (b9 (aa rfl) aj rfl) (aa rfl) q1) aj rfl) (b9 (aa rfl) aj rfl) q2) aj rfl) (aa rfl) (G6 (Pl.L (n:=0) (by rw[W.frm.len];lia)) (by decide)))) aC)) aC) aC⟩
  ·rw[show ∀ x y:List Nat,(D.tup [.str "frames",.tup (L x),.tup (L y)]).imm=(aq (L x)&&(aq (L y)&&true))from fun _ _=>rfl,aK,aK]
   rfl
  ·rfl
end
theorem main(ns:List Int)(hl:ns.length<=63):au T 30 50 [.scr (ns.map D.int)]=some (.bl true):=by
 refine(ao (fn:=Av 47 43 49 32 46 36) rfl).trans (yj (m:=8) (N:=8) hl (by decide) fun k os hk ho=>?_)
 obtain⟨o2,o3,o4,o5,o6,o7,o8,o9,rfl⟩:=Gj ho
 obtain⟨ds,hd,e1⟩:=dr.digits hl 26 (k:=40+k) (sizes:=[10]) (by lia) (by simp) (by simp)
 obtain⟨p,rfl,hp⟩:=G9 hd
 have n1:1<=1+p:=by lia
 have n2:1+p<=10:=by lia
 obtain⟨fs,q1,q2,e2⟩:=dr.rows (fs:=46) rfl hl 24 (k:=2*k) (m:=1+p) (q:=2) (by lia) n1 n2 (by lia)
 obtain⟨f,g,rfl⟩:=Ge q1
 have V:=q2 f (by simp)
 have W:=q2 g (by simp)
 have e0:aB .add (.int 1) (.int (p:Nat))=some (.int ((1+p:Nat):Int)):=rfl
 generalize 1+p=n at *
 obtain⟨d,os',im,eb,h9,e⟩:=last n1 n2 V W (.lst (LI ns)) (.int (k:Nat)) o8 o9
 exact⟨os',h9,a7 (az aj (b9 (mj (aa rfl) (az aj (aa rfl) rfl) (dZ (a6 aj bu)) e1) aj rfl) e0) rfl
  (r9 (x_call (a6 (aa rfl) (a6 (az aj (aa rfl) (A1 k)) (a6 (aa rfl) (a6 aj bu)))) e2) rfl (by simp[aq,D.imm,aK]) rfl
  (a7 (count n2 n1 V.frm rfl rfl (fun _=>rfl) (fun _=>rfl)) rfl
  (a7 (count n2 n1 W.frm rfl rfl (fun _=>rfl) (fun _=>rfl)) rfl
  (a7 (c9 (aa rfl) (aa rfl) eb) (by unfold aQ;rw[im];rfl) e))))⟩
end K37
namespace L2
open PySem PySem.Spec PyProof.Rows
abbrev Key:=Sum Int Str
def l8:Key->Value->Bool
 | .inl k,v=>Value.isInt k v
 | .inr x,v=>Value.isStrOf x v
def Hr(w:World):Key->Int
 | .inl k=>hashInt k
 | .inr x=>hashStr w x
theorem bT:∀ {k:Key} {v:Value},l8 k v=true->(∃ i t,k=Sum.inl i/\v=Value.int i t)\/(∃ x t,k=Sum.inr x/\v=Value.str x t)
 | .inl i,v,h=>by
  obtain⟨t,e⟩:=Value.isInt_shape (k:=i) (v:=v) h
  exact .inl ⟨i,t,rfl,e⟩
 | .inr x,v,h=>by
  obtain⟨t,e⟩:=Value.isStrOf_shape (x:=x) (v:=v) h
  exact .inr ⟨x,t,rfl,e⟩
theorem xl(i:Int)(t:Tok):l8 (.inl i) (.int i t)=true:=by simp[l8,Value.isInt]
theorem wu(x:Str)(t:Tok):l8 (.inr x) (.str x t)=true:=by simp[l8,Value.isStrOf]
theorem ER(a b:Int):decide ((Sum.inl a:Key)=Sum.inl b)=(a == b):=by
 by_cases e:a=b
 ·subst e;simp
 ·have h:¬ (Sum.inl a:Key)=Sum.inl b:=fun q=>e (Sum.inl.inj q)
  rw[decide_eq_false h]
  exact(beq_eq_false_iff_ne.mpr e).symm
theorem F0(a b:Str):decide ((Sum.inr a:Key)=Sum.inr b)=decide (a=b):=by
 by_cases e:a=b
 ·subst e;simp
 ·have h:¬ (Sum.inr a:Key)=Sum.inr b:=fun q=>e (Sum.inr.inj q)
  rw[decide_eq_false h,decide_eq_false e]
theorem EW(a:Int)(b:Str):decide ((Sum.inl a:Key)=Sum.inr b)=false:=decide_eq_false (fun q=>nomatch q)
theorem C5(a:Str)(b:Int):decide ((Sum.inr a:Key)=Sum.inl b)=false:=decide_eq_false (fun q=>nomatch q)
def bZ(prog:Program)(w:World):PySem.KeyKind prog w Key where
 is:=l8
 hash:=Hr w
 inj:=fun v a b ha hb=>by
  rcases bT ha with⟨i,t,rfl,rfl⟩ | ⟨x,t,rfl,rfl⟩
  ·rcases bT hb with⟨j,u,rfl,e⟩ | ⟨y,u,rfl,e⟩
   ·injection e with e1 _;rw[e1]
   ·exact nomatch e
  ·rcases bT hb with⟨j,u,rfl,e⟩ | ⟨y,u,rfl,e⟩
   ·exact nomatch e
   ·injection e with e1 _;rw[e1]
 byValue:=fun k v h=>by
  rcases bT h with⟨i,t,rfl,rfl⟩ | ⟨x,t,rfl,rfl⟩<;>rfl
 pyHash:=fun hv h=>by
  rcases bT hv with⟨i,t,rfl,rfl⟩ | ⟨x,t,rfl,rfl⟩
  ·exact wpAny_pyHash_int h
  ·exact wpAny_pyHash_str h
 eqBool:=fun hu hv h=>by
  rcases bT hu with⟨i,t,rfl,rfl⟩ | ⟨x,t,rfl,rfl⟩
  ·rcases bT hv with⟨j,u,rfl,rfl⟩ | ⟨y,u,rfl,rfl⟩
   ·rw[ER]at h;exact wpAny_eqBool_int h
   ·rw[EW]at h;exact SeqAt.EqAt.int_str i t y u _ _ _ _ h
  ·rcases bT hv with⟨j,u,rfl,rfl⟩ | ⟨y,u,rfl,rfl⟩
   ·rw[C5]at h;exact SeqAt.EqAt.str_int x t j u _ _ _ _ h
   ·rw[F0]at h;exact wpAny_eqBool_str h
 «strs»:=fun k x t v h=>by
  rcases bT h with⟨i,u,rfl,e⟩ | ⟨y,u,rfl,e⟩
  ·exact nomatch e
  ·injection e with e1 _
   subst e1
   cases v<;>rfl
theorem sV(prog:Program)(w:World)(i:Int)(t:Tok):(bZ prog w).is (.inl i) (.int i t)=true:=xl i t
theorem sS(prog:Program)(w:World)(x:Str)(t:Tok):(bZ prog w).is (.inr x) (.str x t)=true:=wu x t
inductive V where
 | non | bl (b:Bool) | int (i:Int) | str (x:Str) | byt (b:Array UInt8) | flt (b:UInt64) | ref (a:Addr) | ty (n:String)
 deriving DecidableEq
def RelV:V->Value->Prop
 | .non,u=>u=Value.none
 | .bl b,u=>u=Value.bool b
 | .int i,u=>∃ t,u=Value.int i t
 | .str x,u=>∃ t,u=Value.str x t
 | .byt b,u=>∃ t,u=Value.bytes b t
 | .flt b,u=>∃ t,u=Value.float b t
 | .ref a,u=>u=Value.ref a
 | .ty n,u=>u=Value.type n
abbrev Vals:List V->List Value->Prop:=Paired RelV
theorem Vals.length(r:Vals xs us):xs.length=us.length:=Paired.length r
theorem Vals.get:∀ {xs:List V} {us:List Value} {i:Nat} {x:V},Vals xs us->xs[i]?=some x->∃ u,us[i]?=some u/\RelV x u
 | _,_,_,_,.nil,e=>by simp at e
 | _,_,0,_,.cons r _,e=>by simp at e;subst e;exact⟨_,rfl,r⟩
 | _,_,i+1,x,.cons _ t,e=>by
  obtain⟨u,h1,h2⟩:=Vals.get (i:=i) (x:=x) t (by simpa using e)
  exact⟨u,by simpa using h1,h2⟩
theorem Vals.set(r:RelV x u):∀ {xs:List V} {us:List Value} (i:Nat),Vals xs us->Vals (xs.set i x) (us.set i u)
 | _,_,_,.nil=>.nil
 | _,_,0,.cons _ t=>.cons r t
 | _,_,i+1,.cons q t=>.cons q (Vals.set r i t)
theorem Vals.append:∀ {xs ys:List V} {us ws:List Value},Vals xs us->Vals ys ws->Vals (xs++ys) (us++ws)
 | _,_,_,_,.nil,s=>s
 | _,_,_,_,.cons r t,s=>.cons r (Vals.append t s)
theorem Vals.take:∀ {xs:List V} {us:List Value} (n:Nat),Vals xs us->Vals (xs.take n) (us.take n)
 | _,_,0,_=>.nil
 | _,_,_+1,.nil=>.nil
 | _,_,n+1,.cons r t=>.cons r (Vals.take n t)
theorem Vals.drop:∀ {xs:List V} {us:List Value} (n:Nat),Vals xs us->Vals (xs.drop n) (us.drop n)
 | _,_,0,r=>r
 | _,_,_+1,.nil=>.nil
 | _,_,n+1,.cons _ t=>Vals.drop n t
def gW:Option V->Option Value->Prop
 | some v,some u=>RelV v u
 | none,none=>True
 | _,_=>False
def KV{κ:Type}:List (κ × V)->List (κ × Value)->Prop:=Paired fun(p:κ × V) (q:κ × Value)=>p.1=q.1/\RelV p.2 q.2
def kV:Key->V
 | .inl i=>.int i
 | .inr x=>.str x
inductive HO where
  | lst (xs:List V)
  | tup (xs:List V)
  | dK (kvs:List (Key × V)) | dT (kvs:List (List Key × V))
  | set (S:Int->Bool) (n:Nat)
  | ins (C dx:Addr) (fs:List (Str × V))
  | own (x:Addr)
  | xd (fs:List (Str × V))
  | met (f x:Addr)
  | rng (lo hi:Int)
  | frz (o:Obj) (u:HO)
  | tbl (ps:Array Value)
  | ext (φ:Heap->Prop)
abbrev Hp:=Addr->Option HO
def upd(H:Hp)(a:Addr)(o:HO):Hp:=fun b=>if b=a then some o else H b
theorem bC{H:Hp}{a:Addr}{o:HO}:upd H a o a=some o:=by unfold upd;rw[if_pos rfl]
theorem aV{H:Hp}{a b:Addr}{o:HO}(h:b≠a):upd H a o b=H b:=by unfold upd;rw[if_neg h]
theorem uS{H:Hp}{a b:Addr}{o u:HO}(h:H a=some o)(h':H b=some u)(d:o≠u):a≠b:=by
 intro e;subst e;rw[h]at h';exact d (Option.some.inj h')
theorem aW{H:Hp}{a b:Addr}{o:HO}(h:H a=some o)(h':H b=none):a≠b:=by
 intro e;subst e;rw[h]at h';cases h'
section
variable(P:Program)(w:World)
def bB(H:Hp)(h:Heap)(a:Addr):HO->Prop
 | .lst xs=>xs.length<=sizeLine/\∃ (its:List Value) (n:Nat),Vals xs its/\h.get? a=some { cls:=.type "list",data:=.seq its.toArray n }
 | .tup xs=>xs.length<=sizeLine/\∃ its:List Value,Vals xs its/\IsTup h a its.toArray
 | .dK kvs=>kvs.length<=sizeLine/\(a == sysModules)=false/\∃ vs,KV kvs vs/\h.DictOf (bZ P w) a vs
 | .dT kvs=>kvs.length<=sizeLine/\(a == sysModules)=false/\∃ xs:List (List Key × Addr × Value),
   Paired (fun(p:List Key × V) (q:List Key × Addr × Value)=>p.1=q.1/\H q.2.1=some (.tup (p.1.map kV))/\RelV p.2 q.2.2) kvs xs /\
   ∃ o es ep,h.get? a=some o/\o.ExactDict/\o.data=.dict es ep/\es.toList=xs.map (entryOfKey (tupleKind (bZ P w)))/\(xs.map (·.1)).Nodup
 | .set S n=>h.SetOf (intKind P w) a S n
 | .ins C dx fs=>H dx=some (.own a)/\fs.length<=1000/\dx≠a/\h.get? a=some (PySem.W.instObj C dx) /\
   ∃ mA,h.Ns1 dx mA/\(∀ f,gW (fs.lookup f) (mA f))/\PySem.Within mA (fs.map (·.1))
 | .own _=>∃ o,h.get? a=some o
 | .xd fs=>∃ mA,h.Ns1 a mA/\∀ f,gW (fs.lookup f) (mA f)
 | .rng lo hi=>∃ t u v,h.get? a=some { cls:=.type "range",data:=.fields #[.int lo t,.int hi u,.int 1 v] }
 | .frz o u=>h.get? a=some o/\bB H h a u
 | .tbl ps=>h.get? a=some { cls:=.none,data:=.fields ps }
 | .met f x=>h.get? a=some (PySem.W.methodObj (.ref f) (.ref x))
 | .ext φ=>φ h/\(∃ o,h.get? a=some o)/\∀ h1 h2:Heap,φ h1->(∀ o,h1.get? a=some o->h2.get? a=some o)->φ h2
def HOk(H:Hp)(h:Heap):Prop:=∀ a o,H a=some o->bB P w H h a o
end
section
variable{P:Program}{w:World}{H H':Hp}{h h':Heap}{a:Addr}{o:HO}
theorem bB.lt(x:bB P w H h a o):a<h.objs.size:=by
 cases o with
 | lst xs=>obtain⟨_,_,_,_,e⟩:=x;exact Heap.lt_size e
 | tup xs=>obtain⟨_,_,_,p⟩:=x;exact p.lt
 | dK kvs=>obtain⟨_,_,_,_,o,_,_,e,_⟩:=x;exact Heap.lt_size e
 | dT kvs=>obtain⟨_,_,_,_,o,_,_,e,_⟩:=x;exact Heap.lt_size e
 | set S n=>obtain⟨o,_,_,_,e,_⟩:=x;exact Heap.lt_size e
 | ins C dx fs=>obtain⟨_,_,_,e,_⟩:=x;exact Heap.lt_size e
 | own y=>obtain⟨_,e⟩:=x;exact Heap.lt_size e
 | xd fs=>obtain⟨_,⟨_,_,_,e,_⟩,_⟩:=x;exact Heap.lt_size e
 | rng lo hi=>obtain⟨_,_,_,e⟩:=x;exact Heap.lt_size e
 | frz ob u=>obtain⟨e,_⟩:=x;exact Heap.lt_size e
 | tbl ps=>exact Heap.lt_size (show h.get? a=some _ from x)
 | met f y=>exact Heap.lt_size (show h.get? a=some _ from x)
 | ext φ=>obtain⟨_,⟨_,e⟩,_⟩:=x;exact Heap.lt_size e
theorem Paired.Af{α β:Type}{F G:α->β->Prop}:∀ {l₁:List α} {l₂:List β},Paired F l₁ l₂->(∀ a b,F a b->G a b)->Paired G l₁ l₂
 | _,_,.nil,_=>.nil
 | _,_,.cons r t,f=>.cons (f _ _ r) (Paired.Af t f)
theorem bB.oD(x:bB P w H h a o)(k:∀ b u,(b=a\/H b=some (.own a))->h.get? b=some u->h'.get? b=some u)
 (ho:∀ b,H b=some (.own a)->H' b=some (.own a))(ht:∀ b xs,H b=some (.tup xs)->H' b=some (.tup xs)):bB P w H' h' a o:=by
 induction o with
 | lst xs=>obtain⟨z,its,n,r,e⟩:=x;exact⟨z,its,n,r,k _ _ (.inl rfl) e⟩
 | tup xs=>obtain⟨z,its,r,ob,e,c⟩:=x;exact⟨z,its,r,ob,k _ _ (.inl rfl) e,c⟩
 | dK kvs=>obtain⟨z,y,vs,r,ob,es,ep,e,c⟩:=x;exact⟨z,y,vs,r,ob,es,ep,k _ _ (.inl rfl) e,c⟩
 |dT kvs=>
  obtain⟨z,y,xs,r,ob,es,ep,e,c⟩:=x
  exact⟨z,y,xs,Paired.Af r fun p q z=>⟨z.1,ht _ _ z.2.1,z.2.2⟩,ob,es,ep,k _ _ (.inl rfl) e,c⟩
 | set S n=>obtain⟨ob,es,ep,t,e,c⟩:=x;exact⟨ob,es,ep,t,k _ _ (.inl rfl) e,c⟩
 |ins C dx fs=>
  obtain⟨d,z,ne,e,mA,⟨od,es,ep,e2,c⟩,r⟩:=x
  exact⟨ho _ d,z,ne,k _ _ (.inl rfl) e,mA,⟨od,es,ep,k _ _ (.inr d) e2,c⟩,r⟩
 | own y=>obtain⟨ob,e⟩:=x;exact⟨ob,k _ _ (.inl rfl) e⟩
 | xd fs=>obtain⟨mA,⟨od,es,ep,e,c⟩,r⟩:=x;exact⟨mA,⟨od,es,ep,k _ _ (.inl rfl) e,c⟩,r⟩
 | rng lo hi=>obtain⟨t,u,v,e⟩:=x;exact⟨t,u,v,k _ _ (.inl rfl) e⟩
 | frz ob u ih=>obtain⟨e,q⟩:=x;exact⟨k _ _ (.inl rfl) e,ih q⟩
 |tbl ps=>
  have e:h.get? a=some { cls:=.none,data:=.fields ps }:=x
  show h'.get? a=some { cls:=.none,data:=.fields ps }
  exact k a _ (.inl rfl) e
 |met f y=>
  have e:h.get? a=some (PySem.W.methodObj (.ref f) (.ref y)):=x
  show h'.get? a=some (PySem.W.methodObj (.ref f) (.ref y))
  exact k a _ (.inl rfl) e
 | ext φ=>obtain⟨p,⟨o,e⟩,st⟩:=x;exact⟨st _ _ p fun o q=>k _ _ (.inl rfl) q,⟨o,k _ _ (.inl rfl) e⟩,st⟩
theorem HOk.lt(x:HOk P w H h)(e:H a=some o):a<h.objs.size:=(x a o e).lt
theorem HOk.fresh(x:HOk P w H h)(e:h.objs.size<=a):H a=none:=by
 cases q:H a with
 | none=>rfl
 | some u=>exact absurd (Nat.lt_of_lt_of_le (x.lt q) e) (Nat.lt_irrefl _)
theorem HOk.kept(x:HOk P w H h)(k:∀ b u,h.get? b=some u->h'.get? b=some u):HOk P w H h':=fun a o e =>
 (x a o e).oD (fun b u _ q=>k b u q) (fun _ q=>q) fun _ _ q=>q
theorem HOk.laid(x:HOk P w H h)(k:∀ b u,h.get? b=some u->h'.get? b=some u)(hp:h.objs.size<=a)(new:bB P w (upd H a o) h' a o):HOk P w (upd H a o) h':=fun b u e=>by
 have hn:=x.fresh hp
 by_cases hb:b=a
 ·subst hb;rw[bC]at e;cases e;exact new
 ·rw[aV hb]at e
  exact(x b u e).oD (fun c v _ q=>k c v q) (fun c q=>by rw[aV (aW q hn)];exact q) fun c xs q=>by rw[aV (aW q hn)];exact q
end
def Rd(H:Hp)(a:Addr)(u:HO):Prop:=H a=some u\/∃ o,H a=some (.frz o u)
theorem Rd.ok(r:Rd H a u)(x:HOk P w H h):bB P w H h a u:=by
 rcases r with r | ⟨o,r⟩
 ·exact x a u r
 ·obtain⟨_,q⟩:=x a _ r
  exact q
def Mut:Option HO->Prop
 | some (.lst _)=>True
 | some (.dK _)=>True
 | some (.dT _)=>True
 | some (.set _ _)=>True
 | some (.ins _ _ _)=>True
 | some (.ext _)=>True
 | _=>False
section
variable{P:Program}{w:World}{H:Hp}{h h':Heap}{x e:Addr}{o':HO}
theorem HOk.write(ok:HOk P w H h)(mu:Mut (H x))(he:e=x\/H e=some (.own x))(k:∀ b u,b≠e->h.get? b=some u->h'.get? b=some u)(heo:∃ u,h'.get? e=some u)
 (new:bB P w (upd H x o') h' x o'):HOk P w (upd H x o') h':=fun b u q=>by
 have nown:∀ c y,H c=some (.own y)->c≠x:=fun c y r z=>by subst z;rw[r]at mu;exact mu
 have ntup:∀ c xs,H c=some (.tup xs)->c≠x:=fun c xs r z=>by subst z;rw[r]at mu;exact mu
 by_cases hb:b=x
 ·subst hb;rw[bC]at q;cases q;exact new
 ·rw[aV hb]at q
  by_cases hbe:b=e
  ·have q':H b=some (.own x):=by
    rcases he with z | z
    ·exact absurd (hbe.trans z) hb
    ·rw[hbe];exact z
   rw[q]at q';cases q'
   obtain⟨v,hv⟩:=heo
   exact⟨v,by rw[hbe];exact hv⟩
  ·refine(ok b u q).oD (fun c v hc r=>k c v ?_ r) (fun c r=>by rw[aV (nown c b r)];exact r) fun c xs r=>by rw[aV (ntup c xs r)];exact r
   rcases hc with rfl | hc
   ·exact hbe
   ·rintro rfl
    rcases he with z | z
    ·exact nown c b hc z
    ·rw[hc]at z;cases z;exact hb rfl
end
structure Un(fs ex:List Addr)(H H':Hp)(h h':Heap):Prop where
 keep:∀ b o,h.get? b=some o->H b=none->b∉fs->b∉ex->h'.get? b=some o
 slot:∀ b o,h.get? b=some o->H b=none->b∈fs->b∉ex->∃ sl,h'.get? b=some { o with slots:=sl }
 free:∀ b o,h.get? b=some o->H b=none->b∉ex->H' b=none
 there:∀ b o,h.get? b=some o->b∉ex->∃ o',h'.get? b=some o'
 kJ:∀ b xs,H b=some (.tup xs)->H' b=some (.tup xs)
 jy:∀ b o u,H b=some (.frz o u)->H' b=some (.frz o u)
 kK:∀ b ps,H b=some (.tbl ps)->∃ more,H' b=some (.tbl (ps++more))
section
variable{fs fs' ex ex':List Addr}{H H1 H2:Hp}{h h1 h2 h':Heap}{a x e:Addr}{o:HO}
theorem Un.any(u:Un fs ex H H1 h h1){b:Addr}{ob:Obj}(q:h.get? b=some ob)(n:H b=none)(hx:b∉ex):∃ sl,h1.get? b=some { ob with slots:=sl }:=by
 by_cases hb:b∈fs
 ·exact u.slot b ob q n hb hx
 ·exact⟨ob.slots,u.keep b ob q n hb hx⟩
theorem Un.kept(k:∀ b u,h.get? b=some u->h'.get? b=some u):Un fs ex H H h h' :=
 ⟨fun b ob q _ _ _=>k b ob q,fun b ob q _ _ _=>⟨ob.slots,k b ob q⟩,fun _ _ _ n _=>n,fun b ob q _=>⟨ob,k b ob q⟩,fun _ _ q=>q,fun _ _ _ q=>q,fun _ ps q=>⟨#[],by rw[q];simp⟩⟩
theorem Un.refl:Un fs ex H H h h:=Un.kept fun _ _ q=>q
theorem Un.laid(k:∀ b u,h.get? b=some u->h'.get? b=some u)(hp:h.objs.size<=a)(hn:H a=none):Un fs ex H (upd H a o) h h' where
 keep:=fun b u q _ _ _=>k b u q
 slot:=fun b u q _ _ _=>⟨u.slots,k b u q⟩
 free:=fun b u q n _=>by rw[aV (Nat.ne_of_lt (Nat.lt_of_lt_of_le (Heap.lt_size q) hp))];exact n
 there:=fun b u q _=>⟨u,k b u q⟩
 kJ:=fun b xs q=>by rw[aV (aW q hn)];exact q
 jy:=fun b u xs q=>by rw[aV (aW q hn)];exact q
 kK:=fun b ps q=>⟨#[],by rw[aV (aW q hn),q];simp⟩
theorem Un.write(mu:Mut (H x))(he:e=x\/H e=some (.own x))(k:∀ b u,b≠e->h.get? b=some u->h'.get? b=some u)(heo:∃ u,h'.get? e=some u):Un fs ex H (upd H x o) h h':=by
 have hx:∀ b,H b=none->b≠x:=fun b n z=>by subst z;rw[n]at mu;exact mu
 have hb:∀ b,H b=none->b≠e:=fun b n z=>by
  subst z
  rcases he with r | r
  ·exact hx b n r
  ·rw[n]at r;cases r
 have hm:∀ b u,H b=some u->¬ Mut (some u)->b≠x:=fun b u q nm z=>by subst z;rw[q]at mu;exact nm mu
 refine⟨fun b u q n _ _=>k b u (hb b n) q,fun b u q n _ _=>⟨u.slots,k b u (hb b n) q⟩,fun b u q n _=>by rw[aV (hx b n)];exact n,fun b u q _=>?_,
  fun b xs q=>by rw[aV (hm b _ q fun z=>z)];exact q,fun b u xs q=>by rw[aV (hm b _ q fun z=>z)];exact q,fun b ps q=>⟨#[],by rw[aV (hm b _ q fun z=>z),q];simp⟩⟩
 by_cases hbe:b=e
 ·subst hbe;exact heo
 ·exact⟨u,k b u hbe q⟩
end
def trk(h:Heap)(H:Hp):List Addr:=(List.range h.objs.size).filter fun a=>(H a).isSome
def jq(h:Heap)(H:Hp):Heap:=PySem.W.hideAll h (trk h H)
theorem wd(h:Heap)(H:Hp):(jq h H).objs.size=h.objs.size:=PySem.W.hideAll_size _ _
theorem zB{h:Heap}{H:Hp}{b:Addr}{o:Obj}(e:h.get? b=some o)(n:H b=none):(jq h H).get? b=some o :=
 PySem.W.hideAll_get _ e fun hm=>by
  have q:(H b).isSome=true:=(List.mem_filter.mp hm).2
  rw[n]at q;simp at q
theorem Cr{h:Heap}{H:Hp}{b:Addr}{o:Obj}(e:(jq h H).get? b=some o):h.get? b=some o/\H b=none:=by
 have e':h.get? b=some o:=PySem.W.of_hideAll (trk h H) e
 refine⟨e',?_⟩
 cases q:H b with
 | none=>rfl
 |some x=>
  have hm:b∈trk h H:=List.mem_filter.mpr ⟨List.mem_range.mpr (Heap.lt_size e'),by simp[q]⟩
  have z:(jq h H).get? b=none:=PySem.W.hideAll_none (trk h H) hm
  rw[z]at e;cases e
structure Mod(K:PySem.W.Frag)(mg:Str->Option Value)(base:Heap):Prop where
 kin:K.In base
 glob:base.Ns mainGlobals mg
 blt:∃ mb,base.Ns builtinsNs mb/\∀ x:Str,x ≠ "__name__" -> mb x=bootBuiltins x
 nolimit:base.NoLimit
structure Cx where
 prog:Program
 w:World
 K:PySem.W.Frag
 mg:Str->Option Value
 base:Heap
 A:Around
 N:List Str
 s₀:Shared
 H₀:Hp
 env:Env
 outer:List Env
 stack:List Env
 ex:List Addr
 fn:Str->Bool
 calm:Bool
 pn:List (Addr × Obj)
 xe:Value->Shared->Prop
def frs(l:List Env):List Addr:=l.filterMap (·.frame)
abbrev Cx.fs(X:Cx):List Addr:=frs X.outer
def Vis(sc:Scope)(x:Str):Prop:=sc.names.lookup x=some .local\/sc.names.lookup x=some .cell\/sc.names.lookup x=some .free
def Loc(sc:Scope)(x:Str):Prop:=sc.names.lookup x=some .local\/sc.names.lookup x=some .cell
def Look(env:Env)(h:Heap)(m:Str->Option Value)(x:Str)(u:Value):Prop :=
 (env.kindOf x=some .local/\m x=some u)\/((env.kindOf x=some .cell\/env.kindOf x=some .free)/\∃ c,env.cells.lookup x=some c/\h.IsCell c (some u))
structure Cx.Ok(X:Cx):Prop where
 mod:Mod X.K X.mg X.base
 kind:X.env.scope.kind=.function
 glob:X.env.globals=mainGlobals
 blt:X.env.builtins=builtinsNs
 above:X.s₀.heap.objs.size<=X.env.locals
 inj:∀ x y c,X.env.cells.lookup x=some c->X.env.cells.lookup y=some c->x=y
 has:∀ x,(X.env.kindOf x=some .cell\/X.env.kindOf x=some .free)->∃ c,X.env.cells.lookup x=some c
 cab:∀ x c,X.fn x=true->X.env.cells.lookup x=some c->X.s₀.heap.objs.size<=c
 hd:X.calm=true->X.A.handled=none
 frames:X.A.frames=some X.stack
 stk:X.stack=X.outer\/(X.stack=X.env::X.outer/\X.env.frame=some X.env.locals)
 exf:∀ b∈X.ex,b≠X.env.locals/\∀ x c,X.env.cells.lookup x=some c->c≠b
 bs:∀ b o,X.base.get? b=some o->X.s₀.heap.get? b=some o/\X.H₀ b=none
 bsz:X.base.objs.size<=X.s₀.heap.objs.size
 qK:∀ b o,X.base.get? b=some o->b∉X.ex
 rP:∀ b∈X.ex,b∉X.fs
 gY:X.s₀.heap.FunFrames X.base X.outer
 frf:∀ b∈X.fs,X.H₀ b=none
structure Inv(X:Cx)(pins:List (Addr × Obj))(σ:List (Option V))(H:Hp)(s:Shared):Prop where
 ok:X.Ok
 os:s.os=X.s₀.os
 bare:AllBare s.gens
 base:Un X.fs X.ex X.H₀ H X.s₀.heap s.heap
 loc:∃ m,s.heap.Ns X.env.locals m/\∀ (i:Nat) (x:Str) (v:V),X.N[i]?=some x->σ[i]?=some (some v)->Vis X.env.scope x->∃ u,RelV v u/\Look X.env s.heap m x u
 cell:∀ x c,X.env.cells.lookup x=some c->∃ v,s.heap.IsCell c v
 free:H X.env.locals=none
 eK:∀ x c,X.env.cells.lookup x=some c->H c=none
 pin:∀ p∈X.pn++pins,s.heap.get? p.1=some p.2/\H p.1=none/\p.1≠X.env.locals/\p.1∉X.fs/\∀ v,p.2.data≠.cell v
 hok:HOk X.prog X.w H s.heap
 len:σ.length=X.N.length
section
variable{X:Cx}{pins:List (Addr × Obj)}{σ:List (Option V)}{H H':Hp}{s:Shared}{h':Heap}
theorem Cx.Ok.HY(ok:X.Ok){b:Addr}{o:Obj}(e:X.base.get? b=some o):b∉X.fs:=fun hb=>by
 have:=(ok.gY.mem hb).1
 rw[e]at this;cases this
theorem Inv.bs(I:Inv X pins σ H s):∀ b o,X.base.get? b=some o->s.heap.get? b=some o/\H b=none:=fun b o e =>
 ⟨I.base.keep b o (I.ok.bs b o e).1 (I.ok.bs b o e).2 (I.ok.HY e) (I.ok.qK b o e),I.base.free b o (I.ok.bs b o e).1 (I.ok.bs b o e).2 (I.ok.qK b o e)⟩
theorem Inv.bk(I:Inv X pins σ H s):∀ b o,X.base.get? b=some o->s.heap.get? b=some o:=fun b o e=>(I.bs b o e).1
theorem Inv.mod(I:Inv X pins σ H s):Mod X.K X.mg X.base:=I.ok.mod
theorem Inv.kIn(I:Inv X pins σ H s):X.K.In s.heap:=I.ok.mod.kin.keeps I.bk
theorem Inv.lt(I:Inv X pins σ H s):X.env.locals<s.heap.objs.size:=let ⟨_,hn,_⟩:=I.loc;hn.lt
theorem Inv.sz(I:Inv X pins σ H s):X.s₀.heap.objs.size<=s.heap.objs.size:=Nat.le_trans I.ok.above (Nat.le_of_lt I.lt)
theorem Inv.Hj(I:Inv X pins σ H s){a:Addr}(h:s.heap.objs.size<=a):a∉X.fs:=fun hb=>by
 obtain⟨_,o,ho,_⟩:=I.ok.gY.mem hb
 exact absurd (Nat.lt_of_lt_of_le (Heap.lt_size ho) (Nat.le_trans I.sz h)) (Nat.lt_irrefl _)
theorem Inv.cne(I:Inv X pins σ H s):∀ x c,X.env.cells.lookup x=some c->c≠X.env.locals:=fun x c e z=>by
 obtain⟨v,o,ho,hd⟩:=I.cell x c e
 obtain⟨m,⟨o',es,ep,ho',hd',_⟩,_⟩:=I.loc
 rw[z,ho']at ho;cases ho;rw[hd']at hd;cases hd
theorem Inv.gY(I:Inv X pins σ H s):s.heap.FunFrames X.base X.outer:=by
 have all:∀ (l:List Env),(∀ b∈frs l,b∈X.fs)->X.s₀.heap.FunFrames X.base l->s.heap.FunFrames X.base l:=by
  intro l
  induction l with
  | nil=>intro _ _;trivial
  |cons env r ih=>
   intro hs hl
   obtain⟨hk,⟨L,o,hf,hn,ho,hd⟩,hr⟩:=hl
   have hL:L∈X.fs:=hs L (by unfold frs;rw[List.filterMap_cons,hf];exact List.mem_cons_self)
   obtain⟨sl,e⟩:=I.base.slot L o ho (I.ok.frf L hL) hL fun z=>I.ok.rP L z hL
   exact⟨hk,⟨L,_,hf,hn,e,hd⟩,ih (fun b hb=>hs b (by unfold frs;rw[List.filterMap_cons,hf];exact List.mem_cons_of_mem _ hb)) hr⟩
 exact all X.outer (fun _ hb=>hb) I.ok.gY
theorem Inv.stack(I:Inv X pins σ H s):s.heap.FunFrames X.base X.stack:=by
 rcases I.ok.stk with e | ⟨e,hf⟩
 ·rw[e];exact I.gY
 ·rw[e]
  obtain⟨m,hn,_⟩:=I.loc
  refine .cons (by rw[I.ok.kind];decide) hf hn ?_ I.gY
  exact Heap.get?_none_of_le (Nat.le_trans I.ok.bsz I.ok.above)
theorem Inv.sj(I:Inv X pins σ H s):∀ b∈frs X.stack,b∈X.env.locals::X.fs:=fun b hb=>by
 rcases I.ok.stk with e | ⟨e,hf⟩
 ·rw[e]at hb;exact List.mem_cons_of_mem _ hb
 ·rw[e]at hb
  unfold frs at hb
  rw[List.filterMap_cons,hf]at hb
  exact hb
theorem Inv.t8(I:Inv X pins σ H s):∀ b∈frs X.stack,H b=none:=fun b hb=>by
 rcases List.mem_cons.mp (I.sj b hb)with e | hb
 ·rw[e];exact I.free
 ·obtain⟨_,o,ho,_⟩:=I.ok.gY.mem hb
  exact I.base.free b o ho (I.ok.frf b hb) fun z=>I.ok.rP b z hb
theorem Inv.step{g':Array GenState}{t':Nat}{d':Drawn}{ch:List Addr}(I:Inv X pins σ H s)
 (hch:∀ b∈ch,(b∈X.ex\/X.s₀.heap.objs.size<=b)/\b≠X.env.locals/\(∀ x c,X.env.cells.lookup x=some c->c≠b)/\∀ p∈X.pn++pins,p.1≠b)
 (keep:∀ b o,b≠X.env.locals->b∉X.fs->b∉ch->s.heap.get? b=some o->H b=none->h'.get? b=some o)
 (slot:∀ b o,b≠X.env.locals->b∈X.fs->b∉ch->s.heap.get? b=some o->H b=none->∃ sl,h'.get? b=some { o with slots:=sl })(free:∀ b o,b∉ch->s.heap.get? b=some o->H b=none->H' b=none)
 (there:∀ b o,b∉ch->s.heap.get? b=some o->∃ o',h'.get? b=some o')
 (kJ:∀ b xs,H b=some (.tup xs)->H' b=some (.tup xs))(jy:∀ b o u,H b=some (.frz o u)->H' b=some (.frz o u))(kK:∀ b ps,H b=some (.tbl ps)->∃ more,H' b=some (.tbl (ps++more)))
 (ns:∀ m,s.heap.Ns X.env.locals m->h'.Ns X.env.locals m)(hok:HOk X.prog X.w H' h')(hg:AllBare g') :
  Inv X pins σ H' { s with heap:=h',gens:=g',drawn:=d',toks:=t' }:=by
 have neL:∀ b o,X.s₀.heap.get? b=some o->b≠X.env.locals:=fun b o e=>Nat.ne_of_lt (Nat.lt_of_lt_of_le (Heap.lt_size e) I.ok.above)
 have neC:∀ b o,X.s₀.heap.get? b=some o->b∉X.ex->b∉ch:=fun b o e hx hb=>by
  rcases(hch b hb).1 with z | z
  ·exact hx z
  ·exact absurd (Nat.lt_of_lt_of_le (Heap.lt_size e) z) (Nat.lt_irrefl _)
 have cellK:∀ x c,X.env.cells.lookup x=some c->∀ v,s.heap.IsCell c v->h'.IsCell c v:=fun x c e v ⟨o,ho,hd⟩=>by
  have nch:c∉ch:=fun z=>(hch c z).2.2.1 x c e rfl
  by_cases hc:c∈X.fs
  ·obtain⟨sl,q⟩:=slot c o (I.cne x c e) hc nch ho (I.eK x c e)
   exact⟨_,q,hd⟩
  ·exact⟨o,keep c o (I.cne x c e) hc nch ho (I.eK x c e),hd⟩
 refine⟨I.ok,I.os,hg,⟨fun b o e n hb hx=>?_,fun b o e n hb hx=>?_,fun b o e n hx=>?_,fun b o e hx=>?_,fun b xs e=>kJ b xs (I.base.kJ b xs e),fun b o xs e=>jy b o xs (I.base.jy b o xs e),fun b ps e=>?_⟩,?_,fun x c e=>?_,?_,fun x c e=>?_,fun p hp=>?_,hok,I.len⟩
 ·exact keep b o (neL b o e) hb (neC b o e hx) (I.base.keep b o e n hb hx) (I.base.free b o e n hx)
 ·obtain⟨sl,e1⟩:=I.base.slot b o e n hb hx
  obtain⟨sl',e2⟩:=slot b _ (neL b o e) hb (neC b o e hx) e1 (I.base.free b o e n hx)
  exact⟨sl',e2⟩
 ·obtain⟨o',e1⟩:=I.base.there b o e hx
  exact free b o' (neC b o e hx) e1 (I.base.free b o e n hx)
 ·obtain⟨o',e1⟩:=I.base.there b o e hx
  exact there b o' (neC b o e hx) e1
 ·obtain⟨m1,e1⟩:=I.base.kK b ps e
  obtain⟨m2,e2⟩:=kK b _ e1
  exact⟨m1++m2,by rw[e2,Array.append_assoc]⟩
 ·obtain⟨m,hn,hl⟩:=I.loc
  refine⟨m,ns m hn,fun i x v e1 e2 e3=>?_⟩
  obtain⟨u,r,l⟩:=hl i x v e1 e2 e3
  refine⟨u,r,?_⟩
  rcases l with l | ⟨k,c,e,z⟩
  ·exact .inl l
  ·exact .inr ⟨k,c,e,cellK x c e _ z⟩
 ·obtain⟨v,z⟩:=I.cell x c e
  exact⟨v,cellK x c e v z⟩
 ·obtain⟨m,⟨o,_,_,ho,_⟩,_⟩:=I.loc
  exact free _ o (fun z=>(hch _ z).2.1 rfl) ho I.free
 ·obtain⟨v,o,ho,hd⟩:=I.cell x c e
  exact free c o (fun z=>(hch c z).2.2.1 x c e rfl) ho (I.eK x c e)
 ·obtain⟨e,n,ne,nf,d⟩:=I.pin p hp
  have nch:p.1∉ch:=fun z=>(hch p.1 z).2.2.2 p hp rfl
  exact⟨keep p.1 p.2 ne nf nch e n,free p.1 p.2 nch e n,ne,nf,d⟩
theorem Inv.un{t':Nat}(I:Inv X pins σ H s)(u:Un X.fs [] H H' s.heap h')(hok:HOk X.prog X.w H' h'):Inv X pins σ H' { s with heap:=h',toks:=t' }:=by
 obtain⟨m,⟨o,es,ep,ho,r⟩,_⟩:=id I.loc
 obtain⟨sl,hL⟩:=u.any ho I.free (by simp)
 exact I.step (g':=s.gens) (d':=s.drawn) (ch:=[]) (fun _ z=>nomatch z) (fun b o _ hb _ e n=>u.keep b o e n hb (by simp)) (fun b o _ hb _ e n=>u.slot b o e n hb (by simp)) (fun b o _ e n=>u.free b o e n (by simp)) (fun b o _ e=>u.there b o e (by simp)) u.kJ u.jy u.kK (fun m' hm=>by
  obtain⟨o',es',ep',ho',r'⟩:=hm
  rw[ho]at ho';cases ho'
  exact⟨_,es',ep',hL,r'⟩) hok I.bare
theorem Inv.call{t':Nat}{d':Drawn}{ch:List Addr}(I:Inv X pins σ H s)(u:Un (frs X.stack) ch H H' s.heap h')(hok:HOk X.prog X.w H' h')(hg:AllBare g')
 (hch:∀ b∈ch,(b∈X.ex\/X.s₀.heap.objs.size<=b)/\b≠X.env.locals/\(∀ x c,X.env.cells.lookup x=some c->c≠b)/\∀ p∈X.pn++pins,p.1≠b) :
  Inv X pins σ H' { s with heap:=h',gens:=g',drawn:=d',toks:=t' }:=by
 obtain⟨m,⟨o,es,ep,ho,r⟩,_⟩:=id I.loc
 obtain⟨sl,hL⟩:=u.any ho I.free fun z=>(hch _ z).2.1 rfl
 exact I.step (ch:=ch) hch (fun b o hL hb hc e n=>u.keep b o e n (fun z=>(List.mem_cons.mp (I.sj b z)).elim hL hb) hc) (fun b o _ _ hc e n=>u.any e n hc) (fun b o hc e n=>u.free b o e n hc) (fun b o hc e=>u.there b o e hc) u.kJ u.jy u.kK (fun m' hm=>by
  obtain⟨o',es',ep',ho',r'⟩:=hm
  rw[ho]at ho';cases ho'
  exact⟨_,es',ep',hL,r'⟩) hok hg
theorem Inv.turned{t':Nat}{it:Addr}(I:Inv X pins σ H s)(k:∀ b o,b≠it->s.heap.get? b=some o->h'.get? b=some o)(hn:H it=none)(hL:it≠X.env.locals)
 (h1:it∈X.ex\/X.s₀.heap.objs.size<=it)(h2:∀ x c,X.env.cells.lookup x=some c->c≠it)(h3:∀ p∈X.pn++pins,p.1≠it):Inv X pins σ H { s with heap:=h',toks:=t' }:=by
 have nit:∀ b u,H b=some u->b≠it:=fun b u e z=>by rw[z,hn]at e;cases e
 refine I.step (g':=s.gens) (d':=s.drawn) (ch:=[it]) (fun b hb=>?_) (fun b o _ _ hc e _=>k b o (fun z=>hc (by simp[z])) e) (fun b o _ _ hc e _=>⟨o.slots,k b o (fun z=>hc (by simp[z])) e⟩) (fun _ _ _ _ n=>n)
  (fun b o hc e=>⟨o,k b o (fun z=>hc (by simp[z])) e⟩) (fun _ _ e=>e) (fun _ _ _ e=>e) (fun b ps e=>⟨#[],by rw[e];simp⟩) (fun m hm=>?_) (fun b u e=>?_) I.bare
 ·have e:b=it:=by simpa using hb
  subst e
  exact⟨h1,hL,h2,h3⟩
 ·obtain⟨o,es,ep,ho,r⟩:=hm
  exact⟨o,es,ep,k _ o (Ne.symm hL) ho,r⟩
 ·refine(I.hok b u e).oD (fun c v hc q=>k c v ?_ q) (fun _ q=>q) fun _ _ q=>q
  rcases hc with z | z
  ·rw[z];exact nit b u e
  ·exact nit c _ z
theorem Inv.tok(I:Inv X pins σ H s)(t:Nat):Inv X pins σ H { s with toks:=t }:=I.un (h':=s.heap) (t':=t) Un.refl I.hok
theorem Inv.kept{t':Nat}(I:Inv X pins σ H s)(k:∀ b u,s.heap.get? b=some u->h'.get? b=some u):Inv X pins σ H { s with heap:=h',toks:=t' }:=I.un (Un.kept k) (I.hok.kept k)
theorem Inv.laid{a:Addr}{o:HO}{t':Nat}(I:Inv X pins σ H s)(k:∀ b u,s.heap.get? b=some u->h'.get? b=some u)(hp:s.heap.objs.size<=a)(new:bB X.prog X.w (upd H a o) h' a o) :
  Inv X pins σ (upd H a o) { s with heap:=h',toks:=t' }:=I.un (Un.laid k hp (I.hok.fresh hp)) (I.hok.laid k hp new)
theorem Inv.write{x e:Addr}{o:HO}{t':Nat}(I:Inv X pins σ H s)(mu:Mut (H x))(he:e=x\/H e=some (.own x))(k:∀ b u,b≠e->s.heap.get? b=some u->h'.get? b=some u)(heo:∃ u,h'.get? e=some u)
 (new:bB X.prog X.w (upd H x o) h' x o):Inv X pins σ (upd H x o) { s with heap:=h',toks:=t' }:=I.un (Un.write mu he k heo) (I.hok.write mu he k heo new)
theorem Inv.weak{σ':List (Option V)}(I:Inv X pins σ H s)(hl:σ'.length=σ.length)(w:∀ (i:Nat) v,σ'[i]?=some (some v)->σ[i]?=some (some v)):Inv X pins σ' H s :=
 ⟨I.ok,I.os,I.bare,I.base,let ⟨m,hn,hl'⟩:=I.loc;⟨m,hn,fun i x v e1 e2 e3=>hl' i x v e1 (w i v e2) e3⟩,I.cell,I.free,I.eK,I.pin,I.hok,hl.trans I.len⟩
theorem Inv.ub{pins':List (Addr × Obj)}(I:Inv X pins σ H s)(h:∀ p∈pins',s.heap.get? p.1=some p.2/\H p.1=none/\p.1≠X.env.locals/\p.1∉X.fs/\∀ v,p.2.data≠.cell v):Inv X pins' σ H s :=
 ⟨I.ok,I.os,I.bare,I.base,I.loc,I.cell,I.free,I.eK,fun p hp=>(List.mem_append.mp hp).elim (fun z=>I.pin p (List.mem_append_left _ z)) (h p),I.hok,I.len⟩
theorem qT{N:List Str}(hN:N.Nodup){i j:Nat}{x:Str}(a:N[i]?=some x)(b:N[j]?=some x):i=j:=by
 obtain⟨h1,e1⟩:=List.getElem?_eq_some_iff.mp a
 obtain⟨h2,e2⟩:=List.getElem?_eq_some_iff.mp b
 exact(List.getElem_inj hN).mp (e1.trans e2.symm)
theorem pC{M:Model}{A:Around}{E:Value->Shared->Prop}{i:Nat}{x:Str}{Q:Unit->Shared->Prop}(I:Inv X pins σ H s)(hN:X.N.Nodup)(hi:X.N[i]?=some x)(hx:Loc X.env.scope x)(r:RelV v u)
 (h:∀ s',Inv X pins (σ.set i (some v)) H s'->(∃ a,Heap.SameBut a s.heap s'.heap/\(a=X.env.locals\/X.env.cells.lookup x=some a))->Q () s')(hf:X.fn x=true\/X.env.scope.names.lookup x=some .local:=by first | exact .inl rfl | exact .inr rfl | assumption):wpAny M A (storeName X.env x u) Q E s:=by
 obtain⟨m,hn,hl⟩:=id I.loc
 have hcls:(X.env.scope.kind == .class || (X.env.scope.kind == .module&&X.env.locals != X.env.globals))=false:=by rw[I.ok.kind];rfl
 have hiσ:i<σ.length:=by rw[I.len];exact(List.getElem?_eq_some_iff.mp hi).1
 have cne:=I.cne
 have tracked:∀ {a:Addr} {h':Heap},(∃ o,s.heap.get? a=some o/\H a=none)->Heap.SameBut a s.heap h'->HOk X.prog X.w H h':=fun {a h'} ha hs b ob e=>by
  obtain⟨_,_,hfree⟩:=ha
  refine(I.hok b ob e).oD (fun c w' hc q=>(hs.2 c ?_).trans q) (fun _ q=>q) fun _ _ q=>q
  rintro rfl
  rcases hc with rfl | hc
  ·rw[hfree]at e;cases e
  ·rw[hfree]at hc;cases hc
 rcases hx with hk | hk
 ·refine wpAny_storeName_local hk hn (fun h' hn' hs=>?_) hcls
  obtain⟨oL,_,_,hoL,_⟩:=id hn
  refine h _ ⟨I.ok,I.os,I.bare,⟨fun b o e n hb hx=>?_,fun b o e n hb hx=>?_,I.base.free,fun b o e hx=>?_,I.base.kJ,I.base.jy,I.base.kK⟩,⟨_,hn',fun j y v' e1 e2 e3=>?_⟩,fun y c e=>?_,I.free,I.eK,fun p hp=>?_,tracked ⟨oL,hoL,I.free⟩ hs,by simpa using I.len⟩ ⟨_,hs,.inl rfl⟩
  ·exact(hs.2 b (Nat.ne_of_lt (Nat.lt_of_lt_of_le (Heap.lt_size e) I.ok.above))).trans (I.base.keep b o e n hb hx)
  ·obtain⟨sl,e1⟩:=I.base.slot b o e n hb hx
   exact⟨sl,(hs.2 b (Nat.ne_of_lt (Nat.lt_of_lt_of_le (Heap.lt_size e) I.ok.above))).trans e1⟩
  ·obtain⟨o',e1⟩:=I.base.there b o e hx
   exact⟨o',(hs.2 b (Nat.ne_of_lt (Nat.lt_of_lt_of_le (Heap.lt_size e) I.ok.above))).trans e1⟩
  ·by_cases hj:j=i
   ·subst hj
    rw[hi]at e1;cases e1
    rw[List.getElem?_set_self hiσ]at e2
    cases e2
    exact⟨u,r,.inl ⟨hk,by simp⟩⟩
   ·rw[List.getElem?_set_ne (Ne.symm hj)]at e2
    obtain⟨u',r',q⟩:=hl j y v' e1 e2 e3
    refine⟨u',r',?_⟩
    rcases q with⟨k,e⟩ | ⟨k,c,e,z⟩
    ·refine .inl ⟨k,?_⟩
     have:y≠x:=fun e=>hj (qT hN e1 (e▸hi))
     simp[this,e]
    ·exact .inr ⟨k,c,e,z.sameBut hs (cne y c e)⟩
  ·obtain⟨w',z⟩:=I.cell y c e
   exact⟨w',z.sameBut hs (cne y c e)⟩
  ·obtain⟨e,n,ne,nf,d⟩:=I.pin p hp
   exact⟨(hs.2 p.1 ne).trans e,n,ne,nf,d⟩
 ·have hfn:X.fn x=true:=by
   rcases hf with z | z
   ·exact z
   ·rw[z]at hk;cases hk
  obtain⟨c,hc⟩:=I.ok.has x (.inl hk)
  obtain⟨w',z⟩:=I.cell x c hc
  refine wpAny_storeName_cell I.ok.kind hk hc z (fun h' hc' hs=>?_)
  obtain⟨oc,hoc,hocd⟩:=id z
  refine h { s with heap:=h' } ⟨I.ok,I.os,I.bare,⟨fun b o e n hb hx=>?_,fun b o e n hb hx=>?_,I.base.free,fun b o e hx=>?_,I.base.kJ,I.base.jy,I.base.kK⟩,⟨m,hn.sameBut hs (Ne.symm (cne x c hc)),fun j y v' e1 e2 e3=>?_⟩,fun y c' e=>?_,I.free,I.eK,fun p hp=>?_,tracked ⟨oc,hoc,I.eK x c hc⟩ hs,by simpa using I.len⟩ ⟨c,hs,.inr hc⟩
  ·exact(hs.2 b (Nat.ne_of_lt (Nat.lt_of_lt_of_le (Heap.lt_size e) (I.ok.cab x c hfn hc)))).trans (I.base.keep b o e n hb hx)
  ·obtain⟨sl,e1⟩:=I.base.slot b o e n hb hx
   exact⟨sl,(hs.2 b (Nat.ne_of_lt (Nat.lt_of_lt_of_le (Heap.lt_size e) (I.ok.cab x c hfn hc)))).trans e1⟩
  ·obtain⟨o',e1⟩:=I.base.there b o e hx
   exact⟨o',(hs.2 b (Nat.ne_of_lt (Nat.lt_of_lt_of_le (Heap.lt_size e) (I.ok.cab x c hfn hc)))).trans e1⟩
  ·by_cases hj:j=i
   ·subst hj
    rw[hi]at e1;cases e1
    rw[List.getElem?_set_self hiσ]at e2
    cases e2
    exact⟨u,r,.inr ⟨.inl hk,c,hc,hc'⟩⟩
   ·rw[List.getElem?_set_ne (Ne.symm hj)]at e2
    obtain⟨u',r',q⟩:=hl j y v' e1 e2 e3
    refine⟨u',r',?_⟩
    rcases q with q | ⟨k,c',e,z'⟩
    ·exact .inl q
    ·refine .inr ⟨k,c',e,z'.sameBut hs ?_⟩
     rintro rfl
     exact hj (qT hN e1 (I.ok.inj _ _ _ e hc▸hi))
  ·by_cases hcc:c'=c
   ·subst hcc;exact⟨_,hc'⟩
   ·obtain⟨w2,z2⟩:=I.cell y c' e
    exact⟨w2,z2.sameBut hs hcc⟩
  ·obtain⟨e,n,ne,nf,d⟩:=I.pin p hp
   refine⟨(hs.2 p.1 ?_).trans e,n,ne,nf,d⟩
   intro q
   rw[q,hoc]at e
   have q':oc=p.2:=Option.some.inj e
   exact d w' (by rw[<-q'];exact hocd)
theorem hX{M:Model}{A:Around}{E:Value->Shared->Prop}{i:Nat}{x:Str}{Q:Unit->Shared->Prop}(I:Inv X pins σ H s)(hN:X.N.Nodup)(hi:X.N[i]?=some x)(hx:Loc X.env.scope x)(r:RelV v u)
 (h:∀ s',Inv X pins (σ.set i (some v)) H s'->Q () s')(hf:X.fn x=true\/X.env.scope.names.lookup x=some .local:=by first | exact .inl rfl | exact .inr rfl | assumption):wpAny M A (storeName X.env x u) Q E s :=
 pC I hN hi hx r (fun s' I' _=>h s' I') hf
theorem Inv.Az{s':Shared}{ch:List Addr}(I:Inv X pins σ H s)(ho:s'.os=s.os)(u:Un (frs X.stack) ch H H' s.heap s'.heap)(hok:HOk X.prog X.w H' s'.heap)(hg:AllBare s'.gens)
 (hch:∀ b∈ch,(b∈X.ex\/X.s₀.heap.objs.size<=b)/\b≠X.env.locals/\(∀ x c,X.env.cells.lookup x=some c->c≠b)/\∀ p∈X.pn++pins,p.1≠b):Inv X pins σ H' s':=by
 obtain⟨h',g',d',t',o'⟩:=s'
 have e:o'=s.os:=ho
 subst e
 exact I.call (g':=g') (t':=t') (d':=d') u hok hg hch
end
abbrev XK:=Value->Option Addr->Hp->Prop
abbrev St:=List (Option V)
abbrev VK:=V->Hp->Prop
abbrev TE:=St->Hp->VK->Prop
abbrev TT:=St->Hp->(Bool->Hp->Prop)->Prop
abbrev TA:=St->Hp->(List V->Hp->Prop)->Prop
structure Ends where
 nx:St->Hp->Prop
 rt:VK
 bk:St->Hp->Prop:=fun _ _=>False
 ct:St->Hp->Prop:=fun _ _=>False
abbrev TS:=Ends->St->Hp->Prop
def EP(X:Cx)(pins:List (Addr × Obj))(σ:St)(Q:VK)(u:Value)(s':Shared):Prop:=∃ v H',Inv X pins σ H' s'/\RelV v u/\Q v H'
def TP(X:Cx)(pins:List (Addr × Obj))(σ:St)(Q:Bool->Hp->Prop)(b:Bool)(s':Shared):Prop:=∃ H',Inv X pins σ H' s'/\Q b H'
def AP(X:Cx)(pins:List (Addr × Obj))(σ:St)(Q:List V->Hp->Prop)(us:List Value)(s':Shared):Prop:=∃ vs H',Inv X pins σ H' s'/\Vals vs us/\Q vs H'
def SP(X:Cx)(pins:List (Addr × Obj))(D:Ends)(f:Flow)(s':Shared):Prop :=
 match f with
 | .next=>∃ σ' H',Inv X pins σ' H' s'/\D.nx σ' H'
 | .brk=>∃ σ' H',Inv X pins σ' H' s'/\D.bk σ' H'
 | .cont=>∃ σ' H',Inv X pins σ' H' s'/\D.ct σ' H'
 | .ret u=>∃ v σ' H',Inv X pins σ' H' s'/\RelV v u/\D.rt v H'
def PE(X:Cx)(e:Expr)(t:TE):Prop :=
 ∀ (pins:List (Addr × Obj)) (s:Shared) (σ:St) (H:Hp) (Q:VK),Inv X pins σ H s->t σ H Q->wpAny (model X.prog X.w) X.A (eval e X.env) (EP X pins σ Q) X.xe s
def PT(X:Cx)(e:Expr)(t:TT):Prop :=
 ∀ (pins:List (Addr × Obj)) (s:Shared) (σ:St) (H:Hp) (Q:Bool->Hp->Prop),Inv X pins σ H s->t σ H Q->wpAny (model X.prog X.w) X.A (isTrue e X.env (eval e X.env)) (TP X pins σ Q) X.xe s
def PW(X:Cx)(e:Expr)(t:TT):Prop :=
 ∀ (whole:Sem Value) (pins:List (Addr × Obj)) (s:Shared) (σ:St) (H:Hp) (Q:Bool->Hp->Prop),Inv X pins σ H s->t σ H Q->wpAny (model X.prog X.w) X.A (isTrue e X.env whole) (TP X pins σ Q) X.xe s
theorem PW.pt{t:TT}(h:PW X e t):PT X e t:=h _
def PA(X:Cx)(es:List Expr)(t:TA):Prop :=
 ∀ (pos:Pos) (pins:List (Addr × Obj)) (s:Shared) (σ:St) (H:Hp) (Q:List V->Hp->Prop),Inv X pins σ H s->t σ H Q->wpAny (model X.prog X.w) X.A (spliced (backTo pos (starEach es X.env))) (AP X pins σ Q) X.xe s
def PS(X:Cx)(st:Stmt)(t:TS):Prop :=
 ∀ (pins:List (Addr × Obj)) (s:Shared) (σ:St) (H:Hp) (D:Ends),Inv X pins σ H s->t D σ H->wpAny (model X.prog X.w) X.A (exec st X.env) (SP X pins D) X.xe s
def PSs(X:Cx)(st:List Stmt)(t:TS):Prop :=
 ∀ (pins:List (Addr × Obj)) (s:Shared) (σ:St) (H:Hp) (D:Ends),Inv X pins σ H s->t D σ H->wpAny (model X.prog X.w) X.A (execs st X.env) (SP X pins D) X.xe s
theorem thn{α:Type}{t:Sem α}{Q Q':α->Shared->Prop}{M:Model}{A:Around}{E:Value->Shared->Prop}{s:Shared}(h:wpAny M A t Q E s)(hQ:∀ a s,Q a s->Q' a s):wpAny M A t Q' E s:=wpAny_mono h hQ fun _ _ x=>x
section
variable{X:Cx}
def jM(i:Nat):TE:=fun σ H Q=>∃ v,σ[i]?=some (some v)/\Q v H
def tC(v:V):TE:=fun _ H Q=>Q v H
theorem hV{i:Nat}{x:Str}{pos:Pos}(hN:X.N[i]?=some x)(hv:Vis X.env.scope x)(hd:(x == ("__debug__" : Str))=false:=by decide)(hcd:(x == ("__classdict__" : Str))=false:=by decide):PE X (.Name x pos) (jM i):=by
 intro pins s σ H Q I h
 obtain⟨v,e,h⟩:=h
 obtain⟨m,hn,hl⟩:=I.loc
 obtain⟨u,r,l⟩:=hl i x v hN e hv
 have fin:EP X pins σ Q u s:=⟨v,H,I,r,h⟩
 rcases l with⟨hk,hm⟩ | ⟨hk,c,hc,hcell⟩
 ·exact wpAny_Name (wpAny_loadName_local I.ok.kind hk hn hm fin) hd
 ·rcases hk with hk | hk
  ·exact wpAny_Name (wpAny_loadName_cell I.ok.kind hk hc hcell fin) hd
  ·exact wpAny_Name (wpAny_loadName_free I.ok.kind hk hc hcell fin hcd) hd
theorem sP{i j pos}:PE X (.Constant (.int i) j pos) (tC (.int i)):=fun _ _ _ H _ I h=>wpAny_Constant_int ⟨.int i,H,I.tok _,⟨_,rfl⟩,h⟩
theorem GF{b j pos}:PE X (.Constant (.bool b) j pos) (tC (.bl b)):=fun _ _ _ H _ I h=>Constant_bool ⟨.bl b,H,I,rfl,h⟩
theorem qN{j pos}:PE X (.Constant .none j pos) (tC .non):=fun _ _ _ H _ I h=>Constant_none ⟨.non,H,I,rfl,h⟩
theorem Cz{x j pos}:PE X (.Constant (.str x) j pos) (tC (.str x)):=fun _ _ _ H _ I h=>Calls.Constant_str ⟨.str x,H,I.tok _,⟨_,rfl⟩,h⟩
def Gl(X:Cx)(x:Str):Prop:=X.env.kindOf x=some .globalImplicit
theorem tJ{E:Value->Shared->Prop}{u:Value}{pos:Pos}{Q:Value->Shared->Prop}(I:Inv X pins σ H s)(hg:Gl X x)(hm:X.mg x=some u)(h:Q u s)
 (hd:(x == ("__debug__" : Str))=false:=by decide):wpAny (model X.prog X.w) X.A (eval (.Name x pos) X.env) Q E s :=
 Calls.Name_function_global I.ok.kind hg (Calls.loadGlobal_global (by rw[I.ok.glob];exact I.mod.glob.keeps I.bk) hm h) hd
theorem gO{E:Value->Shared->Prop}{u:Value}{pos:Pos}{Q:Value->Shared->Prop}(I:Inv X pins σ H s)(hg:Gl X x)(hm:X.mg x=none)(hv:bootBuiltins x=some u)(h:Q u s)
 (hn:x ≠ "__name__" := by decide)(hd:(x == ("__debug__" : Str))=false:=by decide):wpAny (model X.prog X.w) X.A (eval (.Name x pos) X.env) Q E s:=by
 obtain⟨mb,h1,h2⟩:=I.mod.blt
 exact Calls.Name_function_global I.ok.kind hg (Calls.loadGlobal_builtin (by rw[I.ok.glob];exact I.mod.glob.keeps I.bk) hm (by rw[I.ok.blt];exact h1.keeps I.bk) ((h2 x hn).trans hv) h) hd
theorem BP{u:Value}{pos:Pos}(hg:Gl X x)(hm:X.mg x=some u)(r:RelV v u)(hd:(x == ("__debug__" : Str))=false:=by decide):PE X (.Name x pos) (tC v) :=
 fun _ _ _ H _ I h=>tJ I hg hm ⟨v,H,I,r,h⟩ hd
theorem BX{u:Value}{pos:Pos}(hg:Gl X x)(hm:X.mg x=none)(hv:bootBuiltins x=some u)(r:RelV v u)(hn:x ≠ "__name__" := by decide)(hd:(x == ("__debug__" : Str))=false:=by decide):PE X (.Name x pos) (tC v) :=
 fun _ _ _ H _ I h=>gO I hg hm hv ⟨v,H,I,r,h⟩ hn hd
variable{a b:Expr}{ta tb:TE}{pos:Pos}
def PC(X:Cx)(op:CmpOp)(a b:Expr)(t:TE):Prop :=
 ∀ (pins:List (Addr × Obj)) (s:Shared) (σ:St) (H:Hp) (Q:VK),Inv X pins σ H s->t σ H Q ->
  wpAny (model X.prog X.w) X.A (eval a X.env) (fun v s₁=>wpAny (model X.prog X.w) X.A (eval b X.env) (fun u s₂=>wpAny (model X.prog X.w) X.A (compareOp op v u) (EP X pins σ Q) X.xe s₂) X.xe s₁) X.xe s
def tB(t:TE):TT:=fun σ H Q=>t σ H fun x H1=>∃ c,x=.bl c/\Q c H1
theorem En{t:TE}(h:PC X op a b t)(h1:behindInMarks op b=false:=by first | exact nobehind _ (by decide) (by decide) | rfl):PE X (.Compare a [op] [b] pos) t:=fun pins s σ H Q I hw=>wpAny_Compare1 (h pins s σ H Q I hw) h1
theorem DF{t:TE}(h:PC X op a b t)(h1:behindInMarks op b=false:=by first | exact nobehind _ (by decide) (by decide) | rfl):PT X (.Compare a [op] [b] pos) (tB t):=by
 intro pins s σ H Q I hw
 refine wpAny_isTrue_Compare1 (thn (h pins s σ H _ I hw) fun v s1 h1=>thn h1 fun u s2 h2=>thn h2 fun c s3 ⟨x,H1,I1,r1,q1⟩=>?_) h1
 obtain⟨d,rfl,q⟩:=q1
 cases r1
 exact wpAny_truthy_bool ⟨H1,I1,q⟩
variable{tA tB':TT}{rest:List Expr}
def Hu(t u:TT):TT:=fun σ H Q=>t σ H fun c H1=>if c=true then u σ H1 Q else Q false H1
def tOr(t u:TT):TT:=fun σ H Q=>t σ H fun c H1=>if c=true then Q true H1 else u σ H1 Q
def Hm(t:TT):TT:=fun σ H Q=>t σ H fun c H1=>Q (!c) H1
theorem Bf(ha:PT X a tA):PW X (.BoolOp .And [a] pos) tA:=by
 intro wh pins s σ H Q I h
 refine isTrue_and (thn (ha pins s σ H Q I h) fun c s1 e=>?_)
 cases c with
 | true=>exact isTrue_and_nil e
 | false=>exact e
theorem E8(ha:PT X a tA):PW X (.BoolOp .Or [a] pos) tA:=by
 intro wh pins s σ H Q I h
 refine isTrue_or (thn (ha pins s σ H Q I h) fun c s1 e=>?_)
 cases c with
 | false=>exact isTrue_or_nil e
 | true=>exact e
theorem EF(ha:PT X a tA)(hb:PW X (.BoolOp .And (b::rest) pos) tB'):PW X (.BoolOp .And (a::b::rest) pos) (Hu tA tB'):=by
 intro wh pins s σ H Q I h
 refine isTrue_and (thn (ha pins s σ H _ I h) fun c s1 ⟨H1,I1,q1⟩=>?_)
 cases c with
 | true=>exact hb wh pins s1 σ H1 Q I1 q1
 | false=>exact⟨H1,I1,q1⟩
theorem FL(ha:PT X a tA)(hb:PW X (.BoolOp .Or (b::rest) pos) tB'):PW X (.BoolOp .Or (a::b::rest) pos) (tOr tA tB'):=by
 intro wh pins s σ H Q I h
 refine isTrue_or (thn (ha pins s σ H _ I h) fun c s1 ⟨H1,I1,q1⟩=>?_)
 cases c with
 | true=>exact⟨H1,I1,q1⟩
 | false=>exact hb wh pins s1 σ H1 Q I1 q1
theorem DO(ha:PT X a tA):PT X (.UnaryOp .Not a pos) (Hm tA):=by
 intro pins s σ H Q I h
 exact isTrue_not (ha pins s σ H (fun c H1=>Q (!c) H1) I h)
def FV(ta tb:TE):TE:=fun σ H Q=>ta σ H fun x H1=>∃ c,x=.bl c/\if c=true then tb σ H1 Q else Q (.bl false) H1
def Ht(ta tb:TE):TE:=fun σ H Q=>ta σ H fun x H1=>∃ c,x=.bl c/\if c=true then Q (.bl true) H1 else tb σ H1 Q
theorem EX{op}{t:TE}(h:PE X a t):PE X (.BoolOp op [a] pos) t:=fun pins s σ H Q I hw=>BoolOp_one (h pins s σ H Q I hw)
theorem Ft(ha:PE X a ta)(hb:PE X (.BoolOp .And (b::rest) pos) tb):PE X (.BoolOp .And (a::b::rest) pos) (FV ta tb):=by
 intro pins s σ H Q I h
 refine BoolOp_and (thn (ha pins s σ H _ I h) fun v s1 ⟨x,H1,I1,r1,q1⟩=>?_)
 obtain⟨c,rfl,q1⟩:=q1
 cases r1
 refine wpAny_truthy_bool ?_
 cases c with
 | true=>exact hb pins s1 σ H1 Q I1 q1
 | false=>exact⟨.bl false,H1,I1,rfl,q1⟩
theorem Ga(ha:PE X a ta)(hb:PE X (.BoolOp .Or (b::rest) pos) tb):PE X (.BoolOp .Or (a::b::rest) pos) (Ht ta tb):=by
 intro pins s σ H Q I h
 refine BoolOp_or (thn (ha pins s σ H _ I h) fun v s1 ⟨x,H1,I1,r1,q1⟩=>?_)
 obtain⟨c,rfl,q1⟩:=q1
 cases r1
 refine wpAny_truthy_bool ?_
 cases c with
 | false=>exact hb pins s1 σ H1 Q I1 q1
 | true=>exact⟨.bl true,H1,I1,rfl,q1⟩
def tIf(t:TT)(ta tb:TE):TE:=fun σ H Q=>t σ H fun c H1=>if c=true then ta σ H1 Q else tb σ H1 Q
theorem zm(hc:PT X c tA)(ha:PE X a ta)(hb:PE X b tb):PE X (.IfExp c a b pos) (tIf tA ta tb):=by
 intro pins s σ H Q I h
 refine wpAny_IfExp (thn (hc pins s σ H _ I h) fun d s1 ⟨H1,I1,q1⟩=>?_)
 cases d with
 | true=>exact ha pins s1 σ H1 Q I1 q1
 | false=>exact hb pins s1 σ H1 Q I1 q1
end
def SqL(K:PySem.W.Frag)(H:Hp)(a:Addr)(xs:List V):Prop :=
 Rd H a (.lst xs) \/
  ∃ (o:Obj) (its:Array Value) (n:Nat),K.lookup a=some o/\o.cls=.type "list" /\ o.dict=none/\o.data=.seq its n/\its.size<=sizeLine/\Vals xs its.toList
def SqT(K:PySem.W.Frag)(H:Hp)(a:Addr)(xs:List V):Prop :=
 Rd H a (.tup xs) \/
  ∃ (o:Obj) (its:Array Value) (n:Nat),K.lookup a=some o/\o.cls=.type "tuple" /\ o.data=.seq its n/\its.size<=sizeLine/\Vals xs its.toList
def Hd:Value->Option V
 | .none=>some .non
 | .bool b=>some (.bl b)
 | .int i _=>some (.int i)
 | .str x _=>some (.str x)
 | .bytes b _=>some (.byt b)
 | .float b _=>some (.flt b)
 | .ref a=>some (.ref a)
 | .type n=>some (.ty n)
 | _=>none
theorem RelV.abs(r:RelV x u):Hd u=some x:=by
 cases x with
 | non=>cases r;rfl
 | bl _=>cases r;rfl
 | int _=>obtain⟨t,rfl⟩:=r;rfl
 | str _=>obtain⟨t,rfl⟩:=r;rfl
 | byt _=>obtain⟨t,rfl⟩:=r;rfl
 | flt _=>obtain⟨t,rfl⟩:=r;rfl
 | ref _=>cases r;rfl
 | ty _=>cases r;rfl
theorem RelV.inj(r:RelV x u)(q:RelV y u):x=y:=Option.some.inj (r.abs.symm.trans q.abs)
theorem Vals.inj:∀ {xs ys:List V} {us:List Value},Vals xs us->Vals ys us->xs=ys
 | _,_,_,.nil,.nil=>rfl
 | _,_,_,.cons r t,.cons r' t'=>by rw[r.inj r',Vals.inj t t']
section
variable{X:Cx}{pins:List (Addr × Obj)}{σ:St}{H:Hp}{s:Shared}{a:Addr}{xs ys:List V}
theorem SqL.of{K:PySem.W.Frag}(h:H a=some (.lst xs)):SqL K H a xs:=.inl (.inl h)
theorem SqT.of{K:PySem.W.Frag}(h:H a=some (.tup xs)):SqT K H a xs:=.inl (.inl h)
theorem Inv.list(I:Inv X pins σ H s)(h:SqL X.K H a xs):∃ its:List Value,Vals xs its/\PlainL s.heap a its.toArray/\xs.length<=sizeLine:=by
 rcases h with h | ⟨o,its,n,hk,hc,hd,hs,hz,r⟩
 ·obtain⟨z,its,n,r,e⟩:=h.ok I.hok
  exact⟨its,r,⟨_,n,e,rfl,rfl,rfl⟩,z⟩
 ·refine⟨its.toList,r,⟨o,n,I.kIn a o hk,hc,hd,by simpa using hs⟩,?_⟩
  have e:=r.length
  simp only[Array.length_toList]at e
  lia
theorem Inv.tuple(I:Inv X pins σ H s)(h:SqT X.K H a xs):∃ its:List Value,Vals xs its/\IsTup s.heap a its.toArray/\xs.length<=sizeLine:=by
 rcases h with h | ⟨o,its,n,hk,hc,hs,hz,r⟩
 ·obtain⟨z,its,r,p⟩:=h.ok I.hok
  exact⟨its,r,p,z⟩
 ·refine⟨its.toList,r,⟨o,I.kIn a o hk,hc,n,by simpa using hs⟩,?_⟩
  have e:=r.length
  simp only[Array.length_toList]at e
  lia
theorem Inv.y8(I:Inv X pins σ H s)(h:SqL X.K H a xs)(h':SqL X.K H a ys):xs=ys:=by
 obtain⟨its,r,⟨o,n,e,_,_,d⟩,_⟩:=I.list h
 obtain⟨its',r',⟨o',n',e',_,_,d'⟩,_⟩:=I.list h'
 rw[e]at e';cases e'
 rw[d]at d'
 injection d' with d1 _
 have:its=its':=by simpa using congrArg Array.toList d1
 subst this
 exact r.inj r'
theorem Inv.wR(I:Inv X pins σ H s)(h:SqT X.K H a xs)(h':SqT X.K H a ys):xs=ys:=by
 obtain⟨its,r,⟨o,e,_,n,d⟩,_⟩:=I.tuple h
 obtain⟨its',r',⟨o',e',_,n',d'⟩,_⟩:=I.tuple h'
 rw[e]at e';cases e'
 rw[d]at d'
 injection d' with d1 _
 have:its=its':=by simpa using congrArg Array.toList d1
 subst this
 exact r.inj r'
end
abbrev Cx.iD(X:Cx)(E:Value->Shared->Prop):Cx:={ X with xe:=E }
abbrev Cx.nox(X:Cx):Cx:=X.iD fun _ _=>False
theorem Cx.Ok.iD{X:Cx}(ok:X.Ok)(E:Value->Shared->Prop):(X.iD E).Ok :=
 ⟨ok.mod,ok.kind,ok.glob,ok.blt,ok.above,ok.inj,ok.has,ok.cab,ok.hd,ok.frames,ok.stk,ok.exf,ok.bs,ok.bsz,ok.qK,ok.rP,ok.gY,ok.frf⟩
theorem Cx.Ok.fV{X:Cx}{E:Value->Shared->Prop}(ok:(X.iD E).Ok):X.Ok :=
 ⟨ok.mod,ok.kind,ok.glob,ok.blt,ok.above,ok.inj,ok.has,ok.cab,ok.hd,ok.frames,ok.stk,ok.exf,ok.bs,ok.bsz,ok.qK,ok.rP,ok.gY,ok.frf⟩
section
variable{X:Cx}{pins:List (Addr × Obj)}{σ:St}{H:Hp}{s:Shared}{E:Value->Shared->Prop}
theorem Inv.iD(I:Inv X pins σ H s)(E:Value->Shared->Prop):Inv (X.iD E) pins σ H s:=⟨I.ok.iD E,I.os,I.bare,I.base,I.loc,I.cell,I.free,I.eK,I.pin,I.hok,I.len⟩
theorem Inv.fV(I:Inv (X.iD E) pins σ H s):Inv X pins σ H s:=⟨I.ok.fV,I.os,I.bare,I.base,I.loc,I.cell,I.free,I.eK,I.pin,I.hok,I.len⟩
theorem SP.fV{D:Ends}{f:Flow}{s':Shared}(h:SP (X.iD E) pins D f s'):SP X pins D f s':=by
 cases f with
 | next=>obtain⟨σ',H',I,q⟩:=h;exact⟨σ',H',I.fV,q⟩
 | brk=>obtain⟨σ',H',I,q⟩:=h;exact⟨σ',H',I.fV,q⟩
 | cont=>obtain⟨σ',H',I,q⟩:=h;exact⟨σ',H',I.fV,q⟩
 | ret u=>obtain⟨v,σ',H',I,r,q⟩:=h;exact⟨v,σ',H',I.fV,r,q⟩
theorem PSs.nox{st:List Stmt}{t:TS}(h:PSs X.nox st t):PSs X st t:=fun pins s σ H D I hw =>
 wpAny_mono (h pins s σ H D (I.iD _) hw) (fun _ _ q=>q.fV) fun _ _ z=>False.elim z
end
section
variable{X:Cx}{st:Stmt}{rest:List Stmt}{t u:TS}{e:Expr}{te:TE}{pos:Pos}
def FX:TS:=fun D σ H=>D.nx σ H
def HS(t u:TS):TS:=fun D σ H=>t { D with nx:=u D } σ H
theorem BC:PSs X [] FX:=fun _ _ σ H _ I h=>wpAny_execs_nil ⟨σ,H,I,h⟩
theorem zD(h1:PS X st t)(h2:PSs X rest u):PSs X (st::rest) (HS t u):=by
 intro pins s σ H D I h
 refine wpAny_execs_cons (thn (h1 pins s σ H { D with nx:=u D } I h) fun f s1 q=>?_)
 cases f with
 |next=>
  obtain⟨σ',H',I',q⟩:=q
  exact h2 pins s1 σ' H' D I' q
 | ret v=>exact q
 | brk=>exact q
 | cont=>exact q
theorem Inv.quiet(I:Inv X pins σ H s):interactive X.env=false:=by simp[interactive,I.ok.kind]
def qc(te:TE):TS:=fun D σ H=>te σ H fun _ H1=>D.nx σ H1
theorem oP(he:PE X e te)(hs:swapsWith e none pos.line X.env=pure false:=by rfl):PS X (.Expr e pos) (qc te):=by
 intro pins s σ H D I h
 exact wpAny_Expr_any (thn (he pins s σ H _ I h) fun v s1 ⟨x,H1,I1,r1,q1⟩=>⟨σ,H1,I1,q1⟩) I.quiet hs
def Hw(te:TE):TS:=fun D σ H=>te σ H D.rt
theorem w6(he:PE X e te):PS X (.Return (some e) pos) (Hw te):=by
 intro pins s σ H D I h
 exact wpAny_Return_some (thn (he pins s σ H _ I h) fun v s1 ⟨x,H1,I1,r1,q1⟩=>⟨x,σ,H1,I1,r1,q1⟩)
def Hk(c:TT)(t u:TS):TS:=fun D σ H=>c σ H fun b H1=>if b=true then t D σ H1 else u D σ H1
theorem A7(hc:PT X c tc)(ha:PSs X a t)(hb:PSs X b u):PS X (.If c a b pos) (Hk tc t u):=by
 intro pins s σ H D I h
 refine wpAny_If (thn (hc pins s σ H _ I h) fun d s1 ⟨H1,I1,q1⟩=>?_)
 cases d with
 | true=>exact ha pins s1 σ H1 D I1 q1
 | false=>exact hb pins s1 σ H1 D I1 q1
def Dq:TS:=fun _ _ _=>False
theorem yy:PS X st Dq:=fun _ _ _ _ _ _ h=>h.elim
end
abbrev TG:=V->St->Hp->(St->Hp->Prop)->Prop
abbrev TGs:=List V->St->Hp->(St->Hp->Prop)->Prop
def PG(X:Cx)(target:Expr)(t:TG):Prop :=
 ∀ (pins:List (Addr × Obj)) (s:Shared) (σ:St) (H:Hp) (v:V) (u:Value) (Q:St->Hp->Prop),Inv X pins σ H s->RelV v u->t v σ H Q ->
  wpAny (model X.prog X.w) X.A (assign target X.env u) (fun _ s'=>∃ σ' H',Inv X pins σ' H' s'/\Q σ' H') X.xe s
def PGs(X:Cx)(ts:List Expr)(t:TGs):Prop :=
 ∀ (pins:List (Addr × Obj)) (s:Shared) (σ:St) (H:Hp) (vs:List V) (us:List Value) (Q:St->Hp->Prop),Inv X pins σ H s->Vals vs us->t vs σ H Q ->
  wpAny (model X.prog X.w) X.A (assignInOrder ((assignEach ts X.env).map (·.2)) us) (fun _ s'=>∃ σ' H',Inv X pins σ' H' s'/\Q σ' H') X.xe s
abbrev Al:=V->V->V->Hp->(Hp->Prop)->Prop
def CA(X:Cx)(t:Al):Prop :=
 ∀ (pins:List (Addr × Obj)) (s:Shared) (σ:St) (H:Hp) (o i v:V) (ov iv u:Value) (Q:Hp->Prop),Inv X pins σ H s->RelV o ov->RelV i iv->RelV v u->t o i v H Q ->
  wpAny (model X.prog X.w) X.A (setItem ov iv u) (fun _ s'=>∃ H',Inv X pins σ H' s'/\Q H') X.xe s
abbrev TIp:=V->V->Hp->VK->Prop
def PIp(X:Cx)(op:Operator)(t:TIp):Prop :=
 ∀ (pins:List (Addr × Obj)) (s:Shared) (σ:St) (H:Hp) (x y:V) (v u:Value) (Q:VK),Inv X pins σ H s->RelV x v->RelV y u->t x y H Q ->
  wpAny (model X.prog X.w) X.A (inplaceOp op v u) (EP X pins σ Q) X.xe s
section
variable{X:Cx}{pos:Pos}
def nM(i:Nat):TG:=fun v σ H Q=>Q (σ.set i (some v)) H
theorem u9{i:Nat}{x:Str}(hN:X.N.Nodup)(hi:X.N[i]?=some x)(hx:Loc X.env.scope x)(hf:X.fn x=true\/X.env.scope.names.lookup x=some .local:=by first | exact .inl rfl | exact .inr rfl | assumption):PG X (.Name x pos) (nM i):=by
 intro pins s σ H v u Q I r h
 exact wpAny_assign_Name (hX I hN hi hx r (fun s' I'=>⟨_,H,I',h⟩) hf)
def Ep:TGs:=fun vs σ H Q=>vs=[]/\Q σ H
def Ax(t:TG)(u:TGs):TGs:=fun vs σ H Q=>∃ v r,vs=v::r/\t v σ H fun σ' H'=>u r σ' H' Q
theorem BO:PGs X [] Ep:=by
 intro pins s σ H vs us Q I r h
 obtain⟨e,h⟩:=h
 subst e
 cases r
 exact assignInOrder_nil ⟨σ,H,I,h⟩
theorem yU{t:TG}(h1:PG X e t)(h2:PGs X es u)
 (hs:(assignEach (e::es) X.env).map (·.2)=assign e X.env::(assignEach es X.env).map (·.2):=by rfl):PGs X (e::es) (Ax t u):=by
 intro pins s σ H vs us Q I r h
 obtain⟨v,vr,e1,h⟩:=h
 subst e1
 cases r with
 |cons r rr=>
  rw[hs]
  refine assignInOrder_cons (thn (h1 pins s σ H _ _ _ I r h) fun _ s1 ⟨σ1,H1,I1,q1⟩=>?_)
  exact h2 pins s1 σ1 H1 _ _ Q I1 rr q1
def ox(K:PySem.W.Frag)(n:Nat)(t:TGs):TG:=fun v σ H Q=>∃ a xs,v=.ref a/\SqT K H a xs/\xs.length=n/\t xs σ H Q
theorem xT{k:Nat}{t:TGs}{n:Nat}(hc:X.calm=true)(h:PGs X es t)
 (hn:(assignEach es X.env).length=n:=by rfl)(hst:(assignEach es X.env).findIdx? (·.1)=none:=by rfl):PG X (.Tuple es k pos) (ox X.K n t):=by
 intro pins s σ H v u Q I r hw
 obtain⟨a,xs,e1,hq,hl,hw⟩:=hw
 subst e1
 cases r
 obtain⟨its,rv,ht,hz⟩:=I.tuple hq
 refine assign_Tuple_tuple (I.ok.hd hc) ht (by simp[hn,<-hl,rv.length]) hst fun h' hx=>?_
 have I1:Inv X pins σ H { s with heap:=h' }:=I.kept (t':=s.toks) fun b o e=>hx b o (Nat.ne_of_lt (Heap.lt_size e)) e
 exact h pins _ σ H xs _ Q I1 (by simpa using rv) hw
def Ai(to ti:TE)(t:Al):TG:=fun v σ H Q=>to σ H fun o H1=>ti σ H1 fun i H2=>t o i v H2 fun H3=>Q σ H3
theorem Fg{to ti:TE}{t:Al}(ho:PE X o to)(hi:PE X i ti)(hs:CA X t)
 (ha:∀ v,assign (.Subscript o i pos) X.env v=(do
   let ov <- holding [v] (eval o X.env)
   let iv <- holding [v,ov] (eval i X.env)
   standAt pos
   holding [v,ov,iv] (setItem ov iv v)
   release [v,ov,iv] []):=by intro _;rfl):PG X (.Subscript o i pos) (Ai to ti t):=by
 intro pins s σ H v u Q I r h
 rw[ha]
 refine wpAny_bind (wpAny_holding (thn (ho pins s σ H _ I h) fun ov s1 ⟨x,H1,I1,r1,q1⟩=>?_))
 refine wpAny_bind (wpAny_holding (thn (hi pins s1 σ H1 _ I1 q1) fun iv s2 ⟨y,H2,I2,r2,q2⟩=>?_))
 refine wpAny_bind (wpAny_standAt (wpAny_bind (wpAny_holding (thn (hs pins s2 σ H2 x y v ov iv u _ I2 r1 r2 r q2) fun _ s3 ⟨H3,I3,q3⟩=>?_))))
 exact wpAny_release ⟨σ,H3,I3,q3⟩
def nW(te:TE)(g:TG):TS:=fun D σ H=>te σ H fun x H1=>g x σ H1 D.nx
theorem vW(he:PE X e te)(hg:PG X tg g)(hs:swapsWithSole [tg] e pos.line X.env=pure false:=by rfl)(hw:swappedStores [tg] e X.env=pure none:=by rfl)
 (h1:(assignEach [tg] X.env).map (·.2)=[assign tg X.env]:=by rfl):PS X (.Assign [tg] e pos) (nW te g):=by
 intro pins s σ H D I h
 refine wpAny_Assign_stores (thn (he pins s σ H _ I h) fun v s1 ⟨x,H1,I1,r1,q1⟩=>?_) hs hw
 rw[h1]
 exact thn (hg pins s1 σ H1 x v _ I1 r1 q1) fun _ s2 q=>q
theorem wA{i:Nat}{x:Str}{pos':Pos}(hN:X.N.Nodup)(hi:X.N[i]?=some x)(hx:Loc X.env.scope x)(he:PE X e te)(hs:swapsWith e (some (.Name x pos')) pos.line X.env=pure false:=by rfl)(hf:X.fn x=true\/X.env.scope.names.lookup x=some .local:=by first | exact .inl rfl | exact .inr rfl | assumption) :
  PS X (.Assign [.Name x pos'] e pos) (nW te (nM i)):=by
 intro pins s σ H D I h
 refine wpAny_Assign_Name (thn (he pins s σ H _ I h) fun v s1 ⟨y,H1,I1,r1,q1⟩=>?_) hs
 exact hX I1 hN hi hx r1 (fun s2 I2=>⟨_,H1,I2,q1⟩) hf
def E7(i j:Nat)(ta:TA):TS:=fun D σ H=>ta σ H fun vs H1=>∃ v w,vs=[v,w]/\D.nx ((σ.set i (some v)).set j (some w)) H1
theorem DM{i j:Nat}{x y:Str}{a b:Expr}{ta:TA}{px py pt:Pos}{kt k2 pt2}(hc:X.calm=true)(hN:X.N.Nodup)(hi:X.N[i]?=some x)(hj:X.N[j]?=some y)(hij:i≠j)
 (hx:X.env.scope.names.lookup x=some .local)(hy:X.env.scope.names.lookup y=some .local)(ha:PA X [a,b] ta)
 (hw:swappedStores [.Tuple [.Name x px,.Name y py] kt pt] (.Tuple [a,b] k2 pt2) X.env=pure (some [x,y]))
 (hs:swapsWithSole [.Tuple [.Name x px,.Name y py] kt pt] (.Tuple [a,b] k2 pt2) pos.line X.env=pure false:=by rfl) :
  PS X (.Assign [.Tuple [.Name x px,.Name y py] kt pt] (.Tuple [a,b] k2 pt2) pos) (E7 i j ta):=by
 intro pins s σ H D I h
 rw[exec_Assign_arm]
 refine wpAny_bind (wpAny_standAt ?_)
 rw[hs]
 refine wpAny_bind (wpAny_pure ?_)
 rw[if_neg (by decide)]
 refine wpAny_bind (Tuple_ (thn (ha _ pins s σ H _ I h) fun us s1 ⟨vs,H1,I1,r1,q1⟩=>?_))
 obtain⟨v,w,e1,q1⟩:=q1
 subst e1
 obtain⟨u1,u2,rfl,rv,rw'⟩:∃ u1 u2,us=[u1,u2]/\RelV v u1/\RelV w u2:=by
  cases r1 with
  |cons p q=>
   cases q with
   |cons p' q'=>
    cases q'
    exact⟨_,_,rfl,p,p'⟩
 refine wpAny_newObj_type ?_ (by show 2<=sizeLine;decide)
 have I2:Inv X pins σ H1 { s1 with heap:=s1.heap.push { cls:=.type "tuple",data:=.seq [u1,u2].toArray } }:=I1.kept (t':=s1.toks) fun b o e=>Heap.get?_push_of_some _ e
 rw[hw]
 refine wpAny_bind (wpAny_pure ?_)
 show wpAny (model X.prog X.w) X.A (do rule "assign.swapped-stores";let items <- unpackItems (.ref s1.heap.objs.size) 2 none;assignInOrder [fun v=>bindName X.env y v,fun v=>bindName X.env x v] items.reverse;pure Flow.next) _ _ _
 refine wpAny_bind (wpAny_rule (wpAny_bind (unpackItems_tuple (items:=#[u1,u2]) (I.ok.hd hc) (IsTup.new s1.heap _) fun h' hx'=>?_)))
 have I3:=I2.kept (h':=h') (t':=s1.toks) fun b o e=>hx' b o (Nat.ne_of_lt (Heap.lt_size e)) e
 show wpAny _ _ (assignInOrder [fun v=>bindName X.env y v,fun v=>bindName X.env x v] [u2,u1] >>= fun _=>pure Flow.next) _ _ _
 refine wpAny_bind (assignInOrder_cons (wpAny_bindName (hX I3 hN hj (.inl hy) rw' (fun s2 I4=>?_) (.inr hy))))
 refine assignInOrder_cons (wpAny_bindName (hX I4 hN hi (.inl hx) rv (fun s3 I5=>assignInOrder_nil (wpAny_pure ?_)) (.inr hx)))
 rw[List.set_comm _ _ (Ne.symm hij)]at I5
 exact⟨_,H1,I5,q1⟩
def CB(i:Nat)(te:TE)(ti:TIp):TS:=fun D σ H=>∃ x,σ[i]?=some (some x)/\te σ H fun y H1=>ti x y H1 fun z H2=>D.nx (σ.set i (some z)) H2
theorem vQ{i:Nat}{x:Str}{pos':Pos}(hN:X.N.Nodup)(hi:X.N[i]?=some x)(hx:Loc X.env.scope x)(he:PE X e te)(ho:PIp X op ti)(hf:X.fn x=true\/X.env.scope.names.lookup x=some .local:=by first | exact .inl rfl | exact .inr rfl | assumption) :
  PS X (.AugAssign (.Name x pos') op e pos) (CB i te ti):=by
 intro pins s σ H D I h
 obtain⟨v,e1,h⟩:=h
 obtain⟨m,hn,hl⟩:=I.loc
 have vis:Vis X.env.scope x:=by rcases hx with k | k;exact .inl k;exact .inr (.inl k)
 obtain⟨u,r,l⟩:=hl i x v hi e1 vis
 refine wpAny_AugAssign_Name ?_
 have go:wpAny (model X.prog X.w) X.A (eval e X.env) (fun w s₂=>wpAny (model X.prog X.w) X.A (inplaceOp op u w) (fun r s₃=>wpAny (model X.prog X.w) X.A (storeName X.env x r) (fun _=>SP X pins D .next) X.xe s₃) X.xe s₂) X.xe s:=by
  refine thn (he pins s σ H _ I h) fun w s1 ⟨y,H1,I1,r1,q1⟩=>?_
  refine thn (ho pins s1 σ H1 v y u w _ I1 r r1 q1) fun z s2 ⟨zv,H2,I2,r2,q2⟩=>?_
  exact hX I2 hN hi hx r2 (fun s3 I3=>⟨_,H2,I3,q2⟩) hf
 rcases l with⟨hk,hm⟩ | ⟨hk,c,hc,hcell⟩
 ·exact wpAny_loadName_local I.ok.kind hk hn hm go
 ·rcases hk with hk | hk
  ·exact wpAny_loadName_cell I.ok.kind hk hc hcell go
  ·rcases hx with k | k
   ·have:X.env.scope.names.lookup x=some .free:=hk
    rw[k]at this;cases this
   ·have:X.env.scope.names.lookup x=some .free:=hk
    rw[k]at this;cases this
def ipI(f:Int->Int->Int):TIp:=fun x y H Q=>∃ i j,x=.int i/\y=.int j/\Q (.int (f i j)) H
theorem E5:PIp X .Add (ipI fun i j=>i+j):=by
 intro pins s σ H x y v u Q I r1 r2 h
 obtain⟨i,j,e1,e2,q⟩:=h
 subst e1;subst e2
 obtain⟨t,rfl⟩:=r1
 obtain⟨t',rfl⟩:=r2
 exact iadd_int ⟨.int _,H,I.tok _,⟨_,rfl⟩,q⟩
theorem Ed:PIp X .Sub (ipI fun i j=>i-j):=by
 intro pins s σ H x y v u Q I r1 r2 h
 obtain⟨i,j,e1,e2,q⟩:=h
 subst e1;subst e2
 obtain⟨t,rfl⟩:=r1
 obtain⟨t',rfl⟩:=r2
 exact isub_int ⟨.int _,H,I.tok _,⟨_,rfl⟩,q⟩
end
section
variable{X:Cx}{pos:Pos}
def Eh(c:TT)(tb:TS):TS:=fun D σ H=>∃ W:Nat->St->Hp->Prop,(∃ m,W m σ H)/\∀ m σ H,W m σ H ->
 c σ H fun b H1=>if b=true then ∃ N:St->Hp->Prop,(∀ σ' H',N σ' H'->∃ m',m'<m/\W m' σ' H')/\tb { D with nx:=N,ct:=N,bk:=D.nx } σ H1 else D.nx σ H1
theorem zS(hp:PassesOwn (model X.prog X.w) X.A X.env X.xe)(hc:PT X c tc)(hb:PSs X body tb):PS X (.While c body [] pos) (Eh tc tb):=by
 intro pins s σ H D I h
 obtain⟨W,⟨m0,w0⟩,turn⟩:=h
 refine wpAny_While (codeAny_whileLoop (fun n s'=>∃ σ' H',Inv X pins σ' H' s'/\W n σ' H') ?_ m0 ⟨σ,H,I,w0⟩)
 rintro n s1 ⟨σ1,H1,I1,w1⟩
 refine wpAny_passesOwn hp (thn (hc pins s1 σ1 H1 _ I1 (turn n σ1 H1 w1)) fun b s2 ⟨H2,I2,q2⟩=>?_)
 cases b with
 |true=>
  obtain⟨N,hN,q2⟩:=q2
  rw[if_pos rfl]
  refine wpAny_passesOwn hp (thn (hb pins s2 σ1 H2 _ I2 q2) fun f s3 q3=>?_)
  cases f with
  |next=>
   obtain⟨σ3,H3,I3,n3⟩:=q3
   obtain⟨m',hm,w3⟩:=hN σ3 H3 n3
   exact⟨m',hm,σ3,H3,I3,w3⟩
  |cont=>
   obtain⟨σ3,H3,I3,n3⟩:=q3
   obtain⟨m',hm,w3⟩:=hN σ3 H3 n3
   exact⟨m',hm,σ3,H3,I3,w3⟩
  | brk=>exact q3
  | ret v=>exact q3
 |false=>
  rw[if_neg Bool.false_ne_true]
  exact wpAny_execs_nil ⟨σ1,H2,I2,q2⟩
end
structure It where
 go:Nat->Hp->Prop
 yld:Nat->Hp->V->Hp->Prop
 stop:Nat->Hp->Prop
def j8(X:Cx)(pins:List (Addr × Obj))(H:Hp)(b:Addr):Prop :=
 H b=none/\b≠X.env.locals/\b∉X.fs/\(b∈X.ex\/X.s₀.heap.objs.size<=b)/\(∀ x c,X.env.cells.lookup x=some c->c≠b)/\∀ p∈X.pn++pins,p.1≠b
theorem Inv.nY{H H':Hp}{b:Addr}(I:Inv X pins σ H s)(hb:s.heap.objs.size<=b)(hn:H' b=none):j8 X pins H' b:=by
 refine⟨hn,Nat.ne_of_gt (Nat.lt_of_lt_of_le I.lt hb),I.Hj hb,.inr (Nat.le_trans I.sz hb),fun x c e z=>?_,fun p hp z=>?_⟩
 ·obtain⟨v,q⟩:=I.cell x c e
  exact absurd (Nat.lt_of_lt_of_le q.lt (by rw[z];exact hb)) (Nat.lt_irrefl _)
 ·exact absurd (Nat.lt_of_lt_of_le (Heap.lt_size (I.pin p hp).1) (by rw[z];exact hb)) (Nat.lt_irrefl _)
structure Turn(P:Program)(w:World)(K:PySem.W.Frag)(tg:Expr)(J:It)(fp:List Addr)(it:Addr)(tn:Nat->Heap->Prop):Prop where
 mem:it∈fp
 obj:∀ i h,tn i h->∀ b∈fp,∃ o,h.get? b=some o/\∀ v,o.data≠.cell v
 keep:∀ i h h',tn i h->(∀ b∈fp,∀ o,h.get? b=some o->h'.get? b=some o)->tn i h'
 item:∀ (X:Cx),X.prog=P->X.w=w->X.K=K->X.calm=true->∀ (i:Nat) (pins:List (Addr × Obj)) (s:Shared) (σ:St) (H:Hp) (E:Value->Shared->Prop),Inv X pins σ H s->(∀ b∈fp,j8 X pins H b)->tn i s.heap->J.go i H ->
  wpAny (model P w) X.A (pyNext (.ref it)) (fun r s1=>∃ u,r=some u /\
   wpAny (model P w) X.A (letOwnedTupleGo tg (.ref it) u) (fun _ s2=>∃ x H',Inv X pins σ H' s2/\RelV x u/\J.yld i H x H'/\tn (i+1) s2.heap/\∀ b∈fp,H' b=none) E s1) E s
 done:∀ (X:Cx),X.prog=P->X.w=w->X.K=K->X.calm=true->∀ (i:Nat) (pins:List (Addr × Obj)) (s:Shared) (σ:St) (H:Hp) (E:Value->Shared->Prop),Inv X pins σ H s->(∀ b∈fp,j8 X pins H b)->tn i s.heap->J.stop i H ->
  wpAny (model P w) X.A (pyNext (.ref it)) (fun r s1=>r=none/\Inv X pins σ H s1) E s
 self:∀ (A:Around) (i:Nat) (s:Shared) (Q:Value->Shared->Prop) (E:Value->Shared->Prop),tn i s.heap->Q (.ref it) s->wpAny (model P w) A (pyIter (.ref it)) Q E s
abbrev TI:=St->Hp->(It->Hp->Prop)->Prop
def PIE(X:Cx)(pins:List (Addr × Obj))(σ:St)(tg:Expr)(R:It->Hp->Prop)(itv:Value)(s2:Shared):Prop :=
 ∃ (it:Addr) (fp:List Addr) (tn:Nat->Heap->Prop) (J:It) (H':Hp),itv=.ref it/\Inv X pins σ H' s2/\Turn X.prog X.w X.K tg J fp it tn/\tn 0 s2.heap/\(∀ b∈fp,j8 X pins H' b)/\R J H'
def PI(X:Cx)(tg iter:Expr)(wi:TI):Prop :=
 ∀ (pins:List (Addr × Obj)) (s:Shared) (σ:St) (H:Hp) (R:It->Hp->Prop),Inv X pins σ H s->wi σ H R ->
  wpAny (model X.prog X.w) X.A (eval iter X.env) (fun v s1=>wpAny (model X.prog X.w) X.A (pyIter v) (PIE X pins σ tg R) X.xe s1) X.xe s
theorem qj{M:Model}{A:Around}{E:Value->Shared->Prop}{s:Shared}{tg:Expr}{it:Addr}{u:Value}{o:Obj}{n:String}{vs:Array Value}{Q:Unit->Shared->Prop}(ho:s.heap.get? it=some o)(hc:o.cls=.type n)(hd:o.data=.fields vs)
 (hn:["enumerate", "zip", "dict_itemiterator", "dict_reverseitemiterator", "odict_iterator", "itertools.zip_longest", "itertools.pairwise"].contains n=false)(hQ:Q () s):wpAny M A (letOwnedTupleGo tg (.ref it) u) Q E s:=by
 unfold letOwnedTupleGo
 cases tg<;>first
  | exact wpAny_pure hQ
  | (cases u<;>first
    | exact wpAny_pure hQ
    | (refine wpAny_bind (wpAny_load ho ?_)
       rw[hc,hd]
       show wpAny M A (if(["enumerate", "zip", "dict_itemiterator", "dict_reverseitemiterator", "odict_iterator", "itertools.zip_longest", "itertools.pairwise"].contains n&&vs[0]? == some (rawInt _))=true then _ else _) Q E s
       rw[if_neg (by intro h;rw[hn,Bool.false_and]at h;cases h)]
       exact wpAny_pure hQ))
def Itl(K:PySem.W.Frag)(a:Addr):It :=
 ⟨fun i H=>∃ xs x,SqL K H a xs/\xs[i]?=some x,fun i H x H'=>H'=H/\∀ xs,SqL K H a xs->xs[i]?=some x,fun i H=>∃ xs,SqL K H a xs/\xs.length<=i⟩
def Itt(K:PySem.W.Frag)(a:Addr):It :=
 ⟨fun i H=>∃ xs x,SqT K H a xs/\xs[i]?=some x,fun i H x H'=>H'=H/\∀ xs,SqT K H a xs->xs[i]?=some x,fun i H=>∃ xs,SqT K H a xs/\xs.length<=i⟩
def Itr(lo:Int)(n:Nat):It:=⟨fun i _=>i<n,fun i H x H'=>H'=H/\x=.int (lo+i),fun i _=>n<=i⟩
theorem xW{P:Program}{w:World}{K:PySem.W.Frag}{tg:Expr}(a it:Addr):Turn P w K tg (Itl K a) [it] it (fun i h=>h.IsListIter it a i) where
 mem:=by simp
 obj:=fun i h st b hb=>by
  have e:b=it:=by simpa using hb
  subst e
  obtain⟨o,e,c,d⟩:=st
  exact⟨o,e,fun v z=>by rw[d]at z;cases z⟩
 keep:=fun i h h' st k=>st.at fun o e=>k it (by simp) o e
 item:=by
  intro X hP hw hK hc i pins s σ H E I hf st hg
  subst hP hw hK
  obtain⟨xs,x,hq,hx⟩:=hg
  obtain⟨its,rv,p,hz⟩:=I.list hq
  obtain⟨u,hu,ru⟩:=rv.get hx
  obtain⟨f0,f1,f2,f3,f4,f5⟩:=hf it (by simp)
  refine wpAny_pyNext_list_item st p.isList (x:=u) (by simpa using hu) fun h' st' sb=>?_
  have I1:Inv X pins σ H { s with heap:=h' }:=I.turned (t':=s.toks) (fun b o hb e=>(sb.2 b hb).trans e) f0 f1 f3 f4 f5
  obtain⟨o,e,c,d⟩:=id st'
  exact⟨u,rfl,qj (s:={ s with heap:=h' }) e c d (by decide) ⟨x,H,I1,ru,⟨rfl,fun ys hy=>by rw[I.y8 hy hq];exact hx⟩,st',fun b hb=>(hf b hb).1⟩⟩
 done:=by
  intro X hP hw hK hc i pins s σ H E I hf st hg
  subst hP hw hK
  obtain⟨xs,hq,hx⟩:=hg
  obtain⟨its,rv,p,hz⟩:=I.list hq
  obtain⟨f0,f1,f2,f3,f4,f5⟩:=hf it (by simp)
  have hl:=rv.length
  exact wpAny_pyNext_list_end (I.ok.hd hc) st p.isList (by simp;lia) fun h' eb=>⟨rfl,I.turned (t':=s.toks) (fun b o hb e=>eb b o hb e) f0 f1 f3 f4 f5⟩
 self:=fun _ _ _ _ _ st h=>wpAny_pyIter_listiter st h
theorem uN{P:Program}{w:World}{K:PySem.W.Frag}{tg:Expr}(a it:Addr):Turn P w K tg (Itt K a) [it] it (fun i h=>h.IsTupleIter it a i) where
 mem:=by simp
 obj:=fun i h st b hb=>by
  have e:b=it:=by simpa using hb
  subst e
  obtain⟨o,e,c,d⟩:=st
  exact⟨o,e,fun v z=>by rw[d]at z;cases z⟩
 keep:=fun i h h' st k=>st.at fun o e=>k it (by simp) o e
 item:=by
  intro X hP hw hK hc i pins s σ H E I hf st hg
  subst hP hw hK
  obtain⟨xs,x,hq,hx⟩:=hg
  obtain⟨its,rv,p,hz⟩:=I.tuple hq
  obtain⟨u,hu,ru⟩:=rv.get hx
  obtain⟨f0,f1,f2,f3,f4,f5⟩:=hf it (by simp)
  refine wpAny_pyNext_tuple_item st (show s.heap.IsTuple a its.toArray from p) (x:=u) (by simpa using hu) fun h' st' sb=>?_
  have I1:Inv X pins σ H { s with heap:=h' }:=I.turned (t':=s.toks) (fun b o hb e=>(sb.2 b hb).trans e) f0 f1 f3 f4 f5
  obtain⟨o,e,c,d⟩:=id st'
  exact⟨u,rfl,qj (s:={ s with heap:=h' }) e c d (by decide) ⟨x,H,I1,ru,⟨rfl,fun ys hy=>by rw[I.wR hy hq];exact hx⟩,st',fun b hb=>(hf b hb).1⟩⟩
 done:=by
  intro X hP hw hK hc i pins s σ H E I hf st hg
  subst hP hw hK
  obtain⟨xs,hq,hx⟩:=hg
  obtain⟨its,rv,p,hz⟩:=I.tuple hq
  obtain⟨f0,f1,f2,f3,f4,f5⟩:=hf it (by simp)
  have hl:=rv.length
  exact wpAny_pyNext_tuple_end (I.ok.hd hc) st (show s.heap.IsTuple a its.toArray from p) (by simp;lia) fun h' eb=>⟨rfl,I.turned (t':=s.toks) (fun b o hb e=>eb b o hb e) f0 f1 f3 f4 f5⟩
 self:=fun _ _ _ _ _ st h=>wpAny_pyIter_tupleiter st h
theorem uJ{P:Program}{w:World}{K:PySem.W.Frag}{tg:Expr}(it:Addr)(lo:Int)(n:Nat):Turn P w K tg (Itr lo n) [it] it (fun i h=>IsRangeIter h it (lo+(i:Nat)*1) ((n:Int)-(i:Nat)) 1) where
 mem:=by simp
 obj:=fun i h st b hb=>by
  have e:b=it:=by simpa using hb
  subst e
  exact⟨_,st,fun v z=>by
   have z':Data.fields _=Data.cell v:=z
   cases z'⟩
 keep:=fun i h h' st k=>k it (by simp) _ st
 item:=by
  intro X hP hw hK hc i pins s σ H E I hf st hg
  subst hP hw hK
  obtain⟨f0,f1,f2,f3,f4,f5⟩:=hf it (by simp)
  have W:=Walks.range (prog:=X.prog) (w:=X.w) (I.ok.hd hc) it lo 1 n
  refine W.item i s _ _ hg st fun v h' tk hv st' kk=>?_
  obtain⟨t,rfl⟩:=hv
  have I1:Inv X pins σ H { s with heap:=h',toks:=tk }:=I.turned (fun b o hb e=>kk b o (by simpa using hb) e) f0 f1 f3 f4 f5
  refine⟨_,rfl,qj (s:={ s with heap:=h',toks:=tk }) (n := "range_iterator") st' rfl rfl (by decide) ⟨.int (lo+i),H,I1,⟨t,?_⟩,⟨rfl,rfl⟩,st',fun b hb=>(hf b hb).1⟩⟩
  rw[Int.mul_one]
 done:=by
  intro X hP hw hK hc i pins s σ H E I hf st hg
  subst hP hw hK
  obtain⟨f0,f1,f2,f3,f4,f5⟩:=hf it (by simp)
  exact wpAny_pyNext_range_end (I.ok.hd hc) st (by have:n<=i:=hg;lia) fun h' eb=>⟨rfl,I.turned (t':=s.toks) (fun b o hb e=>eb b o hb e) f0 f1 f3 f4 f5⟩
 self:=fun _ _ _ _ _ st h=>wpAny_pyIter_rangeiter st h
section
variable{X:Cx}{tg:Expr}
theorem qE{R:It->Hp->Prop}{E:Value->Shared->Prop}{lo hi:Int}{t u v:Tok}{tk:Nat}(I:Inv X pins σ H s)(h1:-(2 ^ 62)<=lo)(h2:lo<2 ^ 62)(h3:-(2 ^ 62)<=hi)(h4:hi<2 ^ 62)
 (q:R (Itr lo (hi-lo).toNat) H):wpAny (model X.prog X.w) X.A (pyIter (.ref s.heap.objs.size)) (PIE X pins σ tg R) E { s with heap:=s.heap.push { cls:=.type "range",data:=.fields #[.int lo t,.int hi u,.int 1 v] },toks:=tk }:=by
 refine wpAny_pyIter_range (IsRange.new ..) (small_one h1 h2 h3 h4) ?_
 have I1:Inv X pins σ H { s with heap:=s.heap.push { cls:=.type "range",data:=.fields #[.int lo t,.int hi u,.int 1 v] },toks:=tk }:=I.kept fun b o e=>Heap.get?_push_of_some _ e
 refine⟨(s.heap.push { cls:=.type "range",data:=.fields #[.int lo t,.int hi u,.int 1 v] }).objs.size,[(s.heap.push { cls:=.type "range",data:=.fields #[.int lo t,.int hi u,.int 1 v] }).objs.size],_,_,H,rfl,
  I1.kept (t':=tk) fun b o e=>Heap.get?_push_of_some _ e,uJ _ lo (hi-lo).toNat,?_,fun b hb=>?_,q⟩
 ·have e1:lo+((0:Nat):Int)*1=lo:=by simp
  have e2:(((hi-lo).toNat:Nat):Int)-((0:Nat):Int)=Builtin.Range.rangeSize lo hi 1:=by rw[rangeSize_one];split<;>lia
  show IsRangeIter _ _ (lo+((0:Nat):Int)*1) ((((hi-lo).toNat:Nat):Int)-((0:Nat):Int)) 1
  rw[e1,e2]
  exact Heap.get?_push_size _ rfl
 ·have e:b=(s.heap.push { cls:=.type "range",data:=.fields #[.int lo t,.int hi u,.int 1 v] }).objs.size:=by simpa using hb
  subst e
  exact I1.nY (Nat.le_refl _) (I1.hok.fresh (Nat.le_refl _))
def Gm(ta:TA):TI:=fun σ H R=>ta σ H fun vs H1=>∃ j:Int,vs=[.int j]/\-(2 ^ 62)<=j/\j<2 ^ 62/\R (Itr 0 j.toNat) H1
def FN(ta:TA):TI:=fun σ H R=>ta σ H fun vs H1=>∃ i j:Int,vs=[.int i,.int j]/\(-(2 ^ 62)<=i/\i<2 ^ 62/\-(2 ^ 62)<=j/\j<2 ^ 62)/\R (Itr i (j-i).toNat) H1
theorem xf{a:Expr}{ta:TA}{p pos:Pos}(hg:Gl X "range")(hm:X.mg "range" = none)(ha:PA X [a] ta)(hs:starEach [a] X.env=[(false,eval a X.env)]:=by rfl):PI X tg (.Call (.Name "range" p) [a] [] pos) (Gm ta):=by
 intro pins s σ H R I h
 refine Call_ (gO I hg hm boot_range (PyProof.Rows.callWith_type1 (thn (ha pos pins s σ H _ I h) fun us s1 ⟨vs,H1,I1,r1,q1⟩=>?_) hs rfl))
 obtain⟨j,e,q1,q2,q⟩:=q1
 subst e
 cases r1 with
 |cons r rr=>
  cases rr
  obtain⟨t,rfl⟩:=r
  exact call_range_1 (qE I1 (by lia) (by lia) q1 q2 (by simpa using q))
theorem wa{a b:Expr}{ta:TA}{p pos:Pos}(hg:Gl X "range")(hm:X.mg "range" = none)(ha:PA X [a,b] ta)(hs:starEach [a,b] X.env=[(false,eval a X.env),(false,eval b X.env)]:=by rfl)(hs2:starEach [b] X.env=[(false,eval b X.env)]:=by rfl) :
  PI X tg (.Call (.Name "range" p) [a,b] [] pos) (FN ta):=by
 intro pins s σ H R I h
 refine Call_ (gO I hg hm boot_range (PyProof.Rows.callWith_type1 (thn (ha pos pins s σ H _ I h) fun us s1 ⟨vs,H1,I1,r1,q1⟩=>?_) (by rw[hs,hs2]) (by rw[hs2];rfl)))
 obtain⟨i,j,e,⟨q1,q2,q3,q4⟩,q⟩:=q1
 subst e
 cases r1 with
 |cons r rr=>
  cases rr with
  |cons r' rr=>
   cases rr
   obtain⟨t,rfl⟩:=r
   obtain⟨t',rfl⟩:=r'
   exact call_range_2 (qE I1 q1 q2 q3 q4 q)
def Ha(wi:TI)(g:TG)(tb:TS):TS:=fun D σ H=>wi σ H fun J H1=>∃ W:Nat->Nat->St->Hp->Prop,(∃ m,W 0 m σ H1)/\∀ i m σ H,W i m σ H ->
 (J.stop i H/\D.nx σ H)\/(J.go i H/\∃ N:St->Hp->Prop,(∀ σ' H',N σ' H'->∃ m',m'<m/\W (i+1) m' σ' H')/\∀ x H',J.yld i H x H'->g x σ H' fun σ2 H2=>tb { D with nx:=N,ct:=N,bk:=D.nx } σ2 H2)
def kI(fp:List Addr)(h:Heap):List (Addr × Obj):=fp.filterMap fun b=>(h.get? b).map fun o=>(b,o)
theorem gp{fp:List Addr}{h:Heap}{b:Addr}{o:Obj}(hb:b∈fp)(e:h.get? b=some o):(b,o)∈kI fp h:=List.mem_filterMap.mpr ⟨b,hb,by rw[e];rfl⟩
theorem xb{fp:List Addr}{h:Heap}{p:Addr × Obj}(hp:p∈kI fp h):p.1∈fp/\h.get? p.1=some p.2:=by
 obtain⟨b,hb,e⟩:=List.mem_filterMap.mp hp
 cases q:h.get? b with
 | none=>rw[q]at e;cases e
 |some o=>
  rw[q]at e
  have e':(b,o)=p:=Option.some.inj e
  subst e'
  exact⟨hb,q⟩
theorem Inv.pinned{fp:List Addr}(I:Inv X pins σ H s)(hf:∀ b∈fp,j8 X pins H b)(ho:∀ b∈fp,∃ o,s.heap.get? b=some o/\∀ v,o.data≠.cell v):Inv X (pins++kI fp s.heap) σ H s :=
 I.ub fun p hp=>(List.mem_append.mp hp).elim (fun z=>I.pin p (List.mem_append_right _ z)) fun z=>by
  obtain⟨hb,e⟩:=xb z
  obtain⟨f0,f1,f2,_⟩:=hf p.1 hb
  obtain⟨o,e',d⟩:=ho p.1 hb
  rw[e]at e';cases e'
  exact⟨e,f0,f1,f2,d⟩
theorem Inv.jr{pins pl:List (Addr × Obj)}{σ:St}{H:Hp}{s:Shared}(I:Inv X (pins++pl) σ H s):Inv X pins σ H s:=I.ub fun p hp=>I.pin p (List.mem_append_right _ (List.mem_append_left _ hp))
theorem CJ{pos:Pos}(hp:PassesOwn (model X.prog X.w) X.A X.env X.xe)(hc:X.calm=true)(hi:PI X tg iter wi)(hg:PG X tg g)(hb:PSs X body tb)
 (hs:∀ x,foldedSetIterable iter X.env x=pure x:=by intro _;rfl):PS X (.For tg iter body [] pos) (Ha wi g tb):=by
 intro pins s σ H D I h
 refine wpAny_For (thn (hi pins s σ H _ I h) fun v s1 h1=>thn h1 fun itv s2 h2=>?_) hs
 obtain⟨it,fp,tn,J,H2,e,I2,T,st2,f2,W,⟨m0,w0⟩,turn⟩:=h2
 subst e
 have stat:∀ {H':Hp},(∀ b∈fp,H' b=none)->∀ b∈fp,j8 X pins H' b:=fun hn b hb=>⟨hn b hb,(f2 b hb).2⟩
 refine codeAny_forLoop_any (fun n s'=>∃ i σ' H',Inv X pins σ' H' s'/\tn i s'.heap/\(∀ b∈fp,H' b=none)/\W i n σ' H') ?_ m0 ⟨0,σ,H2,I2,st2,fun b hb=>(f2 b hb).1,w0⟩
 rintro n s3 ⟨i,σ3,H3,I3,st3,fr3,w3⟩
 rcases turn i n σ3 H3 w3 with⟨stop,qn⟩ | ⟨go,N,hN,step⟩
 ·refine wpAny_passesOwn hp (thn (T.done X rfl rfl rfl hc i pins s3 σ3 H3 X.xe I3 (stat fr3) st3 stop) fun r s4 ⟨hr,I4⟩=>?_)
  subst hr
  exact wpAny_execs_nil ⟨σ3,H3,I4,qn⟩
 ·refine wpAny_passesOwn hp (thn (T.item X rfl rfl rfl hc i pins s3 σ3 H3 X.xe I3 (stat fr3) st3 go) fun r s4 ⟨u,hr,h4⟩=>?_)
  subst hr
  refine wpAny_passesOwn hp (thn h4 fun _ s5 ⟨x,H5,I5,r5,y5,st5,fr5⟩=>?_)
  have I5':=I5.pinned (stat fr5) (T.obj _ _ st5)
  refine wpAny_passesOwn hp (thn (hg _ s5 σ3 H5 x u _ I5' r5 (step x H5 y5)) fun _ s6 ⟨σ6,H6,I6,q6⟩=>?_)
  refine wpAny_passesOwn hp (thn (hb _ s6 σ6 H6 _ I6 q6) fun f s7 q7=>?_)
  have again:∀ {σ7:St} {H7:Hp},Inv X (pins++kI fp s5.heap) σ7 H7 s7->N σ7 H7->∃ m,m<n/\∃ i σ' H',Inv X pins σ' H' s7/\tn i s7.heap/\(∀ b∈fp,H' b=none)/\W i m σ' H':=fun {σ7 H7} I7 n7=>by
   obtain⟨m',hm,w7⟩:=hN σ7 H7 n7
   refine⟨m',hm,i+1,σ7,H7,I7.jr,T.keep _ _ _ st5 fun b hb o e=>(I7.pin (b,o) (List.mem_append_right _ (List.mem_append_right _ (gp hb e)))).1,fun b hb=>?_,w7⟩
   obtain⟨o,e,d⟩:=T.obj _ _ st5 b hb
   exact(I7.pin (b,o) (List.mem_append_right _ (List.mem_append_right _ (gp hb e)))).2.1
  cases f with
  | next=>obtain⟨σ7,H7,I7,n7⟩:=q7;exact again I7 n7
  | cont=>obtain⟨σ7,H7,I7,n7⟩:=q7;exact again I7 n7
  | brk=>obtain⟨σ7,H7,I7,q7⟩:=q7;exact⟨σ7,H7,I7.jr,q7⟩
  | ret v=>obtain⟨x7,σ7,H7,I7,r7,q7⟩:=q7;exact⟨x7,σ7,H7,I7.jr,r7,q7⟩
end
abbrev R2:=V->V->Hp->VK->Prop
def OpR(X:Cx)(f:Value->Value->Sem Value)(r:R2):Prop :=
 ∀ (pins:List (Addr × Obj)) (s:Shared) (σ:St) (H:Hp) (x y:V) (v u:Value) (Q:VK),Inv X pins σ H s->RelV x v->RelV y u->r x y H Q ->
  wpAny (model X.prog X.w) X.A (f v u) (EP X pins σ Q) X.xe s
def UnR(X:Cx)(f:Value->Sem Value)(r:V->Hp->VK->Prop):Prop :=
 ∀ (pins:List (Addr × Obj)) (s:Shared) (σ:St) (H:Hp) (x:V) (v:Value) (Q:VK),Inv X pins σ H s->RelV x v->r x H Q ->
  wpAny (model X.prog X.w) X.A (f v) (EP X pins σ Q) X.xe s
def bJ(X:Cx)(f:Value)(r:List V->Hp->VK->Prop):Prop :=
 ∀ (pins:List (Addr × Obj)) (s:Shared) (σ:St) (H:Hp) (xs:List V) (us:List Value) (Q:VK),Inv X pins σ H s->Vals xs us->r xs H Q ->
  wpAny (model X.prog X.w) X.A (call f us) (EP X pins σ Q) X.xe s
def HE(X:Cx)(r:V->Hp->(Bool->Hp->Prop)->Prop):Prop :=
 ∀ (pins:List (Addr × Obj)) (s:Shared) (σ:St) (H:Hp) (x:V) (v:Value) (Q:Bool->Hp->Prop),Inv X pins σ H s->RelV x v->r x H Q ->
  wpAny (model X.prog X.w) X.A (truthy v) (TP X pins σ Q) X.xe s
def tOp(r:R2)(ta tb:TE):TE:=fun σ H Q=>ta σ H fun x H1=>tb σ H1 fun y H2=>r x y H2 Q
def tUn(r:V->Hp->VK->Prop)(ta:TE):TE:=fun σ H Q=>ta σ H fun x H1=>r x H1 Q
def rI(C:Int->Int->Prop)(g:Int->Int->V):R2:=fun x y H Q=>∃ i j,x=.int i/\y=.int j/\C i j/\Q (g i j) H
def rI0(g:Int->Int->V):R2:=fun x y H Q=>∃ i j,x=.int i/\y=.int j/\Q (g i j) H
def rU(g:Int->V):V->Hp->VK->Prop:=fun x H Q=>∃ i,x=.int i/\Q (g i) H
section
variable{X:Cx}{a b c:Expr}{ta tb tc:TE}{pos:Pos}
theorem Ad(ha:PE X a ta)(hb:PE X b tb){R:V->V->Hp->Prop}(I:Inv X pins σ H s)
 (h:ta σ H fun x H1=>tb σ H1 fun y H2=>R x y H2){Q:Value->Shared->Prop}{f:Value->Value->Sem Value}
 (hf:∀ v u s2 x y H2,Inv X pins σ H2 s2->RelV x v->RelV y u->R x y H2->wpAny (model X.prog X.w) X.A (f v u) Q X.xe s2) :
  wpAny (model X.prog X.w) X.A (eval a X.env) (fun v s₁=>wpAny (model X.prog X.w) X.A (eval b X.env) (fun u s₂=>wpAny (model X.prog X.w) X.A (f v u) Q X.xe s₂) X.xe s₁) X.xe s:=by
 refine thn (ha pins s σ H _ I h) fun v s1 ⟨x,H1,I1,r1,q1⟩=>?_
 refine thn (hb pins s1 σ H1 _ I1 q1) fun u s2 ⟨y,H2,I2,r2,q2⟩=>?_
 exact hf v u s2 x y H2 I2 r1 r2 q2
theorem Gz{op:Operator}{r:R2}(ho:OpR X (binaryOp op) r)(ha:PE X a ta)(hb:PE X b tb):PE X (.BinOp a op b pos) (tOp r ta tb):=by
 intro pins s σ H Q I h
 exact wpAny_BinOp (Ad ha hb I h fun v u s2 x y H2 I2 rx ry q=>ho pins s2 σ H2 x y v u Q I2 rx ry q)
theorem AM{op:UnaryOp}{r:V->Hp->VK->Prop}(ho:UnR X (unaryOp op) r)(ha:PE X a ta):PE X (.UnaryOp op a pos) (tUn r ta):=by
 intro pins s σ H Q I h
 exact UnaryOp_ (thn (ha pins s σ H _ I h) fun v s1 ⟨x,H1,I1,r1,q1⟩=>ho pins s1 σ H1 x v Q I1 r1 q1)
theorem opI{f:Value->Value->Sem Value}{C:Int->Int->Prop}{g:Int->Int->Int}
 (rule:∀ (i j:Int) (t u:Tok) (s:Shared) (Q:Value->Shared->Prop) (E:Value->Shared->Prop),C i j->Q (.int (g i j) s.toks) { s with toks:=s.toks+1 }->wpAny (model X.prog X.w) X.A (f (.int i t) (.int j u)) Q E s) :
  OpR X f (rI C fun i j=>.int (g i j)):=by
 intro pins s σ H x y v u Q I rx ry h
 obtain⟨i,j,rfl,rfl,hc,q⟩:=h
 obtain⟨t,rfl⟩:=rx
 obtain⟨t',rfl⟩:=ry
 exact rule i j t t' s _ _ hc ⟨.int (g i j),H,I.tok _,⟨_,rfl⟩,q⟩
theorem Fb{f:Value->Value->Sem Value}{g:Int->Int->Int}
 (rule:∀ (i j:Int) (t u:Tok) (s:Shared) (Q:Value->Shared->Prop) (E:Value->Shared->Prop),Q (.int (g i j) s.toks) { s with toks:=s.toks+1 }->wpAny (model X.prog X.w) X.A (f (.int i t) (.int j u)) Q E s) :
  OpR X f (rI0 fun i j=>.int (g i j)):=by
 intro pins s σ H x y v u Q I rx ry h
 obtain⟨i,j,rfl,rfl,q⟩:=h
 obtain⟨t,rfl⟩:=rx
 obtain⟨t',rfl⟩:=ry
 exact rule i j t t' s _ _ ⟨.int (g i j),H,I.tok _,⟨_,rfl⟩,q⟩
def Fp(i j:Int):Prop:=0<=j/\j<=1000000/\i.natAbs<2 ^ 64
def uG(i j:Int):Prop:=(-(2 ^ 64)<i/\i<2 ^ 64)\/(-(2 ^ 64)<j/\j<2 ^ 64)
theorem uG.ok(h:uG i j):IntMulOk i j:=by
 rcases h with⟨h1,h2⟩ | ⟨h1,h2⟩
 ·exact .of_left (intBits_le_64 h1 h2)
 ·exact .of_right (intBits_le_64 h1 h2)
theorem Et:OpR X (binaryOp .Add) (rI0 fun i j=>.int (i+j)):=Fb fun _ _ _ _ _ _ _ q=>add_int q
theorem D8:OpR X (binaryOp .Sub) (rI0 fun i j=>.int (i-j)):=Fb fun _ _ _ _ _ _ _ q=>sub_int q
theorem DJ:OpR X (binaryOp .Mult) (rI uG fun i j=>.int (i*j)):=opI fun _ _ _ _ _ _ _ hc q=>mul_int q hc.ok
theorem Ex:OpR X (binaryOp .Mod) (rI (fun _ j=>0<j) fun i j=>.int (i%j)):=opI fun i j _ _ _ _ _ hc q=>by
 have h1:(0:Int)<j:=hc
 exact mod_int' (by lia) (by rw[Int.fmod_eq_emod_of_nonneg i (by lia)];exact q)
theorem Ff:OpR X (binaryOp .Pow) (rI Fp fun i j=>.int (i ^ j.toNat)):=opI fun _ _ _ _ _ _ _ hc q=>pow_int_small hc.1 hc.2.1 hc.2.2 q
theorem unI{f:Value->Sem Value}{g:Int->Int}
 (rule:∀ (i:Int) (t:Tok) (s:Shared) (Q:Value->Shared->Prop) (E:Value->Shared->Prop),Q (.int (g i) s.toks) { s with toks:=s.toks+1 }->wpAny (model X.prog X.w) X.A (f (.int i t)) Q E s) :
  UnR X f (rU fun i=>.int (g i)):=by
 intro pins s σ H x v Q I rx h
 obtain⟨i,rfl,q⟩:=h
 obtain⟨t,rfl⟩:=rx
 exact rule i t s _ _ ⟨.int (g i),H,I.tok _,⟨_,rfl⟩,q⟩
theorem vZ:UnR X (unaryOp .USub) (rU fun i=>.int (-i)):=unI fun _ _ _ _ _ q=>neg_int q
end
def HN:V->V->Bool
 | .non,.non=>true | .non,.int _=>true | .int _,.non=>true | .non,.bl _=>true | .bl _,.non=>true | .non,.str _=>true | .str _,.non=>true
 | .int _,.int _=>true | .bl _,.bl _=>true | .str _,.str _=>true | .byt _,.byt _=>true
 | .int _,.str _=>true | .str _,.int _=>true | .bl _,.str _=>true | .str _,.bl _=>true
 | _,_=>false
def rNe:R2:=fun x y H Q=>HN x y=true/\Q (.bl (!decide (x=y))) H
theorem AR{i j:Int}:decide (V.int i=V.int j)=(i == j):=by
 rw[Bool.eq_iff_iff]
 simp
theorem CI{i j:Bool}:decide (V.bl i=V.bl j)=(i == j):=by
 rw[Bool.eq_iff_iff]
 simp
theorem BM{i j:Str}:decide (V.str i=V.str j)=(i == j):=by
 rw[Bool.eq_iff_iff]
 simp
theorem Bg{i j:Array UInt8}:decide (V.byt i=V.byt j)=(i.toList == j.toList):=by
 rw[Bool.eq_iff_iff]
 cases i
 cases j
 simp
section
variable{X:Cx}{a b c:Expr}{ta tb tc:TE}{pos:Pos}
theorem bU{Q:VK}{k k':Bool}(I:Inv X pins σ H s)(q:Q (.bl k) H)(e:k=k'):EP X pins σ Q (.bool k') s:=by
 subst e
 exact⟨.bl k,H,I,rfl,q⟩
theorem GJ:OpR X (compareOp .NotEq) rNe:=by
 intro pins s σ H x y v u Q I rx ry h
 obtain⟨hs,q⟩:=h
 cases x with
 |non=>
  cases rx
  cases y with
  | non=>cases ry;exact PySem.EqNone.ne_none_none (bU I q (by simp))
  | bl j=>cases ry;exact PySem.EqNone.ne_none_bool (bU I q (by simp))
  | int j=>obtain⟨t',rfl⟩:=ry;exact PySem.EqNone.ne_none_int (bU I q (by simp))
  | str j=>obtain⟨t',rfl⟩:=ry;exact PySem.EqNone.ne_none_str (bU I q (by simp))
  | _=>exact absurd (show false=true from hs) Bool.false_ne_true
 |bl i=>
  cases rx
  cases y with
  | non=>cases ry;exact PySem.EqNone.ne_bool_none (bU I q (by simp))
  | bl j=>cases ry;exact ne_bool (bU I q (congrArg not CI))
  | str j=>obtain⟨t',rfl⟩:=ry;exact PySem.EqMixed.ne_bool_str (bU I q (by simp))
  | _=>exact absurd (show false=true from hs) Bool.false_ne_true
 |int i=>
  obtain⟨t,rfl⟩:=rx
  cases y with
  | non=>cases ry;exact PySem.EqNone.ne_int_none (bU I q (by simp))
  | int j=>obtain⟨t',rfl⟩:=ry;exact ne_int (bU I q (congrArg not AR))
  | str j=>obtain⟨t',rfl⟩:=ry;exact PySem.EqMixed.ne_int_str (bU I q (by simp))
  | _=>exact absurd (show false=true from hs) Bool.false_ne_true
 |str i=>
  obtain⟨t,rfl⟩:=rx
  cases y with
  | non=>cases ry;exact PySem.EqNone.ne_str_none (bU I q (by simp))
  | bl j=>cases ry;exact PySem.EqMixed.ne_str_bool (bU I q (by simp))
  | int j=>obtain⟨t',rfl⟩:=ry;exact PySem.EqMixed.ne_str_int (bU I q (by simp))
  | str j=>obtain⟨t',rfl⟩:=ry;exact ne_str (bU I q (congrArg not BM))
  | _=>exact absurd (show false=true from hs) Bool.false_ne_true
 |byt i=>
  obtain⟨t,rfl⟩:=rx
  cases y with
  | byt j=>obtain⟨t',rfl⟩:=ry;exact PySem.W.ne_bytes (bU I q (congrArg not Bg))
  | _=>exact absurd (show false=true from hs) Bool.false_ne_true
 | _=>cases y<;>exact absurd (show false=true from hs) Bool.false_ne_true
theorem Dj:OpR X (compareOp .Is) (fun x y H Q=>y=.non/\Q (.bl (decide (x=.non))) H):=by
 intro pins s σ H x y v u Q I rx ry h
 obtain⟨rfl,q⟩:=h
 cases ry
 refine is_none_gen (bU I q ?_)
 cases x<;>first
  | (cases rx;rfl)
  | (obtain⟨t,rfl⟩:=rx;rfl)
theorem Bs:OpR X (compareOp .IsNot) (fun x y H Q=>y=.non/\Q (.bl (!decide (x=.non))) H):=by
 intro pins s σ H x y v u Q I rx ry h
 obtain⟨rfl,q⟩:=h
 cases ry
 refine isnot_none_gen (bU I q ?_)
 cases x<;>first
  | (cases rx;rfl)
  | (obtain⟨t,rfl⟩:=rx;rfl)
theorem OpR.or(h:OpR X f r)(h':OpR X f r'):OpR X f (fun x y H Q=>r x y H Q\/r' x y H Q):=by
 intro pins s σ H x y v u Q I rx ry q
 rcases q with q | q
 ·exact h pins s σ H x y v u Q I rx ry q
 ·exact h' pins s σ H x y v u Q I rx ry q
theorem sJ(b:Expr){op:CmpOp}(h:op≠.In:=by decide)(h2:op≠.NotIn:=by decide):behindInMarks op b=false:=by
 have e1:(op == CmpOp.In)=false:=by cases op<;>first | rfl | exact absurd rfl h
 have e2:(op == CmpOp.NotIn)=false:=by cases op<;>first | rfl | exact absurd rfl h2
 cases b<;>simp[behindInMarks,e1,e2]
theorem pj{op:CmpOp}{r:R2}(ho:OpR X (compareOp op) r)(ha:PE X a ta)(hb:PE X b tb)(hm:behindInMarks op b=false):PE X (.Compare a [op] [b] pos) (tOp r ta tb):=by
 intro pins s σ H Q I h
 exact wpAny_Compare1 (Ad ha hb I h fun v u s2 x y H2 I2 rx ry q=>ho pins s2 σ H2 x y v u Q I2 rx ry q) hm
def AJ(t:TE):TT:=fun σ H Q=>t σ H fun x H'=>∃ k,x=.bl k/\Q k H'
theorem l9{op:CmpOp}{r:R2}(ho:OpR X (compareOp op) r)(ha:PE X a ta)(hb:PE X b tb)(hm:behindInMarks op b=false):PT X (.Compare a [op] [b] pos) (AJ (tOp r ta tb)):=by
 intro pins s σ H Q I h
 refine wpAny_isTrue_Compare1 (thn (ha pins s σ H _ I h) fun v s1 ⟨x,H1,I1,r1,q1⟩=>thn (hb pins s1 σ H1 _ I1 q1) fun u s2 ⟨y,H2,I2,r2,q2⟩ =>
  thn (ho pins s2 σ H2 x y v u _ I2 r1 r2 q2) fun c s3 ⟨z,H3,I3,r3,k,e,q3⟩=>?_) hm
 subst e
 cases r3
 exact wpAny_truthy_bool ⟨H3,I3,q3⟩
def qP(r r':R2)(ta tb tc:TE):TE:=fun σ H Q=>ta σ H fun x H1=>tb σ H1 fun y H2=>r x y H2 fun z H3=>∃ k,z=.bl k /\
 (if k=true then tc σ H3 fun w' H4=>r' y w' H4 Q else Q (.bl false) H3)
theorem yr{op op':CmpOp}{r r':R2}(ho:OpR X (compareOp op) r)(ho':OpR X (compareOp op') r')(ha:PE X a ta)(hb:PE X b tb)(hc:PE X c tc)
 (hm:lastMarks [op,op'] [b,c]=false:=by with_unfolding_all rfl):PE X (.Compare a [op,op'] [b,c] pos) (qP r r' ta tb tc):=by
 intro pins s σ H Q I h
 refine Compare_chain (thn (ha pins s σ H _ I h) fun v s1 ⟨x,H1,I1,r1,q1⟩=>chain_link (thn (hb pins s1 σ H1 _ I1 q1) fun u s2 ⟨y,H2,I2,r2,q2⟩ =>
  thn (ho pins s2 σ H2 x y v u _ I2 r1 r2 q2) fun d s3 ⟨z,H3,I3,r3,k,e,q3⟩=>?_)) hm
 subst e
 cases r3
 refine wpAny_truthy_bool ?_
 cases k with
 | false=>exact ite_ff ⟨.bl false,H3,I3,rfl,q3⟩
 | true=>exact ite_tt (chain_last (thn (hc pins s3 σ H3 _ I3 q3) fun w' s4 ⟨z',H4,I4,r4,q4⟩=>ho' pins s4 σ H4 y z' u w' Q I4 r2 r4 q4))
theorem yX{op op':CmpOp}{r r':R2}(ho:OpR X (compareOp op) r)(ho':OpR X (compareOp op') r')(ha:PE X a ta)(hb:PE X b tb)(hc:PE X c tc)
 (hm:lastMarks [op,op'] [b,c]=false:=by with_unfolding_all rfl):PT X (.Compare a [op,op'] [b,c] pos) (AJ (qP r r' ta tb tc)):=by
 intro pins s σ H Q I h
 refine isTrue_chain (thn (ha pins s σ H _ I h) fun v s1 ⟨x,H1,I1,r1,q1⟩=>test_link (thn (hb pins s1 σ H1 _ I1 q1) fun u s2 ⟨y,H2,I2,r2,q2⟩ =>
  thn (ho pins s2 σ H2 x y v u _ I2 r1 r2 q2) fun d s3 ⟨z,H3,I3,r3,k,e,q3⟩=>?_)) hm
 subst e
 cases r3
 refine wpAny_truthy_bool ?_
 cases k with
 |false=>
  obtain⟨k',e',q'⟩:=q3
  cases e'
  exact ite_ff ⟨H3,I3,q'⟩
 |true=>
  refine ite_tt (test_last (thn (hc pins s3 σ H3 _ I3 q3) fun w' s4 ⟨z',H4,I4,r4,q4⟩=>thn (ho' pins s4 σ H4 y z' u w' _ I4 r2 r4 q4) fun d' s5 ⟨z2,H5,I5,r5,k2,e2,q5⟩=>?_))
  subst e2
  cases r5
  exact wpAny_truthy_bool ⟨H5,I5,q5⟩
def vd(K:PySem.W.Frag)(x:V)(H:Hp)(k:Bool):Prop :=
 match x with
 | .non=>k=false
 | .bl b=>k=b
 | .int i=>k=(i != 0)
 | .str y=>y.length<=sizeLine/\k=((y.length:Int) != 0)
 | .byt y=>y.size<=sizeLine/\k=((y.size:Int) != 0)
 | .ref p=>(∃ xs,SqL K H p xs/\k=!xs.isEmpty)\/(∃ xs,SqT K H p xs/\k=!xs.isEmpty)\/∃ kvs,H p=some (.dK kvs)/\k=!kvs.isEmpty
 | _=>False
theorem uO{κ:Type}{kvs:List (κ × V)}{vs:List (κ × Value)}(r:KV kvs vs):(!vs.isEmpty)=!kvs.isEmpty:=by
 cases r<;>rfl
theorem nj(r:Vals xs its):(!its.toArray.isEmpty)=!xs.isEmpty:=by
 cases r<;>simp
theorem iU:(sizeLine:Nat)<2 ^ 63:=by rw[sizeLine_eq];decide
theorem xj:HE X (fun x H Q=>∃ k,vd X.K x H k/\Q k H):=by
 intro pins s σ H x v Q I rx h
 obtain⟨k,e,q⟩:=h
 have hl:=iU
 have hs:sizeLine=16777216:=sizeLine_eq
 cases x with
 |non=>
  cases rx
  have e':k=false:=e
  subst e'
  exact truthy_none ⟨H,I,q⟩
 |bl b=>
  cases rx
  have e':k=b:=e
  subst e'
  exact wpAny_truthy_bool ⟨H,I,q⟩
 |int i=>
  obtain⟨t,rfl⟩:=rx
  have e':k=(i != 0):=e
  subst e'
  exact PySem.P.truthy_int ⟨H,I,q⟩
 |str y=>
  obtain⟨t,rfl⟩:=rx
  obtain⟨hy,e'⟩:y.length<=sizeLine/\k=((y.length:Int) != 0):=e
  subst e'
  exact PySem.P.truthy_str (by lia) ⟨H,I.tok _,q⟩
 |byt y=>
  obtain⟨t,rfl⟩:=rx
  obtain⟨hy,e'⟩:y.size<=sizeLine/\k=((y.size:Int) != 0):=e
  subst e'
  exact PySem.W.truthy_bytes (by lia) ⟨H,I.tok _,q⟩
 |ref p=>
  cases rx
  have e':(∃ xs,SqL X.K H p xs/\k=!xs.isEmpty)\/(∃ xs,SqT X.K H p xs/\k=!xs.isEmpty)\/∃ kvs,H p=some (.dK kvs)/\k=!kvs.isEmpty:=e
  rcases e' with⟨xs,hx,e'⟩ | ⟨xs,hx,e'⟩ | ⟨kvs,hx,e'⟩
  ·subst e'
   obtain⟨its,r,pl,hz⟩:=I.list hx
   have hlen:=r.length
   exact wpAny_truthy_list pl.isList (by simp only[List.size_toArray];lia) ⟨H,I.tok _,by rw[nj r];exact q⟩
  ·subst e'
   obtain⟨its,r,pl,hz⟩:=I.tuple hx
   have hlen:=r.length
   exact truthy_tuple pl (by simp only[List.size_toArray];lia) ⟨H,I.tok _,by rw[nj r];exact q⟩
  ·subst e'
   obtain⟨hz,hS,vs,r,m⟩:kvs.length<=sizeLine/\(p == sysModules)=false/\∃ vs,KV kvs vs/\s.heap.DictOf (bZ X.prog X.w) p vs:=I.hok p _ hx
   have hlen:kvs.length=vs.length:=Paired.length r
   exact wpAny_truthy_dict hS m (by lia) ⟨H,I.tok _,by rw[uO r];exact q⟩
 | _=>exact(show False from e).elim
theorem zG(ha:PE X a ta)(he:∀ whole,isTrue a X.env whole=(do let v <- whole;standAt a.pos;holding [v] (truthy v))) :
  PT X a (fun σ H Q=>ta σ H fun x H'=>∃ k,vd X.K x H' k/\Q k H'):=by
 intro pins s σ H Q I h
 exact isTrue_plain (thn (ha pins s σ H _ I h) fun v s1 ⟨x,H1,I1,r1,q1⟩=>xj pins s1 σ H1 x v Q I1 r1 q1) (he _)
theorem ve:OpR X (binaryOp .Add) (fun x y H Q=>∃ i j,x=.str i/\y=.str j/\i.length+j.length<=sizeLine/\Q (.str (i++j)) H):=by
 intro pins s σ H x y v u Q I rx ry h
 obtain⟨i,j,rfl,rfl,hz,q⟩:=h
 obtain⟨t,rfl⟩:=rx
 obtain⟨t',rfl⟩:=ry
 exact add_str (fun t' tk=>⟨.str (i++j),H,I.tok _,⟨_,rfl⟩,q⟩) hz
theorem vals1{x:V}{us:List Value}(r:Vals [x] us):∃ u,us=[u]/\RelV x u:=by
 cases r with
 | cons r1 r2=>cases r2;exact⟨_,rfl,r1⟩
theorem vals2{x y:V}{us:List Value}(r:Vals [x,y] us):∃ u w',us=[u,w']/\RelV x u/\RelV y w':=by
 cases r with
 |cons r1 r2=>
  cases r2 with
  | cons r3 r4=>cases r4;exact⟨_,_,rfl,r1,r3⟩
theorem xZ(hc:X.calm=true):bJ X (.builtin "max") (fun xs H Q=>∃ i j,xs=[.int i,.int j]/\Q (.int (if j > i then j else i)) H):=by
 intro pins s σ H xs us Q I r h
 obtain⟨i,j,rfl,q⟩:=h
 obtain⟨u,w',rfl,⟨t,rfl⟩,⟨t',rfl⟩⟩:=vals2 r
 refine max_two_ints (I.ok.hd hc) fun h' tk k=>⟨_,H,I.kept k,?_,q⟩
 by_cases hj:j > i
 ·rw[if_pos hj,if_pos hj];exact⟨_,rfl⟩
 ·rw[if_neg hj,if_neg hj];exact⟨_,rfl⟩
theorem vY:bJ X (.type "int") (fun xs H Q=>(∃ i,xs=[.int i]/\Q (.int i) H)\/∃ k,xs=[.bl k]/\Q (.int (if k then 1 else 0)) H):=by
 intro pins s σ H xs us Q I r h
 rcases h with⟨i,rfl,q⟩ | ⟨k,rfl,q⟩
 ·obtain⟨u,rfl,t,rfl⟩:=vals1 r
  exact call_int_int ⟨.int i,H,I,⟨_,rfl⟩,q⟩
 ·obtain⟨u,rfl,r1⟩:=vals1 r
  cases r1
  exact call_int_bool ⟨.int (if k then 1 else 0),H,I.tok _,⟨_,rfl⟩,q⟩
def Fi(K:PySem.W.Frag)(x:V)(H:Hp)(n:Nat):Prop :=
 match x with
 | .str y=>y.length<=sizeLine/\n=y.length
 | .byt y=>y.size<=sizeLine/\n=y.size
 | .ref p=>(∃ xs,SqL K H p xs/\n=xs.length)\/∃ xs,SqT K H p xs/\n=xs.length
 | _=>False
theorem zR:bJ X (.builtin "len") (fun xs H Q=>∃ x n,xs=[x]/\Fi X.K x H n/\Q (.int n) H):=by
 intro pins s σ H xs us Q I r h
 obtain⟨x,n,rfl,e,q⟩:=h
 obtain⟨u,rfl,rx⟩:=vals1 r
 have hl:=iU
 have hs:sizeLine=16777216:=sizeLine_eq
 cases x with
 |str y=>
  obtain⟨t,rfl⟩:=rx
  obtain⟨hy,e'⟩:y.length<=sizeLine/\n=y.length:=e
  subst e'
  exact len_str (by lia) ⟨.int _,H,I.tok _,⟨_,rfl⟩,q⟩
 |byt y=>
  obtain⟨t,rfl⟩:=rx
  obtain⟨hy,e'⟩:y.size<=sizeLine/\n=y.size:=e
  subst e'
  exact PySem.W.len_bytes (by lia) ⟨.int _,H,I.tok _,⟨_,rfl⟩,q⟩
 |ref p=>
  cases rx
  have e':(∃ xs,SqL X.K H p xs/\n=xs.length)\/∃ xs,SqT X.K H p xs/\n=xs.length:=e
  rcases e' with⟨xs,hx,e'⟩ | ⟨xs,hx,e'⟩
  ·subst e'
   obtain⟨its,r',pl,hz⟩:=I.list hx
   have hlen:=r'.length
   exact Calls.call_len_list pl.isList (by simp only[List.size_toArray];lia) ⟨.int xs.length,H,I.tok _,⟨_,by simp only[List.size_toArray];rw[hlen]⟩,q⟩
  ·subst e'
   obtain⟨its,r',pl,hz⟩:=I.tuple hx
   have hlen:=r'.length
   exact len_tuple pl (by simp only[List.size_toArray];lia) ⟨.int xs.length,H,I.tok _,⟨_,by simp only[List.size_toArray];rw[hlen]⟩,q⟩
 | _=>exact(show False from e).elim
end
structure zj(h:Heap)(x dx C:Addr)(mA:Str->Option Value):Prop where
 obj:h.get? x=some (PySem.W.instObj C dx)
 ns:h.Ns1 dx mA
 ne:dx≠x
theorem xk{h:Heap}(n:h.Ns1 dx mA):∃ od,h.get? dx=some od/\∀ name,PySem.W.lookIn name od=some (mA name):=by
 obtain⟨o,es,ep,ho,hd,hk,_,hm⟩:=n
 refine⟨o,ho,fun name=>?_⟩
 have e:=hm name
 unfold nsFind findBy at e
 rw[<-Array.find?_toList]at e
 unfold PySem.W.lookIn
 rw[hd]
 dsimp only
 split
 ·rename_i y q
  rw[q]at e
  exact congrArg some e
 ·rename_i q
  rw[q]at e
  have a:es.toList.any (·.refKey)=false:=by
   rw[List.any_eq_false]
   intro y hy
   obtain⟨z,t,hkey⟩:=hk y (Array.mem_toList_iff.mp hy)
   simp[DictEntry.refKey,hkey]
  have a':¬ es.toList.any (·.refKey)=true:=by rw[a];exact Bool.false_ne_true
  rw[if_neg a']
  exact congrArg some e
theorem zj.look(I:zj h x dx C mA):∃ od,PySem.W.InstAt h x (PySem.W.instObj C dx) C (some od)/\∀ name,PySem.W.lookIn name od=some (mA name) :=
 let ⟨od,ho,hl⟩:=xk I.ns
 ⟨od,⟨I.obj,rfl,rfl,ho⟩,hl⟩
section
variable{prog:Program}{w:World}{A:Around}{E:Value->Shared->Prop}{s:Shared}{K:PySem.W.Frag}{x dx C f:Addr}{mA:Str->Option Value}{name:Str}{v:Value}
end
theorem gW.some_of{v:V}{o:Option Value}(r:gW (some v) o):∃ u,o=some u/\RelV v u:=by
 cases o with
 | none=>exact(show False from r).elim
 | some u=>exact⟨u,rfl,r⟩
section
variable{P:Program}{w:World}{H H':Hp}{h h':Heap}{a C dx:Addr}{fs fs':List (Str × V)}
theorem AW(hok:HOk P w H h)(e:H a=some (.ins C dx fs)):∃ mA,zj h a dx C mA/\(∀ f,gW (fs.lookup f) (mA f))/\PySem.Within mA (fs.map (·.1))/\fs.length<=1000/\H dx=some (.own a):=by
 obtain⟨d,z,ne,ob,mA,n,r,q⟩:=(show bB P w H h a (.ins C dx fs)from hok a _ e)
 exact⟨mA,⟨ob,n,ne⟩,r,q,z,d⟩
end
structure Cls(K:PySem.W.Frag)(C:Addr):Prop where
 pg:PySem.W.plainGet K C Str.empty=true
 hd:PySem.W.hasDictIn K C=true
 po:PySem.W.plainOver K C=true
 sa:PySem.W.findIn K (.ref C) "__setattr__" = some (some (.builtin "object.__setattr__"))
theorem Cls.get{K:PySem.W.Frag}(c:Cls K C)(f:Str):PySem.W.plainGet K C f=true:=c.pg
section
variable{X:Cx}{pins:List (Addr × Obj)}{σ:St}{H:Hp}{s:Shared}{a C dx:Addr}{fs:List (Str × V)}{f:Str}{v:V}{A:Around}{E:Value->Shared->Prop}
end
section
variable{X:Cx}{o e value:Expr}{f:Str}{pos pos' tpos:Pos}{ta tv:TE}
end
section
variable{X:Cx}{pins:List (Addr × Obj)}{σ:St}{H:Hp}{s:Shared}{A:Around}{E:Value->Shared->Prop}{Q:Value->Shared->Prop}{c:Value}{b:Bool}
inductive eP (K:PySem.W.Frag) (H:Hp):V->Value->Prop where
 | non:eP K H .non (.type "NoneType")
 | bl (x:Bool):eP K H (.bl x) (.type "bool")
 | int (i:Int):eP K H (.int i) (.type "int")
 | str (x:Str):eP K H (.str x) (.type "str")
 | flt (x:UInt64):eP K H (.flt x) (.type "float")
 | lst {a:Addr} {xs:List V} (e:H a=some (.lst xs)):eP K H (.ref a) (.type "list")
 | frz {a:Addr} {o:Obj} {xs:List V} (e:H a=some (.frz o (.lst xs))):eP K H (.ref a) (.type "list")
 | tup {a:Addr} {xs:List V} (e:H a=some (.tup xs)):eP K H (.ref a) (.type "tuple")
 | dK {a:Addr} {kvs:List (Key × V)} (e:H a=some (.dK kvs)):eP K H (.ref a) (.type "dict")
 | dT {a:Addr} {kvs:List (List Key × V)} (e:H a=some (.dT kvs)):eP K H (.ref a) (.type "dict")
 | ins {a C dx:Addr} {fs:List (Str × V)} (e:H a=some (.ins C dx fs)) (cl:Cls K C) (ha:PySem.W.findIn K (.ref C) "__class__" = some (some (.builtin "object.__class__")))
   (hn:PySem.W.specialIn K (.builtin "object.__class__") "__get__" = some (some (.builtin "getset_descriptor.__get__"))) (htk:PySem.W.takesIn K (.builtin "object.__class__")=some true)
   (hm:PySem.W.mroIn K C (.type "object")=some true):eP K H (.ref a) (.ref C)
theorem xH{u t:Value}(I:Inv X pins σ H s)(rx:RelV x u)(ty:eP X.K H x t)(e:PySem.W.kitOne X.K t c=some b)(h:∀ tk,Q (.bool b) { s with toks:=tk }) :
  wpAny (model X.prog X.w) A (call (.builtin "isinstance") [u,c]) Q E s:=by
 cases ty with
 | non=>cases(show u=Value.none from rx);exact PySem.W.kia_one PySem.W.kitx_none I.kIn True.intro e (fun z=>nomatch z) h
 | bl y=>cases(show u=Value.bool y from rx);exact PySem.W.kia_one PySem.W.kitx_bool I.kIn True.intro e (fun z=>nomatch z) h
 | int i=>obtain⟨t,q⟩:=(show ∃ t,u=Value.int i t from rx);cases q;exact PySem.W.kia_one PySem.W.kitx_int I.kIn True.intro e (fun z=>nomatch z) h
 | str y=>obtain⟨t,q⟩:=(show ∃ t,u=Value.str y t from rx);cases q;exact PySem.W.kia_one PySem.W.kitx_str I.kIn True.intro e (fun z=>nomatch z) h
 | flt y=>obtain⟨t,q⟩:=(show ∃ t,u=Value.float y t from rx);cases q;exact PySem.W.kia_one PySem.W.kitx_float I.kIn True.intro e (fun z=>nomatch z) h
 |@lst a xs ea=>
  cases(show u=Value.ref a from rx)
  obtain⟨_,_,n,_,h1⟩:=(show bB X.prog X.w H s.heap a (.lst xs)from I.hok a _ ea)
  exact PySem.W.kia_one PySem.W.kitx_list I.kIn ⟨_,h1,rfl⟩ e (fun z=>nomatch z) h
 |@frz a ob xs ea=>
  cases(show u=Value.ref a from rx)
  obtain⟨_,_,_,n,_,h1⟩:=(show bB X.prog X.w H s.heap a (.frz ob (.lst xs))from I.hok a _ ea)
  exact PySem.W.kia_one PySem.W.kitx_list I.kIn ⟨_,h1,rfl⟩ e (fun z=>nomatch z) h
 |@tup a xs ea=>
  cases(show u=Value.ref a from rx)
  obtain⟨_,_,_,p⟩:=(show bB X.prog X.w H s.heap a (.tup xs)from I.hok a _ ea)
  obtain⟨o,h1,h2,_⟩:=p
  exact PySem.W.kia_one PySem.W.kitx_tuple I.kIn ⟨o,h1,h2⟩ e (fun z=>nomatch z) h
 |@dK a kvs ea=>
  cases(show u=Value.ref a from rx)
  obtain⟨_,_,vs,_,p⟩:=(show bB X.prog X.w H s.heap a (.dK kvs)from I.hok a _ ea)
  obtain⟨o,es,ep,h1,h2,_⟩:=p
  exact PySem.W.kia_one PySem.W.kitx_dict I.kIn ⟨o,h1,h2.1⟩ e (fun z=>nomatch z) h
 |@dT a kvs ea=>
  cases(show u=Value.ref a from rx)
  obtain⟨_,_,xs,_,o,es,ep,h1,h2,_⟩:=(show bB X.prog X.w H s.heap a (.dT kvs)from I.hok a _ ea)
  exact PySem.W.kia_one PySem.W.kitx_dict I.kIn ⟨o,h1,h2.1⟩ e (fun z=>nomatch z) h
 |@ins a C dx fs ea cl ha hn htk hm=>
  cases(show u=Value.ref a from rx)
  obtain⟨mA,O,_⟩:=AW I.hok ea
  obtain⟨od,J,_⟩:=O.look
  exact PySem.W.kia_one (PySem.W.kitx_own (cl.get _) cl.hd ha hn htk hm) I.kIn J e (fun z=>nomatch z) h
end
structure eu(k:Nat)(A:Around):Prop where
 hd:A.handled=none
 dp:A.depth+3*k+5<recursionLimit
 un:A.units+16*k+200<cLine
theorem eu.deeper{k:Nat}{A:Around}(r:eu (k+1) A)(env:Env):eu k (A.deeper env) :=
 ⟨r.hd,by have:=r.dp;show A.depth+1+3*k+5<_;lia,by have:=r.un;show A.units+3+16*k+200<_;lia⟩
theorem eu.depth{k:Nat}(r:eu k A):A.depth<recursionLimit:=by have:=r.dp;lia
def vw:TA:=fun _ H Q=>Q [] H
def mO(ta:TE)(tr:TA):TA:=fun σ H Q=>ta σ H fun x H1=>tr σ H1 fun xs H2=>Q (x::xs) H2
section
variable{X:Cx}{e:Expr}{es:List Expr}{te:TE}{t:TA}{pos:Pos}
theorem dW:PA X [] vw:=fun _ _ _ _ H Q I h=>Calls.spliced_nil ⟨[],H,I,.nil,h⟩
theorem bY(ha:PE X e te)(hr:PA X es t)(hs:starEach (e::es) X.env=(false,eval e X.env)::starEach es X.env:=by rfl):PA X (e::es) (mO te t):=by
 intro pos pins s σ H Q I h
 rw[hs]
 show wpAny _ _ (spliced ((false,eval e X.env)::backTo pos (starEach es X.env))) _ _ s
 refine Calls.spliced_cons (thn (ha pins s σ H _ I h) fun u s1 ⟨x,H1,I1,r1,q1⟩=>?_)
 exact thn (hr pos pins s1 σ H1 _ I1 q1) fun us s2 ⟨xs,H2,I2,r2,q2⟩=>⟨x::xs,H2,I2,.cons r1 r2,q2⟩
def Hv(t:TA):TE:=fun σ H Q=>t σ H fun xs H1=>xs.length<=sizeLine/\∀ p,H1 p=none->Q (.ref p) (upd H1 p (.tup xs))
def Hl(t:TA):TE:=fun σ H Q=>t σ H fun xs H1=>xs.length<=sizeLine/\∀ p,H1 p=none->Q (.ref p) (upd H1 p (.lst xs))
theorem Dw{x1}(h:PA X es t):PE X (.Tuple es x1 pos) (Hv t):=by
 intro pins s σ H Q I hq
 refine wpAny_Tuple_spliced (thn (h pos pins s σ H _ I hq) fun us s1 ⟨xs,H1,I1,r,z,q⟩=>⟨by rw[<-r.length];exact z,?_⟩)
 have hf:H1 s1.heap.objs.size=none:=I1.hok.fresh (Nat.le_refl _)
 refine⟨.ref s1.heap.objs.size,upd H1 s1.heap.objs.size (.tup xs),I1.laid (t':=s1.toks) (fun b u e=>Heap.get?_push_of_some _ e) (Nat.le_refl _) ?_,rfl,q _ hf⟩
 exact⟨z,us,r,⟨_,Heap.get?_push_size _ rfl,rfl,_,rfl⟩⟩
theorem Ee(h:PA X es t):PE X (.List es pos) (Hl t):=by
 intro pins s σ H Q I hq
 refine wpAny_List_spliced (thn (h pos pins s σ H _ I hq) fun us s1 ⟨xs,H1,I1,r,z,q⟩=>⟨by rw[<-r.length];exact z,?_⟩)
 have hf:H1 s1.heap.objs.size=none:=I1.hok.fresh (Nat.le_refl _)
 refine⟨.ref s1.heap.objs.size,upd H1 s1.heap.objs.size (.lst xs),I1.laid (t':=s1.toks) (fun b u e=>Heap.get?_push_of_some _ e) (Nat.le_refl _) ?_,rfl,q _ hf⟩
 exact⟨z,us,0,r,Heap.get?_push_size _ rfl⟩
end
abbrev Sp:=List V->Hp->VK->XK->Prop
abbrev CXT:=List Env->Hp->Shared->XK->Value->Shared->Prop
structure uZ(P:Program)(w:World)(K:PySem.W.Frag)(mg:Str->Option Value)(base:Heap)(A:Around)(outer:List Env)(s:Shared)(H:Hp):Prop where
 frames:A.frames=some outer
 mod:Mod K mg base
 bs:∀ b o,base.get? b=some o->s.heap.get? b=some o/\H b=none
 bsz:base.objs.size<=s.heap.objs.size
 gY:s.heap.FunFrames base outer
 frf:∀ b∈frs outer,H b=none
 hok:HOk P w H s.heap
 bare:AllBare s.gens
def CE(outer:List Env)(P:Program)(w:World)(H:Hp)(s:Shared)(Q:VK)(u:Value)(s':Shared):Prop :=
 ∃ v H',s'.os=s.os/\AllBare s'.gens/\Un (frs outer) [] H H' s.heap s'.heap/\HOk P w H' s'.heap/\RelV v u/\Q v H'
def CR(CX:CXT)(outer:List Env)(P:Program)(w:World)(H:Hp)(s:Shared)(Q:VK)(E:XK)(r:Result)(s':Shared):Prop :=
 match r with
 | .ok (.ret u)=>CE outer P w H s Q u s'
 | .ok _=>False
 | .error e=>CX outer H s E e s'
structure i9(P:Program)(w:World)(K:PySem.W.Frag)(mg:Str->Option Value)(base:Heap)(CX:CXT)(k:Nat)(f:Addr)(fd:FuncData)(ps:List Str)(sp:Sp):Prop where
 len:∀ vs H Q E,sp vs H Q E->vs.length=ps.length
 run:∀ (A:Around) (outer:List Env) (s:Shared) (H:Hp) (args:Args) (us:List Value) (vs:List V) (Q:VK) (E:XK),eu k A->uZ P w K mg base A outer s H->BindsTo s fd args (ps.zip us)->Vals vs us->sp vs H Q E ->
  codeAny (model P w) A (.call (.ref f) args) (CR CX outer P w H s Q E) s
section
variable{X:Cx}{pins:List (Addr × Obj)}{σ:St}{H:Hp}{s s':Shared}
theorem Inv.He(I:Inv X pins σ H s):uZ X.prog X.w X.K X.mg X.base X.A X.stack s H :=
 ⟨I.ok.frames,I.ok.mod,I.bs,Nat.le_trans I.ok.bsz I.sz,I.stack,I.t8,I.hok,I.bare⟩
theorem Inv.after{Q:VK}{u:Value}(I:Inv X pins σ H s)(h:CE X.stack X.prog X.w H s Q u s'):EP X pins σ Q u s':=by
 obtain⟨v,H',os,bare,un,hok,r,q⟩:=h
 obtain⟨hh,g,d,t,os'⟩:=s'
 obtain rfl:os'=s.os:=os
 exact⟨v,H',I.call (h':=hh) (g':=g) (d':=d) (t':=t) (ch:=[]) un hok bare (fun b z=>absurd z (by simp)),r,q⟩
end
def qg(sp:Sp)(dvs:List V)(E:XK)(t:TA):TE:=fun σ H Q=>t σ H fun vs H1=>sp (vs++dvs) H1 Q E
def Binds(K:PySem.W.Frag)(fd:FuncData)(ps:List Str)(ds:List Value):Prop :=
 ∀ (s:Shared) (us:List Value),K.In s.heap->(us++ds).length=ps.length->BindsTo s fd ⟨us,[]⟩ (ps.zip (us++ds))
theorem Binds.all{K:PySem.W.Frag}{fd:FuncData}{ps:List Str}(h:∀ us:List Value,us.length=ps.length->bindArgs fd ⟨us,[]⟩=pure (ps.zip us)):Binds K fd ps []:=fun s us _ hl=>by
 rw[List.append_nil]at hl ⊢
 exact .of_eq (h us hl)
def Passes(CX:CXT)(X:Cx)(E:XK):Prop:=∀ (pins:List (Addr × Obj)) (σ:St) (H:Hp) (s:Shared) (e:Value) (s':Shared),Inv X pins σ H s->CX X.stack H s E e s'->X.xe e s'
section
variable{X:Cx}{CX:CXT}{k:Nat}{f C:Addr}{fd:FuncData}{ps:List Str}{sp:Sp}{dvs:List V}{ds:List Value}{E:XK}{x m:Str}{p pos apos:Pos}{e o:Expr}{es:List Expr}{ta:TE}{t:TA}
theorem DD{pins:List (Addr × Obj)}{σ:St}{H:Hp}{s:Shared}{Q:VK}{us:List Value}{vs:List V}(F:i9 X.prog X.w X.K X.mg X.base CX k f fd ps sp)(hr:eu k X.A)(hb:Binds X.K fd ps ds)(hd:Vals dvs ds)(hx:Passes CX X E)
 (I:Inv X pins σ H s)(r:Vals vs us)(h:sp (vs++dvs) H Q E):wpAny (model X.prog X.w) X.A (call (.ref f) us) (EP X pins σ Q) X.xe s:=by
 have r2:Vals (vs++dvs) (us++ds):=r.append hd
 have hl:(us++ds).length=ps.length:=by rw[<-r2.length];exact F.len _ _ _ _ h
 refine wpAny_call (codeAny_mono (F.run X.A X.stack s H ⟨us,[]⟩ (us++ds) (vs++dvs) Q E hr I.He (hb s us I.kIn hl) r2 h) fun r s' hq=>?_)
 cases r with
 | error e=>exact hx pins σ H s e s' I hq
 |ok fl=>
  cases fl with
  | ret u=>exact I.after hq
  | next=>exact False.elim hq
  | brk=>exact False.elim hq
  | cont=>exact False.elim hq
theorem tL(F:i9 X.prog X.w X.K X.mg X.base CX k f fd ps sp)(hr:eu k X.A)(hg:Gl X x)(hm:X.mg x=some (.ref f))(hk:PySem.W.keepIn X.K (.ref f)=true)(hb:Binds X.K fd ps ds)(hd:Vals dvs ds)(hx:Passes CX X E)
 (ha:PA X (e::es) t)(hdb:(x == ("__debug__" : Str))=false:=by decide)(he:starEach (e::es) X.env=(false,eval e X.env)::starEach es X.env:=by rfl)(hpl:(backTo pos (starEach es X.env)).any (·.1)=false:=by rfl) :
  PE X (.Call (.Name x p) (e::es) [] pos) (qg sp dvs E t):=by
 intro pins s σ H Q I h
 refine wpAny_Call_Name_kw (tJ I hg hm ?_ hdb)
 refine PySem.W.callWith_K (h₀:=X.base) I.ok.mod.kin hk (thn (ha pos pins s σ H _ I h) fun us s1 ⟨vs,H1,I1,r,q⟩=>⟨I1.kIn,?_⟩) he hpl
 exact DD F hr hb hd hx I1 r q
end
section
variable{X:Cx}{CX:CXT}{k:Nat}{f C:Addr}{fd:FuncData}{ps ks:List Str}{sp:Sp}{E:XK}{x m:Str}{p pos apos kpos:Pos}{e o:Expr}{es:List Expr}{kws:List Keyword}{te ta:TE}{t tk:TA}{nm:Option Str}
variable{g:List Value->List Value->List Value}{gV:List V->List V->List V}
end
structure l6(N P:List Str)(sc:Scope):Prop where
 kind:sc.kind=.function
 co:sc.isCoroutine=false
 gen:sc.isGenerator=false
 nd:N.Nodup
 pre:N.take P.length=P
 par:∀ x∈P,sc.names.lookup x=some .local\/sc.names.lookup x=some .cell
 EI:∀ y∈sc.names,y.2≠.free
theorem pJ{kindOf:Str->Option NameKind}{x:Str}:∀ {binds:List (Str × Value)} {m:Str->Option Value},(∀ v,(x,v)∉binds)->bindL kindOf binds m x=m x
 | [],_,_=>rfl
 | (n,v)::r,m,h=>by
  unfold bindL
  rw[pJ fun w hw=>h w (List.mem_cons_of_mem _ hw)]
  split
  ·have:x≠n:=by rintro rfl;exact h v List.mem_cons_self
   simp[this]
  ·rfl
theorem pS{kindOf:Str->Option NameKind}{x:Str}:∀ {binds:List (Str × Value)} {m:Str->Option Value},(∀ v,(x,v)∉binds)->bindC kindOf binds m x=m x
 | [],_,_=>rfl
 | (n,v)::r,m,h=>by
  unfold bindC
  rw[pS fun w hw=>h w (List.mem_cons_of_mem _ hw)]
  split
  ·rfl
  ·have:x≠n:=by rintro rfl;exact h v List.mem_cons_self
   simp[this]
theorem pL{kindOf:Str->Option NameKind}{x:Str}{v:Value}:∀ {P:List Str} {vs:List Value} {i:Nat} {m:Str->Option Value},P.Nodup->P[i]?=some x->vs[i]?=some v->kindOf x=some .local ->
  bindL kindOf (P.zip vs) m x=some v
 | [],_,_,_,_,h,_,_=>by simp at h
 | _::_,[],_,_,_,_,h,_=>by simp at h
 | p::P,w::vs,0,m,nd,h1,h2,hk=>by
  simp at h1 h2;subst h1;subst h2
  show bindL kindOf ((p,w)::P.zip vs) m p=_
  unfold bindL
  rw[pJ fun v hv=>(List.nodup_cons.mp nd).1 (List.of_mem_zip hv).1,if_pos hk]
  simp
 | p::P,w::vs,i+1,m,nd,h1,h2,hk=>by
  show bindL kindOf ((p,w)::P.zip vs) m x=_
  unfold bindL
  exact pL (i:=i) (List.nodup_cons.mp nd).2 (by simpa using h1) (by simpa using h2) hk
theorem pO{kindOf:Str->Option NameKind}{x:Str}{v:Value}:∀ {P:List Str} {vs:List Value} {i:Nat} {m:Str->Option Value},P.Nodup->P[i]?=some x->vs[i]?=some v->kindOf x≠some .local ->
  bindC kindOf (P.zip vs) m x=some v
 | [],_,_,_,_,h,_,_=>by simp at h
 | _::_,[],_,_,_,_,h,_=>by simp at h
 | p::P,w::vs,0,m,nd,h1,h2,hk=>by
  simp at h1 h2;subst h1;subst h2
  show bindC kindOf ((p,w)::P.zip vs) m p=_
  unfold bindC
  rw[pS fun v hv=>(List.nodup_cons.mp nd).1 (List.of_mem_zip hv).1,if_neg hk]
  simp
 | p::P,w::vs,i+1,m,nd,h1,h2,hk=>by
  show bindC kindOf ((p,w)::P.zip vs) m x=_
  unfold bindC
  exact pO (i:=i) (List.nodup_cons.mp nd).2 (by simpa using h1) (by simpa using h2) hk
def start(N:List Str)(vs:List V):St:=vs.map some++List.replicate (N.length-vs.length) none
def ma(CX:CXT)(P:Program)(w:World)(K:PySem.W.Frag)(mg:Str->Option Value)(base:Heap)(N:List Str)(qual:Str)(scope:Scope)(f:Addr)(cd:Value)(A:Around)(outer:List Env)(s:Shared)(H:Hp)(E:XK):Cx where
 prog:=P
 w:=w
 K:=K
 mg:=mg
 base:=base
 A:=A.deeper (envOfC qual scope s.heap.objs.size f cd)
 N:=N
 s₀:=s
 H₀:=H
 env:=envOfC qual scope s.heap.objs.size f cd
 outer:=outer
 stack:=envOfC qual scope s.heap.objs.size f cd::outer
 ex:=[]
 calm:=true
 fn:=fun _=>true
 pn:=[]
 xe:=fun e s'=>wpAny (model P w) (A.deeper (envOfC qual scope s.heap.objs.size f cd)) (leaving (envOfC qual scope s.heap.objs.size f cd) e) (fun _ s''=>CX outer H s E e s'') (fun e' s''=>CX outer H s E e' s'') s'
theorem qW{sc:Scope}{n:Nat}{x:Str}(h:sc.names.lookup x=some .cell):∃ c,(cellsFrom n sc.names []).lookup x=some c:=by
 have q:=PySem.W.cellsFrom_some sc.names n [] (.inl h)
 exact Option.isSome_iff_exists.mp q
theorem xM{CX:CXT}{P:Program}{w:World}{K:PySem.W.Frag}{mg:Str->Option Value}{base:Heap}{N ps:List Str}{qual:Str}{scope:Scope}{f:Addr}{cd:Value}{A:Around}{outer:List Env}{s s1:Shared}{H:Hp}{E:XK}{us:List Value}{vs:List V}
 (S:l6 N ps scope)(hd:A.handled=none)(e0:uZ P w K mg base A outer s H)(hl:vs.length=ps.length)(r:Vals vs us)
 (x:InCallC s s.heap.objs.size (bindL (envOfC qual scope s.heap.objs.size f cd).kindOf (ps.zip us) fun _=>none) (cellsFrom (s.heap.objs.size+1) scope.names []) (bindC (envOfC qual scope s.heap.objs.size f cd).kindOf (ps.zip us) fun _=>none) s1) :
  Inv (ma CX P w K mg base N qual scope f cd A outer s H E) [] (start N vs) H s1:=by
 have hpl:ps.length<=N.length:=by have:=congrArg List.length S.pre;rw[List.length_take]at this;lia
 obtain⟨h1,tk,rfl,hk⟩:=x.done
 have noA:∀ b:Addr,b∉(ma CX P w K mg base N qual scope f cd A outer s H E).ex:=fun b z=>absurd (show b∈([]:List Addr)from z) (by simp)
 refine⟨⟨e0.mod,S.kind,rfl,rfl,Nat.le_refl _,fun y z c h1 h2=>?_,fun y hy=>?_,fun y c _ h=>?_,fun _=>hd,Around.frames_deeper e0.frames,.inr ⟨rfl,rfl⟩,fun b z=>absurd z (noA b),e0.bs,e0.bsz,fun b _ _=>noA b,fun b z=>absurd z (noA b),e0.gY,e0.frf⟩,
  rfl,e0.bare,Un.kept hk,⟨_,x.toInCall.ns,fun i y v h1 h2 h3=>?_⟩,fun y c h=>⟨_,x.cell y c h⟩,e0.hok.fresh (Nat.le_refl _),fun y c h=>?_,fun p hp=>absurd (show p∈([]:List (Addr × Obj))from hp) (by simp),e0.hok.kept hk,?_⟩
 ·exact name_of_addr x.apart (PySem.mem_of_lookup h1) (PySem.mem_of_lookup h2)
 ·have hy:scope.names.lookup y=some .cell\/scope.names.lookup y=some .free:=hy
  rcases hy with hy | hy
  ·exact qW hy
  ·exact absurd rfl (S.EI _ (PySem.mem_of_lookup hy))
 ·exact Nat.le_of_lt (x.above y c (PySem.mem_of_lookup h))
 ·have hi:i<vs.length:=by
   unfold start at h2
   by_cases hi:i<vs.length
   ·exact hi
   ·rw[List.getElem?_append_right (by simpa using hi)]at h2
    rw[List.getElem?_replicate]at h2
    split at h2<;>cases h2
  have ha:vs[i]?=some v:=by
   unfold start at h2
   rw[List.getElem?_append_left (by simpa using hi),List.getElem?_map]at h2
   cases e:vs[i]? with
   | none=>rw[e]at h2;cases h2
   | some a=>rw[e]at h2;cases h2;rfl
  obtain⟨u,hu,rv⟩:=r.get ha
  have hp:ps[i]?=some y:=by
   rw[<-S.pre,List.getElem?_take_of_lt (by lia)];exact h1
  have ndP:ps.Nodup:=by rw[<-S.pre];exact S.nd.sublist (List.take_sublist _ _)
  refine⟨u,rv,?_⟩
  rcases S.par y (List.mem_of_getElem? hp)with k | k
  ·exact .inl ⟨k,pL ndP hp hu k⟩
  ·obtain⟨c,e⟩:=qW (n:=s.heap.objs.size+1) k
   refine .inr ⟨.inl k,c,e,?_⟩
   have q:=x.cell y c e
   rw[pO ndP hp hu (by show scope.names.lookup y≠_;rw[k];decide)]at q
   exact q
 ·exact e0.hok.fresh (Nat.le_of_lt (x.above y c (PySem.mem_of_lookup h)))
 ·unfold start
  show _=N.length
  rw[List.length_append,List.length_map,List.length_replicate]
  lia
theorem FG{CX:CXT}{P:Program}{w:World}{K:PySem.W.Frag}{mg:Str->Option Value}{base:Heap}{k:Nat}{f:Addr}{name qual:Str}{params:Arguments}{body:List Stmt}{scope:Scope}{dV kV doc pm cdv ct oc:Value}{an od:Option Addr}
 {osl:Array (Option Value)}{N ps:List Str}{sp:Sp}(lk:K.lookup f=some ⟨oc,od,.func (PySem.W.fnOf name qual params body scope dV kV doc pm an cdv ct),osl⟩)(hcd:PySem.W.codeIn K cdv qual=true)(S:l6 N ps scope)
 (len:∀ vs H Q E,sp vs H Q E->vs.length=ps.length)
 (hbody:∀ (A:Around) (outer:List Env) (s:Shared) (H:Hp) (vs:List V) (Q:VK) (E:XK),eu k (A.deeper (envOfC qual scope s.heap.objs.size f cdv))->sp vs H Q E ->
   ∃ t,PSs (ma CX P w K mg base N qual scope f cdv A outer s H E) body t/\t { nx:=fun _ H'=>Q .non H',rt:=Q } (start N vs) H) :
  i9 P w K mg base CX (k+1) f (PySem.W.fnOf name qual params body scope dV kV doc pm an cdv ct) ps sp:=by
 refine⟨len,fun A outer s H args us vs Q E hr e0 hb r hsp=>?_⟩
 have hl:=len _ _ _ _ hsp
 have KX:K.In s.heap:=e0.mod.kin.keeps fun b o e=>(e0.bs b o e).1
 have lim:s.heap.NoLimit:=e0.mod.nolimit.keeps fun b o e=>(e0.bs b o e).1
 have hkind:∀ y∈ps.zip us,scope.names.lookup y.1=some .local\/(scope.names.lookup y.1=some .cell/\((cellsFrom (s.heap.objs.size+1) scope.names []).lookup y.1).isSome=true):=fun⟨n,v⟩ hy=>by
  rcases S.par n (List.of_mem_zip hy).1 with q | q
  ·exact .inl q
  ·exact .inr ⟨q,PySem.W.cellsFrom_some _ _ _ (.inl q)⟩
 refine codeAny_call_function hr.depth (KX _ _ lk) rfl S.co S.gen rfl (PySem.W.codeRec_of KX hcd) (hb _ _ _ _ ?_)
 refine wpAny_newFunctionEnv_cells S.kind hkind fun env he s1 x=>?_
 subst he
 refine⟨lim.keeps x.toInCall.keep,codeAny_func ?_⟩
 obtain⟨t,ht,hq⟩:=hbody A outer s H vs Q E (hr.deeper _) hsp
 have I:Inv (ma CX P w K mg base N qual scope f cdv A outer s H E) [] (start N vs) H s1:=xM S hr.hd e0 hl r x
 refine wpAny_mono (ht [] s1 (start N vs) H _ I hq) (fun fl s' hs=>?_) fun e s' hs=>hs
 have fin:∀ {σ':St} {H':Hp} {v:V} {u:Value},Inv (ma CX P w K mg base N qual scope f cdv A outer s H E) [] σ' H' s'->RelV v u->Q v H'->CE outer P w H s Q u s' :=
  fun {σ' H' v u} J rv q=>⟨v,H',J.os,J.bare,J.base,J.hok,rv,q⟩
 cases fl with
 |ret u=>
  obtain⟨v,σ',H',J,rv,q⟩:=hs
  exact fin J rv q
 |next=>
  obtain⟨σ',H',J,q⟩:=hs
  exact fin (v:=V.non) (u:=Value.none) J rfl q
 |brk=>
  obtain⟨_,_,_,q⟩:=hs
  exact False.elim q
 |cont=>
  obtain⟨_,_,_,q⟩:=hs
  exact False.elim q
section
variable{X:Cx}{x:Str}{p pos:Pos}{e:Expr}{es:List Expr}{t:TA}{id T:String}{r:List V->Hp->VK->Prop}
def tCB(r:List V->Hp->VK->Prop)(t:TA):TE:=fun σ H Q=>t σ H fun vs H1=>r vs H1 Q
theorem jz(hc:bJ X (.builtin id) r)(hg:Gl X x)(hm:X.mg x=none)(hv:bootBuiltins x=some (.builtin id))(ha:PA X (e::es) t)(hn:x ≠ "__name__" := by decide)(hdb:(x == ("__debug__" : Str))=false:=by decide)
 (he:starEach (e::es) X.env=(false,eval e X.env)::starEach es X.env:=by rfl)(hpl:(backTo pos (starEach es X.env)).any (·.1)=false:=by rfl):PE X (.Call (.Name x p) (e::es) [] pos) (tCB r t):=by
 intro pins s σ H Q I h
 refine wpAny_Call_Name_kw (gO I hg hm hv ?_ hn hdb)
 exact PyProof.Rows.callWith_builtin1 (thn (ha pos pins s σ H _ I h) fun us s1 ⟨vs,H1,I1,r1,q1⟩=>hc pins s1 σ H1 vs us Q I1 r1 q1) he hpl
theorem cE(hc:bJ X (.type T) r)(hg:Gl X x)(hm:X.mg x=none)(hv:bootBuiltins x=some (.type T))(ha:PA X (e::es) t)(hn:x ≠ "__name__" := by decide)(hdb:(x == ("__debug__" : Str))=false:=by decide)
 (he:starEach (e::es) X.env=(false,eval e X.env)::starEach es X.env:=by rfl)(hpl:(backTo pos (starEach es X.env)).any (·.1)=false:=by rfl):PE X (.Call (.Name x p) (e::es) [] pos) (tCB r t):=by
 intro pins s σ H Q I h
 refine wpAny_Call_Name_kw (gO I hg hm hv ?_ hn hdb)
 exact PyProof.Rows.callWith_type1 (thn (ha pos pins s σ H _ I h) fun us s1 ⟨vs,H1,I1,r1,q1⟩=>hc pins s1 σ H1 vs us Q I1 r1 q1) he hpl
end
end L2
namespace HT
open PySem PyProof.Rows
section
open PySem.SeqAt
open PySem.AutoSeq1 (wpAny_loadPart')
open PySem.MeetsSeq PySem.MeetsSeq2 PySem.MeetsSeq3
end
section
variable{prog:Program}{w:World}{A:Around}{E:Value->Shared->Prop}{s:Shared}
theorem Bh{t b:Addr}{vs ws:List Value}{Q:Value->Shared->Prop}(ht:IsTup s.heap t vs.toArray)(hb:IsTup s.heap b ws.toArray)(hv:vs≠[])
 (h1:ws=[]->Q (.ref t) s)(h2:ws≠[]->Q (.ref s.heap.objs.size) { s with heap:=s.heap.push { cls:=.type "tuple",data:=.seq (vs++ws).toArray } })
 (hsz:vs.length+ws.length<=sizeLine):wpAny (model prog w) A (binaryOp .Add (.ref t) (.ref b)) Q E s:=by
 obtain⟨⟨cls,dd,data,sl⟩,ho,hc,n,hd⟩:=id ht
 obtain⟨⟨cls2,dd2,data2,sl2⟩,ho2,hc2,n2,hd2⟩:=id hb
 simp only at hc hd hc2 hd2
 subst hc hd hc2 hd2
 have e:vs.toArray++ws.toArray=(vs++ws).toArray:=by simp
 by_cases hw:ws=[]
 ·exact concat_meets ⟨_,ho,rfl⟩ ⟨_,ho2,rfl⟩ noFill_tuple_add seq_tuple_add PySem.F.slot_tuple_add PySem.F.entry_tuple_add (PySem.F.args_tuple_add_2 _ _)
   (tuple_addW1 t b vs.toArray ws.toArray n n2 dd dd2 sl sl2 (by simpa using hv) (by simp[hw])) ⟨ho,ho2,h1 hw⟩
 ·refine concat_meets ⟨_,ho,rfl⟩ ⟨_,ho2,rfl⟩ noFill_tuple_add seq_tuple_add PySem.F.slot_tuple_add PySem.F.entry_tuple_add (PySem.F.args_tuple_add_2 _ _)
   (tuple_addW2 t b vs.toArray ws.toArray n n2 dd dd2 sl sl2 (by simpa using hv) (by simpa using hw) (by rw[List.size_toArray,List.size_toArray];exact hsz)) ⟨ho,ho2,?_⟩
  rw[e]
  exact h2 hw
def sIx(n d:Nat):Option Int->Nat
 | none=>d
 | some v=>if v<0 then(v+(n:Int)).toNat else min v.toNat n
theorem r8(n d:Nat):sIx n d none=d:=rfl
theorem EU(n d:Nat)(hd:d<=n)(o:Option Int):sIx n d o<=n:=by
 cases o with
 | none=>exact hd
 |some v=>
  show(if v<0 then(v+(n:Int)).toNat else min v.toNat n)<=n
  by_cases hv:v<0
  ·rw[if_pos hv];lia
  ·rw[if_neg hv];exact Nat.min_le_right _ _
theorem gF(v:Int)(n d:Nat):(if v<0 then max (v+(n:Int)) 0 else min v (n:Int))=((sIx n d (some v):Nat):Int):=by
 show(if v<0 then max (v+(n:Int)) 0 else min v (n:Int))=(((if v<0 then(v+(n:Int)).toNat else min v.toNat n):Nat):Int)
 by_cases hv:v<0
 ·simp only[if_pos hv];lia
 ·simp only[if_neg hv];lia
theorem vB(lo hi:Option Int)(n:Nat):Builtin.Slice.sliceAdjust lo hi 1 (n:Int)=(((sIx n 0 lo:Nat):Int),((sIx n n hi:Nat):Int)):=by
 have h1:¬ ((1:Int)<0):=by lia
 unfold Builtin.Slice.sliceAdjust
 simp only[h1,if_false]
 refine Prod.ext ?_ ?_
 ·cases lo with
  | none=>rfl
  | some v=>exact gF v n 0
 ·cases hi with
  | none=>rfl
  | some v=>exact gF v n n
theorem uX(i j:Nat):Builtin.Slice.slicePlaces (i:Int) (j:Int) 1=j-i:=by
 unfold Builtin.Slice.slicePlaces
 have h1:(1:Int) > 0:=by lia
 simp only[h1,if_true,Int.ediv_one]
 split<;>lia
theorem ny{Q:Option Int->Shared->Prop}(p:IsPart v o)(h:Q o s):wpAny (model prog w) A (Builtin.Slice.slicePartIndex v) Q E s:=by
 cases p with
 | none=>exact slicePart_none h
 | int i t=>exact slicePart_int h
theorem lY{sl:Addr}{vl vu:Value}{lo hi:Option Int}{n:Nat}{Q:Int × Int × Nat->Shared->Prop}(hs:s.heap.IsSliceOf sl vl vu .none)(pl:IsPart vl lo)(pu:IsPart vu hi)
 (h:Q (((sIx n 0 lo:Nat):Int),1,sIx n n hi-sIx n 0 lo) s):wpAny (model prog w) A (Builtin.Slice.sliceApplied (.ref sl) (pure (n:Int))) Q E s:=by
 obtain⟨os,hos,hcs,hds⟩:=id hs
 unfold Builtin.Slice.sliceApplied Builtin.Slice.sliceFields
 refine wpAny_bind (wpAny_bind (wpAny_field hos hds (x:=vl) rfl (wpAny_bind (wpAny_field hos hds (x:=vu) rfl (wpAny_bind (wpAny_field hos hds (x:=.none) rfl (wpAny_pure ?_)))))))
 refine wpAny_bind (slicePart_none ?_)
 show wpAny _ _ (if((1:Int) == 0)=true then _ else _) _ _ s
 rw[if_neg (by decide)]
 refine wpAny_bind (ny pl (wpAny_bind (ny pu (wpAny_bind (wpAny_pure ?_)))))
 show wpAny _ _ (match Builtin.Slice.sliceAdjust lo hi 1 (n:Int)with | (lo,hi)=>pure (lo,(1:Int),Builtin.Slice.slicePlaces lo hi 1)) _ _ s
 rw[vB lo hi n]
 show wpAny _ _ (pure (((sIx n 0 lo:Nat):Int),(1:Int),Builtin.Slice.slicePlaces ((sIx n 0 lo:Nat):Int) ((sIx n n hi:Nat):Int) 1)) _ _ s
 rw[uX]
 exact wpAny_pure h
theorem yL(xs:Array Value)(i k:Nat):((List.range k).filterMap fun(m:Nat)=>xs[((i:Int)+(m:Int)*1).toNat]?).toArray=((xs.toList.drop i).take k).toArray:=by
 have e:(fun(m:Nat)=>xs[((i:Int)+(m:Int)*1).toNat]?)=fun m=>xs[i+m]?:=by
  funext m
  have:((i:Int)+(m:Int)*1).toNat=i+m:=by lia
  rw[this]
 rw[e]
 have:=pick_run xs i k
 rw[List.filterMap_map]at this
 have e2:((fun x=>xs[x]?) ∘ fun x=>i+x)=fun m=>xs[i+m]?:=rfl
 rw[e2]at this
 rw[this]
theorem lN{t sl:Addr}{items:Array Value}{vl vu:Value}{lo hi:Option Int}{Q:Value->Shared->Prop}(ht:IsTup s.heap t items)(hs:s.heap.IsSliceOf sl vl vu .none)(pl:IsPart vl lo)(pu:IsPart vu hi)
 (hw:¬ (sIx items.size 0 lo=0/\sIx items.size items.size hi=items.size))
 (h:Q (.ref s.heap.objs.size) { s with heap:=s.heap.push { cls:=.type "tuple",data:=.seq ((items.toList.drop (sIx items.size 0 lo)).take (sIx items.size items.size hi-sIx items.size 0 lo)).toArray } })
 (hsz:items.size<=sizeLine):wpAny (model prog w) A (getItem (.ref t) (.ref sl)) Q E s:=by
 have htake:sizeOk (.seq ((items.toList.drop (sIx items.size 0 lo)).take (sIx items.size items.size hi-sIx items.size 0 lo)).toArray):=by
  show((items.toList.drop (sIx items.size 0 lo)).take (sIx items.size items.size hi-sIx items.size 0 lo)).toArray.size<=sizeLine
  rw[List.size_toArray,List.length_take,List.length_drop,Array.length_toList]
  omega
 have hj:sIx items.size items.size hi<=items.size:=EU _ _ (Nat.le_refl _) hi
 obtain⟨os,hos,hcs,hds⟩:=id hs
 have hTs:s.TypeIs (.ref sl) "slice" := ⟨os,hos,hcs⟩
 unfold getItem
 try with_reducible refine wpAny_holding ?_
 first | refine wpAny_bind (wpAny_pure ?_) | skip
 refine wpAny_bind (wpAny_sequenceKey ht.typeIs (by decide) ?_)
 refine wpAny_bind (wpAny_callSpecial?_slot (name:=Str.ofString "__getitem__") ht.typeIs PyProof.Rows.slot_tuple_getitem
  (wpAny_call_entry PyProof.Rows.slot_tuple_getitem ht.typeIs entry_tuple_getitem ?_ (args_tuple_getitem _ _)))
 show wpAny _ _ (Builtin.Tuple.tupleItemsOf (.ref t) >>= _) _ _ s
 refine wpAny_bind (tupleItemsOf_ ht ?_)
 refine wpAny_bind (wpAny_typeOf hTs ?_)
 rw[if_pos (by decide)]
 refine wpAny_bind (lY hs pl pu ?_)
 have hno:¬ ((((sIx items.size 0 lo:Nat):Int) == 0&&(1:Int) == 1&&(sIx items.size items.size hi-sIx items.size 0 lo) == items.size)=true):=by
  intro q
  rw[Bool.and_eq_true,Bool.and_eq_true]at q
  have q1:((sIx items.size 0 lo:Nat):Int)=0:=eq_of_beq q.1.1
  have q2:sIx items.size items.size hi-sIx items.size 0 lo=items.size:=eq_of_beq q.2
  exact hw ⟨by lia,by lia⟩
 show wpAny _ _ (if(((sIx items.size 0 lo:Nat):Int) == 0&&(1:Int) == 1&&(sIx items.size items.size hi-sIx items.size 0 lo) == items.size)=true then _ else _) _ _ s
 rw[if_neg hno,yL]
 first
  | exact wpAny_bind (m:=Builtin.Tuple.tupleExact _) (wpAny_newObj_type (wpAny_pure ⟨_,rfl,wpAny_pure h⟩) htake)
  | exact wpAny_bind (m:=Builtin.Tuple.tupleExact _) (wpAny_newObj_type (wpAny_bind (wpAny_pure (wpAny_pure ⟨_,rfl,wpAny_pure h⟩))) htake)
  | exact wpAny_bind (wpAny_bind (m:=Builtin.Tuple.tupleExact _) (wpAny_newObj_type (wpAny_pure (wpAny_pure ⟨_,rfl,wpAny_pure h⟩)) htake))
  | exact wpAny_bind (wpAny_bind (m:=Builtin.Tuple.tupleExact _) (wpAny_newObj_type (wpAny_pure ⟨_,rfl,wpAny_pure h⟩) htake))
end
end HT
namespace L2
open PySem PySem.Spec PyProof.Rows
abbrev TO:=St->Hp->(Option Int->Hp->Prop)->Prop
def PO(X:Cx)(e:Option Expr)(t:TO):Prop :=
 ∀ (pins:List (Addr × Obj)) (s:Shared) (σ:St) (H:Hp) (Q:Option Int->Hp->Prop),Inv X pins σ H s->t σ H Q ->
  wpAny (model X.prog X.w) X.A (evalPart e X.env) (fun u s'=>∃ o H',Inv X pins σ H' s'/\IsPart u o/\Q o H') X.xe s
def Bt:TO:=fun _ H Q=>Q none H
def FR(t:TE):TO:=fun σ H Q=>t σ H fun x H1=>∃ i,x=.int i/\Q (some i) H1
theorem intsAre_of{ns:List Int}:∀ {us:List Value},Vals (ns.map V.int) us->IntsAre us ns:=by
 induction ns with
 | nil=>intro us r;rw[List.map_nil]at r;cases r;exact .nil
 |cons n ns ih=>
  intro us r
  rw[List.map_cons]at r
  cases r with
  |cons r1 r2=>
   obtain⟨t,e⟩:=r1
   subst e
   exact .cons n t (ih r2)
section
variable{X:Cx}{e:Expr}{te:TE}{lo hi:Option Expr}{tl th:TO}{pos p2:Pos}
theorem uw:PO X none Bt:=by
 intro pins s σ H Q I h
 rw[evalPart_none]
 exact wpAny_pure ⟨none,H,I,.none,h⟩
theorem uF(h:PE X e te):PO X (some e) (FR te):=by
 intro pins s σ H Q I hw
 rw[evalPart_some]
 refine thn (h pins s σ H _ I hw) fun u s1 ⟨x,H1,I1,r1,q1⟩=>?_
 obtain⟨i,rfl,q⟩:=q1
 obtain⟨t,rfl⟩:=r1
 exact⟨some i,H1,I1,.int i t,q⟩
def SlR(X:Cx)(r:V->Option Int->Option Int->Hp->VK->Prop):Prop :=
 ∀ (pins:List (Addr × Obj)) (s:Shared) (σ:St) (H:Hp) (x:V) (v vl vu:Value) (lo hi:Option Int) (sl:Addr) (Q:VK),Inv X pins σ H s->RelV x v->s.heap.IsSliceOf sl vl vu .none->IsPart vl lo->IsPart vu hi->r x lo hi H Q ->
  ∃ T id,typeLookup (.type T) "__getitem__" = pure (some (.builtin id))/\s.TypeIs v T/\wpAny (model X.prog X.w) X.A (getItem v (.ref sl)) (EP X pins σ Q) X.xe s
theorem SlR.or(h:SlR X r)(h':SlR X r'):SlR X (fun x lo hi H Q=>r x lo hi H Q\/r' x lo hi H Q):=by
 intro pins s σ H x v vl vu lo hi sl Q I rx hs pl pu q
 rcases q with q | q
 ·exact h pins s σ H x v vl vu lo hi sl Q I rx hs pl pu q
 ·exact h' pins s σ H x v vl vu lo hi sl Q I rx hs pl pu q
def tSl(r:V->Option Int->Option Int->Hp->VK->Prop)(te:TE)(tl th:TO):TE:=fun σ H Q=>te σ H fun x H1=>tl σ H1 fun l H2=>th σ H2 fun u H3=>r x l u H3 Q
theorem q0(hr:SlR X r)(he:PE X e te)(hl:PO X lo tl)(hu:PO X hi th):PE X (.Subscript e (.Slice lo hi none p2) pos) (tSl r te tl th):=by
 intro pins s σ H Q I h
 refine Subscript_ (thn (he pins s σ H _ I h) fun v s1 ⟨x,H1,I1,r1,q1⟩=>?_)
 refine wpAny_Slice (thn (hl pins s1 σ H1 _ I1 q1) fun vl s2 ⟨l,H2,I2,pl,q2⟩=>thn (hu pins s2 σ H2 _ I2 q2) fun vu s3 ⟨u,H3,I3,pu,q3⟩=>?_)
 rw[evalPart_none]
 refine wpAny_pure ?_
 have I4:Inv X pins σ H3 { s3 with heap:=s3.heap.push { cls:=.type "slice",data:=.fields #[vl,vu,.none] } }:=I3.kept (t':=s3.toks) fun b ob q=>Heap.get?_push_of_some _ q
 obtain⟨T,id,hT,ht,hg⟩:=hr pins { s3 with heap:=s3.heap.push { cls:=.type "slice",data:=.fields #[vl,vu,.none] } } σ H3 x v vl vu l u s3.heap.objs.size Q I4 r1 (Heap.IsSliceOf.new ..) pl pu q3
 show wpAny (model X.prog X.w) X.A (subscriptTail e (.Slice lo hi none p2) v (.ref s3.heap.objs.size)) (EP X pins σ Q) X.xe { s3 with heap:=s3.heap.push { cls:=.type "slice",data:=.fields #[vl,vu,.none] } }
 exact tail_any (ops:=[.ref s3.heap.objs.size,v]) ht hT hg (by with_unfolding_all rfl)
def hJ(xs:List V)(lo hi:Option Int):List V:=(xs.drop (HT.sIx xs.length 0 lo)).take (HT.sIx xs.length xs.length hi-HT.sIx xs.length 0 lo)
theorem lU(xs:List V)(lo hi:Option Int):(hJ xs lo hi).length<=xs.length:=by
 unfold hJ
 rw[List.length_take,List.length_drop]
 lia
def HQ(K:PySem.W.Frag):V->Option Int->Option Int->Hp->VK->Prop:=fun x lo hi H Q=>∃ a xs,x=.ref a/\SqT K H a xs /\
 ¬ (HT.sIx xs.length 0 lo=0/\HT.sIx xs.length xs.length hi=xs.length)/\∀ p,H p=none->Q (.ref p) (upd H p (.tup (hJ xs lo hi)))
theorem xK:SlR X (HQ X.K):=by
 intro pins s σ H x v vl vu lo hi sl Q I rx hs pl pu h
 obtain⟨a,xs,rfl,hx,hw,q⟩:=h
 cases rx
 obtain⟨its,r,ht,hz⟩:=I.tuple hx
 have hlen:its.toArray.size=xs.length:=by rw[List.size_toArray];exact r.length.symm
 refine⟨"tuple",_,PyProof.Rows.slot_tuple_getitem.lookup,ht.typeIs,?_⟩
 refine HT.lN ht hs pl pu (by rw[hlen];exact hw) ?_ (by rw[hlen];exact hz)
 rw[hlen]
 refine⟨.ref s.heap.objs.size,_,I.laid (t':=s.toks) (o:=.tup (hJ xs lo hi)) (fun b ob q=>Heap.get?_push_of_some _ q) (Nat.le_refl _) ?_,rfl,q _ (I.hok.fresh (Nat.le_refl _))⟩
 exact⟨Nat.le_trans (lU xs lo hi) hz,_,(r.drop (HT.sIx xs.length 0 lo)).take (HT.sIx xs.length xs.length hi-HT.sIx xs.length 0 lo),IsTup.new _ _⟩
def Gv(K:PySem.W.Frag):R2:=fun x y H Q=>∃ a b xs ys,x=.ref a/\y=.ref b/\SqT K H a xs/\SqT K H b ys/\xs≠[]/\xs.length+ys.length<=sizeLine /\
 (ys=[]->Q (.ref a) H)/\(ys≠[]->∀ p,H p=none->Q (.ref p) (upd H p (.tup (xs++ys))))
theorem Vals.pd(r:Vals xs us):us=[]↔xs=[]:=by
 cases r with
 | nil=>simp
 | cons _ _=>simp
theorem BU:OpR X (binaryOp .Add) (Gv X.K):=by
 intro pins s σ H x y v u Q I rx ry h
 obtain⟨a,b,xs,ys,rfl,rfl,ha,hb,hx,hz,q1,q2⟩:=h
 cases rx
 cases ry
 obtain⟨its,r1,p1,_⟩:=I.tuple ha
 obtain⟨its2,r2,p2,_⟩:=I.tuple hb
 refine HT.Bh p1 p2 (fun z=>hx (r1.pd.mp z)) (fun z=>⟨.ref a,H,I,rfl,q1 (r2.pd.mp z)⟩) (fun z=>?_) (by rw[<-r1.length,<-r2.length];exact hz)
 refine⟨.ref s.heap.objs.size,_,I.laid (t':=s.toks) (o:=.tup (xs++ys)) (fun b ob q=>Heap.get?_push_of_some _ q) (Nat.le_refl _) ?_,rfl,q2 (fun w=>z (r2.pd.mpr w)) _ (I.hok.fresh (Nat.le_refl _))⟩
 exact⟨by rw[List.length_append];exact hz,_,r1.append r2,IsTup.new _ _⟩
end
def ixN(n:Nat)(i:Int):Option Nat:=if 0<=i then(if i<n then some i.toNat else none)else if -(n:Int)<=i then some (i+n).toNat else none
def atI{α:Type}(xs:List α)(i:Int):Option α:=(ixN xs.length i).bind fun j=>xs[j]?
theorem t6{n:Nat}{i:Int}{j:Nat}(h:ixN n i=some j):seqIndex? i n=some j/\j<n/\-(n:Int)<=i/\i<n:=by
 unfold ixN at h
 by_cases h0:0<=i
 ·rw[if_pos h0]at h
  by_cases h1:i<n
  ·rw[if_pos h1]at h
   have e:i.toNat=j:=Option.some.inj h
   exact⟨by rw[seqIndex_of h0 h1,e],by lia,by lia,h1⟩
  ·rw[if_neg h1]at h;cases h
 ·rw[if_neg h0]at h
  by_cases h1:-(n:Int)<=i
  ·rw[if_pos h1]at h
   have e:(i+n).toNat=j:=Option.some.inj h
   exact⟨by rw[seqIndex_neg (by lia) h1,e],by lia,h1,by lia⟩
  ·rw[if_neg h1]at h;cases h
theorem oh{α:Type}{xs:List α}{i:Int}{v:α}(h:atI xs i=some v):∃ j,seqIndex? i xs.length=some j/\xs[j]?=some v/\j<xs.length/\-(xs.length:Int)<=i/\i<xs.length:=by
 unfold atI at h
 cases e:ixN xs.length i with
 | none=>rw[e]at h;cases h
 |some j=>
  rw[e]at h
  obtain⟨h1,h2,h3,h4⟩:=t6 e
  exact⟨j,h1,h,h2,h3,h4⟩
def tR(b:Expr):Prop:=∀ o i,subscripted b false o i=operate [o,i] (getItem o i)
def IxR(X:Cx)(r:R2):Prop :=
 ∀ (value slice:Expr) (pins:List (Addr × Obj)) (s:Shared) (σ:St) (H:Hp) (x y:V) (v u:Value) (Q:VK),Inv X pins σ H s->RelV x v->RelV y u->r x y H Q ->
  subscripted slice false v u=operate [v,u] (getItem v u)->wpAny (model X.prog X.w) X.A (subscriptTail value slice v u) (EP X pins σ Q) X.xe s
def MtR(X:Cx)(id:String)(r:V->List V->Hp->VK->Prop):Prop :=
 ∀ (pins:List (Addr × Obj)) (s:Shared) (σ:St) (H:Hp) (x:V) (xs:List V) (v:Value) (us:List Value) (Q:VK),Inv X pins σ H s->RelV x v->Vals xs us->r x xs H Q ->
  wpAny (model X.prog X.w) X.A (call (.builtin id) (v::us)) (EP X pins σ Q) X.xe s
section
variable{X:Cx}{a b:Expr}{ta tb:TE}{pos:Pos}
theorem IxR.or(h:IxR X r)(h':IxR X r'):IxR X (fun x y H Q=>r x y H Q\/r' x y H Q):=by
 intro value slice pins s σ H x y v u Q I rx ry q hs
 rcases q with q | q
 ·exact h value slice pins s σ H x y v u Q I rx ry q hs
 ·exact h' value slice pins s σ H x y v u Q I rx ry q hs
theorem FH(hr:IxR X r)(ha:PE X a ta)(hb:PE X b tb)(hs:tR b):PE X (.Subscript a b pos) (tOp r ta tb):=by
 intro pins s σ H Q I h
 exact Subscript_ (Ad ha hb I h fun v u s2 x y H2 I2 rx ry q=>hr a b pins s2 σ H2 x y v u Q I2 rx ry q (hs _ _))
def CO(K:PySem.W.Frag):R2:=fun x y H Q=>∃ p xs i v,x=.ref p/\y=.int i/\SqL K H p xs/\atI xs i=some v/\Q v H
def E4(K:PySem.W.Frag):R2:=fun x y H Q=>∃ p xs i v,x=.ref p/\y=.int i/\SqT K H p xs/\atI xs i=some v/\Q v H
def Ey:R2:=fun x y H Q=>∃ z i c,x=.str z/\y=.int i/\z.length<=sizeLine/\atI z.cps.toList i=some c/\Q (.str ⟨#[c]⟩) H
theorem BJ:IxR X (CO X.K):=by
 intro value slice pins s σ H x y v u Q I rx ry h hs
 obtain⟨p,xs,i,z,rfl,rfl,hq,he,q⟩:=h
 cases rx
 obtain⟨t,rfl⟩:=ry
 obtain⟨its,r,pl,hz⟩:=I.list hq
 obtain⟨j,h1,h2,h3,h4,h5⟩:=oh he
 obtain⟨w,ew,rw'⟩:=r.get h2
 have hl:=r.length
 have hn:=iU
 have fin:EP X pins σ Q w s:=⟨z,H,I,rw',q⟩
 by_cases h0:0<=i
 ·have hj:i.toNat=j:=by
   rw[seqIndex_of h0 h5]at h1
   exact Option.some.inj h1
  exact item_listR pl.isList h0 (by lia) (by rw[hj];simpa using ew) fin hs
 ·have hj:(i+(its.toArray.size:Int)).toNat=j:=by
   rw[seqIndex_neg (by lia) h4]at h1
   rw[List.size_toArray,<-hl]
   exact Option.some.inj h1
  exact subscriptTail_builtinR (x:=w) pl.isList.typeIs slot_list_getitem.lookup
   (wpAny_getItem_list_neg (Q:=fun r s'=>r=w/\EP X pins σ Q r s') pl.isList (by lia) (by rw[List.size_toArray]<;>lia) (by lia) (by rw[hj];simpa using ew) ⟨rfl,fin⟩) hs
theorem dk:IxR X (E4 X.K):=by
 intro value slice pins s σ H x y v u Q I rx ry h hs
 obtain⟨p,xs,i,z,rfl,rfl,hq,he,q⟩:=h
 cases rx
 obtain⟨t,rfl⟩:=ry
 obtain⟨its,r,pl,hz⟩:=I.tuple hq
 obtain⟨j,h1,h2,h3,h4,h5⟩:=oh he
 obtain⟨w,ew,rw'⟩:=r.get h2
 have hl:=r.length
 have hn:=iU
 have fin:EP X pins σ Q w s:=⟨z,H,I,rw',q⟩
 exact subscriptTail_builtinR (x:=w) pl.typeIs slot_tuple_getitem.lookup
  (getItem_tuple (j:=j) (Q:=fun r s'=>r=w/\EP X pins σ Q r s') pl (by lia) (by lia) (by rw[List.size_toArray,<-hl];exact h1) (by simpa using ew) ⟨rfl,fin⟩) hs
theorem CW:IxR X Ey:=by
 intro value slice pins s σ H x y v u Q I rx ry h hs
 obtain⟨z,i,c,rfl,rfl,hz,he,q⟩:=h
 obtain⟨t,rfl⟩:=rx
 obtain⟨t',rfl⟩:=ry
 obtain⟨j,h1,h2,h3,h4,h5⟩:=oh he
 have hl:z.cps.toList.length=z.length:=by simp[Str.length]
 rw[hl]at h1 h4 h5
 have hn:=iU
 exact tail_any (typeIs_str s z t) slot_str_getitem.lookup (getItem_str (c:=c) (by
  have e1:decide (i < -(2 ^ 63:Int))=false:=decide_eq_false (by lia)
  have e2:decide (i≥2 ^ 63)=false:=decide_eq_false (by lia)
  rw[e1,e2,Bool.or_false]) (by rw[h1];simpa using h2) ⟨.str ⟨#[c]⟩,H,I.tok _,⟨_,rfl⟩,q⟩) hs
def rIx(K:PySem.W.Frag):R2:=fun x y H Q=>CO K x y H Q\/E4 K x y H Q\/Ey x y H Q
theorem Ef:IxR X (rIx X.K):=BJ.or (dk.or CW)
theorem vc(its:List Value)(n j:Nat)(u:Value):Obj.mapSeq (·.setIfInBounds j u) { cls:=.type "list",data:=.seq its.toArray n }={ cls:=.type "list",data:=.seq (its.set j u).toArray n }:=by
 simp[Obj.mapSeq]
theorem Inv.lst{pins:List (Addr × Obj)}{σ:St}{H:Hp}{s:Shared}{p:Addr}{xs:List V}(I:Inv X pins σ H s)(h:H p=some (.lst xs)) :
  ∃ (its:List Value) (n:Nat),Vals xs its/\s.heap.get? p=some { cls:=.type "list",data:=.seq its.toArray n }/\xs.length<=sizeLine:=by
 obtain⟨z,its,n,r,e⟩:=I.hok p _ h
 exact⟨its,n,r,e,z⟩
theorem Inv.Di{p:Addr}{xs ys:List V}{its its':List Value}{n n':Nat}{f:Obj->Obj}(I:Inv X pins σ H s)(h:H p=some (.lst xs))
 (ho:s.heap.get? p=some { cls:=.type "list",data:=.seq its.toArray n })(hf:f { cls:=.type "list",data:=.seq its.toArray n }={ cls:=.type "list",data:=.seq its'.toArray n' })(r:Vals ys its')(hz:ys.length<=sizeLine)(t:Nat) :
  Inv X pins σ (upd H p (.lst ys)) { s with heap:=s.heap.update p f,toks:=t }:=by
 have e:(s.heap.update p f).get? p=some { cls:=.type "list",data:=.seq its'.toArray n' }:=by
  rw[Heap.get?_update_self f ho (by rw[hf]<;>rfl),hf]
 refine I.write (x:=p) (e:=p) (by rw[h];trivial) (.inl rfl) (fun b u hb q=>(Heap.get?_update_other _ _ (Ne.symm hb)).trans q) ⟨_,e⟩ ?_
 exact⟨hz,its',n',r,e⟩
def vy:V->V->V->Hp->(Hp->Prop)->Prop:=fun o i v H Q=>∃ p xs k j,o=.ref p/\i=.int k/\H p=some (.lst xs)/\ixN xs.length k=some j/\Q (upd H p (.lst (xs.set j v)))
theorem set_list:CA X vy:=by
 intro pins s σ H o i v ov iv u Q I ro ri rv h
 obtain⟨p,xs,k,j,rfl,rfl,hp,hj,q⟩:=h
 cases ro
 obtain⟨t,rfl⟩:=ri
 obtain⟨its,n,r,ho,hz⟩:=I.lst hp
 obtain⟨h1,h2,h3,h4⟩:=t6 hj
 have hl:=r.length
 have hn:=iU
 have I':Inv X pins σ (upd H p (.lst (xs.set j v))) { s with heap:=s.heap.update p (Obj.mapSeq (·.setIfInBounds j u)) } :=
  I.Di hp ho (vc its n j u) (r.set rv j) (by rw[List.length_set];exact hz) s.toks
 by_cases h0:0<=k
 ·have hk:k.toNat=j:=by
   rw[seqIndex_of h0 h4]at h1
   exact Option.some.inj h1
  exact PySem.W.ki_setAt ho h0 (by lia) (by rw[List.size_toArray,<-hl];exact h4) (by rw[hk];exact⟨_,I',q⟩)
 ·have hk:(k+(its.toArray.size:Int)).toNat=j:=by
   rw[seqIndex_neg (by lia) h3]at h1
   rw[List.size_toArray,<-hl]
   exact Option.some.inj h1
  exact PySem.W.ki_setBack ho (by lia) (by rw[List.size_toArray,<-hl];exact h3) (by lia) (by rw[hk];exact⟨_,I',q⟩)
theorem qV(lo hi:Option Int)(n:Nat):(sliceBounds lo hi none n).1=((HT.sIx n 0 lo:Nat):Int)/\(sliceBounds lo hi none n).2.1=((HT.sIx n n hi:Nat):Int)/\(sliceBounds lo hi none n).2.2=1:=by
 refine⟨?_,?_,rfl⟩
 ·cases lo with
  | none=>simp[sliceBounds,HT.sIx]
  |some i=>
   simp only[sliceBounds,HT.sIx,Option.getD_none,show(1:Int) > 0 by decide,if_true]
   by_cases h:i<0
   ·simp only[h,if_true]<;>lia
   ·simp only[h,if_false]<;>lia
 ·cases hi with
  | none=>simp[sliceBounds,HT.sIx]
  |some i=>
   simp only[sliceBounds,HT.sIx,Option.getD_none,show(1:Int) > 0 by decide,if_true]
   by_cases h:i<0
   ·simp only[h,if_true]<;>lia
   ·simp only[h,if_false]<;>lia
theorem pU(its:List Value)(lo hi:Option Int):slicePick its.toArray lo hi none=((its.drop (HT.sIx its.length 0 lo)).take (HT.sIx its.length its.length hi-HT.sIx its.length 0 lo)).toArray:=by
 obtain⟨h1,h2,h3⟩:=qV lo hi its.toArray.size
 unfold slicePick
 rw[h1,h2,h3]
 simp only[sliceRange_one,pick_run,List.size_toArray]<;>rfl
def GU(K:PySem.W.Frag):V->Option Int->Option Int->Hp->VK->Prop:=fun x lo hi H Q=>∃ a xs,x=.ref a/\SqL K H a xs/\∀ p,H p=none->Q (.ref p) (upd H p (.lst (hJ xs lo hi)))
theorem tK:SlR X (GU X.K):=by
 intro pins s σ H x v vl vu lo hi sl Q I rx hs pl pu h
 obtain⟨a,xs,rfl,hx,q⟩:=h
 cases rx
 obtain⟨its,r,ht,hz⟩:=I.list hx
 have hlen:=r.length
 refine⟨"list",_,slot_list_getitem.lookup,ht.isList.typeIs,?_⟩
 refine wpAny_getItem_list_slice ht.isList hs pl pu .none (by simp) ?_ (by rw[List.size_toArray]<;>lia)
 rw[pU,<-hlen]
 refine⟨.ref s.heap.objs.size,_,I.laid (t':=s.toks) (o:=.lst (hJ xs lo hi)) (fun b ob q=>Heap.get?_push_of_some _ q) (Nat.le_refl _) ?_,rfl,q _ (I.hok.fresh (Nat.le_refl _))⟩
 exact⟨Nat.le_trans (lU xs lo hi) hz,_,0,(r.drop (HT.sIx xs.length 0 lo)).take (HT.sIx xs.length xs.length hi-HT.sIx xs.length 0 lo),Heap.get?_push_size _ rfl⟩
def fN:V->Bool
 | .non=>true
 | .bl _=>true
 | .int _=>true
 | .str _=>true
 | _=>false
def eqV:V->V->Bool
 | .non,.non=>true
 | .bl a,.bl b=>a == b
 | .bl a,.int b=>(if a then 1 else 0) == b
 | .int a,.bl b=>a == (if b then 1 else 0)
 | .int a,.int b=>a == b
 | .str a,.str b=>a == b
 | _,_=>false
theorem DX{A:Around}{s:Shared}(ry:RelV y u)(rx:RelV x v)(fy:fN y=true)(fx:fN x=true):SeqAt.EqAt A s u v (eqV y x):=by
 cases y with
 |non=>
  cases ry
  cases x with
  | non=>cases rx;exact SeqAt.EqAt.same _
  | bl b=>cases rx;exact SeqAt.EqAt.none_bool b
  | int b=>obtain⟨t,rfl⟩:=rx;exact SeqAt.EqAt.none_int b t
  | str b=>obtain⟨t,rfl⟩:=rx;exact SeqAt.EqAt.none_str b t
  | _=>exact absurd (show false=true from fx) Bool.false_ne_true
 |bl a=>
  cases ry
  cases x with
  | non=>cases rx;exact SeqAt.EqAt.bool_none a
  | bl b=>cases rx;exact SeqAt.EqAt.bool_bool a b
  | int b=>obtain⟨t,rfl⟩:=rx;exact SeqAt.EqAt.bool_int a b t
  | str b=>obtain⟨t,rfl⟩:=rx;exact SeqAt.EqAt.bool_str a b t
  | _=>exact absurd (show false=true from fx) Bool.false_ne_true
 |int a=>
  obtain⟨t',rfl⟩:=ry
  cases x with
  | non=>cases rx;exact SeqAt.EqAt.int_none a t'
  | bl b=>cases rx;exact SeqAt.EqAt.int_bool a t' b
  | int b=>obtain⟨t,rfl⟩:=rx;exact SeqAt.EqAt.int_int a t' b t
  | str b=>obtain⟨t,rfl⟩:=rx;exact SeqAt.EqAt.int_str a t' b t
  | _=>exact absurd (show false=true from fx) Bool.false_ne_true
 |str a=>
  obtain⟨t',rfl⟩:=ry
  cases x with
  | non=>cases rx;exact SeqAt.EqAt.str_none a t'
  | bl b=>cases rx;exact SeqAt.EqAt.str_bool a t' b
  | int b=>obtain⟨t,rfl⟩:=rx;exact SeqAt.EqAt.str_int a t' b t
  | str b=>obtain⟨t,rfl⟩:=rx;exact SeqAt.EqAt.str_str a t' b t
  | _=>exact absurd (show false=true from fx) Bool.false_ne_true
 | _=>exact absurd (show false=true from fy) Bool.false_ne_true
def eqU(x:V)(u:Value):Bool:=match u with
 | .none=>eqV .non x
 | .bool b=>eqV (.bl b) x
 | .int i _=>eqV (.int i) x
 | .str z _=>eqV (.str z) x
 | _=>false
theorem x6{x y:V}(r:RelV y u)(f:fN y=true):eqU x u=eqV y x:=by
 cases y with
 | non=>cases r;rfl
 | bl b=>cases r;rfl
 | int i=>obtain⟨t,rfl⟩:=r;rfl
 | str z=>obtain⟨t,rfl⟩:=r;rfl
 | _=>exact absurd (show false=true from f) Bool.false_ne_true
theorem iQ{x:V}:∀ {xs:List V} {us:List Value},Vals xs us->xs.all fN=true->us.any (eqU x)=xs.any fun y=>eqV y x
 | _,_,.nil,_=>rfl
 | y::xs,u::us,.cons r t,f=>by
  rw[List.all_cons,Bool.and_eq_true]at f
  rw[List.any_cons,List.any_cons,x6 r f.1,iQ t f.2]
theorem gP{A:Around}{s:Shared}(rx:RelV x v)(fx:fN x=true):∀ {xs:List V} {us:List Value},Vals xs us->xs.all fN=true->∀ u∈us,SeqAt.EqAt A s u v (eqU x u)
 | _,_,.nil,_=>fun u hu=>by cases hu
 | y::xs,u::us,.cons r t,f=>fun u' hu=>by
  rw[List.all_cons,Bool.and_eq_true]at f
  rcases List.mem_cons.mp hu with rfl | hu
  ·rw[x6 r f.1];exact DX r rx f.1 fx
  ·exact gP rx fx t f.2 u' hu
def inV(x:V)(xs:List V):Bool:=xs.any fun y=>eqV y x
def rIn(K:PySem.W.Frag)(neg:Bool):R2:=fun x y H Q=>∃ p xs,y=.ref p/\(SqL K H p xs\/SqT K H p xs)/\fN x=true/\xs.all fN=true/\Q (.bl (if neg then !inV x xs else inV x xs)) H
theorem xg:OpR X (compareOp .In) (rIn X.K false):=by
 intro pins s σ H x y v u Q I rx ry h
 obtain⟨p,xs,rfl,hq,fx,fs,q⟩:=h
 cases ry
 rcases hq with hq | hq
 ·obtain⟨its,r,pl,hz⟩:=I.list hq
  refine SeqAt.in_listAt (eqU x) pl.isList (fun w hw=>gP rx fx r fs w (by simpa using hw)) ⟨.bl _,H,I,rfl,?_⟩
  rw[show its.toArray.any (eqU x)=its.any (eqU x) by simp,iQ r fs]
  exact q
 ·obtain⟨its,r,pl,hz⟩:=I.tuple hq
  refine SeqAt.in_tupleAt (eqU x) pl (fun w hw=>gP rx fx r fs w (by simpa using hw)) ⟨.bl _,H,I,rfl,?_⟩
  rw[show its.toArray.any (eqU x)=its.any (eqU x) by simp,iQ r fs]
  exact q
theorem qC:OpR X (compareOp .NotIn) (rIn X.K true):=by
 intro pins s σ H x y v u Q I rx ry h
 obtain⟨p,xs,rfl,hq,fx,fs,q⟩:=h
 cases ry
 rcases hq with hq | hq
 ·obtain⟨its,r,pl,hz⟩:=I.list hq
  refine SeqAt.notIn_listAt (eqU x) pl.isList (fun w hw=>gP rx fx r fs w (by simpa using hw)) ⟨.bl _,H,I,rfl,?_⟩
  rw[show its.toArray.any (eqU x)=its.any (eqU x) by simp,iQ r fs]
  exact q
 ·obtain⟨its,r,pl,hz⟩:=I.tuple hq
  refine SeqAt.notIn_tupleAt (eqU x) pl (fun w hw=>gP rx fx r fs w (by simpa using hw)) ⟨.bl _,H,I,rfl,?_⟩
  rw[show its.toArray.any (eqU x)=its.any (eqU x) by simp,iQ r fs]
  exact q
theorem bJ.or(h:bJ X f r)(h':bJ X f r'):bJ X f (fun xs H Q=>r xs H Q\/r' xs H Q):=by
 intro pins s σ H xs us Q I rs q
 rcases q with q | q
 ·exact h pins s σ H xs us Q I rs q
 ·exact h' pins s σ H xs us Q I rs q
theorem qU:bJ X (.type "list") (fun xs H Q=>∃ p ys,xs=[.ref p]/\(SqL X.K H p ys\/SqT X.K H p ys)/\∀ l,H l=none->Q (.ref l) (upd H l (.lst ys))):=by
 intro pins s σ H xs us Q I r h
 obtain⟨p,ys,rfl,hq,q⟩:=h
 obtain⟨u,rfl,rx⟩:=vals1 r
 cases rx
 have fin:∀ (its:List Value),Vals ys its->ys.length<=sizeLine->∀ (h':Heap) (c':Nat),(∀ b o',s.heap.get? b=some o'->h'.get? b=some o') ->
   h'.get? s.heap.objs.size=some { cls:=.type "list",dict:=none,data:=.seq its.toArray c',slots:=#[] }->EP X pins σ Q (.ref s.heap.objs.size) { s with heap:=h' }:=fun its r' hz h' c' kp e =>
  ⟨.ref s.heap.objs.size,_,I.laid (t':=s.toks) kp (Nat.le_refl _) (show bB X.prog X.w _ h' _ (.lst ys)from⟨hz,its,c',r',e⟩),rfl,q _ (I.hok.fresh (Nat.le_refl _))⟩
 rcases hq with hq | hq
 ·obtain⟨its,r',pl,hz⟩:=I.list hq
  have hlen:=r'.length
  obtain⟨o,ho,hc,n,hd⟩:=pl.isList
  exact call_list_seq p (.inl rfl) ho hc hd (fun h' c' kp e=>fin its r' hz h' c' kp e) (by simp only[List.size_toArray]<;>lia)
 ·obtain⟨its,r',pl,hz⟩:=I.tuple hq
  have hlen:=r'.length
  obtain⟨o,ho,hc,n,hd⟩:=pl
  exact call_list_seq p (.inr rfl) ho hc hd (fun h' c' kp e=>fin its r' hz h' c' kp e) (by simp only[List.size_toArray]<;>lia)
theorem pY:bJ X (.type "tuple") (fun xs H Q=>∃ p ys,xs=[.ref p]/\((SqL X.K H p ys/\∀ l,H l=none->Q (.ref l) (upd H l (.tup ys)))\/(SqT X.K H p ys/\Q (.ref p) H))):=by
 intro pins s σ H xs us Q I r h
 obtain⟨p,ys,rfl,h⟩:=h
 obtain⟨u,rfl,rx⟩:=vals1 r
 cases rx
 rcases h with⟨hq,q⟩ | ⟨hq,q⟩
 ·obtain⟨its,r',pl,hz⟩:=I.list hq
  have hlen:=r'.length
  refine call_tuple_list pl.isList (fun h' kp=>?_) (by simp only[List.size_toArray]<;>lia)
  have I1:Inv X pins σ H { s with heap:=h' }:=I.kept (t':=s.toks) kp
  have I2:Inv X pins σ (upd H h'.objs.size (.tup ys)) { s with heap:=h'.push { cls:=.type "tuple",data:=.seq its.toArray } } :=
   I1.laid (t':=s.toks) (fun b o e=>Heap.get?_push_of_some _ e) (Nat.le_refl _) (show bB X.prog X.w _ _ _ (.tup ys)from⟨hz,its,r',IsTup.new _ _⟩)
  exact⟨.ref h'.objs.size,_,I2,rfl,q _ (I1.hok.fresh (Nat.le_refl _))⟩
 ·obtain⟨its,r',pl,hz⟩:=I.tuple hq
  exact call_tuple_same pl ⟨.ref p,H,I,rfl,q⟩
def tyV(K:PySem.W.Frag)(T:String)(x:V)(H:Hp):Prop:=match x with
 | .str _=>T = "str"
 | .int _=>T = "int"
 | .ref p=>(T = "list" /\ ∃ xs,SqL K H p xs)\/(T = "tuple" /\ ∃ o,K.lookup p=some o/\o.cls=.type "tuple" /\ o.dict=none) \/
   (T = "dict" /\ ((∃ kvs,H p=some (.dK kvs))\/∃ kvs,H p=some (.dT kvs)))\/(T = "set" /\ ∃ S n,H p=some (.set S n))
 | _=>False
theorem x5{T:String}(I:Inv X pins σ H s)(r:RelV x v)(ty:tyV X.K T x H) :
  s.TypeIs v T/\∀ a,v=.ref a->∃ ob,s.heap.get? a=some ob/\ob.dict=none:=by
 cases x with
 |str z=>
  obtain⟨t,rfl⟩:=r
  cases(show T = "str" from ty)
  exact⟨typeIs_str s z t,fun _ e=>nomatch e⟩
 |int i=>
  obtain⟨t,rfl⟩:=r
  cases(show T = "int" from ty)
  exact⟨typeIs_int s i t,fun _ e=>nomatch e⟩
 |ref p=>
  cases r
  rcases ty with⟨rfl,xs,hq⟩ | ⟨rfl,o,hk,hc,hd⟩ | ⟨rfl,hk⟩ | ⟨rfl,S,n,hk⟩
  ·obtain⟨its,_,pl,_⟩:=I.list hq
   refine⟨pl.isList.typeIs,fun a e=>?_⟩
   cases e
   obtain⟨o,n,e,c,hd,_⟩:=pl
   exact⟨o,e,hd⟩
  ·refine⟨⟨o,I.kIn p o hk,hc⟩,fun a e=>?_⟩
   cases e
   exact⟨o,I.kIn _ o hk,hd⟩
  ·have z:∃ o,s.heap.get? p=some o/\o.ExactDict:=by
    rcases hk with⟨kvs,hk⟩ | ⟨kvs,hk⟩
    ·obtain⟨_,_,_,_,o,_,_,e,ex,_⟩:=I.hok p _ hk
     exact⟨o,e,ex⟩
    ·obtain⟨_,_,_,_,o,_,_,e,ex,_⟩:=I.hok p _ hk
     exact⟨o,e,ex⟩
   obtain⟨o,e,ex⟩:=z
   refine⟨⟨o,e,ex.1⟩,fun a e2=>?_⟩
   cases e2
   exact⟨o,e,ex.2.1⟩
  ·obtain⟨o,_,_,_,e,ex,_⟩:=I.hok p _ hk
   refine⟨⟨o,e,ex.1⟩,fun a e2=>?_⟩
   cases e2
   exact⟨o,e,ex.2.1⟩
 | _=>exact False.elim ty
def zU(K:PySem.W.Frag)(T:String)(r:V->List V->Hp->VK->Prop)(to:TE):TE:=fun σ H Q=>to σ H fun x H1=>tyV K T x H1/\r x [] H1 Q
def tBM(K:PySem.W.Frag)(T:String)(r:V->List V->Hp->VK->Prop)(to:TE)(t:TA):TE:=fun σ H Q=>to σ H fun x H1=>tyV K T x H1/\t σ H1 fun xs H2=>r x xs H2 Q
variable{o e:Expr}{es:List Expr}{to:TE}{t:TA}{name:Str}{apos cpos:Pos}{T id:String}{r:V->List V->Hp->VK->Prop}
theorem wq(pa:PlainAttrs T)(slot:Slot T name id)(hty:typeOf (.builtin id)=pure (.type "method_descriptor"))(hm:MtR X id r)(ho:PE X o to)
 (hbase:attributeBase o name X.env (eval o X.env)=eval o X.env:=by rfl)(hline:(apos.endLine == cpos.line)=true:=by rfl):PE X (.Call (.Attribute o name apos) [] [] cpos) (zU X.K T r to):=by
 intro pins s σ H Q I h
 refine wpAny_Call_method0_late hbase hline (thn (ho pins s σ H _ I h) fun v s1 ⟨x,H1,I1,r1,ty,q1⟩=>?_)
 obtain⟨h1,h2⟩:=x5 I1 r1 ty
 exact⟨T,id,pa,slot,hty,h1,h2,Calls.callWith_builtin rfl (PySem.evalArgs_none (hm pins s1 σ H1 x [] v [] Q I1 r1 .nil q1))⟩
theorem AG(pa:PlainAttrs T)(slot:Slot T name id)(hty:typeOf (.builtin id)=pure (.type "method_descriptor"))(hm:MtR X id r)(ho:PE X o to)(ha:PA X (e::es) t)
 (hbase:attributeBase o name X.env (eval o X.env)=eval o X.env:=by rfl)
 (hfew:((backTo cpos (starEach (e::es) X.env)).all (fun x=>!x.1)&&(backToKw cpos (keywordEach [] X.env)).all (fun x=>x.1.isSome)
   && decide ((e::es).length+([]:List Keyword).length+(if([]:List Keyword).isEmpty then 0 else 1)<30))=true:=by rfl)
 (hline:(apos.endLine == cpos.line)=true:=by rfl)(hs:starEach (e::es) X.env=(false,eval e X.env)::starEach es X.env:=by rfl)(hplain:(backTo cpos (starEach es X.env)).any (·.1)=false:=by rfl) :
  PE X (.Call (.Attribute o name apos) (e::es) [] cpos) (tBM X.K T r to t):=by
 intro pins s σ H Q I h
 refine wpAny_Call_method_late hbase hfew hline rfl (thn (ho pins s σ H _ I h) fun v s1 ⟨x,H1,I1,r1,ty,q1⟩=>?_)
 obtain⟨h1,h2⟩:=x5 I1 r1 ty
 refine⟨T,id,pa,slot,hty,h1,h2,?_⟩
 have hA:=ha cpos pins s1 σ H1 _ I1 q1
 rw[hs]at hA ⊢
 refine Calls.callWith_builtin (by show(false || (backTo cpos (starEach es X.env)).any (·.1))=false;rw[hplain]<;>rfl) (Calls.evalArgs_plain ?_)
 exact thn hA fun us s2 ⟨vs,H2,I2,r2,q2⟩=>hm pins s2 σ H2 x vs v us Q I2 r1 r2 q2
end
def MtM(X:Cx)(id:String)(r:V->List V->Hp->VK->Prop):Prop :=
 ∀ (pins:List (Addr × Obj)) (s:Shared) (σ:St) (H:Hp) (x:V) (xs:List V) (v:Value) (us:List Value) (Q:VK),Inv X pins σ H s->RelV x v->Vals xs us->r x xs H Q ->
  wpAny (model X.prog X.w) X.A (call (.builtin id) (v::us)) (EP X pins σ Q) X.xe s
theorem Vals.one:∀ {x:V} {us:List Value},Vals [x] us->∃ u,us=[u]/\RelV x u
 | _,_,.cons r .nil=>⟨_,rfl,r⟩
theorem Vals.zero:∀ {us:List Value},Vals [] us->us=[]
 | _,.nil=>rfl
theorem Vals.dropLast(h:Vals xs us):Vals xs.dropLast us.dropLast:=by
 induction h with
 | nil=>exact .nil
 |cons r t ih=>
  cases t with
  | nil=>exact .nil
  | cons q t'=>exact .cons r ih
theorem Vals.rep(h:Vals xs us):∀ k:Nat,Vals (List.replicate k xs).flatten (List.replicate k us).flatten
 | 0=>.nil
 | k+1=>by
  rw[List.replicate_succ,List.replicate_succ,List.flatten_cons,List.flatten_cons]
  exact Vals.append h (Vals.rep h k)
theorem uT(l:List α):l.eraseIdx (l.length-1)=l.dropLast:=by
 induction l with
 | nil=>rfl
 |cons a r ih=>
  cases r with
  | nil=>rfl
  |cons b r=>
   have e:(a::b::r).length-1=((b::r).length-1)+1:=by
    have h1:(a::b::r).length=r.length+2:=rfl
    have h2:(b::r).length=r.length+1:=rfl
    lia
   rw[e,List.eraseIdx_cons_succ,ih]
   all_goals rfl
theorem foldl_rep(its:List Value):∀ (k:Nat) (acc:List Value),
  List.foldl (fun x1 x2=>x1++x2) acc.toArray (List.replicate k its.toArray)=(acc++(List.replicate k its).flatten).toArray
 | 0,acc=>by simp
 | k+1,acc=>by
  have e:acc.toArray++its.toArray=(acc++its).toArray:=by simp
  have e2:(acc++its)++(List.replicate k its).flatten=acc++(List.replicate (k+1) its).flatten:=by
   rw[List.replicate_succ,List.flatten_cons,List.append_assoc]
  rw[<-e2,<-foldl_rep its k (acc++its),<-e,List.replicate_succ,List.foldl_cons]
section
variable{X:Cx}{pins:List (Addr × Obj)}{σ:St}{H:Hp}{s:Shared}{l b:Addr}{xs ys zs:List V}
theorem Inv.F8{its its':List Value}{n:Nat}{f:Array Value->Array Value}{t':Nat}(I:Inv X pins σ H s)(hH:H l=some (.lst xs))
 (e:s.heap.get? l=some { cls:=.type "list",data:=.seq its.toArray n })(hf:f its.toArray=its'.toArray)(hv:Vals ys its')(hz:ys.length<=sizeLine) :
  Inv X pins σ (upd H l (.lst ys)) { s with heap:=s.heap.update l (Obj.mapSeq f),toks:=t' }:=by
 have q:=PySem.IsL.update e f
 rw[hf]at q
 refine I.write (x:=l) (e:=l) (by rw[hH];exact trivial) (.inl rfl) (fun b' u hb hu=>(Heap.get?_update_other s.heap (Obj.mapSeq f) (Ne.symm hb)).trans hu) ⟨_,q⟩ ?_
 exact⟨hz,its',_,hv,q⟩
theorem Inv.Dt{t':Nat}(I:Inv X pins σ H s)(hv:Vals ys its)(hz:ys.length<=sizeLine) :
  Inv X pins σ (upd H s.heap.objs.size (.lst ys)) { s with heap:=s.heap.push { cls:=.type "list",data:=.seq its.toArray },toks:=t' } :=
 I.laid (fun _ _ q=>Heap.get?_push_of_some _ q) (Nat.le_refl _) ⟨hz,its,0,hv,Heap.get?_push_size _ rfl⟩
theorem Inv.fresh(I:Inv X pins σ H s):H s.heap.objs.size=none:=I.hok.fresh (Nat.le_refl _)
theorem Inv.qH(I:Inv X pins σ H s)(hH:H l=some (.lst xs)):xs.length<=sizeLine/\∃ (its:List Value) (n:Nat),Vals xs its/\xs.length=its.length/\s.heap.get? l=some { cls:=.type "list",data:=.seq its.toArray n }:=by
 obtain⟨z,its,n,r,e⟩:=I.hok l _ hH
 exact⟨z,its,n,r,r.length,e⟩
theorem yT{n:Nat}(h:n<=sizeLine):Builtin.List.listTooLong n=false:=by
 unfold Builtin.List.listTooLong
 exact decide_eq_false (by lia)
end
section
variable{X:Cx}
def tF:V->List V->Hp->VK->Prop:=fun x vs H Q=>∃ l xs y,x=.ref l/\vs=[y]/\H l=some (.lst xs)/\xs.length<sizeLine/\Q .non (upd H l (.lst (xs++[y])))
theorem pG:MtM X "list.append" tF:=by
 intro pins s σ H x vs v us Q I rx rv h
 obtain⟨l,xs,y,rfl,rfl,hH,hz,q⟩:=h
 cases rx
 obtain⟨u,rfl,ru⟩:=rv.one
 obtain⟨z,its,n,r,hl,e⟩:=I.qH hH
 refine call_meets F.slot_list_append ⟨_,e,rfl⟩ F.entry_list_append (F.args_list_append_2 _ _) (PySem.list_append l its.toArray n u (by rw[List.size_toArray];lia)) ⟨e,?_⟩
 refine⟨.non,_,I.F8 (its':=its++[u]) hH e (by simp) (r.append (.cons ru .nil)) ?_,rfl,q⟩
 rw[List.length_append,List.length_singleton]
 lia
def Ae:V->List V->Hp->VK->Prop:=fun x vs H Q=>∃ l xs y,x=.ref l/\vs=[]/\H l=some (.lst xs)/\xs[xs.length-1]?=some y/\Q y (upd H l (.lst xs.dropLast))
theorem wI:MtM X "list.pop" Ae:=by
 intro pins s σ H x vs v us Q I rx rv h
 obtain⟨l,xs,y,rfl,rfl,hH,hy,q⟩:=h
 cases rx
 have hus:=rv.zero
 subst hus
 obtain⟨z,its,n,r,hl,e⟩:=I.qH hH
 obtain⟨u,hu,ru⟩:=r.get hy
 have hy':its.toArray[its.toArray.size-1]?=some u:=by
  show its.toArray[its.length-1]?=some u
  rw[<-Array.getElem?_toList,<-hl]
  exact hu
 refine call_meets F.slot_list_pop ⟨_,e,rfl⟩ F.entry_list_pop (F.args_list_pop_1 _) (MeetsSeq.list_pop_last l its.toArray n u hy' (by rw[List.size_toArray];lia)) ⟨e,?_⟩
 refine⟨y,_,I.F8 (its':=its.dropLast) hH e ?_ r.dropLast ?_,ru,q⟩
 ·show its.toArray.eraseIdxIfInBounds (its.toArray.size-1)=its.dropLast.toArray
  rw[List.size_toArray,List.eraseIdxIfInBounds_toArray,uT]
 ·rw[List.length_dropLast]
  lia
def Hy:R2:=fun x y H Q=>∃ l b xs zs,x=.ref l/\y=.ref b/\H l=some (.lst xs)/\H b=some (.lst zs)/\xs.length+zs.length<=sizeLine/\∀ p,H p=none->Q (.ref p) (upd H p (.lst (xs++zs)))
theorem Dl:OpR X (binaryOp .Add) Hy:=by
 intro pins s σ H x y v u Q I rx ry h
 obtain⟨l,b,xs,zs,rfl,rfl,hH,hB,hz,q⟩:=h
 cases rx
 cases ry
 obtain⟨z,its,n,r,hl,e⟩:=I.qH hH
 obtain⟨z2,its2,n2,r2,hl2,e2⟩:=I.qH hB
 refine PySem.P.add_list e e2 ?_ (by rw[List.size_toArray,List.size_toArray];lia)
 have ea:its.toArray++its2.toArray=(its++its2).toArray:=by simp
 rw[ea]
 exact⟨.ref _,_,I.Dt (t':=s.toks) (r.append r2) (by rw[List.length_append];lia),rfl,q _ I.fresh⟩
def Hx:R2:=fun x y H Q=>∃ l k xs,x=.ref l/\y=.int k/\H l=some (.lst xs)/\-(2 ^ 63)<=k/\k<2 ^ 63/\xs.length*k.toNat<=sizeLine /\
 ∀ p,H p=none->Q (.ref p) (upd H p (.lst (List.replicate k.toNat xs).flatten))
theorem len_rep(xs:List α)(k:Nat):(List.replicate k xs).flatten.length=k*xs.length:=by
 induction k with
 | zero=>simp
 | succ k ih=>rw[List.replicate_succ,List.flatten_cons,List.length_append,ih,Nat.succ_mul,Nat.add_comm]
theorem EA:OpR X (binaryOp .Mult) Hx:=by
 intro pins s σ H x y v u Q I rx ry h
 obtain⟨l,k,xs,rfl,rfl,hH,h1,h2,hz,q⟩:=h
 cases rx
 obtain⟨t,rfl⟩:=ry
 obtain⟨z,its,n,r,hl,e⟩:=I.qH hH
 have hlen:its.toArray.size*k.toNat<=sizeLine:=by rw[List.size_toArray,<-hl];exact hz
 have hcap:¬ its.toArray.size*k.toNat > (2 ^ 63-1) / 8:=by
  have:(sizeLine:Nat)<=(2 ^ 63-1) / 8:=by decide
  lia
 have hfit:¬ (!Builtin.List.listFitsIndex k)=true:=by
  rw[fitsIndex_both h1 h2]
  exact Bool.false_ne_true
 have hlong:¬ Builtin.List.listTooLong (its.toArray.size*k.toNat)=true:=by
  rw[yT hlen]
  exact Bool.false_ne_true
 have hnew:List.foldl (fun x1 x2=>x1++x2) #[] (List.replicate (if its.toArray.isEmpty=true then 0 else k.toNat) its.toArray)=(List.replicate k.toNat its).flatten.toArray:=by
  have f0:∀ m:Nat,List.foldl (fun x1 x2=>x1++x2) #[] (List.replicate m its.toArray)=(List.replicate m its).flatten.toArray:=fun m=>by
   have:=foldl_rep its m []
   rw[List.nil_append]at this
   exact this
  rw[f0]
  cases its with
  | nil=>simp
  | cons a r'=>rw[if_neg (by simp)]
 refine wpAny_binaryOp_repeat_ref (T := "list") (U := "int") (by decide) ⟨_,e,rfl⟩ (fun s'=>typeIs_int s' k t) noFill_list_mul F.fills_int_mul F.slot_int_rmul repeat_list F.slot_int_index.lookup
  (call_meets F.slot_int_rmul (typeIs_int s k t) F.entry_int_rmul (F.args_int_rmul_2 _ _) (int___rmul___int_list k t l its.toArray n)
   ⟨e,rfl,⟨_,e,rfl⟩,call_meets F.slot_list_mul ⟨_,e,rfl⟩ F.entry_list_mul (F.args_list_mul_2 _ _) (AutoListH.list___mul___list_int_3 l its.toArray n k t hfit hcap hlong) ⟨e,?_⟩⟩)
 rw[hnew]
 exact⟨.ref _,_,I.Dt (t':=s.toks) (r.rep k.toNat) (by rw[len_rep,Nat.mul_comm];exact hz),rfl,q _ I.fresh⟩
end
section
variable{prog:Program}{w:World}{A:Around}{E:Value->Shared->Prop}{s:Shared}
set_option maxRecDepth 100000 in
end
section
variable{X:Cx}
end
section
variable{κ:Type} [DecidableEq κ]
def fq(kvs:List (κ × V))(k:κ):Option V:=(kvs.find? fun kv=>decide (kv.1=k)).map (·.2)
def putK(kvs:List (κ × V))(k:κ)(v:V):List (κ × V) :=
 if(kvs.any fun kv=>decide (kv.1=k))=true then kvs.map (fun kv=>if kv.1=k then(kv.1,v)else kv)else kvs++[(k,v)]
theorem jE{p:κ × V}{r:List (κ × V)}{k:κ}(e:p.1=k):fq (p::r) k=some p.2:=by simp[fq,List.find?_cons,e]
theorem j9{p:κ × V}{r:List (κ × V)}{k:κ}(e:¬ p.1=k):fq (p::r) k=fq r k:=by simp[fq,List.find?_cons,e]
theorem sf(k:κ):∀ kvs:List (κ × V),(kvs.any fun kv=>decide (kv.1=k))=(fq kvs k).isSome
 | []=>rfl
 | p::r=>by
  rw[List.any_cons]
  by_cases e:p.1=k
  ·simp only[jE e,decide_eq_true e,Bool.true_or,Option.isSome_some]
  ·rw[j9 e,decide_eq_false e,Bool.false_or];exact sf k r
theorem lV(kvs:List (κ × V))(k:κ)(v:V):(putK kvs k v).length<=kvs.length+1:=by
 unfold putK
 split
 ·rw[List.length_map];lia
 ·rw[List.length_append,List.length_cons,List.length_nil];lia
theorem gW.fU(r:gW o u):o.isSome=u.isSome:=by
 cases o with
 | none=>cases u with
  | none=>rfl
  | some _=>exact(show False from r).elim
 | some _=>cases u with
  | none=>exact(show False from r).elim
  | some _=>rfl
theorem KV.val(r:KV kvs vs)(k:κ):gW (fq kvs k) (valueAt vs k):=by
 unfold KV at r
 induction r with
 | nil=>exact True.intro
 |@cons p q ps qs h t ih=>
  obtain⟨h1,h2⟩:=h
  by_cases e:p.1=k
  ·have e':q.1=k:=h1.symm.trans e
   have b:valueAt (q::qs) k=some q.2:=by simp[valueAt,List.find?_cons,e']
   rw[jE e,b];exact h2
  ·have e':¬ q.1=k:=fun z=>e (h1.trans z)
   have b:valueAt (q::qs) k=valueAt qs k:=by simp[valueAt,List.find?_cons,e']
   rw[j9 e,b];exact ih
theorem KV.any(r:KV kvs vs)(k:κ):(kvs.any fun kv=>decide (kv.1=k))=vs.any fun kv=>decide (kv.1=k):=by
 unfold KV at r
 induction r with
 | nil=>rfl
 | cons h t ih=>rw[List.any_cons,List.any_cons,ih,h.1]
theorem KV.zu(r:KV kvs vs)(k:κ)(ry:RelV y u) :
  KV (kvs.map fun kv=>if kv.1=k then(kv.1,y)else kv) (vs.map fun kv=>if kv.1=k then(kv.1,u)else kv):=by
 unfold KV at r ⊢
 induction r with
 | nil=>exact .nil
 |@cons p q ps qs h t ih=>
  rw[List.map_cons,List.map_cons]
  refine .cons ?_ ih
  obtain⟨h1,h2⟩:=h
  by_cases e:p.1=k
  ·rw[if_pos e,if_pos (h1.symm.trans e)];exact⟨h1,ry⟩
  ·rw[if_neg e,if_neg (fun z=>e (h1.trans z))];exact⟨h1,h2⟩
theorem KV.put(r:KV kvs vs)(k:κ)(ry:RelV y u):KV (putK kvs k y) (stored vs k u):=by
 unfold putK stored
 rw[r.any k]
 by_cases e:(vs.any fun kv=>decide (kv.1=k))=true
 ·rw[if_pos e,if_pos e];exact r.zu k ry
 ·rw[if_neg e,if_neg e];exact Paired.snoc r ⟨rfl,ry⟩
theorem KV.length(r:KV kvs vs):kvs.length=vs.length:=Paired.length r
end
theorem nt{P:Program}{w:World}{k:Key}{u:Value}(r:RelV (kV k) u):(bZ P w).is k u=true:=by
 cases k with
 | inl i=>obtain⟨t,e⟩:=(show ∃ t,u=Value.int i t from r);subst e;exact sV P w i t
 | inr x=>obtain⟨t,e⟩:=(show ∃ t,u=Value.str x t from r);subst e;exact sS P w x t
theorem p9{P:Program}{w:World}:∀ {ks:List Key} {us:List Value},Vals (ks.map kV) us->ItemsAre (bZ P w) ks us
 | [],_,r=>by rw[List.map_nil]at r;cases r;exact .nil
 | k::ks,_,r=>by
  rw[List.map_cons]at r
  cases r with
  | cons h t=>exact .cons (nt h) (p9 t)
abbrev KT(H:Hp):List (List Key × V)->List (List Key × Addr × Value)->Prop:=Paired fun p q=>p.1=q.1/\H q.2.1=some (.tup (p.1.map kV))/\RelV p.2 q.2.2
theorem KT.val(r:KT H kvs xs)(k:List Key):gW (fq kvs k) ((atKey xs k).map (·.2)):=by
 induction r with
 | nil=>exact True.intro
 |@cons p q ps qs h t ih=>
  obtain⟨h1,_,h2⟩:=h
  by_cases e:p.1=k
  ·have e':q.1=k:=h1.symm.trans e
   have b:atKey (q::qs) k=some q.2:=by simp[atKey,List.find?_cons,e']
   rw[jE e,b];exact h2
  ·have e':¬ q.1=k:=fun z=>e (h1.trans z)
   have b:atKey (q::qs) k=atKey qs k:=by simp[atKey,List.find?_cons,e']
   rw[j9 e,b];exact ih
theorem KT.zu(r:KT H kvs xs)(k:List Key)(ry:RelV y u) :
  KT H (kvs.map fun kv=>if kv.1=k then(kv.1,y)else kv) (xs.map (putAt k u)):=by
 induction r with
 | nil=>exact .nil
 |@cons p q ps qs h t ih=>
  rw[List.map_cons,List.map_cons]
  refine .cons ?_ ih
  obtain⟨h1,h2,h3⟩:=h
  unfold putAt
  by_cases e:p.1=k
  ·rw[if_pos e,if_pos (h1.symm.trans e)];exact⟨h1,h2,ry⟩
  ·rw[if_neg e,if_neg (fun z=>e (h1.trans z))];exact⟨h1,h2,h3⟩
theorem KT.put(r:KT H kvs xs)(k:List Key){b:Addr}(hb:H b=some (.tup (k.map kV)))(ry:RelV y u) :
  KT H (putK kvs k y) (storedH xs k b u):=by
 have e:(kvs.any fun kv=>decide (kv.1=k))=(atKey xs k).isSome:=by
  rw[sf,(r.val k).fU,Option.isSome_map]
 unfold putK storedH
 rw[e]
 by_cases q:(atKey xs k).isSome=true
 ·rw[if_pos q,if_pos q];exact r.zu k ry
 ·rw[if_neg q,if_neg q];exact Paired.snoc r ⟨rfl,hb,ry⟩
theorem KT.keeps{H H':Hp}(r:KT H kvs xs)(ht:∀ b ys,H b=some (.tup ys)->H' b=some (.tup ys)):KT H' kvs xs :=
 Paired.Af r fun _ _ z=>⟨z.1,ht _ _ z.2.1,z.2.2⟩
section
variable{P:Program}{w:World}{H:Hp}{h:Heap}{a:Addr}
theorem Ay(ok:HOk P w H h)(e:Rd H a u):bB P w H h a u:=e.ok ok
theorem kT{kvs:List (Key × V)}(ok:HOk P w H h)(e:Rd H a (.dK kvs)):kvs.length<=sizeLine/\(a == sysModules)=false/\∃ vs,KV kvs vs/\h.DictOf (bZ P w) a vs :=
 show bB P w H h a (.dK kvs)from Ay ok e
theorem FU{kvs:List (Key × V)}(ok:HOk P w H h)(e:H a=some (.dK kvs)):kvs.length<=sizeLine/\(a == sysModules)=false/\∃ vs,KV kvs vs/\h.DictOf (bZ P w) a vs:=kT ok (.inl e)
theorem kL{ks:List Key}(ok:HOk P w H h)(e:H a=some (.tup (ks.map kV))):(tupleKind (bZ P w)).is h ks a:=by
 obtain⟨_,its,r,o,h1,h2,n,h3⟩:=(show bB P w H h a (.tup (ks.map kV))from ok a _ e)
 exact⟨o,its.toArray,n,h1,h2,h3,by simpa using p9 r⟩
theorem mU{kvs:List (List Key × V)}(ok:HOk P w H h)(e:Rd H a (.dT kvs)):kvs.length<=sizeLine/\(a == sysModules)=false /\
  ∃ xs,KT H kvs xs/\h.DictOfH (tupleKind (bZ P w)) a xs:=by
 obtain⟨z,y,xs,r,o,es,ep,h1,h2,h3,h4,h5⟩:=(show bB P w H h a (.dT kvs)from Ay ok e)
 refine⟨z,y,xs,r,o,es,ep,h1,h2,h3,h4,fun x hx=>?_,h5⟩
 have all:∀ {l:List (List Key × V)} {m:List (List Key × Addr × Value)},KT H l m->∀ x∈m,(tupleKind (bZ P w)).is h x.1 x.2.1:=by
  intro l m q
  induction q with
  | nil=>intro x hx;exact nomatch hx
  |@cons p q ps qs hq t ih=>
   intro x hx
   rcases List.mem_cons.mp hx with e | hx
   ·subst e
    exact kL ok (by rw[<-hq.1];exact hq.2.1)
   ·exact ih x hx
 exact all r x hx
theorem G1{kvs:List (List Key × V)}(ok:HOk P w H h)(e:H a=some (.dT kvs)):kvs.length<=sizeLine/\(a == sysModules)=false /\
  ∃ xs,KT H kvs xs/\h.DictOfH (tupleKind (bZ P w)) a xs:=mU ok (.inl e)
end
def eL(H:Hp)(a:Addr)(y:V)(r:Option V):Prop :=
 (∃ kvs k,Rd H a (.dK kvs)/\y=kV k/\r=fq kvs k)\/∃ kvs k b,Rd H a (.dT kvs)/\y=.ref b/\H b=some (.tup (k.map kV))/\r=fq kvs k
def kC(H:Hp)(a:Addr)(y v:V)(H':Hp):Prop :=
 (∃ kvs k,H a=some (.dK kvs)/\y=kV k/\kvs.length<sizeLine/\H'=upd H a (.dK (putK kvs k v))) \/
 ∃ kvs k b,H a=some (.dT kvs)/\y=.ref b/\H b=some (.tup (k.map kV))/\kvs.length<sizeLine/\H'=upd H a (.dT (putK kvs k v))
theorem eL.k{H:Hp}{a:Addr}{kvs:List (Key × V)}{k:Key}(e:H a=some (.dK kvs)):eL H a (kV k) (fq kvs k):=.inl ⟨kvs,k,.inl e,rfl,rfl⟩
theorem eL.t{H:Hp}{a b:Addr}{kvs:List (List Key × V)}{k:List Key}(e:H a=some (.dT kvs))(eb:H b=some (.tup (k.map kV))):eL H a (.ref b) (fq kvs k):=.inr ⟨kvs,k,b,.inl e,rfl,eb,rfl⟩
theorem kC.k{H:Hp}{a:Addr}{kvs:List (Key × V)}{k:Key}{v:V}(e:H a=some (.dK kvs))(hl:kvs.length<sizeLine):kC H a (kV k) v (upd H a (.dK (putK kvs k v))):=.inl ⟨kvs,k,e,rfl,hl,rfl⟩
theorem kC.t{H:Hp}{a b:Addr}{kvs:List (List Key × V)}{k:List Key}{v:V}(e:H a=some (.dT kvs))(eb:H b=some (.tup (k.map kV)))(hl:kvs.length<sizeLine) :
  kC H a (.ref b) v (upd H a (.dT (putK kvs k v))):=.inr ⟨kvs,k,b,e,rfl,eb,hl,rfl⟩
section
variable{X:Cx}{pins:List (Addr × Obj)}{σ:St}{H:Hp}{s:Shared}{a:Addr}{y v:V}{u r:Value}{o:Option V}{A:Around}{E:Value->Shared->Prop}
theorem Inv.big(I:Inv X pins σ H s):sysModules<s.heap.objs.size:=by
 have h:mainGlobals<s.heap.objs.size:=(I.mod.glob.keeps I.bk).lt
 exact Nat.lt_trans (by decide) h
theorem xw{Q:Value->Shared->Prop}(hu:A.units+1<cLine)(I:Inv X pins σ H s)(g:eL H a y (some v))(ry:RelV y u)(h:∀ w' s',Inv X pins σ H s'->RelV v w'->Q w' s') :
  wpAny (model X.prog X.w) A (getItem (.ref a) u) Q E s:=by
 rcases g with⟨kvs,k,e,ey,l⟩ | ⟨kvs,k,b,e,ey,eb,l⟩
 ·subst ey
  obtain⟨z,hd,vs,rel,dd⟩:=kT I.hok e
  obtain⟨w',hw,rw'⟩:=gW.some_of (v:=v) (o:=valueAt vs k) (by rw[l];exact rel.val k)
  exact wpAny_getItem_of (nt ry) dd.mapOf hw (h w' _ (I.tok _) rw')
 ·subst ey
  cases(show u=Value.ref b from ry)
  obtain⟨z,hd,xs,rel,dd⟩:=mU I.hok e
  obtain⟨w',hw,rw'⟩:=gW.some_of (v:=v) (o:=(atKey xs k).map (·.2)) (by rw[l];exact rel.val k)
  obtain⟨p,hp,hp2⟩:=Option.map_eq_some_iff.mp hw
  refine wpAny_getItem_heap (tupleKind_room_in1 hu) (kL I.hok eb) dd hp ?_
  rw[hp2]
  exact h w' _ (I.tok _) rw'
theorem HB{Q:Value->Shared->Prop}(hu:A.units+1<cLine)(I:Inv X pins σ H s)(g:eL H a y o)(ry:RelV y u)(h:∀ s',Inv X pins σ H s'->Q (.bool o.isSome) s') :
  wpAny (model X.prog X.w) A (compareOp .In u (.ref a)) Q E s:=by
 rcases g with⟨kvs,k,e,ey,l⟩ | ⟨kvs,k,b,e,ey,eb,l⟩
 ·subst ey
  obtain⟨z,hd,vs,rel,dd⟩:=kT I.hok e
  refine wpAny_in_of (nt ry) hd dd.mapOf ?_
  rw[<-(rel.val k).fU,<-l]
  exact h _ (I.tok _)
 ·subst ey
  cases(show u=Value.ref b from ry)
  obtain⟨z,hd,xs,rel,dd⟩:=mU I.hok e
  refine wpAny_in_heap (tupleKind_room_in1 hu) (kL I.hok eb) hd dd ?_
  have q:=(rel.val k).fU
  rw[Option.isSome_map]at q
  rw[<-q,<-l]
  exact h _ (I.tok _)
theorem Cf{Q:Value->Shared->Prop}(hu:A.units+1<cLine)(I:Inv X pins σ H s)(g:eL H a y o)(ry:RelV y u)(h:∀ s',Inv X pins σ H s'->Q (.bool (!o.isSome)) s') :
  wpAny (model X.prog X.w) A (compareOp .NotIn u (.ref a)) Q E s:=by
 rcases g with⟨kvs,k,e,ey,l⟩ | ⟨kvs,k,b,e,ey,eb,l⟩
 ·subst ey
  obtain⟨z,hd,vs,rel,dd⟩:=kT I.hok e
  refine wpAny_notIn_of (nt ry) hd dd.mapOf ?_
  rw[<-(rel.val k).fU,<-l]
  exact h _ (I.tok _)
 ·subst ey
  cases(show u=Value.ref b from ry)
  obtain⟨z,hd,xs,rel,dd⟩:=mU I.hok e
  refine wpAny_notIn_heap (tupleKind_room_in1 hu) (kL I.hok eb) hd dd ?_
  have q:=(rel.val k).fU
  rw[Option.isSome_map]at q
  rw[<-q,<-l]
  exact h _ (I.tok _)
theorem ux{h':Heap}{t':Nat}{ob:HO}(I:Inv X pins σ H s)(mu:Mut (H a))(hs:Heap.SameBut a s.heap h')(he:∃ q,h'.get? a=some q)(new:bB X.prog X.w (upd H a ob) h' a ob) :
  Inv X pins σ (upd H a ob) { s with heap:=h',toks:=t' } :=
 I.write (x:=a) (e:=a) mu (.inl rfl) (fun b q hb z=>(hs.2 b hb).trans z) he new
theorem DW{P:Program}{w:World}{H':Hp}{h':Heap}{kvs:List (Key × V)}(z:kvs.length<=sizeLine)(hd:(a == sysModules)=false)(rel:KV kvs vs)(dd:h'.DictOf (bZ P w) a vs) :
  bB P w H' h' a (.dK kvs):=⟨z,hd,vs,rel,dd⟩
theorem xQ{Q:Unit->Shared->Prop}(hu:A.units+1<cLine)(I:Inv X pins σ H s)(g:kC H a y v H')(ry:RelV y u)(rv:RelV v r)(h:∀ s',Inv X pins σ H' s'->Q () s') :
  wpAny (model X.prog X.w) A (setItem (.ref a) u r) Q E s:=by
 rcases g with⟨kvs,k,e,ey,l,eH⟩ | ⟨kvs,k,b,e,ey,eb,l,eH⟩
 ·subst ey eH
  obtain⟨z,hd,vs,rel,dd⟩:=FU I.hok e
  have hz:vs.length<=sizeLine:=by rw[<-rel.length];exact z
  have hl:(putK kvs k v).length<=sizeLine:=by have:=lV kvs k v;lia
  refine wpAny_setItem_pairs (hsz:=hz) (nt ry) dd fun h' dd' hs=>h _ ?_
  have he:∃ q,h'.get? a=some q:=let ⟨q,_,_,hq,_⟩:=dd';⟨q,hq⟩
  exact ux I (by rw[e];exact True.intro) hs he (DW hl hd (rel.put k rv) dd')
 ·subst ey eH
  cases(show u=Value.ref b from ry)
  obtain⟨z,hd,xs,rel,dd⟩:=G1 I.hok e
  have hz:xs.length<=sizeLine:=by rw[<-Paired.length rel];exact z
  have hl:(putK kvs k v).length<=sizeLine:=by have:=lV kvs k v;lia
  refine wpAny_setItem_heap (hsz:=hz) (tupleKind_room_in1 hu) (kL I.hok eb) dd fun h' dd' hs=>h _ ?_
  obtain⟨q,es,ep,hq,h2,h3,h4,_,h5⟩:=dd'
  refine ux I (by rw[e];exact True.intro) hs ⟨q,hq⟩ ⟨hl,hd,_,(rel.put k eb rv).keeps fun c ys ec=>?_,q,es,ep,hq,h2,h3,h4,h5⟩
  rw[aV (uS ec e (fun z=>nomatch z))]
  exact ec
end
section
variable{X:Cx}{pins:List (Addr × Obj)}{σ:St}{H:Hp}{s:Shared}{a:Addr}{kvs:List (Key × V)}{k:Key}{u:Value}{A:Around}{E:Value->Shared->Prop}
theorem FT{Q:Value->Shared->Prop}(I:Inv X pins σ H s)(e:Rd H a (.dK kvs))(h:∀ t s',Inv X pins σ H s'->Q (.int kvs.length t) s'):wpAny (model X.prog X.w) A (call (.builtin "len") [.ref a]) Q E s:=by
 obtain⟨z,hd,vs,rel,dd⟩:=kT I.hok e
 refine call_len_dict hd dd (by rw[<-rel.length];rw[sizeLine_eq]at z;lia) ?_
 rw[<-rel.length]
 exact h _ _ (I.tok _)
end
def vC(i:Expr):Prop:=∀ ov iv,subscripted i false ov iv=operate [ov,iv] (getItem ov iv)
theorem AQ{prog:Program}{w:World}{A:Around}{E:Value->Shared->Prop}{s:Shared}{env:Env}{value slice:Expr}{pos:Pos}{T id:String}{Q:Value->Shared->Prop}
 (hl:typeLookup (.type T) "__getitem__" = pure (some (.builtin id)))(hs:vC slice)
 (h:wpAny (model prog w) A (eval value env) (fun o s₁=>wpAny (model prog w) A (eval slice env) (fun i s₂=>s₂.TypeIs o T/\wpAny (model prog w) A (getItem o i) Q E s₂) E s₁) E s) :
  wpAny (model prog w) A (eval (.Subscript value slice pos) env) Q E s:=by
 refine Subscript_ (wpAny_mono h (fun o s₁ h₁=>wpAny_mono h₁ (fun i s₂ h₂=>?_) fun _ _ x=>x) fun _ _ x=>x)
 obtain⟨hT,h₂⟩:=h₂
 unfold subscriptTail
 refine wpAny_bind ?_
 rw[getitemInPython_of_ne hT.not_modules]
 refine wpAny_bind (wpAny_specialOf hT hl ?_)
 have fin:wpAny (model prog w) A (subscripted slice false o i) (fun r s₃=>wpAny (model prog w) A (letTemporaryGo value o r >>= fun _=>pure r) Q E s₃) E s₂:=by
  rw[hs o i]
  exact wpAny_operating (wpAny_mono h₂ (fun r s₃ h₃=>wpAny_bind (wpAny_letTemporaryGo (wpAny_pure h₃))) fun _ _ x=>x)
 first
  | exact wpAny_pure (wpAny_bind fin)
  | exact wpAny_bind (wpAny_pure (wpAny_bind fin))
  | exact wpAny_bind fin
theorem sU(I:Inv X pins σ H s)(g:eL H a y o):s.TypeIs (.ref a) "dict" := by
 rcases g with⟨kvs,k,e,_,_⟩ | ⟨kvs,k,b,e,_,_,_⟩
 ·obtain⟨_,_,vs,_,dd⟩:=kT I.hok e
  exact dd.typeIs
 ·obtain⟨_,_,xs,_,dd⟩:=mU I.hok e
  exact dd.typeIs
def FC(td ty:TE):TE:=fun σ H Q=>td σ H fun x H1=>ty σ H1 fun y H2=>∃ a v,x=.ref a/\eL H2 a y (some v)/\Q v H2
def CV(ty td:TE):TE:=fun σ H Q=>ty σ H fun y H1=>td σ H1 fun x H2=>∃ a o,x=.ref a/\eL H2 a y o/\Q (.bl o.isSome) H2
def tw(ty td:TE):TE:=fun σ H Q=>ty σ H fun y H1=>td σ H1 fun x H2=>∃ a o,x=.ref a/\eL H2 a y o/\Q (.bl (!o.isSome)) H2
def uY(td ty tv:TE):TS:=fun D σ H=>tv σ H fun v H1=>td σ H1 fun x H2=>ty σ H2 fun y H3=>∃ a H4,x=.ref a/\kC H3 a y v H4/\D.nx σ H4
section
variable{X:Cx}{o i e value:Expr}{pos pos' tpos:Pos}{td ty tv:TE}
theorem Ba(hu:X.A.units+1<cLine)(ho:PE X o td)(hi:PE X i ty)(hs:vC i):PE X (.Subscript o i pos) (FC td ty):=by
 intro pins s σ H Q I h
 refine AQ PySem.F.slot_dict_getitem.lookup hs (thn (ho pins s σ H _ I h) fun u s1 ⟨x,H1,I1,rx,q1⟩=>thn (hi pins s1 σ H1 _ I1 q1) fun iv s2 ⟨y,H2,I2,ry,a,v,ex,g,q2⟩=>?_)
 subst ex
 obtain rfl:u=Value.ref a:=rx
 exact⟨sU I2 g,xw hu I2 g ry fun w' s3 I3 rw'=>⟨v,H2,I3,rw',q2⟩⟩
theorem DU(hu:X.A.units+1<cLine)(hi:PE X i ty)(ho:PE X o td):PC X .In i o (CV ty td):=by
 intro pins s σ H Q I h
 refine thn (hi pins s σ H _ I h) fun iv s1 ⟨y,H1,I1,ry,q1⟩=>thn (ho pins s1 σ H1 _ I1 q1) fun u s2 ⟨x,H2,I2,rx,a,ov,ex,g,q2⟩=>?_
 subst ex
 obtain rfl:u=Value.ref a:=rx
 exact HB hu I2 g ry fun s3 I3=>⟨.bl ov.isSome,H2,I3,rfl,q2⟩
theorem vU(hu:X.A.units+1<cLine)(hi:PE X i ty)(ho:PE X o td):PC X .NotIn i o (tw ty td):=by
 intro pins s σ H Q I h
 refine thn (hi pins s σ H _ I h) fun iv s1 ⟨y,H1,I1,ry,q1⟩=>thn (ho pins s1 σ H1 _ I1 q1) fun u s2 ⟨x,H2,I2,rx,a,ov,ex,g,q2⟩=>?_
 subst ex
 obtain rfl:u=Value.ref a:=rx
 exact Cf hu I2 g ry fun s3 I3=>⟨.bl (!ov.isSome),H2,I3,rfl,q2⟩
theorem B6(hu:X.A.units+1<cLine)(ho:PE X o td)(hi:PE X i ty)(hv:PE X value tv)(hs:swapsWith value (some (.Subscript o i pos')) pos.line X.env=pure false) :
  PS X (.Assign [.Subscript o i pos'] value pos) (uY td ty tv):=by
 intro pins s σ H D I h
 refine wpAny_Assign_Subscript (thn (hv pins s σ H _ I h) fun r s1 ⟨v,H1,I1,rv,q1⟩=>thn (ho pins s1 σ H1 _ I1 q1) fun u s2 ⟨x,H2,I2,rx,q2⟩=>thn (hi pins s2 σ H2 _ I2 q2) fun iv s3 ⟨y,H3,I3,ry,a,H4,ex,g,q3⟩=>?_) hs
 subst ex
 obtain rfl:u=Value.ref a:=rx
 exact xQ hu I3 g ry rv fun s4 I4=>⟨σ,H4,I4,q3⟩
end
theorem Aj{P:Program}{w:World}{H:Hp}(h:Heap)(hb:sysModules<h.objs.size):bB P w H (h.push { cls:=.type "dict",data:=.dict #[] }) h.objs.size (.dK []) :=
 ⟨Nat.zero_le _,beq_eq_false_iff_ne.mpr (Ne.symm (Nat.ne_of_lt hb)),[],.nil,Heap.DictOf.new h⟩
theorem ze{P:Program}{w:World}{H:Hp}(h:Heap)(hb:sysModules<h.objs.size):bB P w H (h.push { cls:=.type "dict",data:=.dict #[] }) h.objs.size (.dT []) :=
 ⟨Nat.zero_le _,beq_eq_false_iff_ne.mpr (Ne.symm (Nat.ne_of_lt hb)),[],.nil,_,#[],0,Heap.get?_push_size _ rfl,⟨rfl,rfl,rfl⟩,rfl,rfl,List.nodup_nil⟩
def F3:TE:=fun _ H Q=>∀ p,H p=none->Q (.ref p) (upd H p (.dK []))
def CQ:TE:=fun _ H Q=>∀ p,H p=none->Q (.ref p) (upd H p (.dT []))
section
variable{X:Cx}{pos:Pos}
theorem za:PE X (.Dict [] [] pos) F3:=fun pins s σ H Q I h =>
 wpAny_Dict_empty ⟨.ref s.heap.objs.size,_,I.laid (a:=s.heap.objs.size) (o:=.dK []) (t':=s.toks) (fun _ _ q=>Heap.get?_push_of_some _ q) (Nat.le_refl _) (Aj s.heap I.big),rfl,h _ (I.hok.fresh (Nat.le_refl _))⟩
theorem Ab:PE X (.Dict [] [] pos) CQ:=fun pins s σ H Q I h =>
 wpAny_Dict_empty ⟨.ref s.heap.objs.size,_,I.laid (a:=s.heap.objs.size) (o:=.dT []) (t':=s.toks) (fun _ _ q=>Heap.get?_push_of_some _ q) (Nat.le_refl _) (ze s.heap I.big),rfl,h _ (I.hok.fresh (Nat.le_refl _))⟩
end
section
variable{X:Cx}{pins:List (Addr × Obj)}{σ:St}{H:Hp}{s:Shared}{a:Addr}{y d:V}{u r:Value}{o:Option V}{A:Around}{E:Value->Shared->Prop}
end
section
variable{X:Cx}{o e f:Expr}{apos cpos:Pos}{td ty tx:TE}
end
section
variable{X:Cx}{pins:List (Addr × Obj)}{σ:St}{H:Hp}{s:Shared}{a:Addr}{kvs:List (Key × V)}{A:Around}{E:Value->Shared->Prop}
end
section
variable{X:Cx}{pins:List (Addr × Obj)}{σ:St}{H:Hp}{s:Shared}{a:Addr}{y:V}{u:Value}{A:Around}{E:Value->Shared->Prop}
end
end L2
namespace Att
open PySem PySem.W PySem.Calls PyProof.Rows
theorem mT{P:Params}{h:Heap}:∀ (ns:List Int) (vs:List Value),WellAll P h vs (ns.map WData.int)->IntsAre vs ns:=by
 intro ns
 induction ns with
 |nil=>
  intro vs w
  rw[List.map_nil]at w
  cases w
  exact .nil
 |cons n ns ih=>
  intro vs w
  rw[List.map_cons]at w
  cases w with
  |cons a b=>
   cases a
   exact .cons _ _ (ih _ b)
theorem wL{l:OpenLaw}{n:Nat}(hn:l.most=some n){P:Params}{h:Heap}{args:List WData}{vals:List Value}
 (hpre:l.row.toRowW.claim.pre args=true)(hwl:WellAll P h vals args) :
  ∃ a vs ns,vals=[Value.ref a]/\args=[WData.list (ns.map WData.int)]/\h.get? a=some { cls:=.type "list",data:=.seq vs.toArray }/\IntsAre vs ns/\ns.length<=n:=by
 have hsh:WShape.hasAll [] args [.list .int]=true:=(pre_splitW hpre).1
 have hc:l.pre.holds [] { args:=args }=true:=(pre_splitW hpre).2
 obtain⟨d,r,rfl,h1,h2⟩:=hasAllW_cons hsh
 obtain rfl:=hasAllW_nil h2
 obtain⟨xs,rfl,h3⟩:=hasW_list h1
 obtain⟨ns,rfl⟩:=items_int h3
 have hlen:ns.length<=n:=by
  unfold OpenLaw.pre at hc
  have h4:(WTm.not (.lt (.lit (.int (n:Int))) (.len (.arg 0)))).holds [] { args:=[.list (ns.map .int)] }=true:=by
   have h4:=(holds_andW hc).1
   rw[hn]at h4
   exact h4
  have h5:=condW_of h4 (w_not (w_lt w_lit (w_len_list (w_arg rfl))))
  rw[List.length_map]at h5
  refine Nat.le_of_not_lt fun q=>?_
  have q':(n:Int)<((ns.length:Nat):Int):=by omega
  first
   | (rw[decide_eq_true q']at h5;exact absurd h5 (by decide))
   | (simp at h5;omega)
 cases hwl with
 |cons w1 w2=>
  cases w2
  cases w1 with
  | list ho hall=>exact⟨_,_,ns,rfl,rfl,ho,mT ns _ hall,hlen⟩
theorem wV(l:OpenLaw)(args:List WData):l.row.toRowW.claim.post args (.bool true) args=true :=
 postW_of (r:=l.row.toRowW) (X:=(true == true))
  (show WShape.has [] (.bool true) .bool=true by first | rfl | decide | simp[WShape.has,WShape.arms,WShape.armsAll])
  (show(WTm.eq .res (.lit (.bool true))).value [] { args:=args,res:=some (.bool true),after:=args }=some (.bool (true == true))from w_eq_bool (w_res rfl) w_lit) rfl
theorem sY{l:OpenLaw}{n:Nat}{q:Program}{loose:List Str}{XP:(Str->Option Value)->Heap->Prop}{YP:World->Heap->Prop}{d:DefRec}
 (hn:l.most=some n)(hdf:d.params.defaults=[])
 (call:∀ (w:World) (s₀ s₁:Shared) (mg mb:Str->Option Value) (fa:Addr) (o:Obj) (pm cd doc:Value) (a:Addr) (vs:List Value) (ns:List Int),
   Ground q loose [] XP w s₀ mg mb s₁.heap->YP w s₁.heap ->
   s₁.heap.get? fa=some o->o.data=.func (docDef d.name d.params d.body d.scope pm cd doc)->s₁.heap.CodeRec cd d.name->mg d.name=some (.ref fa) ->
   s₁.heap.get? a=some { cls:=.type "list",data:=.seq vs.toArray }->IntsAre vs ns->ns.length<=n->s₁.gens=#[] ->
   codeAny (model l.prog w) callerA (.call (.ref fa) ⟨[.ref a],[]⟩) (fun r s'=>r=.ok (.ret (.bool true))/\OldK s₁.heap s'.heap/\s'.os=s₁.os/\AllBare s'.gens) s₁) :
  WalkO q loose XP YP l.row.toRowW d [] (fun f vs=>PySem.call f vs):=by
 intro w s₀ s₁ mg mb G Y fa o pm cd doc dV kV ho hd hcd hD hmg hg args vals as hpre hlay hrd hwl hlo
 obtain rfl:dV=.none:=Dflts.none hD hdf
 obtain rfl:kV=.none:=Dflts.noKw hD
 obtain⟨a,vs,ns,rfl,rfl,hobj,hints,hlen⟩:=wL hn hpre hwl
 refine enter_call (codeAny_mono (call w s₀ s₁ mg mb fa o pm cd doc a vs ns G Y ho (fd_plain hd) hcd hmg hobj hints hlen hg) fun r s' hq=>?_)
 obtain⟨rfl,h2,h3,h4⟩:=hq
 exact⟨.inl ⟨.bool true,.bool true,[],rfl,fun _=>rfl,.bool true,wV l _,fun _=>⟨List.Pairwise.nil,fun _ hm=>(nomatch hm)⟩⟩,h2,h3,h4⟩
section
variable{prog:Program}{w:World}{A:Around}{E:Value->Shared->Prop}{s:Shared}{K:Frag}
end
end Att
namespace L2
open PySem PySem.Spec PyProof.Rows
theorem kE:∀ {vs:List Value} {ns:List Int},IntsAre vs ns->Vals (ns.map V.int) vs
 | _,_,.nil=>.nil
 | _,_,.cons n t h=>.cons ⟨t,rfl⟩ (kE h)
def rj(H:Hp):Prop:=∀ b,H b=none\/∃ o xs,H b=some (.frz o (.lst xs))
theorem zo{P:Program}{w:World}{K:PySem.W.Frag}{mg mb:Str->Option Value}{CX:CXT}{k:Nat}{fa a:Addr}{fd:FuncData}{x:Str}{sp:Sp}{s₁:Shared}{vs:List Value}{ns:List Int}
 (KX:K.In s₁.heap)(hns:s₁.heap.Ns mainGlobals mg)(hb:s₁.heap.Ns builtinsNs mb)(hbb:∀ x:Str,x ≠ "__name__" -> mb x=bootBuiltins x)(hlim:s₁.heap.NoLimit)(hg:s₁.gens=#[])
 (ha:s₁.heap.get? a=some { cls:=.type "list",data:=.seq vs.toArray })(hi:IntsAre vs ns)(hl:ns.length<=sizeLine)(hr:eu k callerA)
 (F:∀ base:Heap,K.In base->base.Ns mainGlobals mg->i9 P w K mg base CX k fa fd [x] sp)(hbind:∀ (s:Shared) (u:Value),BindsTo s fd ⟨[u],[]⟩ [(x,u)])
 (hsp:∀ H:Hp,rj H->SqL K H a (ns.map V.int)->sp [.ref a] H (fun v _=>v=.bl true) fun _ _ _=>False)
 (hCX:∀ H e s',CX [] H s₁ (fun _ _ _=>False) e s'->False) :
  codeAny (model P w) callerA (.call (.ref fa) ⟨[.ref a],[]⟩) (fun r s'=>r=.ok (.ret (.bool true))/\OldK s₁.heap s'.heap/\s'.os=s₁.os/\AllBare s'.gens) s₁:=by
 have rv:=kE hi
 have lenV:=hi.length
 have core:∀ H:Hp,rj H->SqL K H a (ns.map V.int)->HOk P w H s₁.heap->(∀ b,H b≠none->b=a)->(H a≠none->K.lookup a=none) ->
   codeAny (model P w) callerA (.call (.ref fa) ⟨[.ref a],[]⟩) (fun r s'=>r=.ok (.ret (.bool true))/\OldK s₁.heap s'.heap/\s'.os=s₁.os/\AllBare s'.gens) s₁:=by
  intro H hO hS hok hA hK
  have base_of:∀ {b:Addr} {o:Obj},s₁.heap.get? b=some o->H b=none->(jq s₁.heap H).get? b=some o:=fun e n=>zB e n
  have noA:∀ {b:Addr} {o:Obj} {es:Array DictEntry} {ep:Nat},s₁.heap.get? b=some o->o.data=.dict es ep->H b=none:=fun {b o es ep} e d=>by
   cases q:H b with
   | none=>rfl
   |some u=>
    have e':b=a:=hA b (by rw[q];simp)
    subst e'
    rw[ha]at e;cases e
    have d':Data.seq vs.toArray _=Data.dict es ep:=d
    cases d'
  have nsK:∀ {b:Addr} {m:Str->Option Value},s₁.heap.Ns b m->(jq s₁.heap H).Ns b m:=fun {b m} ⟨o,es,ep,e,d,r⟩=>⟨o,es,ep,base_of e (noA e d),d,r⟩
  have hKb:K.In (jq s₁.heap H):=fun b o e=>base_of (KX b o e) (by
   cases q:H b with
   | none=>rfl
   |some u=>
    have e':b=a:=hA b (by rw[q];simp)
    subst e'
    rw[hK (by rw[q];simp)]at e;cases e)
  have hM:Mod K mg (jq s₁.heap H):=⟨hKb,nsK hns,⟨mb,nsK hb,hbb⟩,let ⟨mc,h1,h2⟩:=hlim;⟨mc,nsK h1,h2⟩⟩
  have e0:uZ P w K mg (jq s₁.heap H) callerA [] s₁ H:=⟨rfl,hM,fun b o e=>Cr e,Nat.le_of_eq (wd _ _),trivial,fun b hb=>absurd (show b∈([]:List Addr)from hb) (by simp),hok,.of_eq hg⟩
  refine codeAny_mono ((F _ hKb (nsK hns)).run callerA [] s₁ H ⟨[.ref a],[]⟩ [.ref a] [.ref a] _ _ hr e0 (hbind s₁ (.ref a)) (.cons rfl .nil) (hsp H hO hS)) fun r s' h=>?_
  cases r with
  | error e=>exact(hCX H e s' h).elim
  |ok fl=>
   cases fl with
   | next=>exact False.elim h
   | brk=>exact False.elim h
   | cont=>exact False.elim h
   |ret u=>
    obtain⟨v,H',os,bare,un,hok',r',q⟩:=h
    have q':v=.bl true:=q
    subst q'
    obtain rfl:u=Value.bool true:=r'
    refine⟨rfl,OldK.of_keep fun b o e=>?_,os,bare⟩
    cases q:H b with
    | none=>exact un.keep b o e q (by intro z;exact absurd (show b∈([]:List Addr)from z) (by simp)) (by simp)
    |some u=>
     rcases hO b with z | ⟨ob,xs,z⟩
     ·rw[q]at z;cases z
     ·have z2:=un.jy b ob _ z
      obtain⟨e1,_⟩:=hok b _ z
      obtain⟨e2,_⟩:=hok' b _ z2
      rw[e]at e1;cases e1
      exact e2
 cases hk:K.lookup a with
 |some o=>
  have e:=KX a o hk
  rw[ha]at e
  cases e
  refine core (fun _=>none) (fun _=>.inl rfl) (.inr ⟨_,vs.toArray,_,hk,rfl,rfl,rfl,by rw[List.size_toArray,lenV];exact hl,by simpa using rv⟩) (fun b u z=>by have z':(none:Option HO)=some u:=z;cases z') (fun b z=>absurd rfl z) fun z=>absurd rfl z
 |none=>
  refine core (fun b=>if b=a then some (.frz { cls:=.type "list",data:=.seq vs.toArray } (.lst (ns.map V.int)))else none) (fun b=>?_) (.inl (.inr ⟨{ cls:=.type "list",data:=.seq vs.toArray },if_pos rfl⟩)) (fun b u z=>?_) (fun b z=>?_) fun _=>hk
  ·by_cases hb:b=a
   ·exact .inr ⟨_,_,if_pos hb⟩
   ·exact .inl (if_neg hb)
  ·by_cases hb:b=a
   ·have z':=(if_pos hb).symm.trans z
    cases z'
    subst hb
    exact⟨ha,by rw[List.length_map];exact hl,vs,_,rv,ha⟩
   ·have z':=(if_neg hb).symm.trans z
    cases z'
  ·by_cases hb:b=a
   ·exact hb
   ·exact absurd (if_neg hb) z
abbrev KOf{K:PySem.W.Frag}{h:Heap}(_:K.In h):PySem.W.Frag:=K
theorem tW{l:PySem.W.OpenLaw}{n k:Nat}{q:Program}{loose:List Str}{XP:(Str->Option Value)->Heap->Prop}{YP:World->Heap->Prop}{d:DefRec}{K:Params->PySem.W.Frag}{CX:World->CXT}{sp:World->Sp}{x:Str}
 (hn:l.most=some n)(hn2:n<=sizeLine)(hdf:d.params.defaults=[])(hr:eu k callerA)
 (hY:∀ (w:World) (h:Heap),YP w h->(K w.params).In h)
 (F:∀ (w:World) (mg:Str->Option Value) (fa:Addr) (h:Heap),(K w.params).In h->h.Ns mainGlobals mg->mg d.name=some (.ref fa) ->
   ∃ fd:FuncData,(∀ (s:Shared) (u:Value),BindsTo s fd ⟨[u],[]⟩ [(x,u)]) /\
    ∀ base:Heap,(K w.params).In base->base.Ns mainGlobals mg->i9 l.prog w (K w.params) mg base (CX w) k fa fd [x] (sp w))
 (hsp:∀ (w:World) (H:Hp) (a:Addr) (ns:List Int),ns.length<=n->rj H->SqL (K w.params) H a (ns.map V.int)->sp w [.ref a] H (fun v _=>v=.bl true) fun _ _ _=>False)
 (hCX:∀ (w:World) (H:Hp) (s:Shared) (e:Value) (s':Shared),CX w [] H s (fun _ _ _=>False) e s'->False) :
  PySem.W.WalkO q loose XP YP l.row.toRowW d [] (fun f vs=>PySem.call f vs):=by
 refine Att.sY hn hdf fun w s₀ s₁ mg mb fa o pm cd doc a vs ns G Y ho hd hcd hmg hobj hints hlen hg=>?_
 have KX:=hY w _ Y
 obtain⟨fd,hb,hF⟩:=F w mg fa _ KX G.T.g hmg
 exact zo KX G.T.g G.T.b G.T.builtins G.T.nolimit hg hobj hints (Nat.le_trans hlen hn2) hr hF hb (fun H hO hS=>hsp w H a ns hlen hO hS) fun H e s'=>hCX w H s₁ e s'
theorem zr{l:PySem.W.OpenLaw}{n k:Nat}{q:Program}{loose:List Str}{XP:(Str->Option Value)->Heap->Prop}{YP:World->Heap->Prop}{d:DefRec}{K:Params->PySem.W.Frag}{CX:CXT}{sp:PySem.W.Frag->Sp}{x:Str}
 (hn:l.most=some n)(hn2:n<=sizeLine)(hdf:d.params.defaults=[])(hr:eu k callerA)
 (hY:∀ (w:World) (h:Heap),YP w h->(K w.params).In h)
 (F:∀ (w:World) (mg:Str->Option Value) (fa:Addr) (h:Heap),(K w.params).In h->h.Ns mainGlobals mg->mg d.name=some (.ref fa) ->
   ∃ fd:FuncData,(∀ (s:Shared) (u:Value),BindsTo s fd ⟨[u],[]⟩ [(x,u)]) /\
    ∀ base:Heap,(K w.params).In base->base.Ns mainGlobals mg->i9 l.prog w (K w.params) mg base CX k fa fd [x] (sp (K w.params)))
 (hsp:∀ (K:PySem.W.Frag) (H:Hp) (a:Addr) (ns:List Int),ns.length<=n->rj H->SqL K H a (ns.map V.int)->sp K [.ref a] H (fun v _=>v=.bl true) fun _ _ _=>False)
 (hCX:∀ (H:Hp) (s:Shared) (e:Value) (s':Shared),CX [] H s (fun _ _ _=>False) e s'->False) :
  PySem.W.WalkO q loose XP YP l.row.toRowW d [] (fun f vs=>PySem.call f vs) :=
 tW (K:=K) (CX:=fun _=>CX) (sp:=fun w=>sp (K w.params)) hn hn2 hdf hr hY F (fun w H a ns h1 h2 h3=>hsp (K w.params) H a ns h1 h2 h3) fun _ H s e s'=>hCX H s e s'
def iR(s:Stmt):Arguments:=match s with
 | .FunctionDef _ a _ _ _ _ _ _ _ _=>a
 | _=>{ posonlyargs:=[],args:=[],vararg:=none,kwonlyargs:=[],kw_defaults:=[],kwarg:=none,defaults:=[] }
def fz(s:Stmt):List Stmt:=match s with
 | .FunctionDef _ _ b _ _ _ _ _ _ _=>b
 | _=>[]
def c7(s:Stmt):Scope:=match s with
 | .FunctionDef _ _ _ _ _ _ sc _ _ _=>sc
 | _=>{ kind:=.function,names:=[],isGenerator:=false,isCoroutine:=false }
abbrev CX0:CXT:=fun _ _ _ _ _ _=>False
abbrev E0:XK:=fun _ _ _=>False
theorem AB{X:Cx}:Passes CX0 X E0:=fun _ _ _ _ _ _ _ h=>h.elim
structure Fun(K:PySem.W.Frag)(x qual:Str)(st:Stmt)(f:Addr)(fd:FuncData):Prop where
 ex:∃ (oc:Value) (od:Option Addr) (kV doc pm:Value) (an:Option Addr) (cdv ct:Value) (osl:Array (Option Value)),
  fd=PySem.W.fnOf x qual (iR st) (fz st) (c7 st) .none kV doc pm an cdv ct/\K.lookup f=some ⟨oc,od,.func fd,osl⟩/\PySem.W.codeIn K cdv qual=true
 kp:PySem.W.keepIn K (.ref f)=true
section
variable{P:Program}{w:World}{K:PySem.W.Frag}{mg:Str->Option Value}{base:Heap}
theorem Fun.ok{st:Stmt}{N ps:List Str}{k:Nat}{sp:Sp}(F:Fun K x qual st f fd)(S:l6 N ps (c7 st))(len:∀ vs H Q E,sp vs H Q E->vs.length=ps.length)
 (hbody:∀ (cdv:Value) (A:Around) (outer:List Env) (s:Shared) (H:Hp) (vs:List V) (Q:VK) (E:XK),eu k (A.deeper (envOfC qual (c7 st) s.heap.objs.size f cdv))->sp vs H Q E ->
   ∃ t,PSs (ma CX0 P w K mg base N qual (c7 st) f cdv A outer s H E).nox (fz st) t/\t { nx:=fun _ H'=>Q .non H',rt:=Q } (start N vs) H):i9 P w K mg base CX0 (k+1) f fd ps sp:=by
 obtain⟨oc,od,kV,doc,pm,an,cdv,ct,osl,rfl,lk,hcd⟩:=F.ex
 refine FG lk hcd S len fun A outer s H vs Q E hr hsp=>?_
 obtain⟨t,h,q⟩:=hbody cdv A outer s H vs Q E hr hsp
 exact⟨t,h.nox,q⟩
theorem Fun.binds{st:Stmt}{ps:List Str}(F:Fun K x qual st f fd)
 (h:∀ (kV doc pm:Value) (an:Option Addr) (cdv ct:Value) (us:List Value),us.length=ps.length->bindArgs (PySem.W.fnOf x qual (iR st) (fz st) (c7 st) .none kV doc pm an cdv ct) ⟨us,[]⟩=pure (ps.zip us)):Binds K fd ps []:=by
 obtain⟨oc,od,kV,doc,pm,an,cdv,ct,osl,rfl,lk,hcd⟩:=F.ex
 exact .all (h kV doc pm an cdv ct)
theorem DE{x qual:Str}{st:Stmt}{f:Addr}{oc:Value}{od an:Option Addr}{osl:Array (Option Value)}{kV doc pm cdv ct:Value}(l:K.lookup f=some ⟨oc,od,.func (PySem.W.fnOf x qual (iR st) (fz st) (c7 st) .none kV doc pm an cdv ct),osl⟩)
 (c:PySem.W.codeIn K cdv qual=true)(k:PySem.W.keepIn K (.ref f)=true):Fun K x qual st f (PySem.W.fnOf x qual (iR st) (fz st) (c7 st) .none kV doc pm an cdv ct):=⟨⟨oc,od,kV,doc,pm,an,cdv,ct,osl,rfl,l,c⟩,k⟩
end
theorem pN{n:Nat}(h:n<=1000):n<sizeLine:=Nat.lt_of_le_of_lt h (by decide)
section
variable{X:Cx}
end
theorem eX{A B:Prop}(h:B):if false=true then A else B:=by
 rw[if_neg Bool.false_ne_true]
 exact h
theorem eD{A B:Prop}(h:A):if true=true then A else B:=by
 rw[if_pos rfl]
 exact h
def a5(H H':Hp):Prop:=∀ b o,H b=some o->H' b=some o
theorem a5.refl(H:Hp):a5 H H:=fun _ _ h=>h
theorem a5.trans(a:a5 H H1)(b:a5 H1 H2):a5 H H2:=fun c o h=>b c o (a c o h)
theorem a5.free(e:a5 H H'){l:Addr}(h:H' l=Option.none):H l=Option.none:=by
 cases q:H l with
 | none=>rfl
 |some o=>
  rw[e l o q]at h
  cases h
section
variable{X:Cx}
theorem wj:bJ X (.builtin "len") (fun xs H Q=>∃ a kvs,xs=[V.ref a]/\H a=some (.dK kvs)/\Q (.int kvs.length) H):=by
 intro pins s σ H xs us Q I r h
 obtain⟨a,kvs,rfl,ha,q⟩:=h
 obtain⟨u,rfl,ru⟩:=vals1 r
 cases ru
 exact FT I (.inl ha) fun t s' I'=>⟨.int kvs.length,H,I',⟨t,rfl⟩,q⟩
end
section
variable{κ:Type} [DecidableEq κ]
end
end L2
namespace RS
open PySem PySem.Spec PyProof.Rows L2
noncomputable def nP:Addr->Prop:=fun _=>False
noncomputable def kA(K:PySem.W.Frag)(H:Hp)(a:Addr)(xs:List V):Prop:=(∃ o,H a=some (.frz o (.lst xs)))\/SqL K (fun _=>none) a xs
theorem kA.seq{K:PySem.W.Frag}(h:kA K H a xs):SqL K H a xs:=by
 rcases h with⟨o,h⟩ | (h | ⟨o,h⟩) | h
 ·exact .inl (.inr ⟨o,h⟩)
 ·cases h
 ·cases h
 ·exact .inr h
theorem kA.same{K:PySem.W.Frag}(e:a5 H H')(h:kA K H a xs):kA K H' a xs:=by
 rcases h with⟨o,h⟩ | h
 ·exact .inl ⟨o,e _ _ h⟩
 ·exact .inr h
mutual
noncomputable def Rep(P:Addr->Prop)(K:PySem.W.Frag)(H:Hp):RL.D->V->Prop
 | .non,v=>v=.non
 | .bl b,v=>v=.bl b
 | .int i,v=>v=.int i
 | .str x,v=>v=.str x
 | .tup ds,v=>∃ a xs,v=.ref a/\H a=some (.tup xs)/\ab P K H ds xs
 | .lst ds,v=>∃ a xs,v=.ref a/\¬ P a/\H a=some (.lst xs)/\ab P K H ds xs
 | .dK ks ds,v=>∃ a xs,v=.ref a/\¬ P a/\H a=some (.dK (ks.zip xs))/\ks.length=ds.length/\ab P K H ds xs
 | .dT ks ds,v=>∃ a xs,v=.ref a/\¬ P a/\H a=some (.dT (ks.zip xs))/\ks.length=ds.length/\ab P K H ds xs
 | .scr ds,v=>∃ a xs,v=.ref a/\kA K H a xs/\ab P K H ds xs
noncomputable def ab(P:Addr->Prop)(K:PySem.W.Frag)(H:Hp):List RL.D->List V->Prop
 | [],xs=>xs=[]
 | d::r,xs=>∃ x t,xs=x::t/\Rep P K H d x/\ab P K H r t
end
mutual
theorem Rep.same{P:Addr->Prop}{K:PySem.W.Frag}(e:a5 H H'):∀ {d:RL.D} {v:V},Rep P K H d v->Rep P K H' d v
 | .non,v,h=>by simpa[Rep]using h
 | .bl _,v,h=>by simpa[Rep]using h
 | .int _,v,h=>by simpa[Rep]using h
 | .str _,v,h=>by simpa[Rep]using h
 | .tup ds,v,h=>by
  rw[Rep]at h ⊢
  obtain⟨a,xs,e1,e2,e3⟩:=h
  exact⟨a,xs,e1,e _ _ e2,ab.same e e3⟩
 | .lst ds,v,h=>by
  rw[Rep]at h ⊢
  obtain⟨a,xs,e1,e0,e2,e3⟩:=h
  exact⟨a,xs,e1,e0,e _ _ e2,ab.same e e3⟩
 | .dK ks ds,v,h=>by
  rw[Rep]at h ⊢
  obtain⟨a,xs,e1,e0,e2,el,e3⟩:=h
  exact⟨a,xs,e1,e0,e _ _ e2,el,ab.same e e3⟩
 | .dT ks ds,v,h=>by
  rw[Rep]at h ⊢
  obtain⟨a,xs,e1,e0,e2,el,e3⟩:=h
  exact⟨a,xs,e1,e0,e _ _ e2,el,ab.same e e3⟩
 | .scr ds,v,h=>by
  rw[Rep]at h ⊢
  obtain⟨a,xs,e1,e2,e3⟩:=h
  exact⟨a,xs,e1,kA.same e e2,ab.same e e3⟩
theorem ab.same{P:Addr->Prop}{K:PySem.W.Frag}(e:a5 H H'):∀ {ds:List RL.D} {xs:List V},ab P K H ds xs->ab P K H' ds xs
 | [],xs,h=>by rw[ab]at h ⊢;exact h
 | d::r,xs,h=>by
  rw[ab]at h ⊢
  obtain⟨x,t,e1,e2,e3⟩:=h
  exact⟨x,t,e1,Rep.same e e2,ab.same e e3⟩
end
mutual
theorem Rep.weak{P P':Addr->Prop}{K:PySem.W.Frag}{H:Hp}(e:∀ a,P' a->P a):∀ {d:RL.D} {v:V},Rep P K H d v->Rep P' K H d v
 | .non,v,h=>by simpa[Rep]using h
 | .bl _,v,h=>by simpa[Rep]using h
 | .int _,v,h=>by simpa[Rep]using h
 | .str _,v,h=>by simpa[Rep]using h
 | .tup ds,v,h=>by
  rw[Rep]at h ⊢
  obtain⟨a,xs,e1,e2,e3⟩:=h
  exact⟨a,xs,e1,e2,ab.weak e e3⟩
 | .lst ds,v,h=>by
  rw[Rep]at h ⊢
  obtain⟨a,xs,e1,e0,e2,e3⟩:=h
  exact⟨a,xs,e1,fun z=>e0 (e a z),e2,ab.weak e e3⟩
 | .dK ks ds,v,h=>by
  rw[Rep]at h ⊢
  obtain⟨a,xs,e1,e0,e2,el,e3⟩:=h
  exact⟨a,xs,e1,fun z=>e0 (e a z),e2,el,ab.weak e e3⟩
 | .dT ks ds,v,h=>by
  rw[Rep]at h ⊢
  obtain⟨a,xs,e1,e0,e2,el,e3⟩:=h
  exact⟨a,xs,e1,fun z=>e0 (e a z),e2,el,ab.weak e e3⟩
 | .scr ds,v,h=>by
  rw[Rep]at h ⊢
  obtain⟨a,xs,e1,e2,e3⟩:=h
  exact⟨a,xs,e1,e2,ab.weak e e3⟩
theorem ab.weak{P P':Addr->Prop}{K:PySem.W.Frag}{H:Hp}(e:∀ a,P' a->P a):∀ {ds:List RL.D} {xs:List V},ab P K H ds xs->ab P' K H ds xs
 | [],xs,h=>by rw[ab]at h ⊢;exact h
 | d::r,xs,h=>by
  rw[ab]at h ⊢
  obtain⟨x,t,e1,e2,e3⟩:=h
  exact⟨x,t,e1,Rep.weak e e2,ab.weak e e3⟩
end
theorem Rep.none{K:PySem.W.Frag}(h:Rep P K H d v):Rep nP K H d v:=h.weak fun _ z=>z.elim
mutual
theorem Rep.imm{P P':Addr->Prop}{K:PySem.W.Frag}{H:Hp}:∀ {d:RL.D} {v:V},d.imm=true->Rep P K H d v->Rep P' K H d v
 | .non,v,_,h=>by simpa[Rep]using h
 | .bl _,v,_,h=>by simpa[Rep]using h
 | .int _,v,_,h=>by simpa[Rep]using h
 | .str _,v,_,h=>by simpa[Rep]using h
 | .tup ds,v,i,h=>by
  rw[Rep]at h ⊢
  rw[RL.D.imm]at i
  obtain⟨a,xs,e1,e2,e3⟩:=h
  exact⟨a,xs,e1,e2,ab.imm i e3⟩
 | .lst ds,v,i,h=>by rw[RL.D.imm]at i;cases i
 | .dK ks ds,v,i,h=>by rw[RL.D.imm]at i;cases i
 | .dT ks ds,v,i,h=>by rw[RL.D.imm]at i;cases i
 | .scr ds,v,i,h=>by
  rw[Rep]at h ⊢
  rw[RL.D.imm]at i
  obtain⟨a,xs,e1,e2,e3⟩:=h
  exact⟨a,xs,e1,e2,ab.imm i e3⟩
theorem ab.imm{P P':Addr->Prop}{K:PySem.W.Frag}{H:Hp}:∀ {ds:List RL.D} {xs:List V},RL.aq ds=true->ab P K H ds xs->ab P' K H ds xs
 | [],xs,_,h=>by rw[ab]at h ⊢;exact h
 | d::r,xs,i,h=>by
  rw[ab]at h ⊢
  rw[RL.aq,Bool.and_eq_true]at i
  obtain⟨x,t,e1,e2,e3⟩:=h
  exact⟨x,t,e1,Rep.imm i.1 e2,ab.imm i.2 e3⟩
end
noncomputable def cR(o:HO):Prop:=(∃ xs,o=.lst xs)\/(∃ kvs,o=.dK kvs)\/(∃ kvs,o=.dT kvs)
mutual
theorem Rep.upd{P:Addr->Prop}{K:PySem.W.Frag}{H:Hp}{a:Addr}{o o':HO}(ha:H a=some o)(m:cR o)(p:P a):∀ {d:RL.D} {v:V},Rep P K H d v->Rep P K (upd H a o') d v
 | .non,v,h=>by simpa[Rep]using h
 | .bl _,v,h=>by simpa[Rep]using h
 | .int _,v,h=>by simpa[Rep]using h
 | .str _,v,h=>by simpa[Rep]using h
 | .tup ds,v,h=>by
  rw[Rep]at h ⊢
  obtain⟨b,xs,e1,e2,e3⟩:=h
  have n:b≠a:=uS e2 ha (by rcases m with⟨z,rfl⟩ | ⟨z,rfl⟩ | ⟨z,rfl⟩<;>(intro q;cases q))
  exact⟨b,xs,e1,by rw[L2.aV n];exact e2,ab.upd ha m p e3⟩
 | .lst ds,v,h=>by
  rw[Rep]at h ⊢
  obtain⟨b,xs,e1,e0,e2,e3⟩:=h
  have n:b≠a:=fun z=>e0 (z▸p)
  exact⟨b,xs,e1,e0,by rw[L2.aV n];exact e2,ab.upd ha m p e3⟩
 | .dK ks ds,v,h=>by
  rw[Rep]at h ⊢
  obtain⟨b,xs,e1,e0,e2,el,e3⟩:=h
  have n:b≠a:=fun z=>e0 (z▸p)
  exact⟨b,xs,e1,e0,by rw[L2.aV n];exact e2,el,ab.upd ha m p e3⟩
 | .dT ks ds,v,h=>by
  rw[Rep]at h ⊢
  obtain⟨b,xs,e1,e0,e2,el,e3⟩:=h
  have n:b≠a:=fun z=>e0 (z▸p)
  exact⟨b,xs,e1,e0,by rw[L2.aV n];exact e2,el,ab.upd ha m p e3⟩
 | .scr ds,v,h=>by
  rw[Rep]at h ⊢
  obtain⟨b,xs,e1,e2,e3⟩:=h
  refine⟨b,xs,e1,?_,ab.upd ha m p e3⟩
  rcases e2 with⟨q,e2⟩ | e2
  ·have n:b≠a:=uS e2 ha (by rcases m with⟨z,rfl⟩ | ⟨z,rfl⟩ | ⟨z,rfl⟩<;>(intro q;cases q))
   exact .inl ⟨q,by rw[L2.aV n];exact e2⟩
  ·exact .inr e2
theorem ab.upd{P:Addr->Prop}{K:PySem.W.Frag}{H:Hp}{a:Addr}{o o':HO}(ha:H a=some o)(m:cR o)(p:P a):∀ {ds:List RL.D} {xs:List V},ab P K H ds xs->ab P K (upd H a o') ds xs
 | [],xs,h=>by rw[ab]at h ⊢;exact h
 | d::r,xs,h=>by
  rw[ab]at h ⊢
  obtain⟨x,t,e1,e2,e3⟩:=h
  exact⟨x,t,e1,Rep.upd ha m p e2,ab.upd ha m p e3⟩
end
section lists
variable{P:Addr->Prop}{K:PySem.W.Frag}{H:Hp}
theorem ab.nil:ab P K H [] []:=by rw[ab]
theorem ab.cons{d:RL.D}{ds:List RL.D}{x:V}{xs:List V}(h:Rep P K H d x)(t:ab P K H ds xs):ab P K H (d::ds) (x::xs):=by rw[ab];exact⟨x,xs,rfl,h,t⟩
theorem ab.length:∀ {ds:List RL.D} {xs:List V},ab P K H ds xs->ds.length=xs.length
 | [],xs,h=>by rw[ab]at h;rw[h];rfl
 | d::r,xs,h=>by
  rw[ab]at h
  obtain⟨x,t,rfl,_,e3⟩:=h
  rw[List.length_cons,List.length_cons,ab.length e3]
theorem ab.append:∀ {ds es:List RL.D} {xs ys:List V},ab P K H ds xs->ab P K H es ys->ab P K H (ds++es) (xs++ys)
 | [],_,xs,_,h,k=>by rw[ab]at h;rw[h];exact k
 | d::r,_,xs,_,h,k=>by
  rw[ab]at h
  obtain⟨x,t,rfl,e2,e3⟩:=h
  exact ab.cons e2 (ab.append e3 k)
theorem ab.get:∀ {ds:List RL.D} {xs:List V} {i:Nat} {d:RL.D},ab P K H ds xs->ds[i]?=some d->∃ x,xs[i]?=some x/\Rep P K H d x
 | [],_,i,d,_,e=>by simp at e
 | d::r,xs,0,d',h,e=>by
  rw[ab]at h
  obtain⟨x,t,rfl,e2,_⟩:=h
  simp at e;subst e
  exact⟨x,rfl,e2⟩
 | d::r,xs,i+1,d',h,e=>by
  rw[ab]at h
  obtain⟨x,t,rfl,_,e3⟩:=h
  obtain⟨y,h1,h2⟩:=ab.get (i:=i) e3 (by simpa using e)
  exact⟨y,by simpa using h1,h2⟩
theorem ab.set:∀ {ds:List RL.D} {xs:List V} (i:Nat) {d:RL.D} {x:V},ab P K H ds xs->Rep P K H d x->ab P K H (ds.set i d) (xs.set i x)
 | [],xs,_,_,_,h,_=>by rw[ab]at h;rw[h];exact ab.nil
 | d::r,xs,0,_,_,h,k=>by
  rw[ab]at h
  obtain⟨x,t,rfl,_,e3⟩:=h
  exact ab.cons k e3
 | d::r,xs,i+1,_,_,h,k=>by
  rw[ab]at h
  obtain⟨x,t,rfl,e2,e3⟩:=h
  exact ab.cons e2 (ab.set i e3 k)
theorem ab.take:∀ {ds:List RL.D} {xs:List V} (n:Nat),ab P K H ds xs->ab P K H (ds.take n) (xs.take n)
 | _,_,0,_=>by simpa using ab.nil
 | [],xs,n+1,h=>by rw[ab]at h;rw[h];simpa using ab.nil
 | d::r,xs,n+1,h=>by
  rw[ab]at h
  obtain⟨x,t,rfl,e2,e3⟩:=h
  exact ab.cons e2 (ab.take n e3)
theorem ab.drop:∀ {ds:List RL.D} {xs:List V} (n:Nat),ab P K H ds xs->ab P K H (ds.drop n) (xs.drop n)
 | _,_,0,h=>h
 | [],xs,n+1,h=>by rw[ab]at h;rw[h];simpa using ab.nil
 | d::r,xs,n+1,h=>by
  rw[ab]at h
  obtain⟨x,t,rfl,_,e3⟩:=h
  exact ab.drop n e3
theorem ab.rep(h:ab P K H ds xs):∀ n:Nat,ab P K H (List.replicate n ds).flatten (List.replicate n xs).flatten
 | 0=>ab.nil
 | n+1=>by
  rw[List.replicate_succ,List.replicate_succ,List.flatten_cons,List.flatten_cons]
  exact ab.append h (ab.rep h n)
end lists
noncomputable def RV0(K:PySem.W.Frag)(σD:RL.St)(σ:L2.St)(H:Hp):Prop:=σD.length<=σ.length/\∀ (i:Nat) (d:RL.D),σD[i]?=some (some d)->∃ v,σ[i]?=some (some v)/\Rep nP K H d v
theorem RV0.same{K:PySem.W.Frag}(h:RV0 K σD σ H)(e:a5 H H'):RV0 K σD σ H':=⟨h.1,fun i d q=>by
 obtain⟨v,h1,h2⟩:=h.2 i d q
 exact⟨v,h1,h2.same e⟩⟩
noncomputable def me:RL.D->Bool
 | .lst _=>true
 | .dK _ _=>true
 | .dT _ _=>true
 | _=>false
structure Res(K:PySem.W.Frag)(σD:RL.St)(σ:L2.St)(H:Hp)(e:RL.E)(d:RL.D)(v:V)(H':Hp):Prop where
 same:a5 H H'
 rep:Rep nP K H' d v
 fresh:RL.aG e=true->me d=true->∀ a,v=.ref a->H a=none
 av:∀ M,RL.avE M e=true->∀ P:Addr->Prop,(∀ a,P a->H a≠none)->(∀ (j:Nat) (dj:RL.D) (vj:V),M.contains j=false->σD[j]?=some (some dj)->σ[j]?=some (some vj)->Rep P K H dj vj)->Rep P K H' d v
noncomputable def tE(K:PySem.W.Frag)(cl:RL.Cl)(e:RL.E):TE:=fun σ H Q=>∃ σD d,RV0 K σD σ H/\RL.ev cl σD e=some d/\∀ v H',Res K σD σ H e d v H'->Q v H'
noncomputable def SE(X:Cx)(cl:RL.Cl)(e:Expr)(e':RL.E):Prop:=PE X e (tE X.K cl e')
theorem PE.weak{t t':TE}(h:PE X e t)(w:∀ σ H Q,t' σ H Q->t σ H Q):PE X e t':=fun pins s σ H Q I q=>h pins s σ H Q I (w σ H Q q)
noncomputable def tEs(K:PySem.W.Frag)(cl:RL.Cl)(es:RL.Es):TA:=fun σ H Q=>∃ σD ds,RV0 K σD σ H/\RL.evs cl σD es=some ds/\∀ vs H',a5 H H'->ab nP K H' ds vs->Q vs H'
noncomputable def SEs(X:Cx)(cl:RL.Cl)(es:List Expr)(es':RL.Es):Prop:=PA X es (tEs X.K cl es')
section rules
variable{X:Cx}{cl:RL.Cl}{a b c:Expr}{a' b' c':RL.E}{pos:Pos}
theorem two{σD:RL.St}{σ:L2.St}{H:Hp}{x y:RL.D}{R:V->V->Hp->Prop}(rv:RV0 X.K σD σ H)(ea:RL.ev cl σD a'=some x)(eb:RL.ev cl σD b'=some y)
 (k:∀ v u H1 H2,a5 H H1->a5 H1 H2->Rep nP X.K H2 x v->Rep nP X.K H2 y u->Res X.K σD σ H a' x v H1->Res X.K σD σ H1 b' y u H2->R v u H2) :
  tE X.K cl a' σ H fun v H1=>tE X.K cl b' σ H1 fun u H2=>R v u H2 :=
 ⟨σD,x,rv,ea,fun v H1 r1=>⟨σD,y,rv.same r1.same,eb,fun u H2 r2=>k v u H1 H2 r1.same r2.same (r1.rep.same r2.same) r2.rep r1 r2⟩⟩
theorem bind_some{α β:Type}{o:Option α}{f:α->Option β}{y:β}(h:o.bind f=some y):∃ x,o=some x/\f x=some y:=by
 cases o with
 | none=>cases h
 | some x=>exact⟨x,rfl,h⟩
theorem map_some{α β:Type}{o:Option α}{f:α->β}{y:β}(h:o.map f=some y):∃ x,o=some x/\f x=y:=by
 cases o with
 | none=>cases h
 | some x=>exact⟨x,rfl,Option.some.inj h⟩
theorem cw:RL.most<=sizeLine:=by decide
theorem a5.bS{H:Hp}{p:Addr}{o:HO}(hn:H p=none):a5 H (upd H p o):=fun b u e=>by rw[aV (aW e hn)];exact e
theorem Fq{i:Nat}{x:Str}(hN:X.N[i]?=some x)(hv:Vis X.env.scope x)(hd:(x == ("__debug__" : Str))=false)(hcd:(x == ("__classdict__" : Str))=false):SE X cl (.Name x pos) (.var i):=by
 refine PE.weak (hV hN hv hd hcd) fun σ H Q h=>?_
 obtain⟨σD,d,rv,e,k⟩:=h
 have e':σD[i]?=some (some d):=by
  rw[RL.ev]at e
  obtain⟨o,h1,h2⟩:=bind_some e
  cases o with
  | none=>cases h2
  | some z=>cases h2;exact h1
 obtain⟨v,h1,h2⟩:=rv.2 i d e'
 refine⟨v,h1,k v H ⟨a5.refl H,h2,fun z=>(by cases z),fun M z P hP av=>?_⟩⟩
 rw[RL.avE]at z
 exact av i d v (by simpa using z) e' h1
theorem nC{j:Nat}{k:Const}{d:RL.D}{v:V}(h:PE X (.Constant k j pos) (tC v))(r:∀ P H,Rep P X.K H d v)(hm:me d=false):SE X cl (.Constant k j pos) (.cst d):=by
 refine PE.weak h fun σ H Q q=>?_
 obtain⟨σD,d',rv,e,k⟩:=q
 rw[RL.ev]at e
 cases e
 exact k v H ⟨a5.refl H,r _ _,fun z=>(by cases z),fun M z=>nomatch (show false=true from z)⟩
theorem CZ{x:Str}{i:Int}{u:Value}(h:PE X (.Name x pos) (tC (.int i))):SE X cl (.Name x pos) (.glb x i):=by
 refine PE.weak h fun σ H Q q=>?_
 obtain⟨σD,d',rv,e,k⟩:=q
 rw[RL.ev]at e
 cases e
 exact k _ H ⟨a5.refl H,(by rw[Rep]),fun z=>(by cases z),fun M z=>nomatch (show false=true from z)⟩
end rules
section rules
variable{X:Cx}{cl:RL.Cl}{a b c:Expr}{a' b' c':RL.E}{pos:Pos}
theorem cP{σD:RL.St}{σ:L2.St}{e:RL.E}{d:RL.D}{v:V}(sm:a5 H H')(r:Rep nP X.K H' d v)(im:d.imm=true):Res X.K σD σ H e d v H' where
 same:=sm
 rep:=r
 fresh:=fun _ m=>by
  cases d with
  | lst _=>cases im
  | dK _ _=>cases im
  | dT _ _=>cases im
  | _=>cases m
 av:=fun M _ P _ _=>r.imm im
theorem zi:OpR X (binaryOp .FloorDiv) (rI (fun _ j=>0<j/\j<2 ^ 200) fun i j=>.int (i / j)):=opI fun i j _ _ _ _ _ hc q=>by
 refine floordiv_int (by lia) ?_ (.inl (PyProof.noPylong_of_log2 ?_))
 ·rw[Int.fdiv_eq_ediv_of_nonneg _ (by lia)]
  exact q
 ·have h0:j.natAbs≠0:=by lia
  have h1:j.natAbs<2 ^ 200:=by
   have:=hc.2
   omega
  have h2:j.natAbs.log2<200:=(Nat.log2_lt h0).mpr h1
  lia
theorem dJ{σD:RL.St}{σ:L2.St}{e:RL.E}{ds:List RL.D}{xs:List V}{p:Addr}(sm:a5 H H1)(hn:H1 p=none)(r:ab nP X.K H1 ds xs)(hav:∀ M,RL.avE M e=false):Res X.K σD σ H e (.lst ds) (.ref p) (upd H1 p (.lst xs)) where
 same:=sm.trans (a5.bS hn)
 rep:=by
  rw[Rep]
  exact⟨p,xs,rfl,fun z=>z,bC,r.same (a5.bS hn)⟩
 fresh:=fun _ _ a z=>by
  cases z
  exact sm.free hn
 av:=fun M z=>by rw[hav M]at z;cases z
theorem hU{σD:RL.St}{σ:L2.St}{e:RL.E}{ds:List RL.D}{xs:List V}{p:Addr}(sm:a5 H H1)(hn:H1 p=none)(r:ab nP X.K H1 ds xs)(hav:∀ M,RL.avE M e=false):Res X.K σD σ H e (.tup ds) (.ref p) (upd H1 p (.tup xs)) where
 same:=sm.trans (a5.bS hn)
 rep:=by
  rw[Rep]
  exact⟨p,xs,rfl,bC,r.same (a5.bS hn)⟩
 fresh:=fun _ m=>by cases m
 av:=fun M z=>by rw[hav M]at z;cases z
noncomputable def qD:RL.Bop->Operator
 | .add=>.Add
 | .sub=>.Sub
 | .mul=>.Mult
 | .fdiv=>.FloorDiv
 | .mod=>.Mod
 | .pow=>.Pow
theorem aY{P:Addr->Prop}{K:PySem.W.Frag}{H:Hp}{i:Int}:Rep P K H (.int i) (.int i):=by rw[Rep]
theorem nR{P:Addr->Prop}{K:PySem.W.Frag}{H:Hp}{i:Bool}:Rep P K H (.bl i) (.bl i):=by rw[Rep]
theorem iV{P:Addr->Prop}{K:PySem.W.Frag}{H:Hp}{i:Str}:Rep P K H (.str i) (.str i):=by rw[Rep]
theorem ah{P:Addr->Prop}{K:PySem.W.Frag}{H:Hp}{i:Int}{v:V}(h:Rep P K H (.int i) v):v=.int i:=by rw[Rep]at h;exact h
theorem bf{P:Addr->Prop}{K:PySem.W.Frag}{H:Hp}{i:Bool}{v:V}(h:Rep P K H (.bl i) v):v=.bl i:=by rw[Rep]at h;exact h
theorem aP{P:Addr->Prop}{K:PySem.W.Frag}{H:Hp}{i:Str}{v:V}(h:Rep P K H (.str i) v):v=.str i:=by rw[Rep]at h;exact h
noncomputable def n0(X:Cx)(o:RL.Bop)(r:R2):Prop :=
 ∀ (σD:RL.St) (σ:L2.St) (H H2:Hp) (e:RL.E) (x y d:RL.D) (v u:V) (Q:VK),a5 H H2->Rep nP X.K H2 x v->Rep nP X.K H2 y u->RL.aB o x y=some d->(∀ M,RL.avE M e=false) ->
  (∀ w H',Res X.K σD σ H e d w H'->Q w H')->r v u H2 Q
theorem gJ{o:RL.Bop}{r:R2}(ho:OpR X (binaryOp (qD o)) r)(ok:n0 X o r)(ha:SE X cl a a')(hb:SE X cl b b'):SE X cl (.BinOp a (qD o) b pos) (.bin o a' b'):=by
 refine PE.weak (Gz ho ha hb) fun σ H Q h=>?_
 obtain⟨σD,d,rv,e,k⟩:=h
 rw[RL.ev]at e
 obtain⟨x,ea,e⟩:=bind_some e
 obtain⟨y,eb,e⟩:=bind_some e
 refine two rv ea eb fun v u H1 H2 s1 s2 rx ry _ _=>?_
 exact ok σD σ H H2 _ x y d v u Q (s1.trans s2) rx ry e (fun _=>rfl) k
end rules
section rules
variable{X:Cx}{cl:RL.Cl}{a b c:Expr}{a' b' c':RL.E}{pos:Pos}
theorem de{α:Type}{c:Prop} [Decidable c]{a d:α}(h:(if c then some a else none)=some d):c/\d=a:=by
 by_cases hc:c
 ·rw[if_pos hc]at h
  exact⟨hc,(Option.some.inj h).symm⟩
 ·rw[if_neg hc]at h
  cases h
theorem noN{α:Type}{o:Option α}{d:α}{p:Prop}(e:o=none)(h:o=some d):p:=by rw[e]at h;cases h
theorem yi{x y d:RL.D}(h:RL.aB .add x y=some d):(∃ i j,x=.int i/\y=.int j/\d=.int (i+j))\/(∃ i j:Str,x=.str i/\y=.str j/\i.length+j.length<=RL.most/\d=.str (i++j)) \/
  (∃ i j,x=.lst i/\y=.lst j/\i.length+j.length<=RL.most/\d=.lst (i++j)) \/
  (∃ i j,x=.tup i/\y=.tup j/\(i.length+j.length<=RL.most/\0<i.length/\0<j.length)/\d=.tup (i++j)):=by
 cases x with
 | int i=>cases y with
  | int j=>cases h;exact .inl ⟨i,j,rfl,rfl,rfl⟩
  | _=>exact noN rfl h
 | str i=>cases y with
  |str j=>
   obtain⟨hc,e⟩:=de h
   exact .inr (.inl ⟨i,j,rfl,rfl,hc,e⟩)
  | _=>exact noN rfl h
 | lst i=>cases y with
  |lst j=>
   obtain⟨hc,e⟩:=de h
   exact .inr (.inr (.inl ⟨i,j,rfl,rfl,hc,e⟩))
  | _=>exact noN rfl h
 | tup i=>cases y with
  |tup j=>
   obtain⟨hc,e⟩:=de h
   exact .inr (.inr (.inr ⟨i,j,rfl,rfl,hc,e⟩))
  | _=>exact noN rfl h
 | _=>exact noN rfl h
theorem yM{x y d:RL.D}(h:RL.aB .mul x y=some d):(∃ i j,x=.int i/\y=.int j/\uG i j/\d=.int (i*j)) \/
  (∃ i j,x=.lst i/\y=.int j/\(0<=j/\j<=RL.most/\i.length*j.toNat<=RL.most)/\d=.lst (List.replicate j.toNat i).flatten):=by
 cases x with
 | int i=>cases y with
  |int j=>
   obtain⟨hc,e⟩:=de h
   exact .inl ⟨i,j,rfl,rfl,hc,e⟩
  | _=>exact noN rfl h
 | lst i=>cases y with
  |int j=>
   obtain⟨hc,e⟩:=de h
   exact .inr ⟨i,j,rfl,rfl,hc,e⟩
  | _=>exact noN rfl h
 | _=>exact noN rfl h
theorem iu{o:RL.Bop}{x y d:RL.D}(h:RL.aB o x y=some d)(ho:o≠.add)(hm:o≠.mul):∃ i j,x=.int i/\y=.int j/\RL.aB o (.int i) (.int j)=some d:=by
 have no:∀ {a b:RL.D},RL.aB .sub a b=none->RL.aB .fdiv a b=none->RL.aB .mod a b=none->RL.aB .pow a b=none->RL.aB o a b=some d->False:=fun e1 e2 e3 e4 h=>by
  cases o with
  | add=>exact ho rfl
  | mul=>exact hm rfl
  | sub=>rw[e1]at h;cases h
  | fdiv=>rw[e2]at h;cases h
  | mod=>rw[e3]at h;cases h
  | pow=>rw[e4]at h;cases h
 cases x with
 | int i=>cases y with
  | int j=>exact⟨i,j,rfl,rfl,h⟩
  | _=>exact(no rfl rfl rfl rfl h).elim
 | _=>exact(no rfl rfl rfl rfl h).elim
theorem zT{x y d:RL.D}(h:RL.aB .sub x y=some d):∃ i j,x=.int i/\y=.int j/\d=.int (i-j):=by
 obtain⟨i,j,e1,e2,h⟩:=iu h (by decide) (by decide)
 cases h
 exact⟨i,j,e1,e2,rfl⟩
theorem vK{x y d:RL.D}(h:RL.aB .fdiv x y=some d):∃ i j,x=.int i/\y=.int j/\(0<j/\j<2 ^ 200)/\d=.int (i / j):=by
 obtain⟨i,j,e1,e2,h⟩:=iu h (by decide) (by decide)
 obtain⟨hc,e⟩:=de h
 exact⟨i,j,e1,e2,hc,e⟩
theorem zQ{x y d:RL.D}(h:RL.aB .mod x y=some d):∃ i j,x=.int i/\y=.int j/\0<j/\d=.int (i%j):=by
 obtain⟨i,j,e1,e2,h⟩:=iu h (by decide) (by decide)
 obtain⟨hc,e⟩:=de h
 exact⟨i,j,e1,e2,hc,e⟩
theorem zI{x y d:RL.D}(h:RL.aB .pow x y=some d):∃ i j,x=.int i/\y=.int j/\(0<=j/\j<=1000/\i.natAbs<2 ^ 64)/\d=.int (i ^ j.toNat):=by
 obtain⟨i,j,e1,e2,h⟩:=iu h (by decide) (by decide)
 obtain⟨hc,e⟩:=de h
 exact⟨i,j,e1,e2,hc,e⟩
theorem aD{P:Addr->Prop}{K:PySem.W.Frag}{H:Hp}{ds:List RL.D}{v:V}(h:Rep P K H (.lst ds) v):∃ a xs,v=.ref a/\¬ P a/\H a=some (.lst xs)/\ab P K H ds xs:=by rw[Rep]at h;exact h
theorem bz{P:Addr->Prop}{K:PySem.W.Frag}{H:Hp}{ds:List RL.D}{v:V}(h:Rep P K H (.tup ds) v):∃ a xs,v=.ref a/\H a=some (.tup xs)/\ab P K H ds xs:=by rw[Rep]at h;exact h
theorem DK:n0 X .sub (rI0 fun i j=>.int (i-j)):=by
 intro σD σ H H2 e x y d v u Q sm rx ry h hav k
 obtain⟨i,j,rfl,rfl,rfl⟩:=zT h
 exact⟨i,j,ah rx,ah ry,k _ _ (cP sm aY rfl)⟩
theorem BZ:n0 X .fdiv (rI (fun _ j=>0<j/\j<2 ^ 200) fun i j=>.int (i / j)):=by
 intro σD σ H H2 e x y d v u Q sm rx ry h hav k
 obtain⟨i,j,rfl,rfl,hc,rfl⟩:=vK h
 exact⟨i,j,ah rx,ah ry,hc,k _ _ (cP sm aY rfl)⟩
theorem DB:n0 X .mod (rI (fun _ j=>0<j) fun i j=>.int (i%j)):=by
 intro σD σ H H2 e x y d v u Q sm rx ry h hav k
 obtain⟨i,j,rfl,rfl,hc,rfl⟩:=zQ h
 exact⟨i,j,ah rx,ah ry,hc,k _ _ (cP sm aY rfl)⟩
theorem Ec:n0 X .pow (rI Fp fun i j=>.int (i ^ j.toNat)):=by
 intro σD σ H H2 e x y d v u Q sm rx ry h hav k
 obtain⟨i,j,rfl,rfl,hc,rfl⟩:=zI h
 exact⟨i,j,ah rx,ah ry,⟨hc.1,Int.le_trans hc.2.1 (by decide),hc.2.2⟩,k _ _ (cP sm aY rfl)⟩
theorem F9(ha:SE X cl a a')(hb:SE X cl b b'):SE X cl (.BinOp a .Add b pos) (.bin .add a' b'):=by
 refine gJ (o:=.add) (Et.or (ve.or (Dl.or BU))) ?_ ha hb
 intro σD σ H H2 e x y d v u Q sm rx ry h hav k
 rcases yi h with⟨i,j,rfl,rfl,rfl⟩ | ⟨i,j,rfl,rfl,hc,rfl⟩ | ⟨i,j,rfl,rfl,hc,rfl⟩ | ⟨i,j,rfl,rfl,⟨hc,ha,hb⟩,rfl⟩
 ·exact .inl ⟨i,j,ah rx,ah ry,k _ _ (cP sm aY rfl)⟩
 ·exact .inr (.inl ⟨i,j,aP rx,aP ry,Nat.le_trans hc cw,k _ _ (cP sm iV rfl)⟩)
 ·obtain⟨p,xs,e1,_,e2,e3⟩:=aD rx
  obtain⟨q,ys,f1,_,f2,f3⟩:=aD ry
  refine .inr (.inr (.inl ⟨p,q,xs,ys,e1,f1,e2,f2,?_,fun l hl=>k _ _ (dJ sm hl (e3.append f3) hav)⟩))
  rw[<-e3.length,<-f3.length]
  exact Nat.le_trans hc cw
 ·obtain⟨p,xs,e1,e2,e3⟩:=bz rx
  obtain⟨q,ys,f1,f2,f3⟩:=bz ry
  refine .inr (.inr (.inr ⟨p,q,xs,ys,e1,f1,SqT.of e2,SqT.of f2,fun z=>?_,?_,fun z=>?_,fun _ l hl=>k _ _ (hU sm hl (e3.append f3) hav)⟩))
  ·rw[e3.length,z]at ha
   exact absurd ha (by decide)
  ·rw[<-e3.length,<-f3.length]
   exact Nat.le_trans hc cw
  ·rw[f3.length,z]at hb
   exact absurd hb (by decide)
theorem EY(ha:SE X cl a a')(hb:SE X cl b b'):SE X cl (.BinOp a .Mult b pos) (.bin .mul a' b'):=by
 refine gJ (o:=.mul) (DJ.or EA) ?_ ha hb
 intro σD σ H H2 e x y d v u Q sm rx ry h hav k
 rcases yM h with⟨i,j,rfl,rfl,hc,rfl⟩ | ⟨i,j,rfl,rfl,hc,rfl⟩
 ·exact .inl ⟨i,j,ah rx,ah ry,hc,k _ _ (cP sm aY rfl)⟩
 ·obtain⟨p,xs,e1,_,e2,e3⟩:=aD rx
  refine .inr ⟨p,j,xs,e1,ah ry,e2,?_,?_,?_,fun l hl=>k _ _ (dJ sm hl (e3.rep _) hav)⟩
  ·exact Int.le_trans (by decide) hc.1
  ·exact Int.lt_of_le_of_lt hc.2.1 (by decide)
  ·rw[<-e3.length]
   exact Nat.le_trans hc.2.2 cw
theorem DC{o:RL.Bop}(ha:SE X cl a a')(hb:SE X cl b b'):SE X cl (.BinOp a (qD o) b pos) (.bin o a' b'):=by
 cases o with
 | add=>exact F9 ha hb
 | mul=>exact EY ha hb
 | sub=>exact gJ (o:=.sub) D8 DK ha hb
 | fdiv=>exact gJ (o:=.fdiv) zi BZ ha hb
 | mod=>exact gJ (o:=.mod) Ex DB ha hb
 | pow=>exact gJ (o:=.pow) Ff Ec ha hb
theorem cC{σD:RL.St}{σ:L2.St}{e:RL.E}{k:Bool}(sm:a5 H H'):Res X.K σD σ H e (.bl k) (.bl k) H':=cP sm nR rfl
theorem D7{rest:List Expr}(ha:SE X cl a a')(hb:SE X cl (.BoolOp .And (b::rest) pos) b'):SE X cl (.BoolOp .And (a::b::rest) pos) (.and a' b'):=by
 refine PE.weak (Ft ha hb) fun σ H Q h=>?_
 obtain⟨σD,d,rv,e,k⟩:=h
 rw[RL.ev]at e
 obtain⟨x,ea,e⟩:=bind_some e
 refine⟨σD,x,rv,ea,fun v H1 r1=>?_⟩
 cases x with
 |bl t=>
  refine⟨t,bf r1.rep,?_⟩
  cases t with
  |true=>
   refine eD ?_
   refine⟨σD,d,rv.same r1.same,e,fun w H2 r2=>k w H2 ?_⟩
   exact⟨r1.same.trans r2.same,r2.rep,fun z=>(by cases z),fun M z=>nomatch (show false=true from z)⟩
  |false=>
   refine eX ?_
   cases e
   exact k _ _ (cC r1.same)
 | _=>cases e
theorem Gs{rest:List Expr}(ha:SE X cl a a')(hb:SE X cl (.BoolOp .Or (b::rest) pos) b'):SE X cl (.BoolOp .Or (a::b::rest) pos) (.or a' b'):=by
 refine PE.weak (Ga ha hb) fun σ H Q h=>?_
 obtain⟨σD,d,rv,e,k⟩:=h
 rw[RL.ev]at e
 obtain⟨x,ea,e⟩:=bind_some e
 refine⟨σD,x,rv,ea,fun v H1 r1=>?_⟩
 cases x with
 |bl t=>
  refine⟨t,bf r1.rep,?_⟩
  cases t with
  |false=>
   refine eX ?_
   refine⟨σD,d,rv.same r1.same,e,fun w H2 r2=>k w H2 ?_⟩
   exact⟨r1.same.trans r2.same,r2.rep,fun z=>(by cases z),fun M z=>nomatch (show false=true from z)⟩
  |true=>
   refine eD ?_
   cases e
   exact k _ _ (cC r1.same)
 | _=>cases e
theorem ya{op}(ha:SE X cl a a'):SE X cl (.BoolOp op [a] pos) a':=EX ha
noncomputable def tT(K:PySem.W.Frag)(cl:RL.Cl)(e:RL.E):TT:=fun σ H Q=>∃ σD k,RV0 K σD σ H/\(RL.ev cl σD e).bind RL.truth=some k/\∀ H',a5 H H'->Q k H'
noncomputable def ST(X:Cx)(cl:RL.Cl)(e:Expr)(e':RL.E):Prop:=PT X e (tT X.K cl e')
noncomputable def SW(X:Cx)(cl:RL.Cl)(e:Expr)(e':RL.E):Prop:=PW X e (tT X.K cl e')
theorem PT.weak{t t':TT}(h:PT X e t)(w:∀ σ H Q,t' σ H Q->t σ H Q):PT X e t':=fun pins s σ H Q I q=>h pins s σ H Q I (w σ H Q q)
theorem PW.weak{t t':TT}(h:PW X e t)(w:∀ σ H Q,t' σ H Q->t σ H Q):PW X e t':=fun wh pins s σ H Q I q=>h wh pins s σ H Q I (w σ H Q q)
theorem ab.isEmpty{K:PySem.W.Frag}(h:ab P K H ds xs):ds.isEmpty=xs.isEmpty:=by
 cases ds with
 | nil=>rw[ab]at h;rw[h];rfl
 |cons d r=>
  rw[ab]at h
  obtain⟨x,t,rfl,_⟩:=h
  rfl
theorem Fh{K:PySem.W.Frag}{k:Bool}(r:Rep nP K H d v)(h:RL.truth d=some k):vd K v H k:=by
 cases d<;>simp only[RL.truth]at h<;>first | (cases h;done) | skip
 case bl t=>cases h;rw[bf r];exact rfl
 case int t =>
  cases h
  rw[ah r]
  simp[vd]
 case tup ds =>
  obtain⟨a,xs,rfl,e,rs⟩:=bz r
  cases h
  exact .inr (.inl ⟨xs,SqT.of e,by rw[rs.isEmpty]⟩)
 case lst ds =>
  obtain⟨a,xs,rfl,_,e,rs⟩:=aD r
  cases h
  exact .inl ⟨xs,SqL.of e,by rw[rs.isEmpty]⟩
theorem yP(ha:SE X cl a a')(he:∀ whole,isTrue a X.env whole=(do let v <- whole;standAt a.pos;holding [v] (truthy v))):ST X cl a a':=by
 refine PT.weak (zG ha he) fun σ H Q h=>?_
 obtain⟨σD,k,rv,e,q⟩:=h
 obtain⟨d,e1,e2⟩:=bind_some e
 exact⟨σD,d,rv,e1,fun v H1 r1=>⟨k,Fh r1.rep e2,q H1 r1.same⟩⟩
theorem xv{op:BoolOp}(ha:ST X cl a a'):SW X cl (.BoolOp op [a] pos) a':=by
 cases op with
 | And=>exact Bf ha
 | Or=>exact E8 ha
theorem xB{σD:RL.St}{k:Bool}(h:(RL.ev cl σD (.and a' b')).bind RL.truth=some k):∃ t,(RL.ev cl σD a').bind RL.truth=some t/\(if t=true then(RL.ev cl σD b').bind RL.truth=some k else k=false):=by
 rw[RL.ev]at h
 cases ea:RL.ev cl σD a' with
 | none=>rw[ea]at h;cases h
 |some x=>
  rw[ea]at h
  cases x with
  |bl t=>
   cases t with
   | true=>exact⟨true,rfl,eD h⟩
   | false=>exact⟨false,rfl,eX (by cases h;rfl)⟩
  | _=>exact noN rfl h
theorem yB{σD:RL.St}{k:Bool}(h:(RL.ev cl σD (.or a' b')).bind RL.truth=some k):∃ t,(RL.ev cl σD a').bind RL.truth=some t/\(if t=true then k=true else(RL.ev cl σD b').bind RL.truth=some k):=by
 rw[RL.ev]at h
 cases ea:RL.ev cl σD a' with
 | none=>rw[ea]at h;cases h
 |some x=>
  rw[ea]at h
  cases x with
  |bl t=>
   cases t with
   | true=>exact⟨true,rfl,eD (by cases h;rfl)⟩
   | false=>exact⟨false,rfl,eX h⟩
  | _=>exact noN rfl h
theorem E1{rest:List Expr}(ha:ST X cl a a')(hb:SW X cl (.BoolOp .And (b::rest) pos) b'):SW X cl (.BoolOp .And (a::b::rest) pos) (.and a' b'):=by
 refine PW.weak (EF ha hb) fun σ H Q h=>?_
 obtain⟨σD,k,rv,e,q⟩:=h
 obtain⟨t,e1,e2⟩:=xB e
 refine⟨σD,t,rv,e1,fun H1 s1=>?_⟩
 cases t with
 | true=>exact eD ⟨σD,k,rv.same s1,e2,fun H2 s2=>q H2 (s1.trans s2)⟩
 |false=>
  have e2:k=false:=e2
  subst e2
  exact eX (q H1 s1)
theorem GB{rest:List Expr}(ha:ST X cl a a')(hb:SW X cl (.BoolOp .Or (b::rest) pos) b'):SW X cl (.BoolOp .Or (a::b::rest) pos) (.or a' b'):=by
 refine PW.weak (FL ha hb) fun σ H Q h=>?_
 obtain⟨σD,k,rv,e,q⟩:=h
 obtain⟨t,e1,e2⟩:=yB e
 refine⟨σD,t,rv,e1,fun H1 s1=>?_⟩
 cases t with
 |true=>
  have e2:k=true:=e2
  subst e2
  exact eD (q H1 s1)
 | false=>exact eX ⟨σD,k,rv.same s1,e2,fun H2 s2=>q H2 (s1.trans s2)⟩
theorem C1(ha:ST X cl a a'):ST X cl (.UnaryOp .Not a pos) (.not a'):=by
 refine PT.weak (DO ha) fun σ H Q h=>?_
 obtain⟨σD,k,rv,e,q⟩:=h
 rw[RL.ev]at e
 obtain⟨d,e1,e2⟩:=bind_some e
 obtain⟨t,e3,e4⟩:=map_some e1
 subst e4
 cases e2
 exact⟨σD,t,rv,e3,fun H1 s1=>q H1 s1⟩
theorem F1(hc:ST X cl c c')(ha:SE X cl a a')(hb:SE X cl b b'):SE X cl (.IfExp c a b pos) (.ifx c' a' b'):=by
 refine PE.weak (zm hc ha hb) fun σ H Q h=>?_
 obtain⟨σD,d,rv,e,q⟩:=h
 rw[RL.ev]at e
 obtain⟨t,e1,e2⟩:=bind_some e
 refine⟨σD,t,rv,e1,fun H1 s1=>?_⟩
 have fin:∀ (a':RL.E) (v:V) (H2:Hp),(∀ M,RL.avE M (.ifx c' a' b')=true->RL.avE M a'=true)->True:=fun _ _ _ _=>trivial
 cases t with
 |true=>
  refine eD ⟨σD,d,rv.same s1,e2,fun v H2 r2=>q v H2 ⟨s1.trans r2.same,r2.rep,fun z=>(by cases z),fun M z P hP av=>?_⟩⟩
  have z:(RL.avE M a'&&RL.avE M b')=true:=z
  rw[Bool.and_eq_true]at z
  exact r2.av M z.1 P (fun a p=>(Option.ne_none_iff_exists'.mpr (by obtain⟨o,ho⟩:=Option.ne_none_iff_exists'.mp (hP a p);exact⟨o,s1 _ _ ho⟩))) fun j dj vj h1 h2 h3=>(av j dj vj h1 h2 h3).same s1
 |false=>
  refine eX ⟨σD,d,rv.same s1,e2,fun v H2 r2=>q v H2 ⟨s1.trans r2.same,r2.rep,fun z=>(by cases z),fun M z P hP av=>?_⟩⟩
  have z:(RL.avE M a'&&RL.avE M b')=true:=z
  rw[Bool.and_eq_true]at z
  exact r2.av M z.2 P (fun a p=>(Option.ne_none_iff_exists'.mpr (by obtain⟨o,ho⟩:=Option.ne_none_iff_exists'.mp (hP a p);exact⟨o,s1 _ _ ho⟩))) fun j dj vj h1 h2 h3=>(av j dj vj h1 h2 h3).same s1
end rules
section rules
variable{X:Cx}{cl:RL.Cl}{a b c:Expr}{a' b' c':RL.E}{pos:Pos}
theorem EV(ha:SE X cl a a'):SE X cl (.UnaryOp .Not a pos) (.not a'):=by
 intro pins s σ H Q I h
 obtain⟨σD,d,rv,e,k⟩:=h
 rw[RL.ev]at e
 obtain⟨t,e1,e2⟩:=map_some e
 obtain⟨x,e3,e4⟩:=bind_some e1
 subst e2
 refine UnaryOp_ (thn (ha pins s σ H (fun v H1=>a5 H H1/\Rep nP X.K H1 x v) I ⟨σD,x,rv,e3,fun v H1 r1=>⟨r1.same,r1.rep⟩⟩) fun v s1 ⟨y,H1,I1,r1,sm,rp⟩=>?_)
 refine not_of (thn (xj pins s1 σ H1 y v (fun k H2=>k=t/\H2=H1) I1 r1 ⟨t,Fh rp e4,rfl,rfl⟩) fun k2 s2 ⟨H2,I2,q1,q2⟩=>?_)
 subst q1
 subst q2
 exact⟨.bl (!k2),H2,I2,rfl,k _ _ (cC sm)⟩
noncomputable def noStar:Expr->Bool
 | .Starred _ _=>false
 | _=>true
theorem aA{e:Expr}(es:List Expr)(h:noStar e=true):starEach (e::es) X.env=(false,eval e X.env)::starEach es X.env:=by
 cases e<;>first | rfl | (cases h)
theorem e8:∀ {es:List Expr} {pos:Pos},es.all noStar=true->(backTo pos (starEach es X.env)).any (·.1)=false
 | [],_,_=>rfl
 | e::es,pos,h=>by
  rw[List.all_cons,Bool.and_eq_true]at h
  rw[aA es h.1]
  show(false || (backTo pos (starEach es X.env)).any (·.1))=false
  rw[e8 h.2]
  rfl
theorem cD:SEs X cl [] .nil:=by
 intro pos pins s σ H Q I h
 obtain⟨σD,ds,rv,e,k⟩:=h
 rw[RL.evs]at e
 cases e
 exact dW pos pins s σ H Q I (k [] H (a5.refl H) ab.nil)
theorem bH(he:SE X cl e e')(hr:SEs X cl es es')(hn:noStar e=true):SEs X cl (e::es) (.cons e' es'):=by
 intro pos pins s σ H Q I h
 refine bY he hr (aA es hn) pos pins s σ H Q I ?_
 obtain⟨σD,ds,rv,e,k⟩:=h
 rw[RL.evs]at e
 obtain⟨d,e1,e2⟩:=bind_some e
 obtain⟨r,e3,e4⟩:=map_some e2
 subst e4
 refine⟨σD,d,rv,e1,fun v H1 r1=>⟨σD,r,rv.same r1.same,e3,fun vs H2 s2 r2=>k (v::vs) H2 (r1.same.trans s2) (ab.cons (r1.rep.same s2) r2)⟩⟩
noncomputable def eV:RL.Es->Nat
 | .nil=>0
 | .cons _ r=>eV r+1
theorem lX{σD:RL.St}:∀ {es:RL.Es} {ds:List RL.D},RL.evs cl σD es=some ds->ds.length=eV es
 | .nil,ds,h=>by rw[RL.evs]at h;cases h;rfl
 | .cons e r,ds,h=>by
  rw[RL.evs]at h
  obtain⟨d,e1,e2⟩:=bind_some h
  obtain⟨t,e3,e4⟩:=map_some e2
  subst e4
  rw[List.length_cons,lX e3,eV]
theorem CU{x1}(h:SEs X cl es es')(hl:eV es'<=1000):SE X cl (.Tuple es x1 pos) (.tup es'):=by
 refine PE.weak (Dw h) fun σ H Q q=>?_
 obtain⟨σD,d,rv,e,k⟩:=q
 rw[RL.ev]at e
 obtain⟨ds,e1,e2⟩:=map_some e
 subst e2
 refine⟨σD,ds,rv,e1,fun vs H1 s1 r1=>⟨?_,fun p hp=>k _ _ (hU s1 hp r1 fun _=>rfl)⟩⟩
 rw[<-r1.length,lX e1]
 exact Nat.le_of_lt (pN hl)
theorem DG(h:SEs X cl es es')(hl:eV es'<=1000):SE X cl (.List es pos) (.lst es'):=by
 refine PE.weak (Ee h) fun σ H Q q=>?_
 obtain⟨σD,d,rv,e,k⟩:=q
 rw[RL.ev]at e
 obtain⟨ds,e1,e2⟩:=map_some e
 subst e2
 refine⟨σD,ds,rv,e1,fun vs H1 s1 r1=>⟨?_,fun p hp=>k _ _ (dJ s1 hp r1 fun _=>rfl)⟩⟩
 rw[<-r1.length,lX e1]
 exact Nat.le_of_lt (pN hl)
theorem oy{α:Type}{xs:List α}{i:Int}{x:α}(h:RL.cB xs i=some x):atI xs i=some x:=by
 unfold RL.cB at h
 unfold atI ixN
 by_cases h0:0<=i
 ·rw[if_pos h0]at h
  rw[if_pos h0]
  obtain⟨h1,_⟩:=List.getElem?_eq_some_iff.mp h
  rw[if_pos (by lia)]
  exact h
 ·rw[if_neg h0]at h
  rw[if_neg h0]
  by_cases h1:-(xs.length:Int)<=i
  ·rw[if_pos h1]at h
   rw[if_pos h1]
   exact h
  ·rw[if_neg h1]at h
   cases h
theorem ip{K:PySem.W.Frag}{i:Int}{d:RL.D}(r:ab P K H ds xs)(h:RL.cB ds i=some d):∃ x,RL.cB xs i=some x/\Rep P K H d x:=by
 unfold RL.cB at h ⊢
 rw[<-r.length]
 by_cases h0:0<=i
 ·rw[if_pos h0]at h ⊢
  exact r.get h
 ·rw[if_neg h0]at h ⊢
  by_cases h1:-(ds.length:Int)<=i
  ·rw[if_pos h1]at h ⊢
   exact r.get h
  ·rw[if_neg h1]at h
   cases h
noncomputable def m5:Expr->Bool
 | .Slice _ _ _ _=>false
 | _=>true
theorem AN{b:Expr}(h:m5 b=true):tR b:=by
 intro o i
 cases b<;>first | rfl | (cases h)
theorem xc{x y d:RL.D}(h:RL.ixV x y=some d):(∃ xs i,x=.lst xs/\y=.int i/\RL.cB xs i=some d)\/(∃ xs i,x=.tup xs/\y=.int i/\RL.cB xs i=some d) \/
  (∃ (z:Str) (i:Int) (c:Nat),x=.str z/\y=.int i/\z.length<=RL.most/\RL.cB z.cps.toList i=some c/\d=.str ⟨#[c]⟩):=by
 have no:∀ {o:Option RL.D},o=none->o=some d->False:=fun e h=>by rw[e]at h;cases h
 cases x with
 | lst xs=>cases y with
  | int i=>exact .inl ⟨xs,i,rfl,rfl,h⟩
  | _=>exact(no rfl h).elim
 | tup xs=>cases y with
  | int i=>exact .inr (.inl ⟨xs,i,rfl,rfl,h⟩)
  | _=>exact(no rfl h).elim
 | str z=>cases y with
  |int i=>
   by_cases hc:z.length<=RL.most
   ·obtain⟨c,e1,e2⟩:=map_some (show(RL.cB z.cps.toList i).map (fun c=>RL.D.str ⟨#[c]⟩)=some d from(if_pos hc).symm.trans h)
    exact .inr (.inr ⟨z,i,c,rfl,rfl,hc,e1,e2.symm⟩)
   ·exact(no (if_neg hc) h).elim
  | _=>exact(no rfl h).elim
 | _=>exact(no rfl h).elim
theorem GH(ha:SE X cl a a')(hb:SE X cl b b')(hs:m5 b=true):SE X cl (.Subscript a b pos) (.ix a' b'):=by
 refine PE.weak (FH Ef ha hb (AN hs)) fun σ H Q h=>?_
 obtain⟨σD,d,rv,e,k⟩:=h
 rw[RL.ev]at e
 obtain⟨x,ea,e⟩:=bind_some e
 obtain⟨y,eb,e⟩:=bind_some e
 refine two rv ea eb fun v u H1 H2 s1 s2 rx ry ra rb=>?_
 have fin:∀ (w:V),Rep nP X.K H2 d w->(∀ P:Addr->Prop,Rep P X.K H2 x v->Rep P X.K H2 d w)->Res X.K σD σ H (.ix a' b') d w H2:=fun w h1 h2=>{
  same:=s1.trans s2
  rep:=h1
  fresh:=fun z=>by cases z
  av:=fun M z P hP av=>h2 P ((ra.av M z P hP av).same s2) }
 rcases xc e with⟨xs,i,rfl,rfl,hd⟩ | ⟨xs,i,rfl,rfl,hd⟩ | ⟨z,i,c,rfl,rfl,hz,hd,rfl⟩
 ·obtain⟨p,ys,rfl,_,e2,e3⟩:=aD rx
  obtain⟨w,h1,h2⟩:=ip e3 hd
  refine .inl ⟨p,ys,i,w,rfl,ah ry,SqL.of e2,oy h1,k _ _ (fin w h2 fun P rp=>?_)⟩
  obtain⟨p',ys',q1,_,q2,q3⟩:=aD rp
  cases q1
  rw[e2]at q2
  cases q2
  obtain⟨w',h3,h4⟩:=ip q3 hd
  rw[h1]at h3
  cases h3
  exact h4
 ·obtain⟨p,ys,rfl,e2,e3⟩:=bz rx
  obtain⟨w,h1,h2⟩:=ip e3 hd
  refine .inr (.inl ⟨p,ys,i,w,rfl,ah ry,SqT.of e2,oy h1,k _ _ (fin w h2 fun P rp=>?_)⟩)
  obtain⟨p',ys',q1,q2,q3⟩:=bz rp
  cases q1
  rw[e2]at q2
  cases q2
  obtain⟨w',h3,h4⟩:=ip q3 hd
  rw[h1]at h3
  cases h3
  exact h4
 ·exact .inr (.inr ⟨z,i,c,aP rx,ah ry,Nat.le_trans hz cw,oy hd,k _ _ (fin _ iV fun P _=>iV)⟩)
end rules
section rules
variable{X:Cx}{cl:RL.Cl}{a b c:Expr}{a' b' c':RL.E}{pos:Pos}
theorem gG{f:RL.D->RL.D->Option Bool}:∀ {as bs:List RL.D} {k:Bool},RL.eqs f as bs=some k ->
  ∃ e:Nat->Bool,k=(List.range (min as.length bs.length)).all e/\∀ j x y,as[j]?=some x->bs[j]?=some y->f x y=some (e j)
 | [],bs,k,h=>by
  have h:some true=some k:=by simpa[RL.eqs]using h
  cases h
  exact⟨fun _=>true,by simp,fun j x y h1=>by simp at h1⟩
 | a::r,[],k,h=>by
  have h:some true=some k:=by simpa[RL.eqs]using h
  cases h
  exact⟨fun _=>true,by simp,fun j x y h1 h2=>by simp at h2⟩
 | a::r,b::s,k,h=>by
  rw[RL.eqs]at h
  obtain⟨e0,h1,h2⟩:=bind_some h
  obtain⟨k',h3,h4⟩:=map_some h2
  obtain⟨e,h5,h6⟩:=gG h3
  refine⟨fun j=>match j with | 0=>e0 | j+1=>e j,?_,fun j x y hx hy=>?_⟩
  ·rw[<-h4,h5,List.length_cons,List.length_cons,Nat.succ_min_succ,List.range_succ_eq_map,List.all_cons,List.all_map]
   rfl
  ·cases j with
   |zero=>
    simp at hx hy
    subst hx hy
    exact h1
   | succ j=>exact h6 j x y (by simpa using hx) (by simpa using hy)
theorem gc{n:Nat}{x y:RL.D}{k:Bool}(h:RL.eqD n x y=some k):(∃ i j,x=.bl i/\y=.bl j/\(i == j)=k)\/(∃ i j,x=.int i/\y=.int j/\(i == j)=k)\/(∃ i j,x=.str i/\y=.str j/\(i == j)=k) \/
  (∃ m i j,n=m+1/\x=.tup i/\y=.tup j/\Option.map (fun k=>k&&i.length == j.length) (RL.eqs (RL.eqD m) i j)=some k)\/(∃ m i j,n=m+1/\x=.lst i/\y=.lst j/\Option.map (fun k=>k&&i.length == j.length) (RL.eqs (RL.eqD m) i j)=some k):=by
 cases n with
 | zero=>cases x with
  | bl i=>cases y with
   | bl j=>exact .inl ⟨i,j,rfl,rfl,Option.some.inj h⟩
   | _=>exact noN rfl h
  | int i=>cases y with
   | int j=>exact .inr (.inl ⟨i,j,rfl,rfl,Option.some.inj h⟩)
   | _=>exact noN rfl h
  | str i=>cases y with
   | str j=>exact .inr (.inr (.inl ⟨i,j,rfl,rfl,Option.some.inj h⟩))
   | _=>exact noN rfl h
  | _=>exact noN rfl h
 | succ m=>cases x with
  | bl i=>cases y with
   | bl j=>exact .inl ⟨i,j,rfl,rfl,Option.some.inj h⟩
   | _=>exact noN rfl h
  | int i=>cases y with
   | int j=>exact .inr (.inl ⟨i,j,rfl,rfl,Option.some.inj h⟩)
   | _=>exact noN rfl h
  | str i=>cases y with
   | str j=>exact .inr (.inr (.inl ⟨i,j,rfl,rfl,Option.some.inj h⟩))
   | _=>exact noN rfl h
  | tup i=>cases y with
   | tup j=>exact .inr (.inr (.inr (.inl ⟨m,i,j,rfl,rfl,rfl,h⟩)))
   | _=>exact noN rfl h
  | lst i=>cases y with
   | lst j=>exact .inr (.inr (.inr (.inr ⟨m,i,j,rfl,rfl,rfl,h⟩)))
   | _=>exact noN rfl h
  | _=>exact noN rfl h
theorem pD{K:PySem.W.Frag}{H:Hp}:∀ (n:Nat) (x y:RL.D) (v:V) (k:Bool),Rep nP K H x v->Rep nP K H y v->RL.eqD n x y=some k->k=true:=by
 intro n
 induction n with
 |zero=>
  intro x y v k rx ry h
  rcases gc h with⟨i,j,rfl,rfl,rfl⟩ | ⟨i,j,rfl,rfl,rfl⟩ | ⟨i,j,rfl,rfl,rfl⟩ | ⟨m,i,j,hn,hx,hy,h⟩ | ⟨m,i,j,hn,hx,hy,h⟩
  ·have:=bf rx;rw[bf ry]at this;cases this;simp
  ·have:=ah rx;rw[ah ry]at this;cases this;simp
  ·have:=aP rx;rw[aP ry]at this;cases this;simp
  ·cases hn
  ·cases hn
 |succ n ih=>
  intro x y v k rx ry h
  have seq:∀ (i j:List RL.D) (xs:List V) (k:Bool),ab nP K H i xs->ab nP K H j xs->Option.map (fun k=>k&&i.length == j.length) (RL.eqs (RL.eqD n) i j)=some k->k=true:=by
   intro i j xs k e3 f3 h
   obtain⟨k',h1,h2⟩:=map_some h
   obtain⟨e,h3,h4⟩:=gG h1
   have hl:i.length=j.length:=e3.length.trans f3.length.symm
   have hk:k'=true:=by
    rw[h3,List.all_eq_true]
    intro m hm
    rw[List.mem_range]at hm
    obtain⟨w,w1,w2⟩:=e3.get (i:=m) (d:=i[m]'(by lia)) (by simp)
    obtain⟨w',w1',w2'⟩:=f3.get (i:=m) (d:=j[m]'(by lia)) (by simp)
    rw[w1]at w1'
    cases w1'
    exact ih _ _ w (e m) w2 w2' (h4 m _ _ (by simp) (by simp))
   rw[<-h2,hk,hl]
   simp
  rcases gc h with⟨i,j,rfl,rfl,rfl⟩ | ⟨i,j,rfl,rfl,rfl⟩ | ⟨i,j,rfl,rfl,rfl⟩ | ⟨m,i,j,hn,hx,hy,h⟩ | ⟨m,i,j,hn,hx,hy,h⟩
  ·have:=bf rx;rw[bf ry]at this;cases this;simp
  ·have:=ah rx;rw[ah ry]at this;cases this;simp
  ·have:=aP rx;rw[aP ry]at this;cases this;simp
  ·cases hn;subst hx;subst hy
   obtain⟨p,xs,rfl,e2,e3⟩:=bz rx
   obtain⟨q,ys,q1,f2,f3⟩:=bz ry
   cases q1
   rw[e2]at f2
   cases f2
   exact seq i j xs k e3 f3 h
  ·cases hn;subst hx;subst hy
   obtain⟨p,xs,rfl,_,e2,e3⟩:=aD rx
   obtain⟨q,ys,q1,_,f2,f3⟩:=aD ry
   cases q1
   rw[e2]at f2
   cases f2
   exact seq i j xs k e3 f3 h
open SeqAt in
theorem deep(I:Inv X pins σ H s):∀ (n:Nat) (A:Around) (x y:RL.D) (v u:V) (va ua:Value) (k:Bool),A.units+n<cLine->Rep nP X.K H x v->Rep nP X.K H y u->RelV v va->RelV u ua ->
  RL.eqD n x y=some k->RcAt A s va ua k/\EqAt A s va ua k:=by
 intro n
 induction n with
 |zero=>
  intro A x y v u va ua k hu rx ry qx qy h
  rcases gc h with⟨i,j,rfl,rfl,rfl⟩ | ⟨i,j,rfl,rfl,rfl⟩ | ⟨i,j,rfl,rfl,rfl⟩ | ⟨m,i,j,hn,hx,hy,h⟩ | ⟨m,i,j,hn,hx,hy,h⟩
  ·rw[bf rx]at qx;rw[bf ry]at qy;cases qx;cases qy;exact⟨RcAt.bool_bool i j,EqAt.bool_bool i j⟩
  ·rw[ah rx]at qx;rw[ah ry]at qy;obtain⟨t,rfl⟩:=qx;obtain⟨t',rfl⟩:=qy;exact⟨RcAt.int_int i t j t',EqAt.int_int i t j t'⟩
  ·rw[aP rx]at qx;rw[aP ry]at qy;obtain⟨t,rfl⟩:=qx;obtain⟨t',rfl⟩:=qy;exact⟨RcAt.str_str i t j t',EqAt.str_str i t j t'⟩
  ·cases hn
  ·cases hn
 |succ n ih=>
  intro A x y v u va ua k hu rx ry qx qy h
  rcases gc h with⟨i,j,rfl,rfl,rfl⟩ | ⟨i,j,rfl,rfl,rfl⟩ | ⟨i,j,rfl,rfl,rfl⟩ | ⟨m,i,j,hn,hx,hy,h⟩ | ⟨m,i,j,hn,hx,hy,h⟩
  ·rw[bf rx]at qx;rw[bf ry]at qy;cases qx;cases qy;exact⟨RcAt.bool_bool i j,EqAt.bool_bool i j⟩
  ·rw[ah rx]at qx;rw[ah ry]at qy;obtain⟨t,rfl⟩:=qx;obtain⟨t',rfl⟩:=qy;exact⟨RcAt.int_int i t j t',EqAt.int_int i t j t'⟩
  ·rw[aP rx]at qx;rw[aP ry]at qy;obtain⟨t,rfl⟩:=qx;obtain⟨t',rfl⟩:=qy;exact⟨RcAt.str_str i t j t',EqAt.str_str i t j t'⟩
  ·cases hn;subst hx;subst hy
   obtain⟨p,xs,rfl,e2,e3⟩:=bz rx
   obtain⟨q,ys,rfl,f2,f3⟩:=bz ry
   cases qx;cases qy
   obtain⟨its,r1,t1,z1⟩:=I.tuple (SqT.of e2)
   obtain⟨jts,r2,t2,z2⟩:=I.tuple (SqT.of f2)
   obtain⟨k',h1,h2⟩:=map_some h
   obtain⟨e,h3,h4⟩:=gG h1
   have l1:i.length=its.length:=e3.length.trans r1.length
   have l2:j.length=jts.length:=f3.length.trans r2.length
   have he:∀ m (g1:m<its.toArray.size) (g2:m<jts.toArray.size),EqAt A.in1 s its.toArray[m] jts.toArray[m] (e m):=fun m g1 g2=>by
    rw[List.size_toArray]at g1 g2
    obtain⟨w,w1,w2⟩:=e3.get (i:=m) (d:=i[m]'(by lia)) (by simp)
    obtain⟨w',w1',w2'⟩:=f3.get (i:=m) (d:=j[m]'(by lia)) (by simp)
    obtain⟨uu,b1,b2⟩:=r1.get w1
    obtain⟨uu',b1',b2'⟩:=r2.get w1'
    have c1:its.toArray[m]=uu:=by simpa using(List.getElem?_eq_some_iff.mp b1).2
    have c2:jts.toArray[m]=uu':=by simpa using(List.getElem?_eq_some_iff.mp b1').2
    rw[c1,c2]
    exact(ih A.in1 _ _ w w' uu uu' (e m) (by show A.units+1+n<cLine;lia) w2 w2' b2 b2' (h4 m _ _ (by simp) (by simp))).2
   have main:RcAt A s (.ref p) (.ref q) k:=by
    have z:=RcAt.tuples (e:=e) t1 t2 (by lia) he
    rw[List.size_toArray,List.size_toArray,<-l1,<-l2,<-h3,h2]at z
    exact z
   refine⟨main,?_⟩
   by_cases z:p=q
   ·subst z
    rw[pD (n+1) _ _ _ k rx ry h]
    exact EqAt.same _
   ·exact EqAt.of_refs z main
  ·cases hn;subst hx;subst hy
   obtain⟨p,xs,rfl,_,e2,e3⟩:=aD rx
   obtain⟨q,ys,rfl,_,f2,f3⟩:=aD ry
   cases qx;cases qy
   obtain⟨its,r1,t1,z1⟩:=I.list (SqL.of e2)
   obtain⟨jts,r2,t2,z2⟩:=I.list (SqL.of f2)
   obtain⟨k',h1,h2⟩:=map_some h
   obtain⟨e,h3,h4⟩:=gG h1
   have l1:i.length=its.length:=e3.length.trans r1.length
   have l2:j.length=jts.length:=f3.length.trans r2.length
   have he:∀ m (g1:m<its.toArray.size) (g2:m<jts.toArray.size),EqAt A.in1 s its.toArray[m] jts.toArray[m] (e m):=fun m g1 g2=>by
    rw[List.size_toArray]at g1 g2
    obtain⟨w,w1,w2⟩:=e3.get (i:=m) (d:=i[m]'(by lia)) (by simp)
    obtain⟨w',w1',w2'⟩:=f3.get (i:=m) (d:=j[m]'(by lia)) (by simp)
    obtain⟨uu,b1,b2⟩:=r1.get w1
    obtain⟨uu',b1',b2'⟩:=r2.get w1'
    have c1:its.toArray[m]=uu:=by simpa using(List.getElem?_eq_some_iff.mp b1).2
    have c2:jts.toArray[m]=uu':=by simpa using(List.getElem?_eq_some_iff.mp b1').2
    rw[c1,c2]
    exact(ih A.in1 _ _ w w' uu uu' (e m) (by show A.units+1+n<cLine;lia) w2 w2' b2 b2' (h4 m _ _ (by simp) (by simp))).2
   have main:RcAt A s (.ref p) (.ref q) k:=by
    by_cases hl:its.length=jts.length
    ·have z:=RcAt.lists (e:=e) t1.isList t2.isList (by rw[List.size_toArray,List.size_toArray];exact hl) (by lia) he
     rw[List.size_toArray]at z
     have hk:k=(List.range its.length).all e:=by
      rw[<-h2,h3,l1,l2,hl]
      simp
     rw[hk]
     exact z
    ·have hk:k=false:=by
      rw[<-h2,l1,l2]
      simp[hl]
     rw[hk]
     exact RcAt.lists_lengths t1.isList t2.isList (by rw[List.size_toArray,List.size_toArray];simpa using hl) (by lia)
   refine⟨main,?_⟩
   by_cases z:p=q
   ·subst z
    rw[pD (n+1) _ _ _ k rx ry h]
    exact EqAt.same _
   ·exact EqAt.of_refs z main
end rules
section rules
variable{X:Cx}{cl:RL.Cl}{a b c:Expr}{a' b' c':RL.E}{pos:Pos}
open SeqAt in
theorem EN(I:Inv X pins σ H s)(n:Nat)(A:Around)(x y:RL.D)(v u:V)(va ua:Value)(k:Bool)(hu:A.units+n<cLine)(rx:Rep nP X.K H x v)(ry:Rep nP X.K H y u)(qx:RelV v va)(qy:RelV u ua)
 (h:RL.eqD n x y=some k):RcNeAt A s va ua (!k):=by
 rcases gc h with⟨i,j,rfl,rfl,rfl⟩ | ⟨i,j,rfl,rfl,rfl⟩ | ⟨i,j,rfl,rfl,rfl⟩ | ⟨nn,i,j,hn,hx,hy,h⟩ | ⟨nn,i,j,hn,hx,hy,h⟩
 ·rw[bf rx]at qx;rw[bf ry]at qy;cases qx;cases qy;exact RcNeAt.bool_bool i j
 ·rw[ah rx]at qx;rw[ah ry]at qy;obtain⟨t,rfl⟩:=qx;obtain⟨t',rfl⟩:=qy;exact RcNeAt.int_int i t j t'
 ·rw[aP rx]at qx;rw[aP ry]at qy;obtain⟨t,rfl⟩:=qx;obtain⟨t',rfl⟩:=qy;exact RcNeAt.str_str i t j t'
 ·subst hn;subst hx;subst hy
  obtain⟨p,xs,rfl,e2,e3⟩:=bz rx
  obtain⟨q,ys,rfl,f2,f3⟩:=bz ry
  cases qx;cases qy
  obtain⟨its,r1,t1,z1⟩:=I.tuple (SqT.of e2)
  obtain⟨jts,r2,t2,z2⟩:=I.tuple (SqT.of f2)
  obtain⟨k',h1,h2⟩:=map_some h
  obtain⟨e,h3,h4⟩:=gG h1
  have l1:i.length=its.length:=e3.length.trans r1.length
  have l2:j.length=jts.length:=f3.length.trans r2.length
  have he:∀ m (g1:m<its.toArray.size) (g2:m<jts.toArray.size),EqAt A.in1 s its.toArray[m] jts.toArray[m] (e m):=fun m g1 g2=>by
   rw[List.size_toArray]at g1 g2
   obtain⟨w,w1,w2⟩:=e3.get (i:=m) (d:=i[m]'(by lia)) (by simp)
   obtain⟨w',w1',w2'⟩:=f3.get (i:=m) (d:=j[m]'(by lia)) (by simp)
   obtain⟨uu,b1,b2⟩:=r1.get w1
   obtain⟨uu',b1',b2'⟩:=r2.get w1'
   have c1:its.toArray[m]=uu:=by simpa using(List.getElem?_eq_some_iff.mp b1).2
   have c2:jts.toArray[m]=uu':=by simpa using(List.getElem?_eq_some_iff.mp b1').2
   rw[c1,c2]
   exact(deep I nn A.in1 _ _ w w' uu uu' (e m) (by show A.units+1+nn<cLine;lia) w2 w2' b2 b2' (h4 m _ _ (by simp) (by simp))).2
  have z:=RcNeAt.tuples (e:=e) t1 t2 (by lia) he
  rw[List.size_toArray,List.size_toArray,<-l1,<-l2,<-h3,h2]at z
  exact z
 ·subst hn;subst hx;subst hy
  obtain⟨p,xs,rfl,_,e2,e3⟩:=aD rx
  obtain⟨q,ys,rfl,_,f2,f3⟩:=aD ry
  cases qx;cases qy
  obtain⟨its,r1,t1,z1⟩:=I.list (SqL.of e2)
  obtain⟨jts,r2,t2,z2⟩:=I.list (SqL.of f2)
  obtain⟨k',h1,h2⟩:=map_some h
  obtain⟨e,h3,h4⟩:=gG h1
  have l1:i.length=its.length:=e3.length.trans r1.length
  have l2:j.length=jts.length:=f3.length.trans r2.length
  have he:∀ m (g1:m<its.toArray.size) (g2:m<jts.toArray.size),EqAt A.in1 s its.toArray[m] jts.toArray[m] (e m):=fun m g1 g2=>by
   rw[List.size_toArray]at g1 g2
   obtain⟨w,w1,w2⟩:=e3.get (i:=m) (d:=i[m]'(by lia)) (by simp)
   obtain⟨w',w1',w2'⟩:=f3.get (i:=m) (d:=j[m]'(by lia)) (by simp)
   obtain⟨uu,b1,b2⟩:=r1.get w1
   obtain⟨uu',b1',b2'⟩:=r2.get w1'
   have c1:its.toArray[m]=uu:=by simpa using(List.getElem?_eq_some_iff.mp b1).2
   have c2:jts.toArray[m]=uu':=by simpa using(List.getElem?_eq_some_iff.mp b1').2
   rw[c1,c2]
   exact(deep I nn A.in1 _ _ w w' uu uu' (e m) (by show A.units+1+nn<cLine;lia) w2 w2' b2 b2' (h4 m _ _ (by simp) (by simp))).2
  by_cases hl:its.length=jts.length
  ·have z:=RcNeAt.lists (e:=e) t1.isList t2.isList (by rw[List.size_toArray,List.size_toArray];exact hl) (by lia) he
   rw[List.size_toArray]at z
   have hk:k=(List.range its.length).all e:=by
    rw[<-h2,h3,l1,l2,hl]
    simp
   rw[hk]
   exact z
  ·have hk:k=false:=by
    rw[<-h2,l1,l2]
    simp[hl]
   rw[hk]
   exact RcNeAt.lists_lengths t1.isList t2.isList (by rw[List.size_toArray,List.size_toArray];simpa using hl) (by lia)
noncomputable def bK:RL.Cop->CmpOp
 | .lt=>.Lt
 | .le=>.LtE
 | .gt=>.Gt
 | .ge=>.GtE
 | .eq=>.Eq
 | .ne=>.NotEq
noncomputable def uK(K:PySem.W.Frag)(c:RL.Cop):R2:=fun v u H Q=>∃ x y k,Rep nP K H x v/\Rep nP K H y u/\RL.bh c x y=some k/\Q (.bl k) H
theorem jF{c:RL.Cop}(hc:c≠.eq)(hc2:c≠.ne){x y:RL.D}{k:Bool}(h:RL.bh c x y=some k):∃ i j,x=.int i/\y=.int j:=by
 have no:∀ {a b:RL.D},RL.bh .lt a b=none->RL.bh .le a b=none->RL.bh .gt a b=none->RL.bh .ge a b=none->RL.bh c a b=some k->False:=fun e1 e2 e3 e4 h=>by
  cases c with
  | eq=>exact hc rfl
  | ne=>exact hc2 rfl
  | lt=>rw[e1]at h;cases h
  | le=>rw[e2]at h;cases h
  | gt=>rw[e3]at h;cases h
  | ge=>rw[e4]at h;cases h
 cases x with
 | int i=>cases y with
  | int j=>exact⟨_,_,rfl,rfl⟩
  | _=>exact(no rfl rfl rfl rfl h).elim
 | _=>exact(no rfl rfl rfl rfl h).elim
theorem eJ{c:RL.Cop}(hu:X.A.units+100<cLine):OpR X (compareOp (bK c)) (uK X.K c):=by
 intro pins s σ H x y v u Q I rx ry h
 obtain⟨dx,dy,k,ex,ey,e,q⟩:=h
 have fin:EP X pins σ Q (.bool k) s:=⟨.bl k,H,I,rfl,q⟩
 cases c with
 |eq=>
  have e:RL.eqD 8 dx dy=some k:=e
  exact(deep I 8 X.A dx dy x y v u k (by lia) ex ey rx ry e).1 X.prog X.w X.xe _ fin
 |ne=>
  obtain⟨k',e1,e2⟩:=map_some (show(RL.eqD 8 dx dy).map not=some k from e)
  subst e2
  exact EN I 8 X.A dx dy x y v u k' (by lia) ex ey rx ry e1 X.prog X.w X.xe _ fin
 |lt=>
  obtain⟨i,j,rfl,rfl⟩:=jF (by decide) (by decide) e
  cases e
  rw[ah ex]at rx;rw[ah ey]at ry
  obtain⟨t,rfl⟩:=rx;obtain⟨t',rfl⟩:=ry
  exact lt_int fin
 |le=>
  obtain⟨i,j,rfl,rfl⟩:=jF (by decide) (by decide) e
  cases e
  rw[ah ex]at rx;rw[ah ey]at ry
  obtain⟨t,rfl⟩:=rx;obtain⟨t',rfl⟩:=ry
  exact le_int fin
 |gt=>
  obtain⟨i,j,rfl,rfl⟩:=jF (by decide) (by decide) e
  cases e
  rw[ah ex]at rx;rw[ah ey]at ry
  obtain⟨t,rfl⟩:=rx;obtain⟨t',rfl⟩:=ry
  exact gt_int fin
 |ge=>
  obtain⟨i,j,rfl,rfl⟩:=jF (by decide) (by decide) e
  cases e
  rw[ah ex]at rx;rw[ah ey]at ry
  obtain⟨t,rfl⟩:=rx;obtain⟨t',rfl⟩:=ry
  exact ge_int fin
theorem gD{c:RL.Cop}(b:Expr):behindInMarks (bK c) b=false:=by cases c<;>exact sJ b
theorem wm{c:RL.Cop}{σ:L2.St}{H:Hp}{Q:VK}(h:∃ σD d,RV0 X.K σD σ H/\RL.ev cl σD (.cmp c a' b')=some d/\∀ H',a5 H H'->∃ k,d=.bl k/\Q (.bl k) H'):tOp (uK X.K c) (tE X.K cl a') (tE X.K cl b') σ H Q:=by
 obtain⟨σD,d,rv,e,k⟩:=h
 rw[RL.ev]at e
 obtain⟨x,ea,e⟩:=bind_some e
 obtain⟨y,eb,e⟩:=bind_some e
 obtain⟨t,e1,e2⟩:=map_some e
 refine two rv ea eb fun v u H1 H2 s1 s2 rx ry _ _=>?_
 obtain⟨k',h1,h2⟩:=k H2 (s1.trans s2)
 rw[h1]at e2
 cases e2
 exact⟨x,y,t,rx,ry,e1,h2⟩
theorem pQ{c:RL.Cop}{σD:RL.St}{d:RL.D}(e:RL.ev cl σD (.cmp c a' b')=some d):∃ k,d=.bl k:=by
 rw[RL.ev]at e
 obtain⟨x,ea,e⟩:=bind_some e
 obtain⟨y,eb,e⟩:=bind_some e
 obtain⟨t,e1,e2⟩:=map_some e
 exact⟨t,e2.symm⟩
theorem Dp{c:RL.Cop}(hu:X.A.units+100<cLine)(ha:SE X cl a a')(hb:SE X cl b b'):SE X cl (.Compare a [bK c] [b] pos) (.cmp c a' b'):=by
 refine PE.weak (pj (eJ hu) ha hb (gD b)) fun σ H Q h=>?_
 obtain⟨σD,d,rv,e,k⟩:=h
 obtain⟨t,rfl⟩:=pQ e
 exact wm ⟨σD,_,rv,e,fun H' sm=>⟨t,rfl,k _ _ (cC sm)⟩⟩
theorem CN{c:RL.Cop}(hu:X.A.units+100<cLine)(ha:SE X cl a a')(hb:SE X cl b b'):ST X cl (.Compare a [bK c] [b] pos) (.cmp c a' b'):=by
 refine PT.weak (l9 (eJ hu) ha hb (gD b)) fun σ H Q h=>?_
 obtain⟨σD,k,rv,e,q⟩:=h
 obtain⟨d,e1,e2⟩:=bind_some e
 obtain⟨t,rfl⟩:=pQ e1
 cases e2
 exact wm ⟨σD,_,rv,e1,fun H' sm=>⟨k,rfl,k,rfl,q H' sm⟩⟩
theorem AF{c c':RL.Cop}(b e:Expr):lastMarks [bK c,bK c'] [b,e]=false:=by
 show behindInMarks (bK c') e=false
 exact gD e
variable{e:Expr}{e':RL.E}
theorem lQ{c c':RL.Cop}{σD:RL.St}{d:RL.D}(h:RL.ev cl σD (.chain c c' a' b' e')=some d):∃ k,d=.bl k:=by
 rw[RL.ev]at h
 obtain⟨x,ea,h⟩:=bind_some h
 obtain⟨y,eb,h⟩:=bind_some h
 obtain⟨t,e1,h⟩:=bind_some h
 cases t with
 |true=>
  obtain⟨z,ec,h⟩:=bind_some (show(RL.ev cl σD e').bind _=some d from h)
  obtain⟨t,e1,e2⟩:=map_some h
  exact⟨t,e2.symm⟩
 | false=>exact⟨false,(Option.some.inj (show some (RL.D.bl false)=some d from h)).symm⟩
theorem rO{c c':RL.Cop}{σ:L2.St}{H:Hp}{Q:VK}(h:∃ σD k,RV0 X.K σD σ H/\RL.ev cl σD (.chain c c' a' b' e')=some (.bl k)/\∀ H',a5 H H'->Q (.bl k) H') :
  qP (uK X.K c) (uK X.K c') (tE X.K cl a') (tE X.K cl b') (tE X.K cl e') σ H Q:=by
 obtain⟨σD,k,rv,h,q⟩:=h
 rw[RL.ev]at h
 obtain⟨x,ea,h⟩:=bind_some h
 obtain⟨y,eb,h⟩:=bind_some h
 obtain⟨t,e1,h⟩:=bind_some h
 refine two rv ea eb fun v u H1 H2 s1 s2 rx ry _ _=>?_
 refine⟨x,y,t,rx,ry,e1,t,rfl,?_⟩
 have sm:=s1.trans s2
 cases t with
 |true=>
  rw[if_pos rfl]at h
  obtain⟨z,ec,h⟩:=bind_some h
  obtain⟨t,e3,e2⟩:=map_some h
  cases e2
  exact eD ⟨σD,z,rv.same sm,ec,fun w H3 r3=>⟨y,z,k,ry.same r3.same,r3.rep,e3,q H3 (sm.trans r3.same)⟩⟩
 |false=>
  rw[if_neg (by decide)]at h
  cases h
  exact eX (q H2 sm)
theorem yt{c c':RL.Cop}(hu:X.A.units+100<cLine)(ha:SE X cl a a')(hb:SE X cl b b')(he:SE X cl e e'):SE X cl (.Compare a [bK c,bK c'] [b,e] pos) (.chain c c' a' b' e'):=by
 refine PE.weak (yr (eJ hu) (eJ hu) ha hb he (AF b e)) fun σ H Q h=>?_
 obtain⟨σD,d,rv,h,k⟩:=h
 obtain⟨t,rfl⟩:=lQ h
 exact rO ⟨σD,t,rv,h,fun H' sm=>k _ _ (cC sm)⟩
theorem yI{c c':RL.Cop}(hu:X.A.units+100<cLine)(ha:SE X cl a a')(hb:SE X cl b b')(he:SE X cl e e'):ST X cl (.Compare a [bK c,bK c'] [b,e] pos) (.chain c c' a' b' e'):=by
 refine PT.weak (yX (eJ hu) (eJ hu) ha hb he (AF b e)) fun σ H Q h=>?_
 obtain⟨σD,k,rv,h,q⟩:=h
 obtain⟨d,e1,e2⟩:=bind_some h
 obtain⟨t,rfl⟩:=lQ e1
 cases e2
 exact rO ⟨σD,k,rv,e1,fun H' sm=>⟨k,rfl,q H' sm⟩⟩
end rules
section rules
variable{X:Cx}{cl:RL.Cl}{a b c:Expr}{a' b' c':RL.E}{pos:Pos}
theorem pE{neg:Bool}(b:Expr):behindInMarks (if neg then .IsNot else .Is) b=false:=by cases neg<;>exact sJ b
theorem uz{neg:Bool}:OpR X (compareOp (if neg then .IsNot else .Is)) (fun x y H Q=>y=.non/\Q (.bl (if neg then !decide (x=.non)else decide (x=.non))) H):=by
 cases neg with
 | true=>exact Bs
 | false=>exact Dj
theorem wy{neg:Bool}{σD:RL.St}{d:RL.D}(h:RL.ev cl σD (.isN neg a')=some d):∃ x,RL.ev cl σD a'=some x/\∀ v (H:Hp),Rep nP X.K H x v->d=.bl (if neg then !decide (v=.non)else decide (v=.non)):=by
 rw[RL.ev]at h
 obtain⟨x,ea,h⟩:=bind_some h
 refine⟨x,ea,fun v H r=>?_⟩
 cases x with
 | non=>cases h;rw[Rep]at r;subst r;cases neg<;>rfl
 | bl k=>cases h;rw[bf r];cases neg<;>rfl
 | int k=>cases h;rw[ah r];cases neg<;>rfl
 | str k=>cases h;rw[aP r];cases neg<;>rfl
 | tup k=>cases h;obtain⟨p,xs,rfl,_⟩:=bz r;cases neg<;>rfl
 | lst k=>cases h;obtain⟨p,xs,rfl,_⟩:=aD r;cases neg<;>rfl
 | scr k=>cases h;rw[Rep]at r;obtain⟨p,xs,rfl,_⟩:=r;cases neg<;>rfl
 | dK _ _=>cases h
 | dT _ _=>cases h
theorem ED{neg:Bool}{j:Nat}{p:Pos}(ha:SE X cl a a'):SE X cl (.Compare a [if neg then .IsNot else .Is] [.Constant .none j p] pos) (.isN neg a'):=by
 refine PE.weak (pj uz ha qN (pE _)) fun σ H Q h=>?_
 obtain⟨σD,d,rv,e,q⟩:=h
 obtain⟨x,ea,hx⟩:=wy (X:=X) e
 refine⟨σD,_,rv,ea,fun v H1 r1=>⟨rfl,?_⟩⟩
 have hd:=hx v H1 r1.rep
 subst hd
 exact q _ _ (cC r1.same)
theorem Fy{neg:Bool}{j:Nat}{p:Pos}(ha:SE X cl a a'):ST X cl (.Compare a [if neg then .IsNot else .Is] [.Constant .none j p] pos) (.isN neg a'):=by
 refine PT.weak (l9 uz ha qN (pE _)) fun σ H Q h=>?_
 obtain⟨σD,k,rv,e,q⟩:=h
 obtain⟨d,e1,e2⟩:=bind_some e
 obtain⟨x,ea,hx⟩:=wy (X:=X) e1
 refine⟨σD,_,rv,ea,fun v H1 r1=>⟨rfl,?_⟩⟩
 have hd:=hx v H1 r1.rep
 subst hd
 cases e2
 exact⟨_,rfl,q _ r1.same⟩
theorem fC{K:PySem.W.Frag}{d:RL.D}{ds:List RL.D}(h:RL.items d=some ds)(r:Rep P K H d v):∃ p xs,v=.ref p/\((H p=some (.lst xs)/\d=.lst ds)\/(H p=some (.tup xs)/\d=.tup ds))/\ab P K H ds xs:=by
 cases d<;>simp only[RL.items]at h<;>first | (cases h;done) | skip
 case lst ys=>cases h;obtain⟨p,xs,e1,_,e2,e3⟩:=aD r;exact⟨p,xs,e1,.inl ⟨e2,rfl⟩,e3⟩
 case tup ys=>cases h;obtain⟨p,xs,e1,e2,e3⟩:=bz r;exact⟨p,xs,e1,.inr ⟨e2,rfl⟩,e3⟩
theorem uA{K:PySem.W.Frag}{d:RL.D}(h:RL.flat d=true)(r:Rep P K H d v):fN v=true/\∀ d' v',RL.flat d'=true->Rep P K H d' v'->RL.eqF d d'=eqV v v':=by
 cases d<;>simp only[RL.flat]at h<;>first | (cases h;done) | skip
 case int i =>
  rw[ah r]
  refine⟨rfl,fun d' v' h' r'=>?_⟩
  cases d'<;>simp only[RL.flat]at h'<;>first | (cases h';done) | skip
  case int j=>rw[ah r'];simp[RL.eqF,eqV]
  case str j=>rw[aP r'];simp[RL.eqF,eqV]
 case str i =>
  rw[aP r]
  refine⟨rfl,fun d' v' h' r'=>?_⟩
  cases d'<;>simp only[RL.flat]at h'<;>first | (cases h';done) | skip
  case int j=>rw[ah r'];simp[RL.eqF,eqV]
  case str j=>rw[aP r'];simp[RL.eqF,eqV]
theorem sq{K:PySem.W.Frag}{d:RL.D}(hf:RL.flat d=true)(r:Rep P K H d v):∀ {ds:List RL.D} {xs:List V},ds.all RL.flat=true->ab P K H ds xs->xs.all fN=true/\(ds.any fun x=>RL.eqF x d)=inV v xs
 | [],xs,_,h=>by rw[ab]at h;subst h;exact⟨rfl,rfl⟩
 | e::t,xs,ha,h=>by
  rw[ab]at h
  obtain⟨x,ys,rfl,e2,e3⟩:=h
  rw[List.all_cons,Bool.and_eq_true]at ha
  obtain⟨h1,h2⟩:=sq hf r ha.2 e3
  obtain⟨h3,h4⟩:=uA ha.1 e2
  refine⟨by rw[List.all_cons,h3,h1];rfl,?_⟩
  rw[List.any_cons,h2,h4 d v hf r]
  rfl
theorem wX{neg:Bool}:OpR X (compareOp (if neg then .NotIn else .In)) (rIn X.K neg):=by
 cases neg with
 | true=>exact qC
 | false=>exact xg
theorem xS{neg:Bool}{σ:L2.St}{H:Hp}{Q:VK}{σD:RL.St}{d:RL.D}(rv:RV0 X.K σD σ H)(e:RL.ev cl σD (.inn neg a' b')=some d)(k:∀ t H',d=.bl t->a5 H H'->Q (.bl t) H'):tOp (rIn X.K neg) (tE X.K cl a') (tE X.K cl b') σ H Q:=by
 rw[RL.ev]at e
 obtain⟨x,ea,e⟩:=bind_some e
 obtain⟨y,eb,e⟩:=bind_some e
 obtain⟨t,e1,e2⟩:=map_some e
 unfold RL.inV at e1
 obtain⟨ds,e3,e4⟩:=bind_some e1
 by_cases hc:(RL.flat x&&ds.all RL.flat)=true
 ·rw[if_pos hc]at e4
  cases e4
  rw[Bool.and_eq_true]at hc
  refine two rv ea eb fun v u H1 H2 s1 s2 rx ry _ _=>?_
  obtain⟨p,xs,rfl,hp,rs⟩:=fC e3 ry
  obtain⟨h1,h2⟩:=sq hc.1 rx hc.2 rs
  refine⟨p,xs,rfl,?_,(uA hc.1 rx).1,h1,?_⟩
  ·rcases hp with⟨z,_⟩ | ⟨z,_⟩
   ·exact .inl (SqL.of z)
   ·exact .inr (SqT.of z)
  ·refine k _ _ ?_ (s1.trans s2)
   rw[<-e2,h2]
 ·rw[if_neg hc]at e4
  cases e4
noncomputable def mH:Expr->Bool
 | .Set _ _ _=>false
 | _=>true
theorem iq{op:CmpOp}{b:Expr}(h:mH b=true):behindInMarks op b=false:=by
 cases b<;>first | rfl | (cases h)
theorem Dk{neg:Bool}(ha:SE X cl a a')(hb:SE X cl b b')(hm:mH b=true):SE X cl (.Compare a [if neg then .NotIn else .In] [b] pos) (.inn neg a' b'):=by
 refine PE.weak (pj wX ha hb (iq hm)) fun σ H Q h=>?_
 obtain⟨σD,d,rv,e,q⟩:=h
 exact xS rv e fun t H' hd sm=>by subst hd;exact q _ _ (cC sm)
theorem Fx{neg:Bool}(ha:SE X cl a a')(hb:SE X cl b b')(hm:mH b=true):ST X cl (.Compare a [if neg then .NotIn else .In] [b] pos) (.inn neg a' b'):=by
 refine PT.weak (l9 wX ha hb (iq hm)) fun σ H Q h=>?_
 obtain⟨σD,k,rv,e,q⟩:=h
 obtain⟨d,e1,e2⟩:=bind_some e
 refine xS rv e1 fun t H' hd sm=>?_
 subst hd
 cases e2
 exact⟨_,rfl,q _ sm⟩
noncomputable def spF(K:PySem.W.Frag)(cl:RL.Cl)(f:Nat):Sp:=fun vs H Q _=>∃ ds d,ab nP K H ds vs/\cl f ds=some d/\∀ v H',a5 H H'->Rep (fun p=>H p≠none) K H' d v->Q v H'
theorem BR{es:List Expr}{e:Expr}{es':RL.Es}{e':RL.E}{f:Nat}{p:Pos}{k:Nat}{fa:Addr}{fd:FuncData}{ps:List Str}(F:i9 X.prog X.w X.K X.mg X.base CX0 k fa fd ps (spF X.K cl f))(hr:eu k X.A)(hg:Gl X x)
 (hm:X.mg x=some (.ref fa))(hk:PySem.W.keepIn X.K (.ref fa)=true)(hb:Binds X.K fd ps [])(he:SEs X cl (e::es) (.cons e' es'))(hdb:(x == ("__debug__" : Str))=false)(hn:noStar e=true)(hns:es.all noStar=true) :
  SE X cl (.Call (.Name x p) (e::es) [] pos) (.call f (.cons e' es')):=by
 refine PE.weak (tL F hr hg hm hk hb .nil AB he hdb (aA es hn) (e8 hns)) fun σ H Q h=>?_
 obtain⟨σD,d,rv,ev,q⟩:=h
 rw[RL.ev]at ev
 obtain⟨ds,e1,e2⟩:=bind_some ev
 refine⟨σD,ds,rv,e1,fun vs H1 s1 r1=>?_⟩
 show spF X.K cl f (vs++[]) H1 Q E0
 rw[List.append_nil]
 refine⟨ds,d,r1,e2,fun v H2 s2 r2=>q v H2 ⟨s1.trans s2,r2.none,fun _ m a z=>?_,fun M _ P hP _=>?_⟩⟩
 ·subst z
  have hh:H1 a=none:=by
   cases d with
   | lst ds=>obtain⟨p,xs,e1,e2,_⟩:=aD r2;cases e1;exact Classical.byContradiction e2
   | dK ks ds=>rw[Rep]at r2;obtain⟨p,xs,e1,e2,_⟩:=r2;cases e1;exact Classical.byContradiction e2
   | dT ks ds=>rw[Rep]at r2;obtain⟨p,xs,e1,e2,_⟩:=r2;cases e1;exact Classical.byContradiction e2
   | _=>cases m
  exact s1.free hh
 ·refine r2.weak fun a z=>?_
  obtain⟨o,ho⟩:=Option.ne_none_iff_exists'.mp (hP a z)
  rw[s1 _ _ ho]
  exact fun q=>nomatch q
end rules
noncomputable def Off(P:Addr->Prop)(H H':Hp):Prop:=∀ b o,¬ P b->H b=some o->H' b=some o
theorem Off.same(h:a5 H H'){P:Addr->Prop}:Off P H H':=fun b o _ e=>h b o e
mutual
theorem Rep.off{P:Addr->Prop}{K:PySem.W.Frag}{H H':Hp}(hm:∀ b o,P b->H b=some o->cR o)(k:Off P H H'):∀ {d:RL.D} {v:V},Rep P K H d v->Rep P K H' d v
 | .non,v,h=>by simpa[Rep]using h
 | .bl _,v,h=>by simpa[Rep]using h
 | .int _,v,h=>by simpa[Rep]using h
 | .str _,v,h=>by simpa[Rep]using h
 | .tup ds,v,h=>by
  rw[Rep]at h ⊢
  obtain⟨b,xs,e1,e2,e3⟩:=h
  have n:¬ P b:=fun p=>by rcases hm b _ p e2 with⟨z,q⟩ | ⟨z,q⟩ | ⟨z,q⟩<;>cases q
  exact⟨b,xs,e1,k _ _ n e2,ab.off hm k e3⟩
 | .lst ds,v,h=>by
  rw[Rep]at h ⊢
  obtain⟨b,xs,e1,e0,e2,e3⟩:=h
  exact⟨b,xs,e1,e0,k _ _ e0 e2,ab.off hm k e3⟩
 | .dK ks ds,v,h=>by
  rw[Rep]at h ⊢
  obtain⟨b,xs,e1,e0,e2,el,e3⟩:=h
  exact⟨b,xs,e1,e0,k _ _ e0 e2,el,ab.off hm k e3⟩
 | .dT ks ds,v,h=>by
  rw[Rep]at h ⊢
  obtain⟨b,xs,e1,e0,e2,el,e3⟩:=h
  exact⟨b,xs,e1,e0,k _ _ e0 e2,el,ab.off hm k e3⟩
 | .scr ds,v,h=>by
  rw[Rep]at h ⊢
  obtain⟨b,xs,e1,e2,e3⟩:=h
  refine⟨b,xs,e1,?_,ab.off hm k e3⟩
  rcases e2 with⟨q,e2⟩ | e2
  ·have n:¬ P b:=fun p=>by rcases hm b _ p e2 with⟨z,q⟩ | ⟨z,q⟩ | ⟨z,q⟩<;>cases q
   exact .inl ⟨q,k _ _ n e2⟩
  ·exact .inr e2
theorem ab.off{P:Addr->Prop}{K:PySem.W.Frag}{H H':Hp}(hm:∀ b o,P b->H b=some o->cR o)(k:Off P H H'):∀ {ds:List RL.D} {xs:List V},ab P K H ds xs->ab P K H' ds xs
 | [],xs,h=>by rw[ab]at h ⊢;exact h
 | d::r,xs,h=>by
  rw[ab]at h ⊢
  obtain⟨x,t,e1,e2,e3⟩:=h
  exact⟨x,t,e1,Rep.off hm k e2,ab.off hm k e3⟩
end
structure j1(K:PySem.W.Frag)(J:L2.It)(ds:List RL.D)(P:Addr->Prop)(H:Hp):Prop where
 go:∀ H' i,Off P H H'->i<ds.length->J.go i H'
 stop:∀ H',Off P H H'->J.stop ds.length H'
 yld:∀ H' i d x H2,Off P H H'->ds[i]?=some d->J.yld i H' x H2->a5 H' H2/\(d.imm=true\/a5 H H'->Rep nP K H2 d x)
noncomputable def A0(K:PySem.W.Frag)(σD:RL.St)(σ:L2.St)(H:Hp)(it:RL.It)(J:L2.It)(ds:List RL.D)(H1:Hp):Prop :=
 j1 K J ds nP H1/\∀ (M:List Nat) (P:Addr->Prop),RL.vx M it=true->(∀ b,P b->∃ o,H b=some o/\cR o)->(∀ (j:Nat) (dj:RL.D) (vj:V),M.contains j=false->σD[j]?=some (some dj)->σ[j]?=some (some vj)->Rep P K H dj vj)->j1 K J ds P H1
noncomputable def tI(K:PySem.W.Frag)(cl:RL.Cl)(it:RL.It):TI:=fun σ H R=>∃ σD ds,RV0 K σD σ H/\RL.bb cl σD it=some ds/\∀ J H1,a5 H H1->A0 K σD σ H it J ds H1->R J H1
noncomputable def SI(X:Cx)(cl:RL.Cl)(tg iter:Expr)(it:RL.It):Prop:=PI X tg iter (tI X.K cl it)
theorem PI.weak{t t':TI}(h:PI X tg iter t)(w:∀ σ H R,t' σ H R->t σ H R):PI X tg iter t':=fun pins s σ H R I q=>h pins s σ H R I (w σ H R q)
theorem ic{K:PySem.W.Frag}{P:Addr->Prop}{H H':Hp}(hm:∀ b o,P b->H b=some o->cR o)(k:Off P H H')(r:Rep nP K H d v)(i:d.imm=true):Rep nP K H' d v :=
 ((r.imm i).off hm k).imm i
theorem u5{K:PySem.W.Frag}{H:Hp}{a:Addr}{xs:List V}{P:Addr->Prop}(h:H a=some (.lst xs))(r:ab nP K H ds xs)(hp:¬ P a)(hm:∀ b o,P b->H b=some o->cR o):j1 K (Itl K a) ds P H where
 go:=fun H' i k hi=>by
  obtain⟨x,e,_⟩:=r.get (i:=i) (d:=ds[i]) (by simp[hi])
  exact⟨xs,x,SqL.of (k _ _ hp h),e⟩
 stop:=fun H' k=>⟨xs,SqL.of (k _ _ hp h),by rw[r.length];exact Nat.le_refl _⟩
 yld:=fun H' i d x H2 k e y=>by
  obtain⟨z,y⟩:=y
  subst z
  have hx:=y xs (SqL.of (k _ _ hp h))
  obtain⟨x',e1,e2⟩:=r.get e
  rw[hx]at e1
  cases e1
  refine⟨a5.refl _,fun q=>?_⟩
  rcases q with q | q
  ·exact ic hm k e2 q
  ·exact e2.same q
theorem xh{K:PySem.W.Frag}{H:Hp}{a:Addr}{xs:List V}{P:Addr->Prop}(h:H a=some (.tup xs))(r:ab nP K H ds xs)(hm:∀ b o,P b->H b=some o->cR o):j1 K (Itt K a) ds P H:=by
 have hp:¬ P a:=fun p=>by rcases hm a _ p h with⟨z,q⟩ | ⟨z,q⟩ | ⟨z,q⟩<;>cases q
 exact {
  go:=fun H' i k hi=>by
   obtain⟨x,e,_⟩:=r.get (i:=i) (d:=ds[i]) (by simp[hi])
   exact⟨xs,x,SqT.of (k _ _ hp h),e⟩
  stop:=fun H' k=>⟨xs,SqT.of (k _ _ hp h),by rw[r.length];exact Nat.le_refl _⟩
  yld:=fun H' i d x H2 k e y=>by
   obtain⟨z,y⟩:=y
   subst z
   have hx:=y xs (SqT.of (k _ _ hp h))
   obtain⟨x',e1,e2⟩:=r.get e
   rw[hx]at e1
   cases e1
   refine⟨a5.refl _,fun q=>?_⟩
   rcases q with q | q
   ·exact ic hm k e2 q
   ·exact e2.same q }
theorem nr:∀ (n:Nat) (lo:Int) (i:Nat) (d:RL.D),(RL.cH lo n)[i]?=some d->d=.int (lo+i)
 | 0,lo,i,d,h=>by simp[RL.cH]at h
 | n+1,lo,0,d,h=>by simp[RL.cH]at h;simp[h]
 | n+1,lo,i+1,d,h=>by
  rw[RL.cH,List.getElem?_cons_succ]at h
  rw[nr n (lo+1) i d h]
  congr 1
  lia
theorem jI:∀ (n:Nat) (lo:Int),(RL.cH lo n).length=n
 | 0,_=>rfl
 | n+1,lo=>by rw[RL.cH,List.length_cons,jI n]
theorem mY{K:PySem.W.Frag}{H:Hp}{lo:Int}{n:Nat}{P:Addr->Prop}:j1 K (Itr lo n) (RL.cH lo n) P H where
 go:=fun H' i k hi=>by rw[jI]at hi;exact hi
 stop:=fun H' k=>by rw[jI];exact Nat.le_refl _
 yld:=fun H' i d x H2 k e y=>by
  obtain⟨z,y⟩:=y
  subst z
  refine⟨a5.refl _,fun _=>?_⟩
  rw[nr n lo i d e,y]
  exact aY
section rules
variable{X:Cx}{cl:RL.Cl}{tg a b l:Expr}{a' b' e':RL.E}{pos p:Pos}
theorem FE{t t':TE}(hl:PE X l t):PI X tg l (fun σ H R=>t σ H fun x H1=>(∃ a,x=.ref a/\(∃ xs,SqL X.K H1 a xs)/\R (Itl X.K a) H1)\/(∃ a,x=.ref a/\(∃ xs,SqT X.K H1 a xs)/\R (Itt X.K a) H1)):=by
 intro pins s σ H R I h
 refine thn (hl pins s σ H _ I h) fun v s1 ⟨x,H1,I1,r1,q1⟩=>?_
 rcases q1 with⟨a,e,⟨xs,hq⟩,q⟩ | ⟨a,e,⟨xs,hq⟩,q⟩
 ·subst e
  cases r1
  obtain⟨its,rv,p,hz⟩:=I1.list hq
  refine wpAny_pyIter_list p.isList ⟨s1.heap.objs.size,[s1.heap.objs.size],_,_,H1,rfl,I1.kept (t':=s1.toks) fun b o e=>Heap.get?_push_of_some _ e,xW a _,⟨_,Heap.get?_push_size _ rfl,rfl,rfl⟩,fun b hb=>?_,q⟩
  rw[show b=s1.heap.objs.size by simpa using hb]
  exact I1.nY (Nat.le_refl _) (I1.hok.fresh (Nat.le_refl _))
 ·subst e
  cases r1
  obtain⟨its,rv,p,hz⟩:=I1.tuple hq
  refine wpAny_pyIter_tuple (show s1.heap.IsTuple a its.toArray from p) ⟨s1.heap.objs.size,[s1.heap.objs.size],_,_,H1,rfl,I1.kept (t':=s1.toks) fun b o e=>Heap.get?_push_of_some _ e,uN a _,⟨_,Heap.get?_push_size _ rfl,rfl,rfl⟩,fun b hb=>?_,q⟩
  rw[show b=s1.heap.objs.size by simpa using hb]
  exact I1.nY (Nat.le_refl _) (I1.hok.fresh (Nat.le_refl _))
theorem nG{σD:RL.St}{σ:L2.St}{H H1:Hp}{d:RL.D}{v:V}{M:List Nat}{P:Addr->Prop}(r1:Res X.K σD σ H e' d v H1)(z:(RL.avE M e' || RL.aG e')=true)(hP:∀ b,P b->∃ o,H b=some o/\cR o)
 (av:∀ (j:Nat) (dj:RL.D) (vj:V),M.contains j=false->σD[j]?=some (some dj)->σ[j]?=some (some vj)->Rep P X.K H dj vj):∀ ds a,d=.lst ds->v=.ref a->¬ P a:=by
 intro ds a hd hv
 subst hd hv
 rw[Bool.or_eq_true]at z
 rcases z with z | z
 ·obtain⟨p,xs,e1,e2,_⟩:=aD (r1.av M z P (fun b q=>by obtain⟨o,ho,_⟩:=hP b q;rw[ho];exact fun z=>nomatch z) av)
  cases e1
  exact e2
 ·intro q
  obtain⟨o,ho,_⟩:=hP a q
  rw[r1.fresh z rfl a rfl]at ho
  cases ho
theorem eE{P:Addr->Prop}(s:a5 H H1)(hP:∀ b,P b->∃ o,H b=some o/\cR o):∀ b o,P b->H1 b=some o->cR o:=fun b o q e=>by
 obtain⟨o',ho,m⟩:=hP b q
 rw[s _ _ ho]at e
 cases e
 exact m
theorem gX{H1:Hp}:∀ b o,nP b->H1 b=some o->cR o:=fun b o q=>q.elim
theorem CK(hl:SE X cl l e')(hs:True):PI X tg l (fun σ H R=>∃ σD d ds,RV0 X.K σD σ H/\RL.ev cl σD e'=some d/\RL.items d=some ds/\∀ J H1,a5 H H1->A0 X.K σD σ H (.seq e') J ds H1->R J H1):=by
 refine PI.weak (FE (t':=tE X.K cl e') hl) fun σ H R h=>?_
 obtain⟨σD,d,ds,rv,e,ei,k⟩:=h
 refine⟨σD,d,rv,e,fun v H1 r1=>?_⟩
 obtain⟨p,xs,rfl,hp,rs⟩:=fC ei r1.rep
 rcases hp with⟨hp,rfl⟩ | ⟨hp,rfl⟩
 ·refine .inl ⟨p,rfl,⟨xs,SqL.of hp⟩,k _ _ r1.same ⟨u5 hp rs (fun z=>z) gX,fun M P z hP av=>u5 hp rs (nG r1 z hP av _ _ rfl rfl) (eE r1.same hP)⟩⟩
 ·exact .inr ⟨p,rfl,⟨xs,SqT.of hp⟩,k _ _ r1.same ⟨xh hp rs gX,fun M P z hP av=>xh hp rs (eE r1.same hP)⟩⟩
theorem nU{x y:RL.D}{ds:List RL.D}(h:RL.dA x y=some ds):∃ i j:Int,x=.int i/\y=.int j/\(-(2 ^ 62)<=i/\i<2 ^ 62/\-(2 ^ 62)<=j/\j<2 ^ 62)/\(j-i).toNat<=RL.most/\ds=RL.cH i (j-i).toNat:=by
 have no:∀ {o:Option (List RL.D)},o=none->o=some ds->False:=fun e h=>by rw[e]at h;cases h
 cases x with
 | int i=>cases y with
  |int j=>
   obtain⟨hc,e⟩:=de h
   have lo:-(2 ^ 62:Int)<=-(2 ^ 60):=by decide
   have hi:(2 ^ 60:Int)<2 ^ 62:=by decide
   exact⟨i,j,rfl,rfl,⟨Int.le_trans lo hc.2.1,Int.lt_trans hc.2.2.1 hi,Int.le_trans lo hc.2.2.2.1,Int.lt_trans hc.2.2.2.2 hi⟩,hc.1,e⟩
  | _=>exact(no rfl h).elim
 | _=>exact(no rfl h).elim
theorem BN(hg:Gl X "range")(hm:X.mg "range" = none)(ha:SE X cl a a')(hn:noStar a=true):SI X cl tg (.Call (.Name "range" p) [a] [] pos) (.rng1 a'):=by
 refine PI.weak (xf hg hm (bH (cl:=cl) ha cD hn) (aA [] hn)) fun σ H R h=>?_
 obtain⟨σD,ds,rv,e,k⟩:=h
 rw[RL.bb]at e
 obtain⟨x,ea,e⟩:=bind_some e
 obtain⟨i,j,e1,rfl,hb,_,rfl⟩:=nU e
 cases e1
 refine⟨σD,[.int j],rv,by rw[RL.evs,ea];rfl,fun vs H1 s1 r1=>?_⟩
 rw[ab]at r1
 obtain⟨v,t,rfl,r2,r3⟩:=r1
 rw[ab]at r3
 subst r3
 refine⟨j,by rw[ah r2],hb.2.2.1,hb.2.2.2,?_⟩
 have hz:(j-0).toNat=j.toNat:=by simp
 rw[hz]at k
 exact k _ _ s1 ⟨mY,fun _ _ _ _ _=>mY⟩
theorem Cd(hg:Gl X "range")(hm:X.mg "range" = none)(ha:SE X cl a a')(hb:SE X cl b b')(hn:noStar a=true)(hn2:noStar b=true):SI X cl tg (.Call (.Name "range" p) [a,b] [] pos) (.rng2 a' b'):=by
 refine PI.weak (wa hg hm (bH (cl:=cl) ha (bH hb cD hn2) hn) (by rw[aA _ hn,aA _ hn2];rfl) (aA [] hn2)) fun σ H R h=>?_
 obtain⟨σD,ds,rv,e,k⟩:=h
 rw[RL.bb]at e
 obtain⟨x,ea,e⟩:=bind_some e
 obtain⟨y,eb,e⟩:=bind_some e
 obtain⟨i,j,rfl,rfl,hb,_,rfl⟩:=nU e
 refine⟨σD,[.int i,.int j],rv,by rw[RL.evs,ea,RL.evs,eb];rfl,fun vs H1 s1 r1=>?_⟩
 rw[ab]at r1
 obtain⟨v,t,rfl,r2,r3⟩:=r1
 rw[ab]at r3
 obtain⟨u,t,rfl,r4,r5⟩:=r3
 rw[ab]at r5
 subst r5
 exact⟨i,j,by rw[ah r2,ah r4],hb,k _ _ s1 ⟨mY,fun _ _ _ _ _=>mY⟩⟩
end rules
end RS
namespace L2
open PySem PySem.Spec PyProof.Rows
noncomputable def hW(ifs:List Expr)(env:Env):Sem Bool:=forIn ifs true fun c r=>if r=true then do let ok <- isTrue c env (eval c env);pure (ForInStep.yield ok)else pure (ForInStep.yield r)
section
variable{M:Model}{A:Around}{Q:Fin->Shared->Prop}{E:Value->Shared->Prop}{s:Shared}
theorem DT{α:Type}{m:Sem α}{P:α->Shared->Prop}{E:Value->Shared->Prop}{s:Shared}(h:wpAny M A m P (fun _ _=>False) s):wpAny M A m P E s :=
 wpAny_mono h (fun _ _ q=>q) fun _ _ z=>z.elim
theorem dt{α β:Type}{m:Sem α}{k:α->Sem β}{P:β->Shared->Prop}{E:Value->Shared->Prop}{s:Shared}(h:wpAny M A m (fun a s1=>wpAny M A (k a) P E s1) (fun _ _=>False) s):wpAny M A (m >>= k) P E s:=wpAny_bind (DT h)
end
section
variable{prog:Program}{w:World}{A:Around}{elt tg iter:Expr}{ifs:List Expr}{scope:Scope}{pos:Pos}{it acc:Value}{env:Env}
noncomputable def pH(prog:Program)(w:World)(A:Around)(elt tg:Expr)(ifs:List Expr)(it acc:Value)(env:Env)(stop next:Shared->Prop)(s:Shared):Prop :=
 wpAny (model prog w) A (pyNext it) (fun r s1=>match r with
  | none=>stop s1
  | some v=>wpAny (model prog w) A (letOwnedTupleGo tg it v) (fun _ s2=>wpAny (model prog w) A (assign tg env v) (fun _ s3=>wpAny (model prog w) A (hW ifs env) (fun ok s4 =>
     if ok=true then wpAny (model prog w) A (eval elt env) (fun x s5=>wpAny (model prog w) A (call (.builtin "list.append") [acc,x]) (fun _ s6=>next s6) (fun _ _=>False) s5) (fun _ _=>False) s4
     else next s4) (fun _ _=>False) s3) (fun _ _=>False) s2) (fun _ _=>False) s1) (fun _ _=>False) s
theorem yS{stop next:Shared->Prop}{E:Value->Shared->Prop}(h:pH prog w A elt tg ifs it acc env stop next s) :
  wpAny (model prog w) A (compTurn (.ListComp elt [⟨tg,iter,ifs,0⟩] scope pos) 0 it acc env) (fun fin s'=>match fin with
   | .done f=>f=.next/\stop s'
   | .again c=>c=.compLoop (.ListComp elt [⟨tg,iter,ifs,0⟩] scope pos) 0 it acc env/\next s') E s:=by
 rw[compTurn_list]
 apply wpAny_bind
 apply wpAny_standAt
 apply dt
 refine thn h fun r s1 h1=>?_
 cases r with
 |none=>
  apply wpAny_pure
  exact⟨rfl,h1⟩
 |some v=>
  apply dt
  refine thn h1 fun _ s2 h2=>?_
  apply dt
  refine thn h2 fun _ s3 h3=>?_
  apply dt
  refine thn h3 fun ok s4 h4=>?_
  cases ok
  ·apply wpAny_pure
   exact⟨rfl,h4⟩
  ·apply wpAny_bind
   apply dt
   refine thn h4 fun x s5 h5=>?_
   apply dt
   refine thn h5 fun _ s6 h6=>?_
   apply wpAny_pure
   apply wpAny_pure
   exact⟨rfl,h6⟩
theorem xJ{R:Result->Shared->Prop}{s:Shared}(I:Nat->Shared->Prop)(turn:∀ n s,I n s->pH prog w A elt tg ifs it acc env (R (.ok .next)) (fun s'=>∃ m,m<n/\I m s') s)
 (n:Nat)(h:I n s):codeAny (model prog w) A (.compLoop (.ListComp elt [⟨tg,iter,ifs,0⟩] scope pos) 0 it acc env) R s :=
 codeAny_loop (M:=model prog w) rfl I (fun n s hI=>wpAny_noted (thn (yS (turn n s hI)) fun fin s' q=>by
  cases fin with
  |done f=>
   obtain⟨rfl,q⟩:=q
   exact q
  | again c=>exact q)) n h
end
noncomputable def blk(X:Cx)(scope:Scope)(cls:List (Str × Addr))(C:Addr)(fp:List Addr)(s:Shared)(H:Hp):Cx where
 prog:=X.prog
 w:=X.w
 K:=X.K
 mg:=X.mg
 base:=X.base
 A:=X.A
 N:=X.N
 s₀:=s
 H₀:=H
 env:=compEnvC scope cls C X.env
 outer:=X.stack
 stack:=X.stack
 ex:=fp
 fn:=fun _=>false
 calm:=X.calm
 pn:=[]
 xe:=fun _ _=>False
structure fX(scope:Scope)(sc:Scope)(cls:List (Str × Addr))(cells:List (Str × Addr)):Prop where
 kind:scope.kind=.function
 kf:∀ x∈scope.names,x.2≠.cell
 loc:∀ x∈scope.names,x.2=.local->scope.names.lookup x.1=some .local
 sub:∀ x c,cls.lookup x=some c->cells.lookup x=some c
 has:∀ x,scope.names.lookup x=some .free->∃ c,cls.lookup x=some c
 vis:∀ x,scope.names.lookup x=some .free->sc.names.lookup x=some .cell\/sc.names.lookup x=some .free
theorem bR{env:Env}:∀ {names:List (Str × NameKind)} {x:Str} {k:NameKind},
  (names.map fun(n,k)=>if(k == NameKind.free&&env.scope.kind == .function&&env.kindOf n == some .cell)then(n,NameKind.cell)else(n,k)).lookup x=some k ->
  names.lookup x=some k\/(k=.cell/\names.lookup x=some .free/\env.kindOf x=some .cell)
 | [],x,k,h=>by simp at h
 | (n,k')::r,x,k,h=>by
  have ih:=@bR env r x k
  rw[List.map_cons]at h
  cases hx:x == n with
  |true=>
   have en:x=n:=by simpa using hx
   subst en
   by_cases hc:(k' == NameKind.free&&env.scope.kind == .function&&env.kindOf x == some .cell)=true
   ·simp only[hc,if_true]at h
    rw[List.lookup_cons,hx]at h
    cases h
    simp only[Bool.and_eq_true,beq_iff_eq]at hc
    refine .inr ⟨rfl,?_,hc.2⟩
    rw[List.lookup_cons,hx,hc.1.1]
   ·simp only[Bool.not_eq_true]at hc
    simp only[hc,Bool.false_eq_true,if_false]at h
    rw[List.lookup_cons,hx]at h
    cases h
    exact .inl (by rw[List.lookup_cons,hx])
  |false=>
   have h':(r.map fun(n,k)=>if(k == NameKind.free&&env.scope.kind == .function&&env.kindOf n == some .cell)then(n,NameKind.cell)else(n,k)).lookup x=some k:=by
    by_cases hc:(k' == NameKind.free&&env.scope.kind == .function&&env.kindOf n == some .cell)=true
    ·simp only[hc,if_true]at h
     rw[List.lookup_cons,hx]at h
     exact h
    ·simp only[Bool.not_eq_true]at hc
     simp only[hc,Bool.false_eq_true,if_false]at h
     rw[List.lookup_cons,hx]at h
     exact h
   rcases ih h' with q | ⟨q1,q2,q3⟩
   ·exact .inl (by rw[List.lookup_cons,hx];exact q)
   ·exact .inr ⟨q1,by rw[List.lookup_cons,hx];exact q2,q3⟩
noncomputable def Aq(X:Cx)(scope:Scope)(σ σB:St):Prop:=σB.length=σ.length/\∀ (i:Nat) (x:Str) (v:V),X.N[i]?=some x->σB[i]?=some (some v)->σ[i]?=some (some v)/\scope.names.lookup x≠some .local
section
variable{X:Cx}{pins:List (Addr × Obj)}{σ σB:St}{H:Hp}{s:Shared}{scope:Scope}{cls:List (Str × Addr)}{fp:List Addr}
theorem Bv{h':Heap}{t:Nat}(I:Inv X pins σ H s)(S:fX scope X.env.scope cls X.env.cells)(hf:∀ b∈fp,j8 X pins H b/\b<s.heap.objs.size)(ho:Aq X scope σ σB)
 (hns:h'.Ns s.heap.objs.size (fun _=>none))(hk:∀ b o,s.heap.get? b=some o->h'.get? b=some o) :
  Inv (blk X scope cls s.heap.objs.size fp s H) [] σB H { s with heap:=h',toks:=t }:=by
 have hC:H s.heap.objs.size=none:=I.hok.fresh (Nat.le_refl _)
 have cne:∀ x c,cls.lookup x=some c->c≠s.heap.objs.size:=fun x c e=>by
  obtain⟨v,q⟩:=I.cell x c (S.sub x c e)
  exact Nat.ne_of_lt q.lt
 refine⟨⟨I.ok.mod,?_,I.ok.glob,I.ok.blt,Nat.le_refl _,fun x y c h1 h2=>I.ok.inj x y c (S.sub x c h1) (S.sub y c h2),fun x hx=>?_,fun x c z=>(by cases z),I.ok.hd,I.ok.frames,.inl rfl,fun b hb=>?_,fun b o e=>I.bs b o e,Nat.le_trans I.ok.bsz I.sz,fun b o e hb=>?_,fun b hb=>?_,I.stack,I.t8⟩,
  rfl,I.bare,Un.kept hk,⟨_,hns,fun i x v h1 h2 h3=>?_⟩,fun x c e=>?_,hC,fun x c e=>I.eK x c (S.sub x c e),fun p hp=>absurd hp (by simp[blk]),I.hok.kept hk,ho.1.trans I.len⟩
 ·exact S.kind
 ·have hx:(relabel scope X.env).names.lookup x=some .cell\/(relabel scope X.env).names.lookup x=some .free:=hx
  rcases hx with hx | hx
  ·rcases bR hx with q | ⟨_,q,_⟩
   ·exact absurd rfl (S.kf _ (PySem.mem_of_lookup q))
   ·exact S.has x q
  ·rcases bR hx with q | ⟨q,_⟩
   ·exact S.has x q
   ·cases q
 ·obtain⟨⟨f0,f1,f2,f3,f4,f5⟩,f6⟩:=hf b hb
  exact⟨Nat.ne_of_lt f6,fun x c e=>f4 x c (S.sub x c e)⟩
 ·obtain⟨⟨f0,f1,f2,f3,f4,f5⟩,f6⟩:=hf b hb
  rcases f3 with z | z
  ·exact I.ok.qK b o e z
  ·exact absurd (Nat.lt_of_lt_of_le (Heap.lt_size e) I.ok.bsz) (Nat.not_lt.mpr z)
 ·obtain⟨⟨f0,f1,f2,f3,f4,f5⟩,f6⟩:=hf b hb
  intro z
  rcases List.mem_cons.mp (I.sj b z)with e | e
  ·exact f1 e
  ·exact f2 e
 ·obtain⟨h4,h5⟩:=ho.2 i x v h1 h2
  have h3:(relabel scope X.env).names.lookup x=some .local\/(relabel scope X.env).names.lookup x=some .cell\/(relabel scope X.env).names.lookup x=some .free:=h3
  have key:scope.names.lookup x=some .free:=by
   rcases h3 with z | z | z
   ·rcases bR z with q | ⟨q,_⟩
    ·exact absurd q h5
    ·cases q
   ·rcases bR z with q | ⟨_,q,_⟩
    ·exact absurd rfl (S.kf _ (PySem.mem_of_lookup q))
    ·exact q
   ·rcases bR z with q | ⟨q,_⟩
    ·exact q
    ·cases q
  obtain⟨c,hc⟩:=S.has x key
  have hcx:=S.sub x c hc
  obtain⟨m,hn,hl⟩:=I.loc
  have hv:Vis X.env.scope x:=.inr (S.vis x key)
  obtain⟨u,ru,lk⟩:=hl i x v h1 h4 hv
  refine⟨u,ru,.inr ⟨?_,c,hc,?_⟩⟩
  ·rcases h3 with z | z
   ·rcases bR z with q | ⟨q,_⟩
    ·exact absurd q h5
    ·cases q
   ·exact z
  ·rcases lk with⟨z,_⟩ | ⟨_,c',e',q⟩
   ·have z:X.env.scope.names.lookup x=some .local:=z
    rcases S.vis x key with z' | z'<;>(rw[z]at z';cases z')
   ·rw[hcx]at e'
    cases e'
    obtain⟨o,g1,g2⟩:=q
    exact⟨o,hk _ _ g1,g2⟩
 ·obtain⟨v,q⟩:=I.cell x c (S.sub x c e)
  obtain⟨o,h1,h2⟩:=q
  exact⟨v,o,hk _ _ h1,h2⟩
noncomputable def ja(wi:TI)(clr:St->St)(g:TG)(tc:TT)(te:TE):TE:=fun σ H Q=>wi σ H fun J H1=>∀ l,H1 l=none->∃ W:Nat->Nat->List V->Hp->Prop,(∃ m,W 0 m [] (upd H1 l (.lst []))) /\
 ∀ i m ys H2,W i m ys H2->H2 l=some (.lst ys)/\((J.stop i H2/\Q (.ref l) H2)\/(J.go i H2/\∀ x H3,J.yld i H2 x H3->g x (clr σ) H3 fun σ4 H4=>tc σ4 H4 fun k H5 =>
  if k=true then te σ4 H5 fun y H6=>H6 l=some (.lst ys)/\ys.length<sizeLine/\∃ m',m'<m/\W (i+1) m' (ys++[y]) (upd H6 l (.lst (ys++[y])))else ∃ m',m'<m/\W (i+1) m' ys H5))
structure qb(X:Cx)(scope:Scope)(cls:List (Str × Addr))(tg:Expr)(ifs:List Expr)(elt:Expr)(clr:St->St)(g:TG)(tc:TT)(te:TE):Prop where
 htg:∀ C fp s H,PG (blk X scope cls C fp s H) tg g
 htc:∀ C fp s H pins s' σ H' Q,Inv (blk X scope cls C fp s H) pins σ H' s'->tc σ H' Q->wpAny (model X.prog X.w) X.A (hW ifs (compEnvC scope cls C X.env)) (TP (blk X scope cls C fp s H) pins σ Q) (fun _ _=>False) s'
 hte:∀ C fp s H,PE (blk X scope cls C fp s H) elt te
 Eu:∀ σ:St,σ.length=X.N.length->Aq X scope σ (clr σ)
 A9:∀ (x:V) (σ:St) (H:Hp) (Q:St->Hp->Prop),g x (clr σ) H Q->g x (clr σ) H fun σ2 H2=>Q σ2 H2/\(clr σ).length=σ2.length/\∀ (i:Nat) v,(clr σ)[i]?=some (some v)->σ2[i]?=some (some v)
theorem pK{elt tg iter:Expr}{ifs:List Expr}{pos:Pos}{wi:TI}{clr:St->St}{g:TG}{tc:TT}{te:TE}{Q:VK}{RR:Value->Addr->Result->Shared->Prop}(hc:X.calm=true)(S:fX scope X.env.scope cls X.env.cells)
 (hi:PI X tg iter wi)(B:qb X scope cls tg ifs elt clr g tc te)(I:Inv X pins σ H s)(h:ja wi clr g tc te σ H Q)
 (hRR:∀ l C H' s',Inv X pins σ H' s'->(∃ m,s'.heap.Ns C m)->H' C=none->C≠X.env.locals->X.s₀.heap.objs.size<=C->(∀ x c,X.env.cells.lookup x=some c->c≠C)->(∀ p∈X.pn++pins,p.1≠C)->Q (.ref l) H'->RR (.ref l) C (.ok .next) s') :
  wpAny (model X.prog X.w) X.A (eval iter X.env) (fun x s1=>wpAny (model X.prog X.w) X.A (pyIter x) (fun it s2=>wpAny (model X.prog X.w) X.A (newList []) (fun acc s3 =>
   wpAny (model X.prog X.w) X.A (newFunctionEnv scope X.env.globals cls [] X.env.qual none .none (some X.env)) (fun cenv s4 =>
    codeAny (model X.prog X.w) X.A (.compStart (.ListComp elt [⟨tg,iter,ifs,0⟩] scope pos) 0 it acc { cenv with scope:=relabel scope X.env }) (RR acc cenv.locals) s4) X.xe s3) X.xe s2) X.xe s1) X.xe s:=by
 refine thn (hi pins s σ H _ I h) fun x s1 h1=>thn h1 fun itv s2 h2=>?_
 obtain⟨it,fp,tn,J,H2,e,I2,T,st2,f2,h3⟩:=h2
 subst e
 have flt:∀ b∈fp,b<s2.heap.objs.size:=fun b hb=>by
  obtain⟨o,e,_⟩:=T.obj _ _ st2 b hb
  exact Heap.lt_size e
 refine wpAny_newObj_type ?_
 have I3:Inv X pins σ (upd H2 s2.heap.objs.size (.lst [])) { s2 with heap:=s2.heap.push { cls:=.type "list",dict:=none,data:=.seq ([]:List Value).toArray } } :=
  I2.laid (t':=s2.toks) (fun b u e=>Heap.get?_push_of_some _ e) (Nat.le_refl _) ⟨Nat.zero_le _,[],0,.nil,Heap.get?_push_size _ rfl⟩
 have hl2:H2 s2.heap.objs.size=none:=I2.hok.fresh (Nat.le_refl _)
 obtain⟨W,⟨m0,w0⟩,turn⟩:=h3 s2.heap.objs.size hl2
 have f3:∀ b∈fp,j8 X pins (upd H2 s2.heap.objs.size (.lst [])) b/\b<(s2.heap.push { cls:=.type "list",dict:=none,data:=.seq ([]:List Value).toArray }).objs.size:=fun b hb=>by
  obtain⟨z0,z⟩:=f2 b hb
  refine⟨⟨?_,z⟩,?_⟩
  ·rw[aV (Nat.ne_of_lt (flt b hb))]
   exact z0
  ·rw[Heap.size_push]
   exact Nat.lt_succ_of_lt (flt b hb)
 generalize hs3:({ s2 with heap:=s2.heap.push { cls:=.type "list",dict:=none,data:=.seq ([]:List Value).toArray } }:Shared)=s3 at I3
 have hs3h:s3.heap=s2.heap.push { cls:=.type "list",dict:=none,data:=.seq ([]:List Value).toArray }:=by rw[<-hs3]
 rw[<-hs3h]at f3
 have st3:tn 0 s3.heap:=T.keep _ _ _ st2 fun b hb o e=>by rw[hs3h];exact Heap.get?_push_of_some _ e
 refine wpAny_newFunctionEnv S.kf (by intro y hy;simp at hy) (fun h4 hns4 hsb4=>?_) S.kind
 have k4:∀ b o,s3.heap.get? b=some o->h4.get? b=some o:=fun b o e=>hsb4.extBut b o (Nat.ne_of_lt (Heap.lt_size e)) (Heap.get?_push_of_some _ e)
 have I4:Inv (blk X scope cls s3.heap.objs.size fp s3 (upd H2 s2.heap.objs.size (.lst []))) [] (clr σ) (upd H2 s2.heap.objs.size (.lst [])) { s3 with heap:=h4,toks:=s3.toks+([]:List (Str × Value)).length } :=
  Bv I3 S f3 (B.Eu σ I.len) (by simpa using hns4) k4
 generalize hs4:({ s3 with heap:=h4,toks:=s3.toks+([]:List (Str × Value)).length }:Shared)=s4 at I4
 have hs4h:s4.heap=h4:=by rw[<-hs4]
 generalize hH3:upd H2 s2.heap.objs.size (.lst [])=H3 at I3 I4 w0
 have st4:tn 0 s4.heap:=T.keep _ _ _ st3 fun b hb o e=>by rw[hs4h];exact k4 b o e
 have fn4:∀ b∈fp,H3 b=none:=fun b hb=>by rw[<-hH3];exact(f3 b hb).1.1
 have stat:∀ {H':Hp} {σ':St} {s':Shared},Inv (blk X scope cls s3.heap.objs.size fp s3 H3) [] σ' H' s'->(∀ b∈fp,H' b=none)->∀ b∈fp,j8 (blk X scope cls s3.heap.objs.size fp s3 H3) [] H' b :=
  fun {H' σ' s'} J hn b hb=>⟨hn b hb,(J.ok.exf b hb).1,J.ok.rP b hb,.inl hb,(J.ok.exf b hb).2,fun p hp=>absurd hp (by simp[blk])⟩
 have fin:∀ {H':Hp} {s':Shared},Inv (blk X scope cls s3.heap.objs.size fp s3 H3) [] (clr σ) H' s'->Q (.ref s2.heap.objs.size) H'->RR (.ref s2.heap.objs.size) s3.heap.objs.size (.ok .next) s':=fun {H' s'} J q=>by
  obtain⟨m,hn,_⟩:=J.loc
  have J1:Inv X pins σ H' s':=I3.Az (s':=s') (ch:=fp) (J.os.trans rfl) J.base J.hok J.bare fun b hb=>by
   obtain⟨⟨g0,g1,g2,g3,g4,g5⟩,_⟩:=f3 b hb
   exact⟨g3,g1,g4,g5⟩
  refine hRR _ _ H' s' J1 ⟨m,hn⟩ J.free (Nat.ne_of_gt I3.lt) I3.sz (fun x c e=>?_) (fun p hp=>?_) q
  ·obtain⟨v,z⟩:=I3.cell x c e
   exact Nat.ne_of_lt z.lt
  ·exact Nat.ne_of_lt (Heap.lt_size (I3.pin p hp).1)
 have loop:codeAny (model X.prog X.w) X.A (.compLoop (.ListComp elt [⟨tg,iter,ifs,0⟩] scope pos) 0 (.ref it) (.ref s2.heap.objs.size) (compEnvC scope cls s3.heap.objs.size X.env))
   (RR (.ref s2.heap.objs.size) s3.heap.objs.size) s4:=by
  refine xJ (fun n s'=>∃ i ys H',Inv (blk X scope cls s3.heap.objs.size fp s3 H3) [] (clr σ) H' s'/\tn i s'.heap/\(∀ b∈fp,H' b=none)/\W i n ys H') ?_ m0 ⟨0,[],H3,I4,st4,fn4,w0⟩
  rintro n s5 ⟨i,ys,H5,I5,st5,fr5,w5⟩
  obtain⟨hl5,tr⟩:=turn i n ys H5 w5
  rcases tr with⟨stop,qn⟩ | ⟨go,step⟩
  ·refine thn (T.done (blk X scope cls s3.heap.objs.size fp s3 H3) rfl rfl rfl hc i [] s5 (clr σ) H5 (fun _ _=>False) I5 (stat I5 fr5) st5 stop) fun r s6 ⟨hr,I6⟩=>?_
   subst hr
   exact fin I6 qn
  ·refine thn (T.item (blk X scope cls s3.heap.objs.size fp s3 H3) rfl rfl rfl hc i [] s5 (clr σ) H5 (fun _ _=>False) I5 (stat I5 fr5) st5 go) fun r s6 ⟨u,hr,h6⟩=>?_
   subst hr
   refine thn h6 fun _ s7 ⟨x,H7,I7,r7,y7,st7,fr7⟩=>?_
   have I7':=I7.pinned (stat I7 fr7) (T.obj _ _ st7)
   have back:∀ {σ':St} {H':Hp} {s':Shared},Inv (blk X scope cls s3.heap.objs.size fp s3 H3) ([]++kI fp s7.heap) σ' H' s'->(clr σ).length=σ'.length->(∀ (i:Nat) v,(clr σ)[i]?=some (some v)->σ'[i]?=some (some v))->(∃ m ys',m<n/\W (i+1) m ys' H') ->
     ∃ m,m<n/\∃ i ys H',Inv (blk X scope cls s3.heap.objs.size fp s3 H3) [] (clr σ) H' s'/\tn i s'.heap/\(∀ b∈fp,H' b=none)/\W i m ys H':=fun {σ' H' s'} J el ew hw=>by
    obtain⟨m,ys',hm,w8⟩:=hw
    refine⟨m,hm,i+1,ys',H',J.jr.weak el ew,T.keep _ _ _ st7 fun b hb o e=>(J.pin (b,o) (List.mem_append_right _ (List.mem_append_right _ (gp hb e)))).1,fun b hb=>?_,w8⟩
    obtain⟨o,e,d⟩:=T.obj _ _ st7 b hb
    exact(J.pin (b,o) (List.mem_append_right _ (List.mem_append_right _ (gp hb e)))).2.1
   refine thn (B.htg s3.heap.objs.size fp s3 H3 _ s7 (clr σ) H7 x u _ I7' r7 (B.A9 x σ H7 _ (step x H7 y7))) fun _ s8 ⟨σ8,H8,I8,q8,el8,ew8⟩=>?_
   refine thn (B.htc s3.heap.objs.size fp s3 H3 _ s8 σ8 H8 _ I8 q8) fun ok s9 ⟨H9,I9,q9⟩=>?_
   cases ok with
   |false=>
    have q9:∃ m',m'<n/\W (i+1) m' ys H9:=q9
    obtain⟨m',hm,w9⟩:=q9
    exact back I9 el8 ew8 ⟨m',ys,hm,w9⟩
   |true=>
    refine thn (B.hte s3.heap.objs.size fp s3 H3 _ s9 σ8 H9 _ I9 q9) fun v s10 ⟨y,H10,I10,r10,hl10,hz,m',hm,w10⟩=>?_
    refine thn (pG (X:=blk X scope cls s3.heap.objs.size fp s3 H3) _ s10 σ8 H10 (.ref s2.heap.objs.size) [y] (.ref s2.heap.objs.size) [v] (fun _ H'=>H'=upd H10 s2.heap.objs.size (.lst (ys++[y]))) I10 rfl (.cons r10 .nil) ⟨_,ys,y,rfl,rfl,hl10,hz,rfl⟩) fun _ s11 ⟨_,H11,I11,_,e11⟩=>?_
    subst e11
    exact back I11 el8 ew8 ⟨m',_,hm,w10⟩
 exact codeAny_compStart_list loop (T.self _ 0 _ _ _ st4 loop)
theorem t9{elt tg iter:Expr}{ifs:List Expr}{pos:Pos}{wi:TI}{clr:St->St}{g:TG}{tc:TT}{te:TE}(hc:X.calm=true)(S:fX scope X.env.scope cls X.env.cells)(hclos:closureFor scope X.env=pure cls)
 (hi:PI X tg iter wi)(B:qb X scope cls tg ifs elt clr g tc te)(hs:∀ x,foldedSetIterable iter X.env x=pure x):PE X (.ListComp elt [⟨tg,iter,ifs,0⟩] scope pos) (ja wi clr g tc te):=by
 intro pins s σ H Q I h
 rw[eval_ListComp]
 refine wpAny_comprehension_free (use:=none) rfl hs hclos S.kind S.loc (pK (RR:=fun acc C=>compPost (model X.prog X.w) X.A X.xe none (EP X pins σ Q) acc C) hc S hi B I h ?_)
 intro l C H' s' J hn c0 c1 c2 c3 c4 q
 obtain⟨m,hn⟩:=hn
 exact⟨m,hn,fun h' sb=>⟨.ref l,H',J.turned (it:=C) (h':=h') (t':=s'.toks) (fun b o hb e=>(sb.2 b hb).trans e) c0 (Ne.symm (Ne.symm c1)) (.inr c2) c3 c4,rfl,q⟩⟩
noncomputable def GI(i:Nat)(t:TE):TS:=fun D σ H=>t σ H fun v H1=>D.nx (σ.set i (some v)) H1
theorem tU{elt tg iter:Expr}{ifs:List Expr}{pos spos py:Pos}{y:Str}{i:Nat}{wi:TI}{clr:St->St}{g:TG}{tc:TT}{te:TE}(hc:X.calm=true)(hN:X.N.Nodup)(hiy:X.N[i]?=some y)(hy:X.env.scope.names.lookup y=some .local)
 (S:fX scope X.env.scope cls X.env.cells)(hclos:closureFor scope X.env=pure cls)
 (hi:PI X tg iter wi)(B:qb X scope cls tg ifs elt clr g tc te)(hs:∀ x,foldedSetIterable iter X.env x=pure x)
 (hsw:swapsWith (.ListComp elt [⟨tg,iter,ifs,0⟩] scope pos) (some (.Name y py)) spos.line X.env=pure true) :
  PS X (.Assign [.Name y py] (.ListComp elt [⟨tg,iter,ifs,0⟩] scope pos) spos) (GI i (ja wi clr g tc te)):=by
 intro pins s σ H D I h
 have back:∀ (l C:Addr) (H':Hp) (s':Shared),Inv X pins σ H' s'->(∃ m,s'.heap.Ns C m)->H' C=none->C≠X.env.locals->X.s₀.heap.objs.size<=C->(∀ x c,X.env.cells.lookup x=some c->c≠C)->(∀ p∈X.pn++pins,p.1≠C)->D.nx (σ.set i (some (.ref l))) H' ->
   compPost (model X.prog X.w) X.A X.xe (some (assign (.Name y py) X.env)) (fun _ s'=>SP X pins D .next s') (.ref l) C (.ok .next) s':=by
  intro l C H' s' J hn c0 c1 c2 c3 c4 q
  obtain⟨m,hn⟩:=hn
  show wpAny _ X.A (assign (.Name y py) X.env (.ref l)) _ _ s'
  refine wpAny_assign_Name (pC (v:=.ref l) J hN hiy (.inl hy) rfl (fun s2 J2 ⟨a,sb,ha⟩=>?_) (.inr hy))
  have hne:C≠a:=by
   rcases ha with z | z
   ·rw[z];exact c1
   ·exact(c3 _ _ z).symm
  exact⟨m,hn.sameBut sb hne,fun h' sb'=>⟨σ.set i (some (.ref l)),H',J2.turned (it:=C) (h':=h') (t':=s2.toks) (fun b o hb e=>(sb'.2 b hb).trans e) c0 c1 (.inr c2) c3 c4,q⟩⟩
 have core:=pK (RR:=fun acc C=>compPost (model X.prog X.w) X.A X.xe (some (assign (.Name y py) X.env)) (fun _ s'=>SP X pins D .next s') acc C) (pos:=pos) hc S hi B I h back
 have whole:=wpAny_comprehension_free (e:=.ListComp elt [⟨tg,iter,ifs,0⟩] scope pos) (newAcc:=newList []) (use:=some (assign (.Name y py) X.env)) (Q:=fun _ s'=>SP X pins D .next s') (pos:=iter.pos) rfl hs hclos S.kind S.loc core
 rw[exec_Assign_Name_used (hs:=hsw)]
 apply wpAny_bind
 apply wpAny_standAt
 apply wpAny_bind
 apply wpAny_bind
 refine thn whole fun _ s' hq=>?_
 apply wpAny_pure
 apply wpAny_pure
 exact hq
end
end L2
namespace RS
open PySem PySem.Spec PyProof.Rows L2
theorem jv{env:Env}:∀ (names:List (Str × NameKind)) (acc:List (Str × Addr)),(∀ x,(x,NameKind.free)∈names->∃ c,env.cells.lookup x=some c)->(∀ x c,acc.lookup x=some c->env.cells.lookup x=some c) ->
  ∃ cls,(forIn names acc fun(p:Str × NameKind) cs=>match p with | (name,kind)=>if(kind == NameKind.free)=true then do let c <- cellOf env name;pure (ForInStep.yield ((name,c)::cs))else pure (ForInStep.yield cs):Sem (List (Str × Addr)))=pure cls /\
   (∀ x c,cls.lookup x=some c->env.cells.lookup x=some c)/\(∀ x,(acc.lookup x).isSome=true\/(x,NameKind.free)∈names->∃ c,cls.lookup x=some c)
 | [],acc,_,ha=>⟨acc,rfl,ha,fun x hx=>by
   rcases hx with h | h
   ·exact Option.isSome_iff_exists.mp h
   ·simp at h⟩
 | (n,k)::r,acc,hn,ha=>by
  by_cases hk:k=.free
  ·subst hk
   obtain⟨c,hc⟩:=hn n List.mem_cons_self
   have ha':∀ x c',((n,c)::acc).lookup x=some c'->env.cells.lookup x=some c':=fun x c' e=>by
    rw[List.lookup_cons]at e
    cases hx:x == n with
    |true=>
     rw[hx]at e
     cases e
     rw[show x=n by simpa using hx]
     exact hc
    |false=>
     rw[hx]at e
     exact ha x c' e
   obtain⟨cls,h1,h2,h3⟩:=jv r ((n,c)::acc) (fun x hx=>hn x (List.mem_cons_of_mem _ hx)) ha'
   refine⟨cls,?_,h2,fun x hx=>h3 x ?_⟩
   ·rw[List.forIn_cons]
    have hcell:cellOf env n=pure c:=by unfold cellOf;rw[hc]
    simp only[beq_self_eq_true,if_true,hcell]
    exact h1
   ·rcases hx with h | h
    ·left
     rw[List.lookup_cons]
     split<;>simp_all
    ·rcases List.mem_cons.mp h with e | e
     ·cases e
      left
      simp[List.lookup_cons]
     ·exact .inr e
  ·obtain⟨cls,h1,h2,h3⟩:=jv r acc (fun x hx=>hn x (List.mem_cons_of_mem _ hx)) ha
   refine⟨cls,?_,h2,fun x hx=>h3 x ?_⟩
   ·rw[List.forIn_cons]
    have:(k == NameKind.free)=false:=by simpa using hk
    simp only[this,Bool.false_eq_true,if_false]
    exact h1
   ·rcases hx with h | h
    ·exact .inl h
    ·rcases List.mem_cons.mp h with e | e
     ·cases e
      exact absurd rfl hk
     ·exact .inr e
theorem v9{env:Env}{scope:Scope}(h:∀ x,(x,NameKind.free)∈scope.names->∃ c,env.cells.lookup x=some c) :
  ∃ cls,closureFor scope env=pure cls/\(∀ x c,cls.lookup x=some c->env.cells.lookup x=some c)/\(∀ x,scope.names.lookup x=some .free->∃ c,cls.lookup x=some c):=by
 obtain⟨cls,h1,h2,h3⟩:=jv (env:=env) scope.names [] h (fun x c e=>by simp at e)
 refine⟨cls,?_,h2,fun x hx=>h3 x (.inr (PySem.mem_of_lookup hx))⟩
 unfold closureFor
 simp only[bind_pure_comp]at h1 ⊢
 rw[h1]
 rfl
section
variable{X:Cx}{pos:Pos}
noncomputable def oT(K:PySem.W.Frag)(n:Nat)(t:TGs):TG:=fun v σ H Q=>∃ a xs,v=.ref a/\SqL K H a xs/\xs.length=n/\t xs σ H Q
theorem wb{k:Nat}{t:TGs}{n:Nat}(hc:X.calm=true)(h:PGs X es t)(hn:(assignEach es X.env).length=n)(hst:(assignEach es X.env).findIdx? (·.1)=none):PG X (.Tuple es k pos) (oT X.K n t):=by
 intro pins s σ H v u Q I r hw
 obtain⟨a,xs,e1,hq,hl,hw⟩:=hw
 subst e1
 cases r
 obtain⟨its,rv,ht,hz⟩:=I.list hq
 have hsz:(assignEach es X.env).length=its.toArray.size:=by rw[hn,<-hl,rv.length,List.size_toArray]
 rw[PyProof.Rows.assign_Tuple]
 refine wpAny_bind (wpAny_standAt ?_)
 unfold unpack
 rw[hsz,hst]
 refine wpAny_bind (wpAny_holding (PySem.W.kun_itemsOf (I.ok.hd hc) ht.isList fun h' hx=>?_))
 have I1:Inv X pins σ H { s with heap:=h' }:=I.kept (t':=s.toks) fun b o e=>hx b o (Nat.ne_of_lt (Heap.lt_size e)) e
 exact h pins _ σ H xs _ Q I1 (by simpa using rv) hw
end
section
variable{X:Cx}
theorem yh{t t':TG}(h:PG X tgE t)(h':PG X tgE t'):PG X tgE (fun v σ H Q=>t v σ H Q\/t' v σ H Q):=by
 intro pins s σ H v u Q I r hw
 rcases hw with q | q
 ·exact h pins s σ H v u Q I r q
 ·exact h' pins s σ H v u Q I r q
end
noncomputable def gs:List Nat->TGs
 | []=>Ep
 | i::r=>Ax (nM i) (gs r)
noncomputable def gT(K:PySem.W.Frag):List Nat->TG
 | [i]=>nM i
 | is=>fun v σ H Q=>ox K is.length (gs is) v σ H Q\/oT K is.length (gs is) v σ H Q
noncomputable def cZ:List Nat->List V->L2.St->L2.St
 | i::is,v::vs,σ=>cZ is vs (σ.set i (some v))
 | _,_,σ=>σ
noncomputable def eF:List Nat->List RL.D->RL.St->RL.St
 | i::is,d::ds,σ=>eF is ds (σ.set i (some d))
 | _,_,σ=>σ
theorem fZ:∀ {is:List Nat} {ds:List RL.D} {σ σ1:RL.St},RL.bA is ds σ=some σ1->is.length=ds.length/\σ1=eF is ds σ
 | [],[],σ,σ1,h=>by cases h;exact⟨rfl,rfl⟩
 | [],d::ds,σ,σ1,h=>by cases h
 | i::is,[],σ,σ1,h=>by cases h
 | i::is,d::ds,σ,σ1,h=>by
  obtain⟨h1,h2⟩:=fZ (is:=is) (ds:=ds) (σ:=σ.set i (some d)) h
  exact⟨by simp[h1],h2⟩
theorem j6:∀ {is:List Nat} {vs:List V} {σ:L2.St} {H:Hp} {Q:L2.St->Hp->Prop},is.length=vs.length->Q (cZ is vs σ) H->gs is vs σ H Q
 | [],[],σ,H,Q,_,q=>⟨rfl,q⟩
 | [],_::_,_,_,_,h,_=>by simp at h
 | _::_,[],_,_,_,h,_=>by simp at h
 | i::is,v::vs,σ,H,Q,h,q=>⟨v,vs,rfl,j6 (is:=is) (by simpa using h) q⟩
theorem A8{K:PySem.W.Frag}{tg:List Nat}{d:RL.D}{σD σD1:RL.St}(h:RL.aJ tg d σD=some σD1)(r:Rep nP K H d v) :
  ∃ ds vs,σD1=eF tg ds σD/\tg.length=ds.length/\ab nP K H ds vs/\(d.imm=true->RL.aq ds=true)/\∀ (σ:L2.St) (Q:L2.St->Hp->Prop),Q (cZ tg vs σ) H->gT K tg v σ H Q:=by
 unfold RL.aJ at h
 split at h
 ·rename_i i
  cases h
  exact⟨[d],[v],rfl,rfl,ab.cons r ab.nil,fun z=>by simp[RL.aq,z],fun σ Q q=>q⟩
 ·rename_i hne
  have key:gT K tg=fun v σ H Q=>ox K tg.length (gs tg) v σ H Q\/oT K tg.length (gs tg) v σ H Q:=by
   unfold gT
   split
   ·rename_i i
    exact absurd rfl (hne i)
   ·rfl
  rw[key]
  split at h
  ·rename_i ds
   obtain⟨h1,h2⟩:=fZ h
   obtain⟨p,xs,rfl,e2,e3⟩:=bz r
   exact⟨ds,xs,h2,h1,e3,fun z=>by rw[RL.D.imm]at z;exact z,fun σ Q q=>.inl ⟨p,xs,rfl,SqT.of e2,by rw[<-e3.length,h1],j6 (h1.trans e3.length) q⟩⟩
  ·rename_i ds
   obtain⟨h1,h2⟩:=fZ h
   obtain⟨p,xs,rfl,_,e2,e3⟩:=aD r
   exact⟨ds,xs,h2,h1,e3,fun z=>(by cases z),fun σ Q q=>.inr ⟨p,xs,rfl,SqL.of e2,by rw[<-e3.length,h1],j6 (h1.trans e3.length) q⟩⟩
  ·cases h
theorem qr:∀ (is:List Nat) (vs:List V) (σ:L2.St),(cZ is vs σ).length=σ.length
 | [],_,_=>rfl
 | _::_,[],_=>rfl
 | i::is,v::vs,σ=>by rw[cZ,qr is vs,List.length_set]
theorem oO:∀ (is:List Nat) (vs:List V) (σ:L2.St) (j:Nat),is.contains j=false->(cZ is vs σ)[j]?=σ[j]?
 | [],_,_,_,_=>rfl
 | _::_,[],_,_,_=>rfl
 | i::is,v::vs,σ,j,h=>by
  rw[List.contains_cons,Bool.or_eq_false_iff]at h
  rw[cZ,oO is vs _ j h.2,List.getElem?_set_ne (by intro e;subst e;simp at h)]
theorem mI:∀ (is:List Nat) (vs:List RL.D) (σ:RL.St),(eF is vs σ).length=σ.length
 | [],_,_=>rfl
 | _::_,[],_=>rfl
 | i::is,v::vs,σ=>by rw[eF,mI is vs,List.length_set]
theorem lJ:∀ (is:List Nat) (vs:List RL.D) (σ:RL.St) (j:Nat),is.contains j=false->(eF is vs σ)[j]?=σ[j]?
 | [],_,_,_,_=>rfl
 | _::_,[],_,_,_=>rfl
 | i::is,v::vs,σ,j,h=>by
  rw[List.contains_cons,Bool.or_eq_false_iff]at h
  rw[eF,lJ is vs _ j h.2,List.getElem?_set_ne (by intro e;subst e;simp at h)]
noncomputable def RVx(T:List Nat)(K:PySem.W.Frag)(σD:RL.St)(σ:L2.St)(H:Hp):Prop:=σD.length<=σ.length/\∀ (i:Nat) (d:RL.D),T.contains i=false->σD[i]?=some (some d)->∃ v,σ[i]?=some (some v)/\Rep nP K H d v
theorem RVx.set{K:PySem.W.Frag}{σD:RL.St}{σ:L2.St}{H:Hp}{i:Nat}{T:List Nat}(h:RVx (i::T) K σD σ H)(r:Rep nP K H d v):RVx T K (σD.set i (some d)) (σ.set i (some v)) H:=⟨by simpa using h.1,fun j dj hT e=>by
 by_cases hj:j=i
 ·subst hj
  have hlt:j<σD.length:=by
   have:=(List.getElem?_eq_some_iff.mp e).1
   simpa using this
  rw[List.getElem?_set_self hlt]at e
  cases e
  exact⟨v,by rw[List.getElem?_set_self (Nat.lt_of_lt_of_le hlt h.1)],r⟩
 ·rw[List.getElem?_set_ne (Ne.symm hj)]at e ⊢
  exact h.2 j dj (by rw[List.contains_cons,hT,Bool.or_false];simpa using hj) e⟩
theorem RVx.bA{K:PySem.W.Frag}{H:Hp}:∀ {is:List Nat} {ds:List RL.D} {vs:List V} {σD:RL.St} {σ:L2.St},RVx is K σD σ H->is.length=ds.length->ab nP K H ds vs->RV0 K (eF is ds σD) (cZ is vs σ) H
 | [],_,_,_,_,h,_,_=>⟨h.1,fun i d e=>h.2 i d rfl e⟩
 | i::is,[],_,_,_,_,hl,_=>by simp at hl
 | i::is,d::ds,vs,σD,σ,h,hl,r=>by
  rw[ab]at r
  obtain⟨v,t,rfl,r1,r2⟩:=r
  rw[eF,cZ]
  exact RVx.bA (h.set r1) (by simpa using hl) r2
theorem Fl{K:PySem.W.Frag}(h:gT K tg v σ H Q):∃ vs,tg.length=vs.length/\Q (cZ tg vs σ) H/\∀ Q':L2.St->Hp->Prop,Q' (cZ tg vs σ) H->gT K tg v σ H Q':=by
 have inv:∀ (is:List Nat) (xs:List V) (σ:L2.St) (Q:L2.St->Hp->Prop),gs is xs σ H Q->is.length=xs.length/\Q (cZ is xs σ) H:=by
  intro is
  induction is with
  | nil=>intro xs σ Q h;obtain⟨rfl,q⟩:=h;exact⟨rfl,q⟩
  |cons i r ih=>
   intro xs σ Q h
   obtain⟨v,t,rfl,q⟩:=h
   obtain⟨h1,h2⟩:=ih t _ Q q
   exact⟨by simp[h1],h2⟩
 unfold gT at h
 split at h
 ·rename_i i
  exact⟨[v],rfl,h,fun Q' q=>q⟩
 ·rename_i hne
  have key:gT K tg=fun v σ H Q=>ox K tg.length (gs tg) v σ H Q\/oT K tg.length (gs tg) v σ H Q:=by
   unfold gT
   split
   ·rename_i i
    exact absurd rfl (hne i)
   ·rfl
  rw[key]
  rcases h with⟨a,xs,rfl,hq,hl,hg⟩ | ⟨a,xs,rfl,hq,hl,hg⟩
  ·obtain⟨h1,h2⟩:=inv _ _ _ _ hg
   exact⟨xs,h1,h2,fun Q' q=>.inl ⟨a,xs,rfl,hq,hl,j6 h1 q⟩⟩
  ·obtain⟨h1,h2⟩:=inv _ _ _ _ hg
   exact⟨xs,h1,h2,fun Q' q=>.inr ⟨a,xs,rfl,hq,hl,j6 h1 q⟩⟩
noncomputable def gm(tg:List Nat)(σ:L2.St):L2.St:=σ.mapIdx fun i o=>if tg.contains i then none else o
theorem rH(tg:List Nat)(σ:L2.St):(gm tg σ).length=σ.length:=by simp[gm]
theorem uk{tg:List Nat}{σ:L2.St}{i:Nat}(h:tg.contains i=false):(gm tg σ)[i]?=σ[i]?:=by
 unfold gm
 rw[List.getElem?_mapIdx]
 cases σ[i]? with
 | none=>rfl
 | some o=>simp only[Option.map_some,h,Bool.false_eq_true,if_false]
theorem tD{tg:List Nat}{σ:L2.St}{i:Nat}{v:V}(h:tg.contains i=true):(gm tg σ)[i]?≠some (some v):=by
 unfold gm
 rw[List.getElem?_mapIdx]
 cases σ[i]? with
 | none=>simp
 | some o=>simp only[Option.map_some,h,if_true];intro z;cases z
section comp
variable{X:Cx}{cl:RL.Cl}{tgE iter elt c:Expr}{e' c':RL.E}{it:RL.It}{tg:List Nat}{scope:Scope}{cls:List (Str × Addr)}{pos:Pos}{ifs:List Expr}
structure lD(X:Cx)(cl:RL.Cl)(scope:Scope)(tgE:Expr)(tg:List Nat)(elt:Expr)(e':RL.E)(tcs:TT)(ifs:List Expr):Prop where
 htg:∀ cls C fp s H,PG (blk X scope cls C fp s H) tgE (gT X.K tg)
 htc:∀ cls C fp s H pins s' σ H' Q,Inv (blk X scope cls C fp s H) pins σ H' s'->tcs σ H' Q->wpAny (model X.prog X.w) X.A (hW ifs (compEnvC scope cls C X.env)) (TP (blk X scope cls C fp s H) pins σ Q) (fun _ _=>False) s'
 hte:∀ cls C fp s H,SE (blk X scope cls C fp s H) cl elt e'
 cover:∀ (i:Nat) (x:Str),X.N[i]?=some x->scope.names.lookup x=some .local->tg.contains i=true
theorem lD.blk(B:lD X cl scope tgE tg elt e' tcs ifs)(cls:List (Str × Addr)):qb X scope cls tgE ifs elt (gm tg) (gT X.K tg) tcs (tE X.K cl e') where
 htg:=B.htg cls
 htc:=B.htc cls
 hte:=B.hte cls
 Eu:=fun σ hl=>⟨rH tg σ,fun i x v h1 h2=>by
  by_cases hc:tg.contains i=true
  ·exact absurd h2 (tD hc)
  ·simp only[Bool.not_eq_true]at hc
   rw[uk hc]at h2
   refine⟨h2,fun z=>?_⟩
   rw[B.cover i x h1 z]at hc
   cases hc⟩
 A9:=fun x σ H Q h=>by
  obtain⟨vs,h1,h2,h3⟩:=Fl h
  refine h3 _ ⟨h2,(qr _ _ _).symm,fun i v e=>?_⟩
  by_cases hc:tg.contains i=true
  ·exact absurd e (tD hc)
  ·simp only[Bool.not_eq_true]at hc
   rw[oO _ _ _ _ hc]
   exact e
theorem xX{f:RL.St->Option (Option RL.D)}{σ:RL.St}{d:RL.D}{r ys:List RL.D}(h:RL.bW f tg σ (d::r)=some ys):∃ σ1 y ys',RL.aJ tg d σ=some σ1/\f σ1=some y/\RL.bW f tg σ r=some ys'/\RL.ko y ys'=some ys:=by
 rw[RL.bW]at h
 obtain⟨σ1,h1,h⟩:=bind_some h
 obtain⟨y,h2,h⟩:=bind_some h
 obtain⟨ys',h3,h⟩:=bind_some h
 exact⟨σ1,y,ys',h1,h2,h3,h⟩
theorem uq{tcs:TT}{f:RL.St->Option (Option RL.D)}{σ:L2.St}{H:Hp}{Q:VK}{σD:RL.St}{ds total:List RL.D}(rv:RV0 X.K σD σ H)(ei:RL.bb cl σD it=some ds)(hz:ds.length<=RL.most)(hm:RL.bW f tg σD ds=some total)
 (ht:∀ σ1 σV H y (Q:Bool->Hp->Prop),RV0 X.K σ1 σV H->f σ1=some y->(∀ k H',a5 H H'->(if k=true then ∃ d,y=some d/\RL.ev cl σ1 e'=some d else y=none)->Q k H')->tcs σV H Q)
 (k:∀ l H',a5 H H'->H l=none->(∃ xs,H' l=some (.lst xs)/\ab nP X.K H' total xs)->Q (.ref l) H'):ja (tI X.K cl it) (gm tg) (gT X.K tg) tcs (tE X.K cl e') σ H Q:=by
 refine⟨σD,ds,rv,ei,fun J H1 s1 src l hl=>?_⟩
 obtain⟨ok,_⟩:=src
 refine⟨fun i m xs H2=>∃ don rest,m=ds.length-i/\i<=ds.length/\a5 H1 H2/\H2 l=some (.lst xs)/\ab (fun p=>p=l) X.K H2 don xs/\RL.bW f tg σD (ds.drop i)=some rest/\don++rest=total/\don.length<=i,
  ⟨_,[],total,rfl,Nat.zero_le _,a5.bS hl,bC,ab.nil,hm,rfl,Nat.le_refl _⟩,?_⟩
 rintro i m xs H2 ⟨don,rest,rfl,hi,s2,hl2,rs,hr,htot,hdn⟩
 refine⟨hl2,?_⟩
 have off:Off nP H1 H2:=Off.same s2
 by_cases hlt:i<ds.length
 ·refine .inr ⟨ok.go H2 i off hlt,fun x H3 y=>?_⟩
  have hd:ds[i]?=some ds[i]:=by simp[hlt]
  obtain⟨s3,rp⟩:=ok.yld H2 i ds[i] x H3 off hd y
  have rp:=rp (.inr s2)
  rw[List.drop_eq_getElem_cons hlt]at hr
  obtain⟨σ1,y1,ys',h1,h2,h3,h4⟩:=xX hr
  obtain⟨dv,vs,e1,e2,e3,_,e5⟩:=A8 h1 rp
  refine e5 _ _ ?_
  have rv3:RV0 X.K σD σ H3:=rv.same ((s1.trans s2).trans s3)
  have rvx:RVx tg X.K σD (gm tg σ) H3:=⟨by rw[rH];exact rv3.1,fun j d hT e=>by rw[uk hT];exact rv3.2 j d e⟩
  have rv1:RV0 X.K σ1 (cZ tg vs (gm tg σ)) H3:=by rw[e1];exact rvx.bA e2 e3
  refine ht σ1 _ H3 y1 _ rv1 h2 fun t H5 s5 hy=>?_
  have hl5:H5 l=some (.lst xs):=s5 _ _ (s3 _ _ hl2)
  have rs5:ab (fun p=>p=l) X.K H5 don xs:=(rs.same s3).same s5
  cases t with
  |true=>
   obtain⟨d,rfl,hv⟩:=(show ∃ d,y1=some d/\RL.ev cl σ1 e'=some d from hy)
   have him:d.imm=true/\rest=d::ys':=by
    unfold RL.ko at h4
    dsimp only at h4
    split at h4
    ·rename_i hh
     cases h4
     exact⟨hh,rfl⟩
    ·cases h4
   refine eD ⟨σ1,d,rv1.same s5,hv,fun v H6 r6=>⟨r6.same _ _ hl5,?_,ds.length-(i+1),by lia,don++[d],ys',rfl,hlt,?_,bC,?_,h3,?_,?_⟩⟩
   ·rw[<-rs.length]
    exact Nat.lt_of_lt_of_le (Nat.lt_of_le_of_lt hdn (Nat.lt_of_lt_of_le hlt hz)) (Nat.le_of_lt (by decide))
   ·intro b o e
    have hb:b≠l:=aW e hl
    rw[aV hb]
    exact r6.same _ _ (s5 _ _ (s3 _ _ (s2 _ _ e)))
   ·exact ab.upd (P:=fun p=>p=l) (r6.same _ _ hl5) (.inl ⟨_,rfl⟩) rfl (ab.append (rs5.same r6.same) (ab.cons (r6.rep.imm him.1) ab.nil))
   ·rw[<-htot,him.2,List.append_assoc]
    rfl
   ·rw[List.length_append,List.length_singleton]
    lia
  |false=>
   have hy:y1=none:=hy
   subst hy
   have hr2:rest=ys':=by
    unfold RL.ko at h4
    dsimp only at h4
    cases h4
    rfl
   refine eX ⟨ds.length-(i+1),by lia,don,ys',rfl,hlt,(s2.trans s3).trans s5,hl5,rs5,h3,by rw[<-htot,hr2],by lia⟩
 ·have e:i=ds.length:=by lia
  subst e
  refine .inl ⟨ok.stop H2 off,k l H2 (s1.trans s2) (s1.free hl) ⟨xs,hl2,?_⟩⟩
  rw[List.drop_length,RL.bW]at hr
  cases hr
  rw[List.append_nil]at htot
  rw[<-htot]
  exact ab.weak (fun _ z=>z.elim) rs
end comp
section comp
variable{X:Cx}{cl:RL.Cl}{tgE iter elt c:Expr}{e' c':RL.E}{it:RL.It}{tg:List Nat}{scope:Scope}{pos:Pos}{ifs:List Expr}
structure p6(scope sc:Scope):Prop where
 kind:scope.kind=.function
 kf:∀ x∈scope.names,x.2≠.cell
 loc:∀ x∈scope.names,x.2=.local->scope.names.lookup x.1=some .local
 vis:∀ x∈scope.names,x.2=.free->sc.names.lookup x.1=some .cell\/sc.names.lookup x.1=some .free
theorem gw(S:p6 scope X.env.scope)(I:Inv X pins σ H s):∃ cls,closureFor scope X.env=pure cls/\fX scope X.env.scope cls X.env.cells:=by
 obtain⟨cls,h1,h2,h3⟩:=v9 (env:=X.env) (scope:=scope) fun x hx=>I.ok.has x (S.vis _ hx rfl)
 exact⟨cls,h1,S.kind,S.kf,S.loc,h2,h3,fun x hx=>S.vis _ (PySem.mem_of_lookup hx) rfl⟩
theorem rN{σD:RL.St}{σ:L2.St}{e:RL.E}{l:Addr}{total:List RL.D}(sm:a5 H H')(hl:H l=none)(h:∃ xs,H' l=some (.lst xs)/\ab nP X.K H' total xs)(hav:∀ M,RL.avE M e=false):Res X.K σD σ H e (.lst total) (.ref l) H' where
 same:=sm
 rep:=by
  obtain⟨xs,h1,h2⟩:=h
  rw[Rep]
  exact⟨l,xs,rfl,fun z=>z,h1,h2⟩
 fresh:=fun _ _ a z=>by cases z;exact hl
 av:=fun M z=>by rw[hav M]at z;cases z
noncomputable def nK:TT:=fun _ H Q=>Q true H
theorem rE{σ:L2.St}{H:Hp}{Q:VK}(h:tE X.K cl (.compA e' tg it) σ H Q):ja (tI X.K cl it) (gm tg) (gT X.K tg) nK (tE X.K cl e') σ H Q:=by
 obtain⟨σD,d,rv,e,k⟩:=h
 rw[RL.ev]at e
 obtain⟨ds,e1,e⟩:=bind_some e
 obtain⟨ds',e2,e⟩:=bind_some e
 obtain⟨total,e3,e4⟩:=map_some e
 unfold RL.fits at e2
 split at e2
 ·rename_i hz
  cases e2
  subst e4
  refine uq (f:=fun σ1=>(RL.ev cl σ1 e').map some) rv e1 hz e3 (fun σ1 σV H y Q rv1 hy q=>?_) fun l H' sm hl hx=>k _ _ (rN sm hl hx fun _=>rfl)
  obtain⟨d,h1,h2⟩:=map_some hy
  exact q true H (a5.refl H) (eD ⟨d,h2.symm,h1⟩)
 ·cases e2
theorem rq{σ:L2.St}{H:Hp}{Q:VK}(h:tE X.K cl (.comp e' tg it c') σ H Q):ja (tI X.K cl it) (gm tg) (gT X.K tg) (tT X.K cl c') (tE X.K cl e') σ H Q:=by
 obtain⟨σD,d,rv,e,k⟩:=h
 rw[RL.ev]at e
 obtain⟨ds,e1,e⟩:=bind_some e
 obtain⟨ds',e2,e⟩:=bind_some e
 obtain⟨total,e3,e4⟩:=map_some e
 unfold RL.fits at e2
 split at e2
 ·rename_i hz
  cases e2
  subst e4
  refine uq rv e1 hz e3 (fun σ1 σV H y Q rv1 hy q=>?_) fun l H' sm hl hx=>k _ _ (rN sm hl hx fun _=>rfl)
  obtain⟨t,h1,h2⟩:=bind_some hy
  refine⟨σ1,t,rv1,h1,fun H' sm=>q t H' sm ?_⟩
  cases t with
  |true=>
   obtain⟨d,h3,h4⟩:=map_some (show(RL.ev cl σ1 e').map some=some y from h2)
   exact eD ⟨d,h4.symm,h3⟩
  |false=>
   cases(show(some none:Option (Option RL.D))=some y from h2)
   exact eX rfl
 ·cases e2
theorem yN(hc:X.calm=true)(S:p6 scope X.env.scope)(hi:SI X cl tgE iter it)(B:lD X cl scope tgE tg elt e' nK [])(hs:∀ x,foldedSetIterable iter X.env x=pure x):SE X cl (.ListComp elt [⟨tgE,iter,[],0⟩] scope pos) (.compA e' tg it):=by
 intro pins s σ H Q I h
 obtain⟨cls,h1,h2⟩:=gw S I
 exact t9 hc h2 h1 hi (B.blk cls) hs pins s σ H Q I (rE h)
theorem zq(hc:X.calm=true)(S:p6 scope X.env.scope)(hi:SI X cl tgE iter it)(B:lD X cl scope tgE tg elt e' (tT X.K cl c') [c])(hs:∀ x,foldedSetIterable iter X.env x=pure x):SE X cl (.ListComp elt [⟨tgE,iter,[c],0⟩] scope pos) (.comp e' tg it c'):=by
 intro pins s σ H Q I h
 obtain⟨cls,h1,h2⟩:=gw S I
 exact t9 hc h2 h1 hi (B.blk cls) hs pins s σ H Q I (rq h)
noncomputable def SA(X:Cx)(cl:RL.Cl)(st:Stmt)(i:Nat)(e':RL.E):Prop:=PS X st (fun D σ H=>tE X.K cl e' σ H fun v H1=>D.nx (σ.set i (some v)) H1)
theorem PS.weak{st:Stmt}{t t':TS}(h:PS X st t)(w:∀ D σ H,t' D σ H->t D σ H):PS X st t':=fun pins s σ H D I q=>h pins s σ H D I (w D σ H q)
theorem PSs.weak{st:List Stmt}{t t':TS}(h:PSs X st t)(w:∀ D σ H,t' D σ H->t D σ H):PSs X st t':=fun pins s σ H D I q=>h pins s σ H D I (w D σ H q)
variable{y:Str}{i:Nat}{py spos:Pos}
theorem yY(hc:X.calm=true)(hN:X.N.Nodup)(hiy:X.N[i]?=some y)(hy:X.env.scope.names.lookup y=some .local)(S:p6 scope X.env.scope)(hi:SI X cl tgE iter it)(B:lD X cl scope tgE tg elt e' nK [])(hs:∀ x,foldedSetIterable iter X.env x=pure x)
 (hsw:swapsWith (.ListComp elt [⟨tgE,iter,[],0⟩] scope pos) (some (.Name y py)) spos.line X.env=pure true):SA X cl (.Assign [.Name y py] (.ListComp elt [⟨tgE,iter,[],0⟩] scope pos) spos) i (.compA e' tg it):=by
 intro pins s σ H D I h
 obtain⟨cls,h1,h2⟩:=gw S I
 exact tU hc hN hiy hy h2 h1 hi (B.blk cls) hs hsw pins s σ H D I (rE h)
theorem yq(hc:X.calm=true)(hN:X.N.Nodup)(hiy:X.N[i]?=some y)(hy:X.env.scope.names.lookup y=some .local)(S:p6 scope X.env.scope)(hi:SI X cl tgE iter it)(B:lD X cl scope tgE tg elt e' (tT X.K cl c') [c])(hs:∀ x,foldedSetIterable iter X.env x=pure x)
 (hsw:swapsWith (.ListComp elt [⟨tgE,iter,[c],0⟩] scope pos) (some (.Name y py)) spos.line X.env=pure true):SA X cl (.Assign [.Name y py] (.ListComp elt [⟨tgE,iter,[c],0⟩] scope pos) spos) i (.comp e' tg it c'):=by
 intro pins s σ H D I h
 obtain⟨cls,h1,h2⟩:=gw S I
 exact tU hc hN hiy hy h2 h1 hi (B.blk cls) hs hsw pins s σ H D I (rq h)
theorem yF(hN:X.N.Nodup)(hiy:X.N[i]?=some y)(hx:Loc X.env.scope y)(he:SE X cl e e')(hf:X.fn y=true\/X.env.scope.names.lookup y=some .local)(hs:swapsWith e (some (.Name y py)) spos.line X.env=pure false)(hf2:True):SA X cl (.Assign [.Name y py] e spos) i e':=by
 exact wA hN hiy hx he hs hf
end comp
noncomputable def bD(M:List Nat)(σ:L2.St):Addr->Prop:=fun a=>∃ i,M.contains i=true/\σ[i]?=some (some (.ref a))
noncomputable def Own(K:PySem.W.Frag)(H:Hp)(d:RL.D)(v:V):Prop:=me d=true/\RL.a9 d=true/\Rep nP K H d v
structure RVm(K:PySem.W.Frag)(M:List Nat)(σD:RL.St)(σ:L2.St)(H:Hp):Prop where
 len:σD.length=σ.length
 val:∀ (i:Nat) (d:RL.D),σD[i]?=some (some d)->∃ v,σ[i]?=some (some v)/\(if M.contains i=true then Own K H d v else Rep (bD M σ) K H d v)
 non:∀ (i:Nat) (v:V),σ[i]?=some (some v)->∃ d,σD[i]?=some (some d)
 sep:∀ (i j:Nat) (a:Addr),M.contains i=true->M.contains j=true->σ[i]?=some (some (.ref a))->σ[j]?=some (some (.ref a))->i=j
noncomputable def Fr'(M:List Nat)(σ:L2.St)(H:Hp)(σ':L2.St)(H':Hp):Prop:=(∀ b o,H b=some o->¬ bD M σ b->H' b=some o/\¬ bD M σ' b)/\∀ j,2<=M.count j->σ'[j]?=σ[j]?
theorem Fr'.trans(a:Fr' M σ H σ1 H1)(b:Fr' M σ1 H1 σ2 H2):Fr' M σ H σ2 H2:=⟨fun c o e n=>b.1 c o (a.1 c o e n).1 (a.1 c o e n).2,fun j hj=>(b.2 j hj).trans (a.2 j hj)⟩
theorem Fr'.same{M:List Nat}{σ:L2.St}(s:a5 H H1):Fr' M σ H σ H1:=⟨fun c o e n=>⟨s _ _ e,n⟩,fun _ _=>rfl⟩
theorem kR{M:List Nat}{j:Nat}(h:2<=M.count j):M.contains j=true:=by
 have:0<M.count j:=by lia
 simpa using List.count_pos_iff.mp this
section st
variable{K:PySem.W.Frag}{M:List Nat}{σD:RL.St}{σ:L2.St}{H H1:Hp}
theorem Own.ref(h:Own K H d v):∃ a o,v=.ref a/\H a=some o/\cR o:=by
 obtain⟨m,_,r⟩:=h
 cases d with
 | lst ds=>obtain⟨a,xs,e1,_,e2,_⟩:=aD r;exact⟨a,_,e1,e2,.inl ⟨_,rfl⟩⟩
 | dK ks ds=>rw[Rep]at r;obtain⟨a,xs,e1,_,e2,_⟩:=r;exact⟨a,_,e1,e2,.inr (.inl ⟨_,rfl⟩)⟩
 | dT ks ds=>rw[Rep]at r;obtain⟨a,xs,e1,_,e2,_⟩:=r;exact⟨a,_,e1,e2,.inr (.inr ⟨_,rfl⟩)⟩
 | _=>cases m
theorem RVm.rv0(h:RVm K M σD σ H):RV0 K σD σ H:=⟨Nat.le_of_eq h.len,fun i d e=>by
 obtain⟨v,h1,h2⟩:=h.val i d e
 refine⟨v,h1,?_⟩
 by_cases hm:M.contains i=true
 ·rw[if_pos hm]at h2
  exact h2.2.2
 ·rw[if_neg hm]at h2
  exact h2.none⟩
theorem RVm.yK(h:RVm K M σD σ H):∀ a,bD M σ a->∃ o,H a=some o/\cR o:=fun a ⟨i,hi,e⟩=>by
 obtain⟨d,hd⟩:=h.non i _ e
 obtain⟨v,h1,h2⟩:=h.val i d hd
 rw[if_pos hi]at h2
 obtain⟨b,o,e1,e2,e3⟩:=h2.ref
 rw[e]at h1
 cases h1
 cases e1
 exact⟨o,e2,e3⟩
theorem RVm.rz(h:RVm K M σD σ H):∀ a,bD M σ a->H a≠none:=fun a p=>by
 obtain⟨o,e,_⟩:=h.yK a p
 rw[e]
 exact fun z=>nomatch z
theorem Own.same(h:Own K H d v)(s:a5 H H1):Own K H1 d v:=⟨h.1,h.2.1,h.2.2.same s⟩
theorem RVm.same(h:RVm K M σD σ H)(s:a5 H H1):RVm K M σD σ H1:=⟨h.len,fun i d e=>by
 obtain⟨v,h1,h2⟩:=h.val i d e
 refine⟨v,h1,?_⟩
 by_cases hm:M.contains i=true
 ·rw[if_pos hm]at h2 ⊢
  exact h2.same s
 ·rw[if_neg hm]at h2 ⊢
  exact h2.same s,h.non,h.sep⟩
theorem bD.set{i:Nat}{v:V}(hi:M.contains i=false):bD M (σ.set i (some v))=bD M σ:=by
 funext a
 apply propext
 constructor
 ·rintro⟨j,hj,e⟩
  have hne:i≠j:=fun z=>by subst z;rw[hi]at hj;cases hj
  rw[List.getElem?_set_ne hne]at e
  exact⟨j,hj,e⟩
 ·rintro⟨j,hj,e⟩
  have hne:i≠j:=fun z=>by subst z;rw[hi]at hj;cases hj
  exact⟨j,hj,by rw[List.getElem?_set_ne hne];exact e⟩
theorem RVm.bind{i:Nat}{d:RL.D}{v:V}(h:RVm K M σD σ H)(hi:M.contains i=false)(r:Rep (bD M σ) K H d v):RVm K M (σD.set i (some d)) (σ.set i (some v)) H where
 len:=by simpa using h.len
 val:=fun j dj e=>by
  rw[bD.set hi]
  by_cases hj:j=i
  ·subst hj
   have hlt:j<σD.length:=by
    have:=(List.getElem?_eq_some_iff.mp e).1
    simpa using this
   rw[List.getElem?_set_self hlt]at e
   cases e
   refine⟨v,by rw[List.getElem?_set_self (by rw[<-h.len];exact hlt)],?_⟩
   rw[if_neg (by rw[hi];decide)]
   exact r
  ·rw[List.getElem?_set_ne (Ne.symm hj)]at e ⊢
   exact h.val j dj e
 non:=fun j w e=>by
  by_cases hj:j=i
  ·subst hj
   have hlt:j<σ.length:=by
    have:=(List.getElem?_eq_some_iff.mp e).1
    simpa using this
   exact⟨d,by rw[List.getElem?_set_self (by rw[h.len];exact hlt)]⟩
  ·rw[List.getElem?_set_ne (Ne.symm hj)]at e ⊢
   exact h.non j w e
 sep:=fun j k a hj hk e1 e2=>by
  have n1:i≠j:=fun z=>by subst z;rw[hi]at hj;cases hj
  have n2:i≠k:=fun z=>by subst z;rw[hi]at hk;cases hk
  rw[List.getElem?_set_ne n1]at e1
  rw[List.getElem?_set_ne n2]at e2
  exact h.sep j k a hj hk e1 e2
theorem Fr'.bind{i:Nat}{v:V}(hi:M.contains i=false)(s:a5 H H1):Fr' M σ H (σ.set i (some v)) H1:=⟨fun b o e n=>⟨s _ _ e,by rw[bD.set hi];exact n⟩,fun j hj=>List.getElem?_set_ne (fun z=>by subst z;rw[kR hj]at hi;cases hi)⟩
end st
mutual
theorem Rep.eS{P:Addr->Prop}{K:PySem.W.Frag}{H:Hp}{a:Addr}(ha:H a=none):∀ {d:RL.D} {v:V},Rep P K H d v->Rep (fun p=>P p\/p=a) K H d v
 | .non,v,h=>by simpa[Rep]using h
 | .bl _,v,h=>by simpa[Rep]using h
 | .int _,v,h=>by simpa[Rep]using h
 | .str _,v,h=>by simpa[Rep]using h
 | .tup ds,v,h=>by
  rw[Rep]at h ⊢
  obtain⟨b,xs,e1,e2,e3⟩:=h
  exact⟨b,xs,e1,e2,ab.eS ha e3⟩
 | .lst ds,v,h=>by
  rw[Rep]at h ⊢
  obtain⟨b,xs,e1,e0,e2,e3⟩:=h
  exact⟨b,xs,e1,fun z=>z.elim e0 (fun q=>aW e2 ha q),e2,ab.eS ha e3⟩
 | .dK ks ds,v,h=>by
  rw[Rep]at h ⊢
  obtain⟨b,xs,e1,e0,e2,el,e3⟩:=h
  exact⟨b,xs,e1,fun z=>z.elim e0 (fun q=>aW e2 ha q),e2,el,ab.eS ha e3⟩
 | .dT ks ds,v,h=>by
  rw[Rep]at h ⊢
  obtain⟨b,xs,e1,e0,e2,el,e3⟩:=h
  exact⟨b,xs,e1,fun z=>z.elim e0 (fun q=>aW e2 ha q),e2,el,ab.eS ha e3⟩
 | .scr ds,v,h=>by
  rw[Rep]at h ⊢
  obtain⟨b,xs,e1,e2,e3⟩:=h
  exact⟨b,xs,e1,e2,ab.eS ha e3⟩
theorem ab.eS{P:Addr->Prop}{K:PySem.W.Frag}{H:Hp}{a:Addr}(ha:H a=none):∀ {ds:List RL.D} {xs:List V},ab P K H ds xs->ab (fun p=>P p\/p=a) K H ds xs
 | [],xs,h=>by rw[ab]at h ⊢;exact h
 | d::r,xs,h=>by
  rw[ab]at h ⊢
  obtain⟨x,t,e1,e2,e3⟩:=h
  exact⟨x,t,e1,Rep.eS ha e2,ab.eS ha e3⟩
end
section st
variable{K:PySem.W.Frag}{M:List Nat}{σD:RL.St}{σ:L2.St}{H H1:Hp}
theorem RVm.own{i:Nat}{d:RL.D}{a:Addr}(h:RVm K M σD σ H)(s:a5 H H1)(hi:M.contains i=true)(hi2:M.count i<2)(ha:H a=none)(r:Own K H1 d (.ref a)):RVm K M (σD.set i (some d)) (σ.set i (some (.ref a))) H1/\Fr' M σ H (σ.set i (some (.ref a))) H1:=by
 have sub:∀ b,bD M (σ.set i (some (.ref a))) b->bD M σ b\/b=a:=fun b ⟨j,hj,e⟩=>by
  by_cases hji:j=i
  ·subst hji
   have hlt:j<σ.length:=by
    have:=(List.getElem?_eq_some_iff.mp e).1
    simpa using this
   rw[List.getElem?_set_self hlt]at e
   cases e
   exact .inr rfl
  ·rw[List.getElem?_set_ne (Ne.symm hji)]at e
   exact .inl ⟨j,hj,e⟩
 have old:∀ b,bD M σ b->b≠a:=fun b p z=>h.rz b p (z▸ha)
 refine⟨⟨by simpa using h.len,fun j dj e=>?_,fun j w e=>?_,fun j k b hj hk e1 e2=>?_⟩,⟨fun b o e n=>⟨s _ _ e,fun z=>(sub b z).elim n fun q=>aW e ha q⟩,fun j hj=>List.getElem?_set_ne (fun z=>by subst z;lia)⟩⟩
 ·by_cases hj:j=i
  ·subst hj
   have hlt:j<σD.length:=by
    have:=(List.getElem?_eq_some_iff.mp e).1
    simpa using this
   rw[List.getElem?_set_self hlt]at e
   cases e
   refine⟨.ref a,by rw[List.getElem?_set_self (by rw[<-h.len];exact hlt)],?_⟩
   rw[if_pos hi]
   exact r
  ·rw[List.getElem?_set_ne (Ne.symm hj)]at e ⊢
   obtain⟨v,h1,h2⟩:=h.val j dj e
   refine⟨v,h1,?_⟩
   by_cases hm:M.contains j=true
   ·rw[if_pos hm]at h2 ⊢
    exact h2.same s
   ·rw[if_neg hm]at h2 ⊢
    exact((h2.eS ha).weak sub).same s
 ·by_cases hj:j=i
  ·subst hj
   have hlt:j<σ.length:=by
    have:=(List.getElem?_eq_some_iff.mp e).1
    simpa using this
   exact⟨d,by rw[List.getElem?_set_self (by rw[h.len];exact hlt)]⟩
  ·rw[List.getElem?_set_ne (Ne.symm hj)]at e ⊢
   exact h.non j w e
 ·by_cases h1:j=i
  ·by_cases h2:k=i
   ·rw[h1,h2]
   ·subst h1
    have hlt:j<σ.length:=by
     have:=(List.getElem?_eq_some_iff.mp e1).1
     simpa using this
    rw[List.getElem?_set_self hlt]at e1
    rw[List.getElem?_set_ne (Ne.symm h2)]at e2
    cases e1
    exact absurd rfl (old _ ⟨k,hk,e2⟩)
  ·rw[List.getElem?_set_ne (Ne.symm h1)]at e1
   by_cases h2:k=i
   ·subst h2
    have hlt:k<σ.length:=by
     have:=(List.getElem?_eq_some_iff.mp e2).1
     simpa using this
    rw[List.getElem?_set_self hlt]at e2
    cases e2
    exact absurd rfl (old _ ⟨j,hj,e1⟩)
   ·rw[List.getElem?_set_ne (Ne.symm h2)]at e2
    exact h.sep j k b hj hk e1 e2
theorem RVm.iK{i:Nat}{d':RL.D}{a:Addr}{o o':HO}(h:RVm K M σD σ H)(hi:M.contains i=true)(e:σ[i]?=some (some (.ref a)))(ha:H a=some o)(m:cR o)(r:Own K (upd H a o') d' (.ref a)):RVm K M (σD.set i (some d')) σ (upd H a o')/\Fr' M σ H σ (upd H a o'):=by
 have pa:bD M σ a:=⟨i,hi,e⟩
 refine⟨⟨by simpa using h.len,fun j dj e'=>?_,fun j w e'=>?_,h.sep⟩,⟨fun b u eb n=>⟨?_,n⟩,fun _ _=>rfl⟩⟩
 ·by_cases hj:j=i
  ·subst hj
   have hlt:j<σD.length:=by
    have:=(List.getElem?_eq_some_iff.mp e').1
    simpa using this
   rw[List.getElem?_set_self hlt]at e'
   cases e'
   refine⟨.ref a,e,?_⟩
   rw[if_pos hi]
   exact r
  ·rw[List.getElem?_set_ne (Ne.symm hj)]at e'
   obtain⟨v,h1,h2⟩:=h.val j dj e'
   refine⟨v,h1,?_⟩
   by_cases hm:M.contains j=true
   ·rw[if_pos hm]at h2 ⊢
    obtain⟨b,ob,rfl,hb,_⟩:=h2.ref
    have hne:b≠a:=fun z=>by subst z;exact hj (h.sep j i b hm hi h1 e)
    obtain⟨q1,q2,q3⟩:=h2
    refine⟨q1,q2,?_⟩
    have im:∀ {ds:List RL.D} {xs:List V},RL.aq ds=true->ab nP K H ds xs->ab nP K (L2.upd H a o') ds xs:=fun hi r=>(ab.upd (P:=fun p=>p=a) ha m rfl (r.imm hi)).imm hi
    cases dj with
    | lst ds=>obtain⟨b',xs,e1,e0,e2,e3⟩:=aD q3;cases e1;rw[Rep];exact⟨b,xs,rfl,fun z=>z,by rw[L2.aV hne];exact e2,im q2 e3⟩
    | dK ks ds=>rw[Rep]at q3 ⊢;obtain⟨b',xs,e1,e0,e2,el,e3⟩:=q3;cases e1;exact⟨b,xs,rfl,fun z=>z,by rw[L2.aV hne];exact e2,el,im q2 e3⟩
    | dT ks ds=>rw[Rep]at q3 ⊢;obtain⟨b',xs,e1,e0,e2,el,e3⟩:=q3;cases e1;exact⟨b,xs,rfl,fun z=>z,by rw[L2.aV hne];exact e2,el,im q2 e3⟩
    | _=>cases q1
   ·rw[if_neg hm]at h2 ⊢
    exact Rep.upd ha m pa h2
 ·obtain⟨dj,hd⟩:=h.non j w e'
  by_cases hj:j=i
  ·subst hj
   have hlt:=(List.getElem?_eq_some_iff.mp hd).1
   exact⟨d',by rw[List.getElem?_set_self hlt]⟩
  ·exact⟨dj,by rw[List.getElem?_set_ne (Ne.symm hj)];exact hd⟩
 ·have hb:b≠a:=fun z=>n (z▸pa)
  rw[L2.aV hb]
  exact eb
end st
noncomputable def uH(K:PySem.W.Frag)(M:List Nat)(D:Ends)(σ:L2.St)(H:Hp):RL.Out->RL.St->Prop
 | .nx,σD'=>∀ σ' H',RVm K M σD' σ' H'->Fr' M σ H σ' H'->D.nx σ' H'
 | .rt d,σD'=>∀ σ1 H1 v H',RVm K M σD' σ1 H1->Fr' M σ H σ1 H1->a5 H1 H'->(∀ P:Addr->Prop,(∀ p,P p->H1 p≠none/\¬ bD M σ1 p)->Rep P K H' d v)->D.rt v H'
theorem uH.from{K:PySem.W.Frag}{D:Ends}{σD':RL.St}(h:uH K M D σ H r σD')(f:Fr' M σ H σ1 H1):uH K M D σ1 H1 r σD':=by
 cases r with
 | nx=>exact fun σ2 H2 rv2 fr2=>h σ2 H2 rv2 (f.trans fr2)
 | rt d=>exact fun σ1 H1 v H2 rv2 fr2 sm rp=>h σ1 H1 v H2 rv2 (f.trans fr2) sm rp
noncomputable def tS(K:PySem.W.Frag)(M:List Nat)(f:RL.St->Option (RL.Out × RL.St)):TS:=fun D σ H=>∃ σD r σD',RVm K M σD σ H/\f σD=some (r,σD')/\uH K M D σ H r σD'
noncomputable def SS(X:Cx)(cl:RL.Cl)(M:List Nat)(st:Stmt)(s:RL.S):Prop:=PS X st (tS X.K M (RL.evS cl M s))
noncomputable def SSs(X:Cx)(cl:RL.Cl)(M:List Nat)(st:List Stmt)(s:RL.Ss):Prop:=PSs X st (tS X.K M (RL.af cl M s))
section rules
variable{X:Cx}{cl:RL.Cl}{M:List Nat}{st:Stmt}{sts:List Stmt}{e' k' c':RL.E}{i j:Nat}
theorem BE:SSs X cl M [] .nil:=by
 refine PSs.weak BC fun D σ H h=>?_
 obtain⟨σD,r,σD',rv,e,k⟩:=h
 rw[RL.af]at e
 cases e
 exact k σ H rv (Fr'.same (a5.refl H))
theorem zM(h1:SS X cl M st s)(h2:SSs X cl M sts r):SSs X cl M (st::sts) (.cons s r):=by
 refine PSs.weak (zD h1 h2) fun D σ H h=>?_
 obtain⟨σD,o,σD',rv,e,k⟩:=h
 rw[RL.af]at e
 obtain⟨p,e1,e2⟩:=bind_some e
 obtain⟨o1,σ1⟩:=p
 refine⟨σD,o1,σ1,rv,e1,?_⟩
 cases o1 with
 |rt d=>
  cases e2
  exact k
 |nx=>
  exact fun σ' H' rv' fr'=>⟨σ1,o,σD',rv',e2,k.from fr'⟩
theorem yV:SS X cl M st .never:=by
 refine PS.weak yy fun D σ H h=>?_
 obtain⟨σD,o,σD',rv,e,k⟩:=h
 rw[RL.evS]at e
 cases e
theorem EG(h:SA X cl st i e')(hi:M.contains i=false):SS X cl M st (.asg i e'):=by
 refine PS.weak h fun D σ H h=>?_
 obtain⟨σD,o,σD',rv,e,k⟩:=h
 rw[RL.evS]at e
 obtain⟨d,e1,e2⟩:=bind_some e
 split at e2
 ·rename_i ok
  cases e2
  refine⟨σD,d,rv.rv0,e1,fun v H1 r1=>k _ _ ?_ (Fr'.bind hi r1.same)⟩
  refine(rv.same r1.same).bind hi ?_
  unfold RL.aQ at ok
  rw[Bool.or_eq_true,Bool.or_eq_true,Bool.and_eq_true]at ok
  rcases ok with(q | ⟨q1,q2⟩) | q
  ·exact r1.rep.imm q
  ·have rp:=r1.rep
   have fr:me d=true->∀ a,v=.ref a->¬ bD M σ a:=fun m a z p=>rv.rz a p (r1.fresh q2 m a z)
   cases d with
   | lst ds=>obtain⟨a,xs,e1,e0,e2,e3⟩:=aD rp;rw[Rep];exact⟨a,xs,e1,fr rfl a e1,e2,e3.imm q1⟩
   | dK ks ds=>rw[Rep]at rp ⊢;obtain⟨a,xs,e1,e0,e2,el,e3⟩:=rp;exact⟨a,xs,e1,fr rfl a e1,e2,el,e3.imm q1⟩
   | dT ks ds=>rw[Rep]at rp ⊢;obtain⟨a,xs,e1,e0,e2,el,e3⟩:=rp;exact⟨a,xs,e1,fr rfl a e1,e2,el,e3.imm q1⟩
   | _=>cases q1
  ·refine r1.av M q _ rv.rz fun j dj vj hj h1 h2=>?_
   obtain⟨v',h3,h4⟩:=rv.val j dj h1
   rw[h2]at h3
   cases h3
   rw[if_neg (by rw[hj];decide)]at h4
   exact h4
 ·cases e2
theorem F7(h:SA X cl st i e')(hi:M.contains i=true)(hi2:M.count i<2):SS X cl M st (.own i e'):=by
 refine PS.weak h fun D σ H h=>?_
 obtain⟨σD,o,σD',rv,e,k⟩:=h
 rw[RL.evS]at e
 obtain⟨d,e1,e2⟩:=bind_some e
 split at e2
 ·rename_i ok
  cases e2
  rw[Bool.and_eq_true]at ok
  refine⟨σD,d,rv.rv0,e1,fun v H1 r1=>?_⟩
  have m:me d=true:=by
   cases d with
   | lst _=>rfl
   | dK _ _=>rfl
   | dT _ _=>rfl
   | _=>cases ok.1
  have ow:Own X.K H1 d v:=⟨m,ok.1,r1.rep⟩
  obtain⟨a,ob,rfl,_,_⟩:=ow.ref
  obtain⟨h1,h2⟩:=rv.own r1.same hi hi2 (r1.fresh ok.2 m a rfl) ow
  exact k _ _ h1 h2
 ·cases e2
theorem Gh{pos:Pos}(hc:ST X cl c c')(ha:SSs X cl M a a')(hb:SSs X cl M b b'):SS X cl M (.If c a b pos) (.ife c' a' b'):=by
 refine PS.weak (A7 hc ha hb) fun D σ H h=>?_
 obtain⟨σD,o,σD',rv,e,k⟩:=h
 rw[RL.evS]at e
 obtain⟨t,e1,e2⟩:=bind_some e
 refine⟨σD,t,rv.rv0,e1,fun H1 s1=>?_⟩
 have k1:=k.from (Fr'.same (σ:=σ) s1)
 cases t with
 | true=>exact eD ⟨σD,o,σD',rv.same s1,e2,k1⟩
 | false=>exact eX ⟨σD,o,σD',rv.same s1,e2,k1⟩
theorem C2{pos:Pos}(he:SE X cl e e')(hv:∀ i,e'=.var i->M.contains i=false):SS X cl M (.Return (some e) pos) (.ret e'):=by
 refine PS.weak (w6 he) fun D σ H h=>?_
 obtain⟨σD,o,σD',rv,ev,k⟩:=h
 rw[RL.evS]at ev
 obtain⟨d,e1,e2⟩:=bind_some ev
 split at e2
 ·rename_i ok
  cases e2
  refine⟨σD,d,rv.rv0,e1,fun v H1 r1=>k σ H v H1 rv (Fr'.same (a5.refl H)) r1.same fun P hP=>?_⟩
  unfold RL.aS at ok
  rw[Bool.or_eq_true,Bool.and_eq_true,Bool.or_eq_true]at ok
  rcases ok with q | ⟨q1,q2⟩
  ·exact r1.rep.imm q
  ·have rp:=r1.rep
   have fr:me d=true->∀ a,v=.ref a->¬ P a:=fun m a z p=>by
    rcases q2 with q | q
    ·exact(hP a p).1 (r1.fresh q m a z)
    ·cases e' with
     |var i=>
      have hi:M.contains i=true:=q
      rw[hv i rfl]at hi
      cases hi
     | _=>cases q
   cases d with
   | lst ds=>obtain⟨a,xs,e1,e0,e2,e3⟩:=aD rp;rw[Rep];exact⟨a,xs,e1,fr rfl a e1,e2,e3.imm q1⟩
   | dK ks ds=>rw[Rep]at rp ⊢;obtain⟨a,xs,e1,e0,e2,el,e3⟩:=rp;exact⟨a,xs,e1,fr rfl a e1,e2,el,e3.imm q1⟩
   | dT ks ds=>rw[Rep]at rp ⊢;obtain⟨a,xs,e1,e0,e2,el,e3⟩:=rp;exact⟨a,xs,e1,fr rfl a e1,e2,el,e3.imm q1⟩
   | _=>cases q1
 ·cases e2
theorem B5{x:Str}{p pos:Pos}(hN:X.N[i]?=some x)(hv:Vis X.env.scope x)(hd:(x == ("__debug__" : Str))=false)(hcd:(x == ("__classdict__" : Str))=false)(hi:M.contains i=true):SS X cl M (.Return (some (.Name x p)) pos) (.ret (.var i)):=by
 refine PS.weak (w6 (hV hN hv hd hcd)) fun D σ H h=>?_
 obtain⟨σD,o,σD',rv,e,k⟩:=h
 rw[RL.evS]at e
 obtain⟨d,e1,e2⟩:=bind_some e
 split at e2
 ·cases e2
  have e3:σD[i]?=some (some d):=by
   rw[RL.ev]at e1
   obtain⟨o,h1,h2⟩:=bind_some e1
   cases o with
   | none=>cases h2
   | some z=>cases h2;exact h1
  obtain⟨v,h1,h2⟩:=rv.val i d e3
  rw[if_pos hi]at h2
  refine⟨v,h1,k σ H v H rv (Fr'.same (a5.refl H)) (a5.refl H) fun P hP=>?_⟩
  obtain⟨a,o,rfl,_,_⟩:=h2.ref
  have np:¬ P a:=fun p=>(hP a p).2 ⟨i,hi,h1⟩
  obtain⟨q1,q2,q3⟩:=h2
  cases d with
  | lst ds=>obtain⟨b,xs,e1,e0,e2,e3⟩:=aD q3;cases e1;rw[Rep];exact⟨a,xs,rfl,np,e2,e3.imm q2⟩
  | dK ks ds=>rw[Rep]at q3 ⊢;obtain⟨b,xs,e1,e0,e2,el,e3⟩:=q3;cases e1;exact⟨a,xs,rfl,np,e2,el,e3.imm q2⟩
  | dT ks ds=>rw[Rep]at q3 ⊢;obtain⟨b,xs,e1,e0,e2,el,e3⟩:=q3;cases e1;exact⟨a,xs,rfl,np,e2,el,e3.imm q2⟩
  | _=>cases q1
 ·cases e2
theorem slot_get{σD:RL.St}{d:RL.D}(h:(σD[i]?).bind id=some d):σD[i]?=some (some d):=by
 obtain⟨o,h1,h2⟩:=bind_some h
 cases o with
 | none=>cases h2
 | some z=>cases h2;exact h1
theorem Df(h:PS X st (qc (tBM X.K "list" tF (jM i) (tEs X.K cl (.cons e' .nil)))))(hi:M.contains i=true):SS X cl M st (.app i e'):=by
 refine PS.weak h fun D σ H h=>?_
 obtain⟨σD,o,σD',rv,e,k⟩:=h
 rw[RL.evS]at e
 obtain⟨d,e1,e2⟩:=bind_some e
 obtain⟨l,e3,e4⟩:=bind_some e2
 cases l with
 |lst ds=>
  dsimp only at e4
  split at e4
  ·rename_i ok
   cases e4
   rw[Bool.and_eq_true,decide_eq_true_eq]at ok
   obtain⟨v,h1,h2⟩:=rv.val i _ (slot_get e3)
   rw[if_pos hi]at h2
   obtain⟨q1,q2,q3⟩:=h2
   obtain⟨a,xs,rfl,_,f2,f3⟩:=aD q3
   refine⟨.ref a,h1,.inl ⟨rfl,xs,SqL.of f2⟩,σD,[d],rv.rv0,by rw[RL.evs,e1];rfl,fun vs H1 s1 r1=>?_⟩
   rw[ab]at r1
   obtain⟨y,t,rfl,r2,r3⟩:=r1
   rw[ab]at r3
   subst r3
   have hl:xs.length<sizeLine:=by rw[<-f3.length];exact Nat.lt_of_lt_of_le ok.2 cw
   refine⟨a,xs,y,rfl,rfl,s1 _ _ f2,hl,?_⟩
   have im:RL.aq (ds++[d])=true:=by
    have:∀ l:List RL.D,RL.aq l=true->RL.aq (l++[d])=true:=fun l=>by
     induction l with
     | nil=>intro _;simp[RL.aq,ok.1]
     | cons z r ih=>intro h;rw[RL.aq,Bool.and_eq_true]at h;rw[List.cons_append,RL.aq,h.1,ih h.2];rfl
    exact this ds q2
   have rs:ab nP X.K (upd H1 a (.lst (xs++[y]))) (ds++[d]) (xs++[y]):=(ab.upd (P:=fun p=>p=a) (s1 _ _ f2) (.inl ⟨_,rfl⟩) rfl ((ab.append (f3.same s1) (ab.cons r2 ab.nil)).imm im)).imm im
   obtain⟨g1,g2⟩:=(rv.same s1).iK (d':=.lst (ds++[d])) (o':=.lst (xs++[y])) hi h1 (s1 _ _ f2) (.inl ⟨_,rfl⟩) ⟨rfl,im,by rw[Rep];exact⟨a,_,rfl,fun z=>z,bC,rs⟩⟩
   exact k _ _ g1 ((Fr'.same s1).trans g2)
  ·cases e4
 | _=>cases e4
end rules
theorem RVm.bA{K:PySem.W.Frag}{M:List Nat}{H:Hp}:∀ {tg:List Nat} {ds:List RL.D} {vs:List V} {σD:RL.St} {σ:L2.St},RVm K M σD σ H->(∀ i∈tg,M.contains i=false)->tg.length=ds.length->RL.aq ds=true->ab nP K H ds vs ->
  RVm K M (eF tg ds σD) (cZ tg vs σ) H/\bD M (cZ tg vs σ)=bD M σ
 | [],_,_,_,_,h,_,_,_,_=>⟨h,rfl⟩
 | i::is,[],_,_,_,_,_,hl,_,_=>by simp at hl
 | i::is,d::ds,vs,σD,σ,h,hM,hl,him,r=>by
  rw[ab]at r
  obtain⟨v,t,rfl,r1,r2⟩:=r
  rw[RL.aq,Bool.and_eq_true]at him
  rw[eF,cZ]
  have hi:=hM i List.mem_cons_self
  obtain⟨g1,g2⟩:=RVm.bA (h.bind hi (r1.imm him.1)) (fun j hj=>hM j (List.mem_cons_of_mem _ hj)) (by simpa using hl) him.2 r2
  exact⟨g1,g2.trans (bD.set hi)⟩
theorem rZ{M tg:List Nat}{vs:List V}{σ:L2.St}{j:Nat}(hM:∀ i∈tg,M.contains i=false)(hj:2<=M.count j):(cZ tg vs σ)[j]?=σ[j]?:=by
 refine oO tg vs σ j ?_
 cases hc:tg.contains j with
 | false=>rfl
 |true=>
  have:=hM j (by simpa using hc)
  rw[kR hj]at this
  cases this
section rules
variable{X:Cx}{cl:RL.Cl}{M:List Nat}{st:Stmt}{tgE iter:Expr}{body:List Stmt}{b:RL.Ss}{it:RL.It}{tg:List Nat}{e' k' a' b':RL.E}{i j:Nat}{pos:Pos}
theorem vq{f:RL.St->Option (RL.Out × RL.St)}{d:RL.D}{ds:List RL.D}{σ:RL.St}{p:RL.Out × RL.St}(h:RL.bg f tg (d::ds) σ=some p):d.imm=true/\∃ σ1 o σ2,RL.aJ tg d σ=some σ1/\f σ1=some (o,σ2) /\
  (match o with | .nx=>RL.bg f tg ds σ2=some p | .rt d=>p=(.rt d,σ2)):=by
 rw[RL.bg]at h
 split at h
 ·rename_i him
  obtain⟨σ1,h1,h⟩:=bind_some h
  obtain⟨⟨o,σ2⟩,h2,h⟩:=bind_some h
  refine⟨him,σ1,o,σ2,h1,h2,?_⟩
  cases o with
  | nx=>exact h
  | rt d=>exact(Option.some.inj h).symm
 ·cases h
theorem CY(hx:X.xe=fun _ _=>False)(hc:X.calm=true)(hi:SI X cl tgE iter it)(hg:PG X tgE (gT X.K tg))(hb:SSs X cl M body b)(hs:∀ x,foldedSetIterable iter X.env x=pure x)(hav:RL.vx M it=true)(hM:∀ i∈tg,M.contains i=false) :
  SS X cl M (.For tgE iter body [] pos) (.forr tg it b):=by
 refine PS.weak (CJ (by rw[hx];exact PassesOwn.never) hc hi hg hb hs) fun D σ H h=>?_
 obtain⟨σD,r,σD',rv,e,k⟩:=h
 rw[RL.evS]at e
 obtain⟨ds,e1,e2⟩:=bind_some e
 refine⟨σD,ds,rv.rv0,e1,fun J H1 s1 src=>?_⟩
 have ok:j1 X.K J ds (bD M σ) H1:=src.2 M (bD M σ) hav rv.yK fun j dj vj hj h1 h2=>by
  obtain⟨v',h3,h4⟩:=rv.val j dj h1
  rw[h2]at h3
  cases h3
  rw[if_neg (by rw[hj];decide)]at h4
  exact h4
 have k1:=k.from (Fr'.same (σ:=σ) s1)
 refine⟨fun i m σ2 H2=>∃ σD2,m=ds.length-i/\i<=ds.length/\RVm X.K M σD2 σ2 H2/\Fr' M σ H1 σ2 H2/\RL.bg (RL.af cl M b) tg (ds.drop i) σD2=some (r,σD'),⟨_,σD,rfl,Nat.zero_le _,rv.same s1,Fr'.same (a5.refl _),e2⟩,?_⟩
 rintro i m σ2 H2 ⟨σD2,rfl,hi2,rv2,fr2,hl⟩
 have off:Off (bD M σ) H1 H2:=fun b o n e=>(fr2.1 b o e n).1
 by_cases hlt:i<ds.length
 ·refine .inr ⟨ok.go H2 i off hlt,fun σ' H'=>∃ m',m'<ds.length-i/\∃ σD2,m'=ds.length-(i+1)/\i+1<=ds.length/\RVm X.K M σD2 σ' H'/\Fr' M σ H1 σ' H'/\RL.bg (RL.af cl M b) tg (ds.drop (i+1)) σD2=some (r,σD'),fun σ' H' z=>z,fun x H3 y=>?_⟩
  rw[List.drop_eq_getElem_cons hlt]at hl
  obtain⟨him,σ3,o,σ4,h1,h2,h3⟩:=vq hl
  obtain⟨s3,rp⟩:=ok.yld H2 i ds[i] x H3 off (by simp[hlt]) y
  obtain⟨dv,vs,q1,q2,q3,q4,q5⟩:=A8 h1 (rp (.inl him))
  refine q5 _ _ ?_
  obtain⟨rv3,as3⟩:=(rv2.same s3).bA hM q2 (q4 him) q3
  have fr3:Fr' M σ H1 (cZ tg vs σ2) H3:=⟨fun b o e n=>⟨s3 _ _ (fr2.1 b o e n).1,by rw[as3];exact(fr2.1 b o e n).2⟩,fun j hj=>(rZ hM hj).trans (fr2.2 j hj)⟩
  refine⟨σ3,o,σ4,by rw[q1];exact rv3,h2,?_⟩
  cases o with
  | nx=>exact fun σ' H' rv' fr'=>⟨_,by lia,σ4,rfl,hlt,rv',fr3.trans fr',h3⟩
  |rt d=>
   cases h3
   exact fun σ' H' v H4 rv' fr' sm rp=>k1 σ' H' v H4 rv' (fr3.trans fr') sm rp
 ·have e:i=ds.length:=by lia
  subst e
  rw[List.drop_length,RL.bg]at hl
  cases hl
  exact .inl ⟨ok.stop H2 off,k1 σ2 H2 rv2 fr2⟩
theorem Ak{n:Nat}{k:Int}{j:Nat}(h:RL.mD n k=some j):ixN n k=some j:=h
theorem vG:∀ {ds:List RL.D} {d:RL.D} (j:Nat),RL.aq ds=true->d.imm=true->RL.aq (ds.set j d)=true
 | [],d,j,_,_=>by simp[RL.aq]
 | x::r,d,0,h,hd=>by rw[RL.aq,Bool.and_eq_true]at h;rw[List.set_cons_zero,RL.aq,hd,h.2];rfl
 | x::r,d,j+1,h,hd=>by rw[RL.aq,Bool.and_eq_true]at h;rw[List.set_cons_succ,RL.aq,h.1,vG j h.2 hd];rfl
theorem nX{H:Hp}{a:Addr}{ds:List RL.D}{xs ys:List V}{ds':List RL.D}(f2:H a=some (.lst xs))(im:RL.aq ds'=true)(rs:ab nP X.K H ds' ys):Own X.K (upd H a (.lst ys)) (.lst ds') (.ref a) :=
 ⟨rfl,im,by rw[Rep];exact⟨a,_,rfl,fun z=>z,bC,(ab.upd (P:=fun p=>p=a) f2 (.inl ⟨_,rfl⟩) rfl (rs.imm im)).imm im⟩⟩
theorem DP(h:PS X st (nW (tE X.K cl e') (Ai (jM i) (tE X.K cl k') vy)))(hi:M.contains i=true)(hl:True):PS X st (tS X.K M fun σD=>(RL.ev cl σD e').bind fun d=>(RL.ev cl σD k').bind fun kk=>((σD[i]?).bind id).bind fun l=>match l with
  | .lst _=>if d.imm then(RL.d5 l kk d).map fun l'=>(.nx,σD.set i (some l'))else none
  | _=>none):=by
 refine PS.weak h fun D σ H h=>?_
 obtain⟨σD,o,σD',rv,e,k⟩:=h
 obtain⟨d,e1,e⟩:=bind_some e
 obtain⟨kk,e2,e⟩:=bind_some e
 obtain⟨l,e3,e⟩:=bind_some e
 cases l with
 |lst ds=>
  dsimp only at e
  split at e
  ·rename_i him
   obtain⟨l',e4,e5⟩:=map_some e
   cases e5
   obtain⟨v,h1,h2⟩:=rv.val i _ (slot_get e3)
   rw[if_pos hi]at h2
   obtain⟨q1,q2,q3⟩:=h2
   obtain⟨a,xs,rfl,_,f2,f3⟩:=aD q3
   cases kk with
   |int kk=>
    obtain⟨jx,e6,e7⟩:=map_some (show(RL.mD ds.length kk).map (fun j=>RL.D.lst (ds.set j d))=some l' from e4)
    subst e7
    refine⟨σD,d,rv.rv0,e1,fun y H1 r1=>⟨.ref a,h1,σD,.int kk,rv.rv0.same r1.same,e2,fun z H2 r2=>?_⟩⟩
    have sm:=r1.same.trans r2.same
    refine⟨a,xs,kk,jx,rfl,ah r2.rep,sm _ _ f2,?_,?_⟩
    ·rw[<-f3.length]
     exact Ak e6
    ·have im:=vG jx q2 him
     obtain⟨g1,g2⟩:=(rv.same sm).iK (d':=.lst (ds.set jx d)) (o':=.lst (xs.set jx y)) hi h1 (sm _ _ f2) (.inl ⟨_,rfl⟩) (nX (ds:=ds) (sm _ _ f2) im (ab.set jx (f3.same sm) (r1.rep.same r2.same)))
     exact k _ _ g1 ((Fr'.same sm).trans g2)
   | _=>cases e4
  ·cases e
 | _=>cases e
theorem oW:∀ {ds:List RL.D},RL.aq ds=true->RL.aq ds.dropLast=true
 | [],_=>rfl
 | [x],_=>rfl
 | x::y::r,h=>by rw[RL.aq,Bool.and_eq_true]at h;rw[List.dropLast_cons_cons,RL.aq,h.1,oW h.2];rfl
theorem wK:∀ {ds:List RL.D} {i:Nat} {d:RL.D},RL.aq ds=true->ds[i]?=some d->d.imm=true
 | [],i,d,_,e=>by simp at e
 | x::r,0,d,h,e=>by rw[RL.aq,Bool.and_eq_true]at h;simp at e;subst e;exact h.1
 | x::r,i+1,d,h,e=>by rw[RL.aq,Bool.and_eq_true]at h;exact wK (i:=i) h.2 (by simpa using e)
theorem ab.dropLast{K:PySem.W.Frag}(h:ab P K H ds xs):ab P K H ds.dropLast xs.dropLast:=by
 rw[List.dropLast_eq_take,List.dropLast_eq_take,<-h.length]
 exact h.take _
theorem Ew(h:PS X st (nW (zU X.K "list" Ae (jM i)) (nM j)))(hi:M.contains i=true)(hj:M.contains j=false):SS X cl M st (.pop i j):=by
 refine PS.weak h fun D σ H h=>?_
 obtain⟨σD,o,σD',rv,e,k⟩:=h
 rw[RL.evS]at e
 obtain⟨l,e3,e⟩:=bind_some e
 cases l with
 |lst ds=>
  obtain⟨d,e4,e5⟩:=map_some e
  cases e5
  obtain⟨v,h1,h2⟩:=rv.val i _ (slot_get e3)
  rw[if_pos hi]at h2
  obtain⟨q1,q2,q3⟩:=h2
  obtain⟨a,xs,rfl,_,f2,f3⟩:=aD q3
  obtain⟨y,f4,f5⟩:=f3.get e4
  refine⟨.ref a,h1,.inl ⟨rfl,xs,SqL.of f2⟩,a,xs,y,rfl,rfl,f2,by rw[<-f3.length];exact f4,?_⟩
  have im:=oW q2
  obtain⟨g1,g2⟩:=rv.iK (d':=.lst ds.dropLast) (o':=.lst xs.dropLast) hi h1 f2 (.inl ⟨_,rfl⟩) (nX (ds:=ds) f2 im f3.dropLast)
  have hdi:d.imm=true:=wK q2 e4
  have rd:Rep (bD M σ) X.K (upd H a (.lst xs.dropLast)) d y:=Rep.imm hdi (Rep.upd (P:=fun p=>p=a) f2 (.inl ⟨_,rfl⟩) rfl (f5.imm hdi))
  exact k _ _ (g1.bind hj rd) (g2.trans (Fr'.bind hj (a5.refl _)))
 | _=>cases e
theorem C9(h:PS X st (E7 i j (tEs X.K cl (.cons a' (.cons b' .nil)))))(hi:M.contains i=false)(hj:M.contains j=false):SS X cl M st (.par i j a' b'):=by
 refine PS.weak h fun D σ H h=>?_
 obtain⟨σD,o,σD',rv,e,k⟩:=h
 rw[RL.evS]at e
 obtain⟨x,e1,e⟩:=bind_some e
 obtain⟨y,e2,e⟩:=bind_some e
 split at e
 ·rename_i him
  cases e
  rw[Bool.and_eq_true]at him
  refine⟨σD,[x,y],rv.rv0,by rw[RL.evs,e1,RL.evs,e2];rfl,fun vs H1 s1 r1=>?_⟩
  rw[ab]at r1
  obtain⟨v,t,rfl,r2,r3⟩:=r1
  rw[ab]at r3
  obtain⟨u,t,rfl,r4,r5⟩:=r3
  rw[ab]at r5
  subst r5
  refine⟨v,u,rfl,k _ _ ?_ ?_⟩
  ·refine((rv.same s1).bind hi (r2.imm him.1)).bind hj (r4.imm him.2)
  ·exact(Fr'.bind hi s1).trans (Fr'.bind hj (a5.refl _))
 ·cases e
theorem EK(h:PS X st (qc (tE X.K cl e'))):SS X cl M st (.exc e'):=by
 refine PS.weak h fun D σ H h=>?_
 obtain⟨σD,o,σD',rv,e,k⟩:=h
 rw[RL.evS]at e
 obtain⟨d,e1,e2⟩:=map_some e
 cases e2
 exact⟨σD,d,rv.rv0,e1,fun v H1 r1=>k _ _ (rv.same r1.same) (Fr'.same r1.same)⟩
end rules
section rules
variable{X:Cx}{cl:RL.Cl}{M:List Nat}{st:Stmt}{e':RL.E}
theorem Cg{is:List Nat}(h:PS X st (nW (tE X.K cl e') (fun v σ H Q=>ox X.K is.length (gs is) v σ H Q\/oT X.K is.length (gs is) v σ H Q)))(hM:∀ i∈is,M.contains i=false):SS X cl M st (.unp is e'):=by
 refine PS.weak h fun D σ H h=>?_
 obtain⟨σD,o,σD',rv,e,k⟩:=h
 rw[RL.evS]at e
 obtain⟨d,e1,e⟩:=bind_some e
 obtain⟨ds,e2,e⟩:=bind_some e
 split at e
 ·rename_i him
  obtain⟨σ1,e3,e4⟩:=map_some e
  cases e4
  obtain⟨q1,q2⟩:=fZ e3
  refine⟨σD,d,rv.rv0,e1,fun v H1 r1=>?_⟩
  obtain⟨p,xs,rfl,hp,rs⟩:=fC e2 r1.rep
  obtain⟨g1,g2⟩:=(rv.same r1.same).bA (vs:=xs) hM q1 him rs
  have fin:D.nx (cZ is xs σ) H1:=k _ _ (by rw[q2];exact g1) ⟨fun b o e n=>⟨r1.same _ _ e,by rw[g2];exact n⟩,fun j hj=>rZ hM hj⟩
  have hl:xs.length=is.length:=by rw[<-rs.length,q1]
  rcases hp with⟨hp,_⟩ | ⟨hp,_⟩
  ·exact .inr ⟨p,xs,rfl,SqL.of hp,hl,j6 hl.symm fin⟩
  ·exact .inl ⟨p,xs,rfl,SqT.of hp,hl,j6 hl.symm fin⟩
 ·cases e
theorem mr(xs:List α)(k:Int):(xs.drop (HT.sIx xs.length 0 none)).take (HT.sIx xs.length xs.length (some k)-HT.sIx xs.length 0 none)=xs.take (RL.cutAt xs.length k):=by
 rw[HT.r8,List.drop_zero,Nat.sub_zero]
 congr 1
 have h:=HT.gF k xs.length xs.length
 unfold RL.cutAt
 split at h
 ·rename_i h0
  rw[if_neg (by lia)]
  lia
 ·rename_i h0
  rw[if_pos (by lia)]
  lia
theorem qX(xs:List α)(k:Int):(xs.drop (HT.sIx xs.length 0 (some k))).take (HT.sIx xs.length xs.length none-HT.sIx xs.length 0 (some k))=xs.drop (RL.cutAt xs.length k):=by
 have e:HT.sIx xs.length 0 (some k)=RL.cutAt xs.length k:=by
  have h:=HT.gF k xs.length 0
  unfold RL.cutAt
  split at h
  ·rename_i h0
   rw[if_neg (by lia)]
   lia
  ·rename_i h0
   rw[if_pos (by lia)]
   lia
 rw[e,HT.r8]
 exact List.take_of_length_le (by rw[List.length_drop];exact Nat.le_refl _)
end rules
section rules
variable{X:Cx}{cl:RL.Cl}{a b:Expr}{a' b':RL.E}{pos p p2:Pos}{x:Str}
theorem one{σ:L2.St}{H:Hp}{R:List V->Hp->Prop}{σD:RL.St}{d:RL.D}(rv:RV0 X.K σD σ H)(ea:RL.ev cl σD a'=some d)(k:∀ v H1,a5 H H1->Rep nP X.K H1 d v->R [v] H1):tEs X.K cl (.cons a' .nil) σ H R :=
 ⟨σD,[d],rv,by rw[RL.evs,ea];rfl,fun vs H1 s1 r1=>by
  rw[ab]at r1
  obtain⟨v,t,rfl,r2,r3⟩:=r1
  rw[ab]at r3
  subst r3
  exact k v H1 s1 r2⟩
theorem pair{σ:L2.St}{H:Hp}{R:List V->Hp->Prop}{σD:RL.St}{d d':RL.D}(rv:RV0 X.K σD σ H)(ea:RL.ev cl σD a'=some d)(eb:RL.ev cl σD b'=some d')(k:∀ v u H1,a5 H H1->Rep nP X.K H1 d v->Rep nP X.K H1 d' u->R [v,u] H1):tEs X.K cl (.cons a' (.cons b' .nil)) σ H R :=
 ⟨σD,[d,d'],rv,by rw[RL.evs,ea,RL.evs,eb];rfl,fun vs H1 s1 r1=>by
  rw[ab]at r1
  obtain⟨v,t,rfl,r2,r3⟩:=r1
  rw[ab]at r3
  obtain⟨u,t,rfl,r4,r5⟩:=r3
  rw[ab]at r5
  subst r5
  exact k v u H1 s1 r2 r4⟩
theorem iw{id:String}{r:List V->Hp->VK->Prop}{b:RL.Bi}(hc:bJ X (.builtin id) r)(hg:Gl X x)(hm:X.mg x=none)(hv:bootBuiltins x=some (.builtin id))(ha:SE X cl a a')(hn:noStar a=true)(h1:x ≠ "__name__")(h2:(x == ("__debug__" : Str))=false)
 (ok:∀ (σD:RL.St) (σ:L2.St) (H H1:Hp) (y d:RL.D) (v:V) (Q:VK),RL.biV b y=some d->a5 H H1->Rep nP X.K H1 y v->(∀ w H',Res X.K σD σ H (.bi b a') d w H'->Q w H')->r [v] H1 Q):SE X cl (.Call (.Name x p) [a] [] pos) (.bi b a'):=by
 refine PE.weak (jz hc hg hm hv (bH (cl:=cl) ha cD hn) h1 h2 (aA [] hn) rfl) fun σ H Q h=>?_
 obtain⟨σD,d,rv,e,k⟩:=h
 rw[RL.ev]at e
 obtain⟨y,ea,e⟩:=bind_some e
 exact one rv ea fun v H1 s1 r1=>ok σD σ H H1 y d v Q e s1 r1 k
theorem ku{T:String}{r:List V->Hp->VK->Prop}{b:RL.Bi}(hc:bJ X (.type T) r)(hg:Gl X x)(hm:X.mg x=none)(hv:bootBuiltins x=some (.type T))(ha:SE X cl a a')(hn:noStar a=true)(h1:x ≠ "__name__")(h2:(x == ("__debug__" : Str))=false)
 (ok:∀ (σD:RL.St) (σ:L2.St) (H H1:Hp) (y d:RL.D) (v:V) (Q:VK),RL.biV b y=some d->a5 H H1->Rep nP X.K H1 y v->(∀ w H',Res X.K σD σ H (.bi b a') d w H'->Q w H')->r [v] H1 Q):SE X cl (.Call (.Name x p) [a] [] pos) (.bi b a'):=by
 refine PE.weak (cE hc hg hm hv (bH (cl:=cl) ha cD hn) h1 h2 (aA [] hn) rfl) fun σ H Q h=>?_
 obtain⟨σD,d,rv,e,k⟩:=h
 rw[RL.ev]at e
 obtain⟨y,ea,e⟩:=bind_some e
 exact one rv ea fun v H1 s1 r1=>ok σD σ H H1 y d v Q e s1 r1 k
theorem Cp(hg:Gl X "list")(hm:X.mg "list" = none)(ha:SE X cl a a')(hn:noStar a=true):SE X cl (.Call (.Name "list" p) [a] [] pos) (.bi .list a'):=by
 refine ku qU hg hm (by decide +kernel) ha hn (by decide) (by decide) fun σD σ H H1 y d v Q e s1 r1 k=>?_
 obtain⟨ds,e1,e2⟩:=map_some (show(RL.items y).map RL.D.lst=some d from e)
 subst e2
 obtain⟨q,xs,rfl,hp,rs⟩:=fC e1 r1
 refine⟨q,xs,rfl,?_,fun l hl=>k _ _ (dJ s1 hl rs fun _=>rfl)⟩
 rcases hp with⟨z,_⟩ | ⟨z,_⟩
 ·exact .inl (SqL.of z)
 ·exact .inr (SqT.of z)
theorem Am(hg:Gl X "tuple")(hm:X.mg "tuple" = none)(ha:SE X cl a a')(hn:noStar a=true):SE X cl (.Call (.Name "tuple" p) [a] [] pos) (.bi .tuple a'):=by
 refine ku pY hg hm (by decide +kernel) ha hn (by decide) (by decide) fun σD σ H H1 y d v Q e s1 r1 k=>?_
 obtain⟨ds,e1,e2⟩:=map_some (show(RL.items y).map RL.D.tup=some d from e)
 subst e2
 obtain⟨q,xs,rfl,hp,rs⟩:=fC e1 r1
 rcases hp with⟨z,_⟩ | ⟨z,_⟩
 ·exact⟨q,xs,rfl,.inl ⟨SqL.of z,fun l hl=>k _ _ (hU s1 hl rs fun _=>rfl)⟩⟩
 ·refine⟨q,xs,rfl,.inr ⟨SqT.of z,k _ _ ⟨s1,?_,fun _ m=>(by cases m),fun M z=>nomatch (show false=true from z)⟩⟩⟩
  rw[Rep]
  exact⟨q,xs,rfl,z,rs⟩
theorem C7(hg:Gl X "int")(hm:X.mg "int" = none)(ha:SE X cl a a')(hn:noStar a=true):SE X cl (.Call (.Name "int" p) [a] [] pos) (.bi .int a'):=by
 refine ku vY hg hm (by decide +kernel) ha hn (by decide) (by decide) fun σD σ H H1 y d v Q e s1 r1 k=>?_
 cases y<;>simp only[RL.biV]at e<;>first | (cases e;done) | skip
 case bl t=>cases e;exact .inr ⟨t,by rw[bf r1],k _ _ (cP s1 aY rfl)⟩
 case int t=>cases e;exact .inl ⟨t,by rw[ah r1],k _ _ (cP s1 aY rfl)⟩
theorem vF:bJ X (.builtin "len") (fun xs H Q=>(∃ y n,xs=[y]/\Fi X.K y H n/\Q (.int n) H)\/∃ q kvs,xs=[V.ref q]/\H q=some (.dK kvs)/\Q (.int kvs.length) H):=bJ.or zR wj
theorem Cw(hg:Gl X "len")(hm:X.mg "len" = none)(ha:SE X cl a a')(hn:noStar a=true):SE X cl (.Call (.Name "len" p) [a] [] pos) (.bi .len a'):=by
 refine iw vF hg hm PySem.boot_len ha hn (by decide) (by decide) fun σD σ H H1 y d v Q e s1 r1 k=>?_
 cases y<;>simp only[RL.biV,RL.items,Option.map_some,Option.map_none]at e<;>first | (cases e;done) | skip
 case str t =>
  split at e
  ·rename_i hz
   cases e
   rw[aP r1]
   exact .inl ⟨_,_,rfl,⟨Nat.le_trans hz cw,rfl⟩,k _ _ (cP s1 aY rfl)⟩
  ·cases e
 case tup t =>
  cases e
  obtain⟨q,xs,rfl,f2,f3⟩:=bz r1
  rw[f3.length]at k
  exact .inl ⟨_,_,rfl,.inr ⟨xs,SqT.of f2,rfl⟩,k _ _ (cP s1 aY rfl)⟩
 case lst t =>
  cases e
  obtain⟨q,xs,rfl,_,f2,f3⟩:=aD r1
  rw[f3.length]at k
  exact .inl ⟨_,_,rfl,.inl ⟨xs,SqL.of f2,rfl⟩,k _ _ (cP s1 aY rfl)⟩
 case dK ks t =>
  cases e
  rw[Rep]at r1
  obtain⟨q,xs,rfl,_,f2,fl,f3⟩:=r1
  refine .inr ⟨q,_,rfl,f2,?_⟩
  have:(ks.zip xs).length=ks.length:=by rw[List.length_zip,<-f3.length,fl,Nat.min_self]
  rw[this]
  exact k _ _ (cP s1 aY rfl)
theorem CP(hc:X.calm=true)(hg:Gl X "max")(hm:X.mg "max" = none)(ha:SE X cl a a')(hb:SE X cl b b')(hn:noStar a=true)(hn2:noStar b=true):SE X cl (.Call (.Name "max" p) [a,b] [] pos) (.max a' b'):=by
 refine PE.weak (jz (xZ hc) hg hm (by decide +kernel) (bH (cl:=cl) ha (bH hb cD hn2) hn) (by decide) (by decide) (aA _ hn) (e8 (by simp[hn2]))) fun σ H Q h=>?_
 obtain⟨σD,d,rv,e,k⟩:=h
 rw[RL.ev]at e
 obtain⟨u,ea,e⟩:=bind_some e
 obtain⟨v,eb,e⟩:=bind_some e
 cases u with
 |int i=>
  cases v with
  |int j=>
   cases e
   exact pair rv ea eb fun v u H1 s1 r1 r2=>⟨i,j,by rw[ah r1,ah r2],k _ _ (cP s1 aY rfl)⟩
  | _=>cases e
 | _=>cases e
noncomputable def tyN:RL.Ty->String
 | .int => "int"
 | .bool => "bool"
 | .list => "list"
 | .tuple => "tuple"
 | .str => "str"
theorem yD:bJ X (.builtin "isinstance") (fun xs H Q=>∃ y t T k,xs=[y,.ty T]/\eP X.K H y t/\PySem.W.kitOne X.K t (.type T)=some k/\Q (.bl k) H):=by
 intro pins s σ H xs us Q I r h
 obtain⟨y,t,T,k,rfl,ty,e,q⟩:=h
 obtain⟨u,w,rfl,r1,r2⟩:=vals2 r
 cases r2
 exact xH I r1 ty e fun tk=>⟨.bl k,H,I.tok tk,rfl,q⟩
theorem CH{t:RL.Ty}{d:RL.D}{k:Bool}{v:V}{H:Hp}(h:RL.cY t d=some k)(r:Rep nP X.K H d v):∃ ty,eP X.K H v ty/\PySem.W.kitOne X.K ty (.type (tyN t))=some k:=by
 cases d with
 | non=>rw[Rep]at r;subst r;refine⟨_,.non,?_⟩;cases t<;>(simp only[RL.cY]at h;cases h;rfl)
 | bl i=>rw[bf r];refine⟨_,.bl i,?_⟩;cases t<;>(simp only[RL.cY]at h;cases h;rfl)
 | int i=>rw[ah r];refine⟨_,.int i,?_⟩;cases t<;>(simp only[RL.cY]at h;cases h;rfl)
 | str i=>rw[aP r];refine⟨_,.str i,?_⟩;cases t<;>(simp only[RL.cY]at h;cases h;rfl)
 | tup i=>obtain⟨q,xs,rfl,f2,f3⟩:=bz r;refine⟨_,.tup f2,?_⟩;cases t<;>(simp only[RL.cY]at h;cases h;rfl)
 | lst i=>obtain⟨q,xs,rfl,_,f2,f3⟩:=aD r;refine⟨_,.lst f2,?_⟩;cases t<;>(simp only[RL.cY]at h;cases h;rfl)
 | _=>cases t<;>(simp only[RL.cY]at h;cases h)
theorem Fe{t:RL.Ty}(hg:Gl X "isinstance")(hm:X.mg "isinstance" = none)(hgy:Gl X y)(hmy:X.mg y=none)(hy:bootBuiltins y=some (.type (tyN t)))(hy1:y ≠ "__name__")(hy2:(y == ("__debug__" : Str))=false)(ha:SE X cl a a')(hn:noStar a=true) :
  SE X cl (.Call (.Name "isinstance" p) [a,.Name y p2] [] pos) (.isi a' t):=by
 have hty:PE X (.Name y p2) (tC (.ty (tyN t))):=BX hgy hmy hy rfl hy1 hy2
 refine PE.weak (jz yD hg hm (by decide +kernel) (bY ha (bY hty dW) (aA _ hn)) (by decide) (by decide) (aA _ hn) rfl) fun σ H Q h=>?_
 obtain⟨σD,d,rv,e,k⟩:=h
 rw[RL.ev]at e
 obtain⟨u,ea,e⟩:=bind_some e
 obtain⟨t',e1,e2⟩:=map_some e
 subst e2
 refine⟨σD,u,rv,ea,fun v H1 r1=>?_⟩
 obtain⟨ty,h1,h2⟩:=CH e1 r1.rep
 exact⟨v,ty,_,t',rfl,h1,h2,k _ _ (cC r1.same)⟩
end rules
end RS
namespace L2
open PySem PySem.Spec PyProof.Rows
structure kO(prog:Program)(w:World):Prop where
 draws:∀ {A:Around},A.handled=none->∀ (ti tp:Addr),tp≠ti->∀ its:Array Value,Draws prog w A ti [ti,tp] its.size (fun i v=>its[i]?=some v) (fun i h=>h.IsTupleIter ti tp i/\h.IsTuple tp its)
 call:∀ {A:Around} {E:Value->Shared->Prop} {z:Shared} {tp:Addr} {its:Array Value} {Q:Value->Shared->Prop},z.heap.IsTuple tp its ->
  (∀ g,IsEnum g (z.heap.objs.size+1) z.heap.objs.size 0 .none->g.IsTupleIter z.heap.objs.size tp 0->(∀ b o,z.heap.get? b=some o->g.get? b=some o)->Q (.ref (z.heap.objs.size+1)) { z with heap:=g })->wpAny (model prog w) A (call (.type "enumerate") [.ref tp]) Q E z
section
variable{X:Cx}{pins:List (Addr × Obj)}{σ:St}{H:Hp}{s:Shared}
theorem Inv.pb{h':Heap}{t':Nat}{fp:List Addr}(I:Inv X pins σ H s)(k:∀ b o,b∉fp->s.heap.get? b=some o->h'.get? b=some o)(hf:∀ b∈fp,H b=none/\(b∈X.ex\/X.s₀.heap.objs.size<=b)/\b≠X.env.locals/\(∀ x c,X.env.cells.lookup x=some c->c≠b)/\∀ p∈X.pn++pins,p.1≠b) :
  Inv X pins σ H { s with heap:=h',toks:=t' }:=by
 have nf:∀ b u,H b=some u->b∉fp:=fun b u e z=>by rw[(hf b z).1]at e;cases e
 refine I.Az (s':={ s with heap:=h',toks:=t' }) (ch:=fp) rfl ⟨fun b o e _ _ hx=>k b o hx e,fun b o e _ _ hx=>⟨o.slots,k b o hx e⟩,fun _ _ _ n _=>n,fun b o e hx=>⟨o,k b o hx e⟩,fun _ _ e=>e,fun _ _ _ e=>e,fun b ps e=>⟨#[],by rw[e];simp⟩⟩ (fun b u e=>?_) I.bare fun b hb=>(hf b hb).2
 refine(I.hok b u e).oD (fun c v hc q=>k c v ?_ q) (fun _ q=>q) fun _ _ q=>q
 rcases hc with z | z
 ·rw[z];exact nf b u e
 ·exact nf c _ z
end
noncomputable def Ite(cont:Hp->List V->Prop):It :=
 ⟨fun i H=>∃ xs x,cont H xs/\xs[i]?=some x,fun i H v H'=>∃ p x,H p=none/\v=.ref p/\H'=upd H p (.tup [.int i,x])/\∀ xs,cont H xs->xs[i]?=some x,fun i H=>∃ xs,cont H xs/\xs.length=i⟩
structure Src(P:Program)(w:World)(K:PySem.W.Frag)(e it:Addr)(cont:Hp->List V->Prop)(ia:Nat->Heap->Prop):Prop where
 obj:∀ i h,ia i h->∃ o,h.get? it=some o/\∀ v,o.data≠.cell v
 keep:∀ i h h',ia i h->(∀ o,h.get? it=some o->h'.get? it=some o)->ia i h'
 inj:∀ (H:Hp) xs ys,cont H xs->cont H ys->xs=ys
 dr:∀ (X:Cx),X.prog=P->X.w=w->X.K=K->X.calm=true->∀ (pins:List (Addr × Obj)) (s:Shared) (σ:St) (H:Hp) (xs:List V),Inv X pins σ H s->H e=none->H it=none->cont H xs ->
  ∃ (fp:List Addr) (Pv:Nat->Value->Prop) (St:Nat->Heap->Prop),Draws P w X.A.in1 it fp xs.length Pv St/\e∉fp/\(∀ i,ia i s.heap->St i s.heap)/\(∀ i h,St i h->ia i h)/\∀ i v,Pv i v->∃ x,xs[i]?=some x/\RelV x v
theorem xD{K:PySem.W.Frag}{elts:List Expr}{kx:Nat}{tp:Pos}{e it:Addr}(hei:e≠it)(S:Src P w K e it cont ia) :
  Turn P w K (.Tuple elts kx tp) (Ite cont) [e,it] e (fun i h=>(∃ old,IsEnum h e it i old)/\ia i h) where
 mem:=by simp
 obj:=fun i h st b hb=>by
  rcases List.mem_cons.mp hb with rfl | hb
  ·obtain⟨⟨old,he⟩,_⟩:=st
   exact⟨_,he,fun v z=>by cases z⟩
  ·rw[List.mem_singleton.mp hb]
   exact S.obj i h st.2
 keep:=fun i h h' st k=>by
  obtain⟨⟨old,he⟩,hi⟩:=st
  exact⟨⟨old,k e (by simp) _ he⟩,S.keep i h h' hi fun o q=>k it (by simp) o q⟩
 item:=by
  intro X hP hw hK hc i pins s σ H E I hf st hg
  subst hP hw hK
  obtain⟨⟨old,he⟩,hi⟩:=st
  obtain⟨xs,x,hq,hx⟩:=hg
  have fe:=hf e (by simp)
  have fi:=hf it (by simp)
  obtain⟨fp,Pv,St,D,hef,h1,h2,h3⟩:=S.dr X rfl rfl rfl hc pins s σ H xs I fe.1 fi.1 hq
  have hlt:i<xs.length:=(List.getElem?_eq_some_iff.mp hx).1
  refine wpAny_pyNext_enum_itemD D he (h1 i hi) hlt hei hef fun v h' tk hP ho hs' hT hsz hk=>?_
  obtain⟨x',hx',rx⟩:=h3 i v hP
  rw[hx]at hx'
  cases hx'
  refine⟨.ref s.heap.objs.size,rfl,wpAny_letOwnedTupleGo_enum ho fun h'' he' hs''=>?_⟩
  have hn:H s.heap.objs.size=none:=I.hok.fresh (Nat.le_refl _)
  have I1:Inv X pins σ (upd H s.heap.objs.size (.tup [.int i,x])) { s with heap:=s.heap.push { cls:=.type "tuple",data:=.seq #[.int i tk,v] },toks:=tk+1 } :=
   I.laid (t':=tk+1) (fun b u q=>Heap.get?_push_of_some _ q) (Nat.le_refl _) ⟨by show 2<=sizeLine;decide,[.int i tk,v],.cons ⟨tk,rfl⟩ (.cons rx .nil),⟨_,Heap.get?_push_size _ rfl,rfl,_,rfl⟩⟩
  have hes:e<s.heap.objs.size:=Heap.lt_size he
  have hit:it<s.heap.objs.size:=by obtain⟨o,q,_⟩:=S.obj i _ hi;exact Heap.lt_size q
  have stat:∀ b∈[e,it],upd H s.heap.objs.size (.tup [.int i,x]) b=none/\(b∈X.ex\/X.s₀.heap.objs.size<=b)/\b≠X.env.locals/\(∀ x c,X.env.cells.lookup x=some c->c≠b)/\∀ p∈X.pn++pins,p.1≠b:=fun b hb=>by
   obtain⟨f0,f1,f2,f3,f4,f5⟩:=hf b hb
   have hb':b≠s.heap.objs.size:=by
    rcases List.mem_cons.mp hb with rfl | hb
    ·exact Nat.ne_of_lt hes
    ·rw[List.mem_singleton.mp hb];exact Nat.ne_of_lt hit
   exact⟨by rw[aV hb'];exact f0,f3,f1,f4,f5⟩
  have I2:Inv X pins σ (upd H s.heap.objs.size (.tup [.int i,x])) { s with heap:=h'',toks:=tk+1 }:=by
   refine Inv.pb (s:={ s with heap:=s.heap.push { cls:=.type "tuple",data:=.seq #[.int i tk,v] },toks:=tk+1 }) (h':=h'') (t':=tk+1) (fp:=[e,it]) I1 (fun b o hb q=>?_) stat
   have b1:b≠e:=fun z=>hb (by simp[z])
   have b2:b≠it:=fun z=>hb (by simp[z])
   refine hs''.extBut b o b1 ?_
   by_cases hbT:b=s.heap.objs.size
   ·subst hbT
    have q':(s.heap.push { cls:=.type "tuple",data:=.seq #[.int i tk,v] }).get? s.heap.objs.size=some o:=q
    rw[Heap.get?_push_size _ rfl]at q'
    cases q'
    exact hT
   ·have q':s.heap.get? b=some o:=(Heap.get?_push_ne _ _ _ hbT).symm.trans q
    exact hk b o b1 b2 q'
  refine⟨.ref s.heap.objs.size,_,I2,rfl,⟨s.heap.objs.size,x,hn,rfl,rfl,fun ys hy=>by rw[S.inj H ys xs hy hq];exact hx⟩,⟨⟨v,by simpa using he'⟩,S.keep _ h' h'' (h2 _ _ hs') fun o q=>hs''.extBut _ _ (Ne.symm hei) q⟩,fun b hb=>(stat b hb).1⟩
 done:=by
  intro X hP hw hK hc i pins s σ H E I hf st hg
  subst hP hw hK
  obtain⟨⟨old,he⟩,hi⟩:=st
  obtain⟨xs,hq,hx⟩:=hg
  have fe:=hf e (by simp)
  have fi:=hf it (by simp)
  obtain⟨fp,Pv,St,D,hef,h1,h2,h3⟩:=S.dr X rfl rfl rfl hc pins s σ H xs I fe.1 fi.1 hq
  subst hx
  refine wpAny_pyNext_enum_endD D he (h1 _ hi) fun h' eb=>⟨rfl,?_⟩
  obtain⟨f0,f1,f2,f3,f4,f5⟩:=fi
  exact I.turned (it:=it) (h':=h') (t':=s.toks) (fun b o hb q=>eb b o hb q) f0 f1 f3 f4 f5
 self:=fun A i s Q E st h=>by
  obtain⟨⟨old,he⟩,hi⟩:=st
  exact wpAny_pyIter_enum he h
theorem src_list{P:Program}{w:World}{K:PySem.W.Frag}{e it l:Addr}(hei:e≠it):Src P w K e it (fun H xs=>H l=some (.lst xs)) (fun i h=>h.IsListIter it l i) where
 obj:=fun i h st=>let ⟨o,ho,_,hd⟩:=st;⟨o,ho,fun v q=>by rw[hd]at q;cases q⟩
 keep:=fun i h h' st k=>st.at fun o q=>k o q
 inj:=fun H xs ys h1 h2=>by rw[h1]at h2;cases h2;rfl
 dr:=by
  intro X hP hw hK hc pins s σ H xs I he hi hx
  subst hP hw hK
  obtain⟨its,rv,p,hz⟩:=I.list (SqL.of hx)
  have hl:its.toArray.size=xs.length:=by rw[List.size_toArray,rv.length]
  have hh:X.A.in1.handled=none:=I.ok.hd hc
  have D:=Draws.list (prog:=X.prog) (w:=X.w) (A:=X.A.in1) hh it l (aW hx hi) its.toArray
  rw[hl]at D
  refine⟨_,_,_,D,?_,fun i st=>⟨st,p.isList⟩,fun i h st=>st.1,fun i v hv=>?_⟩
  ·intro m
   rcases List.mem_cons.mp m with q | m
   ·exact hei q
   ·exact(aW hx he).symm (List.mem_singleton.mp m)
  ·have hv:its[i]?=some v:=by simpa using hv
   have hlt:i<xs.length:=by rw[rv.length];exact(List.getElem?_eq_some_iff.mp hv).1
   obtain⟨u,h1,h2⟩:=rv.get (i:=i) (x:=xs[i]) (by simp[hlt])
   rw[hv]at h1
   cases h1
   exact⟨xs[i],by simp[hlt],h2⟩
theorem Ce{K:PySem.W.Frag}{e it l:Addr}(TE:kO P w)(hei:e≠it):Src P w K e it (fun H xs=>H l=some (.tup xs)) (fun i h=>h.IsTupleIter it l i) where
 obj:=fun i h st=>let ⟨o,ho,_,hd⟩:=st;⟨o,ho,fun v q=>by rw[hd]at q;cases q⟩
 keep:=fun i h h' st k=>let ⟨o,ho,r⟩:=st;⟨o,k o ho,r⟩
 inj:=fun H xs ys h1 h2=>by rw[h1]at h2;cases h2;rfl
 dr:=by
  intro X hP hw hK hc pins s σ H xs I he hi hx
  subst hP hw hK
  obtain⟨its,rv,p,hz⟩:=I.tuple (SqT.of hx)
  have hl:its.toArray.size=xs.length:=by rw[List.size_toArray,rv.length]
  have hh:X.A.in1.handled=none:=I.ok.hd hc
  have D:=TE.draws (A:=X.A.in1) hh it l (aW hx hi) its.toArray
  rw[hl]at D
  refine⟨_,_,_,D,?_,fun i st=>⟨st,p⟩,fun i h st=>st.1,fun i v hv=>?_⟩
  ·intro m
   rcases List.mem_cons.mp m with q | m
   ·exact hei q
   ·exact(aW hx he).symm (List.mem_singleton.mp m)
  ·have hv:its[i]?=some v:=by simpa using hv
   have hlt:i<xs.length:=by rw[rv.length];exact(List.getElem?_eq_some_iff.mp hv).1
   obtain⟨u,h1,h2⟩:=rv.get (i:=i) (x:=xs[i]) (by simp[hlt])
   rw[hv]at h1
   cases h1
   exact⟨xs[i],by simp[hlt],h2⟩
noncomputable def iO(x:Str):List V:=x.cps.toList.map fun c=>.str ⟨#[c]⟩
theorem Bj{P:Program}{w:World}{K:PySem.W.Frag}{e it:Addr}{x:Str}{t:Tok}(hei:e≠it):Src P w K e it (fun _ xs=>xs=iO x) (fun i h=>h.IsStrIter it (strIterType x) x t i) where
 obj:=fun i h st=>let ⟨o,ho,_,hd⟩:=st;⟨o,ho,fun v q=>by rw[hd]at q;cases q⟩
 keep:=fun i h h' st k=>let ⟨o,ho,r⟩:=st;⟨o,k o ho,r⟩
 inj:=fun H xs ys h1 h2=>by rw[h1,h2]
 dr:=by
  intro X hP hw hK hc pins s σ H xs I he hi hx
  subst hP hw hK hx
  have hh:X.A.in1.handled=none:=I.ok.hd hc
  have hl:x.cps.size=(iO x).length:=by simp[iO]
  have pv:∀ (i:Nat) (v:Value),(∃ c u,x.cps[i]?=some c/\v=Value.str ⟨#[c]⟩ u)->∃ y,(iO x)[i]?=some y/\RelV y v:=fun i v hv=>by
   obtain⟨c,u,h1,h2⟩:=hv
   exact⟨.str ⟨#[c]⟩,by simp[iO,h1],u,h2⟩
  have ni:e∉[it]:=fun m=>hei (List.mem_singleton.mp m)
  cases ha:x.cps.all (·<128)with
  |true=>
   have ht:strIterType x = "str_ascii_iterator" := by simp[strIterType,ha]
   have D:=Draws.strAscii (prog:=X.prog) (w:=X.w) (A:=X.A.in1) hh it x t
   rw[hl]at D
   exact⟨_,_,_,D,ni,fun i st=>by rw[ht]at st;exact st,fun i h st=>by rw[ht];exact st,pv⟩
  |false=>
   have ht:strIterType x = "str_iterator" := by simp[strIterType,ha]
   have D:=Draws.strWide (prog:=X.prog) (w:=X.w) (A:=X.A.in1) hh it x t
   rw[hl]at D
   exact⟨_,_,_,D,ni,fun i st=>by rw[ht]at st;exact st,fun i h st=>by rw[ht];exact st,pv⟩
section
variable{X:Cx}{elts:List Expr}{kx:Nat}{tp p pos:Pos}{a:Expr}{ta:TA}
noncomputable def GA(ta:TA):TI:=fun σ H R=>ta σ H fun vs H1=>(∃ l xs,vs=[.ref l]/\H1 l=some (.lst xs)/\R (Ite fun H xs=>H l=some (.lst xs)) H1)\/(∃ l xs,vs=[.ref l]/\H1 l=some (.tup xs)/\R (Ite fun H xs=>H l=some (.tup xs)) H1) \/
 (∃ x,vs=[.str x]/\R (Ite fun _ xs=>xs=iO x) H1)
theorem mf{g:Heap}{R:It->Hp->Prop}{E:Value->Shared->Prop}{cont:Hp->List V->Prop}{ia:Nat->Heap->Prop}(I:Inv X pins σ H s)(S:Src X.prog X.w X.K (s.heap.objs.size+1) s.heap.objs.size cont ia)
 (he:IsEnum g (s.heap.objs.size+1) s.heap.objs.size 0 .none)(hi:ia 0 g)(hk:∀ b o,s.heap.get? b=some o->g.get? b=some o)(q:R (Ite cont) H) :
  wpAny (model X.prog X.w) X.A (pyIter (.ref (s.heap.objs.size+1))) (PIE X pins σ (.Tuple elts kx tp) R) E { s with heap:=g }:=by
 refine wpAny_pyIter_enum he ⟨s.heap.objs.size+1,[s.heap.objs.size+1,s.heap.objs.size],_,_,H,rfl,I.kept (t':=s.toks) hk,xD (Nat.succ_ne_self _) S,⟨⟨.none,he⟩,hi⟩,fun b hb=>?_,q⟩
 have hb':s.heap.objs.size<=b:=by
  rcases List.mem_cons.mp hb with z | z
  ·rw[z];exact Nat.le_succ _
  ·rw[List.mem_singleton.mp z];exact Nat.le_refl _
 exact I.nY hb' (I.hok.fresh hb')
theorem BH(TE:kO X.prog X.w)(hg:Gl X "enumerate")(hm:X.mg "enumerate" = none)(ha:PA X [a] ta)(hs:starEach [a] X.env=[(false,eval a X.env)]):PI X (.Tuple elts kx tp) (.Call (.Name "enumerate" p) [a] [] pos) (GA ta):=by
 intro pins s σ H R I h
 refine Call_ (gO I hg hm boot_enumerate (PyProof.Rows.callWith_type1 (thn (ha pos pins s σ H _ I h) fun us s1 ⟨vs,H1,I1,r1,q1⟩=>?_) hs rfl))
 rcases q1 with⟨l,xs,rfl,hx,q⟩ | ⟨l,xs,rfl,hx,q⟩ | ⟨x,rfl,q⟩
 ·obtain⟨u,rfl,ru⟩:=vals1 r1
  cases ru
  obtain⟨its,rv,pl,hz⟩:=I1.list (SqL.of hx)
  exact call_enumerate_list pl.isList fun g he hi hsz hk=>mf I1 (src_list (Nat.succ_ne_self _)) he hi hk q
 ·obtain⟨u,rfl,ru⟩:=vals1 r1
  cases ru
  obtain⟨its,rv,pl,hz⟩:=I1.tuple (SqT.of hx)
  exact TE.call pl fun g he hi hk=>mf I1 (Ce TE (Nat.succ_ne_self _)) he hi hk q
 ·obtain⟨u,rfl,ru⟩:=vals1 r1
  obtain⟨t,rfl⟩:=ru
  exact call_enumerate_str fun g he hi hsz hk=>mf I1 (Bj (Nat.succ_ne_self _)) he hi hk q
end
end L2
namespace RS
open PySem PySem.Spec PyProof.Rows L2
theorem k9:∀ (ds:List RL.D) (k:Int),(RL.cF k ds).length=ds.length
 | [],_=>rfl
 | d::r,k=>by rw[RL.cF,List.length_cons,List.length_cons,k9 r]
theorem pM:∀ (ds:List RL.D) (k:Int) (i:Nat) (d:RL.D),(RL.cF k ds)[i]?=some d->∃ e,ds[i]?=some e/\d=.tup [.int (k+i),e]
 | [],k,i,d,h=>by simp[RL.cF]at h
 | e::r,k,0,d,h=>by simp[RL.cF]at h;exact⟨e,rfl,by simp[h]⟩
 | e::r,k,i+1,d,h=>by
  rw[RL.cF,List.getElem?_cons_succ]at h
  obtain⟨e',h1,h2⟩:=pM r (k+1) i d h
  refine⟨e',by simpa using h1,?_⟩
  rw[h2]
  congr 3
  lia
theorem gH{K:PySem.W.Frag}{H:Hp}{xs:List V}{P:Addr->Prop}{cont:Hp->List V->Prop}(hc:∀ H',Off P H H'->cont H' xs)(hj:∀ H' ys,cont H' xs->cont H' ys->ys=xs)(r:ab nP K H ds xs)(hm:∀ b o,P b->H b=some o->cR o):j1 K (Ite cont) (RL.cF 0 ds) P H where
 go:=fun H' i k hi=>by
  rw[k9]at hi
  obtain⟨x,e,_⟩:=r.get (i:=i) (d:=ds[i]) (by simp[hi])
  exact⟨xs,x,hc H' k,e⟩
 stop:=fun H' k=>⟨xs,hc H' k,by rw[k9,r.length]⟩
 yld:=fun H' i d v H2 k e y=>by
  obtain⟨p,x,hp,rfl,rfl,hx⟩:=y
  obtain⟨e',h1,rfl⟩:=pM ds 0 i d e
  obtain⟨x',h2,h3⟩:=r.get h1
  rw[hx xs (hc H' k)]at h2
  cases h2
  refine⟨a5.bS hp,fun q=>?_⟩
  have re:Rep nP K H' e' x:=by
   rcases q with q | q
   ·have q:(true&&(e'.imm&&true))=true:=q
    simp only[Bool.true_and,Bool.and_true]at q
    exact ic hm k h3 q
   ·exact h3.same q
  rw[Rep]
  refine⟨p,[.int i,x],rfl,bC,ab.cons ?_ (ab.cons (re.same (a5.bS hp)) ab.nil)⟩
  simpa using(aY (P:=nP) (K:=K) (H:=upd H' p (.tup [.int i,x])) (i:=(i:Int)))
theorem wg{K:PySem.W.Frag}{d:RL.D}{ds:List RL.D}(h:RL.dU d=some ds)(r:Rep P K H d v):(∃ p xs,v=.ref p/\H p=some (.lst xs)/\d=.lst ds/\ab P K H ds xs)\/(∃ p xs,v=.ref p/\H p=some (.tup xs)/\d=.tup ds/\ab P K H ds xs) \/
  (∃ x,v=.str x/\d=.str x/\ds=x.cps.toList.map fun c=>.str ⟨#[c]⟩):=by
 cases d<;>simp only[RL.dU]at h<;>first | (cases h;done) | skip
 case lst ys=>cases h;obtain⟨p,xs,e1,_,e2,e3⟩:=aD r;exact .inl ⟨p,xs,e1,e2,rfl,e3⟩
 case tup ys=>cases h;obtain⟨p,xs,e1,e2,e3⟩:=bz r;exact .inr (.inl ⟨p,xs,e1,e2,rfl,e3⟩)
 case str x=>cases h;exact .inr (.inr ⟨x,aP r,rfl,rfl⟩)
theorem jN{P:Addr->Prop}{K:PySem.W.Frag}{H:Hp}:∀ (cs:List Nat),ab P K H (cs.map fun c=>RL.D.str ⟨#[c]⟩) (cs.map fun c=>V.str ⟨#[c]⟩)
 | []=>ab.nil
 | c::r=>ab.cons iV (jN r)
section rules
variable{X:Cx}{cl:RL.Cl}{elts:List Expr}{kx:Nat}{tp p pos:Pos}{a:Expr}{a':RL.E}
theorem EJ(TE:kO X.prog X.w)(hg:Gl X "enumerate")(hm:X.mg "enumerate" = none)(ha:SE X cl a a')(hn:noStar a=true):SI X cl (.Tuple elts kx tp) (.Call (.Name "enumerate" p) [a] [] pos) (.enm a'):=by
 intro pins s σ H R I h
 obtain⟨σD,ds,rv,e,k⟩:=h
 rw[RL.bb]at e
 obtain⟨d,e1,e2⟩:=bind_some e
 obtain⟨es,e3,e4⟩:=map_some e2
 subst e4
 have hpa:PA X [a] (mO (tE X.K cl a') vw):=bY ha dW (aA [] hn)
 refine BH TE hg hm hpa (aA [] hn) pins s σ H R I ⟨σD,d,rv,e1,fun v H1 r1=>?_⟩
 rcases wg e3 r1.rep with⟨l,xs,rfl,hx,rfl,rs⟩ | ⟨l,xs,rfl,hx,rfl,rs⟩ | ⟨x,rfl,rfl,rfl⟩
 ·refine .inl ⟨l,xs,rfl,hx,k _ _ r1.same ⟨gH (fun H' o=>o _ _ (fun z=>z) hx) (fun H' ys h1 h2=>by rw[h1]at h2;cases h2;rfl) rs gX,fun M P z hP av=>?_⟩⟩
  exact gH (fun H' o=>o _ _ (nG r1 z hP av _ _ rfl rfl) hx) (fun H' ys h1 h2=>by rw[h1]at h2;cases h2;rfl) rs (eE r1.same hP)
 ·have np:∀ P:Addr->Prop,(∀ b o,P b->H1 b=some o->cR o)->¬ P l:=fun P hP q=>by rcases hP l _ q hx with⟨z,q⟩ | ⟨z,q⟩ | ⟨z,q⟩<;>cases q
  exact .inr (.inl ⟨l,xs,rfl,hx,k _ _ r1.same ⟨gH (fun H' o=>o _ _ (np _ gX) hx) (fun H' ys h1 h2=>by rw[h1]at h2;cases h2;rfl) rs gX,fun M P z hP av=>gH (fun H' o=>o _ _ (np P (eE r1.same hP)) hx) (fun H' ys h1 h2=>by rw[h1]at h2;cases h2;rfl) rs (eE r1.same hP)⟩⟩)
 ·exact .inr (.inr ⟨x,rfl,k _ _ r1.same ⟨gH (fun H' o=>rfl) (fun H' ys h1 h2=>h2) (jN _) gX,fun M P z hP av=>gH (fun H' o=>rfl) (fun H' ys h1 h2=>h2) (jN _) (eE r1.same hP)⟩⟩)
end rules
section rules
variable{X:Cx}{cl:RL.Cl}{a b:Expr}{a' b':RL.E}{pos p p2:Pos}{M:List Nat}{st:Stmt}{i:Nat}{e' k':RL.E}
theorem B0{P:Addr->Prop}{K:PySem.W.Frag}{H:Hp}{ds:List RL.D}{v:V}(h:Rep P K H (.scr ds) v):∃ a xs,v=.ref a/\kA K H a xs/\ab P K H ds xs:=by rw[Rep]at h;exact h
theorem xu(n:Nat)(k:Int):HT.sIx n n (some k)=RL.cutAt n k:=by
 have h:=HT.gF k n n
 unfold RL.cutAt
 split at h
 ·rw[if_neg (by lia)];lia
 ·rw[if_pos (by lia)];lia
theorem v5(n:Nat)(k:Int):HT.sIx n 0 (some k)=RL.cutAt n k:=by
 have h:=HT.gF k n 0
 unfold RL.cutAt
 split at h
 ·rw[if_neg (by lia)];lia
 ·rw[if_pos (by lia)];lia
theorem CG(ha:SE X cl a a')(hb:SE X cl b b'):SE X cl (.Subscript a (.Slice none (some b) none p2) pos) (.slT a' b'):=by
 refine PE.weak (q0 (SlR.or tK xK) ha uw (uF hb)) fun σ H Q h=>?_
 obtain⟨σD,d,rv,e,k⟩:=h
 rw[RL.ev]at e
 obtain⟨x,ea,e⟩:=bind_some e
 obtain⟨y,eb,e⟩:=bind_some e
 refine⟨σD,x,rv,ea,fun v H1 r1=>⟨σD,y,rv.same r1.same,eb,fun u H2 r2=>?_⟩⟩
 have rx:=r1.rep.same r2.same
 have sm:=r1.same.trans r2.same
 cases y with
 |int n=>
  refine⟨n,ah r2.rep,?_⟩
  cases x with
  |lst xs=>
   cases e
   obtain⟨q,ys,rfl,_,f2,f3⟩:=aD rx
   refine .inl ⟨q,ys,rfl,SqL.of f2,fun l hl=>?_⟩
   unfold hJ
   rw[mr,<-f3.length]
   exact k _ _ (dJ sm hl (f3.take _) fun _=>rfl)
  |scr xs=>
   cases e
   obtain⟨q,ys,rfl,f2,f3⟩:=B0 rx
   refine .inl ⟨q,ys,rfl,f2.seq,fun l hl=>?_⟩
   unfold hJ
   rw[mr,<-f3.length]
   exact k _ _ (dJ sm hl (f3.take _) fun _=>rfl)
  |tup xs=>
   simp only[RL.kc]at e
   split at e
   ·rename_i hz
    cases e
    obtain⟨q,ys,rfl,f2,f3⟩:=bz rx
    refine .inr ⟨q,ys,rfl,SqT.of f2,fun z=>?_,fun l hl=>?_⟩
    ·rw[xu,<-f3.length]at z
     lia
    ·unfold hJ
     rw[mr,<-f3.length]
     exact k _ _ (hU sm hl (f3.take _) fun _=>rfl)
   ·cases e
  | _=>cases e
 | _=>cases x<;>cases e
theorem Fd(ha:SE X cl a a')(hb:SE X cl b b'):SE X cl (.Subscript a (.Slice (some b) none none p2) pos) (.slF a' b'):=by
 refine PE.weak (q0 (SlR.or tK xK) ha (uF hb) uw) fun σ H Q h=>?_
 obtain⟨σD,d,rv,e,k⟩:=h
 rw[RL.ev]at e
 obtain⟨x,ea,e⟩:=bind_some e
 obtain⟨y,eb,e⟩:=bind_some e
 refine⟨σD,x,rv,ea,fun v H1 r1=>⟨σD,y,rv.same r1.same,eb,fun u H2 r2=>?_⟩⟩
 have rx:=r1.rep.same r2.same
 have sm:=r1.same.trans r2.same
 cases y with
 |int n=>
  refine⟨n,ah r2.rep,?_⟩
  cases x with
  |lst xs=>
   cases e
   obtain⟨q,ys,rfl,_,f2,f3⟩:=aD rx
   refine .inl ⟨q,ys,rfl,SqL.of f2,fun l hl=>?_⟩
   unfold hJ
   rw[qX,<-f3.length]
   exact k _ _ (dJ sm hl (f3.drop _) fun _=>rfl)
  |tup xs=>
   simp only[RL.v3]at e
   split at e
   ·rename_i hz
    cases e
    obtain⟨q,ys,rfl,f2,f3⟩:=bz rx
    refine .inr ⟨q,ys,rfl,SqT.of f2,fun z=>?_,fun l hl=>?_⟩
    ·rw[v5,<-f3.length]at z
     lia
    ·unfold hJ
     rw[qX,<-f3.length]
     exact k _ _ (hU sm hl (f3.drop _) fun _=>rfl)
   ·cases e
  | _=>cases e
 | _=>cases x<;>cases e
noncomputable def yk:RL.D->RL.D->Option (Option RL.D)
 | .dK ks vs,k=>(RL.keyOf k).map (RL.aM ks vs)
 | .dT ks vs,.tup k=>(RL.keysOf k).map (RL.aM ks vs)
 | _,_=>none
noncomputable def Ans(P:Addr->Prop)(K:PySem.W.Frag)(H:Hp):Option RL.D->Option V->Prop
 | some d,r=>∃ w,r=some w/\Rep P K H d w
 | none,r=>r=none
theorem oa{κ:Type} [DecidableEq κ]{P:Addr->Prop}{K:PySem.W.Frag}{H:Hp}{x:κ}:∀ {ks:List κ} {ds:List RL.D} {xs:List V},ks.length=ds.length->ab P K H ds xs ->
  Ans P K H (RL.aM ks ds x) (fq (ks.zip xs) x)
 | [],ds,xs,hl,r=>by simp[RL.aM,fq,Ans]
 | k::ks,[],xs,hl,r=>by simp at hl
 | k::ks,d::ds,xs,hl,r=>by
  rw[ab]at r
  obtain⟨v,t,rfl,r1,r2⟩:=r
  by_cases hk:k=x
  ·have h1:RL.aM (k::ks) (d::ds) x=some d:=by rw[RL.aM,if_pos hk]
   rw[h1]
   exact⟨v,by rw[List.zip_cons_cons];exact jE hk,r1⟩
  ·have ih:=oa (x:=x) (ks:=ks) (ds:=ds) (xs:=t) (by simpa using hl) r2
   have h1:RL.aM (k::ks) (d::ds) x=RL.aM ks ds x:=by rw[RL.aM,if_neg hk]
   rw[h1,List.zip_cons_cons,j9 hk]
   exact ih
theorem mz{K:PySem.W.Frag}{d:RL.D}{k:RL.Ky}(h:RL.keyOf d=some k)(r:Rep P K H d v):v=kV k:=by
 cases d<;>simp only[RL.keyOf]at h<;>first | (cases h;done) | skip
 case int i=>cases h;exact ah r
 case str i=>cases h;exact aP r
theorem k7{P:Addr->Prop}{K:PySem.W.Frag}{H:Hp}:∀ {ds:List RL.D} {k:List RL.Ky} {xs:List V},RL.keysOf ds=some k->ab P K H ds xs->xs=k.map kV
 | [],k,xs,h,r=>by cases h;rw[ab]at r;exact r
 | d::ds,k,xs,h,r=>by
  rw[RL.keysOf]at h
  obtain⟨k1,h1,h⟩:=bind_some h
  obtain⟨k2,h2,h3⟩:=map_some h
  subst h3
  rw[ab]at r
  obtain⟨v,t,rfl,r1,r2⟩:=r
  rw[mz h1 r1,k7 h2 r2]
  rfl
theorem oQ{H:Hp}{y kx:RL.D}{v u:V}{o:Option RL.D}(ry:Rep nP X.K H y v)(rk:Rep nP X.K H kx u)(h:yk y kx=some o) :
  ∃ q r,v=.ref q/\eL H q u r/\Ans nP X.K H o r:=by
 cases y with
 |dK ks vs=>
  obtain⟨k,h1,h2⟩:=map_some h
  rw[Rep]at ry
  obtain⟨q,xs,rfl,_,f2,fl,f3⟩:=ry
  have lk:=oa (x:=k) fl f3
  rw[h2]at lk
  refine⟨q,_,rfl,by rw[mz h1 rk];exact eL.k f2,lk⟩
 |dT ks vs=>
  cases kx with
  |tup kk=>
   obtain⟨k,h1,h2⟩:=map_some h
   rw[Rep]at ry
   obtain⟨q,xs,rfl,_,f2,fl,f3⟩:=ry
   obtain⟨q',ys,rfl,g2,g3⟩:=bz rk
   rw[k7 h1 g3]at g2
   have lk:=oa (x:=k) fl f3
   rw[h2]at lk
   exact⟨q,_,rfl,eL.t f2 g2,lk⟩
  | _=>cases h
 | _=>cases kx<;>cases h
theorem Em{y kx d:RL.D}(h:RL.pe y kx=some d):yk y kx=some (some d):=by
 cases y with
 | dK ks vs=>obtain⟨k,h1,h2⟩:=bind_some (show(RL.keyOf kx).bind (RL.aM ks vs)=some d from h);show(RL.keyOf kx).map (RL.aM ks vs)=_;rw[h1,Option.map_some,h2]
 |dT ks vs=>
  cases kx with
  | tup kk=>obtain⟨k,h1,h2⟩:=bind_some (show(RL.keysOf kk).bind (RL.aM ks vs)=some d from h);show(RL.keysOf kk).map (RL.aM ks vs)=_;rw[h1,Option.map_some,h2]
  | _=>cases h
 | _=>cases kx<;>cases h
theorem C4(hu:X.A.units+100<cLine)(ha:SE X cl a a')(hb:SE X cl b b')(hs:vC b):SE X cl (.Subscript a b pos) (.ixD a' b'):=by
 refine PE.weak (Ba (by lia) ha hb hs) fun σ H Q h=>?_
 obtain⟨σD,d,rv,e,k⟩:=h
 rw[RL.ev]at e
 obtain⟨x,ea,e⟩:=bind_some e
 obtain⟨y,eb,e⟩:=bind_some e
 refine⟨σD,x,rv,ea,fun v H1 r1=>⟨σD,y,rv.same r1.same,eb,fun u H2 r2=>?_⟩⟩
 obtain⟨q,r,rfl,g,w,rfl,rw'⟩:=oQ (r1.rep.same r2.same) r2.rep (Em e)
 exact⟨q,w,rfl,g,k _ _ ⟨r1.same.trans r2.same,rw',fun z=>(by cases z),fun M z=>nomatch (show false=true from z)⟩⟩
theorem Fm:SE X cl (.Dict [] [] pos) .dk0:=by
 refine PE.weak za fun σ H Q h=>?_
 obtain⟨σD,d,rv,e,k⟩:=h
 rw[RL.ev]at e
 cases e
 intro q hq
 refine k _ _ ⟨a5.bS hq,?_,fun _ _ a z=>(by cases z;exact hq),fun M z=>nomatch (show false=true from z)⟩
 rw[Rep]
 exact⟨q,[],rfl,fun z=>z,bC,rfl,ab.nil⟩
theorem E6:SE X cl (.Dict [] [] pos) .dt0:=by
 refine PE.weak Ab fun σ H Q h=>?_
 obtain⟨σD,d,rv,e,k⟩:=h
 rw[RL.ev]at e
 cases e
 intro q hq
 refine k _ _ ⟨a5.bS hq,?_,fun _ _ a z=>(by cases z;exact hq),fun M z=>nomatch (show false=true from z)⟩
 rw[Rep]
 exact⟨q,[],rfl,fun z=>z,bC,rfl,ab.nil⟩
end rules
section rules
variable{X:Cx}{cl:RL.Cl}{a b:Expr}{a' b':RL.E}{pos p p2:Pos}{M:List Nat}{st:Stmt}{i:Nat}{e' k':RL.E}
theorem Fu{y kx:RL.D}{k:Bool}(h:RL.yQ y kx=some k):∃ o,yk y kx=some o/\k=o.isSome:=by
 cases y with
 | dK ks vs=>obtain⟨q,h1,h2⟩:=map_some (show(RL.keyOf kx).map _=some k from h);exact⟨RL.aM ks vs q,by show(RL.keyOf kx).map _=_;rw[h1];rfl,h2.symm⟩
 |dT ks vs=>
  cases kx with
  | tup kk=>obtain⟨q,h1,h2⟩:=map_some (show(RL.keysOf kk).map _=some k from h);exact⟨RL.aM ks vs q,by show(RL.keysOf kk).map _=_;rw[h1];rfl,h2.symm⟩
  | _=>cases h
 | _=>cases kx<;>cases h
theorem Ans.isSome{K:PySem.W.Frag}(h:Ans P K H o r):r.isSome=o.isSome:=by
 cases o with
 | none=>rw[show r=none from h];rfl
 | some d=>obtain⟨w,hw,_⟩:=h;rw[hw];rfl
noncomputable def AL(neg:Bool)(ty td:TE):TE:=if neg then tw ty td else CV ty td
theorem uD{neg:Bool}(hu:X.A.units+100<cLine)(ha:SE X cl a a')(hb:SE X cl b b'):PC X (if neg then .NotIn else .In) a b (AL neg (tE X.K cl a') (tE X.K cl b')):=by
 cases neg with
 | true=>exact vU (by lia) ha hb
 | false=>exact DU (by lia) ha hb
theorem vM{neg:Bool}{σ:L2.St}{H:Hp}{Q:VK}{σD:RL.St}{d:RL.D}(rv:RV0 X.K σD σ H)(e:RL.ev cl σD (.inD neg a' b')=some d)(k:∀ t H',d=.bl t->a5 H H'->Q (.bl t) H'):AL neg (tE X.K cl a') (tE X.K cl b') σ H Q:=by
 rw[RL.ev]at e
 obtain⟨x,ea,e⟩:=bind_some e
 obtain⟨y,eb,e⟩:=bind_some e
 obtain⟨t,e1,e2⟩:=map_some e
 obtain⟨o,h1,h2⟩:=Fu e1
 cases neg with
 |true=>
  refine two rv ea eb fun v u H1 H2 s1 s2 rx ry _ _=>?_
  obtain⟨q,r,rfl,g,an⟩:=oQ ry rx h1
  refine⟨q,r,rfl,g,k _ _ ?_ (s1.trans s2)⟩
  rw[an.isSome,<-e2,h2]
  rfl
 |false=>
  refine two rv ea eb fun v u H1 H2 s1 s2 rx ry _ _=>?_
  obtain⟨q,r,rfl,g,an⟩:=oQ ry rx h1
  refine⟨q,r,rfl,g,k _ _ ?_ (s1.trans s2)⟩
  rw[an.isSome,<-e2,h2]
  rfl
theorem D4{neg:Bool}(hu:X.A.units+100<cLine)(ha:SE X cl a a')(hb:SE X cl b b')(hm:mH b=true):SE X cl (.Compare a [if neg then .NotIn else .In] [b] pos) (.inD neg a' b'):=by
 refine PE.weak (En (uD hu ha hb) (iq hm)) fun σ H Q h=>?_
 obtain⟨σD,d,rv,e,q⟩:=h
 exact vM rv e fun t H' hd sm=>by subst hd;exact q _ _ (cC sm)
theorem E2{neg:Bool}(hu:X.A.units+100<cLine)(ha:SE X cl a a')(hb:SE X cl b b')(hm:mH b=true):ST X cl (.Compare a [if neg then .NotIn else .In] [b] pos) (.inD neg a' b'):=by
 refine PT.weak (DF (uD hu ha hb) (iq hm)) fun σ H Q h=>?_
 obtain⟨σD,k,rv,e,q⟩:=h
 obtain⟨d,e1,e2⟩:=bind_some e
 refine vM rv e1 fun t H' hd sm=>?_
 subst hd
 cases e2
 exact⟨_,rfl,q _ sm⟩
theorem tX{κ:Type}[DecidableEq κ]{x:κ}{K:PySem.W.Frag}{ks:List κ}{ds:List RL.D}(hl:ks.length=ds.length)(r:ab P K H ds xs)(rv:Rep P K H d v) :
  ∃ ys,putK (ks.zip xs) x v=(RL.putD ks ds x d).1.zip ys/\(RL.putD ks ds x d).1.length=(RL.putD ks ds x d).2.length/\ab P K H (RL.putD ks ds x d).2 ys:=by
 have hx:ks.length=xs.length:=hl.trans r.length
 have any:∀ (ks:List κ) (xs:List V),ks.length=xs.length->((ks.zip xs).any fun kv=>decide (kv.1=x))=decide (x∈ks):=by
  intro ks
  induction ks with
  | nil=>intro xs _;simp
  |cons k r ih=>
   intro xs h
   cases xs with
   | nil=>simp at h
   |cons y t=>
    rw[List.zip_cons_cons,List.any_cons,ih t (by simpa using h)]
    by_cases hk:k=x
    ·simp[hk]
    ·simp[hk,Ne.symm hk]
 unfold putK RL.putD
 rw[any ks xs hx]
 by_cases hm:x∈ks
 ·rw[if_pos (by simpa using hm),if_pos hm]
  refine⟨List.zipWith (fun k w=>if k=x then v else w) ks xs,?_,?_,?_⟩
  ·clear any hm hl r
   induction ks generalizing xs with
   | nil=>simp
   |cons k t ih=>
    cases xs with
    | nil=>simp at hx
    |cons y t'=>
     rw[List.zip_cons_cons,List.map_cons,List.zipWith_cons_cons,List.zip_cons_cons,ih (by simpa using hx)]
     by_cases hk:k=x<;>simp[hk]
  ·rw[List.length_zipWith,hl,Nat.min_self]
  ·clear any hm hx
   induction ks generalizing ds xs with
   | nil=>simpa using ab.nil
   |cons k t ih=>
    cases ds with
    | nil=>simp at hl
    |cons d0 ds=>
     rw[ab]at r
     obtain⟨y,t',rfl,r1,r2⟩:=r
     rw[List.zipWith_cons_cons,List.zipWith_cons_cons]
     refine ab.cons ?_ (ih (by simpa using hl) r2)
     by_cases hk:k=x
     ·rw[if_pos hk,if_pos hk];exact rv
     ·rw[if_neg hk,if_neg hk];exact r1
 ·rw[if_neg (by simpa using hm),if_neg hm]
  refine⟨xs++[v],?_,by simp[hl],ab.append r (ab.cons rv ab.nil)⟩
  rw[List.zip_append hx]
  rfl
theorem vL{κ:Type} [DecidableEq κ]{x:κ}{d:RL.D}(hd:d.imm=true):∀ {ks:List κ} {ds:List RL.D},RL.aq ds=true->RL.aq (RL.putD ks ds x d).2=true:=by
 have app:∀ l:List RL.D,RL.aq l=true->RL.aq (l++[d])=true:=fun l=>by
  induction l with
  | nil=>intro _;simp[RL.aq,hd]
  | cons z r ih=>intro h;rw[RL.aq,Bool.and_eq_true]at h;rw[List.cons_append,RL.aq,h.1,ih h.2];rfl
 have zw:∀ (ks:List κ) (ds:List RL.D),RL.aq ds=true->RL.aq (List.zipWith (fun k w=>if k=x then d else w) ks ds)=true:=fun ks=>by
  induction ks with
  | nil=>intro ds _;simp[RL.aq]
  |cons k r ih=>
   intro ds h
   cases ds with
   | nil=>simp[RL.aq]
   |cons y t=>
    rw[RL.aq,Bool.and_eq_true]at h
    rw[List.zipWith_cons_cons,RL.aq,ih t h.2,Bool.and_true]
    by_cases hk:k=x
    ·rw[if_pos hk];exact hd
    ·rw[if_neg hk];exact h.1
 intro ks ds h
 unfold RL.putD
 split
 ·exact zw ks ds h
 ·exact app ds h
theorem Cj(h:PS X st (uY (jM i) (tE X.K cl k') (tE X.K cl e')))(hi:M.contains i=true):PS X st (tS X.K M fun σD=>(RL.ev cl σD e').bind fun d=>(RL.ev cl σD k').bind fun kk=>((σD[i]?).bind id).bind fun l=>match l with
  | .lst _=>none
  | _=>if d.imm then(RL.d5 l kk d).map fun l'=>(.nx,σD.set i (some l'))else none):=by
 refine PS.weak h fun D σ H h=>?_
 obtain⟨σD,o,σD',rv,e,k⟩:=h
 obtain⟨d,e1,e⟩:=bind_some e
 obtain⟨kk,e2,e⟩:=bind_some e
 obtain⟨l,e3,e⟩:=bind_some e
 obtain⟨v,h1,h2⟩:=rv.val i _ (slot_get e3)
 rw[if_pos hi]at h2
 obtain⟨q1,q2,q3⟩:=h2
 cases l with
 |dK ks ds=>
  dsimp only at e
  split at e
  ·rename_i him
   obtain⟨l',e4,e5⟩:=map_some e
   cases e5
   obtain⟨kx,e6,e7⟩:=bind_some (show(RL.keyOf kk).bind _=some l' from e4)
   split at e7
   ·rename_i hz
    cases e7
    rw[Rep]at q3
    obtain⟨q,xs,rfl,_,f2,fl,f3⟩:=q3
    refine⟨σD,d,rv.rv0,e1,fun y H1 r1=>⟨.ref q,h1,σD,kk,rv.rv0.same r1.same,e2,fun u H2 r2=>?_⟩⟩
    have sm:=r1.same.trans r2.same
    obtain⟨ys,p1,p2,p3⟩:=tX (x:=kx) fl (f3.same sm) (r1.rep.same r2.same)
    have hlen:(ks.zip xs).length<sizeLine:=by
     rw[List.length_zip,<-f3.length,fl,Nat.min_self,<-fl]
     exact Nat.lt_of_lt_of_le hz cw
    refine⟨q,_,rfl,by rw[mz e6 r2.rep];exact kC.k (sm _ _ f2) hlen,?_⟩
    have im:=vL (x:=kx) him (ks:=ks) q2
    obtain⟨g1,g2⟩:=(rv.same sm).iK (d':=.dK (RL.putD ks ds kx d).1 (RL.putD ks ds kx d).2) (o':=.dK (putK (ks.zip xs) kx y)) hi h1 (sm _ _ f2) (.inr (.inl ⟨_,rfl⟩)) ⟨rfl,im,by
     rw[Rep]
     exact⟨q,ys,rfl,fun z=>z,by rw[bC,p1],p2,(ab.upd (P:=fun p=>p=q) (sm _ _ f2) (.inr (.inl ⟨_,rfl⟩)) rfl (p3.imm im)).imm im⟩⟩
    exact k _ _ g1 ((Fr'.same sm).trans g2)
   ·cases e7
  ·cases e
 |dT ks ds=>
  dsimp only at e
  split at e
  ·rename_i him
   obtain⟨l',e4,e5⟩:=map_some e
   cases e5
   cases kk with
   |tup kt=>
    obtain⟨kx,e6,e7⟩:=bind_some (show(RL.keysOf kt).bind _=some l' from e4)
    split at e7
    ·rename_i hz
     cases e7
     rw[Rep]at q3
     obtain⟨q,xs,rfl,_,f2,fl,f3⟩:=q3
     refine⟨σD,d,rv.rv0,e1,fun y H1 r1=>⟨.ref q,h1,σD,.tup kt,rv.rv0.same r1.same,e2,fun u H2 r2=>?_⟩⟩
     have sm:=r1.same.trans r2.same
     obtain⟨ys,p1,p2,p3⟩:=tX (x:=kx) fl (f3.same sm) (r1.rep.same r2.same)
     have hlen:(ks.zip xs).length<sizeLine:=by
      rw[List.length_zip,<-f3.length,fl,Nat.min_self,<-fl]
      exact Nat.lt_of_lt_of_le hz cw
     obtain⟨b,ws,rfl,g2,g3⟩:=bz r2.rep
     rw[k7 e6 g3]at g2
     refine⟨q,_,rfl,kC.t (sm _ _ f2) g2 hlen,?_⟩
     have im:=vL (x:=kx) him (ks:=ks) q2
     obtain⟨g1,g2⟩:=(rv.same sm).iK (d':=.dT (RL.putD ks ds kx d).1 (RL.putD ks ds kx d).2) (o':=.dT (putK (ks.zip xs) kx y)) hi h1 (sm _ _ f2) (.inr (.inr ⟨_,rfl⟩)) ⟨rfl,im,by
      rw[Rep]
      exact⟨q,ys,rfl,fun z=>z,by rw[bC,p1],p2,(ab.upd (P:=fun p=>p=q) (sm _ _ f2) (.inr (.inr ⟨_,rfl⟩)) rfl (p3.imm im)).imm im⟩⟩
     exact k _ _ g1 ((Fr'.same sm).trans g2)
    ·cases e7
   | _=>cases e4
  ·cases e
 | lst _=>cases e
 | _=>cases q1
end rules
end RS
namespace L2
open PySem PySem.Spec PyProof.Rows
noncomputable def Its(c lo:Int)(n:Nat):It:=⟨fun i _=>i<n,fun i H x H'=>H'=H/\x=.int (lo+i*c),fun i _=>n<=i⟩
theorem xa{P:Program}{w:World}{K:PySem.W.Frag}{tg:Expr}(it:Addr)(c lo:Int)(n:Nat):Turn P w K tg (Its c lo n) [it] it (fun i h=>IsRangeIter h it (lo+(i:Nat)*c) ((n:Int)-(i:Nat)) c) where
 mem:=by simp
 obj:=fun i h st b hb=>by
  rw[show b=it by simpa using hb]
  exact⟨_,st,fun v z=>by cases(show Data.fields _=Data.cell v from z)⟩
 keep:=fun i h h' st k=>k it (by simp) _ st
 item:=by
  intro X hP hw hK hc i pins s σ H E I hf st hg
  subst hP hw hK
  obtain⟨f0,f1,f2,f3,f4,f5⟩:=hf it (by simp)
  have W:=Walks.range (prog:=X.prog) (w:=X.w) (I.ok.hd hc) it lo c n
  refine W.item i s _ _ hg st fun v h' tk hv st' kk=>?_
  obtain⟨t,rfl⟩:=hv
  have I1:Inv X pins σ H { s with heap:=h',toks:=tk }:=I.turned (fun b o hb e=>kk b o (by simpa using hb) e) f0 f1 f3 f4 f5
  exact⟨_,rfl,qj (s:={ s with heap:=h',toks:=tk }) (n := "range_iterator") st' rfl rfl (by decide) ⟨.int (lo+i*c),H,I1,⟨t,rfl⟩,⟨rfl,rfl⟩,st',fun b hb=>(hf b hb).1⟩⟩
 done:=by
  intro X hP hw hK hc i pins s σ H E I hf st hg
  subst hP hw hK
  obtain⟨f0,f1,f2,f3,f4,f5⟩:=hf it (by simp)
  exact wpAny_pyNext_range_end (I.ok.hd hc) st (by have:n<=i:=hg;lia) fun h' eb=>⟨rfl,I.turned (t':=s.toks) (fun b o hb e=>eb b o hb e) f0 f1 f3 f4 f5⟩
 self:=fun _ _ _ _ _ st h=>wpAny_pyIter_rangeiter st h
end L2
namespace RS
open PySem PySem.Spec PyProof.Rows L2
theorem nH(c:Int):∀ (n:Nat) (lo:Int) (i:Nat) (d:RL.D),(RL.bI c lo n)[i]?=some d->d=.int (lo+i*c)
 | 0,lo,i,d,h=>by simp[RL.bI]at h
 | n+1,lo,0,d,h=>by simp[RL.bI]at h;simp[h]
 | n+1,lo,i+1,d,h=>by
  rw[RL.bI,List.getElem?_cons_succ]at h
  rw[nH c n (lo+c) i d h]
  congr 1
  rw[show((i+1:Nat):Int)=(i:Int)+1 by lia,Int.add_mul]
  lia
theorem ju(c:Int):∀ (n:Nat) (lo:Int),(RL.bI c lo n).length=n
 | 0,_=>rfl
 | n+1,lo=>by rw[RL.bI,List.length_cons,ju c n]
theorem tM{K:PySem.W.Frag}{H:Hp}{c lo:Int}{n:Nat}{P:Addr->Prop}:j1 K (Its c lo n) (RL.bI c lo n) P H where
 go:=fun H' i k hi=>by rw[ju]at hi;exact hi
 stop:=fun H' k=>by rw[ju];exact Nat.le_refl _
 yld:=fun H' i d x H2 k e y=>by
  obtain⟨z,y⟩:=y
  subst z
  refine⟨a5.refl _,fun _=>?_⟩
  rw[nH c n lo i d e,y]
  exact aY
section rules
variable{X:Cx}{cl:RL.Cl}{M:List Nat}{st:Stmt}{i:Nat}{e':RL.E}
theorem yf{o:RL.Bop}{f:Int->Int->Int}(hf:∀ a b,RL.aB o (.int a) (.int b)=some (.int (f a b)))(h:PS X st (CB i (tE X.K cl e') (ipI f)))(hi:M.contains i=false):SS X cl M st (.aug i o e'):=by
 refine PS.weak h fun D σ H h=>?_
 obtain⟨σD,ou,σD',rv,e,k⟩:=h
 rw[RL.evS]at e
 obtain⟨x,e1,e⟩:=bind_some e
 obtain⟨y,e2,e⟩:=bind_some e
 cases x with
 |int a=>
  cases y with
  |int b=>
   dsimp only at e
   rw[hf]at e
   cases e
   obtain⟨v,h1,h2⟩:=rv.val i _ (slot_get e1)
   rw[if_neg (by rw[hi];decide)]at h2
   refine⟨v,h1,σD,.int b,rv.rv0,e2,fun u H1 r1=>⟨a,b,ah h2,ah r1.rep,?_⟩⟩
   exact k _ _ ((rv.same r1.same).bind hi aY) (Fr'.bind hi r1.same)
  | _=>cases e
 | _=>cases e
end rules
noncomputable def oE(p:Addr)(a b c:Int):HO:=.ext fun h=>∃ t u v,IsRange h p a b c t u v
theorem qI(a b c:Int):0<=Builtin.Range.rangeSize a b c:=by
 unfold Builtin.Range.rangeSize
 split
 ·split
  ·have:=Int.ediv_nonneg (a:=b-a-1) (b:=c) (by lia) (by lia)
   omega
  ·lia
 ·split
  ·by_cases h0:c=0
   ·subst h0
    simp
   ·have:=Int.ediv_nonneg (a:=a-b-1) (b:=-c) (by lia) (by lia)
    omega
  ·lia
theorem Ag(a b c:Int):Builtin.Range.rangeSize a b c<=(if a<b then b-a else a-b)+1:=by
 unfold Builtin.Range.rangeSize
 split
 ·split
  ·have:=Int.ediv_le_self (a:=b-a-1) c (by lia)
   lia
  ·lia
 ·split
  ·have:=Int.ediv_le_self (a:=a-b-1) (-c) (by lia)
   split<;>omega
  ·split<;>lia
theorem kg(a b c:Int):(RL.bo c a b:Int)=Builtin.Range.rangeSize a b c:=Int.toNat_of_nonneg (qI a b c)
theorem jR{a b c:Int}(ha:-(2 ^ 60)<=a)(ha':a<2 ^ 60)(hb:-(2 ^ 60)<=b)(hb':b<2 ^ 60)(hc:-(2 ^ 60)<=c)(hc':c<2 ^ 60):Builtin.Range.small a b c=true:=by
 have h1:=qI a b c
 have h2:=Ag a b c
 unfold Builtin.Range.small
 simp only[Builtin.Range.rangeFitsLong,Bool.and_eq_true,Bool.or_eq_true,decide_eq_true_eq,beq_iff_eq]
 refine⟨⟨⟨⟨?_,?_⟩,?_⟩,?_⟩,.inr ?_⟩
 ·lia
 ·lia
 ·lia
 ·split at h2<;>lia
 ·split<;>(rw[Bool.and_eq_true,decide_eq_true_eq,decide_eq_true_eq];lia)
section
variable{X:Cx}{cl:RL.Cl}{tg a b l:Expr}{a' b' e':RL.E}{pos p q:Pos}
noncomputable def rJ(xs:List V)(a b c:Int):Prop:=(xs=[.int b]/\a=0/\c=1)\/(xs=[.int a,.int b]/\c=1)\/(xs=[.int a,.int b,.int c]/\c≠0/\c.natAbs<2 ^ 60)
theorem my{a b c:Int}{t u v:Tok}{tk:Nat}(I:Inv X pins σ H s):Inv X pins σ (upd H s.heap.objs.size (oE s.heap.objs.size a b c)) { s with heap:=s.heap.push { cls:=.type "range",data:=.fields #[.int a t,.int b u,.int c v] },toks:=tk } :=
 I.laid (fun b u e=>Heap.get?_push_of_some _ e) (Nat.le_refl _) ⟨⟨t,u,v,IsRange.new _ a b c t u v⟩,⟨_,Heap.get?_push_size _ rfl⟩,fun h1 h2 ⟨t,u,v,e⟩ k=>⟨t,u,v,k _ e⟩⟩
theorem jP:bJ X (.type "range") (fun xs H Q=>∃ a b c,rJ xs a b c/\∀ p,H p=none->Q (.ref p) (upd H p (oE p a b c))):=by
 intro pins s σ H xs us Q I r h
 obtain⟨a,b,c,ha,q⟩:=h
 have hf:H s.heap.objs.size=none:=I.hok.fresh (Nat.le_refl _)
 rcases ha with⟨rfl,rfl,rfl⟩ | ⟨rfl,rfl⟩ | ⟨rfl,hc,hc2⟩
 ·cases r with
  |cons r rr=>
   cases rr
   obtain⟨t,rfl⟩:=r
   exact call_range_1 ⟨.ref _,_,my I,rfl,q _ hf⟩
 ·cases r with
  |cons r rr=>
   cases rr with
   |cons r2 rr=>
    cases rr
    obtain⟨t,rfl⟩:=r
    obtain⟨t2,rfl⟩:=r2
    exact call_range_2 ⟨.ref _,_,my I,rfl,q _ hf⟩
 ·cases r with
  |cons r rr=>
   cases rr with
   |cons r2 rr=>
    cases rr with
    |cons r3 rr=>
     cases rr
     obtain⟨t,rfl⟩:=r
     obtain⟨t2,rfl⟩:=r2
     obtain⟨t3,rfl⟩:=r3
     refine call_range_3 hc ⟨.ref _,_,my I,rfl,q _ hf⟩ (.inl (PyProof.noPylong_of_log2 ?_))
     have:c.natAbs.log2<60:=(Nat.log2_lt (by lia)).mpr hc2
     lia
noncomputable def dD(a c:Int)(n:Nat):List V:=(List.range n).map fun(i:Nat)=>V.int (a+(i:Int)*c)
theorem gh(hc:X.calm=true):bJ X (.type "list") (fun xs H Q=>∃ p a b c,xs=[.ref p]/\H p=some (oE p a b c)/\Builtin.Range.small a b c=true/\RL.bo c a b<=RL.most /\
  ∀ l,H l=none->Q (.ref l) (upd H l (.lst (dD a c (RL.bo c a b))))):=by
 intro pins s σ H xs us Q I r h
 obtain⟨p,a,b,c,rfl,hp,hs,hn,q⟩:=h
 cases r with
 |cons r rr=>
  cases rr
  cases r
  obtain⟨⟨t,u,v,hR⟩,_,_⟩:=I.hok p _ hp
  refine call_list_range (I.ok.hd hc) hR hs (kg a b c).symm (Nat.le_trans hn (by decide)) fun h' tk acc c' hk hS hI=>?_
  have hf:H s.heap.objs.size=none:=I.hok.fresh (Nat.le_refl _)
  refine⟨.ref s.heap.objs.size,upd H s.heap.objs.size (.lst (dD a c (RL.bo c a b))),I.laid hk (Nat.le_refl _) (show _/\_ from⟨?_,acc.toList,c',?_,?_⟩),rfl,q _ hf⟩
  ·simp only[dD,List.length_map,List.length_range]
   exact Nat.le_trans hn cw
  ·have len:(dD a c (RL.bo c a b)).length=acc.toList.length:=by
    simp only[dD,List.length_map,List.length_range,Array.length_toList,hI.1]
   have gen:∀ (xs:List V) (us:List Value),xs.length=us.length->(∀ (i:Nat) u,us[i]?=some u->∃ x,xs[i]?=some x/\RelV x u)->Vals xs us:=by
    intro xs
    induction xs with
    | nil=>intro us h _;cases us with
     | nil=>exact .nil
     | cons _ _=>cases h
    | cons x r ih=>intro us h g;cases us with
     | nil=>cases h
     |cons u us=>
      obtain⟨x',e1,e2⟩:=g 0 u rfl
      cases e1
      exact .cons e2 (ih us (by simpa using h) fun i u hu=>by
       obtain⟨y,e3,e4⟩:=g (i+1) u (by simpa using hu)
       exact⟨y,by simpa using e3,e4⟩)
   refine gen _ _ len fun i u hu=>?_
   have hu':acc[i]?=some u:=by simpa using hu
   obtain⟨tk,rfl⟩:=hI.2 i u hu'
   have hi:i<RL.bo c a b:=by
    have:=(Array.getElem?_eq_some_iff.mp hu').1
    rw[hI.1]at this
    exact this
   exact⟨.int (a+(i:Int)*c),by simp[dD,hi],tk,rfl⟩
  ·rw[Array.toArray_toList]
   exact hS
theorem pB{P:Addr->Prop}{K:PySem.W.Frag}{H:Hp}:∀ (n:Nat) (a c:Int),ab P K H (RL.bI c a n) (dD a c n)
 | 0,a,c=>ab.nil
 | n+1,a,c=>by
  have e:dD a c (n+1)=V.int a::dD (a+c) c n:=by
   simp only[dD,List.range_succ_eq_map,List.map_cons,List.map_map]
   congr 1
   ·simp
   ·apply List.map_congr_left
    intro i _
    show V.int (a+((i+1:Nat):Int)*c)=V.int (a+c+(i:Int)*c)
    congr 1
    rw[show((i+1:Nat):Int)=(i:Int)+1 by lia,Int.add_mul]
    lia
  rw[RL.bI,e]
  exact ab.cons aY (pB n (a+c) c)
theorem mC:∀ (n:Nat) (a:Int),RL.cH a n=RL.bI 1 a n
 | 0,_=>rfl
 | n+1,a=>by rw[RL.cH,RL.bI,mC n]
theorem gB(a b:Int):RL.bo 1 a b=(b-a).toNat:=by
 have h:=kg a b 1
 rw[rangeSize_one]at h
 split at h<;>lia
theorem sH{σD:RL.St}{σ:L2.St}{H H1:Hp}{e:RL.E}{Q:VK}{vs:List V}{a b c:Int}{ds:List RL.D}(hv:rJ vs a b c)(hd:ds=RL.bI c a (RL.bo c a b))(hn:RL.bo c a b<=RL.most)(hs:Builtin.Range.small a b c=true)(sm:a5 H H1)
 (hav:∀ M,RL.avE M e=false)(k:∀ v H',Res X.K σD σ H e (.lst ds) v H'->Q v H') :
  ∃ a b c,rJ vs a b c/\∀ p,H1 p=none->(fun xs H Q=>∃ p a b c,xs=[V.ref p]/\H p=some (oE p a b c)/\Builtin.Range.small a b c=true/\RL.bo c a b<=RL.most/\∀ l,H l=none->Q (.ref l) (upd H l (.lst (dD a c (RL.bo c a b))))) [.ref p] (upd H1 p (oE p a b c)) Q:=by
 refine⟨a,b,c,hv,fun p hp=>⟨p,a,b,c,rfl,bC,hs,hn,fun l hl=>k _ _ ?_⟩⟩
 subst hd
 exact dJ (sm.trans (a5.bS hp)) hl (pB _ _ _) hav
theorem Be(hc:X.calm=true)(hgl:Gl X "list")(hml:X.mg "list" = none)(hg:Gl X "range")(hm:X.mg "range" = none)(ha:SE X cl a a')(hn:noStar a=true){p2 pos2:Pos}:SE X cl (.Call (.Name "list" p2) [.Call (.Name "range" p) [a] [] pos] [] pos2) (.rng1 a'):=by
 refine PE.weak (cE (gh hc) hgl hml (by decide +kernel) (bY (cE jP hg hm boot_range (bH (cl:=cl) ha cD hn) (by decide) (by decide) (aA [] hn) rfl) dW) (by decide) (by decide) rfl rfl) fun σ H Q h=>?_
 obtain⟨σD,d,rv,e,k⟩:=h
 rw[RL.ev]at e
 obtain⟨x,ea,e⟩:=bind_some e
 obtain⟨ds,e1,e2⟩:=map_some e
 subst e2
 obtain⟨i,j,e3,rfl,hb,hm2,rfl⟩:=nU e1
 cases e3
 have hb2:-(2 ^ 60)<=j/\j<2 ^ 60:=by
  simp only[RL.dA]at e1
  split at e1
  ·lia
  ·cases e1
 refine one rv ea fun v H1 s1 r1=>?_
 exact sH (a:=0) (b:=j) (c:=1) (.inl ⟨by rw[ah r1],rfl,rfl⟩) (by rw[mC,gB]) (by rw[gB];exact hm2) (jR (by decide) (by decide) hb2.1 hb2.2 (by decide) (by decide)) s1 (fun _=>rfl) k
theorem BV(hc:X.calm=true)(hgl:Gl X "list")(hml:X.mg "list" = none)(hg:Gl X "range")(hm:X.mg "range" = none)(ha:SE X cl a a')(hb:SE X cl b b')(hn:noStar a=true)(hn2:noStar b=true){p2 pos2:Pos}:SE X cl (.Call (.Name "list" p2) [.Call (.Name "range" p) [a,b] [] pos] [] pos2) (.rng2 a' b'):=by
 refine PE.weak (cE (gh hc) hgl hml (by decide +kernel) (bY (cE jP hg hm boot_range (bH (cl:=cl) ha (bH hb cD hn2) hn) (by decide) (by decide) (aA _ hn) (e8 (by simp[hn2]))) dW) (by decide) (by decide) rfl rfl) fun σ H Q h=>?_
 obtain⟨σD,d,rv,e,k⟩:=h
 rw[RL.ev]at e
 obtain⟨x,ea,e⟩:=bind_some e
 obtain⟨y,eb,e⟩:=bind_some e
 obtain⟨ds,e1,e2⟩:=map_some e
 subst e2
 obtain⟨i,j,rfl,rfl,hb,hm2,rfl⟩:=nU e1
 have hb2:(-(2 ^ 60)<=i/\i<2 ^ 60)/\-(2 ^ 60)<=j/\j<2 ^ 60:=by
  simp only[RL.dA]at e1
  split at e1
  ·lia
  ·cases e1
 refine pair rv ea eb fun v u H1 s1 r1 r2=>?_
 exact sH (a:=i) (b:=j) (c:=1) (.inr (.inl ⟨by rw[ah r1,ah r2],rfl⟩)) (by rw[mC,gB]) (by rw[gB];exact hm2) (jR hb2.1.1 hb2.1.2 hb2.2.1 hb2.2.2 (by decide) (by decide)) s1 (fun _=>rfl) k
noncomputable def jw(c:Int):Expr->Bool
 | .Constant (.int i) _ _=>i == c
 | .UnaryOp .USub (.Constant (.int i) _ _) _=>-i == c
 | _=>false
theorem lL{c:Int}{e:Expr}(h:jw c e=true):PE X e (tC (.int c))/\noStar e=true:=by
 unfold jw at h
 split at h
 ·rw[beq_iff_eq]at h
  subst h
  exact⟨sP,rfl⟩
 ·rw[beq_iff_eq]at h
  subst h
  exact⟨PE.weak (AM vZ sP) fun σ H Q q=>⟨_,rfl,q⟩,rfl⟩
 ·cases h
theorem tO{c:Int}{x y:RL.D}{ds:List RL.D}(h:RL.fQ c x y=some ds):∃ i j:Int,x=.int i/\y=.int j/\c≠0/\c.natAbs<2 ^ 60/\Builtin.Range.small i j c=true/\RL.bo c i j<=RL.most/\ds=RL.bI c i (RL.bo c i j):=by
 cases x<;>cases y<;>simp only[RL.fQ]at h<;>first
  | (cases h;done)
  | (split at h
     ·rename_i i j hc
      cases h
      exact⟨i,j,rfl,rfl,hc.1,by omega,jR hc.2.2.2.2.1 hc.2.2.2.2.2.1 hc.2.2.2.2.2.2.1 hc.2.2.2.2.2.2.2 (by omega) hc.2.2.1,hc.2.2.2.1,rfl⟩
     ·cases h)
theorem tN{c:Int}{e3:Expr}(ha:SE X cl a a')(hb:SE X cl b b')(hn:noStar a=true)(hn2:noStar b=true)(h3:jw c e3=true):PA X [a,b,e3] (fun σ H R=>tE X.K cl a' σ H fun v H1=>tE X.K cl b' σ H1 fun u H2=>R [v,u,.int c] H2) :=
 bY ha (bY hb (bY (lL h3).1 dW (aA [] (lL (X:=X) h3).2)) (aA _ hn2)) (aA _ hn)
theorem BG{c:Int}{e3:Expr}(hc:X.calm=true)(hgl:Gl X "list")(hml:X.mg "list" = none)(hg:Gl X "range")(hm:X.mg "range" = none)(ha:SE X cl a a')(hb:SE X cl b b')(hn:noStar a=true)(hn2:noStar b=true)(h3:jw c e3=true){p2 pos2:Pos} :
  SE X cl (.Call (.Name "list" p2) [.Call (.Name "range" p) [a,b,e3] [] pos] [] pos2) (.rng3 c a' b'):=by
 refine PE.weak (cE (gh hc) hgl hml (by decide +kernel) (bY (cE jP hg hm boot_range (tN (cl:=cl) ha hb hn hn2 h3) (by decide) (by decide) (aA _ hn) (e8 (by simp[hn2,(lL (X:=X) h3).2]))) dW) (by decide) (by decide) rfl rfl) fun σ H Q h=>?_
 obtain⟨σD,d,rv,e,k⟩:=h
 rw[RL.ev]at e
 obtain⟨x,ea,e⟩:=bind_some e
 obtain⟨y,eb,e⟩:=bind_some e
 obtain⟨ds,e1,e2⟩:=map_some e
 subst e2
 obtain⟨i,j,rfl,rfl,h0,h1,h2,h3,rfl⟩:=tO e1
 refine two rv ea eb fun v u H1 H2 s1 s2 rx ry _ _=>?_
 exact sH (a:=i) (b:=j) (c:=c) (.inr (.inr ⟨by rw[ah rx,ah ry],h0,h1⟩)) rfl h3 h2 (s1.trans s2) (fun _=>rfl) k
theorem AV{c:Int}{e3:Expr}(hg:Gl X "range")(hm:X.mg "range" = none)(ha:SE X cl a a')(hb:SE X cl b b')(hn:noStar a=true)(hn2:noStar b=true)(h3:jw c e3=true) :
  SI X cl tg (.Call (.Name "range" p) [a,b,e3] [] pos) (.rng3 c a' b'):=by
 intro pins s σ H R I h
 obtain⟨σD,ds,rv,e,k⟩:=h
 rw[RL.bb]at e
 obtain⟨x,ea,e⟩:=bind_some e
 obtain⟨y,eb,e⟩:=bind_some e
 obtain⟨i,j,rfl,rfl,h0,h1,hs,hl,rfl⟩:=tO e
 refine thn (cE jP hg hm boot_range (tN (cl:=cl) ha hb hn hn2 h3) (by decide) (by decide) (aA _ hn) (e8 (by simp[hn2,(lL (X:=X) h3).2])) pins s σ H (fun x H2=>∃ p,x=.ref p/\H2 p=some (oE p i j c)/\a5 H H2) I ?_) ?_
 ·exact two rv ea eb fun v u H1 H2 s1 s2 rx ry _ _=>⟨i,j,c,.inr (.inr ⟨by rw[ah rx,ah ry],h0,h1⟩),fun p hp=>⟨p,rfl,bC,(s1.trans s2).trans (a5.bS hp)⟩⟩
 ·rintro v s1 ⟨x,H1,I1,r1,q,rfl,hq,sm⟩
  cases r1
  obtain⟨⟨t,u,v,hR⟩,_,_⟩:=I1.hok q _ hq
  refine wpAny_pyIter_range hR hs ⟨s1.heap.objs.size,[s1.heap.objs.size],_,Its c i (RL.bo c i j),H1,rfl,I1.kept (t':=s1.toks) fun b o e=>Heap.get?_push_of_some _ e,xa _ c i _,?_,fun b hb=>?_,k _ _ sm ⟨tM,fun _ _ _ _ _=>tM⟩⟩
  ·have e1:i+((0:Nat):Int)*c=i:=by simp
   have e2:((RL.bo c i j:Nat):Int)-((0:Nat):Int)=Builtin.Range.rangeSize i j c:=by rw[kg];simp
   show IsRangeIter _ _ (i+((0:Nat):Int)*c) (((RL.bo c i j:Nat):Int)-((0:Nat):Int)) c
   rw[e1,e2]
   exact Heap.get?_push_size _ rfl
  ·rw[show b=s1.heap.objs.size by simpa using hb]
   exact I1.nY (Nat.le_refl _) (I1.hok.fresh (Nat.le_refl _))
theorem Bl(hl:SE X cl l e'):SI X cl tg l (.seq e'):=by
 refine PI.weak (CK (cl:=cl) hl trivial) fun σ H R h=>?_
 obtain⟨σD,ds,rv,e,k⟩:=h
 rw[RL.bb]at e
 obtain⟨d,e1,e2⟩:=bind_some e
 exact⟨σD,d,ds,rv,e1,e2,k⟩
theorem Dv(ha:SE X cl a a'):SE X cl (.UnaryOp .USub a pos) (.neg a'):=by
 refine PE.weak (AM vZ ha) fun σ H Q h=>?_
 obtain⟨σD,d,rv,e,k⟩:=h
 rw[RL.ev]at e
 obtain⟨x,ea,e⟩:=bind_some e
 cases x with
 | int i=>cases e;exact⟨σD,_,rv,ea,fun v H1 r1=>⟨i,ah r1.rep,k _ _ (cP r1.same aY rfl)⟩⟩
 | _=>cases e
end
noncomputable def mAt(mp:List Nat)(vs:List V):Addr->Prop:=fun a=>∃ p,p∈mp/\vs[p]?=some (.ref a)
structure Eg(K:PySem.W.Frag)(mp:List Nat)(ds:List RL.D)(vs:List V)(H:Hp):Prop where
 jZ:ab nP K H ds vs
 own:∀ p∈mp,∃ d a,ds[p]?=some d/\vs[p]?=some (.ref a)/\Own K H d (.ref a)
 sep:∀ p∈mp,∀ q∈mp,∀ a,vs[p]?=some (.ref a)->vs[q]?=some (.ref a)->p=q
 oth:∀ (q:Nat) d v,q∉mp->ds[q]?=some d->vs[q]?=some v->Rep (mAt mp vs) K H d v
structure HK(K:PySem.W.Frag)(mp:List Nat)(outs:List RL.D)(vs:List V)(H:Hp):Prop where
 len:outs.length=mp.length
 own:∀ (k p:Nat) o,mp[k]?=some p->outs[k]?=some o->∃ a,vs[p]?=some (.ref a)/\Own K H o (.ref a)
noncomputable def spM(K:PySem.W.Frag)(cl:RL.Cl)(mp:List Nat)(f:Nat):Sp:=fun vs H Q _=>∃ ds d outs,cl f ds=some (.tup (d::outs))/\Eg K mp ds vs H/\∀ v H',Off (mAt mp vs) H H'->Rep nP K H' d v->d.imm=true->HK K mp outs vs H'->Q v H'
noncomputable def rS(K:PySem.W.Frag)(cl:RL.Cl):RL.E->TE
 | .var j=>jM j
 | e=>tE K cl e
noncomputable def jK(K:PySem.W.Frag)(cl:RL.Cl):RL.Es->TA
 | .nil=>vw
 | .cons e es=>mO (rS K cl e) (jK K cl es)
noncomputable def cM(K:PySem.W.Frag)(M:List Nat)(σ:L2.St)(ps:List Nat)(H:Hp):Nat->RL.Es->List RL.D->List V->Prop
 | _,.nil,[],[]=>True
 | q,.cons e es,d::ds,v::vs=>Rep nP K H d v/\(if ps.contains q=true then ∃ j,e=.var j/\σ[j]?=some (some v)else Rep (bD M σ) K H d v)/\cM K M σ ps H (q+1) es ds vs
 | _,_,_,_=>False
section
variable{K:PySem.W.Frag}{M:List Nat}{cl:RL.Cl}{σD:RL.St}{σ:L2.St}{H H1:Hp}
theorem wQ{j:Nat}{d:RL.D}(e:RL.ev cl σD (.var j)=some d):σD[j]?=some (some d):=by
 rw[RL.ev]at e
 exact slot_get e
theorem Fv(rv:RVm K M σD σ H)(r1:Res K σD σ H e' d v H1)(ok:RL.aQ M e' d=true):Rep (bD M σ) K H1 d v:=by
 unfold RL.aQ at ok
 rw[Bool.or_eq_true,Bool.or_eq_true,Bool.and_eq_true]at ok
 rcases ok with(q | ⟨q1,q2⟩) | q
 ·exact r1.rep.imm q
 ·have rp:=r1.rep
  have fr:me d=true->∀ a,v=.ref a->¬ bD M σ a:=fun m a z p=>rv.rz a p (r1.fresh q2 m a z)
  cases d with
  | lst ds=>obtain⟨a,xs,e1,e0,e2,e3⟩:=aD rp;rw[Rep];exact⟨a,xs,e1,fr rfl a e1,e2,e3.imm q1⟩
  | dK ks ds=>rw[Rep]at rp ⊢;obtain⟨a,xs,e1,e0,e2,el,e3⟩:=rp;exact⟨a,xs,e1,fr rfl a e1,e2,el,e3.imm q1⟩
  | dT ks ds=>rw[Rep]at rp ⊢;obtain⟨a,xs,e1,e0,e2,el,e3⟩:=rp;exact⟨a,xs,e1,fr rfl a e1,e2,el,e3.imm q1⟩
  | _=>cases q1
 ·refine r1.av M q _ rv.rz fun j dj vj hj h1 h2=>?_
  obtain⟨v',h3,h4⟩:=rv.val j dj h1
  rw[h2]at h3
  cases h3
  rw[if_neg (by rw[hj];decide)]at h4
  exact h4
theorem Bu{e:RL.E}{d:RL.D}{ps:List Nat}{q:Nat}{R:V->Hp->Prop}(rv:RVm K M σD σ H)(he:RL.ev cl σD e=some d)(ok:(if ps.contains q=true then RL.isVar e else RL.aQ M e d)=true)
 (k:∀ v H1,a5 H H1->Rep nP K H1 d v->(if ps.contains q=true then ∃ j,e=.var j/\σ[j]?=some (some v)else Rep (bD M σ) K H1 d v)->R v H1):rS K cl e σ H R:=by
 have other:rS K cl e=tE K cl e->ps.contains q=false->rS K cl e σ H R:=fun z hq=>by
  rw[z]
  rw[if_neg (by rw[hq];decide)]at ok
  refine⟨σD,d,rv.rv0,he,fun v H1 r1=>k v H1 r1.same r1.rep ?_⟩
  rw[if_neg (by rw[hq];decide)]
  exact Fv rv r1 ok
 cases e with
 |var j=>
  have hj:=wQ he
  obtain⟨v,h1,h2⟩:=rv.val j d hj
  refine⟨v,h1,k v H (a5.refl H) ?_ ?_⟩
  ·obtain⟨v',h3,h4⟩:=rv.rv0.2 j d hj
   rw[h1]at h3
   cases h3
   exact h4
  ·by_cases hq:ps.contains q=true
   ·rw[if_pos hq]
    exact⟨j,rfl,h1⟩
   ·rw[if_neg hq]at ok ⊢
    by_cases hm:M.contains j=true
    ·rw[if_pos hm]at h2
     have im:d.imm=true:=by
      unfold RL.aQ at ok
      rw[Bool.or_eq_true,Bool.or_eq_true,Bool.and_eq_true]at ok
      rcases ok with(z | ⟨_,z⟩) | z
      ·exact z
      ·cases z
      ·rw[RL.avE,hm]at z
       cases z
     exact h2.2.2.imm im
    ·rw[if_neg hm]at h2
     exact h2
 |_=>
  refine other rfl ?_
  cases hq:ps.contains q with
  | false=>rfl
  |true=>
   rw[if_pos hq]at ok
   cases ok
theorem qY{ps:List Nat}:∀ {es:RL.Es} {q:Nat} {ds:List RL.D} {H:Hp} {R:List V->Hp->Prop},RVm K M σD σ H->RL.evs cl σD es=some ds->RL.dP M ps q es ds=true ->
  (∀ vs H1,a5 H H1->cM K M σ ps H1 q es ds vs->R vs H1)->jK K cl es σ H R
 | .nil,q,ds,H,R,rv,he,ok,k=>by
  rw[RL.evs]at he
  cases he
  exact k [] H (a5.refl H) (by rw[cM];trivial)
 | .cons e es,q,ds,H,R,rv,he,ok,k=>by
  rw[RL.evs]at he
  obtain⟨d,e1,he⟩:=bind_some he
  obtain⟨ds',e2,e3⟩:=map_some he
  subst e3
  rw[RL.dP,Bool.and_eq_true]at ok
  refine Bu rv e1 ok.1 fun v H1 s1 r1 x1=>?_
  refine qY (rv.same s1) e2 ok.2 fun vs H2 s2 r2=>k (v::vs) H2 (s1.trans s2) ?_
  rw[cM]
  refine⟨r1.same s2,?_,r2⟩
  by_cases hq:ps.contains q=true
  ·rw[if_pos hq]at x1 ⊢
   exact x1
  ·rw[if_neg hq]at x1 ⊢
   exact x1.same s2
noncomputable def lh:RL.Es->Nat->Option RL.E
 | .nil,_=>none
 | .cons e _,0=>some e
 | .cons _ es,n+1=>lh es n
theorem cM.jZ{ps:List Nat}:∀ {q:Nat} {es:RL.Es} {ds:List RL.D} {vs:List V},cM K M σ ps H q es ds vs->ab nP K H ds vs
 | _,.nil,[],[],h=>ab.nil
 | q,.cons e es,d::ds,v::vs,h=>by
  rw[cM]at h
  exact ab.cons h.1 (cM.jZ h.2.2)
 | _,.nil,_::_,_,h=>by simp[cM]at h
 | _,.nil,[],_::_,h=>by simp[cM]at h
 | _,.cons _ _,[],_,h=>by simp[cM]at h
 | _,.cons _ _,_::_,[],h=>by simp[cM]at h
theorem cM.get{ps:List Nat}:∀ {q:Nat} {es:RL.Es} {ds:List RL.D} {vs:List V} (n:Nat) {d:RL.D} {v:V},cM K M σ ps H q es ds vs->ds[n]?=some d->vs[n]?=some v ->
  Rep nP K H d v/\(if ps.contains (q+n)=true then ∃ j,lh es n=some (.var j)/\σ[j]?=some (some v)else Rep (bD M σ) K H d v)
 | _,.nil,[],[],n,_,_,h,e,_=>by simp at e
 | q,.cons e es,d::ds,v::vs,0,_,_,h,e1,e2=>by
  simp at e1 e2
  subst e1 e2
  rw[cM]at h
  refine⟨h.1,?_⟩
  have h2:=h.2.1
  rw[Nat.add_zero]
  by_cases hq:ps.contains q=true
  ·rw[if_pos hq]at h2 ⊢
   obtain⟨j,z,y⟩:=h2
   subst z
   exact⟨j,rfl,y⟩
  ·rw[if_neg hq]at h2 ⊢
   exact h2
 | q,.cons e es,d::ds,v::vs,n+1,_,_,h,e1,e2=>by
  rw[cM]at h
  have:=cM.get n h.2.2 (by simpa using e1) (by simpa using e2)
  rw[show q+1+n=q+(n+1) by lia]at this
  exact this
 | _,.nil,_::_,_,_,_,_,h,_,_=>by simp[cM]at h
 | _,.nil,[],_::_,_,_,_,h,_,_=>by simp[cM]at h
 | _,.cons _ _,[],_,_,_,_,h,_,_=>by simp[cM]at h
 | _,.cons _ _,_::_,[],_,_,_,h,_,_=>by simp[cM]at h
theorem Own.off{P:Addr->Prop}{d:RL.D}{a:Addr}(h:Own K H d (.ref a))(hm:∀ b o,P b->H b=some o->cR o)(k:Off P H H1)(n:¬ P a):Own K H1 d (.ref a):=by
 obtain⟨q1,q2,q3⟩:=h
 refine⟨q1,q2,?_⟩
 have im:∀ {ds:List RL.D} {xs:List V},RL.aq ds=true->ab nP K H ds xs->ab nP K H1 ds xs:=fun hi r=>((r.imm hi).off hm k).imm hi
 cases d with
 | lst ds=>obtain⟨b',xs,e1,e0,e2,e3⟩:=aD q3;cases e1;rw[Rep];exact⟨a,xs,rfl,fun z=>z,k _ _ n e2,im q2 e3⟩
 | dK ks ds=>rw[Rep]at q3 ⊢;obtain⟨b',xs,e1,e0,e2,el,e3⟩:=q3;cases e1;exact⟨a,xs,rfl,fun z=>z,k _ _ n e2,el,im q2 e3⟩
 | dT ks ds=>rw[Rep]at q3 ⊢;obtain⟨b',xs,e1,e0,e2,el,e3⟩:=q3;cases e1;exact⟨a,xs,rfl,fun z=>z,k _ _ n e2,el,im q2 e3⟩
 | _=>cases q1
theorem oN:∀ {ms:List Nat} {outs:List RL.D} {σD:RL.St} {k i:Nat} {o:RL.D},ms.Nodup->ms[k]?=some i->outs[k]?=some o->i<σD.length->(eF ms outs σD)[i]?=some (some o)
 | [],_,_,_,_,_,_,e,_,_=>by simp at e
 | m::ms,[],_,_,_,_,_,_,e,_=>by simp at e
 | m::ms,d::ds,σD,0,i,o,nd,e1,e2,hl=>by
  simp at e1 e2
  subst e1 e2
  rw[eF,lJ _ _ _ _ (by simpa using(List.nodup_cons.mp nd).1),List.getElem?_set_self hl]
 | m::ms,d::ds,σD,k+1,i,o,nd,e1,e2,hl=>by
  rw[eF]
  exact oN (List.nodup_cons.mp nd).2 (by simpa using e1) (by simpa using e2) (by simpa using hl)
theorem RVm.changed{ms:List Nat}{outs:List RL.D}(h:RVm K M σD σ H)(hms:∀ i∈ms,M.contains i=true)(nd:ms.Nodup)(len:ms.length=outs.length)(k:Off (fun a=>∃ i∈ms,σ[i]?=some (some (.ref a))) H H1)
 (ow:∀ (k i:Nat) o,ms[k]?=some i->outs[k]?=some o->∃ a,σ[i]?=some (some (.ref a))/\Own K H1 o (.ref a)):RVm K M (eF ms outs σD) σ H1/\Fr' M σ H σ H1:=by
 have sub:∀ a,(∃ i∈ms,σ[i]?=some (some (.ref a)))->bD M σ a:=fun a ⟨i,hi,e⟩=>⟨i,hms i hi,e⟩
 have offA:Off (bD M σ) H H1:=fun b o n e=>k b o (fun z=>n (sub b z)) e
 have hmA:∀ b o,bD M σ b->H b=some o->cR o:=fun b o p e=>by
  obtain⟨o',e',m⟩:=h.yK b p
  rw[e]at e'
  cases e'
  exact m
 have at_:∀ i,i∈ms->∃ (kk:Nat) (o:RL.D),ms[kk]?=some i/\outs[kk]?=some o:=fun i hi=>by
  obtain⟨kk,hk,e⟩:=List.getElem_of_mem hi
  exact⟨kk,outs[kk]'(by lia),by simp[hk,e],by simp⟩
 refine⟨⟨by rw[mI];exact h.len,fun i d e=>?_,fun i v e=>?_,h.sep⟩,⟨fun b o e n=>⟨offA b o n e,n⟩,fun _ _=>rfl⟩⟩
 ·by_cases hi:i∈ms
  ·obtain⟨kk,o,e1,e2⟩:=at_ i hi
   have hl:i<σD.length:=by
    have:=(List.getElem?_eq_some_iff.mp e).1
    rw[mI]at this
    exact this
   rw[oN nd e1 e2 hl]at e
   cases e
   obtain⟨a,q1,q2⟩:=ow kk i _ e1 e2
   exact⟨.ref a,q1,by rw[if_pos (hms i hi)];exact q2⟩
  ·rw[lJ _ _ _ _ (by simpa using hi)]at e
   obtain⟨v,h1,h2⟩:=h.val i d e
   refine⟨v,h1,?_⟩
   by_cases hm:M.contains i=true
   ·rw[if_pos hm]at h2 ⊢
    obtain⟨a,o,rfl,_,_⟩:=h2.ref
    refine h2.off (fun b o p e=>hmA b o (sub b p) e) k fun⟨j,hj,ej⟩=>?_
    exact hi (h.sep i j a hm (hms j hj) h1 ej▸hj)
   ·rw[if_neg hm]at h2 ⊢
    exact h2.off hmA offA
 ·obtain⟨d,hd⟩:=h.non i v e
  by_cases hi:i∈ms
  ·obtain⟨kk,o,e1,e2⟩:=at_ i hi
   exact⟨o,oN nd e1 e2 (List.getElem?_eq_some_iff.mp hd).1⟩
  ·exact⟨d,by rw[lJ _ _ _ _ (by simpa using hi)];exact hd⟩
end
section rules
variable{X:Cx}{cl:RL.Cl}{M:List Nat}{st:Stmt}{i f:Nat}{es:RL.Es}{ps ms:List Nat}
noncomputable def cz(es:RL.Es):List Nat->List Nat->Bool
 | [],[]=>true
 | p::ps,m::ms=>(match lh es p with | some (.var j)=>j == m | _=>false)&&cz es ps ms
 | _,_=>false
theorem lS:∀ {ps ms:List Nat} {k p:Nat},cz es ps ms=true->ps[k]?=some p->∃ m,ms[k]?=some m/\lh es p=some (.var m)
 | [],_,_,_,_,e=>by simp at e
 | _::_,[],_,_,h,_=>by simp[cz]at h
 | p::ps,m::ms,0,q,h,e=>by
  rw[cz,Bool.and_eq_true]at h
  simp at e
  subst e
  have h1:=h.1
  split at h1
  ·rename_i j hj
   rw[beq_iff_eq]at h1
   subst h1
   exact⟨j,rfl,hj⟩
  ·cases h1
 | p::ps,m::ms,k+1,q,h,e=>by
  rw[cz,Bool.and_eq_true]at h
  obtain⟨m',h1,h2⟩:=lS (k:=k) h.2 (by simpa using e)
  exact⟨m',by simpa using h1,h2⟩
theorem iC:∀ {ps ms:List Nat},cz es ps ms=true->ps.length=ms.length
 | [],[],_=>rfl
 | [],_::_,h=>by simp[cz]at h
 | _::_,[],h=>by simp[cz]at h
 | p::ps,m::ms,h=>by
  rw[cz,Bool.and_eq_true]at h
  rw[List.length_cons,List.length_cons,iC h.2]
theorem yJ{σD:RL.St}{σ:L2.St}{H:Hp}{ds outs:List RL.D}{d:RL.D}{σ1:RL.St}{Q:VK}(rv:RVm X.K M σD σ H)(he:RL.evs cl σD es=some ds)(ok:RL.dP M ps 0 es ds=true)(hc:cl f ds=some (.tup (d::outs)))
 (hs:cz es ps ms=true)(hms:∀ i∈ms,M.contains i=true)(nd:ms.Nodup)(ndp:ps.Nodup)(hset:RL.bA ms outs σD=some σ1)
 (k:∀ v H',Rep nP X.K H' d v->d.imm=true->RVm X.K M σ1 σ H'->Fr' M σ H σ H'->Q v H'):qg (spM X.K cl ps f) [] E0 (jK X.K cl es) σ H Q:=by
 refine qY rv he ok fun vs H1 s1 ar=>?_
 show spM X.K cl ps f (vs++[]) H1 Q E0
 rw[List.append_nil]
 have rv1:=rv.same s1
 have rps:=ar.jZ
 obtain⟨hlen,hσ1⟩:=fZ hset
 subst hσ1
 have adr:∀ (k p:Nat),ps[k]?=some p->∃ m a d',ms[k]?=some m/\σ[m]?=some (some (.ref a))/\vs[p]?=some (.ref a)/\ds[p]?=some d'/\Own X.K H1 d' (.ref a)/\lh es p=some (.var m):=by
  intro k p hk
  obtain⟨m,h1,h2⟩:=lS hs hk
  have evg:∀ (es:RL.Es) (ds:List RL.D) (n:Nat) (e:RL.E),RL.evs cl σD es=some ds->lh es n=some e->∃ d',ds[n]?=some d'/\RL.ev cl σD e=some d':=by
   intro es
   induction es using RL.Es.rec (motive_1:=fun _=>True) (motive_3:=fun _=>True)with
   | nil=>intro ds n e _ z;cases z
   |cons e0 es0 _ ih=>
    intro ds n e h z
    rw[RL.evs]at h
    obtain⟨d0,y1,h⟩:=bind_some h
    obtain⟨ds0,y2,y3⟩:=map_some h
    subst y3
    cases n with
    | zero=>cases z;exact⟨d0,rfl,y1⟩
    | succ n=>exact ih ds0 n e y2 z
   | _=>trivial
  obtain⟨d',g1,g2⟩:=evg es ds p _ he h2
  obtain⟨v,g3,g4⟩:=rps.get g1
  have hpc:ps.contains (0+p)=true:=by
   rw[Nat.zero_add]
   simpa using List.mem_of_getElem? hk
  have g5:=(ar.get p g1 g3).2
  rw[if_pos hpc]at g5
  obtain⟨j,z1,z2⟩:=g5
  rw[h2]at z1
  cases z1
  have hm:M.contains m=true:=hms m (List.mem_of_getElem? h1)
  obtain⟨v',z3,z4⟩:=rv1.val m d' (wQ g2)
  rw[z2]at z3
  cases z3
  rw[if_pos hm]at z4
  obtain⟨a,o,rfl,_,_⟩:=z4.ref
  exact⟨m,a,d',h1,z2,g3,g1,z4,h2⟩
 have adr':∀ a,mAt ps vs a->∃ i∈ms,σ[i]?=some (some (.ref a)):=fun a ⟨p,hp,e⟩=>by
  obtain⟨k,hk,z⟩:=List.getElem_of_mem hp
  obtain⟨m,a',d',h1,h2,h3,_⟩:=adr k p (by simp[hk,z])
  rw[e]at h3
  cases h3
  exact⟨m,List.mem_of_getElem? h1,h2⟩
 refine⟨ds,d,outs,hc,⟨rps,fun p hp=>?_,fun p hp q hq a e1 e2=>?_,fun q dq v hq e1 e2=>?_⟩,fun v H' off rp im mo=>?_⟩
 ·obtain⟨k,hk,z⟩:=List.getElem_of_mem hp
  obtain⟨m,a',d',h1,h2,h3,h4,h5,_⟩:=adr k p (by simp[hk,z])
  exact⟨d',a',h4,h3,h5⟩
 ·obtain⟨k,hk,z⟩:=List.getElem_of_mem hp
  obtain⟨l,hl,y⟩:=List.getElem_of_mem hq
  have gk:ps[k]?=some p:=by simp[hk,z]
  have gl:ps[l]?=some q:=by simp[hl,y]
  obtain⟨m,a1,d1,h1,h2,h3,_⟩:=adr k p gk
  obtain⟨m',a2,d2,h1',h2',h3',_⟩:=adr l q gl
  rw[e1]at h3
  cases h3
  rw[e2]at h3'
  cases h3'
  have hmm:=rv1.sep m m' a (hms m (List.mem_of_getElem? h1)) (hms m' (List.mem_of_getElem? h1')) h2 h2'
  subst hmm
  have hkl:k=l:=(List.getElem?_inj (by rw[<-iC hs];exact hk) nd).mp (by rw[h1,h1'])
  subst hkl
  rw[gk]at gl
  exact Option.some.inj gl
 ·have hpc:ps.contains (0+q)=false:=by
   rw[Nat.zero_add]
   simpa using hq
  have g5:=(ar.get q e1 e2).2
  rw[if_neg (by rw[hpc];decide)]at g5
  exact g5.weak fun a ha=>by
   obtain⟨i,hi,e⟩:=adr' a ha
   exact⟨i,hms i hi,e⟩
 ·obtain⟨g1,g2⟩:=rv1.changed (outs:=outs) (H1:=H') hms nd hlen (fun b o n e=>off b o (fun z=>n (adr' b z)) e) fun k i o hk ho=>by
   have hkl:k<ps.length:=by
    rw[iC hs]
    exact(List.getElem?_eq_some_iff.mp hk).1
   obtain⟨m,a1,d1,h1,h2,h3,_⟩:=adr k ps[k] (by simp[hkl])
   rw[hk]at h1
   cases h1
   obtain⟨a,q1,q2⟩:=mo.own k ps[k] o (by simp[hkl]) ho
   rw[q1]at h3
   cases h3
   exact⟨_,h2,q2⟩
  exact k v H' rp im g1 ((Fr'.same s1).trans g2)
theorem Co(h:PS X st (qc (qg (spM X.K cl ps f) [] E0 (jK X.K cl es))))(hs:cz es ps ms=true)(hms:∀ i∈ms,M.contains i=true)(nd:ms.Nodup)(ndp:ps.Nodup):SS X cl M st (.mexc f es ps ms):=by
 refine PS.weak h fun D σ H h=>?_
 obtain⟨σD,o,σD',rv,e,k⟩:=h
 rw[RL.evS]at e
 obtain⟨ds,e1,e⟩:=bind_some e
 split at e
 ·rename_i ok
  obtain⟨r,e2,e⟩:=bind_some e
  split at e
  ·rename_i d outs
   obtain⟨σ1,e3,e4⟩:=map_some e
   cases e4
   exact yJ rv e1 ok e2 hs hms nd ndp e3 fun v H' _ _ rv' fr'=>k _ _ rv' fr'
  ·cases e
 ·cases e
end rules
end RS
namespace L2
open PySem PySem.Spec PyProof.Rows
section
variable{prog:Program}{w:World}{A:Around}{E:Value->Shared->Prop}
theorem tq{α:Type}{Q:α->Shared->Prop}{z:Shared}(hh:A.handled=none)(k:∀ g e,(∀ b o,z.heap.get? b=some o->g.get? b=some o)->(∃ o,g.get? e=some o/\o.cls=.type "StopIteration")->E (.ref e) { z with heap:=g }) :
  wpAny (model prog w) A (Builtin.SmallTypes.stopIteration:Sem α) Q E z:=by
 obtain⟨hp,g,d,tk,os⟩:=z
 unfold Builtin.SmallTypes.stopIteration
 simp only[newExc,newTuple,raiseNew]
 wp_walk
 exact k _ _ (fun b o e=>Heap.get?_push_of_some _ (Heap.get?_push_of_some _ e)) ⟨_,Heap.get?_push_size _ rfl,rfl⟩
theorem An{z:Shared}{x:Value}{Q:Value->Shared->Prop}(hi:z.heap.IsTupleIter ti tp i)(ht:z.heap.IsTuple tp its)(hx:its[i]?=some x)
 (k:∀ g,g.IsTupleIter ti tp (i+1)->Heap.SameBut ti z.heap g->Q x { z with heap:=g }):wpAny (model prog w) A (Builtin.SmallTypes.nextOf (.ref ti)) Q E z:=by
 have hty:=hi.typeIs
 obtain⟨⟨c1,d1,f1,s1⟩,g1,c1',f1'⟩:=hi
 obtain⟨⟨c2,d2,f2,s2⟩,g2,c2',n2,f2'⟩:=ht
 dsimp only at c1' f1' c2' f2'
 subst c1' f1' c2' f2'
 obtain⟨hp,g,d,tk,os⟩:=z
 unfold Builtin.SmallTypes.nextOf
 refine wpAny_bind (wpAny_callSpecial?_slot (name:=Str.ofString "__next__") hty F.slot_tuple_iterator_next (wpAny_call_entry F.slot_tuple_iterator_next hty F.entry_tuple_iterator_next ?_ (F.args_tuple_iterator_next_1 _)))
 unfold Builtin.«tuple_iterator.__next__»
 wp_walk using AutoSeq1.wpAny_loadPart' g1,AutoSeq1.wpAny_loadPart' g2
 have e:its[((i:Nat):Int).toNat]?=some x:=hx
 rw[e]
 dsimp only
 apply wpAny_bind
 apply wpAny_setField g1 rfl (by simp)
 apply wpAny_pure
 refine⟨x,rfl,?_⟩
 apply wpAny_pure
 apply k
 ·exact⟨_,Heap.get?_update_self _ g1 rfl,rfl,by simp[Obj.mapFields,rawInt]⟩
 ·exact Heap.SameBut.update ..
theorem Cs{z:Shared}{Q:Value->Shared->Prop}(hh:A.handled=none)(hi:z.heap.IsTupleIter ti tp i)(ht:z.heap.IsTuple tp its)(hx:its[i]?=none)
 (k:∀ g e,Heap.ExtBut ti z.heap g->(∃ o,g.get? e=some o/\o.cls=.type "StopIteration")->E (.ref e) { z with heap:=g }):wpAny (model prog w) A (Builtin.SmallTypes.nextOf (.ref ti)) Q E z:=by
 have hty:=hi.typeIs
 obtain⟨⟨c1,d1,f1,s1⟩,g1,c1',f1'⟩:=hi
 obtain⟨⟨c2,d2,f2,s2⟩,g2,c2',n2,f2'⟩:=ht
 dsimp only at c1' f1' c2' f2'
 subst c1' f1' c2' f2'
 obtain⟨hp,g,d,tk,os⟩:=z
 unfold Builtin.SmallTypes.nextOf
 refine wpAny_bind (wpAny_callSpecial?_slot (name:=Str.ofString "__next__") hty F.slot_tuple_iterator_next (wpAny_call_entry F.slot_tuple_iterator_next hty F.entry_tuple_iterator_next ?_ (F.args_tuple_iterator_next_1 _)))
 unfold Builtin.«tuple_iterator.__next__»
 wp_walk using AutoSeq1.wpAny_loadPart' g1,AutoSeq1.wpAny_loadPart' g2
 have e:its[((i:Nat):Int).toNat]?=none:=hx
 rw[e]
 dsimp only
 apply wpAny_bind
 apply wpAny_rule
 apply wpAny_bind
 apply wpAny_setField g1 rfl (by simp)
 refine tq hh fun g e kp hc=>k g e (fun b o hb q=>kp b o ?_) hc
 exact(Heap.SameBut.update ..).extBut b o hb q
theorem qh{α:Type}{m:Sem α}{S Q:α->Shared->Prop}{E:Value->Shared->Prop}{z:Shared}(h:wpAny (model prog w) A m S (fun _ _=>False) z)(k:∀ a z1,S a z1->Q a z1):wpAny (model prog w) A m Q E z:=wpAny_mono h k fun _ _ f=>f.elim
theorem wt{b:Bool}{Q:Bool->Shared->Prop}{E:Value->Shared->Prop}{z:Shared}(h:∀ b,Q b z):wpAny (model prog w) A (pure b) Q E z:=wpAny_pure (h b)
theorem zy{x:Value}{S:Addr->Shared->Prop}{z:Shared}{Q:Value->Shared->Prop}(hx:∀ A:Around,wpAny (model prog w) A (pyIter x) (fun v z1=>∃ it,v=.ref it/\S it z1) (fun _ _=>False) z)
 (k:∀ it z1,S it z1->Q (.ref z1.heap.objs.size) { z1 with heap:=z1.heap.push { cls:=.type "enumerate",data:=.fields #[.none,.bool false,.ref it,rawInt 0,.none,.none] } }):wpAny (model prog w) A (call (.type "enumerate") [x]) Q E z:=by
 have body:MeetsIn prog w (Builtin.«enumerate.__new__» ⟨[.type "enumerate",x],[]⟩) (fun A R s=>s=z/\∀ it z1,S it z1->R (.ok (.ret (.ref z1.heap.objs.size))) { z1 with heap:=z1.heap.push { cls:=.type "enumerate",data:=.fields #[.none,.bool false,.ref it,rawInt 0,.none,.none] } }):=by
  rintro A R s ⟨rfl,hR⟩
  have hsub:=sub_enumerate
  have iter:=hx A.in1
  obtain⟨hp,g,d,tk,os⟩:=s
  wp_walk
  refine wpAny_stack_any fun st=>wt fun b=>?_
  have done:∀ it z1,S it z1->wpAny (model prog w) A.in1 (do let r <- Builtin.SmallTypes.newRecord (.type "enumerate") (Builtin.SmallTypes.ownedTupleFields++[.ref it,rawInt 0,.none,.none]);ret r)
    (fun fin s'=>match fin with | .done f=>R (.ok f) s' | .again c'=>c'.quiet=true/\codeAny (model prog w) A c' R s') (fun e s'=>R (.error e) s') z1:=by
   intro it z1 h1
   have:=hR it z1 h1
   obtain⟨hp1,gg1,dd1,tk1,os1⟩:=z1
   wp_walk
   exact this
  cases b
  ·wp_walk using qh iter
   rintro _ z1 ⟨it,rfl,h1⟩
   exact done it z1 h1
  ·wp_walk using qh iter
   rintro _ z1 ⟨it,rfl,h1⟩
   exact done it z1 h1
 refine callType_newIn F.called_enumerate (by decide) (F.typeCall_enumerate_1 _) (F.newCall_enumerate_1 _) (fun obj=>F.args_object_init_2 obj _) F.entry_enumerate_new body ⟨rfl,fun it z1 h=>?_⟩
 exact⟨⟨_,Heap.get?_push_size _ rfl,rfl⟩,k it z1 h⟩
theorem qO:kO prog w where
 draws:=fun hh ti tp hne its=>{
  live:=fun i h st=>let ⟨o,e,_⟩:=st.1;⟨o,e⟩
  frame:=fun i h h' st kp=>by
   obtain⟨⟨o1,e1,r1⟩,⟨o2,e2,r2⟩⟩:=st
   exact⟨⟨o1,kp ti (by simp) _ e1,r1⟩,⟨o2,kp tp (by simp) _ e2,r2⟩⟩
  item:=fun i s Q E hi st k=>by
   refine An st.1 st.2 (x:=its[i]) (by simp[hi]) fun g h1 h2=>k its[i] g s.toks (by simp[hi]) ⟨h1,st.2.extBut h2.extBut hne⟩ h2
  done:=fun s Q E st k=>Cs hh st.1 st.2 (by simp) fun g e h1 h2=>k g e h1 h2 }
 call:=fun {A E z tp its Q} ht k=>by
  refine zy (S:=fun it z1=>it=z.heap.objs.size/\z1={ z with heap:=z.heap.push { cls:=.type "tuple_iterator",data:=.fields #[.ref tp,rawInt 0] } }) (fun A=>wpAny_pyIter_tuple ht ⟨_,rfl,rfl,rfl⟩) ?_
  rintro it z1 ⟨rfl,rfl⟩
  have hz:(z.heap.push { cls:=.type "tuple_iterator",data:=.fields #[.ref tp,rawInt 0] }).objs.size=z.heap.objs.size+1:=Heap.size_push ..
  dsimp only
  rw[hz]
  refine k _ ?_ ⟨_,Heap.get?_push_of_some _ (Heap.get?_push_size _ rfl),rfl,rfl⟩ fun b o e=>Heap.get?_push_of_some _ (Heap.get?_push_of_some _ e)
  have:=Heap.get?_push_size (z.heap.push { cls:=.type "tuple_iterator",data:=.fields #[.ref tp,rawInt 0] }) (o:={ cls:=.type "enumerate",data:=.fields #[.none,.bool false,.ref z.heap.objs.size,rawInt 0,.none,.none] }) rfl
  rw[hz]at this
  exact this
end
end L2
namespace RS
open PySem PySem.Spec PyProof.Rows L2
section
variable{X:Cx}{cl:RL.Cl}{a b:Expr}{a' b':RL.E}{pos p p2 pos2:Pos}{M:List Nat}
theorem oz:∀ {bs:List Bool} {us:List Value},Vals (bs.map V.bl) us->us=bs.map Value.bool
 | [],_,h=>by cases h;rfl
 | b::bs,_,h=>by
  cases h with
  |cons r t=>
   cases r
   rw[oz t]
   rfl
theorem qu{A:Around}{bs:List Bool}:TruthOf X.prog X.w A (fun i v=>(bs.map Value.bool).toArray[i]?=some v) (fun i=>bs.getD i false):=by
 intro i v s Q E hP q
 have hP':(bs.map Value.bool)[i]?=some v:=by simpa using hP
 rw[List.getElem?_map]at hP'
 obtain⟨b,h1,h2⟩:=map_some hP'
 subst h2
 have:bs.getD i false=b:=by rw[List.getD_eq_getElem?_getD,h1];rfl
 have q':Q b s:=this▸q
 exact wpAny_truthy_bool q'
theorem range_all(bs:List Bool):(List.range bs.length).all (fun i=>bs.getD i false)=bs.all id:=by
 have:bs=(List.range bs.length).map fun i=>bs.getD i false:=by
  apply List.ext_getElem
  ·simp
  ·intro i h1 h2
   simp[List.getD_eq_getElem?_getD,h1]
 conv=>rhs;rw[this]
 rw[List.all_map]
 rfl
theorem range_any(bs:List Bool):(List.range bs.length).any (fun i=>bs.getD i false)=bs.any id:=by
 have:bs=(List.range bs.length).map fun i=>bs.getD i false:=by
  apply List.ext_getElem
  ·simp
  ·intro i h1 h2
   simp[List.getD_eq_getElem?_getD,h1]
 conv=>rhs;rw[this]
 rw[List.any_map]
 rfl
noncomputable def xY(f:List Bool->Bool):List V->Hp->VK->Prop:=fun xs H Q=>∃ p bs,xs=[.ref p]/\H p=some (.lst (bs.map V.bl))/\Q (.bl (f bs)) H
theorem zE(hc:X.calm=true):bJ X (.builtin "all") (xY fun bs=>bs.all id):=by
 intro pins s σ H xs us Q I r h
 obtain⟨p,bs,rfl,hp,q⟩:=h
 cases r with
 |cons r rr=>
  cases rr
  cases r
  obtain⟨its,rv,hl,hz⟩:=I.list (SqL.of hp)
  have hits:=oz rv
  subst hits
  have hlt:p<s.heap.objs.size:=by obtain⟨o,ho,_⟩:=hl.isList;exact Heap.lt_size ho
  refine call_all_walk (wpAny_pyIter_list hl.isList ?_)
  refine⟨s.heap.objs.size,_,[s.heap.objs.size],_,_,_,_,rfl,Walks.list (A:=X.A.in1) (I.ok.hd hc) s.heap.objs.size p (Nat.ne_of_lt hlt) (bs.map Value.bool).toArray,⟨⟨_,Heap.get?_push_size _ rfl,rfl,rfl⟩,hl.isList.push _⟩,qu,fun h' tk hk=>?_⟩
  refine⟨.bl (bs.all id),H,I.kept (t':=tk) (fun b o e=>hk b o (fun z=>?_) (Heap.get?_push_of_some _ e)),?_,q⟩
  ·rw[List.mem_singleton.mp z]at e
   exact absurd (Heap.lt_size e) (Nat.lt_irrefl _)
  ·have:=range_all bs
   show Value.bool _=Value.bool _
   rw[<-this]
   simp
theorem yn(hc:X.calm=true):bJ X (.builtin "any") (xY fun bs=>bs.any id):=by
 intro pins s σ H xs us Q I r h
 obtain⟨p,bs,rfl,hp,q⟩:=h
 cases r with
 |cons r rr=>
  cases rr
  cases r
  obtain⟨its,rv,hl,hz⟩:=I.list (SqL.of hp)
  have hits:=oz rv
  subst hits
  have hlt:p<s.heap.objs.size:=by obtain⟨o,ho,_⟩:=hl.isList;exact Heap.lt_size ho
  refine call_any_walk (wpAny_pyIter_list hl.isList ?_)
  refine⟨s.heap.objs.size,_,[s.heap.objs.size],_,_,_,_,rfl,Walks.list (A:=X.A.in1) (I.ok.hd hc) s.heap.objs.size p (Nat.ne_of_lt hlt) (bs.map Value.bool).toArray,⟨⟨_,Heap.get?_push_size _ rfl,rfl,rfl⟩,hl.isList.push _⟩,qu,fun h' tk hk=>?_⟩
  refine⟨.bl (bs.any id),H,I.kept (t':=tk) (fun b o e=>hk b o (fun z=>?_) (Heap.get?_push_of_some _ e)),?_,q⟩
  ·rw[List.mem_singleton.mp z]at e
   exact absurd (Heap.lt_size e) (Nat.lt_irrefl _)
  ·have:=range_any bs
   show Value.bool _=Value.bool _
   rw[<-this]
   simp
theorem mF{P:Addr->Prop}{K:PySem.W.Frag}{H:Hp}:∀ {ds:List RL.D} {bs:List Bool} {xs:List V},RL.cG ds=some bs->ab P K H ds xs->xs=bs.map V.bl
 | [],bs,xs,h,r=>by rw[RL.cG]at h;cases h;rw[ab]at r;exact r
 | d::ds,bs,xs,h,r=>by
  cases d<;>simp only[RL.cG]at h<;>first | (cases h;done) | skip
  rename_i b
  obtain⟨bs',h1,h2⟩:=map_some h
  subst h2
  rw[ab]at r
  obtain⟨x,t,rfl,r1,r2⟩:=r
  rw[bf r1,mF h1 r2]
  rfl
theorem F6(hc:X.calm=true)(hg:Gl X "all")(hm:X.mg "all" = none)(ha:SE X cl a a')(hn:noStar a=true):SE X cl (.Call (.Name "all" p) [a] [] pos) (.bi .all a'):=by
 refine iw (zE hc) hg hm (by decide +kernel) ha hn (by decide) (by decide) fun σD σ H H1 y d v Q e s1 r1 k=>?_
 cases y<;>simp only[RL.biV]at e<;>first | (cases e;done) | skip
 case lst ds =>
  obtain⟨bs,e1,e2⟩:=map_some e
  subst e2
  obtain⟨q,xs,rfl,_,f2,f3⟩:=aD r1
  rw[mF e1 f3]at f2
  exact⟨q,bs,rfl,f2,k _ _ (cP s1 nR rfl)⟩
theorem Dc(hc:X.calm=true)(hg:Gl X "any")(hm:X.mg "any" = none)(ha:SE X cl a a')(hn:noStar a=true):SE X cl (.Call (.Name "any" p) [a] [] pos) (.bi .any a'):=by
 refine iw (yn hc) hg hm (by decide +kernel) ha hn (by decide) (by decide) fun σD σ H H1 y d v Q e s1 r1 k=>?_
 cases y<;>simp only[RL.biV]at e<;>first | (cases e;done) | skip
 case lst ds =>
  obtain⟨bs,e1,e2⟩:=map_some e
  subst e2
  obtain⟨q,xs,rfl,_,f2,f3⟩:=aD r1
  rw[mF e1 f3]at f2
  exact⟨q,bs,rfl,f2,k _ _ (cP s1 nR rfl)⟩
theorem Cb{elts:List Expr}{kx:Nat}{tp:Pos}(hg:Gl X "enumerate")(hm:X.mg "enumerate" = none)(ha:SE X cl a a')(hn:noStar a=true):SI X cl (.Tuple elts kx tp) (.Call (.Name "enumerate" p) [a] [] pos) (.enm a'):=EJ qO hg hm ha hn
theorem lE{P:Addr->Prop}{K:PySem.W.Frag}{H:Hp}:∀ {ds:List RL.D} {is:List Int} {xs:List V},RL.c8 ds=some is->ab P K H ds xs->xs=is.map V.int
 | [],is,xs,h,r=>by rw[RL.c8]at h;cases h;rw[ab]at r;exact r
 | d::ds,is,xs,h,r=>by
  cases d<;>simp only[RL.c8]at h<;>first | (cases h;done) | skip
  rename_i b
  obtain⟨bs',h1,h2⟩:=map_some h
  subst h2
  rw[ab]at r
  obtain⟨x,t,rfl,r1,r2⟩:=r
  rw[ah r1,lE h1 r2]
  rfl
noncomputable def oK(ns:List Int):List Int:=firstMet (fun i=>ns.getD i 0) ns.length
theorem Bo(ns:List Int):oK ns=RL.iS ns:=by
 unfold oK firstMet RL.iS
 have:(List.range ns.length).map (fun i=>ns.getD i 0)=ns:=by
  apply List.ext_getElem
  ·simp
  ·intro i h1 h2
   simp[List.getD_eq_getElem?_getD,h2]
 rw[this]
 rfl
theorem x8(hc:X.calm=true):bJ X (.type "set") (fun xs H Q=>∃ p ns,xs=[.ref p]/\H p=some (.lst (ns.map V.int))/\ns.length<=1000/\∀ l,H l=none->Q (.ref l) (upd H l (.set (fun k=>(oK ns).any (· == k)) (oK ns).length))):=by
 intro pins s σ H xs us Q I r h
 obtain⟨p,ns,rfl,hp,hn,q⟩:=h
 cases r with
 |cons r rr=>
  cases rr
  cases r
  obtain⟨its,rv,hl,hz⟩:=I.list (SqL.of hp)
  have hlen:its.length=ns.length:=by
   have:=rv.length
   simp at this
   exact this.symm
  have hf:H s.heap.objs.size=none:=I.hok.fresh (Nat.le_refl _)
  refine call_set_list (I.ok.hd hc) hl.isList (ns:=ns) (by simpa using intsAre_of rv) (by rw[List.size_toArray,hlen];show ns.length+1<4096;lia) fun h' tk hS hk=>?_
  have hsz:its.toArray.size=ns.length:=by rw[List.size_toArray];exact hlen
  rw[hsz]at hS
  exact⟨.ref s.heap.objs.size,_,I.laid (o:=.set (fun k=>(oK ns).any (· == k)) (oK ns).length) (t':=tk) (fun b u e=>hk b u (Heap.lt_size e) e) (Nat.le_refl _) hS,rfl,q _ hf⟩
theorem vR:bJ X (.builtin "len") (fun xs H Q=>∃ p S n,xs=[.ref p]/\H p=some (.set S n)/\Q (.int (n:Nat)) H):=by
 intro pins s σ H xs us Q I r h
 obtain⟨p,S,n,rfl,hp,q⟩:=h
 cases r with
 |cons r rr=>
  cases rr
  cases r
  obtain⟨o,es,ep,t,h1,h2,h3,h4,h5,h6,h7,h8⟩:=I.hok p _ hp
  refine call_len_set h1 h2 h3 h7 (by have:scanBound=4096:=rfl;lia) ?_
  rw[h8]
  exact⟨.int n,H,I.tok _,⟨_,rfl⟩,q⟩
theorem wG(hc:X.calm=true)(hgl:Gl X "len")(hml:X.mg "len" = none)(hg:Gl X "set")(hm:X.mg "set" = none)(ha:SE X cl a a')(hn:noStar a=true):SE X cl (.Call (.Name "len" p2) [.Call (.Name "set" p) [a] [] pos] [] pos2) (.bi .lenSet a'):=by
 refine PE.weak (jz vR hgl hml PySem.boot_len (bY (cE (x8 hc) hg hm (by decide +kernel) (bH (cl:=cl) ha cD hn) (by decide) (by decide) (aA [] hn) rfl) dW) (by decide) (by decide) rfl rfl) fun σ H Q h=>?_
 obtain⟨σD,d,rv,e,k⟩:=h
 rw[RL.ev]at e
 obtain⟨y,ea,e⟩:=bind_some e
 refine one rv ea fun v H1 s1 r1=>?_
 cases y<;>simp only[RL.biV]at e<;>first | (cases e;done) | skip
 case lst ds =>
  split at e
  ·rename_i hl
   obtain⟨is,e1,e2⟩:=map_some e
   subst e2
   obtain⟨q,xs,rfl,_,f2,f3⟩:=aD r1
   have hx:=lE e1 f3
   rw[hx]at f2
   have hil:is.length<=1000:=by
    have:=f3.length
    rw[hx]at this
    simp at this
    lia
   refine⟨q,is,rfl,f2,hil,fun l hl2=>⟨l,_,_,rfl,bC,?_⟩⟩
   rw[Bo]
   exact k _ _ (cP (s1.trans (a5.bS hl2)) aY rfl)
  ·cases e
theorem Er{l e:Expr}{i:Nat}(hl:PE X l (zU X.K "list" Ae (jM i)))(he:SE X cl e e')(ha:SSs X cl M A A')(hb:SSs X cl M B B')(hi:M.contains i=true):SS X cl M (.If (.Compare l [.NotEq] [e] pos) A B pos2) (.ifp i e' A' B'):=by
 refine PS.weak (A7 (l9 GJ hl he (sJ _)) ha hb) fun D σ H h=>?_
 obtain⟨σD,o,σD',rv,ev,k⟩:=h
 rw[RL.evS]at ev
 obtain⟨l,e3,ev⟩:=bind_some ev
 cases l with
 |lst ds=>
  obtain⟨d,e4,ev⟩:=bind_some ev
  obtain⟨y,e5,ev⟩:=bind_some ev
  obtain⟨v,h1,h2⟩:=rv.val i _ (slot_get e3)
  rw[if_pos hi]at h2
  obtain⟨q1,q2,q3⟩:=h2
  obtain⟨a,xs,rfl,_,f2,f3⟩:=aD q3
  obtain⟨u,f4,f5⟩:=f3.get e4
  have im:=oW q2
  obtain⟨g1,g2⟩:=rv.iK (d':=.lst ds.dropLast) (o':=.lst xs.dropLast) hi h1 f2 (.inl ⟨_,rfl⟩) (nX (ds:=ds) f2 im f3.dropLast)
  cases d with
  |int m=>
   cases y with
   |int n=>
    refine⟨.ref a,h1,.inl ⟨rfl,xs,SqL.of f2⟩,a,xs,u,rfl,rfl,f2,by rw[<-f3.length];exact f4,?_⟩
    refine⟨_,_,g1.rv0,e5,fun w H1 r1=>?_⟩
    rw[ah f5,ah r1.rep]
    have k1:=k.from (g2.trans (Fr'.same (σ:=σ) r1.same))
    refine⟨rfl,_,rfl,?_⟩
    dsimp only at ev
    by_cases hmn:m=n
    ·rw[if_pos (by simpa using hmn)]at ev
     have hd:(!decide (V.int m=V.int n))=false:=by rw[hmn];simp
     rw[hd]
     exact eX ⟨_,o,σD',g1.same r1.same,ev,k1⟩
    ·rw[if_neg (by simpa using hmn)]at ev
     have hd:(!decide (V.int m=V.int n))=true:=by
      have:V.int m≠V.int n:=fun z=>hmn (by injection z)
      simp[this]
     rw[hd]
     exact eD ⟨_,o,σD',g1.same r1.same,ev,k1⟩
   | _=>cases ev
  | _=>cases ev
 | _=>cases ev
end
end RS
namespace L2
open PySem PySem.Spec PyProof.Rows
section
variable{prog:Program}{w:World}{A:Around}{E:Value->Shared->Prop}
theorem BB{x y:Value}{S1:Addr->Shared->Prop}{S2:Addr->Addr->Shared->Prop}{z:Shared}{Q:Value->Shared->Prop}(hx:∀ A:Around,wpAny (model prog w) A (pyIter x) (fun v z1=>∃ it,v=.ref it/\S1 it z1) (fun _ _=>False) z)
 (hy:∀ it z1,S1 it z1->∀ A:Around,wpAny (model prog w) A (pyIter y) (fun v z2=>∃ jt,v=.ref jt/\S2 it jt z2) (fun _ _=>False) z1)
 (k:∀ it jt z2,S2 it jt z2->Q (.ref (((z2.heap.push { cls:=.type "tuple",data:=.seq #[.ref it,.ref jt] }).push { cls:=.type "tuple",data:=.seq #[.none,.none] })).objs.size)
   { z2 with heap:=((z2.heap.push { cls:=.type "tuple",data:=.seq #[.ref it,.ref jt] }).push { cls:=.type "tuple",data:=.seq #[.none,.none] }).push { cls:=.type "zip",data:=.fields #[.none,.bool false,.bool false,.ref z2.heap.objs.size,.ref (z2.heap.push { cls:=.type "tuple",data:=.seq #[.ref it,.ref jt] }).objs.size] } }) :
  wpAny (model prog w) A (call (.type "zip") [x,y]) Q E z:=by
 have body:MeetsIn prog w (Builtin.«zip.__new__» ⟨[.type "zip",x,y],[]⟩) (fun A R s=>s=z/\∀ it jt z2,S2 it jt z2->R (.ok (.ret (.ref (((z2.heap.push { cls:=.type "tuple",data:=.seq #[.ref it,.ref jt] }).push { cls:=.type "tuple",data:=.seq #[.none,.none] })).objs.size)))
   { z2 with heap:=((z2.heap.push { cls:=.type "tuple",data:=.seq #[.ref it,.ref jt] }).push { cls:=.type "tuple",data:=.seq #[.none,.none] }).push { cls:=.type "zip",data:=.fields #[.none,.bool false,.bool false,.ref z2.heap.objs.size,.ref (z2.heap.push { cls:=.type "tuple",data:=.seq #[.ref it,.ref jt] }).objs.size] } }):=by
  rintro A R s ⟨rfl,hR⟩
  have hsub:=sub_zip
  have iter:=hx A.in1
  obtain⟨hp,g,d,tk,os⟩:=s
  wp_walk using qh iter
  rintro _ z1 ⟨it,rfl,h1⟩
  have iter2:=hy it z1 h1 A.in1
  obtain⟨hp1,gg1,dd1,tk1,os1⟩:=z1
  wp_walk using qh iter2
  rintro _ z2 ⟨jt,rfl,h2⟩
  have fin:=hR it jt z2 h2
  obtain⟨hp2,gg2,dd2,tk2,os2⟩:=z2
  wp_walk
  exact fin
 refine callType_newIn F.called_zip (by decide) (F.typeCall_zip_2 _ _) (F.newCall_zip_2 _ _) (fun obj=>F.args_object_init_3 obj _ _) F.entry_zip_new body ⟨rfl,fun it jt z2 h=>?_⟩
 exact⟨⟨_,Heap.get?_push_size _ rfl,rfl⟩,k it jt z2 h⟩
structure iP(z TI TO i1 i2:Addr)(fp1 fp2:List Addr):Prop where
 zTI:TI≠z
 zTO:TO≠z
 TT:TI≠TO
 i1z:i1≠z
 i2z:i2≠z
 GO:i1≠TO
 HH:i2≠TO
 i12:i1≠i2
 z1:z∉fp1
 z2:z∉fp2
 TO1:TO∉fp1
 TO2:TO∉fp2
 i1f:i1∉fp2
 i2f:i2∉fp1
theorem yv{z TI TO i1 i2:Addr}{n1 n2 k:Nat}{P1 P2:Nat->Value->Prop}{S1 S2:Nat->Heap->Prop}{a b:Value}{s:Shared}{Q:Value->Shared->Prop}(Z:iP z TI TO i1 i2 fp1 fp2)
 (D1:Draws prog w A i1 fp1 n1 P1 S1)(D2:Draws prog w A i2 fp2 n2 P2 S2)(hz:IsZip s.heap z TI TO .none)(hTI:IsPair s.heap TI (.ref i1) (.ref i2))(hTO:IsPair s.heap TO a b)(s1:S1 k s.heap)(s2:S2 k s.heap)(k1:k<n1)(k2:k<n2)
 (hQ:∀ x y g tk,P1 k x->P2 k y->IsZip g z TI TO (rawInt s.heap.objs.size)->IsPair g TO x y->S1 (k+1) g->S2 (k+1) g->IsPair g s.heap.objs.size x y->g.objs.size=s.heap.objs.size+1->(∀ c o,c≠z->c≠TO->c≠i1->c≠i2->s.heap.get? c=some o->g.get? c=some o)->Q (.ref s.heap.objs.size) { s with heap:=g,toks:=tk }) :
  wpAny (model prog w) A (Builtin.«zip.__next__» ⟨[.ref z],[]⟩) (fun fin s'=>∃ v,fin=.done (.ret v)/\Q v s') E s:=by
 obtain⟨hp,g,d,tk,os⟩:=s
 have off:∀ (f:Obj->Obj) b o,b≠z->hp.get? b=some o->(hp.update z f).get? b=some o:=fun f b o hb e=>(Heap.SameBut.update ..).extBut b o hb e
 have st1:∀ f:Obj->Obj,S1 k (hp.update z f):=fun f=>D1.frame k _ _ s1 fun b hb o e=>off f b o (fun q=>Z.z1 (q▸hb)) e
 have st2:∀ f:Obj->Obj,S2 k (hp.update z f):=fun f=>D2.frame k _ _ s2 fun b hb o e=>off f b o (fun q=>Z.z2 (q▸hb)) e
 unfold Builtin.«zip.__next__»
 wp_walk using AutoSeq1.wpAny_loadPart' hz,AutoSeq1.wpAny_loadPart' hTI,wpAny_onRaise,(D1.item k _ _ _ k1 (st1 _))
 intro x h1 t1 px st1' sb1
 have q1:IsPair h1 TO a b:=sb1.extBut _ _ (Ne.symm Z.GO) (off _ TO _ Z.zTO hTO)
 have z1:IsZip h1 z TI TO .ellipsis:=sb1.extBut _ _ (Ne.symm Z.i1z) (Heap.get?_update_self _ hz rfl)
 have u1:=sb1.1
 have c1:∀ c o,c≠z->c≠i1->hp.get? c=some o->h1.get? c=some o:=fun c o n1 n2 e=>sb1.extBut _ _ n2 (off _ c o n1 e)
 clear sb1 st1 st2
 wp_walk using AutoSeq1.wpAny_loadPart' q1,(wpAny_updateSeq_pair q1)
 intro h2 q2 sb2
 replace q2:IsPair h2 TO x b:=q2
 have z2:IsZip h2 z TI TO .ellipsis:=sb2.extBut _ _ (Ne.symm Z.zTO) z1
 have c2:∀ c o,c≠z->c≠TO->c≠i1->hp.get? c=some o->h2.get? c=some o:=fun c o n1 n2 n3 e=>sb2.extBut _ _ n2 (c1 c o n1 n3 e)
 have e1:S1 (k+1) h2:=D1.frame _ _ _ st1' fun b hb o e=>sb2.extBut _ _ (fun q=>Z.TO1 (q▸hb)) e
 have e2:S2 k h2:=D2.frame _ _ _ s2 fun b hb o e=>c2 b o (fun q=>Z.z2 (q▸hb)) (fun q=>Z.TO2 (q▸hb)) (fun q=>Z.i1f (q▸hb)) e
 have u2:=sb2.1.trans u1
 clear sb2 u1 c1 z1 q1
 wp_walk using wpAny_onRaise,(D2.item k _ _ _ k2 e2)
 intro y h3 t3 py f2 sb3
 have q3:IsPair h3 TO x b:=sb3.extBut _ _ (Ne.symm Z.HH) q2
 have z3:IsZip h3 z TI TO .ellipsis:=sb3.extBut _ _ (Ne.symm Z.i2z) z2
 have f1:S1 (k+1) h3:=D1.frame _ _ _ e1 fun b hb o e=>sb3.extBut _ _ (fun q=>Z.i2f (q▸hb)) e
 have c3:∀ c o,c≠z->c≠TO->c≠i1->c≠i2->hp.get? c=some o->h3.get? c=some o:=fun c o n1 n2 n3 n4 e=>sb3.extBut _ _ n4 (c2 c o n1 n2 n3 e)
 have u3:=sb3.1.trans u2
 clear sb3 u2 c2 z2 q2 e1 e2
 wp_walk using AutoSeq1.wpAny_loadPart' q3,(wpAny_updateSeq_pair q3)
 intro h4 q4 sb4
 replace q4:IsPair h4 TO x y:=q4
 have z4:IsZip h4 z TI TO .ellipsis:=sb4.extBut _ _ (Ne.symm Z.zTO) z3
 have g1:S1 (k+1) h4:=D1.frame _ _ _ f1 fun b hb o e=>sb4.extBut _ _ (fun q=>Z.TO1 (q▸hb)) e
 have g2:S2 (k+1) h4:=D2.frame _ _ _ f2 fun b hb o e=>sb4.extBut _ _ (fun q=>Z.TO2 (q▸hb)) e
 have c4:∀ c o,c≠z->c≠TO->c≠i1->c≠i2->hp.get? c=some o->h4.get? c=some o:=fun c o n1 n2 n3 n4 e=>sb4.extBut _ _ n2 (c3 c o n1 n2 n3 n4 e)
 have u4:=sb4.1.trans u3
 clear sb4 u3 c3 z3 q3 f1 f2
 wp_walk using AutoSeq1.wpAny_loadPart' q4
 have u0:h4.objs.size=hp.objs.size:=u4.trans (Heap.SameBut.update ..).1
 refine⟨_,rfl,?_⟩
 show Q (.ref h4.objs.size) _
 have zp:IsZip (h4.push { cls:=.type "tuple",data:=.seq #[x,y].toList.toArray }) z TI TO .ellipsis:=Heap.get?_push_of_some _ z4
 have zlt:z<h4.objs.size:=Heap.lt_size z4
 have up:∀ (f f':Obj->Obj) c o,c≠z->(h4.push { cls:=.type "tuple",data:=.seq #[x,y].toList.toArray }).get? c=some o->(((h4.push { cls:=.type "tuple",data:=.seq #[x,y].toList.toArray }).update z f).update z f').get? c=some o:=fun f f' c o hc e =>
  (Heap.SameBut.update ..).extBut c o hc ((Heap.SameBut.update ..).extBut c o hc e)
 have goal:=hQ x y (((h4.push { cls:=.type "tuple",data:=.seq #[x,y].toList.toArray }).update z (Obj.mapFields (·.setIfInBounds 0 (rawInt h4.objs.size)))).update z (Obj.mapFields (·.setIfInBounds 1 (.bool false)))) t3 px py ?_ ?_ ?_ ?_ ?_ ?_ ?_
 ·rw[u0]at goal ⊢
  exact goal
 ·rw[<-u0]
  exact Heap.get?_update_self _ (Heap.get?_update_self _ zp rfl) rfl
 ·exact up _ _ _ _ Z.zTO (Heap.get?_push_of_some _ q4)
 ·exact D1.frame _ _ _ g1 fun b hb o e=>up _ _ _ _ (fun q=>Z.z1 (q▸hb)) (Heap.get?_push_of_some _ e)
 ·exact D2.frame _ _ _ g2 fun b hb o e=>up _ _ _ _ (fun q=>Z.z2 (q▸hb)) (Heap.get?_push_of_some _ e)
 ·show IsPair _ hp.objs.size x y
  rw[<-u0]
  exact up _ _ _ _ (Nat.ne_of_gt zlt) (Heap.get?_push_size _ rfl)
 ·refine((Heap.SameBut.update ..).1.trans ((Heap.SameBut.update ..).1.trans ((Heap.size_push ..).trans ?_)))
  show h4.objs.size+1=hp.objs.size+1
  rw[u0]
 ·exact fun c o n1 n2 n3 n4 e=>up _ _ _ _ n1 (Heap.get?_push_of_some _ (c4 c o n1 n2 n3 n4 e))
theorem B8{z TI TO i1 i2:Addr}{n1:Nat}{P1:Nat->Value->Prop}{S1:Nat->Heap->Prop}{a b:Value}{s:Shared}{Q:Fin->Shared->Prop}(Z:iP z TI TO i1 i2 fp1 fp2)
 (D1:Draws prog w A i1 fp1 n1 P1 S1)(hz:IsZip s.heap z TI TO .none)(hTI:IsPair s.heap TI (.ref i1) (.ref i2))(hTO:IsPair s.heap TO a b)(s1:S1 n1 s.heap)
 (hE:∀ g e,(∀ c o,c≠z->c≠i1->s.heap.get? c=some o->g.get? c=some o)->(∃ o,g.get? e=some o/\o.cls=.type "StopIteration")->E (.ref e) { s with heap:=g }) :
  wpAny (model prog w) A (Builtin.«zip.__next__» ⟨[.ref z],[]⟩) Q E s:=by
 obtain⟨hp,g,d,tk,os⟩:=s
 have off:∀ (f:Obj->Obj) b o,b≠z->hp.get? b=some o->(hp.update z f).get? b=some o:=fun f b o hb e=>(Heap.SameBut.update ..).extBut b o hb e
 have st1:∀ f:Obj->Obj,S1 n1 (hp.update z f):=fun f=>D1.frame n1 _ _ s1 fun b hb o e=>off f b o (fun q=>Z.z1 (q▸hb)) e
 unfold Builtin.«zip.__next__»
 wp_walk using AutoSeq1.wpAny_loadPart' hz,AutoSeq1.wpAny_loadPart' hTI,wpAny_onRaise,(D1.done _ _ _ (st1 _))
 rintro h1 e eb ⟨oe,he,hce⟩
 have z1:IsZip h1 z TI TO .ellipsis:=eb _ _ (Ne.symm Z.i1z) (Heap.get?_update_self _ hz rfl)
 have ez:e≠z:=fun q=>by
  rw[q,z1]at he
  have:=Option.some.inj he
  rw[<-this]at hce
  simp at hce
 refine wpAny_setField_rec z1 (by simp) fun h2 _ sb2=>?_
 exact hE h2 e (fun c o n1 n2 q=>sb2.extBut _ _ n1 (eb _ _ n2 (off _ _ _ n1 q))) ⟨oe,sb2.extBut _ _ ez he,hce⟩
end
section
variable{prog:Program}{w:World}{A:Around}{E:Value->Shared->Prop}{z TI TO i1 i2:Addr}{fp1 fp2:List Addr}{n1 n2 k:Nat}{P1 P2:Nat->Value->Prop}{S1 S2:Nat->Heap->Prop}{a b:Value}{s:Shared}
theorem yE{Q:Option Value->Shared->Prop}(Z:iP z TI TO i1 i2 fp1 fp2)(D1:Draws prog w A.in1 i1 fp1 n1 P1 S1)(D2:Draws prog w A.in1 i2 fp2 n2 P2 S2)(hz:IsZip s.heap z TI TO .none)(hTI:IsPair s.heap TI (.ref i1) (.ref i2))(hTO:IsPair s.heap TO a b)(s1:S1 k s.heap)(s2:S2 k s.heap)(k1:k<n1)(k2:k<n2)
 (hQ:∀ x y g tk,P1 k x->P2 k y->IsZip g z TI TO (rawInt s.heap.objs.size)->IsPair g TO x y->S1 (k+1) g->S2 (k+1) g->IsPair g s.heap.objs.size x y->g.objs.size=s.heap.objs.size+1->(∀ c o,c≠z->c≠TO->c≠i1->c≠i2->s.heap.get? c=some o->g.get? c=some o)->Q (some (.ref s.heap.objs.size)) { s with heap:=g,toks:=tk }) :
  wpAny (model prog w) A (pyNext (.ref z)) Q E s:=by
 have hT:s.TypeIs (.ref z) "zip" := ⟨_,hz,rfl⟩
 unfold pyNext
 apply wpAny_bind
 apply wpAny_attempt
 apply wpAny_callSpecial?_slot (name:=Str.ofString "__next__") hT F.slot_zip_next
 refine wpAny_call_entry F.slot_zip_next hT F.entry_zip_next ?_ (F.args_zip_next_1 _)
 refine yv Z D1 D2 hz hTI hTO s1 s2 k1 k2 fun x y g tk px py q1 q2 q3 q4 q5 q6 q7=>?_
 apply wpAny_pure
 exact hQ x y g tk px py q1 q2 q3 q4 q5 q6 q7
theorem zc{Q:Option Value->Shared->Prop}(Z:iP z TI TO i1 i2 fp1 fp2)(D1:Draws prog w A.in1 i1 fp1 n1 P1 S1)(hz:IsZip s.heap z TI TO .none)(hTI:IsPair s.heap TI (.ref i1) (.ref i2))(hTO:IsPair s.heap TO a b)(s1:S1 n1 s.heap)
 (hQ:∀ g,(∀ c o,c≠z->c≠i1->s.heap.get? c=some o->g.get? c=some o)->Q none { s with heap:=g }):wpAny (model prog w) A (pyNext (.ref z)) Q E s:=by
 have hT:s.TypeIs (.ref z) "zip" := ⟨_,hz,rfl⟩
 unfold pyNext
 apply wpAny_bind
 apply wpAny_attempt
 apply wpAny_callSpecial?_slot (name:=Str.ofString "__next__") hT F.slot_zip_next
 refine wpAny_call_entry F.slot_zip_next hT F.entry_zip_next ?_ (F.args_zip_next_1 _)
 refine B8 Z D1 hz hTI hTO s1 fun g e hk ⟨o,he,hc⟩=>?_
 apply wpAny_bind
 refine wpAny_isInstance (T := "StopIteration") (b:=true) ⟨_,he,hc⟩ isSubtype_stop ?_
 apply wpAny_pure
 exact hQ g hk
end
noncomputable def dN(t:Bool)(xs:List V):HO:=if t then .tup xs else .lst xs
noncomputable def i6(t:Bool)(it l:Addr)(i:Nat)(h:Heap):Prop:=if t then h.IsTupleIter it l i else h.IsListIter it l i
theorem i6.obj{t:Bool}(st:i6 t it l i h):∃ o,h.get? it=some o/\∀ v,o.data≠.cell v:=by
 cases t with
 | true=>exact let ⟨o,ho,_,hd⟩:=(show h.IsTupleIter it l i from st);⟨o,ho,fun v q=>by rw[hd]at q;cases q⟩
 | false=>exact let ⟨o,ho,_,hd⟩:=(show h.IsListIter it l i from st);⟨o,ho,fun v q=>by rw[hd]at q;cases q⟩
theorem i6.keep{t:Bool}{h h':Heap}(st:i6 t it l i h)(k:∀ o,h.get? it=some o->h'.get? it=some o):i6 t it l i h':=by
 cases t with
 | true=>exact let ⟨o,ho,r⟩:=(show h.IsTupleIter it l i from st);⟨o,k o ho,r⟩
 | false=>exact(show h.IsListIter it l i from st).at fun o q=>k o q
theorem kz{X:Cx}{t:Bool}{it l:Addr}(hc:X.calm=true){xs:List V}(I:Inv X pins σ H s)(hi:H it=none)(hx:H l=some (dN t xs)) :
  ∃ (Pv:Nat->Value->Prop) (St:Nat->Heap->Prop),Draws X.prog X.w X.A.in1 it [it,l] xs.length Pv St/\(∀ i,i6 t it l i s.heap->St i s.heap)/\(∀ i h,St i h->i6 t it l i h)/\∀ i v,Pv i v->∃ x,xs[i]?=some x/\RelV x v:=by
 have hh:X.A.in1.handled=none:=I.ok.hd hc
 have back:∀ {its:List Value},Vals xs its->∀ (i:Nat) (v:Value),its.toArray[i]?=some v->∃ x,xs[i]?=some x/\RelV x v:=fun {its} rv i v hv=>by
  have hv:its[i]?=some v:=by simpa using hv
  have hlt:i<xs.length:=by rw[rv.length];exact(List.getElem?_eq_some_iff.mp hv).1
  obtain⟨u,h1,h2⟩:=rv.get (i:=i) (x:=xs[i]) (by simp[hlt])
  rw[hv]at h1
  cases h1
  exact⟨xs[i],by simp[hlt],h2⟩
 cases t with
 |true=>
  have hx:H l=some (.tup xs):=hx
  obtain⟨its,rv,p,hz⟩:=I.tuple (SqT.of hx)
  have D:=qO.draws (prog:=X.prog) (w:=X.w) (A:=X.A.in1) hh it l (aW hx hi) its.toArray
  rw[show its.toArray.size=xs.length by rw[List.size_toArray,rv.length]]at D
  exact⟨_,_,D,fun i st=>⟨st,p⟩,fun i h st=>st.1,back rv⟩
 |false=>
  have hx:H l=some (.lst xs):=hx
  obtain⟨its,rv,p,hz⟩:=I.list (SqL.of hx)
  have D:=Draws.list (prog:=X.prog) (w:=X.w) (A:=X.A.in1) hh it l (aW hx hi) its.toArray
  rw[show its.toArray.size=xs.length by rw[List.size_toArray,rv.length]]at D
  exact⟨_,_,D,fun i st=>⟨st,p.isList⟩,fun i h st=>st.1,back rv⟩
noncomputable def Itz(t1 t2:Bool)(l1 l2:Addr):It :=
 ⟨fun i H=>∃ xs ys x y,H l1=some (dN t1 xs)/\H l2=some (dN t2 ys)/\xs[i]?=some x/\ys[i]?=some y,
   fun i H v H'=>∃ p x y,H p=none/\v=.ref p/\H'=upd H p (.tup [x,y])/\(∀ xs,H l1=some (dN t1 xs)->xs[i]?=some x)/\∀ ys,H l2=some (dN t2 ys)->ys[i]?=some y,
   fun i H=>∃ xs ys,H l1=some (dN t1 xs)/\H l2=some (dN t2 ys)/\xs.length=i/\ys.length=i⟩
theorem qt{t:Bool}{xs ys:List V}(h:dN t xs=dN t ys):xs=ys:=by
 cases t<;>(injection h)
theorem zd{P:Program}{w:World}{K:PySem.W.Frag}{elts:List Expr}{kx:Nat}{tp:Pos}{t1 t2:Bool}{z TI TO i1 i2 l1 l2:Addr}(n1:TI≠z)(n2:TO≠z)(n3:TI≠TO)(n4:i1≠z)(n5:i2≠z)(n6:i1≠TO)(n7:i2≠TO)(n8:i1≠i2)(n9:i1≠TI)(n10:i2≠TI) :
  Turn P w K (.Tuple elts kx tp) (Itz t1 t2 l1 l2) [z,TI,TO,i1,i2] z (fun i h=>IsZip h z TI TO .none/\IsPair h TI (.ref i1) (.ref i2)/\(∃ a b,IsPair h TO a b)/\i6 t1 i1 l1 i h/\i6 t2 i2 l2 i h) where
 mem:=by simp
 obj:=fun i h st b hb=>by
  obtain⟨h1,h2,⟨a,c,h3⟩,h4,h5⟩:=st
  simp only[List.mem_cons,List.mem_nil_iff,or_false]at hb
  rcases hb with rfl | rfl | rfl | rfl | rfl
  ·exact⟨_,h1,fun v q=>by cases q⟩
  ·exact⟨_,h2,fun v q=>by cases q⟩
  ·exact⟨_,h3,fun v q=>by cases q⟩
  ·exact h4.obj
  ·exact h5.obj
 keep:=fun i h h' st k=>by
  obtain⟨h1,h2,⟨a,c,h3⟩,h4,h5⟩:=st
  exact⟨k z (by simp) _ h1,k TI (by simp) _ h2,⟨a,c,k TO (by simp) _ h3⟩,h4.keep fun o q=>k i1 (by simp) o q,h5.keep fun o q=>k i2 (by simp) o q⟩
 item:=by
  intro X hP hw hK hc i pins s σ H E I hf st hg
  subst hP hw hK
  obtain⟨h1,h2,⟨a,c,h3⟩,h4,h5⟩:=st
  obtain⟨xs,ys,x,y,hx,hy,ex,ey⟩:=hg
  have f:∀ b∈[z,TI,TO,i1,i2],H b=none:=fun b hb=>(hf b hb).1
  obtain⟨Pv1,St1,D1,a1,a2,a3⟩:=kz hc I (f i1 (by simp)) hx
  obtain⟨Pv2,St2,D2,b1,b2,b3⟩:=kz hc I (f i2 (by simp)) hy
  have no1:∀ b∈[z,TI,TO,i1,i2],b≠l1:=fun b hb q=>by have:=f b hb;rw[q,hx]at this;cases this
  have no2:∀ b∈[z,TI,TO,i1,i2],b≠l2:=fun b hb q=>by have:=f b hb;rw[q,hy]at this;cases this
  have Z:iP z TI TO i1 i2 [i1,l1] [i2,l2]:=by
   refine⟨n1,n2,n3,n4,n5,n6,n7,n8,?_,?_,?_,?_,?_,?_⟩<;>(simp only[List.mem_cons,List.mem_nil_iff,or_false,not_or])
   ·exact⟨Ne.symm n4,no1 z (by simp)⟩
   ·exact⟨Ne.symm n5,no2 z (by simp)⟩
   ·exact⟨Ne.symm n6,no1 TO (by simp)⟩
   ·exact⟨Ne.symm n7,no2 TO (by simp)⟩
   ·exact⟨n8,no2 i1 (by simp)⟩
   ·exact⟨Ne.symm n8,no1 i2 (by simp)⟩
  refine yE Z D1 D2 h1 h2 h3 (a1 i h4) (b1 i h5) (List.getElem?_eq_some_iff.mp ex).1 (List.getElem?_eq_some_iff.mp ey).1 fun u v g tk pu pv g1 g2 g3 g4 g5 g6 g7=>?_
  obtain⟨x',ex',rx⟩:=a3 i u pu
  obtain⟨y',ey',ry⟩:=b3 i v pv
  rw[ex]at ex'
  rw[ey]at ey'
  cases ex'
  cases ey'
  refine⟨.ref s.heap.objs.size,rfl,wpAny_letOwnedTupleGo_zip g1 fun g' gz' sb=>?_⟩
  have hn:H s.heap.objs.size=none:=I.hok.fresh (Nat.le_refl _)
  have I1:Inv X pins σ (upd H s.heap.objs.size (.tup [x,y])) { s with heap:=s.heap.push { cls:=.type "tuple",data:=.seq #[u,v] },toks:=tk } :=
   I.laid (t':=tk) (fun b o q=>Heap.get?_push_of_some _ q) (Nat.le_refl _) ⟨by show 2<=sizeLine;decide,[u,v],.cons rx (.cons ry .nil),⟨_,Heap.get?_push_size _ rfl,rfl,_,rfl⟩⟩
  have lt:∀ b∈[z,TI,TO,i1,i2],b≠s.heap.objs.size:=fun b hb=>by
   have:∃ o,s.heap.get? b=some o:=by
    simp only[List.mem_cons,List.mem_nil_iff,or_false]at hb
    rcases hb with rfl | rfl | rfl | rfl | rfl
    ·exact⟨_,h1⟩
    ·exact⟨_,h2⟩
    ·exact⟨_,h3⟩
    ·exact let ⟨o,q,_⟩:=h4.obj;⟨o,q⟩
    ·exact let ⟨o,q,_⟩:=h5.obj;⟨o,q⟩
   obtain⟨o,q⟩:=this
   exact Nat.ne_of_lt (Heap.lt_size q)
  have stat:∀ b∈[z,TI,TO,i1,i2],upd H s.heap.objs.size (.tup [x,y]) b=none/\(b∈X.ex\/X.s₀.heap.objs.size<=b)/\b≠X.env.locals/\(∀ x c,X.env.cells.lookup x=some c->c≠b)/\∀ p∈X.pn++pins,p.1≠b:=fun b hb=>by
   obtain⟨f0,f1,f2,f3,f4,f5⟩:=hf b hb
   exact⟨by rw[aV (lt b hb)];exact f0,f3,f1,f4,f5⟩
  have I2:Inv X pins σ (upd H s.heap.objs.size (.tup [x,y])) { s with heap:=g',toks:=tk }:=by
   refine Inv.pb (s:={ s with heap:=s.heap.push { cls:=.type "tuple",data:=.seq #[u,v] },toks:=tk }) (h':=g') (t':=tk) (fp:=[z,TI,TO,i1,i2]) I1 (fun b o hb q=>?_) stat
   simp only[List.mem_cons,List.mem_nil_iff,or_false,not_or]at hb
   refine sb.extBut b o hb.1 ?_
   by_cases hbT:b=s.heap.objs.size
   ·subst hbT
    have q':(s.heap.push { cls:=.type "tuple",data:=.seq #[u,v] }).get? s.heap.objs.size=some o:=q
    rw[Heap.get?_push_size _ rfl]at q'
    cases q'
    exact g5
   ·exact g7 b o hb.1 hb.2.2.1 hb.2.2.2.1 hb.2.2.2.2 ((Heap.get?_push_ne _ _ _ hbT).symm.trans q)
  have kp:∀ b∈[TI,TO,i1,i2],∀ o,g.get? b=some o->g'.get? b=some o:=fun b hb o q=>sb.extBut b o (fun e=>by
   subst e
   simp only[List.mem_cons,List.mem_nil_iff,or_false]at hb
   rcases hb with e | e | e | e
   ·exact n1 e.symm
   ·exact n2 e.symm
   ·exact n4 e.symm
   ·exact n5 e.symm) q
  refine⟨.ref s.heap.objs.size,_,I2,rfl,⟨s.heap.objs.size,x,y,hn,rfl,rfl,fun xs' hx'=>?_,fun ys' hy'=>?_⟩,⟨gz',kp TI (by simp) _ (g7 TI _ n1 n3 (Ne.symm n9) (Ne.symm n10) h2),⟨u,v,kp TO (by simp) _ g2⟩,(a2 _ _ g3).keep fun o q=>kp i1 (by simp) o q,(b2 _ _ g4).keep fun o q=>kp i2 (by simp) o q⟩,fun b hb=>(stat b hb).1⟩
  ·rw[hx]at hx'
   rw[<-qt (Option.some.inj hx')]
   exact ex
  ·rw[hy]at hy'
   rw[<-qt (Option.some.inj hy')]
   exact ey
 done:=by
  intro X hP hw hK hc i pins s σ H E I hf st hg
  subst hP hw hK
  obtain⟨h1,h2,⟨a,c,h3⟩,h4,h5⟩:=st
  obtain⟨xs,ys,hx,hy,ex,ey⟩:=hg
  have f:∀ b∈[z,TI,TO,i1,i2],H b=none:=fun b hb=>(hf b hb).1
  obtain⟨Pv1,St1,D1,a1,a2,a3⟩:=kz hc I (f i1 (by simp)) hx
  have no1:∀ b∈[z,TI,TO,i1,i2],b≠l1:=fun b hb q=>by have:=f b hb;rw[q,hx]at this;cases this
  have no2:∀ b∈[z,TI,TO,i1,i2],b≠l2:=fun b hb q=>by have:=f b hb;rw[q,hy]at this;cases this
  have Z:iP z TI TO i1 i2 [i1,l1] [i2,l2]:=by
   refine⟨n1,n2,n3,n4,n5,n6,n7,n8,?_,?_,?_,?_,?_,?_⟩<;>(simp only[List.mem_cons,List.mem_nil_iff,or_false,not_or])
   ·exact⟨Ne.symm n4,no1 z (by simp)⟩
   ·exact⟨Ne.symm n5,no2 z (by simp)⟩
   ·exact⟨Ne.symm n6,no1 TO (by simp)⟩
   ·exact⟨Ne.symm n7,no2 TO (by simp)⟩
   ·exact⟨n8,no2 i1 (by simp)⟩
   ·exact⟨Ne.symm n8,no1 i2 (by simp)⟩
  subst ex
  refine zc Z D1 h1 h2 h3 (a1 _ h4) fun g hk=>⟨rfl,?_⟩
  refine Inv.pb (h':=g) (t':=s.toks) (fp:=[z,i1]) I (fun b o hb q=>?_) fun b hb=>?_
  ·simp only[List.mem_cons,List.mem_nil_iff,or_false,not_or]at hb
   exact hk b o hb.1 hb.2 q
  ·have hb':b∈[z,TI,TO,i1,i2]:=by
    simp only[List.mem_cons,List.mem_nil_iff,or_false]at hb ⊢
    rcases hb with q | q
    ·exact .inl q
    ·exact .inr (.inr (.inr (.inl q)))
   obtain⟨f0,f1,f2,f3,f4,f5⟩:=hf b hb'
   exact⟨f0,f3,f1,f4,f5⟩
 self:=fun A i s Q E st h=>wpAny_pyIter_zip st.1 h
noncomputable def da(t:Bool)(l:Addr):Obj:=if t then { cls:=.type "tuple_iterator",data:=.fields #[.ref l,rawInt 0] } else { cls:=.type "list_iterator",data:=.fields #[.ref l,.int 0 0] }
theorem r0{t:Bool}{l it:Addr}{h:Heap}(e:h.get? it=some (da t l)):i6 t it l 0 h:=by
 cases t with
 | true=>exact⟨_,e,rfl,rfl⟩
 | false=>exact⟨_,e,rfl,rfl⟩
theorem rW{t:Bool}{l:Addr}{xs:List V}{A:Around}{Q:Value->Shared->Prop}{E:Value->Shared->Prop}(I:Inv X pins σ H s)(hx:H l=some (dN t xs))(q:Q (.ref s.heap.objs.size) { s with heap:=s.heap.push (da t l) }):wpAny (model X.prog X.w) A (pyIter (.ref l)) Q E s:=by
 cases t with
 |true=>
  obtain⟨its,rv,p,hz⟩:=I.tuple (SqT.of (show H l=some (.tup xs)from hx))
  exact wpAny_pyIter_tuple p q
 |false=>
  obtain⟨its,rv,p,hz⟩:=I.list (SqL.of (show H l=some (.lst xs)from hx))
  exact wpAny_pyIter_list p.isList q
section
variable{X:Cx}{elts:List Expr}{kx:Nat}{tp p pos:Pos}{a b:Expr}{ta:TA}
noncomputable def GP(ta:TA):TI:=fun σ H R=>ta σ H fun vs H1=>∃ t1 t2 l1 l2 xs ys,vs=[.ref l1,.ref l2]/\H1 l1=some (dN t1 xs)/\H1 l2=some (dN t2 ys)/\R (Itz t1 t2 l1 l2) H1
theorem far(n a b:Nat)(h:a≠b):n+a≠n+b:=fun q=>h (Nat.add_left_cancel q)
theorem vH:bootBuiltins "zip" = some (.type "zip"):=by decide +kernel
theorem F2(hg:Gl X "zip")(hm:X.mg "zip" = none)(ha:PA X [a,b] ta)(hs:starEach [a,b] X.env=[(false,eval a X.env),(false,eval b X.env)])(hs2:starEach [b] X.env=[(false,eval b X.env)]):PI X (.Tuple elts kx tp) (.Call (.Name "zip" p) [a,b] [] pos) (GP ta):=by
 intro pins s0 σ H0 R I0 h
 refine Call_ (gO I0 hg hm vH (PyProof.Rows.callWith_type1 (thn (ha pos pins s0 σ H0 _ I0 h) fun us s ⟨vs,H,I,r1,q1⟩=>?_) (by rw[hs,hs2]) (by rw[hs2];rfl)))
 obtain⟨t1,t2,l1,l2,xs,ys,rfl,hx,hy,q⟩:=q1
 cases r1 with
 |cons r rr=>
  cases rr with
  |cons r2 rr=>
   cases rr
   cases r
   cases r2
   have I1:Inv X pins σ H { s with heap:=s.heap.push (da t1 l1) }:=I.kept (t':=s.toks) fun b o e=>Heap.get?_push_of_some _ e
   refine BB (S1:=fun it z1=>it=s.heap.objs.size/\z1={ s with heap:=s.heap.push (da t1 l1) }) (S2:=fun it jt z2=>it=s.heap.objs.size/\jt=(s.heap.push (da t1 l1)).objs.size/\z2={ s with heap:=(s.heap.push (da t1 l1)).push (da t2 l2) })
    (fun A=>rW I hx ⟨_,rfl,rfl,rfl⟩) (fun it z1 h1 A=>?_) fun it jt z2 h2=>?_
   ·obtain⟨rfl,rfl⟩:=h1
    exact rW I1 hy ⟨_,rfl,rfl,rfl,rfl⟩
   ·obtain⟨rfl,rfl,rfl⟩:=h2
    have z1:(s.heap.push (da t1 l1)).objs.size=s.heap.objs.size+1:=Heap.size_push ..
    generalize e1:s.heap.push (da t1 l1)=g1 at *
    have p1:g1.get? s.heap.objs.size=some (da t1 l1):=by
     rw[<-e1]
     exact Heap.get?_push_size _ (by cases t1<;>rfl)
    have k1:∀ b o,s.heap.get? b=some o->g1.get? b=some o:=fun b o e=>by rw[<-e1];exact Heap.get?_push_of_some _ e
    have z2:(g1.push (da t2 l2)).objs.size=s.heap.objs.size+2:=by rw[Heap.size_push,z1]
    have p2:(g1.push (da t2 l2)).get? (s.heap.objs.size+1)=some (da t2 l2):=by
     rw[<-z1]
     exact Heap.get?_push_size _ (by cases t2<;>rfl)
    have k2:∀ b o,g1.get? b=some o->(g1.push (da t2 l2)).get? b=some o:=fun b o e=>Heap.get?_push_of_some _ e
    generalize e2:g1.push (da t2 l2)=g2 at *
    dsimp only
    rw[z1]
    have z3:(g2.push { cls:=.type "tuple",data:=.seq #[.ref s.heap.objs.size,.ref (s.heap.objs.size+1)] }).objs.size=s.heap.objs.size+3:=by rw[Heap.size_push,z2]
    have p3:(g2.push { cls:=.type "tuple",data:=.seq #[.ref s.heap.objs.size,.ref (s.heap.objs.size+1)] }).get? (s.heap.objs.size+2)=some { cls:=.type "tuple",data:=.seq #[.ref s.heap.objs.size,.ref (s.heap.objs.size+1)] }:=by
     rw[<-z2]
     exact Heap.get?_push_size _ rfl
    have k3:∀ b o,g2.get? b=some o->(g2.push { cls:=.type "tuple",data:=.seq #[.ref s.heap.objs.size,.ref (s.heap.objs.size+1)] }).get? b=some o:=fun b o e=>Heap.get?_push_of_some _ e
    rw[z2]
    generalize e3:g2.push { cls:=.type "tuple",data:=.seq #[.ref s.heap.objs.size,.ref (s.heap.objs.size+1)] }=g3 at *
    rw[z3]
    have z4:(g3.push { cls:=.type "tuple",data:=.seq #[.none,.none] }).objs.size=s.heap.objs.size+4:=by rw[Heap.size_push,z3]
    have p4:(g3.push { cls:=.type "tuple",data:=.seq #[.none,.none] }).get? (s.heap.objs.size+3)=some { cls:=.type "tuple",data:=.seq #[.none,.none] }:=by
     rw[<-z3]
     exact Heap.get?_push_size _ rfl
    have k4:∀ b o,g3.get? b=some o->(g3.push { cls:=.type "tuple",data:=.seq #[.none,.none] }).get? b=some o:=fun b o e=>Heap.get?_push_of_some _ e
    generalize e4:g3.push { cls:=.type "tuple",data:=.seq #[.none,.none] }=g4 at *
    rw[z4]
    have p5:(g4.push { cls:=.type "zip",data:=.fields #[.none,.bool false,.bool false,.ref (s.heap.objs.size+2),.ref (s.heap.objs.size+3)] }).get? (s.heap.objs.size+4)=some { cls:=.type "zip",data:=.fields #[.none,.bool false,.bool false,.ref (s.heap.objs.size+2),.ref (s.heap.objs.size+3)] }:=by
     rw[<-z4]
     exact Heap.get?_push_size _ rfl
    have k5:∀ b o,g4.get? b=some o->(g4.push { cls:=.type "zip",data:=.fields #[.none,.bool false,.bool false,.ref (s.heap.objs.size+2),.ref (s.heap.objs.size+3)] }).get? b=some o:=fun b o e=>Heap.get?_push_of_some _ e
    generalize e5:g4.push { cls:=.type "zip",data:=.fields #[.none,.bool false,.bool false,.ref (s.heap.objs.size+2),.ref (s.heap.objs.size+3)] }=g5 at *
    refine wpAny_pyIter_zip (TI:=s.heap.objs.size+2) (TO:=s.heap.objs.size+3) (f0:=.none) p5 ⟨s.heap.objs.size+4,[s.heap.objs.size+4,s.heap.objs.size+2,s.heap.objs.size+3,s.heap.objs.size,s.heap.objs.size+1],_,Itz t1 t2 l1 l2,H,rfl,I.kept (t':=s.toks) fun b o e=>k5 _ _ (k4 _ _ (k3 _ _ (k2 _ _ (k1 _ _ e)))),zd (far _ 2 4 (by decide)) (far _ 3 4 (by decide)) (far _ 2 3 (by decide)) (far _ 0 4 (by decide)) (far _ 1 4 (by decide)) (far _ 0 3 (by decide)) (far _ 1 3 (by decide)) (far _ 0 1 (by decide)) (far _ 0 2 (by decide)) (far _ 1 2 (by decide)),
     ⟨p5,k5 _ _ (k4 _ _ p3),⟨_,_,k5 _ _ p4⟩,r0 (k5 _ _ (k4 _ _ (k3 _ _ (k2 _ _ p1)))),r0 (k5 _ _ (k4 _ _ (k3 _ _ p2)))⟩,fun b hb=>?_,q⟩
    have hb':s.heap.objs.size<=b:=by
     simp only[List.mem_cons,List.mem_nil_iff,or_false]at hb
     rcases hb with rfl | rfl | rfl | rfl | rfl<;>first | exact Nat.le_refl _ | exact Nat.le_add_right _ _
    exact I.nY hb' (I.hok.fresh hb')
end
end L2
namespace RS
open PySem PySem.Spec PyProof.Rows L2
theorem j4:∀ (ds es:List RL.D),ds.length=es.length->(RL.dO ds es).length=ds.length
 | [],[],_=>rfl
 | [],_::_,h=>by cases h
 | _::_,[],h=>by cases h
 | d::ds,e::es,h=>by rw[RL.dO,List.length_cons,List.length_cons,j4 ds es (by simpa using h)]
theorem so:∀ (ds es:List RL.D) (i:Nat) (d:RL.D),(RL.dO ds es)[i]?=some d->∃ x y,ds[i]?=some x/\es[i]?=some y/\d=.tup [x,y]
 | [],es,i,d,h=>by cases es<;>simp[RL.dO]at h
 | _::_,[],i,d,h=>by simp[RL.dO]at h
 | x::ds,y::es,0,d,h=>by simp[RL.dO]at h;exact⟨x,y,rfl,rfl,h.symm⟩
 | x::ds,y::es,i+1,d,h=>by
  rw[RL.dO,List.getElem?_cons_succ]at h
  obtain⟨x',y',h1,h2,h3⟩:=so ds es i d h
  exact⟨x',y',by simpa using h1,by simpa using h2,h3⟩
theorem wW{K:PySem.W.Frag}{H:Hp}{ds es:List RL.D}{xs ys:List V}{P:Addr->Prop}{t1 t2:Bool}{l1 l2:Addr}(hl:ds.length=es.length)(h1:H l1=some (dN t1 xs))(h2:H l2=some (dN t2 ys))(n1:¬ P l1)(n2:¬ P l2)(r1:ab nP K H ds xs)(r2:ab nP K H es ys)(hm:∀ b o,P b->H b=some o->cR o) :
  j1 K (Itz t1 t2 l1 l2) (RL.dO ds es) P H where
 go:=fun H' i k hi=>by
  rw[j4 ds es hl]at hi
  obtain⟨x,e,_⟩:=r1.get (i:=i) (d:=ds[i]) (by simp[hi])
  obtain⟨y,e',_⟩:=r2.get (i:=i) (d:=es[i]'(by lia)) (by simp)
  exact⟨xs,ys,x,y,k _ _ n1 h1,k _ _ n2 h2,e,e'⟩
 stop:=fun H' k=>⟨xs,ys,k _ _ n1 h1,k _ _ n2 h2,by rw[j4 ds es hl,r1.length],by rw[j4 ds es hl,hl,r2.length]⟩
 yld:=fun H' i d v H2 k e y=>by
  obtain⟨p,x,w,hp,rfl,rfl,hx,hw⟩:=y
  obtain⟨dx,dw,g1,g2,rfl⟩:=so ds es i d e
  obtain⟨x',g3,g4⟩:=r1.get g1
  obtain⟨w',g5,g6⟩:=r2.get g2
  rw[hx xs (k _ _ n1 h1)]at g3
  rw[hw ys (k _ _ n2 h2)]at g5
  cases g3
  cases g5
  refine⟨a5.bS hp,fun q=>?_⟩
  have re:Rep nP K H' dx x/\Rep nP K H' dw w:=by
   rcases q with q | q
   ·have q:(dx.imm&&(dw.imm&&true))=true:=q
    rw[Bool.and_true,Bool.and_eq_true]at q
    exact⟨ic hm k g4 q.1,ic hm k g6 q.2⟩
   ·exact⟨g4.same q,g6.same q⟩
  rw[Rep]
  exact⟨p,[x,w],rfl,bC,ab.cons (re.1.same (a5.bS hp)) (ab.cons (re.2.same (a5.bS hp)) ab.nil)⟩
theorem pR{K:PySem.W.Frag}{d:RL.D}{ds:List RL.D}(h:RL.items d=some ds)(r:Rep P K H d v):∃ t l xs,v=.ref l/\H l=some (dN t xs)/\ab P K H ds xs/\(t=false->d=.lst ds):=by
 obtain⟨p,xs,rfl,hp,rs⟩:=fC h r
 rcases hp with⟨q,rfl⟩ | ⟨q,rfl⟩
 ·exact⟨false,p,xs,rfl,q,rs,fun _=>rfl⟩
 ·exact⟨true,p,xs,rfl,q,rs,fun z=>by cases z⟩
section rules
variable{X:Cx}{cl:RL.Cl}{elts:List Expr}{kx:Nat}{tp p pos:Pos}{a b:Expr}{a' b':RL.E}
theorem DR(hg:Gl X "zip")(hm:X.mg "zip" = none)(ha:SE X cl a a')(hb:SE X cl b b')(hn:noStar a=true)(hn2:noStar b=true):SI X cl (.Tuple elts kx tp) (.Call (.Name "zip" p) [a,b] [] pos) (.zip a' b'):=by
 intro pins s σ H R I h
 obtain⟨σD,ds,rv,e,k⟩:=h
 rw[RL.bb]at e
 obtain⟨x,ea,e⟩:=bind_some e
 obtain⟨y,eb,e⟩:=bind_some e
 obtain⟨xs,e1,e⟩:=bind_some e
 obtain⟨ys,e2,e⟩:=bind_some e
 split at e
 ·rename_i hl
  cases e
  have hpa:PA X [a,b] (mO (tE X.K cl a') (mO (tE X.K cl b') vw)):=bY ha (bY hb dW (aA [] hn2)) (aA _ hn)
  refine F2 hg hm hpa (by rw[aA _ hn,aA _ hn2];rfl) (aA [] hn2) pins s σ H R I ?_
  refine⟨σD,x,rv,ea,fun v H1 r1=>⟨σD,y,rv.same r1.same,eb,fun u H2 r2=>?_⟩⟩
  obtain⟨t1,l1,vs,rfl,h1,p1,c1⟩:=pR e1 (r1.rep.same r2.same)
  obtain⟨t2,l2,us,rfl,h2,p2,c2⟩:=pR e2 r2.rep
  refine⟨t1,t2,l1,l2,vs,us,rfl,h1,h2,k _ _ (r1.same.trans r2.same) ⟨wW hl h1 h2 (fun z=>z) (fun z=>z) p1 p2 gX,fun M P z hP av=>?_⟩⟩
  have hP2:=eE (r1.same.trans r2.same) hP
  unfold RL.vx at z
  rw[Bool.and_eq_true]at z
  have notT:∀ (t:Bool) l zs,H2 l=some (dN t zs)->t=true->¬ P l:=fun t l zs hl ht q=>by
   subst ht
   rcases hP2 l _ q hl with⟨_,q⟩ | ⟨_,q⟩ | ⟨_,q⟩<;>cases q
  refine wW hl h1 h2 ?_ ?_ p1 p2 hP2
  ·cases ht:t1 with
   | true=>exact notT t1 l1 vs h1 ht
   | false=>exact nG r1 z.1 hP av _ _ (c1 ht) rfl
  ·cases ht:t2 with
   | true=>exact notT t2 l2 us h2 ht
   |false=>
    refine nG r2 z.2 (fun b q=>?_) (fun j dj vj hj h3 h4=>(av j dj vj hj h3 h4).same r1.same) _ _ (c2 ht) rfl
    obtain⟨o,ho,hmu⟩:=hP b q
    exact⟨o,r1.same _ _ ho,hmu⟩
 ·cases e
end rules
end RS
namespace L2
open PySem PySem.Spec PyProof.Rows
section
variable{X:Cx}{e:Expr}{te:TE}{pos p2 p3 p4:Pos}{j:Nat}
end
end L2
namespace RS
open PySem PySem.Spec PyProof.Rows L2
section
variable{X:Cx}{cl:RL.Cl}{a b:Expr}{a' b' c':RL.E}{pos p p2:Pos}{M:List Nat}
theorem zH{c:Expr}{body:List Stmt}{b:RL.Ss}(hx:X.xe=fun _ _=>False)(hc:ST X cl c c')(hb:SSs X cl M body b):SS X cl M (.While c body [] pos) (.whil c' b):=by
 refine PS.weak (zS (by rw[hx];exact PassesOwn.never) hc hb) fun D σ H h=>?_
 obtain⟨σD,r,σD',rv,e,k⟩:=h
 rw[RL.evS]at e
 refine⟨fun m σ2 H2=>∃ σD2,RVm X.K M σD2 σ2 H2/\Fr' M σ H σ2 H2/\RL.whF (fun σ=>(RL.ev cl σ c').bind RL.truth) (RL.af cl M b) m σD2=some (r,σD'),⟨_,σD,rv,Fr'.same (a5.refl _),e⟩,?_⟩
 rintro m σ2 H2 ⟨σD2,rv2,fr2,hl⟩
 cases m with
 | zero=>rw[RL.whF]at hl;cases hl
 |succ m=>
  rw[RL.whF]at hl
  obtain⟨t,e1,hl⟩:=bind_some hl
  refine⟨σD2,t,rv2.rv0,e1,fun H3 s3=>?_⟩
  have fr3:=fr2.trans (Fr'.same (M:=M) (σ:=σ2) s3)
  cases t with
  |true=>
   rw[if_pos rfl]at hl
   dsimp only
   rw[if_pos rfl]
   obtain⟨⟨o,σD3⟩,e2,hl⟩:=bind_some hl
   refine⟨fun σ' H'=>∃ m',m'<m+1/\∃ σDx,RVm X.K M σDx σ' H'/\Fr' M σ H σ' H'/\RL.whF (fun σ=>(RL.ev cl σ c').bind RL.truth) (RL.af cl M b) m' σDx=some (r,σD'),fun _ _ h=>h,σD2,o,σD3,rv2.same s3,e2,?_⟩
   cases o with
   | nx=>exact fun σ' H' rv' fr'=>⟨m,by lia,σD3,rv',fr3.trans fr',hl⟩
   |rt d=>
    cases hl
    exact fun σ' H' v H4 rv' fr' sm rp=>k σ' H' v H4 rv' (fr3.trans fr') sm rp
  |false=>
   rw[if_neg (by decide)]at hl
   dsimp only
   rw[if_neg (by decide)]
   cases hl
   exact k σ2 H3 (rv2.same s3) fr3
end
end RS
namespace L2
open PySem PySem.Spec PyProof.Rows
section
variable{X:Cx}
theorem kB:∀ {ns:List Int} {us:List Value},Vals (ns.map V.int) us->IntsAre us ns
 | [],_,.nil=>.nil
 | n::r,_,.cons ⟨t,e⟩ h=>by
  subst e
  exact .cons _ _ (kB h)
theorem ie(a:Int):∀ l:List Int,(RL.fH a l).Perm (a::l)
 | []=>.refl _
 | b::r=>by
  unfold RL.fH
  split
  ·exact .refl _
  ·exact((ie a r).cons b).trans (.swap ..)
theorem je(a:Int):∀ l:List Int,l.Pairwise (·<=·)->(RL.fH a l).Pairwise (·<=·)
 | [],_=>by simp[RL.fH]
 | b::r,h=>by
  unfold RL.fH
  rw[List.pairwise_cons]at h
  split
  ·rename_i c
   rw[List.pairwise_cons,List.pairwise_cons]
   exact⟨fun x hx=>by
    rcases List.mem_cons.mp hx with rfl | hx
    ·exact c
    ·exact Int.le_trans c (h.1 x hx),h⟩
  ·rename_i c
   rw[List.pairwise_cons]
   refine⟨fun x hx=>?_,je a r h.2⟩
   rcases List.mem_cons.mp ((ie a r).mem_iff.mp hx)with rfl | hx
   ·lia
   ·exact h.1 x hx
theorem sortI_perm:∀ l:List Int,(RL.sortI l).Perm l
 | []=>.refl _
 | a::r=>(ie a _).trans ((sortI_perm r).cons a)
theorem ka:∀ l:List Int,(RL.sortI l).Pairwise (·<=·)
 | []=>.nil
 | a::r=>je a _ (ka r)
theorem nE:∀ {a b:List Int},a.Perm b->a.Pairwise (·<=·)->b.Pairwise (·<=·)->a=b
 | [],b,h,_,_=>by simpa using h.symm.eq_nil
 | x::r,[],h,_,_=>by simpa using h.eq_nil
 | x::r,y::t,h,ha,hb=>by
  rw[List.pairwise_cons]at ha hb
  have e:x=y:=by
   have h1:=h.mem_iff.mp (List.mem_cons_self (a:=x) (l:=r))
   have h2:=h.mem_iff.mpr (List.mem_cons_self (a:=y) (l:=t))
   rcases List.mem_cons.mp h1 with h1 | h1
   ·exact h1
   ·rcases List.mem_cons.mp h2 with h2 | h2
    ·exact h2.symm
    ·exact Int.le_antisymm (ha.1 y h2) (hb.1 x h1)
  subst e
  rw[nE (List.perm_cons x |>.mp h) ha.2 hb.2]
theorem sZ:bJ X (.builtin "sorted") (fun xs H Q=>∃ (p:Addr) (ns:List Int),xs=[.ref p]/\H p=some (.lst (ns.map V.int))/\ns.length<64/\∀ l,H l=none->Q (.ref l) (upd H l (.lst ((RL.sortI ns).map V.int)))):=by
 intro pins s σ H xs us Q I r h
 obtain⟨p,ns,rfl,hp,hlen,q⟩:=h
 cases r with
 |cons r rr=>
  cases rr
  cases r
  obtain⟨its,rv,hl,hz⟩:=I.list (SqL.of hp)
  have hi:=kB rv
  refine sorted_ints hl.isList hi (by rw[hi.length];exact hlen) fun out ns' h1 h2 h3=>?_
  have e:=nE (h2.trans (sortI_perm ns).symm) h3 (ka ns)
  subst e
  obtain⟨en,he⟩:=sortedAll_at s.heap its out
  refine⟨.ref (s.heap.objs.size+1),_,I.laid (t':=s.toks) (o:=.lst ((RL.sortI ns).map V.int)) (fun b ob q=>sortedAll_old q) (by lia) ?_,rfl,q _ (I.hok.fresh (by lia))⟩
  exact⟨by simp only[List.length_map];rw[(sortI_perm ns).length_eq];simpa using hz,out.toList,en,kE h1,by rw[he]⟩
noncomputable def DH:V->List V->Hp->VK->Prop:=fun x vs H Q=>∃ (l:Addr) (ns:List Int) (k:Int),x=.ref l/\vs=[.int k]/\H l=some (.lst (ns.map V.int))/\k∈ns/\Q (.int (ns.idxOf k:Nat)) H
theorem yH:MtM X "list.index" DH:=by
 intro pins s σ H x vs v us Q I rx rv h
 obtain⟨l,ns,k,rfl,rfl,hH,hk,q⟩:=h
 cases rx
 obtain⟨u,rfl,t,rfl⟩:=rv.one
 obtain⟨its,r,hl,hz⟩:=I.list (SqL.of hH)
 have hi:=kB r
 have hn:=hi.length
 obtain⟨⟨cls,dd,data,sl⟩,ho,hc,n,hd⟩:=id hl.isList
 have hc:cls=.type "list" := hc
 have hd:data=.seq its.toArray n:=hd
 subst hc hd
 have hj:=List.idxOf_lt_length_iff.mpr hk
 have hz':ns.length<=sizeLine:=by simpa using hz
 refine call_meets F.slot_list_index ⟨_,ho,rfl⟩ F.entry_list_index (F.args_list_index_2 _ _) (SeqAt.list_indexAt l its.toArray n dd sl (.int k t) (isInt k) (ns.idxOf k) (by rw[List.size_toArray];lia) (by unfold sizeLine at hz';lia) ?h1 ?h2) ⟨ho,fun y hy=>(eq_isInt k t hi y (by simpa using hy)).at _ _,.int (ns.idxOf k:Nat),H,I.tok _,⟨_,rfl⟩,q⟩
 case h1 =>
  have e:=isInt_at k hi (ns.idxOf k) (by lia) hj
  rw[List.getElem_idxOf hj,beq_self_eq_true]at e
  exact e
 case h2 =>
  intro m hm hlt
  have hm':m<its.length:=by simpa using hm
  exact(isInt_at k hi m hm' (by lia)).trans (ne_of_lt_idxOf hlt _)
end
section
variable{X:Cx}{pos:Pos}{a b c g:Expr}{ta tb tc tg:TE}
noncomputable def Bc(r r' r'':R2)(ta tb tc tg:TE):TE:=fun σ H Q=>ta σ H fun x H1=>tb σ H1 fun y H2=>r x y H2 fun z H3=>∃ k,z=.bl k /\
 (if k=true then tc σ H3 fun u H4=>r' y u H4 fun z H5=>∃ k',z=.bl k'/\(if k'=true then tg σ H5 fun w H6=>r'' u w H6 Q else Q (.bl false) H5)else Q (.bl false) H3)
theorem xF{op op' op'':CmpOp}{r r' r'':R2}(ho:OpR X (compareOp op) r)(ho':OpR X (compareOp op') r')(ho'':OpR X (compareOp op'') r'')(ha:PE X a ta)(hb:PE X b tb)(hc:PE X c tc)(hg:PE X g tg)
 (hm:lastMarks [op,op',op''] [b,c,g]=false):PE X (.Compare a [op,op',op''] [b,c,g] pos) (Bc r r' r'' ta tb tc tg):=by
 intro pins s σ H Q I h
 refine Compare_chain (thn (ha pins s σ H _ I h) fun v s1 ⟨x,H1,I1,r1,q1⟩=>chain_link (thn (hb pins s1 σ H1 _ I1 q1) fun u s2 ⟨y,H2,I2,r2,q2⟩ =>
  thn (ho pins s2 σ H2 x y v u _ I2 r1 r2 q2) fun d s3 ⟨z,H3,I3,r3,k,e,q3⟩=>?_)) hm
 subst e
 cases r3
 refine wpAny_truthy_bool ?_
 cases k with
 | false=>exact ite_ff ⟨.bl false,H3,I3,rfl,q3⟩
 |true=>
  refine ite_tt (chain_link (thn (hc pins s3 σ H3 _ I3 q3) fun u' s4 ⟨y',H4,I4,r4,q4⟩=>thn (ho' pins s4 σ H4 y y' u u' _ I4 r2 r4 q4) fun d s5 ⟨z,H5,I5,r5,k,e,q5⟩=>?_))
  subst e
  cases r5
  refine wpAny_truthy_bool ?_
  cases k with
  | false=>exact ite_ff ⟨.bl false,H5,I5,rfl,q5⟩
  | true=>exact ite_tt (chain_last (thn (hg pins s5 σ H5 _ I5 q5) fun w' s6 ⟨z',H6,I6,r6,q6⟩=>ho'' pins s6 σ H6 y' z' u' w' Q I6 r4 r6 q6))
end
end L2
namespace RS
open PySem PySem.Spec PyProof.Rows L2
section
variable{X:Cx}{cl:RL.Cl}{a b c g:Expr}{a' b' c' g':RL.E}{pos p p2:Pos}{M:List Nat}
theorem qR{P:Addr->Prop}{K:PySem.W.Frag}{H:Hp}:∀ is:List Int,ab P K H (is.map RL.D.int) (is.map V.int)
 | []=>ab.nil
 | i::r=>ab.cons aY (qR r)
theorem qA:∀ {ds:List RL.D} {is:List Int},RL.c8 ds=some is->is.length=ds.length
 | [],is,h=>by cases h;rfl
 | d::ds,is,h=>by
  cases d<;>simp only[RL.c8]at h<;>first | (cases h;done) | skip
  obtain⟨is',h1,h2⟩:=map_some h
  subst h2
  simp[qA h1]
theorem xN(hg:Gl X "sorted")(hm:X.mg "sorted" = none)(ha:SE X cl a a')(hn:noStar a=true):SE X cl (.Call (.Name "sorted" p) [a] [] pos) (.bi .sorted a'):=by
 refine iw sZ hg hm (by decide +kernel) ha hn (by decide) (by decide) fun σD σ H H1 y d v Q e s1 r1 k=>?_
 cases y<;>simp only[RL.biV]at e<;>first | (cases e;done) | skip
 case lst ds =>
  split at e
  ·rename_i h64
   obtain⟨is,e1,e2⟩:=map_some e
   subst e2
   obtain⟨q,xs,rfl,_,f2,f3⟩:=aD r1
   rw[lE e1 f3]at f2
   exact⟨q,is,rfl,f2,by rw[qA e1];exact h64,fun l hl=>k _ _ (dJ s1 hl (qR _) fun _=>rfl)⟩
  ·cases e
theorem zC{x:Str}{apos:Pos}(ha:SE X cl (.Name x p) a')(hb:SE X cl b b')(hn:noStar b=true)(hl:(apos.endLine == pos.line)=true):SE X cl (.Call (.Attribute (.Name x p) "index" apos) [b] [] pos) (.index a' b'):=by
 refine PE.weak (AG PySem.F.plainAttrs_list PySem.F.slot_list_index PySem.F.type_list_index yH ha (bH (cl:=cl) hb cD hn) rfl (by rw[aA [] hn];rfl) hl (aA [] hn) rfl) fun σ H Q h=>?_
 obtain⟨σD,d,rv,e,k⟩:=h
 rw[RL.ev]at e
 obtain⟨x,ea,e⟩:=bind_some e
 obtain⟨y,eb,e⟩:=bind_some e
 refine⟨σD,x,rv,ea,fun v H1 r1=>?_⟩
 cases x with
 |lst xs=>
  cases y with
  |int i=>
   obtain⟨is,e1,e⟩:=bind_some (show(RL.c8 xs).bind _=some d from e)
   split at e
   ·rename_i hm
    cases e
    obtain⟨q,ys,rfl,_,f2,f3⟩:=aD r1.rep
    refine⟨.inl ⟨rfl,_,SqL.of f2⟩,σD,[.int i],rv.same r1.same,by rw[RL.evs,eb];rfl,fun vs H2 s2 rr=>?_⟩
    rw[lE e1 f3]at f2
    rw[ab]at rr
    obtain⟨x,t,rfl,r2,r3⟩:=rr
    rw[ab]at r3
    subst r3
    exact⟨q,is,i,rfl,by rw[ah r2],s2 _ _ f2,hm,k _ _ (cP (r1.same.trans s2) aY rfl)⟩
   ·cases e
  | _=>cases e
 | _=>cases y<;>cases e
theorem E3{c c' c'':RL.Cop}(b e g:Expr):lastMarks [bK c,bK c',bK c''] [b,e,g]=false:=by
 show behindInMarks (bK c'') g=false
 exact gD g
theorem wJ{o o' o'':RL.Cop}(hu:X.A.units+100<cLine)(ha:SE X cl a a')(hb:SE X cl b b')(hc:SE X cl c c')(hg:SE X cl g g'):SE X cl (.Compare a [bK o,bK o',bK o''] [b,c,g] pos) (.chain3 o o' o'' a' b' c' g'):=by
 refine PE.weak (xF (eJ hu) (eJ hu) (eJ hu) ha hb hc hg (E3 b c g)) fun σ H Q h=>?_
 obtain⟨σD,d,rv,h,k⟩:=h
 rw[RL.ev]at h
 obtain⟨x,ea,h⟩:=bind_some h
 obtain⟨y,eb,h⟩:=bind_some h
 obtain⟨t,e1,h⟩:=bind_some h
 refine two rv ea eb fun v u H1 H2 s1 s2 rx ry _ _=>?_
 refine⟨x,y,t,rx,ry,e1,t,rfl,?_⟩
 have sm:=s1.trans s2
 cases t with
 |false=>
  rw[if_neg (by decide)]at h
  cases h
  exact eX (k _ _ (cC sm))
 |true=>
  rw[if_pos rfl]at h
  obtain⟨z,ec,h⟩:=bind_some h
  obtain⟨t,e3,h⟩:=bind_some h
  refine eD ⟨σD,z,rv.same sm,ec,fun w H3 r3=>⟨y,z,t,ry.same r3.same,r3.rep,e3,t,rfl,?_⟩⟩
  have sm3:=sm.trans r3.same
  cases t with
  |false=>
   rw[if_neg (by decide)]at h
   cases h
   exact eX (k _ _ (cC sm3))
  |true=>
   rw[if_pos rfl]at h
   obtain⟨w',eg,h⟩:=bind_some h
   obtain⟨t,e5,e6⟩:=map_some h
   subst e6
   exact eD ⟨σD,w',rv.same sm3,eg,fun w2 H4 r4=>⟨z,w',t,r3.rep.same r4.same,r4.rep,e5,k _ _ (cC (sm3.trans r4.same))⟩⟩
end
section
variable{X:Cx}{cl:RL.Cl}{M:List Nat}{st:Stmt}{i:Nat}{k' l' a' b':RL.E}
end
theorem nos{α:Type}{P:Prop}{x:α}(h:(none:Option α)=some x):P:=by cases h
theorem aw{α:Type}{o:Option α}{f:α->Bool}(h:o.any f=true):∃ x,o=some x/\f x=true:=by
 cases o with
 | none=>cases h
 | some x=>exact⟨x,rfl,h⟩
theorem ae{a b:Bool}(h:(a&&b)=true):a=true/\b=true:=by rw[Bool.and_eq_true]at h;exact h
noncomputable def gx:Expr->Option Str
 | .Name x _=>some x
 | _=>none
theorem dF{e:Expr}{x:Str}(h:gx e=some x):∃ p,e=.Name x p:=by
 cases e
 case Name=>cases h;exact⟨_,rfl⟩
 all_goals exact nos h
noncomputable def yZ:Expr->Option Const
 | .Constant k _ _=>some k
 | _=>none
theorem t7{e:Expr}{k:Const}(h:yZ e=some k):∃ j p,e=.Constant k j p:=by
 cases e
 case Constant=>cases h;exact⟨_,_,rfl⟩
 all_goals exact nos h
noncomputable def CS:Expr->Option (Expr × Operator × Expr)
 | .BinOp l o r _=>some (l,o,r)
 | _=>none
theorem Bn{e:Expr}{l r:Expr}{o:Operator}(h:CS e=some (l,o,r)):∃ p,e=.BinOp l o r p:=by
 cases e
 case BinOp=>cases h;exact⟨_,rfl⟩
 all_goals exact nos h
noncomputable def vUn:Expr->Option (UnaryOp × Expr)
 | .UnaryOp o x _=>some (o,x)
 | _=>none
theorem qv{e x:Expr}{o:UnaryOp}(h:vUn e=some (o,x)):∃ p,e=.UnaryOp o x p:=by
 cases e
 case UnaryOp=>cases h;exact⟨_,rfl⟩
 all_goals exact nos h
noncomputable def kH:Expr->Option (Expr × List CmpOp × List Expr)
 | .Compare l o r _=>some (l,o,r)
 | _=>none
theorem fB{e l:Expr}{r:List Expr}{o:List CmpOp}(h:kH e=some (l,o,r)):∃ p,e=.Compare l o r p:=by
 cases e
 case Compare=>cases h;exact⟨_,rfl⟩
 all_goals exact nos h
noncomputable def vBool:Expr->Option (BoolOp × List Expr × Pos)
 | .BoolOp o es p=>some (o,es,p)
 | _=>none
theorem jJ{e:Expr}{es:List Expr}{o:BoolOp}{p:Pos}(h:vBool e=some (o,es,p)):e=.BoolOp o es p:=by
 cases e
 case BoolOp=>cases h;exact rfl
 all_goals exact nos h
noncomputable def DZ:Expr->Option (Expr × Expr × Expr)
 | .IfExp c a b _=>some (c,a,b)
 | _=>none
theorem AX{e a b c:Expr}(h:DZ e=some (c,a,b)):∃ p,e=.IfExp c a b p:=by
 cases e
 case IfExp=>cases h;exact⟨_,rfl⟩
 all_goals exact nos h
noncomputable def kF:Expr->Option (List Expr)
 | .Tuple es _ _=>some es
 | _=>none
theorem fF{e:Expr}{es:List Expr}(h:kF e=some es):∃ k p,e=.Tuple es k p:=by
 cases e
 case Tuple=>cases h;exact⟨_,_,rfl⟩
 all_goals exact nos h
noncomputable def DV:Expr->Option (List Expr)
 | .List es _=>some es
 | _=>none
theorem Ci{e:Expr}{es:List Expr}(h:DV e=some es):∃ p,e=.List es p:=by
 cases e
 case List=>cases h;exact⟨_,rfl⟩
 all_goals exact nos h
noncomputable def oF:Expr->Option (Expr × Expr)
 | .Subscript a b _=>some (a,b)
 | _=>none
theorem iZ{e a b:Expr}(h:oF e=some (a,b)):∃ p,e=.Subscript a b p:=by
 cases e
 case Subscript=>cases h;exact⟨_,rfl⟩
 all_goals exact nos h
noncomputable def vSl:Expr->Option (Option Expr × Option Expr × Option Expr)
 | .Slice a b c _=>some (a,b,c)
 | _=>none
theorem xI{e:Expr}{a b c:Option Expr}(h:vSl e=some (a,b,c)):∃ p,e=.Slice a b c p:=by
 cases e
 case Slice=>cases h;exact⟨_,rfl⟩
 all_goals exact nos h
noncomputable def kW:Expr->Option (Expr × List Expr × List Keyword × Pos)
 | .Call f as ks p=>some (f,as,ks,p)
 | _=>none
theorem gN{e f:Expr}{as:List Expr}{ks:List Keyword}{p:Pos}(h:kW e=some (f,as,ks,p)):e=.Call f as ks p:=by
 cases e
 case Call=>cases h;exact rfl
 all_goals exact nos h
noncomputable def uL:Expr->Option (Expr × Str × Pos)
 | .Attribute o x p=>some (o,x,p)
 | _=>none
theorem qG{e o:Expr}{x:Str}{p:Pos}(h:uL e=some (o,x,p)):e=.Attribute o x p:=by
 cases e
 case Attribute=>cases h;exact rfl
 all_goals exact nos h
noncomputable def uQ:Expr->Option (Expr × List Comprehension × Scope × Pos)
 | .ListComp e gs sc p=>some (e,gs,sc,p)
 | _=>none
theorem qB{e x:Expr}{gs:List Comprehension}{sc:Scope}{p:Pos}(h:uQ e=some (x,gs,sc,p)):e=.ListComp x gs sc p:=by
 cases e
 case ListComp=>cases h;exact rfl
 all_goals exact nos h
noncomputable def v7:Expr->Option (List (Option Expr) × List Expr)
 | .Dict ks vs _=>some (ks,vs)
 | _=>none
theorem rF{e:Expr}{ks:List (Option Expr)}{vs:List Expr}(h:v7 e=some (ks,vs)):∃ p,e=.Dict ks vs p:=by
 cases e
 case Dict=>cases h;exact⟨_,rfl⟩
 all_goals exact nos h
noncomputable def of1{α:Type}(xs:List α)(f:α->Bool):Bool:=match xs with
 | [a]=>f a
 | _=>false
noncomputable def of2{α:Type}(xs:List α)(f:α->α->Bool):Bool:=match xs with
 | [a,b]=>f a b
 | _=>false
noncomputable def of3{α:Type}(xs:List α)(f:α->α->α->Bool):Bool:=match xs with
 | [a,b,c]=>f a b c
 | _=>false
theorem aR{α:Type}:∀ {xs:List α} {f:α->Bool},of1 xs f=true->∃ a,xs=[a]/\f a=true
 | [a],_,h=>⟨a,rfl,h⟩
theorem fw{α:Type}:∀ {xs:List α} {f:α->α->Bool},of2 xs f=true->∃ a b,xs=[a,b]/\f a b=true
 | [a,b],_,h=>⟨a,b,rfl,h⟩
theorem nL{α:Type}:∀ {xs:List α} {f:α->α->α->Bool},of3 xs f=true->∃ a b c,xs=[a,b,c]/\f a b c=true
 | [a,b,c],_,h=>⟨a,b,c,rfl,h⟩
noncomputable def ofM{α:Type}(xs:List α)(f:α->α->List α->Bool):Bool:=match xs with
 | a::b::r=>f a b r
 | _=>false
theorem nT{α:Type}:∀ {xs:List α} {f:α->α->List α->Bool},ofM xs f=true->∃ a b r,xs=a::b::r/\f a b r=true
 | a::b::r,_,h=>⟨a,b,r,rfl,h⟩
noncomputable def mG:Stmt->Option (List Expr × Expr)
 | .Assign ts e _=>some (ts,e)
 | _=>none
theorem gK{st:Stmt}{ts:List Expr}{e:Expr}(h:mG st=some (ts,e)):∃ p,st=.Assign ts e p:=by
 cases st
 case Assign=>cases h;exact⟨_,rfl⟩
 all_goals exact nos h
noncomputable def Fz:Stmt->Option (Expr × Operator × Expr)
 | .AugAssign t o e _=>some (t,o,e)
 | _=>none
theorem Cq{st:Stmt}{t e:Expr}{o:Operator}(h:Fz st=some (t,o,e)):∃ p,st=.AugAssign t o e p:=by
 cases st
 case AugAssign=>cases h;exact⟨_,rfl⟩
 all_goals exact nos h
noncomputable def uU:Stmt->Option Expr
 | .Expr e _=>some e
 | _=>none
theorem og{st:Stmt}{e:Expr}(h:uU st=some e):∃ p,st=.Expr e p:=by
 cases st
 case Expr=>cases h;exact⟨_,rfl⟩
 all_goals exact nos h
noncomputable def wIf:Stmt->Option (Expr × List Stmt × List Stmt)
 | .If c a b _=>some (c,a,b)
 | _=>none
theorem wY{st:Stmt}{c:Expr}{a b:List Stmt}(h:wIf st=some (c,a,b)):∃ p,st=.If c a b p:=by
 cases st
 case If=>cases h;exact⟨_,rfl⟩
 all_goals exact nos h
noncomputable def Eo:Stmt->Option (Expr × Expr × List Stmt × List Stmt)
 | .For t i b o _=>some (t,i,b,o)
 | _=>none
theorem BW{st:Stmt}{t i:Expr}{b o:List Stmt}(h:Eo st=some (t,i,b,o)):∃ p,st=.For t i b o p:=by
 cases st
 case For=>cases h;exact⟨_,rfl⟩
 all_goals exact nos h
noncomputable def EB:Stmt->Option (Expr × List Stmt × List Stmt)
 | .While c b o _=>some (c,b,o)
 | _=>none
theorem BY{st:Stmt}{c:Expr}{b o:List Stmt}(h:EB st=some (c,b,o)):∃ p,st=.While c b o p:=by
 cases st
 case While=>cases h;exact⟨_,rfl⟩
 all_goals exact nos h
noncomputable def CL:Stmt->Option (Option Expr)
 | .Return e _=>some e
 | _=>none
theorem B9{st:Stmt}{e:Option Expr}(h:CL st=some e):∃ p,st=.Return e p:=by
 cases st
 case Return=>cases h;exact⟨_,rfl⟩
 all_goals exact nos h
structure CC where
 N:List Str
 sc:Scope
 B:List Str
 G:List (Str × Int)
 F:List (Str × List Nat)
noncomputable def C8(scope sc:Scope):Scope:={ scope with names:=scope.names.map fun(n,k)=>if(k == NameKind.free&&sc.kind == .function&&sc.names.lookup n == some .cell)then(n,NameKind.cell)else(n,k) }
noncomputable def CC.inner(C:CC)(scope:Scope):CC:={ C with sc:=C8 scope C.sc }
noncomputable def iY(x:Str):Bool:=!(x == ("__debug__" : Str)) && !(x == ("__classdict__" : Str))
noncomputable def zb(C:CC)(x:Str):Bool:=C.sc.names.lookup x == some .local || C.sc.names.lookup x == some .cell
noncomputable def zh(C:CC)(x:Str):Bool:=C.sc.names.lookup x == some .local || C.sc.names.lookup x == some .cell || C.sc.names.lookup x == some .free
noncomputable def glB(C:CC)(x:Str):Bool:=C.sc.names.lookup x == some .globalImplicit&&iY x
noncomputable def vm(C:CC)(x:Str):Bool:=glB C x&&C.B.contains x
noncomputable def nmB(C:CC)(i:Nat)(x:Str):Bool:=C.N[i]? == some x&&iY x
structure XOk(C:CC)(X:Cx)(cl:RL.Cl):Prop where
 scope:X.env.scope=C.sc
 names:X.N=C.N
 nd:C.N.Nodup
 calm:X.calm=true
 xe:X.xe=fun _ _=>False
 hu:X.A.units+100<cLine
 blt:∀ x∈C.B,X.mg x=none
 glb:∀ x i,C.G.lookup x=some i->∃ u,X.mg x=some u/\RelV (.int i) u
 fns:∀ (f:Nat) (x:Str) (mp:List Nat),C.F[f]?=some (x,mp)->∃ k fa fd ps,i9 X.prog X.w X.K X.mg X.base CX0 k fa fd ps (if mp=[]then spF X.K cl f else spM X.K cl mp f)/\eu k X.A/\X.mg x=some (.ref fa)/\PySem.W.keepIn X.K (.ref fa)=true/\Binds X.K fd ps []
section
variable{C:CC}{X:Cx}{cl:RL.Cl}{e:Expr}
theorem XOk.vis(h:XOk C X cl){x:Str}(v:zh C x=true):Vis X.env.scope x:=by
 unfold zh at v
 rw[<-h.scope,Bool.or_eq_true,Bool.or_eq_true,beq_iff_eq,beq_iff_eq,beq_iff_eq]at v
 rcases v with(v | v) | v
 ·exact .inl v
 ·exact .inr (.inl v)
 ·exact .inr (.inr v)
theorem XOk.loc(h:XOk C X cl){x:Str}(v:zb C x=true):Loc X.env.scope x:=by
 unfold zb at v
 rw[<-h.scope,Bool.or_eq_true,beq_iff_eq,beq_iff_eq]at v
 exact v
theorem eW{x:Str}(h:iY x=true):(x == ("__debug__" : Str))=false/\(x == ("__classdict__" : Str))=false:=by
 unfold iY at h
 rw[Bool.and_eq_true,Bool.not_eq_true',Bool.not_eq_true']at h
 exact h
theorem XOk.gl(h:XOk C X cl){x:Str}(v:glB C x=true):Gl X x/\iY x=true:=by
 unfold glB at v
 rw[<-h.scope,Bool.and_eq_true,beq_iff_eq]at v
 exact v
theorem XOk.bl(h:XOk C X cl){x:Str}(v:vm C x=true):Gl X x/\X.mg x=none:=by
 unfold vm at v
 rw[Bool.and_eq_true]at v
 exact⟨(h.gl v.1).1,h.blt x (by simpa using v.2)⟩
theorem XOk.nm(h:XOk C X cl){i:Nat}{x:Str}(v:nmB C i x=true):X.N[i]?=some x/\iY x=true:=by
 unfold nmB at v
 rw[<-h.names,Bool.and_eq_true,beq_iff_eq]at v
 exact v
theorem XOk.ndX(h:XOk C X cl):X.N.Nodup:=by rw[h.names];exact h.nd
theorem XOk.blk(h:XOk C X cl){scope:Scope}(cls:List (Str × Addr))(Ca:Addr)(fp:List Addr)(s:Shared)(H:Hp):XOk (C.inner scope) (L2.blk X scope cls Ca fp s H) cl where
 scope:=by
  show relabel scope X.env=C8 scope C.sc
  rw[<-h.scope]
  rfl
 names:=h.names
 nd:=h.nd
 calm:=h.calm
 xe:=rfl
 hu:=h.hu
 blt:=h.blt
 glb:=h.glb
 fns:=h.fns
noncomputable def l7:RL.D->Const->Bool
 | .int i,.int j=>i == j
 | .bl i,.bool j=>i == j
 | .non,.none=>true
 | .str x,.str y=>x == y
 | _,_=>false
noncomputable def plainT:Expr->Bool
 | .UnaryOp .Not _ _=>false
 | .BoolOp _ _ _=>false
 | .IfExp _ _ _ _=>false
 | .Compare _ _ _ _=>false
 | _=>true
noncomputable def rh:Expr->Bool
 | .BoolOp _ _ _=>true
 | _=>false
noncomputable def nD:Expr->Bool
 | .Set _ _ _=>false
 | _=>true
noncomputable def v8:RL.Bi->Option Str
 | .len=>some "len"
 | .list=>some "list"
 | .tuple=>some "tuple"
 | .int=>some "int"
 | .all=>some "all"
 | .any=>some "any"
 | .sorted=>some "sorted"
 | _=>none
noncomputable def vz:RL.Ty->Str
 | .int => "int"
 | .bool => "bool"
 | .list => "list"
 | .tuple => "tuple"
 | .str => "str"
noncomputable def HV(neg:Bool):CmpOp:=if neg then .IsNot else .Is
noncomputable def CM(neg:Bool):CmpOp:=if neg then .NotIn else .In
noncomputable def qe(C:CC)(i:Nat)(e:Expr):Bool:=(gx e).any fun x=>nmB C i x&&zh C x
noncomputable def ij(C:CC)(i:Nat)(e:Expr):Bool:=(gx e).any fun x=>nmB C i x&&zb C x
noncomputable def kX(C:CC):List Nat->List Expr->Bool
 | [],es=>es.isEmpty
 | i::is,es=>match es with
  | e::es=>ij C i e&&kX C is es
  | []=>false
noncomputable def oV(C:CC)(tg:List Nat)(e:Expr):Bool :=
 match tg with
 | [i]=>ij C i e
 | tg=>(kF e).any fun es=>kX C tg es
noncomputable def mR(C:CC)(tg:List Nat):Bool:=tg.all fun i=>match C.N[i]? with
 | some x=>C.sc.names.lookup x == some .local
 | none=>false
noncomputable def mN(C:CC)(scope:Scope)(tg:List Nat):Bool:=(List.range C.N.length).all fun i=>match C.N[i]? with
 | some x=>!(scope.names.lookup x == some .local) || tg.contains i
 | none=>true
noncomputable def scB(scope sc:Scope):Bool:=scope.kind == .function&&scope.names.all (fun x=>!(x.2 == .cell)&&(!(x.2 == .local) || scope.names.lookup x.1 == some .local)&&(!(x.2 == .free) || sc.names.lookup x.1 == some .cell || sc.names.lookup x.1 == some .free))
noncomputable def cu(C:CC)(e:Expr)(nm:Str)(f:List Expr->Bool):Bool:=(kW e).any fun q=>(gx q.1).any (fun x=>x == nm&&vm C x)&&q.2.2.1.isEmpty&&q.2.1.all noStar&&f q.2.1
theorem bF{nm:Str}{f:List Expr->Bool}(h:XOk C X cl)(z:cu C e nm f=true):∃ p as pos,e=.Call (.Name nm p) as [] pos/\Gl X nm/\X.mg nm=none/\as.all noStar=true/\f as=true:=by
 unfold cu at z
 obtain⟨⟨g,as,ks,pos⟩,z0,z⟩:=aw z
 have e0:=gN z0
 subst e0
 obtain⟨z,z4⟩:=ae z
 obtain⟨z,z3⟩:=ae z
 obtain⟨z1,z2⟩:=ae z
 obtain⟨x,y0,z1⟩:=aw z1
 obtain⟨p,rfl⟩:=dF y0
 obtain⟨y1,y2⟩:=ae z1
 rw[beq_iff_eq]at y1
 subst y1
 obtain⟨b1,b2⟩:=h.bl y2
 rw[List.isEmpty_iff]at z2
 subst z2
 exact⟨p,as,pos,rfl,b1,b2,z3,z4⟩
theorem all1{a:Expr}(h:[a].all noStar=true):noStar a=true:=by simpa using h
theorem all2{a b:Expr}(h:[a,b].all noStar=true):noStar a=true/\noStar b=true:=by simpa using h
theorem iE{a b c:Expr}(h:[a,b,c].all noStar=true):noStar a=true/\noStar b=true/\noStar c=true:=by simpa using h
end
mutual
noncomputable def chk(C:CC)(t:Bool):RL.E->Expr->Bool
 | .var i=>fun e=>qe C i e
 | .cst d=>fun e=>(yZ e).any fun k=>l7 d k
 | .glb y i=>fun e=>(gx e).any fun x=>x == y&&glB C x&&C.G.lookup x == some i
 | .bin o a b=>fun e=>(CS e).any fun q=>q.2.1 == qD o&&chk C false a q.1&&chk C false b q.2.2
 | .neg a=>fun e=>(vUn e).any fun q=>q.1 == .USub&&chk C false a q.2
 | .cmp c a b=>fun e=>(kH e).any fun q=>of1 q.2.1 fun op=>of1 q.2.2 fun r=>op == bK c&&chk C false a q.1&&chk C false b r
 | .chain c c' a b d=>fun e=>(kH e).any fun q=>of2 q.2.1 fun op op'=>of2 q.2.2 fun r s=>op == bK c&&op' == bK c'&&chk C false a q.1&&chk C false b r&&chk C false d s
 | .isB _ _ _=>fun _=>false
 | .isN neg a=>fun e=>(kH e).any fun q=>of1 q.2.1 fun op=>of1 q.2.2 fun r=>op == HV neg&&(yZ r).any (fun k=>l7 .non k)&&chk C false a q.1
 | .inn neg a b=>fun e=>(kH e).any fun q=>of1 q.2.1 fun op=>of1 q.2.2 fun r=>op == CM neg&&mH r&&chk C false a q.1&&chk C false b r
 | .inD neg a b=>fun e=>(kH e).any fun q=>of1 q.2.1 fun op=>of1 q.2.2 fun r=>op == CM neg&&mH r&&chk C false a q.1&&chk C false b r
 | .and a b=>fun e=>(vBool e).any fun q=>ofM q.2.1 fun l r rest=>q.1 == .And&&chk C t a l&&(if rest.isEmpty then chk C t b r else chk C t b (.BoolOp .And (r::rest) q.2.2))
 | .or a b=>fun e=>(vBool e).any fun q=>ofM q.2.1 fun l r rest=>q.1 == .Or&&chk C t a l&&(if rest.isEmpty then chk C t b r else chk C t b (.BoolOp .Or (r::rest) q.2.2))
 | .not a=>fun e=>(vUn e).any fun q=>q.1 == .Not&&chk C t a q.2
 | .ifx c a b=>fun e=>(DZ e).any fun q=>!t&&chk C true c q.1&&chk C false a q.2.1&&chk C false b q.2.2
 | .tup es=>fun e=>(kF e).any fun xs=>mZ C es xs&&decide (eV es<=1000)
 | .lst es=>fun e=>(DV e).any fun xs=>mZ C es xs&&decide (eV es<=1000)
 | .ix a b=>fun e=>(oF e).any fun q=>m5 q.2&&chk C false a q.1&&chk C false b q.2
 | .ixD a b=>fun e=>(oF e).any fun q=>m5 q.2&&chk C false a q.1&&chk C false b q.2
 | .slT a b=>fun e=>(oF e).any fun q=>chk C false a q.1&&(vSl q.2).any fun s=>s.1.isNone&&s.2.2.isNone&&s.2.1.any fun r=>chk C false b r
 | .slF a b=>fun e=>(oF e).any fun q=>chk C false a q.1&&(vSl q.2).any fun s=>s.2.1.isNone&&s.2.2.isNone&&s.1.any fun r=>chk C false b r
 | .rev _=>fun _=>false
 | .call f es=>fun e=>(kW e).any fun q=>(gx q.1).any (fun x=>glB C x&&C.F[f]? == some (x,[]))&&q.2.2.1.isEmpty && !q.2.1.isEmpty&&mZ C es q.2.1
 | .bi b a=>fun e=>match b with
  | .lenSet=>cu C e "len" fun ys=>of1 ys fun y=>cu C y "set" fun zs=>of1 zs fun z=>chk C false a z
  | b=>(v8 b).any fun x=>cu C e x fun ys=>of1 ys fun y=>chk C false a y
 | .max a b=>fun e=>cu C e "max" fun ys=>of2 ys fun y z=>chk C false a y&&chk C false b z
 | .min _ _=>fun _=>false
 | .isi a ty=>fun e=>cu C e "isinstance" fun ys=>of2 ys fun y z=>(gx z).any (fun x=>x == vz ty&&vm C x)&&chk C false a y
 | .rng1 a=>fun e=>cu C e "list" fun ys=>of1 ys fun y=>cu C y "range" fun zs=>of1 zs fun z=>chk C false a z
 | .rng2 a b=>fun e=>cu C e "list" fun ys=>of1 ys fun y=>cu C y "range" fun zs=>of2 zs fun z u=>chk C false a z&&chk C false b u
 | .rng3 c a b=>fun e=>cu C e "list" fun ys=>of1 ys fun y=>cu C y "range" fun zs=>of3 zs fun z u q=>jw c q&&chk C false a z&&chk C false b u
 | .comp d tg it c=>fun e=>(uQ e).any fun q=>of1 q.2.1 fun g=>of1 g.ifs fun w=>g.is_async == 0&&scB q.2.2.1 C.sc&&mN C q.2.2.1 tg&&nD g.iter&&oV (C.inner q.2.2.1) tg g.target&&mR (C.inner q.2.2.1) tg&&j2 C it g.target g.iter&&chk (C.inner q.2.2.1) false d q.1&&chk (C.inner q.2.2.1) true c w
 | .compA d tg it=>fun e=>(uQ e).any fun q=>of1 q.2.1 fun g=>g.ifs.isEmpty&&g.is_async == 0&&scB q.2.2.1 C.sc&&mN C q.2.2.1 tg&&nD g.iter&&oV (C.inner q.2.2.1) tg g.target&&mR (C.inner q.2.2.1) tg&&j2 C it g.target g.iter&&chk (C.inner q.2.2.1) false d q.1
 | .compL _ _ _=>fun _=>false
 | .dk0=>fun e=>(v7 e).any fun q=>q.1.isEmpty&&q.2.isEmpty
 | .dt0=>fun e=>(v7 e).any fun q=>q.1.isEmpty&&q.2.isEmpty
 | .chain3 c c' c'' a b d g=>fun e=>!t&&(kH e).any fun q=>of3 q.2.1 fun op op' op''=>of3 q.2.2 fun r s u=>op == bK c&&op' == bK c'&&op'' == bK c''&&chk C false a q.1&&chk C false b r&&chk C false d s&&chk C false g u
 | .slB _ _ _=>fun _=>false
 | .index a b=>fun e=>(kW e).any fun q=>(uL q.1).any (fun u=>u.2.1 == ("index" : Str)&&u.2.2.endLine == q.2.2.2.line&&(gx u.1).isSome&&chk C false a u.1)&&q.2.2.1.isEmpty&&of1 q.2.1 fun y=>noStar y&&chk C false b y
 | .join _=>fun _=>false
noncomputable def mZ(C:CC):RL.Es->List Expr->Bool
 | .nil=>fun xs=>xs.isEmpty
 | .cons e es=>fun xs=>match xs with
  | x::xs=>noStar x&&chk C false e x&&mZ C es xs
  | []=>false
noncomputable def j2(C:CC):RL.It->Expr->Expr->Bool
 | .seq a=>fun _ e=>chk C false a e
 | .rng1 a=>fun _ e=>cu C e "range" fun ys=>of1 ys fun y=>chk C false a y
 | .rng2 a b=>fun _ e=>cu C e "range" fun ys=>of2 ys fun y z=>chk C false a y&&chk C false b z
 | .rng3 c a b=>fun _ e=>cu C e "range" fun ys=>of3 ys fun y z q=>jw c q&&chk C false a y&&chk C false b z
 | .chr _=>fun _ _=>false
 | .enm a=>fun tg e=>(kF tg).isSome&&cu C e "enumerate" fun ys=>of1 ys fun y=>chk C false a y
 | .zip a b=>fun tg e=>(kF tg).isSome&&cu C e "zip" fun ys=>of2 ys fun y z=>chk C false a y&&chk C false b z
 | .nope=>fun _ _=>false
end
noncomputable def qM(X:Cx)(cl:RL.Cl)(e:Expr)(e':RL.E)(b b':Bool):Prop:=(b=true->SE X cl e e')/\(b'=true->ST X cl e e'/\(rh e=true->SW X cl e e'))
section
variable{C:CC}{X:Cx}{cl:RL.Cl}{e:Expr}{e':RL.E}{b:Bool}
theorem vn{env:Env}(h:plainT e=true)(whole:Sem Value):isTrue e env whole=(do let v <- whole;standAt e.pos;holding [v] (truthy v)):=by
 cases e<;>first
  | rfl
  | (cases h;done)
  | (rename_i op _ _;cases op<;>first | rfl | (cases h;done))
theorem aH(h:b=true->SE X cl e e'/\plainT e=true):qM X cl e e' b b :=
 ⟨fun z=>(h z).1,fun z=>⟨yP (h z).1 (vn (h z).2),fun q=>by
  have:=(h z).2
  cases e<;>first | (cases q;done) | (cases this;done)⟩⟩
theorem gL(h:b=true->SE X cl e e'/\ST X cl e e'/\rh e=false):qM X cl e e' b b :=
 ⟨fun z=>(h z).1,fun z=>⟨(h z).2.1,fun q=>by rw[(h z).2.2]at q;cases q⟩⟩
theorem lr(h:b=false){b':Bool}(h':b'=false):qM X cl e e' b b':=⟨fun z=>(by rw[h]at z;cases z),fun z=>(by rw[h']at z;cases z)⟩
theorem Ez{d:RL.D}{k:Const}{j:Nat}{pos:Pos}(h:l7 d k=true):SE X cl (.Constant k j pos) (.cst d):=by
 cases d<;>cases k<;>simp only[l7]at h<;>first | (cases h;done) | skip
 case non.none=>exact nC qN (fun P H=>by rw[Rep]) rfl
 case bl.bool i j=>rw[beq_iff_eq]at h;subst h;exact nC GF (fun P H=>nR) rfl
 case int.int i j=>rw[beq_iff_eq]at h;subst h;exact nC sP (fun P H=>aY) rfl
 case str.str i j=>rw[beq_iff_eq]at h;subst h;exact nC Cz (fun P H=>iV) rfl
theorem Ct{k:Const}(h:l7 .non k=true):k=.none:=by
 cases k<;>simp only[l7]at h<;>first | (cases h;done) | rfl
theorem x4(t:RL.Ty):bootBuiltins (vz t)=some (.type (tyN t))/\vz t ≠ "__name__" /\ (vz t == ("__debug__" : Str))=false:=by
 cases t<;>exact⟨by decide +kernel,by decide +kernel,by decide +kernel⟩
theorem fT(h:nD e=true)(env:Env)(x:Value):foldedSetIterable e env x=pure x:=by
 cases e<;>first | rfl | (cases h;done)
theorem Gk(hcalm:X.calm=true){o:RL.Bi}{x:Str}{p pos:Pos}(hx:v8 o=some x)(hb:Gl X x)(hb2:X.mg x=none)(ha:SE X cl y a')(hn:noStar y=true):SE X cl (.Call (.Name x p) [y] [] pos) (.bi o a'):=by
 cases o<;>simp only[v8]at hx<;>first | (cases hx;done) | skip
 case len=>cases hx;exact Cw hb hb2 ha hn
 case list=>cases hx;exact Cp hb hb2 ha hn
 case tuple=>cases hx;exact Am hb hb2 ha hn
 case int=>cases hx;exact C7 hb hb2 ha hn
 case all=>cases hx;exact F6 hcalm hb hb2 ha hn
 case any=>cases hx;exact Dc hcalm hb hb2 ha hn
 case sorted=>cases hx;exact xN hb hb2 ha hn
theorem wz{r:Expr}(h:m5 r=true):vC r:=by
 cases r<;>first | (cases h;done) | (intro a b;rfl) | skip
theorem iN{i:Nat}(h:XOk C X cl)(z:qe C i e=true):∃ x p,e=.Name x p/\X.N[i]?=some x/\Vis X.env.scope x/\(x == ("__debug__" : Str))=false/\(x == ("__classdict__" : Str))=false:=by
 obtain⟨x,z0,z⟩:=aw z
 obtain⟨p,rfl⟩:=dF z0
 obtain⟨z1,z2⟩:=ae z
 obtain⟨g1,g2⟩:=h.nm z1
 exact⟨x,p,rfl,g1,h.vis z2,(eW g2).1,(eW g2).2⟩
theorem hG{i:Nat}(h:XOk C X cl)(z:ij C i e=true):∃ x p,e=.Name x p/\X.N[i]?=some x/\Loc X.env.scope x:=by
 obtain⟨x,z0,z⟩:=aw z
 obtain⟨p,rfl⟩:=dF z0
 obtain⟨z1,z2⟩:=ae z
 exact⟨x,p,rfl,(h.nm z1).1,h.loc z2⟩
theorem oI(h:XOk C X cl){T:List Nat}(hf:∀ i x,i∈T->X.N[i]?=some x->X.fn x=true\/X.env.scope.names.lookup x=some .local):∀ {is:List Nat} {es:List Expr},(∀ i∈is,i∈T)->kX C is es=true->PGs X es (gs is)/\(assignEach es X.env).length=is.length/\(assignEach es X.env).findIdx? (·.1)=none
 | [],es,_,z=>by
  rw[kX,List.isEmpty_iff]at z
  subst z
  exact⟨BO,rfl,rfl⟩
 | i::is,[],_,z=>by cases z
 | i::is,e::es,hs,z=>by
  rw[kX]at z
  obtain⟨z1,z2⟩:=ae z
  obtain⟨x,p,rfl,g1,g2⟩:=hG h z1
  obtain⟨h1,h2,h3⟩:=oI h hf (fun j hj=>hs j (List.mem_cons_of_mem _ hj)) z2
  refine⟨yU (u9 h.ndX g1 g2 (hf i x (hs i List.mem_cons_self) g1)) h1,?_,?_⟩
  ·show(assignEach es X.env).length+1=is.length+1
   rw[h2]
  ·show List.findIdx? (·.1) ((false,assign (.Name x p) X.env)::assignEach es X.env)=none
   rw[List.findIdx?_cons]
   simp only[Bool.false_eq_true,if_false,h3,Option.map_none]
theorem wZ{tg:List Nat}{tgE:Expr}(h:XOk C X cl)(hf:∀ i x,i∈tg->X.N[i]?=some x->X.fn x=true\/X.env.scope.names.lookup x=some .local)(hc:oV C tg tgE=true):PG X tgE (gT X.K tg):=by
 unfold oV at hc
 split at hc
 ·obtain⟨x,p,rfl,g1,g2⟩:=hG h hc
  exact u9 h.ndX g1 g2 (hf _ x (by simp) g1)
 ·rename_i hne
  obtain⟨es,z0,z⟩:=aw hc
  obtain⟨k,p,rfl⟩:=fF z0
  obtain⟨h1,h2,h3⟩:=oI h hf (fun i hi=>hi) z
  have e:gT X.K tg=fun v σ H Q=>ox X.K tg.length (gs tg) v σ H Q\/oT X.K tg.length (gs tg) v σ H Q:=by
   unfold gT
   split
   ·rename_i i
    exact absurd rfl (hne i)
   ·rfl
  rw[e]
  exact yh (xT h.calm h1 h2 h3) (wb h.calm h1 h2 h3)
theorem Fw{x:Str}{i:Int}{pos:Pos}(h:XOk C X cl)(hg:glB C x=true)(hl:C.G.lookup x=some i):SE X cl (.Name x pos) (.glb x i):=by
 obtain⟨u,h1,h2⟩:=h.glb x i hl
 obtain⟨g1,g2⟩:=h.gl hg
 exact CZ (u:=u) (BP g1 h1 h2 (eW g2).1)
theorem BS{x:Str}{f:Nat}{p pos:Pos}{y:Expr}{ys:List Expr}{es:RL.Es}(h:XOk C X cl)(hg:glB C x=true)(hf:C.F[f]?=some (x,[]))(he:SEs X cl (y::ys) es)(hl:eV es=ys.length+1)(hn:noStar y=true)(hns:ys.all noStar=true) :
  SE X cl (.Call (.Name x p) (y::ys) [] pos) (.call f es):=by
 obtain⟨k,fa,fd,ps,F,hr,hm,hk,hb⟩:=h.fns f x [] hf
 obtain⟨g1,g2⟩:=h.gl hg
 rw[if_pos rfl]at F
 cases es with
 | nil=>simp[eV]at hl
 | cons e' es'=>exact BR F hr g1 hm hk hb he (eW g2).1 hn hns
theorem qa{scope sc:Scope}(h:scB scope sc=true):p6 scope sc:=by
 unfold scB at h
 obtain⟨h1,h2⟩:=ae h
 rw[List.all_eq_true]at h2
 refine⟨by simpa using h1,fun x hx z=>?_,fun x hx z=>?_,fun x hx z=>?_⟩
 ·have:=h2 x hx
  rw[z]at this
  simp at this
 ·have:=h2 x hx
  rw[z]at this
  simpa using this
 ·have:=h2 x hx
  rw[z]at this
  simpa using this
theorem jG{scope:Scope}{tg:List Nat}(h:mN C scope tg=true)(i:Nat)(x:Str)(hx:C.N[i]?=some x)(hl:scope.names.lookup x=some .local):tg.contains i=true:=by
 unfold mN at h
 rw[List.all_eq_true]at h
 have:=h i (List.mem_range.mpr (List.getElem?_eq_some_iff.mp hx).1)
 rw[hx]at this
 simp only[hl,beq_self_eq_true,Bool.not_true,Bool.false_or]at this
 exact this
theorem pP{X:Cx}{cls:List (Str × Addr)}{scope:Scope}{Ca:Addr}{fp:List Addr}{s:Shared}{H:Hp}{pins:List (Addr × Obj)}{s':Shared}{σ:L2.St}{H':Hp}(I:Inv (L2.blk X scope cls Ca fp s H) pins σ H' s')(q:nK σ H' Q) :
  wpAny (model X.prog X.w) X.A (hW [] (compEnvC scope cls Ca X.env)) (TP (L2.blk X scope cls Ca fp s H) pins σ Q) (fun _ _=>False) s':=by
 unfold hW
 exact wpAny_pure ⟨H',I,q⟩
theorem pA{X:Cx}{cls:List (Str × Addr)}{scope:Scope}{Ca:Addr}{fp:List Addr}{s:Shared}{H:Hp}{pins:List (Addr × Obj)}{s':Shared}{σ:L2.St}{H':Hp}{c:Expr}{t:TT}(hc:PT (L2.blk X scope cls Ca fp s H) c t)(I:Inv (L2.blk X scope cls Ca fp s H) pins σ H' s')(q:t σ H' Q) :
  wpAny (model X.prog X.w) X.A (hW [c] (compEnvC scope cls Ca X.env)) (TP (L2.blk X scope cls Ca fp s H) pins σ Q) (fun _ _=>False) s':=by
 have h:=hc pins s' σ H' Q I q
 unfold hW
 simp only[List.forIn_cons,List.forIn_nil,if_true]
 refine wpAny_bind (wpAny_bind (thn h fun b s1 hb=>wpAny_pure ?_))
 exact wpAny_pure hb
theorem nh(h:XOk C X cl){scope:Scope}{cls:List (Str × Addr)}{Ca:Addr}{fp:List Addr}{s:Shared}{H:Hp}{tg:List Nat}(ha:mR (C.inner scope) tg=true){tgE:Expr}(hc:oV (C.inner scope) tg tgE=true):PG (L2.blk X scope cls Ca fp s H) tgE (gT X.K tg):=by
 have hb:=h.blk (scope:=scope) cls Ca fp s H
 unfold mR at ha
 rw[List.all_eq_true]at ha
 refine wZ hb (fun i x hi hx=>.inr ?_) hc
 have:=ha i hi
 rw[hb.names]at hx
 rw[hx]at this
 rw[hb.scope]
 simpa using this
theorem lI{α:Type}{o:Option α}(h:o.isNone=true):o=none:=by
 cases o with
 | none=>rfl
 | some _=>cases h
end
mutual
theorem ak{cl:RL.Cl}:∀ (e':RL.E) {C:CC} {X:Cx} (h:XOk C X cl) (e:Expr),qM X cl e e' (chk C false e' e) (chk C true e' e)
 | .var i,C,X,h,e=>aH (b:=chk C false (.var i) e) fun z=>by
  obtain⟨x,p,rfl,g1,g2,g3,g4⟩:=iN h z
  exact⟨Fq g1 g2 g3 g4,rfl⟩
 | .cst d,C,X,h,e=>aH (b:=chk C false (.cst d) e) fun z=>by
  obtain⟨k,z0,z⟩:=aw z
  obtain⟨j,p,rfl⟩:=t7 z0
  exact⟨Ez z,rfl⟩
 | .glb y i,C,X,h,e=>aH (b:=chk C false (.glb y i) e) fun z=>by
  obtain⟨x,z0,z⟩:=aw z
  obtain⟨p,rfl⟩:=dF z0
  obtain⟨z,z3⟩:=ae z
  obtain⟨z1,z2⟩:=ae z
  rw[beq_iff_eq]at z1 z3
  subst z1
  exact⟨Fw h z2 z3,rfl⟩
 | .bin o a b,C,X,h,e=>aH (b:=chk C false (.bin o a b) e) fun z=>by
  obtain⟨⟨l,op,r⟩,z0,z⟩:=aw z
  obtain⟨p,rfl⟩:=Bn z0
  obtain⟨z,z3⟩:=ae z
  obtain⟨z1,z2⟩:=ae z
  rw[beq_iff_eq]at z1
  have z1:op=qD o:=z1
  subst z1
  exact⟨DC ((ak a h l).1 z2) ((ak b h r).1 z3),rfl⟩
 | .neg a,C,X,h,e=>aH (b:=chk C false (.neg a) e) fun z=>by
  obtain⟨⟨op,x⟩,z0,z⟩:=aw z
  obtain⟨p,rfl⟩:=qv z0
  obtain⟨z1,z2⟩:=ae z
  rw[beq_iff_eq]at z1
  have z1:op=.USub:=z1
  subst z1
  exact⟨Dv ((ak a h x).1 z2),rfl⟩
 | .cmp c a b,C,X,h,e=>gL (b:=chk C false (.cmp c a b) e) fun z=>by
  obtain⟨⟨l,os,rs⟩,z0,z⟩:=aw z
  obtain⟨p,rfl⟩:=fB z0
  obtain⟨op,y1,z⟩:=aR z
  obtain⟨r,y2,z⟩:=aR z
  have y1:os=[op]:=y1
  have y2:rs=[r]:=y2
  subst y1 y2
  obtain⟨z,z3⟩:=ae z
  obtain⟨z1,z2⟩:=ae z
  rw[beq_iff_eq]at z1
  subst z1
  exact⟨Dp h.hu ((ak a h l).1 z2) ((ak b h r).1 z3),CN h.hu ((ak a h l).1 z2) ((ak b h r).1 z3),rfl⟩
 | .chain c c' a b d,C,X,h,e=>gL (b:=chk C false (.chain c c' a b d) e) fun z=>by
  obtain⟨⟨l,os,rs⟩,z0,z⟩:=aw z
  obtain⟨p,rfl⟩:=fB z0
  obtain⟨op,op',y1,z⟩:=fw z
  obtain⟨r,s,y2,z⟩:=fw z
  have y1:os=[op,op']:=y1
  have y2:rs=[r,s]:=y2
  subst y1 y2
  obtain⟨z,z5⟩:=ae z
  obtain⟨z,z4⟩:=ae z
  obtain⟨z,z3⟩:=ae z
  obtain⟨z1,z2⟩:=ae z
  rw[beq_iff_eq]at z1 z2
  subst z1 z2
  exact⟨yt h.hu ((ak a h l).1 z3) ((ak b h r).1 z4) ((ak d h s).1 z5),yI h.hu ((ak a h l).1 z3) ((ak b h r).1 z4) ((ak d h s).1 z5),rfl⟩
 | .isB _ _ _,C,X,h,e=>lr rfl rfl
 | .isN neg a,C,X,h,e=>gL (b:=chk C false (.isN neg a) e) fun z=>by
  obtain⟨⟨l,os,rs⟩,z0,z⟩:=aw z
  obtain⟨p,rfl⟩:=fB z0
  obtain⟨op,y1,z⟩:=aR z
  obtain⟨r,y2,z⟩:=aR z
  have y1:os=[op]:=y1
  have y2:rs=[r]:=y2
  subst y1 y2
  obtain⟨z,z3⟩:=ae z
  obtain⟨z1,z2⟩:=ae z
  rw[beq_iff_eq]at z1
  subst z1
  obtain⟨k,w0,w⟩:=aw z2
  obtain⟨j,q,rfl⟩:=t7 w0
  have w:=Ct w
  subst w
  exact⟨ED ((ak a h l).1 z3),Fy ((ak a h l).1 z3),rfl⟩
 | .inn neg a b,C,X,h,e=>gL (b:=chk C false (.inn neg a b) e) fun z=>by
  obtain⟨⟨l,os,rs⟩,z0,z⟩:=aw z
  obtain⟨p,rfl⟩:=fB z0
  obtain⟨op,y1,z⟩:=aR z
  obtain⟨r,y2,z⟩:=aR z
  have y1:os=[op]:=y1
  have y2:rs=[r]:=y2
  subst y1 y2
  obtain⟨z,z4⟩:=ae z
  obtain⟨z,z3⟩:=ae z
  obtain⟨z1,z2⟩:=ae z
  rw[beq_iff_eq]at z1
  subst z1
  exact⟨Dk ((ak a h l).1 z3) ((ak b h r).1 z4) z2,Fx ((ak a h l).1 z3) ((ak b h r).1 z4) z2,rfl⟩
 | .inD neg a b,C,X,h,e=>gL (b:=chk C false (.inD neg a b) e) fun z=>by
  obtain⟨⟨l,os,rs⟩,z0,z⟩:=aw z
  obtain⟨p,rfl⟩:=fB z0
  obtain⟨op,y1,z⟩:=aR z
  obtain⟨r,y2,z⟩:=aR z
  have y1:os=[op]:=y1
  have y2:rs=[r]:=y2
  subst y1 y2
  obtain⟨z,z4⟩:=ae z
  obtain⟨z,z3⟩:=ae z
  obtain⟨z1,z2⟩:=ae z
  rw[beq_iff_eq]at z1
  subst z1
  exact⟨D4 h.hu ((ak a h l).1 z3) ((ak b h r).1 z4) z2,E2 h.hu ((ak a h l).1 z3) ((ak b h r).1 z4) z2,rfl⟩
 | .and a b,C,X,h,e=>⟨(fun z=>by
   obtain⟨⟨op,es,p⟩,z0,z⟩:=aw z
   obtain⟨l,r,rest,y1,z⟩:=nT z
   have e0:=jJ z0
   have y1:es=l::r::rest:=y1
   obtain⟨z,z3⟩:=ae z
   obtain⟨z1,z2⟩:=ae z
   rw[beq_iff_eq]at z1
   have z1:op=.And:=z1
   subst y1 z1 e0
   refine D7 ((ak a h l).1 z2) ?_
   split at z3
   ·rename_i hr
    rw[List.isEmpty_iff]at hr
    subst hr
    exact ya ((ak b h r).1 z3)
   ·exact(ak b h _).1 z3),(fun z=>by
   obtain⟨⟨op,es,p⟩,z0,z⟩:=aw z
   obtain⟨l,r,rest,y1,z⟩:=nT z
   have e0:=jJ z0
   have y1:es=l::r::rest:=y1
   obtain⟨z,z3⟩:=ae z
   obtain⟨z1,z2⟩:=ae z
   rw[beq_iff_eq]at z1
   have z1:op=.And:=z1
   subst y1 z1 e0
   have w:SW X cl (.BoolOp .And (l::r::rest) p) (.and a b):=by
    refine E1 ((ak a h l).2 z2).1 ?_
    split at z3
    ·rename_i hr
     rw[List.isEmpty_iff]at hr
     subst hr
     exact xv ((ak b h r).2 z3).1
    ·exact((ak b h _).2 z3).2 rfl
   exact⟨w.pt,fun _=>w⟩)⟩
 | .or a b,C,X,h,e=>⟨(fun z=>by
   obtain⟨⟨op,es,p⟩,z0,z⟩:=aw z
   obtain⟨l,r,rest,y1,z⟩:=nT z
   have e0:=jJ z0
   have y1:es=l::r::rest:=y1
   obtain⟨z,z3⟩:=ae z
   obtain⟨z1,z2⟩:=ae z
   rw[beq_iff_eq]at z1
   have z1:op=.Or:=z1
   subst y1 z1 e0
   refine Gs ((ak a h l).1 z2) ?_
   split at z3
   ·rename_i hr
    rw[List.isEmpty_iff]at hr
    subst hr
    exact ya ((ak b h r).1 z3)
   ·exact(ak b h _).1 z3),(fun z=>by
   obtain⟨⟨op,es,p⟩,z0,z⟩:=aw z
   obtain⟨l,r,rest,y1,z⟩:=nT z
   have e0:=jJ z0
   have y1:es=l::r::rest:=y1
   obtain⟨z,z3⟩:=ae z
   obtain⟨z1,z2⟩:=ae z
   rw[beq_iff_eq]at z1
   have z1:op=.Or:=z1
   subst y1 z1 e0
   have w:SW X cl (.BoolOp .Or (l::r::rest) p) (.or a b):=by
    refine GB ((ak a h l).2 z2).1 ?_
    split at z3
    ·rename_i hr
     rw[List.isEmpty_iff]at hr
     subst hr
     exact xv ((ak b h r).2 z3).1
    ·exact((ak b h _).2 z3).2 rfl
   exact⟨w.pt,fun _=>w⟩)⟩
 | .not a,C,X,h,e=>⟨(fun z=>by
   obtain⟨⟨op,x⟩,z0,z⟩:=aw z
   obtain⟨p,rfl⟩:=qv z0
   obtain⟨z1,z2⟩:=ae z
   rw[beq_iff_eq]at z1
   have z1:op=.Not:=z1
   subst z1
   exact EV ((ak a h x).1 z2)),(fun z=>by
   obtain⟨⟨op,x⟩,z0,z⟩:=aw z
   obtain⟨p,rfl⟩:=qv z0
   obtain⟨z1,z2⟩:=ae z
   rw[beq_iff_eq]at z1
   have z1:op=.Not:=z1
   subst z1
   exact⟨C1 ((ak a h x).2 z2).1,fun q=>by cases q⟩)⟩
 | .ifx c a b,C,X,h,e=>⟨(fun z=>by
   obtain⟨⟨q,l,r⟩,z0,z⟩:=aw z
   obtain⟨p,rfl⟩:=AX z0
   obtain⟨z,z4⟩:=ae z
   obtain⟨z,z3⟩:=ae z
   obtain⟨z1,z2⟩:=ae z
   exact F1 ((ak c h q).2 z2).1 ((ak a h l).1 z3) ((ak b h r).1 z4)),(fun z=>by
   obtain⟨⟨q,l,r⟩,z0,z⟩:=aw z
   obtain⟨z,z4⟩:=ae z
   obtain⟨z,z3⟩:=ae z
   obtain⟨z1,z2⟩:=ae z
   cases z1)⟩
 | .tup es,C,X,h,e=>aH (b:=chk C false (.tup es) e) fun z=>by
  obtain⟨xs,z0,z⟩:=aw z
  obtain⟨k,p,rfl⟩:=fF z0
  obtain⟨z1,z2⟩:=ae z
  exact⟨CU (jh es h _ z1).1 (by simpa using z2),rfl⟩
 | .lst es,C,X,h,e=>aH (b:=chk C false (.lst es) e) fun z=>by
  obtain⟨xs,z0,z⟩:=aw z
  obtain⟨p,rfl⟩:=Ci z0
  obtain⟨z1,z2⟩:=ae z
  exact⟨DG (jh es h _ z1).1 (by simpa using z2),rfl⟩
 | .ix a b,C,X,h,e=>aH (b:=chk C false (.ix a b) e) fun z=>by
  obtain⟨⟨l,r⟩,z0,z⟩:=aw z
  obtain⟨p,rfl⟩:=iZ z0
  obtain⟨z,z3⟩:=ae z
  obtain⟨z1,z2⟩:=ae z
  exact⟨GH ((ak a h l).1 z2) ((ak b h r).1 z3) z1,rfl⟩
 | .ixD a b,C,X,h,e=>aH (b:=chk C false (.ixD a b) e) fun z=>by
  obtain⟨⟨l,r⟩,z0,z⟩:=aw z
  obtain⟨p,rfl⟩:=iZ z0
  obtain⟨z,z3⟩:=ae z
  obtain⟨z1,z2⟩:=ae z
  exact⟨C4 h.hu ((ak a h l).1 z2) ((ak b h r).1 z3) (wz z1),rfl⟩
 | .slT a b,C,X,h,e=>aH (b:=chk C false (.slT a b) e) fun z=>by
  obtain⟨⟨l,s⟩,z0,z⟩:=aw z
  obtain⟨p,rfl⟩:=iZ z0
  obtain⟨z1,z⟩:=ae z
  obtain⟨⟨s1,s2,s3⟩,z0,z⟩:=aw z
  obtain⟨q,e0⟩:=xI z0
  have e0:s=.Slice s1 s2 s3 q:=e0
  obtain⟨z,z4⟩:=ae z
  obtain⟨z2,z3⟩:=ae z
  have w2:s1=none:=lI z2
  have w3:s3=none:=lI z3
  obtain⟨r,y0,z4⟩:=aw z4
  have y1:s2=some r:=y0
  rw[w2,w3,y1]at e0
  subst e0
  exact⟨CG ((ak a h l).1 z1) ((ak b h r).1 z4),rfl⟩
 | .slF a b,C,X,h,e=>aH (b:=chk C false (.slF a b) e) fun z=>by
  obtain⟨⟨l,s⟩,z0,z⟩:=aw z
  obtain⟨p,rfl⟩:=iZ z0
  obtain⟨z1,z⟩:=ae z
  obtain⟨⟨s1,s2,s3⟩,z0,z⟩:=aw z
  obtain⟨q,e0⟩:=xI z0
  have e0:s=.Slice s1 s2 s3 q:=e0
  obtain⟨z,z4⟩:=ae z
  obtain⟨z2,z3⟩:=ae z
  have w2:s2=none:=lI z2
  have w3:s3=none:=lI z3
  obtain⟨r,y0,z4⟩:=aw z4
  have y1:s1=some r:=y0
  rw[w2,w3,y1]at e0
  subst e0
  exact⟨Fd ((ak a h l).1 z1) ((ak b h r).1 z4),rfl⟩
 | .rev _,C,X,h,e=>lr rfl rfl
 | .call f es,C,X,h,e=>aH (b:=chk C false (.call f es) e) fun z=>by
  obtain⟨⟨g,as,ks,p⟩,z0,z⟩:=aw z
  have z0:=gN z0
  subst z0
  obtain⟨z,z4⟩:=ae z
  obtain⟨z,z3⟩:=ae z
  obtain⟨z1,z2⟩:=ae z
  obtain⟨x,y0,z1⟩:=aw z1
  obtain⟨q,e0⟩:=dF y0
  have e0:g=.Name x q:=e0
  obtain⟨y1,y2⟩:=ae z1
  rw[beq_iff_eq]at y2
  have w2:ks=[]:=by rw[List.isEmpty_iff]at z2;exact z2
  subst e0 w2
  obtain⟨q1,q2,q3⟩:=jh es h _ z4
  dsimp only at z3 q1 q2 q3
  cases as with
  | nil=>cases z3
  |cons y ys=>
   rw[List.all_cons]at q3
   exact⟨BS h y1 y2 q1 q2 (ae q3).1 (ae q3).2,rfl⟩
 | .bi o a,C,X,h,e=>by
  have gen:(∀ t,chk C t (.bi o a) e=((v8 o).any fun x=>cu C e x fun ys=>of1 ys fun y=>chk C false a y))->qM X cl e (.bi o a) (chk C false (.bi o a) e) (chk C true (.bi o a) e):=fun heq=>by
   rw[heq,heq]
   refine aH fun z=>?_
   obtain⟨x,y0,z⟩:=aw z
   obtain⟨p,as,pos,rfl,b1,b2,z3,z4⟩:=bF h z
   obtain⟨y,rfl,z4⟩:=aR z4
   exact⟨Gk h.calm y0 b1 b2 ((ak a h y).1 z4) (all1 z3),rfl⟩
  cases o
  case lenSet =>
   refine aH (b:=chk C false (.bi .lenSet a) e) fun z=>?_
   rw[chk]at z
   obtain⟨p,as,pos,rfl,b1,b2,z3,z4⟩:=bF h z
   obtain⟨y,rfl,z5⟩:=aR z4
   obtain⟨p',as',pos',rfl,b1',b2',z3',z6⟩:=bF h z5
   obtain⟨y,rfl,z7⟩:=aR z6
   exact⟨wG h.calm b1 b2 b1' b2' ((ak a h y).1 z7) (all1 z3'),rfl⟩
  all_goals exact gen fun t=>rfl
 | .max a b,C,X,h,e=>aH (b:=chk C false (.max a b) e) fun z=>by
  rw[chk]at z
  obtain⟨p,as,pos,rfl,b1,b2,z3,z4⟩:=bF h z
  obtain⟨y,u,rfl,z4⟩:=fw z4
  exact⟨CP h.calm b1 b2 ((ak a h y).1 (ae z4).1) ((ak b h u).1 (ae z4).2) (all2 z3).1 (all2 z3).2,rfl⟩
 | .min _ _,C,X,h,e=>lr rfl rfl
 | .isi a ty,C,X,h,e=>aH (b:=chk C false (.isi a ty) e) fun z=>by
  rw[chk]at z
  obtain⟨p,as,pos,rfl,b1,b2,z3,z4⟩:=bF h z
  obtain⟨y,u,rfl,z4⟩:=fw z4
  obtain⟨z5,z6⟩:=ae z4
  obtain⟨x,w0,w⟩:=aw z5
  obtain⟨q,rfl⟩:=dF w0
  obtain⟨w1,w2⟩:=ae w
  rw[beq_iff_eq]at w1
  subst w1
  obtain⟨t1,t2,t3⟩:=x4 ty
  exact⟨Fe b1 b2 (h.bl w2).1 (h.bl w2).2 t1 t2 t3 ((ak a h y).1 z6) (all2 z3).1,rfl⟩
 | .rng1 a,C,X,h,e=>aH (b:=chk C false (.rng1 a) e) fun z=>by
  rw[chk]at z
  obtain⟨p,as,pos,rfl,b1,b2,z3,z4⟩:=bF h z
  obtain⟨y,rfl,z5⟩:=aR z4
  obtain⟨p',as',pos',rfl,b1',b2',z3',z6⟩:=bF h z5
  obtain⟨y,rfl,z7⟩:=aR z6
  exact⟨Be h.calm b1 b2 b1' b2' ((ak a h y).1 z7) (all1 z3'),rfl⟩
 | .rng2 a b,C,X,h,e=>aH (b:=chk C false (.rng2 a b) e) fun z=>by
  rw[chk]at z
  obtain⟨p,as,pos,rfl,b1,b2,z3,z4⟩:=bF h z
  obtain⟨y,rfl,z5⟩:=aR z4
  obtain⟨p',as',pos',rfl,b1',b2',z3',z6⟩:=bF h z5
  obtain⟨y,u,rfl,z7⟩:=fw z6
  exact⟨BV h.calm b1 b2 b1' b2' ((ak a h y).1 (ae z7).1) ((ak b h u).1 (ae z7).2) (all2 z3').1 (all2 z3').2,rfl⟩
 | .rng3 c a b,C,X,h,e=>aH (b:=chk C false (.rng3 c a b) e) fun z=>by
  rw[chk]at z
  obtain⟨p,as,pos,rfl,b1,b2,z3,z4⟩:=bF h z
  obtain⟨y,rfl,z5⟩:=aR z4
  obtain⟨p',as',pos',rfl,b1',b2',z3',z6⟩:=bF h z5
  obtain⟨y,u,q,rfl,z7⟩:=nL z6
  obtain⟨z7,z9⟩:=ae z7
  obtain⟨z7,z8⟩:=ae z7
  exact⟨BG h.calm b1 b2 b1' b2' ((ak a h y).1 z8) ((ak b h u).1 z9) (iE z3').1 (iE z3').2.1 z7,rfl⟩
 | .comp d tg it c,C,X,h,e=>aH (b:=chk C false (.comp d tg it c) e) fun z=>by
  obtain⟨⟨elt,gens,scope,p⟩,z0,z⟩:=aw z
  have z0:=qB z0
  subst z0
  obtain⟨⟨tgE,iter,ifs,asy⟩,y1,z⟩:=aR z
  have y1:gens=[⟨tgE,iter,ifs,asy⟩]:=y1
  obtain⟨w,y2,z⟩:=aR z
  have y2:ifs=[w]:=y2
  obtain⟨z,z8⟩:=ae z
  obtain⟨z,z7⟩:=ae z
  obtain⟨z,z6⟩:=ae z
  obtain⟨z,z5⟩:=ae z
  obtain⟨z,z4⟩:=ae z
  obtain⟨z,z3⟩:=ae z
  obtain⟨z,z2⟩:=ae z
  obtain⟨z0,z1⟩:=ae z
  rw[beq_iff_eq]at z0
  have w0:asy=0:=z0
  subst y1 w0
  subst y2
  refine⟨zq h.calm (by rw[h.scope];exact qa z1) (iW it h _ _ z6) ?_ (fT z3 _),rfl⟩
  exact⟨fun cls Ca fp s H=>nh h z5 z4,fun cls Ca fp s H pins s' σ H' Q I q=>pA ((ak c (h.blk cls Ca fp s H) _).2 z8).1 I q,fun cls Ca fp s H=>(ak d (h.blk cls Ca fp s H) _).1 z7,fun i x hx hl=>jG z2 i x (by rw[<-h.names];exact hx) hl⟩
 | .compA d tg it,C,X,h,e=>aH (b:=chk C false (.compA d tg it) e) fun z=>by
  obtain⟨⟨elt,gens,scope,p⟩,z0,z⟩:=aw z
  have z0:=qB z0
  subst z0
  obtain⟨⟨tgE,iter,ifs,asy⟩,y1,z⟩:=aR z
  have y1:gens=[⟨tgE,iter,ifs,asy⟩]:=y1
  obtain⟨z,z7⟩:=ae z
  obtain⟨z,z6⟩:=ae z
  obtain⟨z,z5⟩:=ae z
  obtain⟨z,z4⟩:=ae z
  obtain⟨z,z3⟩:=ae z
  obtain⟨z,z2⟩:=ae z
  obtain⟨z,z1⟩:=ae z
  obtain⟨y2,z0⟩:=ae z
  rw[beq_iff_eq]at z0
  have w0:asy=0:=z0
  have w2:ifs=[]:=by rw[List.isEmpty_iff]at y2;exact y2
  subst y1 w0
  subst w2
  refine⟨yN h.calm (by rw[h.scope];exact qa z1) (iW it h _ _ z6) ?_ (fT z3 _),rfl⟩
  exact⟨fun cls Ca fp s H=>nh h z5 z4,fun cls Ca fp s H pins s' σ H' Q I q=>pP I q,fun cls Ca fp s H=>(ak d (h.blk cls Ca fp s H) _).1 z7,fun i x hx hl=>jG z2 i x (by rw[<-h.names];exact hx) hl⟩
 | .compL _ _ _,C,X,h,e=>lr rfl rfl
 | .dk0,C,X,h,e=>aH (b:=chk C false .dk0 e) fun z=>by
  obtain⟨⟨ks,vs⟩,z0,z⟩:=aw z
  obtain⟨p,rfl⟩:=rF z0
  obtain⟨z1,z2⟩:=ae z
  rw[List.isEmpty_iff]at z1 z2
  have z1:ks=[]:=z1
  have z2:vs=[]:=z2
  subst z1 z2
  exact⟨Fm,rfl⟩
 | .dt0,C,X,h,e=>aH (b:=chk C false .dt0 e) fun z=>by
  obtain⟨⟨ks,vs⟩,z0,z⟩:=aw z
  obtain⟨p,rfl⟩:=rF z0
  obtain⟨z1,z2⟩:=ae z
  rw[List.isEmpty_iff]at z1 z2
  have z1:ks=[]:=z1
  have z2:vs=[]:=z2
  subst z1 z2
  exact⟨E6,rfl⟩
 | .chain3 c c' c'' a b d g,C,X,h,e=>⟨(fun z=>by
   rw[chk]at z
   obtain⟨_,z⟩:=ae z
   obtain⟨⟨l,os,rs⟩,z0,z⟩:=aw z
   obtain⟨p,rfl⟩:=fB z0
   obtain⟨op,op',op'',y1,z⟩:=nL z
   obtain⟨r,s,u,y2,z⟩:=nL z
   have y1:os=[op,op',op'']:=y1
   have y2:rs=[r,s,u]:=y2
   subst y1 y2
   obtain⟨z,z7⟩:=ae z
   obtain⟨z,z6⟩:=ae z
   obtain⟨z,z5⟩:=ae z
   obtain⟨z,z4⟩:=ae z
   obtain⟨z,z3⟩:=ae z
   obtain⟨z1,z2⟩:=ae z
   rw[beq_iff_eq]at z1 z2 z3
   subst z1 z2 z3
   exact wJ h.hu ((ak a h l).1 z4) ((ak b h r).1 z5) ((ak d h s).1 z6) ((ak g h u).1 z7)),(fun z=>by
   rw[chk]at z
   obtain⟨z1,z2⟩:=ae z
   cases z1)⟩
 | .slB _ _ _,C,X,h,e=>lr rfl rfl
 | .index a b,C,X,h,e=>aH (b:=chk C false (.index a b) e) fun z=>by
  obtain⟨⟨g,as,ks,p⟩,z0,z⟩:=aw z
  have z0:=gN z0
  obtain⟨z,z3⟩:=ae z
  obtain⟨z1,z2⟩:=ae z
  obtain⟨⟨o,nm,apos⟩,y0,z1⟩:=aw z1
  have e1:=qG y0
  have e1:g=.Attribute o nm apos:=e1
  obtain⟨z1,y4⟩:=ae z1
  obtain⟨z1,y3⟩:=ae z1
  obtain⟨y1,y2⟩:=ae z1
  rw[beq_iff_eq]at y1
  have y1:nm = "index" := y1
  obtain⟨x,hx⟩:=Option.isSome_iff_exists.mp y3
  obtain⟨xp,e2⟩:=dF hx
  have e2:o=.Name x xp:=e2
  have w2:ks=[]:=by rw[List.isEmpty_iff]at z2;exact z2
  obtain⟨y,e3,z3⟩:=aR z3
  have e3:as=[y]:=e3
  obtain⟨z3,z5⟩:=ae z3
  rw[e1,y1,e2,w2,e3]at z0
  subst z0
  have y4:chk C false a o=true:=y4
  rw[e2]at y4
  exact⟨zC ((ak a h _).1 y4) ((ak b h y).1 z5) z3 y2,rfl⟩
 | .join _,C,X,h,e=>lr rfl rfl
theorem jh{cl:RL.Cl}:∀ (es':RL.Es) {C:CC} {X:Cx} (h:XOk C X cl) (es:List Expr),mZ C es' es=true->SEs X cl es es'/\eV es'=es.length/\es.all noStar=true
 | .nil,C,X,h,es,z=>by
  have z:es=[]:=List.isEmpty_iff.mp z
  subst z
  exact⟨cD,rfl,rfl⟩
 | .cons e' es',C,X,h,es,z=>by
  cases es with
  | nil=>cases z
  |cons e es=>
   obtain⟨z,z3⟩:=ae z
   obtain⟨z1,z2⟩:=ae z
   obtain⟨q1,q2,q3⟩:=jh es' h es z3
   exact⟨bH ((ak e' h e).1 z2) q1 z1,by rw[eV,q2,List.length_cons],by rw[List.all_cons,z1,q3];rfl⟩
theorem iW{cl:RL.Cl}:∀ (it:RL.It) {C:CC} {X:Cx} (h:XOk C X cl) (tg e:Expr),j2 C it tg e=true->SI X cl tg e it
 | .seq a,C,X,h,tg,e,z=>Bl ((ak a h e).1 z)
 | .rng1 a,C,X,h,tg,e,z=>by
  rw[j2]at z
  obtain⟨p,as,pos,rfl,b1,b2,z3,z4⟩:=bF h z
  obtain⟨y,rfl,z4⟩:=aR z4
  exact BN b1 b2 ((ak a h y).1 z4) (all1 z3)
 | .rng2 a b,C,X,h,tg,e,z=>by
  rw[j2]at z
  obtain⟨p,as,pos,rfl,b1,b2,z3,z4⟩:=bF h z
  obtain⟨y,u,rfl,z4⟩:=fw z4
  exact Cd b1 b2 ((ak a h y).1 (ae z4).1) ((ak b h u).1 (ae z4).2) (all2 z3).1 (all2 z3).2
 | .rng3 c a b,C,X,h,tg,e,z=>by
  rw[j2]at z
  obtain⟨p,as,pos,rfl,b1,b2,z3,z4⟩:=bF h z
  obtain⟨y,u,q,rfl,z4⟩:=nL z4
  obtain⟨z4,z6⟩:=ae z4
  obtain⟨z4,z5⟩:=ae z4
  exact AV b1 b2 ((ak a h y).1 z5) ((ak b h u).1 z6) (iE z3).1 (iE z3).2.1 z4
 | .chr _,C,X,h,tg,e,z=>by cases z
 | .enm a,C,X,h,tg,e,z=>by
  rw[j2]at z
  obtain⟨z0,zz⟩:=ae z
  obtain⟨ts,z0⟩:=Option.isSome_iff_exists.mp z0
  obtain⟨k,tp,rfl⟩:=fF z0
  obtain⟨p,as,pos,rfl,b1,b2,z3,z4⟩:=bF h zz
  obtain⟨y,rfl,z4⟩:=aR z4
  exact Cb b1 b2 ((ak a h y).1 z4) (all1 z3)
 | .zip a b,C,X,h,tg,e,z=>by
  rw[j2]at z
  obtain⟨z0,zz⟩:=ae z
  obtain⟨ts,z0⟩:=Option.isSome_iff_exists.mp z0
  obtain⟨k,tp,rfl⟩:=fF z0
  obtain⟨p,as,pos,rfl,b1,b2,z3,z4⟩:=bF h zz
  obtain⟨y,u,rfl,z4⟩:=fw z4
  exact DR b1 b2 ((ak a h y).1 (ae z4).1) ((ak b h u).1 (ae z4).2) (all2 z3).1 (all2 z3).2
 | .nope,C,X,h,tg,e,z=>by cases z
end
noncomputable def iH:Expr->Bool
 | .ListComp _ _ _ _=>false
 | .SetComp _ _ _ _=>false
 | .DictComp _ _ _ _ _=>false
 | _=>true
noncomputable def wU:Expr->Bool
 | .Tuple _ _ _=>false
 | _=>true
noncomputable def Aa(e:Expr):Bool:=match e with
 | .SetComp _ _ _ _=>false
 | .DictComp _ _ _ _ _=>false
 | _=>true
noncomputable def yu(C:CC)(x y:Str)(px py:Pos)(a b:Expr):Bool :=
 C.sc.kind == .function&&C.sc.names.lookup x == some .local&&C.sc.names.lookup y == some .local&&px.line == py.line && !(x == y)&&noStar a&&noStar b && !(foldedForSure 8 a&&foldedForSure 8 b) && !(constantsAlone 8 a&&constantsAlone 8 b)
noncomputable def tZ(M:List Nat):RL.E->Bool
 | .var i=>M.contains i
 | _=>false
noncomputable def vk(C:CC):RL.Es->List Expr->Bool
 | .nil=>fun xs=>xs.isEmpty
 | .cons e es=>fun xs=>match xs with
  | x::xs=>noStar x&&chk C false e x&&vk C es xs
  | []=>false
noncomputable def Ap:RL.Bop->Operator->Bool
 | .add,.Add=>true
 | .sub,.Sub=>true
 | _,_=>false
noncomputable def rG:Expr->Option (Str × Pos)
 | .Name x p=>some (x,p)
 | _=>none
theorem pF{e:Expr}{x:Str}{p:Pos}(h:rG e=some (x,p)):e=.Name x p:=by
 cases e
 case Name=>cases h;rfl
 all_goals exact nos h
noncomputable def nF(C:CC)(i:Nat)(nm:Str)(e:Expr)(f:List Expr->Bool):Bool:=(kW e).any fun q=>(uL q.1).any (fun a=>qe C i a.1&&a.2.1 == nm&&a.2.2.endLine == q.2.2.2.line)&&q.2.2.1.isEmpty&&f q.2.1
noncomputable def qZ(C:CC)(M:List Nat)(f:Nat)(es:RL.Es)(ps ms:List Nat)(e:Expr):Bool:=(kW e).any fun q=>(gx q.1).any (fun x=>glB C x&&C.F[f]? == some (x,ps))&&q.2.2.1.isEmpty && !q.2.1.isEmpty && !ps.isEmpty&&vk C es q.2.1&&cz es ps ms&&ms.all (fun i=>M.contains i)&&decide ms.Nodup&&decide ps.Nodup
mutual
noncomputable def DS(C:CC)(M:List Nat):RL.S->Stmt->Bool
 | .asg i e'=>fun st=>(mG st).any fun q=>of1 q.1 fun t=>ij C i t && !M.contains i&&Aa q.2&&chk C false e' q.2
 | .own i e'=>fun st=>(mG st).any fun q=>of1 q.1 fun t=>ij C i t&&M.contains i&&decide (M.count i<2)&&Aa q.2&&chk C false e' q.2
 | .unp is e'=>fun st=>(mG st).any fun q=>of1 q.1 fun t=>(kF t).any fun ts=>kX C is ts&&is.all (fun i=>!M.contains i)&&wU q.2&&chk C false e' q.2
 | .par i j a' b'=>fun st=>(mG st).any fun q=>of1 q.1 fun t=>(kF t).any fun ts=>of2 ts fun s u=>(rG s).any fun x=>(rG u).any fun y=>(kF q.2).any fun vs=>of2 vs fun a b=>nmB C i x.1&&nmB C j y.1 && !(i == j) && !M.contains i && !M.contains j&&yu C x.1 y.1 x.2 y.2 a b&&chk C false a' a&&chk C false b' b
 | .parO _ _ _ _=>fun _=>false
 | .app i e'=>fun st=>(uU st).any fun e=>nF C i "append" e fun as=>of1 as fun y=>M.contains i&&noStar y&&chk C false e' y
 | .put i k' e'=>fun st=>(mG st).any fun q=>of1 q.1 fun t=>(oF t).any fun u=>qe C i u.1&&M.contains i&&m5 u.2&&iH q.2&&chk C false k' u.2&&chk C false e' q.2
 | .pop i j=>fun st=>(mG st).any fun q=>of1 q.1 fun t=>ij C j t&&M.contains i && !M.contains j&&nF C i "pop" q.2 fun as=>as.isEmpty
 | .clr _=>fun _=>false
 | .aug i o e'=>fun st=>(Fz st).any fun q=>ij C i q.1 && !M.contains i&&Ap o q.2.1&&chk C false e' q.2.2
 | .ife c' a' b'=>fun st=>(wIf st).any fun q=>chk C true c' q.1&&gr C M a' q.2.1&&gr C M b' q.2.2
 | .forr tg it b'=>fun st=>(Eo st).any fun q=>q.2.2.2.isEmpty&&j2 C it q.1 q.2.1&&oV C tg q.1&&nD q.2.1&&RL.vx M it&&tg.all (fun i=>!M.contains i)&&gr C M b' q.2.2.1
 | .mexc f es ps ms=>fun st=>(uU st).any fun e=>qZ C M f es ps ms e
 | .maug _ _ _ _ _=>fun _=>false
 | .ret e'=>fun st=>(CL st).any fun o=>o.any fun e=>chk C false e' e
 | .exc e'=>fun st=>(uU st).any fun e=>iH e&&chk C false e' e
 | .never=>fun _=>true
 | .put2 _ _ _ _ _=>fun _=>false
 | .ifp i e' a' b'=>fun st=>(wIf st).any fun q=>(kH q.1).any fun u=>of1 u.2.1 fun op=>of1 u.2.2 fun e=>op == .NotEq&&M.contains i&&chk C false e' e&&gr C M a' q.2.1&&gr C M b' q.2.2&&nF C i "pop" u.1 fun as=>as.isEmpty
 | .whil c' b'=>fun st=>(EB st).any fun q=>q.2.2.isEmpty&&chk C true c' q.1&&gr C M b' q.2.1
noncomputable def gr(C:CC)(M:List Nat):RL.Ss->List Stmt->Bool
 | .nil=>fun xs=>xs.isEmpty
 | .cons s r=>fun xs=>match xs with
  | x::xs=>DS C M s x&&gr C M r xs
  | []=>false
end
structure YOk(C:CC)(X:Cx)(cl:RL.Cl):Prop extends XOk C X cl where
 fn:∀ x,X.fn x=true
section
variable{C:CC}{X:Cx}{cl:RL.Cl}{M:List Nat}{st:Stmt}{e:Expr}{e' k':RL.E}{i:Nat}
theorem gM{t:Option Expr}{l:Nat}{env:Env}(h:iH e=true):swapsWith e t l env=pure false:=by
 cases e<;>first | rfl | (cases h;done)
theorem AI{t:Expr}{spos:Pos}(h:YOk C X cl)(hn:ij C i t=true)(ha:Aa e=true)(hc:chk C false e' e=true):SA X cl (.Assign [t] e spos) i e':=by
 obtain⟨y,py,rfl,hN,hl⟩:=hG h.toXOk hn
 have plain:swapsWith e (some (.Name y py)) spos.line X.env=pure false->SA X cl (.Assign [.Name y py] e spos) i e':=fun z =>
  yF h.ndX hN hl ((ak e' h.toXOk e).1 hc) (.inl (h.fn y)) z trivial
 by_cases hcomp:iH e=true
 ·exact plain (gM hcomp)
 ·have:∃ elt gens scope p,e=.ListComp elt gens scope p:=by
   cases e<;>first | exact absurd rfl hcomp | exact Bool.noConfusion ha | exact⟨_,_,_,_,rfl⟩
  obtain⟨elt,gens,scope,p,rfl⟩:=this
  have hsw:swapsWith (.ListComp elt gens scope p) (some (.Name y py)) spos.line X.env=pure (X.env.blockKind == .function&&X.env.kindOf y == some .local&&py.line == p.line && !(scope.names.any fun(n,k)=>n == y&&(k == .local || k == .cell))):=rfl
  by_cases hb:(X.env.blockKind == .function&&X.env.kindOf y == some .local&&py.line == p.line && !(scope.names.any fun(n,k)=>n == y&&(k == .local || k == .cell)))=true
  ·have hy:X.env.scope.names.lookup y=some .local:=by
    obtain⟨q,_⟩:=ae (ae hb).1
    have q2:=(ae q).2
    rw[beq_iff_eq]at q2
    exact q2
   rw[hb]at hsw
   by_cases hk:∃ d tg it c,e'=.comp d tg it c
   ·obtain⟨d,tg,it,c,rfl⟩:=hk
    obtain⟨⟨tgE,iter,ifs,asy⟩,y1,z⟩:=aR hc
    have y1:gens=[⟨tgE,iter,ifs,asy⟩]:=y1
    obtain⟨w,y2,z⟩:=aR z
    have y2:ifs=[w]:=y2
    obtain⟨z,z8⟩:=ae z
    obtain⟨z,z7⟩:=ae z
    obtain⟨z,z6⟩:=ae z
    obtain⟨z,z5⟩:=ae z
    obtain⟨z,z4⟩:=ae z
    obtain⟨z,z3⟩:=ae z
    obtain⟨z,z2⟩:=ae z
    obtain⟨z0,z1⟩:=ae z
    rw[beq_iff_eq]at z0
    have w0:asy=0:=z0
    subst y1 w0
    subst y2
    refine yq h.calm h.ndX hN hy (by rw[h.scope];exact qa z1) (iW it h.toXOk _ _ z6) ?_ (fT z3 _) hsw
    exact⟨fun cls Ca fp s H=>nh h.toXOk z5 z4,fun cls Ca fp s H pins s' σ H' Q I q=>pA ((ak c (h.toXOk.blk cls Ca fp s H) _).2 z8).1 I q,fun cls Ca fp s H=>(ak d (h.toXOk.blk cls Ca fp s H) _).1 z7,fun i x hx hl=>jG z2 i x (by rw[<-h.names];exact hx) hl⟩
   ·by_cases hk2:∃ d tg it,e'=.compA d tg it
    ·obtain⟨d,tg,it,rfl⟩:=hk2
     obtain⟨⟨tgE,iter,ifs,asy⟩,y1,z⟩:=aR hc
     have y1:gens=[⟨tgE,iter,ifs,asy⟩]:=y1
     obtain⟨z,z7⟩:=ae z
     obtain⟨z,z6⟩:=ae z
     obtain⟨z,z5⟩:=ae z
     obtain⟨z,z4⟩:=ae z
     obtain⟨z,z3⟩:=ae z
     obtain⟨z,z2⟩:=ae z
     obtain⟨z,z1⟩:=ae z
     obtain⟨y2,z0⟩:=ae z
     rw[beq_iff_eq]at z0
     have w0:asy=0:=z0
     have w2:ifs=[]:=by rw[List.isEmpty_iff]at y2;exact y2
     subst y1 w0
     subst w2
     refine yY h.calm h.ndX hN hy (by rw[h.scope];exact qa z1) (iW it h.toXOk _ _ z6) ?_ (fT z3 _) hsw
     exact⟨fun cls Ca fp s H=>nh h.toXOk z5 z4,fun cls Ca fp s H pins s' σ H' Q I q=>pP I q,fun cls Ca fp s H=>(ak d (h.toXOk.blk cls Ca fp s H) _).1 z7,fun i x hx hl=>jG z2 i x (by rw[<-h.names];exact hx) hl⟩
    ·cases e'<;>first | exact Bool.noConfusion hc | exact absurd ⟨_,_,_,_,rfl⟩ hk | exact absurd ⟨_,_,_,rfl⟩ hk2 | (rename_i b a;cases b<;>exact Bool.noConfusion hc)
  ·have hb':=Bool.not_eq_true _▸hb
   rw[hb']at hsw
   exact plain hsw
theorem qw(h:XOk C X cl):∀ {es':RL.Es} {es:List Expr},vk C es' es=true->PA X es (jK X.K cl es')/\es.all noStar=true
 | .nil,es,z=>by
  have z:es=[]:=List.isEmpty_iff.mp z
  subst z
  exact⟨dW,rfl⟩
 | .cons _ _,[],z=>by cases z
 | .cons e' es',e::es,z=>by
  obtain⟨z,z3⟩:=ae z
  obtain⟨z1,z2⟩:=ae z
  obtain⟨q1,q2⟩:=qw h z3
  refine⟨?_,by rw[List.all_cons,z1,q2];rfl⟩
  rw[jK]
  refine bY ?_ q1 (aA es z1)
  by_cases hv:∃ j,e'=.var j
  ·obtain⟨j,rfl⟩:=hv
   obtain⟨x,p,rfl,g1,g2,g3,g4⟩:=iN h z2
   exact hV g1 g2 g3 g4
  ·have ht:rS X.K cl e'=tE X.K cl e':=by
    cases e'<;>first | rfl | exact absurd ⟨_,rfl⟩ hv
   rw[ht]
   exact(ak _ h e).1 z2
theorem uc{is:List Nat}(h:is.all (fun i=>!M.contains i)=true):∀ i∈is,M.contains i=false:=fun i hi=>by
 rw[List.all_eq_true]at h
 simpa using h i hi
theorem ES{is:List Nat}(h:is.all (fun i=>M.contains i)=true):∀ i∈is,M.contains i=true:=fun i hi=>by
 rw[List.all_eq_true]at h
 exact h i hi
theorem iI{b:Bool}(h:(!b)=true):b=false:=by simpa using h
theorem Ah{f:Nat}{ps ms:List Nat}{es:RL.Es}(h:XOk C X cl)(z:qZ C M f es ps ms e=true):PE X e (qg (spM X.K cl ps f) [] E0 (jK X.K cl es))/\cz es ps ms=true/\(∀ i∈ms,M.contains i=true)/\ms.Nodup/\ps.Nodup/\iH e=true:=by
 unfold qZ at z
 obtain⟨⟨g,as,ks,pos⟩,z0,z⟩:=aw z
 have e0:=gN z0
 obtain⟨z,z9⟩:=ae z
 obtain⟨z,z8⟩:=ae z
 obtain⟨z,z7⟩:=ae z
 obtain⟨z,z6⟩:=ae z
 obtain⟨z,z5⟩:=ae z
 obtain⟨z,z4⟩:=ae z
 obtain⟨z,z3⟩:=ae z
 obtain⟨z1,z2⟩:=ae z
 obtain⟨x,y0,z1⟩:=aw z1
 obtain⟨p,e1⟩:=dF y0
 have e1:g=.Name x p:=e1
 obtain⟨y1,y2⟩:=ae z1
 rw[beq_iff_eq]at y2
 have w2:ks=[]:=by rw[List.isEmpty_iff]at z2;exact z2
 rw[e1,w2]at e0
 subst e0
 refine⟨?_,z6,ES z7,by simpa using z8,by simpa using z9,rfl⟩
 obtain⟨k,fa,fd,pn,F,hr,hm,hk,hb⟩:=h.fns f x ps y2
 rw[if_neg (fun z=>by subst z;cases z4)]at F
 obtain⟨q1,q2⟩:=qw h z5
 obtain⟨g1,g2⟩:=h.gl y1
 cases as with
 | nil=>cases z3
 |cons y ys=>
  rw[List.all_cons]at q2
  exact tL F hr g1 hm hk hb .nil AB q1 (eW g2).1 (aA ys (ae q2).1) (e8 (ae q2).2)
theorem oM{nm:Str}{f:List Expr->Bool}(h:XOk C X cl)(z:nF C i nm e f=true):∃ x p apos as pos,e=.Call (.Attribute (.Name x p) nm apos) as [] pos/\X.N[i]?=some x/\Vis X.env.scope x/\(x == ("__debug__" : Str))=false/\(x == ("__classdict__" : Str))=false/\(apos.endLine == pos.line)=true/\f as=true:=by
 unfold nF at z
 obtain⟨⟨g,as,ks,pos⟩,z0,z⟩:=aw z
 have e0:=gN z0
 obtain⟨z,z3⟩:=ae z
 obtain⟨z1,z2⟩:=ae z
 obtain⟨⟨o,a,apos⟩,y0,z1⟩:=aw z1
 have e1:=qG y0
 have e1:g=.Attribute o a apos:=e1
 obtain⟨z1,y3⟩:=ae z1
 obtain⟨y1,y2⟩:=ae z1
 rw[beq_iff_eq]at y2
 have y2:a=nm:=y2
 have w2:ks=[]:=by rw[List.isEmpty_iff]at z2;exact z2
 obtain⟨x,p,e2,g1,g2,g3,g4⟩:=iN h y1
 have e2:o=.Name x p:=e2
 rw[e1,w2,y2,e2]at e0
 exact⟨x,p,apos,as,pos,e0,g1,g2,g3,g4,y3,z3⟩
theorem B7(h1:PS X st (nW (tE X.K cl e') (Ai (jM i) (tE X.K cl k') vy)))(h2:PS X st (uY (jM i) (tE X.K cl k') (tE X.K cl e')))(hi:M.contains i=true):SS X cl M st (.put i k' e'):=by
 have a1:=DP h1 hi trivial
 have a2:=Cj h2 hi
 intro pins s σ H D I h
 obtain⟨σD,o,σD',rv,e,k⟩:=h
 rw[RL.evS]at e
 obtain⟨d,e1,e⟩:=bind_some e
 obtain⟨kk,e2,e⟩:=bind_some e
 obtain⟨l,e3,e⟩:=bind_some e
 cases l with
 | lst ds=>exact a1 pins s σ H D I ⟨σD,o,σD',rv,by dsimp only;rw[e1];dsimp only[Option.bind_some];rw[e2];dsimp only[Option.bind_some];rw[e3];exact e,k⟩
 | _=>exact a2 pins s σ H D I ⟨σD,o,σD',rv,by dsimp only;rw[e1];dsimp only[Option.bind_some];rw[e2];dsimp only[Option.bind_some];rw[e3];exact e,k⟩
theorem vA{o k:Expr}{pos:Pos}{env:Env}(h:m5 k=true)(v:Value):assign (.Subscript o k pos) env v=(do
   let ov <- holding [v] (eval o env)
   let iv <- holding [v,ov] (eval k env)
   standAt pos
   holding [v,ov,iv] (setItem ov iv v)
   release [v,ov,iv] []):=by
 cases k<;>first | rfl | (cases h;done)
theorem w4{us:List Expr}{kk:Nat}{tp:Pos}{env:Env}(h:wU e=true):swappedStores [.Tuple us kk tp] e env=pure none:=by
 cases e<;>first | rfl | (cases h;done)
theorem F4{x y:Str}{px py pt pt2:Pos}{kt k2:Nat}{a b:Expr}(h:XOk C X cl)(hp:yu C x y px py a b=true):swappedStores [.Tuple [.Name x px,.Name y py] kt pt] (.Tuple [a,b] k2 pt2) X.env=pure (some [x,y]) /\
  X.env.scope.names.lookup x=some .local/\X.env.scope.names.lookup y=some .local/\noStar a=true/\noStar b=true:=by
 unfold yu at hp
 obtain⟨hp,h9⟩:=ae hp
 obtain⟨hp,h8⟩:=ae hp
 obtain⟨hp,h7⟩:=ae hp
 obtain⟨hp,h6⟩:=ae hp
 obtain⟨hp,h5⟩:=ae hp
 obtain⟨hp,h4⟩:=ae hp
 obtain⟨hp,h3⟩:=ae hp
 obtain⟨h1,h2⟩:=ae hp
 rw[beq_iff_eq]at h1 h2 h3 h4
 rw[<-h.scope]at h1 h2 h3
 refine⟨?_,h2,h3,h6,h7⟩
 have bk:X.env.blockKind=.function:=by
  unfold Env.blockKind
  rw[h1]
  rfl
 have k1:X.env.kindOf x=some .local:=h2
 have k2:X.env.kindOf y=some .local:=h3
 have hxy:x≠y:=by simpa using h5
 have fs':foldedForSure 8 a=true->foldedForSure 8 b=false:=fun z=>by simpa[z]using h8
 have ca':constantsAlone 8 a=true->constantsAlone 8 b=false:=fun z=>by simpa[z]using h9
 have ed:[x,y].eraseDups=[x,y]:=by
  rw[List.eraseDups_cons]
  simp[Ne.symm hxy]
  rfl
 unfold swappedStores
 simp only[bk]
 simp[show ∀ (x:Str) (p:Pos),(Expr.Name x p).pos=p from fun _ _=>rfl,k1,k2,h4,ed]
 refine(if_neg ?_).trans ((if_neg ?_).trans (if_neg ?_))
 ·intro hh
  rcases hh with hh | hh
  ·cases a<;>first | exact Bool.noConfusion (show false=true from hh) | exact Bool.noConfusion (show false=true from h6)
  ·cases b<;>first | exact Bool.noConfusion (show false=true from hh) | exact Bool.noConfusion (show false=true from h7)
 ·intro hh
  have:=fs' hh.1
  rw[hh.2]at this
  cases this
 ·intro hh
  have:=ca' hh.1
  rw[hh.2]at this
  cases this
end
section
variable{X:Cx}{cl:RL.Cl}
mutual
theorem Bx:∀ (s:RL.S) {C:CC} {M:List Nat} (h:YOk C X cl) (st:Stmt),DS C M s st=true->SS X cl M st s
 | .asg i e',C,M,h,st,z=>by
  obtain⟨⟨ts,e⟩,z0,z⟩:=aw z
  obtain⟨p,rfl⟩:=gK z0
  obtain⟨t,y1,z⟩:=aR z
  have y1:ts=[t]:=y1
  obtain⟨z,z4⟩:=ae z
  obtain⟨z,z3⟩:=ae z
  obtain⟨z1,z2⟩:=ae z
  subst y1
  exact EG (AI h z1 z3 z4) (iI z2)
 | .own i e',C,M,h,st,z=>by
  obtain⟨⟨ts,e⟩,z0,z⟩:=aw z
  obtain⟨p,rfl⟩:=gK z0
  obtain⟨t,y1,z⟩:=aR z
  have y1:ts=[t]:=y1
  obtain⟨z,z5⟩:=ae z
  obtain⟨z,z4⟩:=ae z
  obtain⟨z,z3⟩:=ae z
  obtain⟨z1,z2⟩:=ae z
  subst y1
  exact F7 (AI h z1 z4 z5) z2 (by simpa using z3)
 | .unp is e',C,M,h,st,z=>by
  obtain⟨⟨ts,e⟩,z0,z⟩:=aw z
  obtain⟨p,rfl⟩:=gK z0
  obtain⟨t,y1,z⟩:=aR z
  have y1:ts=[t]:=y1
  obtain⟨us,y2,z⟩:=aw z
  obtain⟨k,tp,rfl⟩:=fF y2
  obtain⟨z,z4⟩:=ae z
  obtain⟨z,z3⟩:=ae z
  obtain⟨z1,z2⟩:=ae z
  subst y1
  obtain⟨g1,g2,g3⟩:=oI h.toXOk (T:=is) (fun i x _ _=>.inl (h.fn x)) (fun _ h=>h) z1
  refine Cg (vW ((ak e' h.toXOk e).1 z4) (yh (xT h.calm g1 g2 g3) (wb h.calm g1 g2 g3)) ?_ (w4 z3)) (uc z2)
  cases e<;>rfl
 | .par i j a' b',C,M,h,st,z=>by
  obtain⟨⟨ts,e⟩,z0,z⟩:=aw z
  obtain⟨p,rfl⟩:=gK z0
  obtain⟨t,y1,z⟩:=aR z
  have y1:ts=[t]:=y1
  obtain⟨us,y2,z⟩:=aw z
  obtain⟨k,tp,e2⟩:=fF y2
  obtain⟨s1,s2,y3,z⟩:=fw z
  obtain⟨⟨x,px⟩,y4,z⟩:=aw z
  obtain⟨⟨y,py⟩,y5,z⟩:=aw z
  obtain⟨vs,y6,z⟩:=aw z
  obtain⟨k',tp',e6⟩:=fF y6
  have e6:e=.Tuple vs k' tp':=e6
  obtain⟨a,b,y7,w⟩:=fw z
  rw[pF y4,pF y5]at y3
  rw[y3]at e2
  have e7:e=.Tuple [a,b] k' tp':=by rw[<-y7];exact e6
  rw[e2]at y1
  subst y1 e7
  obtain⟨w,z8⟩:=ae w
  obtain⟨w,z7⟩:=ae w
  obtain⟨w,z6⟩:=ae w
  obtain⟨w,z5⟩:=ae w
  obtain⟨w,z4⟩:=ae w
  obtain⟨w,z3⟩:=ae w
  obtain⟨z1,z2⟩:=ae w
  obtain⟨g1,g2,g3,g4,g5⟩:=F4 h.toXOk z6
  exact C9 (DM h.calm h.ndX (h.nm z1).1 (h.nm z2).1 (by simpa using z3) g2 g3 (bH (cl:=cl) ((ak a' h.toXOk a).1 z7) (bH ((ak b' h.toXOk b).1 z8) cD g5) g4) g1) (iI z4) (iI z5)
 | .parO _ _ _ _,C,M,h,st,z=>by cases z
 | .app i e',C,M,h,st,z=>by
  obtain⟨e,z0,z8⟩:=aw z
  obtain⟨p0,rfl⟩:=og z0
  obtain⟨x,p,apos,as,pos,rfl,g1,g2,g3,g4,z6,z7⟩:=oM h.toXOk z8
  obtain⟨y,rfl,z9⟩:=aR z7
  obtain⟨z9,z7⟩:=ae z9
  obtain⟨z4,z5⟩:=ae z9
  refine Df (oP (AG PySem.F.plainAttrs_list PySem.F.slot_list_append PySem.F.type_list_append pG (hV g1 g2 g3 g4) (bH (cl:=cl) ((ak e' h.toXOk y).1 z7) cD z5) rfl ?_ z6 (aA [] z5) rfl)) z4
  rw[aA [] z5]
  rfl
 | .put i k' e',C,M,h,st,z=>by
  obtain⟨⟨ts,e⟩,z0,z⟩:=aw z
  obtain⟨p,rfl⟩:=gK z0
  obtain⟨t,y1,z⟩:=aR z
  have y1:ts=[t]:=y1
  obtain⟨⟨o,k⟩,y2,z⟩:=aw z
  obtain⟨sp,e2⟩:=iZ y2
  obtain⟨z,z7⟩:=ae z
  obtain⟨z,z6⟩:=ae z
  obtain⟨z,z5⟩:=ae z
  obtain⟨z,z4⟩:=ae z
  obtain⟨z1,z3⟩:=ae z
  obtain⟨x,px,e3,g1,g2,g3,g4⟩:=iN h.toXOk z1
  have e3:o=.Name x px:=e3
  rw[e3]at e2
  rw[e2]at y1
  subst y1
  have pv:=fun pos=>hV (X:=X) (pos:=pos) g1 g2 g3 g4
  refine B7 (vW ((ak e' h.toXOk e).1 z7) (Fg (pv _) ((ak k' h.toXOk k).1 z6) set_list (vA z4)) ?_ ?_) (B6 (Nat.lt_of_le_of_lt (by omega) h.hu) (pv _) ((ak k' h.toXOk k).1 z6) ((ak e' h.toXOk e).1 z7) (gM z5)) z3
  ·unfold swapsWithSole
   exact gM z5
  ·rfl
 | .pop i j,C,M,h,st,z=>by
  obtain⟨⟨ts,e⟩,z0,z⟩:=aw z
  obtain⟨p,rfl⟩:=gK z0
  obtain⟨t,y1,z⟩:=aR z
  have y1:ts=[t]:=y1
  obtain⟨z,z4⟩:=ae z
  obtain⟨z,z3⟩:=ae z
  obtain⟨z1,z2⟩:=ae z
  obtain⟨y,py,rfl,l1,l2⟩:=hG h.toXOk z1
  obtain⟨x,px,apos,as,pos,e2,g1,g2,g3,g4,z6,z5⟩:=oM h.toXOk z4
  have e2:e=.Call (.Attribute (.Name x px) "pop" apos) as [] pos:=e2
  have z5:as=[]:=List.isEmpty_iff.mp z5
  subst y1 z5 e2
  exact Ew (wA h.ndX l1 l2 (wq PySem.F.plainAttrs_list PySem.F.slot_list_pop PySem.F.type_list_pop wI (hV g1 g2 g3 g4) rfl z6) rfl (.inl (h.fn _))) z2 (iI z3)
 | .clr _,C,M,h,st,z=>by cases z
 | .aug i o e',C,M,h,st,z=>by
  obtain⟨⟨t,op,e⟩,z0,z⟩:=aw z
  obtain⟨p,rfl⟩:=Cq z0
  obtain⟨z,z4⟩:=ae z
  obtain⟨z,z3⟩:=ae z
  obtain⟨z1,z2⟩:=ae z
  obtain⟨x,px,e1,l1,l2⟩:=hG h.toXOk z1
  have e1:t=.Name x px:=e1
  subst e1
  have z3:Ap o op=true:=z3
  have z4:chk C false e' e=true:=z4
  clear z0 z1 z
  cases o<;>cases op<;>first | (cases z3;done) | skip
  ·exact yf (f:=fun a b=>a+b) (fun a b=>rfl) (vQ h.ndX l1 l2 ((ak e' h.toXOk e).1 z4) E5 (.inl (h.fn x))) (iI z2)
  ·exact yf (f:=fun a b=>a-b) (fun a b=>rfl) (vQ h.ndX l1 l2 ((ak e' h.toXOk e).1 z4) Ed (.inl (h.fn x))) (iI z2)
 | .ife c' a' b',C,M,h,st,z=>by
  obtain⟨⟨c,a,b⟩,z0,z⟩:=aw z
  obtain⟨p,rfl⟩:=wY z0
  obtain⟨z,z3⟩:=ae z
  obtain⟨z1,z2⟩:=ae z
  exact Gh ((ak c' h.toXOk c).2 z1).1 (dE a' h a z2) (dE b' h b z3)
 | .forr tg it b',C,M,h,st,z=>by
  obtain⟨⟨t,it',b,o⟩,z0,z⟩:=aw z
  obtain⟨p,rfl⟩:=BW z0
  obtain⟨z,z7⟩:=ae z
  obtain⟨z,z6⟩:=ae z
  obtain⟨z,z5⟩:=ae z
  obtain⟨z,z4⟩:=ae z
  obtain⟨z,z3⟩:=ae z
  obtain⟨z1,z2⟩:=ae z
  have z1:o=[]:=List.isEmpty_iff.mp z1
  subst z1
  exact CY h.xe h.calm (iW it h.toXOk t it' z2) (wZ h.toXOk (fun i x _ _=>.inl (h.fn x)) z3) (dE b' h b z7) (fT z4 _) z5 (uc z6)
 | .mexc f es ps ms,C,M,h,st,z=>by
  obtain⟨e,z0,z⟩:=aw z
  obtain⟨p0,rfl⟩:=og z0
  obtain⟨g1,g2,g3,g4,g5,g6⟩:=Ah h.toXOk z
  exact Co (oP g1 (gM g6)) g2 g3 g4 g5
 | .maug _ _ _ _ _,C,M,h,st,z=>by cases z
 | .ret e',C,M,h,st,z=>by
  obtain⟨o,z0,z⟩:=aw z
  obtain⟨p,rfl⟩:=B9 z0
  obtain⟨e,rfl,zz⟩:=aw z
  by_cases hv:tZ M e'=true
  ·have:∃ i,e'=.var i:=by
    cases e'<;>first | exact⟨_,rfl⟩ | exact Bool.noConfusion hv
   obtain⟨i,rfl⟩:=this
   obtain⟨x,q,rfl,g1,g2,g3,g4⟩:=iN h.toXOk zz
   exact B5 g1 g2 g3 g4 hv
  ·exact C2 ((ak e' h.toXOk e).1 zz) fun i hi=>by
    subst hi
    simpa[tZ]using hv
 | .exc e',C,M,h,st,z=>by
  obtain⟨e,z0,z⟩:=aw z
  obtain⟨p0,rfl⟩:=og z0
  obtain⟨z1,z2⟩:=ae z
  exact EK (oP ((ak e' h.toXOk e).1 z2) (gM z1))
 | .never,C,M,h,st,z=>yV
 | .put2 _ _ _ _ _,C,M,h,st,z=>by cases z
 | .ifp i e' a' b',C,M,h,st,z=>by
  obtain⟨⟨c,a,b⟩,z0,z⟩:=aw z
  obtain⟨p,rfl⟩:=wY z0
  obtain⟨⟨l,os,rs⟩,z0,z⟩:=aw z
  obtain⟨cp,ec⟩:=fB z0
  have ec:c=.Compare l os rs cp:=ec
  obtain⟨op,y1,z⟩:=aR z
  obtain⟨e,y2,z⟩:=aR z
  have y1:os=[op]:=y1
  have y2:rs=[e]:=y2
  obtain⟨z,z6⟩:=ae z
  obtain⟨z,z5⟩:=ae z
  obtain⟨z,z4⟩:=ae z
  obtain⟨z,z3⟩:=ae z
  obtain⟨z1,z2⟩:=ae z
  rw[beq_iff_eq]at z1
  obtain⟨x,px,apos,as,pos,e2,g1,g2,g3,g4,z7,z8⟩:=oM h.toXOk z6
  have e2:l=.Call (.Attribute (.Name x px) "pop" apos) as [] pos:=e2
  have z8:as=[]:=List.isEmpty_iff.mp z8
  rw[z8]at e2
  rw[y1,y2,z1,e2]at ec
  subst ec
  exact Er (wq PySem.F.plainAttrs_list PySem.F.slot_list_pop PySem.F.type_list_pop wI (hV g1 g2 g3 g4) rfl z7) ((ak e' h.toXOk e).1 z3) (dE a' h a z4) (dE b' h b z5) z2
 | .whil c' b',C,M,h,st,z=>by
  obtain⟨⟨c,b,o⟩,z0,z⟩:=aw z
  obtain⟨p,rfl⟩:=BY z0
  obtain⟨z,z3⟩:=ae z
  obtain⟨z1,z2⟩:=ae z
  have z1:o=[]:=List.isEmpty_iff.mp z1
  subst z1
  exact zH h.xe ((ak c' h.toXOk c).2 z2).1 (dE b' h b z3)
theorem dE:∀ (s:RL.Ss) {C:CC} {M:List Nat} (h:YOk C X cl) (st:List Stmt),gr C M s st=true->SSs X cl M st s
 | .nil,C,M,h,st,z=>by
  have z:st=[]:=List.isEmpty_iff.mp z
  subst z
  exact BE
 | .cons s r,C,M,h,st,z=>by
  cases st with
  | nil=>cases z
  |cons x xs=>
   obtain⟨z1,z2⟩:=ae z
   exact zM (Bx s h x z1) (dE r h xs z2)
end
end
structure oj where
 name:Str
 st:Stmt
 ps:List Str
 N:List Str
structure PT' where
 B:List Str
 G:List (Str × Int)
 Ds:List oj
 T:List RL.Fn
noncomputable def PT'.F(p:PT'):List (Str × List Nat):=(p.Ds.zip p.T).map fun q=>(q.1.name,q.2.mp)
noncomputable def PT'.cc(p:PT')(d:oj):CC:=⟨d.N,c7 d.st,p.B,p.G,p.F⟩
noncomputable def rD(N ps:List Str)(sc:Scope):Bool :=
 sc.kind == .function && !sc.isCoroutine && !sc.isGenerator&&decide N.Nodup&&N.take ps.length == ps&&ps.all (fun x=>sc.names.lookup x == some .local || sc.names.lookup x == some .cell)&&sc.names.all (fun y=>!(y.2 == .free))
noncomputable def fnB(p:PT')(d:oj)(fn:RL.Fn):Bool :=
 rD d.N d.ps (c7 d.st)&&fn.ps == d.ps.length&&fn.nn == d.N.length&&decide (d.ps.length<=d.N.length)&&(List.range fn.ps).all (fun i=>!fn.M.contains i || fn.mp.contains i)&&fn.mp.all (fun i=>decide (i<fn.ps)&&decide (2<=fn.M.count i))&&gr (p.cc d) fn.M fn.body (fz d.st)
noncomputable def PT'.ok(p:PT'):Bool:=p.Ds.length == p.T.length&&(p.Ds.zip p.T).all fun q=>fnB p q.1 q.2
theorem zF{N ps:List Str}{sc:Scope}(h:rD N ps sc=true):l6 N ps sc:=by
 unfold rD at h
 obtain⟨h,h7⟩:=ae h
 obtain⟨h,h6⟩:=ae h
 obtain⟨h,h5⟩:=ae h
 obtain⟨h,h4⟩:=ae h
 obtain⟨h,h3⟩:=ae h
 obtain⟨h1,h2⟩:=ae h
 refine⟨by simpa using h1,by simpa using h2,by simpa using h3,by simpa using h4,by simpa using h5,fun x hx=>?_,fun y hy=>?_⟩
 ·rw[List.all_eq_true]at h6
  have:=h6 x hx
  rw[Bool.or_eq_true,beq_iff_eq,beq_iff_eq]at this
  exact this
 ·rw[List.all_eq_true]at h7
  have:=h7 y hy
  intro z
  rw[z]at this
  simp at this
structure A3(p:PT')(K:PySem.W.Frag)(mg:Str->Option Value):Prop where
 defs:∀ (f:Nat) (d:oj),p.Ds[f]?=some d->∃ fa fd,mg d.name=some (.ref fa)/\Fun K d.name d.name d.st fa fd/\PySem.W.keepIn K (.ref fa)=true/\Binds K fd d.ps []
 blt:∀ x∈p.B,mg x=none
 glb:∀ x i,p.G.lookup x=some i->∃ u,mg x=some u/\RelV (.int i) u
section
variable{p:PT'}{K:PySem.W.Frag}{mg:Str->Option Value}{base:Heap}{P:Program}{w:World}
noncomputable def rB(K:PySem.W.Frag)(cl:RL.Cl)(mp:List Nat)(f:Nat):Sp:=if mp=[]then spF K cl f else spM K cl mp f
theorem bw(vs:List α)(k:Nat)(i:Nat)(v:α):(vs.map some++List.replicate k none)[i]?=some (some v)↔vs[i]?=some v:=by
 by_cases h:i<vs.length
 ·rw[List.getElem?_append_left (by simpa using h)]
  simp[h]
 ·rw[List.getElem?_append_right (by simpa using h)]
  constructor
  ·intro e
   rw[List.getElem?_replicate]at e
   split at e<;>cases e
  ·intro e
   have:=(List.getElem?_eq_some_iff.mp e).1
   omega
theorem B2{M:List Nat}{k n:Nat}(r:ab nP K H ds vs)(hM:∀ i,i<n->M.contains i=false)(hn:ds.length=n):RVm K M (ds.map some++List.replicate k none) (vs.map some++List.replicate k none) H:=by
 have nA:∀ a,¬ bD M (vs.map some++List.replicate k none) a:=fun a ⟨i,hi,e⟩=>by
  rw[bw]at e
  have:=(List.getElem?_eq_some_iff.mp e).1
  rw[hM i (by rw[<-hn,r.length];exact this)]at hi
  cases hi
 refine⟨by simp[r.length],fun i d e=>?_,fun i v e=>?_,fun i j a hi hj e1 e2=>(nA a ⟨i,hi,e1⟩).elim⟩
 ·rw[bw]at e
  obtain⟨v,h1,h2⟩:=r.get e
  have hl:=(List.getElem?_eq_some_iff.mp e).1
  refine⟨v,(bw _ _ _ _).mpr h1,?_⟩
  rw[if_neg (by rw[hM i (by omega)];decide)]
  exact h2.weak fun a ha=>nA a ha
 ·rw[bw]at e
  have hl:=(List.getElem?_eq_some_iff.mp e).1
  exact⟨ds[i]'(by rw[r.length];exact hl),(bw _ _ _ _).mpr (by simp)⟩
theorem Cv{M mp:List Nat}{k n:Nat}(a:Eg K mp ds vs H)(hM:∀ i,i<n->M.contains i=true->i∈mp)(hp:∀ i∈mp,M.contains i=true)(hn:ds.length=n):RVm K M (ds.map some++List.replicate k none) (vs.map some++List.replicate k none) H:=by
 have r:=a.jZ
 have inM:∀ i v,(vs.map some++List.replicate k none)[i]?=some (some v)->M.contains i=true->i∈mp/\vs[i]?=some v:=fun i v e hi=>by
  rw[bw]at e
  have:=(List.getElem?_eq_some_iff.mp e).1
  exact⟨hM i (by rw[<-hn,r.length];exact this) hi,e⟩
 refine⟨by simp[r.length],fun i d e=>?_,fun i v e=>?_,fun i j b hi hj e1 e2=>?_⟩
 ·rw[bw]at e
  obtain⟨v,h1,h2⟩:=r.get e
  have hl:=(List.getElem?_eq_some_iff.mp e).1
  refine⟨v,(bw _ _ _ _).mpr h1,?_⟩
  by_cases hm:M.contains i=true
  ·rw[if_pos hm]
   obtain⟨d',b,g1,g2,g3⟩:=a.own i (hM i (by omega) hm)
   rw[e]at g1
   cases g1
   rw[h1]at g2
   cases g2
   exact g3
  ·rw[if_neg hm]
   refine(a.oth i d v (fun z=>hm (hp i z)) e h1).weak fun b ⟨j,hj,ej⟩=>?_
   obtain⟨q1,q2⟩:=inM j _ ej hj
   exact⟨j,q1,q2⟩
 ·rw[bw]at e
  have hl:=(List.getElem?_eq_some_iff.mp e).1
  exact⟨ds[i]'(by rw[r.length];exact hl),(bw _ _ _ _).mpr (by simp)⟩
 ·obtain⟨q1,q2⟩:=inM i _ e1 hi
  obtain⟨q3,q4⟩:=inM j _ e2 hj
  exact a.sep i q1 j q3 b q2 q4
theorem rC{σ:RL.St}:∀ {mp:List Nat} {outs:List RL.D},RL.fv σ mp=some outs->outs.length=mp.length/\∀ (k i:Nat) o,mp[k]?=some i->outs[k]?=some o->σ[i]?=some (some o)
 | [],outs,h=>by
  rw[RL.fv]at h
  cases h
  exact⟨rfl,fun k i o e=>by simp at e⟩
 | m::mp,outs,h=>by
  rw[RL.fv]at h
  obtain⟨d,h1,h⟩:=bind_some h
  obtain⟨os,h2,h3⟩:=map_some h
  subst h3
  obtain⟨g1,g2⟩:=rC h2
  refine⟨by simp[g1],fun k i o e1 e2=>?_⟩
  cases k with
  |zero=>
   simp at e1 e2
   subst e1 e2
   exact slot_get h1
  | succ k=>exact g2 k i o (by simpa using e1) (by simpa using e2)
theorem wO{fn:RL.Fn}{d r:RL.D}{σ:RL.St}(h:RL.aU fn d σ=some r)(hm:fn.mp=[]):r=d:=by
 unfold RL.aU at h
 rw[hm]at h
 simpa using h.symm
theorem EL{fn:RL.Fn}{d r:RL.D}{σ:RL.St}(h:RL.aU fn d σ=some r)(hm:fn.mp≠[]):d.imm=true/\∃ outs,RL.fv σ fn.mp=some outs/\r=.tup (d::outs):=by
 unfold RL.aU at h
 rw[if_neg (by simpa using hm)]at h
 split at h
 ·rename_i im
  obtain⟨os,h1,h2⟩:=map_some h
  exact⟨im,os,h1,h2.symm⟩
 ·cases h
theorem vX(hok:p.ok=true)(tp:A3 p K mg):∀ (n f:Nat) (d:oj) (fn:RL.Fn),p.Ds[f]?=some d->p.T[f]?=some fn->∀ fa fd,Fun K d.name d.name d.st fa fd->i9 P w K mg base CX0 n fa fd d.ps (rB K (RL.au p.T n) fn.mp f)
 | 0,f,d,fn,hd,hf,fa,fd,F=>by
  have no:∀ vs H Q E,¬ rB K (RL.au p.T 0) fn.mp f vs H Q E:=fun vs H Q E h=>by
   unfold rB at h
   split at h
   ·obtain⟨ds,r,_,e,_⟩:=h
    cases e
   ·obtain⟨ds,r,o,e,_⟩:=h
    cases e
  exact⟨fun vs H Q E h=>(no vs H Q E h).elim,fun A outer s H args us vs Q E _ _ _ _ h=>(no vs H Q E h).elim⟩
 | n+1,f,d,fn,hd,hf,fa,fd,F=>by
  have hok':=hok
  unfold PT'.ok at hok'
  obtain⟨hl,hall⟩:=ae hok'
  rw[beq_iff_eq]at hl
  rw[List.all_eq_true]at hall
  have hz:(p.Ds.zip p.T)[f]?=some (d,fn):=by
   rw[List.getElem?_zip_eq_some]
   exact⟨hd,hf⟩
  have hB:=hall (d,fn) (List.mem_of_getElem? hz)
  unfold fnB at hB
  dsimp only at hB
  obtain⟨hB,b7⟩:=ae hB
  obtain⟨hB,b6⟩:=ae hB
  obtain⟨hB,b5⟩:=ae hB
  obtain⟨hB,b4⟩:=ae hB
  obtain⟨hB,b3⟩:=ae hB
  obtain⟨b1,b2⟩:=ae hB
  rw[beq_iff_eq]at b2 b3
  rw[decide_eq_true_eq]at b4
  rw[List.all_eq_true]at b5 b6
  have S:=zF b1
  have hM:∀ i,i<fn.ps->fn.M.contains i=true->i∈fn.mp:=fun i hi hm=>by
   have:=b5 i (List.mem_range.mpr hi)
   rw[hm]at this
   simpa using this
  have hp2:∀ i∈fn.mp,i<fn.ps/\2<=fn.M.count i:=fun i hi=>by simpa using b6 i hi
  have unf:∀ ds r,RL.au p.T (n+1) f ds=some r->ds.length=fn.ps/\∃ o σ',RL.af (RL.au p.T n) fn.M fn.body (ds.map some++List.replicate (fn.nn-fn.ps) none)=some (o,σ')/\(match o with | .nx=>RL.aU fn .non σ' | .rt d=>RL.aU fn d σ')=some r:=by
   intro ds r h
   rw[RL.au,hf]at h
   dsimp only[Option.bind_some]at h
   split at h
   ·rename_i hlen
    obtain⟨⟨o,σ'⟩,h1,h2⟩:=bind_some h
    exact⟨hlen,o,σ',h1,h2⟩
   ·cases h
  refine Fun.ok F S (fun vs H Q E h=>?_) fun cdv A outer s H vs Q E hr h=>?_
  ·unfold rB at h
   split at h
   ·obtain⟨ds,r,r1,e,_⟩:=h
    rw[<-r1.length,(unf ds r e).1,b2]
   ·obtain⟨ds,r,o,e,a,_⟩:=h
    rw[<-a.jZ.length,(unf ds _ e).1,b2]
  ·-- the body's context
   have Y:YOk (p.cc d) (ma CX0 P w K mg base d.N d.name (c7 d.st) fa cdv A outer s H E).nox (RL.au p.T n):={
    scope:=rfl
    names:=rfl
    nd:=S.nd
    calm:=rfl
    xe:=rfl
    hu:=by
     have:=hr.un
     show(A.deeper _).units+100<cLine
     omega
    blt:=tp.blt
    glb:=tp.glb
    fns:=fun g x mp hg=>by
     have hg':p.F[g]?=some (x,mp):=hg
     unfold PT'.F at hg'
     rw[List.getElem?_map]at hg'
     obtain⟨⟨d',fn'⟩,q1,q2⟩:=map_some hg'
     cases q2
     rw[List.getElem?_zip_eq_some]at q1
     obtain⟨fa',fd',t1,t2,t3,t4⟩:=tp.defs g d' q1.1
     exact⟨n,fa',fd',d'.ps,vX hok tp n g d' fn' q1.1 q1.2 fa' fd' t2,hr,t1,t3,t4⟩
    fn:=fun _=>rfl }
   have body:=dE fn.body Y (M:=fn.M) _ b7
   refine⟨_,body,?_⟩
   have hst:start d.N vs=vs.map some++List.replicate (d.N.length-vs.length) none:=rfl
   unfold rB at h
   split at h
   ·rename_i hmp
    obtain⟨ds,r,r1,e,k⟩:=h
    obtain⟨hlen,o,σ',e1,e2⟩:=unf ds r e
    have hvl:vs.length=fn.ps:=by rw[<-r1.length];exact hlen
    refine⟨_,o,σ',?_,e1,?_⟩
    ·rw[hst,hvl,<-b3]
     exact B2 r1 (fun i hi=>by
      cases hc:fn.M.contains i with
      | false=>rfl
      |true=>
       have:=hM i hi hc
       rw[hmp]at this
       cases this) hlen
    ·have noA:∀ a,¬ bD fn.M (start d.N vs) a:=fun a ⟨i,hi,ei⟩=>by
      rw[hst,bw]at ei
      have h3:=(List.getElem?_eq_some_iff.mp ei).1
      have:=hM i (by omega) hi
      rw[hmp]at this
      cases this
     cases o with
     |nx=>
      have hr':=wO (d:=.non) e2 hmp
      subst hr'
      intro σ1 H1 rv1 fr1
      refine k .non H1 (fun b u eb=>(fr1.1 b u eb (noA b)).1) (by rw[Rep])
     |rt d0=>
      have hr':=wO (d:=d0) e2 hmp
      subst hr'
      intro σ1 H1 v H' rv1 fr1 sm rp
      refine k v H' (fun b u eb=>sm _ _ (fr1.1 b u eb (noA b)).1) (rp _ fun q hq=>?_)
      obtain⟨u,hu⟩:=Option.ne_none_iff_exists'.mp hq
      have:=fr1.1 q u hu (noA q)
      exact⟨(by rw[this.1];exact fun z=>nomatch z),this.2⟩
   ·rename_i hmp
    obtain⟨ds,r,outs,e,a,k⟩:=h
    obtain⟨hlen,o,σ',e1,e2⟩:=unf ds _ e
    have hvl:vs.length=fn.ps:=by rw[<-a.jZ.length];exact hlen
    refine⟨_,o,σ',?_,e1,?_⟩
    ·rw[hst,hvl,<-b3]
     exact Cv a hM (fun i hi=>kR (hp2 i hi).2) hlen
    ·-- the lists behind it
     have fin:∀ (d0:RL.D) (σ1:L2.St) (H1 H':Hp) (v:V),RL.aU fn d0 σ'=some (.tup (r::outs))->RVm K fn.M σ' σ1 H1->Fr' fn.M (start d.N vs) H σ1 H1->a5 H1 H'->(d0.imm=true->Rep nP K H' d0 v)->Q v H':=by
      intro d0 σ1 H1 H' v ht rv1 fr1 sm rp
      obtain⟨im,os,g1,g2⟩:=EL ht hmp
      cases g2
      obtain⟨l1,l2⟩:=rC g1
      refine k v H' (fun b u nb eb=>sm _ _ (fr1.1 b u eb fun⟨i,hi,ei⟩=>?_).1) (rp im) im ⟨l1,fun kk pp oo hk ho=>?_⟩
      ·rw[hst,bw]at ei
       have h3:=(List.getElem?_eq_some_iff.mp ei).1
       exact nb ⟨i,hM i (by omega) hi,ei⟩
      ·have hpm:=List.mem_of_getElem? hk
       obtain⟨dp,ap,g3,g4,g5⟩:=a.own pp hpm
       have g6:=fr1.2 pp (hp2 pp hpm).2
       have g7:(start d.N vs)[pp]?=some (some (.ref ap)):=by rw[hst,bw];exact g4
       rw[g7]at g6
       obtain⟨v',g8,g9⟩:=rv1.val pp oo (l2 kk pp oo hk ho)
       rw[g6]at g8
       cases g8
       rw[if_pos (kR (hp2 pp hpm).2)]at g9
       exact⟨ap,g4,g9.same sm⟩
     cases o with
     |nx=>
      intro σ1 H1 rv1 fr1
      exact fin .non σ1 H1 H1 .non e2 rv1 fr1 (a5.refl _) fun _=>by rw[Rep]
     |rt d0=>
      intro σ1 H1 v H' rv1 fr1 sm rp
      exact fin d0 σ1 H1 H' v e2 rv1 fr1 sm fun im=>rp nP fun _ z=>z.elim
end
noncomputable def spL(n:Nat)(p:PT')(f:Nat)(K:PySem.W.Frag):Sp:=spF K (RL.au p.T n) f
theorem Dn{n:Nat}{p:PT'}{f:Nat}{K:PySem.W.Frag}{a:Addr}{ns:List Int}(hO:rj H)(hS:SqL K H a (ns.map V.int))(h:RL.au p.T n f [.scr (ns.map RL.D.int)]=some (.bl true)):spL n p f K [.ref a] H (fun v _=>v=.bl true) fun _ _ _=>False:=by
 refine⟨_,_,?_,h,fun v H' _ r=>bf r⟩
 refine ab.cons ?_ ab.nil
 rw[Rep]
 refine⟨a,ns.map V.int,rfl,?_,?_⟩
 ·rcases hS with(z | ⟨o,z⟩) | z
  ·rcases hO a with q | ⟨o,xs,q⟩
   ·rw[q]at z
    cases z
   ·rw[q]at z
    cases z
  ·exact .inl ⟨o,z⟩
  ·exact .inr (.inr z)
 ·clear hS h
  induction ns with
  | nil=>exact ab.nil
  | cons i r ih=>exact ab.cons aY ih
end RS
namespace K37
open PySem PySem.Spec PyProof.Rows L2
noncomputable def top(i:Nat):Stmt:=PySem.Challenge.pw_ribbonloft_k37_from_both_sides.main.body.getD i (.Pass ⟨0,0,0,0⟩)
noncomputable def Ds:List RS.oj:=[
 ⟨"is_number",top 7,["value"],["value"]⟩,
 ⟨"is_peg_count",top 8,["value"],["value"]⟩,
 ⟨"check_pegs",top 9,["pegs"],["pegs"]⟩,
 ⟨"is_pairing",top 11,["row"],["row", "place"]⟩,
 ⟨"names_back",top 12,["row", "place"],["row", "place", "other"]⟩,
 ⟨"is_uncrossed",top 13,["row"],["row", "waiting", "place", "other"]⟩,
 ⟨"tie",top 14,["row", "one", "other"],["row", "one", "other"]⟩,
 ⟨"run",top 15,["one", "other", "start"],["one", "other", "start", "places", "onward", "side"]⟩,
 ⟨"rings_of",top 16,["one", "other"],["one", "other", "seen", "start", "many"]⟩,
 ⟨"mark",top 17,["seen", "places"],["seen", "places", "place"]⟩,
 ⟨"is_frame",top 19,["frame"],["frame", "pegs", "alone", "peg", "other"]⟩,
 ⟨"check_frame",top 20,["frame"],["frame"]⟩,
 ⟨"check_two_frames",top 21,["one", "other"],["one", "other"]⟩,
 ⟨"pegs_of",top 22,["frame"],["frame"]⟩,
 ⟨"plain",top 23,["pegs"],["pegs"]⟩,
 ⟨"over",top 24,["frame"],["frame"]⟩,
 ⟨"through",top 25,["frame"],["frame", "pegs", "other"]⟩,
 ⟨"ties",top 26,["frame"],["frame", "peg", "other"]⟩,
 ⟨"round_place",top 27,["pegs", "peg"],["pegs", "peg"]⟩,
 ⟨"in_round",top 28,["frame"],["frame", "pegs", "peg"]⟩,
 ⟨"moved",top 29,["frame", "to"],["frame", "to", "ends", "peg", "other"]⟩,
 ⟨"is_half",top 31,["half"],["half"]⟩,
 ⟨"check_half",top 32,["half"],["half"]⟩,
 ⟨"check_two_halves",top 33,["one", "other"],["one", "other"]⟩,
 ⟨"upper",top 34,["frame"],["frame", "pegs", "peg", "other"]⟩,
 ⟨"lower",top 35,["frame"],["frame"]⟩,
 ⟨"joined",top 36,["one", "other"],["one", "other", "leaving", "coming", "pegs", "frame", "above", "beneath", "peg"]⟩,
 ⟨"going",top 37,["half"],["half", "peg", "other"]⟩,
 ⟨"hung",top 39,["upper", "lower"],["upper", "lower"]⟩,
 ⟨"put_under",top 40,["upper", "lower"],["upper", "lower", "pegs", "ribbons", "joints", "outer", "ends", "frame", "peg", "end"]⟩,
 ⟨"joints_between",top 41,["pegs"],["pegs", "top", "above", "beneath", "bottom"]⟩,
 ⟨"below",top 43,["frame", "goal"],["frame", "goal", "pegs", "missed", "peg", "other"]⟩,
 ⟨"between",top 44,["frame", "goal"],["frame", "goal", "many", "less", "meeting_half", "under"]⟩,
 ⟨"narrowed",top 45,["half", "fewer"],["half", "fewer", "row", "loose", "at"]⟩,
 ⟨"_law_mix",top 47,["_law_seed"],["_law_seed", "_law_one", "_law_two"]⟩,
 ⟨"_law_raw",top 48,["_law_script", "_law_k"],["_law_script", "_law_k", "_law_cell", "_law_found", "_law_turn"]⟩,
 ⟨"_law_digits",top 49,["_law_script", "_law_k", "_law_sizes"],["_law_script", "_law_k", "_law_sizes", "_law_rest", "_law_found", "_law_size"]⟩,
 ⟨"_law_plain",top 50,["_law_pegs"],["_law_pegs", "_law_peg"]⟩,
 ⟨"_law_hook",top 51,["_law_pegs", "_law_number"],["_law_pegs", "_law_number", "_law_found", "_law_start"]⟩,
 ⟨"_law_circle",top 52,["_law_pegs"],["_law_pegs"]⟩,
 ⟨"_law_from_text",top 53,["_law_text_here"],["_law_text_here", "_law_pegs", "_law_circle_here", "_law_found", "_law_line", "_law_place", "_law_sign", "_law_peg", "_law_other"]⟩,
 ⟨"_law_text",top 54,["_law_raw_here", "_law_pegs"],["_law_raw_here", "_law_pegs", "_law_text_here", "_law_deep", "_law_left", "_law_up", "_law_step"]⟩,
 ⟨"_law_rings_by",top 55,["_law_high", "_law_low", "_law_inner"],["_law_high", "_law_low", "_law_inner", "_law_pegs", "_law_head", "_law_peg", "_law_other", "_law_one", "_law_keep", "_law_go"]⟩,
 ⟨"_law_hung",top 56,["_law_high", "_law_low"],["_law_high", "_law_low", "_law_pegs", "_law_near", "_law_peg", "_law_found", "_law_gone", "_law_here", "_law_turn"]⟩,
 ⟨"_law_over",top 57,["_law_frame_here"],["_law_frame_here", "_law_pegs", "_law_peg"]⟩,
 ⟨"_law_frame",top 58,["_law_script", "_law_k", "_law_pegs"],["_law_script", "_law_k", "_law_pegs", "_law_found", "_law_way", "_law_raw_here", "_law_number"]⟩,
 ⟨"_law_frames",top 59,["_law_script", "_law_k", "_law_pegs", "_law_count"],["_law_script", "_law_k", "_law_pegs", "_law_count", "_law_at"]⟩,
 ⟨"_law_same",top 60,["_law_told", "_law_due"],["_law_told", "_law_due", "_law_one", "_law_other"]⟩,
 ⟨"_law_crosses",top 61,["_law_ends", "_law_one"],["_law_ends", "_law_one", "_law_a", "_law_b", "_law_c", "_law_d"]⟩,
 ⟨"_law_good",top 62,["_law_frame_here"],["_law_frame_here", "_law_size", "_law_circle_here", "_law_ends", "_law_peg", "_law_other", "_law_one"]⟩,
 ⟨"law",top 63,["_law_script"],["_law_script", "_law_k", "_law_pegs", "_law_less", "_law_most", "_law_told", "_law_frame_here", "_law_goal", "_law_end", "_law_one"]⟩]
noncomputable def p:RS.PT':=⟨["all", "any", "bool", "enumerate", "int", "isinstance", "len", "list", "max", "range", "set", "sorted", "str", "tuple", "zip"],[("MOST_PEGS",10)],Ds,T⟩
theorem HD:p.ok=true:=by decide +kernel
theorem all1{P:List Value->Prop}(h:∀ a0,P [a0]):∀ us:List Value,us.length=1->P us
 | [a0],_=>h a0
theorem all2{P:List Value->Prop}(h:∀ a0 a1,P [a0,a1]):∀ us:List Value,us.length=2->P us
 | [a0,a1],_=>h a0 a1
theorem iE{P:List Value->Prop}(h:∀ a0 a1 a2,P [a0,a1,a2]):∀ us:List Value,us.length=3->P us
 | [a0,a1,a2],_=>h a0 a1 a2
theorem HJ{P:List Value->Prop}(h:∀ a0 a1 a2 a3,P [a0,a1,a2,a3]):∀ us:List Value,us.length=4->P us
 | [a0,a1,a2,a3],_=>h a0 a1 a2 a3
structure aE(K:PySem.W.Frag)(mg:Str->Option Value)(x:Str)(st:Stmt):Prop where
 ex:∃ f fd,mg x=some (.ref f)/\Fun K x x st f fd/\PySem.W.keepIn K (.ref f)=true
theorem De{K:PySem.W.Frag}{mg:Str->Option Value}{x:Str}{st:Stmt}{f:Addr}{oc kV dc pm cd ct:Value}{od an:Option Addr}{sl:Array (Option Value)}(X:K.In h)(G:h.Ns mainGlobals mg)(a:PySem.W.nsIn K mainGlobals x=some (some (.ref f)))
 (l:K.lookup f=some ⟨oc,od,.func (PySem.W.fnOf x x (iR st) (fz st) (c7 st) .none kV dc pm an cd ct),sl⟩)(c:PySem.W.codeIn K cd x=true)(k:PySem.W.keepIn K (.ref f)=true):aE K mg x st :=
 ⟨f,_,PySem.W.mg_of X G a,DE (st:=st) l c k,k⟩
structure tH(K:PySem.W.Frag)(mg:Str->Option Value):Prop where
 d7:aE K mg "is_number" (top 7)
 d8:aE K mg "is_peg_count" (top 8)
 d9:aE K mg "check_pegs" (top 9)
 d11:aE K mg "is_pairing" (top 11)
 d12:aE K mg "names_back" (top 12)
 d13:aE K mg "is_uncrossed" (top 13)
 d14:aE K mg "tie" (top 14)
 d15:aE K mg "run" (top 15)
 d16:aE K mg "rings_of" (top 16)
 d17:aE K mg "mark" (top 17)
 d19:aE K mg "is_frame" (top 19)
 d20:aE K mg "check_frame" (top 20)
 d21:aE K mg "check_two_frames" (top 21)
 d22:aE K mg "pegs_of" (top 22)
 d23:aE K mg "plain" (top 23)
 d24:aE K mg "over" (top 24)
 d25:aE K mg "through" (top 25)
 d26:aE K mg "ties" (top 26)
 d27:aE K mg "round_place" (top 27)
 d28:aE K mg "in_round" (top 28)
 d29:aE K mg "moved" (top 29)
 d31:aE K mg "is_half" (top 31)
 d32:aE K mg "check_half" (top 32)
 d33:aE K mg "check_two_halves" (top 33)
 d34:aE K mg "upper" (top 34)
 d35:aE K mg "lower" (top 35)
 d36:aE K mg "joined" (top 36)
 d37:aE K mg "going" (top 37)
 d39:aE K mg "hung" (top 39)
 d40:aE K mg "put_under" (top 40)
 d41:aE K mg "joints_between" (top 41)
 d43:aE K mg "below" (top 43)
 d44:aE K mg "between" (top 44)
 d45:aE K mg "narrowed" (top 45)
 d47:aE K mg "_law_mix" (top 47)
 d48:aE K mg "_law_raw" (top 48)
 d49:aE K mg "_law_digits" (top 49)
 d50:aE K mg "_law_plain" (top 50)
 d51:aE K mg "_law_hook" (top 51)
 d52:aE K mg "_law_circle" (top 52)
 d53:aE K mg "_law_from_text" (top 53)
 d54:aE K mg "_law_text" (top 54)
 d55:aE K mg "_law_rings_by" (top 55)
 d56:aE K mg "_law_hung" (top 56)
 d57:aE K mg "_law_over" (top 57)
 d58:aE K mg "_law_frame" (top 58)
 d59:aE K mg "_law_frames" (top 59)
 d60:aE K mg "_law_same" (top 60)
 d61:aE K mg "_law_crosses" (top 61)
 d62:aE K mg "_law_good" (top 62)
 d63:aE K mg "law" (top 63)
 Gf:PySem.W.nsIn K mainGlobals "all" = some none
 FI:PySem.W.nsIn K mainGlobals "any" = some none
 EC:PySem.W.nsIn K mainGlobals "bool" = some none
 sT:PySem.W.nsIn K mainGlobals "enumerate" = some none
 G7:PySem.W.nsIn K mainGlobals "int" = some none
 rm:PySem.W.nsIn K mainGlobals "isinstance" = some none
 FQ:PySem.W.nsIn K mainGlobals "len" = some none
 DI:PySem.W.nsIn K mainGlobals "list" = some none
 G3:PySem.W.nsIn K mainGlobals "max" = some none
 Bp:PySem.W.nsIn K mainGlobals "range" = some none
 Gu:PySem.W.nsIn K mainGlobals "set" = some none
 yo:PySem.W.nsIn K mainGlobals "sorted" = some none
 Gy:PySem.W.nsIn K mainGlobals "str" = some none
 BI:PySem.W.nsIn K mainGlobals "tuple" = some none
 Gb:PySem.W.nsIn K mainGlobals "zip" = some none
 sX:∃ t,PySem.W.nsIn K mainGlobals "MOST_PEGS" = some (some (.int 10 t))
theorem Fs{K:PySem.W.Frag}{mg:Str->Option Value}(X:K.In h)(G:h.Ns mainGlobals mg)(A:tH K mg):RS.A3 p K mg where
 defs:=by
  intro f d hf
  match f,hf with
  | 0,hf=>cases hf;obtain⟨fa,fd,h1,h2,h3⟩:=A.d7.ex;exact⟨fa,fd,h1,h2,h3,h2.binds (ps:=["value"]) (fun _ _ _ _ _ _=>all1 (fun _=>rfl))⟩
  | 1,hf=>cases hf;obtain⟨fa,fd,h1,h2,h3⟩:=A.d8.ex;exact⟨fa,fd,h1,h2,h3,h2.binds (ps:=["value"]) (fun _ _ _ _ _ _=>all1 (fun _=>rfl))⟩
  | 2,hf=>cases hf;obtain⟨fa,fd,h1,h2,h3⟩:=A.d9.ex;exact⟨fa,fd,h1,h2,h3,h2.binds (ps:=["pegs"]) (fun _ _ _ _ _ _=>all1 (fun _=>rfl))⟩
  | 3,hf=>cases hf;obtain⟨fa,fd,h1,h2,h3⟩:=A.d11.ex;exact⟨fa,fd,h1,h2,h3,h2.binds (ps:=["row"]) (fun _ _ _ _ _ _=>all1 (fun _=>rfl))⟩
  | 4,hf=>cases hf;obtain⟨fa,fd,h1,h2,h3⟩:=A.d12.ex;exact⟨fa,fd,h1,h2,h3,h2.binds (ps:=["row", "place"]) (fun _ _ _ _ _ _=>all2 (fun _ _=>rfl))⟩
  | 5,hf=>cases hf;obtain⟨fa,fd,h1,h2,h3⟩:=A.d13.ex;exact⟨fa,fd,h1,h2,h3,h2.binds (ps:=["row"]) (fun _ _ _ _ _ _=>all1 (fun _=>rfl))⟩
  | 6,hf=>cases hf;obtain⟨fa,fd,h1,h2,h3⟩:=A.d14.ex;exact⟨fa,fd,h1,h2,h3,h2.binds (ps:=["row", "one", "other"]) (fun _ _ _ _ _ _=>iE (fun _ _ _=>rfl))⟩
  | 7,hf=>cases hf;obtain⟨fa,fd,h1,h2,h3⟩:=A.d15.ex;exact⟨fa,fd,h1,h2,h3,h2.binds (ps:=["one", "other", "start"]) (fun _ _ _ _ _ _=>iE (fun _ _ _=>rfl))⟩
  | 8,hf=>cases hf;obtain⟨fa,fd,h1,h2,h3⟩:=A.d16.ex;exact⟨fa,fd,h1,h2,h3,h2.binds (ps:=["one", "other"]) (fun _ _ _ _ _ _=>all2 (fun _ _=>rfl))⟩
  | 9,hf=>cases hf;obtain⟨fa,fd,h1,h2,h3⟩:=A.d17.ex;exact⟨fa,fd,h1,h2,h3,h2.binds (ps:=["seen", "places"]) (fun _ _ _ _ _ _=>all2 (fun _ _=>rfl))⟩
  | 10,hf=>cases hf;obtain⟨fa,fd,h1,h2,h3⟩:=A.d19.ex;exact⟨fa,fd,h1,h2,h3,h2.binds (ps:=["frame"]) (fun _ _ _ _ _ _=>all1 (fun _=>rfl))⟩
  | 11,hf=>cases hf;obtain⟨fa,fd,h1,h2,h3⟩:=A.d20.ex;exact⟨fa,fd,h1,h2,h3,h2.binds (ps:=["frame"]) (fun _ _ _ _ _ _=>all1 (fun _=>rfl))⟩
  | 12,hf=>cases hf;obtain⟨fa,fd,h1,h2,h3⟩:=A.d21.ex;exact⟨fa,fd,h1,h2,h3,h2.binds (ps:=["one", "other"]) (fun _ _ _ _ _ _=>all2 (fun _ _=>rfl))⟩
  | 13,hf=>cases hf;obtain⟨fa,fd,h1,h2,h3⟩:=A.d22.ex;exact⟨fa,fd,h1,h2,h3,h2.binds (ps:=["frame"]) (fun _ _ _ _ _ _=>all1 (fun _=>rfl))⟩
  | 14,hf=>cases hf;obtain⟨fa,fd,h1,h2,h3⟩:=A.d23.ex;exact⟨fa,fd,h1,h2,h3,h2.binds (ps:=["pegs"]) (fun _ _ _ _ _ _=>all1 (fun _=>rfl))⟩
  | 15,hf=>cases hf;obtain⟨fa,fd,h1,h2,h3⟩:=A.d24.ex;exact⟨fa,fd,h1,h2,h3,h2.binds (ps:=["frame"]) (fun _ _ _ _ _ _=>all1 (fun _=>rfl))⟩
  | 16,hf=>cases hf;obtain⟨fa,fd,h1,h2,h3⟩:=A.d25.ex;exact⟨fa,fd,h1,h2,h3,h2.binds (ps:=["frame"]) (fun _ _ _ _ _ _=>all1 (fun _=>rfl))⟩
  | 17,hf=>cases hf;obtain⟨fa,fd,h1,h2,h3⟩:=A.d26.ex;exact⟨fa,fd,h1,h2,h3,h2.binds (ps:=["frame"]) (fun _ _ _ _ _ _=>all1 (fun _=>rfl))⟩
  | 18,hf=>cases hf;obtain⟨fa,fd,h1,h2,h3⟩:=A.d27.ex;exact⟨fa,fd,h1,h2,h3,h2.binds (ps:=["pegs", "peg"]) (fun _ _ _ _ _ _=>all2 (fun _ _=>rfl))⟩
  | 19,hf=>cases hf;obtain⟨fa,fd,h1,h2,h3⟩:=A.d28.ex;exact⟨fa,fd,h1,h2,h3,h2.binds (ps:=["frame"]) (fun _ _ _ _ _ _=>all1 (fun _=>rfl))⟩
  | 20,hf=>cases hf;obtain⟨fa,fd,h1,h2,h3⟩:=A.d29.ex;exact⟨fa,fd,h1,h2,h3,h2.binds (ps:=["frame", "to"]) (fun _ _ _ _ _ _=>all2 (fun _ _=>rfl))⟩
  | 21,hf=>cases hf;obtain⟨fa,fd,h1,h2,h3⟩:=A.d31.ex;exact⟨fa,fd,h1,h2,h3,h2.binds (ps:=["half"]) (fun _ _ _ _ _ _=>all1 (fun _=>rfl))⟩
  | 22,hf=>cases hf;obtain⟨fa,fd,h1,h2,h3⟩:=A.d32.ex;exact⟨fa,fd,h1,h2,h3,h2.binds (ps:=["half"]) (fun _ _ _ _ _ _=>all1 (fun _=>rfl))⟩
  | 23,hf=>cases hf;obtain⟨fa,fd,h1,h2,h3⟩:=A.d33.ex;exact⟨fa,fd,h1,h2,h3,h2.binds (ps:=["one", "other"]) (fun _ _ _ _ _ _=>all2 (fun _ _=>rfl))⟩
  | 24,hf=>cases hf;obtain⟨fa,fd,h1,h2,h3⟩:=A.d34.ex;exact⟨fa,fd,h1,h2,h3,h2.binds (ps:=["frame"]) (fun _ _ _ _ _ _=>all1 (fun _=>rfl))⟩
  | 25,hf=>cases hf;obtain⟨fa,fd,h1,h2,h3⟩:=A.d35.ex;exact⟨fa,fd,h1,h2,h3,h2.binds (ps:=["frame"]) (fun _ _ _ _ _ _=>all1 (fun _=>rfl))⟩
  | 26,hf=>cases hf;obtain⟨fa,fd,h1,h2,h3⟩:=A.d36.ex;exact⟨fa,fd,h1,h2,h3,h2.binds (ps:=["one", "other"]) (fun _ _ _ _ _ _=>all2 (fun _ _=>rfl))⟩
  | 27,hf=>cases hf;obtain⟨fa,fd,h1,h2,h3⟩:=A.d37.ex;exact⟨fa,fd,h1,h2,h3,h2.binds (ps:=["half"]) (fun _ _ _ _ _ _=>all1 (fun _=>rfl))⟩
  | 28,hf=>cases hf;obtain⟨fa,fd,h1,h2,h3⟩:=A.d39.ex;exact⟨fa,fd,h1,h2,h3,h2.binds (ps:=["upper", "lower"]) (fun _ _ _ _ _ _=>all2 (fun _ _=>rfl))⟩
  | 29,hf=>cases hf;obtain⟨fa,fd,h1,h2,h3⟩:=A.d40.ex;exact⟨fa,fd,h1,h2,h3,h2.binds (ps:=["upper", "lower"]) (fun _ _ _ _ _ _=>all2 (fun _ _=>rfl))⟩
  | 30,hf=>cases hf;obtain⟨fa,fd,h1,h2,h3⟩:=A.d41.ex;exact⟨fa,fd,h1,h2,h3,h2.binds (ps:=["pegs"]) (fun _ _ _ _ _ _=>all1 (fun _=>rfl))⟩
  | 31,hf=>cases hf;obtain⟨fa,fd,h1,h2,h3⟩:=A.d43.ex;exact⟨fa,fd,h1,h2,h3,h2.binds (ps:=["frame", "goal"]) (fun _ _ _ _ _ _=>all2 (fun _ _=>rfl))⟩
  | 32,hf=>cases hf;obtain⟨fa,fd,h1,h2,h3⟩:=A.d44.ex;exact⟨fa,fd,h1,h2,h3,h2.binds (ps:=["frame", "goal"]) (fun _ _ _ _ _ _=>all2 (fun _ _=>rfl))⟩
  | 33,hf=>cases hf;obtain⟨fa,fd,h1,h2,h3⟩:=A.d45.ex;exact⟨fa,fd,h1,h2,h3,h2.binds (ps:=["half", "fewer"]) (fun _ _ _ _ _ _=>all2 (fun _ _=>rfl))⟩
  | 34,hf=>cases hf;obtain⟨fa,fd,h1,h2,h3⟩:=A.d47.ex;exact⟨fa,fd,h1,h2,h3,h2.binds (ps:=["_law_seed"]) (fun _ _ _ _ _ _=>all1 (fun _=>rfl))⟩
  | 35,hf=>cases hf;obtain⟨fa,fd,h1,h2,h3⟩:=A.d48.ex;exact⟨fa,fd,h1,h2,h3,h2.binds (ps:=["_law_script", "_law_k"]) (fun _ _ _ _ _ _=>all2 (fun _ _=>rfl))⟩
  | 36,hf=>cases hf;obtain⟨fa,fd,h1,h2,h3⟩:=A.d49.ex;exact⟨fa,fd,h1,h2,h3,h2.binds (ps:=["_law_script", "_law_k", "_law_sizes"]) (fun _ _ _ _ _ _=>iE (fun _ _ _=>rfl))⟩
  | 37,hf=>cases hf;obtain⟨fa,fd,h1,h2,h3⟩:=A.d50.ex;exact⟨fa,fd,h1,h2,h3,h2.binds (ps:=["_law_pegs"]) (fun _ _ _ _ _ _=>all1 (fun _=>rfl))⟩
  | 38,hf=>cases hf;obtain⟨fa,fd,h1,h2,h3⟩:=A.d51.ex;exact⟨fa,fd,h1,h2,h3,h2.binds (ps:=["_law_pegs", "_law_number"]) (fun _ _ _ _ _ _=>all2 (fun _ _=>rfl))⟩
  | 39,hf=>cases hf;obtain⟨fa,fd,h1,h2,h3⟩:=A.d52.ex;exact⟨fa,fd,h1,h2,h3,h2.binds (ps:=["_law_pegs"]) (fun _ _ _ _ _ _=>all1 (fun _=>rfl))⟩
  | 40,hf=>cases hf;obtain⟨fa,fd,h1,h2,h3⟩:=A.d53.ex;exact⟨fa,fd,h1,h2,h3,h2.binds (ps:=["_law_text_here"]) (fun _ _ _ _ _ _=>all1 (fun _=>rfl))⟩
  | 41,hf=>cases hf;obtain⟨fa,fd,h1,h2,h3⟩:=A.d54.ex;exact⟨fa,fd,h1,h2,h3,h2.binds (ps:=["_law_raw_here", "_law_pegs"]) (fun _ _ _ _ _ _=>all2 (fun _ _=>rfl))⟩
  | 42,hf=>cases hf;obtain⟨fa,fd,h1,h2,h3⟩:=A.d55.ex;exact⟨fa,fd,h1,h2,h3,h2.binds (ps:=["_law_high", "_law_low", "_law_inner"]) (fun _ _ _ _ _ _=>iE (fun _ _ _=>rfl))⟩
  | 43,hf=>cases hf;obtain⟨fa,fd,h1,h2,h3⟩:=A.d56.ex;exact⟨fa,fd,h1,h2,h3,h2.binds (ps:=["_law_high", "_law_low"]) (fun _ _ _ _ _ _=>all2 (fun _ _=>rfl))⟩
  | 44,hf=>cases hf;obtain⟨fa,fd,h1,h2,h3⟩:=A.d57.ex;exact⟨fa,fd,h1,h2,h3,h2.binds (ps:=["_law_frame_here"]) (fun _ _ _ _ _ _=>all1 (fun _=>rfl))⟩
  | 45,hf=>cases hf;obtain⟨fa,fd,h1,h2,h3⟩:=A.d58.ex;exact⟨fa,fd,h1,h2,h3,h2.binds (ps:=["_law_script", "_law_k", "_law_pegs"]) (fun _ _ _ _ _ _=>iE (fun _ _ _=>rfl))⟩
  | 46,hf=>cases hf;obtain⟨fa,fd,h1,h2,h3⟩:=A.d59.ex;exact⟨fa,fd,h1,h2,h3,h2.binds (ps:=["_law_script", "_law_k", "_law_pegs", "_law_count"]) (fun _ _ _ _ _ _=>HJ (fun _ _ _ _=>rfl))⟩
  | 47,hf=>cases hf;obtain⟨fa,fd,h1,h2,h3⟩:=A.d60.ex;exact⟨fa,fd,h1,h2,h3,h2.binds (ps:=["_law_told", "_law_due"]) (fun _ _ _ _ _ _=>all2 (fun _ _=>rfl))⟩
  | 48,hf=>cases hf;obtain⟨fa,fd,h1,h2,h3⟩:=A.d61.ex;exact⟨fa,fd,h1,h2,h3,h2.binds (ps:=["_law_ends", "_law_one"]) (fun _ _ _ _ _ _=>all2 (fun _ _=>rfl))⟩
  | 49,hf=>cases hf;obtain⟨fa,fd,h1,h2,h3⟩:=A.d62.ex;exact⟨fa,fd,h1,h2,h3,h2.binds (ps:=["_law_frame_here"]) (fun _ _ _ _ _ _=>all1 (fun _=>rfl))⟩
  | 50,hf=>cases hf;obtain⟨fa,fd,h1,h2,h3⟩:=A.d63.ex;exact⟨fa,fd,h1,h2,h3,h2.binds (ps:=["_law_script"]) (fun _ _ _ _ _ _=>all1 (fun _=>rfl))⟩
  | f+51,hf=>cases hf
 blt:=by
  intro x hx
  simp only[p,List.mem_cons,List.mem_nil_iff,or_false]at hx
  rcases hx with rfl | rfl | rfl | rfl | rfl | rfl | rfl | rfl | rfl | rfl | rfl | rfl | rfl | rfl | rfl
  ·exact PySem.W.mg_none_of X G A.Gf
  ·exact PySem.W.mg_none_of X G A.FI
  ·exact PySem.W.mg_none_of X G A.EC
  ·exact PySem.W.mg_none_of X G A.sT
  ·exact PySem.W.mg_none_of X G A.G7
  ·exact PySem.W.mg_none_of X G A.rm
  ·exact PySem.W.mg_none_of X G A.FQ
  ·exact PySem.W.mg_none_of X G A.DI
  ·exact PySem.W.mg_none_of X G A.G3
  ·exact PySem.W.mg_none_of X G A.Bp
  ·exact PySem.W.mg_none_of X G A.Gu
  ·exact PySem.W.mg_none_of X G A.yo
  ·exact PySem.W.mg_none_of X G A.Gy
  ·exact PySem.W.mg_none_of X G A.BI
  ·exact PySem.W.mg_none_of X G A.Gb
 glb:=by
  intro x i hx
  obtain⟨t,ht⟩:=A.sX
  have e:x = "MOST_PEGS" /\ i=10:=by
   simp only[p,List.lookup]at hx
   split at hx
   ·rename_i he
    cases hx
    exact⟨by simpa using he,rfl⟩
   ·cases hx
  obtain⟨rfl,rfl⟩:=e
  exact⟨_,PySem.W.mg_of X G ht,t,rfl⟩
end K37
namespace PySem.W.Fast
theorem tw8764567649185122592:True:=trivial
theorem tw5847438350338596320:True:=trivial
theorem tw11850259323869806048:True:=trivial
theorem tw14776260227731999200:True:=trivial
theorem tw10280585037319610048:True:=trivial
theorem tw3377893443592742656:True:=trivial
theorem tw18236483613246102593:True:=trivial
theorem tw4233281966116100385:True:=trivial
theorem tw7250564515896411457:True:=trivial
theorem tw3632118315686717889:True:=trivial
theorem tw3896054604738049218:True:=trivial
theorem tw2255945870424359298:True:=trivial
theorem tw7291530853406770722:True:=trivial
theorem tw16540480109135457858:True:=trivial
theorem tw4554080019829736098:True:=trivial
theorem tw8820248259484148418:True:=trivial
theorem tw7815064503528602402:True:=trivial
theorem tw9932393002815429474:True:=trivial
theorem tw763785164935678882:True:=trivial
theorem tw11832619083621867523:True:=trivial
theorem tw6448187633165301891:True:=trivial
theorem tw1708962836717710499:True:=trivial
theorem tw17692701995501036771:True:=trivial
theorem tw3152266382300946051:True:=trivial
theorem tw1130017782605091619:True:=trivial
theorem tw17922204152663804867:True:=trivial
theorem tw6308512870129302499:True:=trivial
theorem tw11858971527060121700:True:=trivial
theorem tw11550080457472478340:True:=trivial
theorem tw1084016425437536612:True:=trivial
theorem tw4398947557164335524:True:=trivial
theorem tw15157515599613923812:True:=trivial
theorem tw10367052895283635748:True:=trivial
theorem tw13351187942809682660:True:=trivial
theorem tw10246319989820138244:True:=trivial
theorem tw9159823395787288356:True:=trivial
theorem tw5802317465214404548:True:=trivial
theorem tw15164176975937291269:True:=trivial
theorem tw2326894168079795269:True:=trivial
theorem tw5193388461808004165:True:=trivial
theorem tw1508667387315543525:True:=trivial
theorem tw9883301073409299045:True:=trivial
theorem tw5873218294543330277:True:=trivial
theorem tw8115168257648785446:True:=trivial
theorem tw4512022422394872902:True:=trivial
theorem tw2670128218482431718:True:=trivial
theorem tw566017130774879142:True:=trivial
theorem tw7232940665401544967:True:=trivial
theorem tw1634730066419546471:True:=trivial
theorem tw9609416012852194759:True:=trivial
theorem tw14247588433256354439:True:=trivial
theorem tw6371843088722216711:True:=trivial
theorem tw16713526188078635815:True:=trivial
theorem tw10953408793945949991:True:=trivial
theorem tw740947980376264583:True:=trivial
theorem tw16235612561593374728:True:=trivial
theorem tw1937045262019350184:True:=trivial
theorem tw13667559512400392872:True:=trivial
theorem tw18268852021513778088:True:=trivial
theorem tw9747119274976652393:True:=trivial
theorem tw12603828102534238313:True:=trivial
theorem tw17006291541828590825:True:=trivial
theorem tw14299232249846064489:True:=trivial
theorem tw2822754230720709257:True:=trivial
theorem tw4347737270656403113:True:=trivial
theorem tw17373780209749513226:True:=trivial
theorem tw10160208147568145450:True:=trivial
theorem tw202822560698117354:True:=trivial
theorem tw6757002688562711786:True:=trivial
theorem tw12927608136341879082:True:=trivial
theorem tw9271034907777270090:True:=trivial
theorem tw3067342338525756074:True:=trivial
theorem tw188788872374176458:True:=trivial
theorem tw16489024048144870090:True:=trivial
theorem tw4965234114830817066:True:=trivial
theorem tw5624636602251790154:True:=trivial
theorem tw7255009538287729963:True:=trivial
theorem tw7385997537431088651:True:=trivial
theorem tw3838636030929609259:True:=trivial
theorem tw8477472093825054283:True:=trivial
theorem tw2100378049243091659:True:=trivial
theorem tw9174445936440312619:True:=trivial
theorem tw17659811008819565419:True:=trivial
theorem tw17856993915267615852:True:=trivial
theorem tw16529030587662431372:True:=trivial
theorem tw7256957031848121804:True:=trivial
theorem tw8473193799013411436:True:=trivial
theorem tw16576064172869887628:True:=trivial
theorem tw18355959075413055501:True:=trivial
theorem tw3738536627411547181:True:=trivial
theorem tw2730439352287803629:True:=trivial
theorem tw6156746486198614349:True:=trivial
theorem tw14452323614518234573:True:=trivial
theorem tw5259942362751205101:True:=trivial
theorem tw13645165605701673773:True:=trivial
theorem tw16043855617977528334:True:=trivial
theorem tw10051857769027426382:True:=trivial
theorem tw6670744788845061742:True:=trivial
theorem tw9329361290752583374:True:=trivial
theorem tw5124162791755676622:True:=trivial
theorem tw16684258762246029359:True:=trivial
theorem tw14188685082143611983:True:=trivial
theorem tw17494348493121811791:True:=trivial
theorem tw452239324539592207:True:=trivial
theorem tw6948142075665315375:True:=trivial
theorem tw9983349970797565551:True:=trivial
theorem tw8456218561979608719:True:=trivial
theorem tw5048649602157085583:True:=trivial
theorem tw606630745178984431:True:=trivial
theorem tw11654995301693296752:True:=trivial
theorem tw370219320232347888:True:=trivial
theorem tw15556209261947171088:True:=trivial
theorem tw13767753325835504976:True:=trivial
theorem tw1505185776936783216:True:=trivial
theorem tw13862428874290436752:True:=trivial
theorem tw1590714599421687696:True:=trivial
theorem tw9835076486595152816:True:=trivial
theorem tw14776827182707128465:True:=trivial
theorem tw17878779631509480625:True:=trivial
theorem tw1957504014113224881:True:=trivial
theorem tw12117303627111314385:True:=trivial
theorem tw4622591537923194962:True:=trivial
theorem tw15705427718289093714:True:=trivial
theorem tw3121285904906726770:True:=trivial
theorem tw8628763846975582770:True:=trivial
theorem tw3728302722572976818:True:=trivial
theorem tw2574024624028298002:True:=trivial
theorem tw7534818331529064242:True:=trivial
theorem tw14790138660648590226:True:=trivial
theorem tw9594554490302260243:True:=trivial
theorem tw1601344238895969395:True:=trivial
theorem tw5075219979081381011:True:=trivial
theorem tw14583194194063158579:True:=trivial
theorem tw11415737569726851475:True:=trivial
theorem tw3217611961742155635:True:=trivial
theorem tw9624896162990200916:True:=trivial
theorem tw15331172661442561268:True:=trivial
theorem tw11234003136995731956:True:=trivial
theorem tw6418946849675648628:True:=trivial
theorem tw11283749755265109908:True:=trivial
theorem tw14160040343041661908:True:=trivial
theorem tw17838953006530570421:True:=trivial
theorem tw14422250325047925333:True:=trivial
theorem tw13663768166741761717:True:=trivial
theorem tw16890833113003007957:True:=trivial
theorem tw16123395749078850582:True:=trivial
theorem tw1532722162452552854:True:=trivial
theorem tw3079750851597563062:True:=trivial
theorem tw17661170621318611510:True:=trivial
theorem tw14399521270790829718:True:=trivial
theorem tw2007275861986366262:True:=trivial
theorem tw12064935068560710775:True:=trivial
theorem tw1745117227293447543:True:=trivial
theorem tw5073911123900888471:True:=trivial
theorem tw8188037341388150583:True:=trivial
theorem tw2245165717044381880:True:=trivial
theorem tw5085630052174416184:True:=trivial
theorem tw14624129868653209976:True:=trivial
theorem tw13949820417602343352:True:=trivial
theorem tw4252716407943646744:True:=trivial
theorem tw11896343787153019416:True:=trivial
theorem tw5520848858985330264:True:=trivial
theorem tw10950678680721341016:True:=trivial
theorem tw2154341765501022457:True:=trivial
theorem tw17557521589939876441:True:=trivial
theorem tw8865637753479918810:True:=trivial
theorem tw4258902587930191130:True:=trivial
theorem tw2286376621209568026:True:=trivial
theorem tw13937942673014115194:True:=trivial
theorem tw17463211262032481403:True:=trivial
theorem tw17641224150759694619:True:=trivial
theorem tw14789896102558637499:True:=trivial
theorem tw13112939764378484283:True:=trivial
theorem tw11565782646238364283:True:=trivial
theorem tw13220709258201840347:True:=trivial
theorem tw3870842931278592763:True:=trivial
theorem tw6531771276774159163:True:=trivial
theorem tw15962498951247692635:True:=trivial
theorem tw10221773771051188155:True:=trivial
theorem tw32035492892187611:True:=trivial
theorem tw4123323945743714364:True:=trivial
theorem tw7436843178055991516:True:=trivial
theorem tw6405295701676720572:True:=trivial
theorem tw11106332207036111772:True:=trivial
theorem tw4992915115328352252:True:=trivial
theorem tw14249760134922558493:True:=trivial
theorem tw10234546778431356189:True:=trivial
theorem tw9732388802609052029:True:=trivial
theorem tw3119358364881199773:True:=trivial
theorem tw13973151277024442141:True:=trivial
theorem tw10306075642731891709:True:=trivial
theorem tw18108392077114329118:True:=trivial
theorem tw1146574830447305822:True:=trivial
theorem tw9027496370740872414:True:=trivial
theorem tw4785903282986538302:True:=trivial
theorem tw17786819082202863934:True:=trivial
theorem tw17051760035642830270:True:=trivial
theorem tw11258389808601672382:True:=trivial
theorem tw9084779200653546174:True:=trivial
theorem tw6910358102825895806:True:=trivial
theorem tw4547346669990989694:True:=trivial
theorem tw13998790488276520894:True:=trivial
theorem tw1873274316850507135:True:=trivial
theorem tw13909852754344245759:True:=trivial
theorem tw3902020185528650303:True:=trivial
theorem tw4620612944763576927:True:=trivial
theorem tw9957343975875696383:True:=trivial
theorem tw9464818931088006015:True:=trivial
theorem tw6619482435339339679:True:=trivial
theorem tw1602047687280864159:True:=trivial
theorem tw16493026615588285375:True:=trivial
theorem tw5072546132387525339:True:=trivial
end PySem.W.Fast
open PySem PySem.W PyProof.Rows
set_option maxRecDepth 100000 in
set_option maxHeartbeats 0 in
theorem PySem.Challenge.cw_ribbonloft_k37_from_both_sides_holds : PySem.Challenge.rw_ribbonloft_k37_from_both_sides.Holds := by
 w_on;o_law;k_head;(case hw=>w_witness2)
 k_fill
 refine L2.zr (l:=PySem.Challenge.rw_ribbonloft_k37_from_both_sides) (n:=63) (k:=30) (x := "_law_script") (CX:=L2.CX0) (sp:=RS.spL 30 K37.p 50) rfl (by decide) rfl ⟨rfl,by decide,by decide⟩ (fun w h Y=>PySem.W.kIn_of Y) ?F ?S ?C
 case F =>
  intro w mg fa h KX G hmg
  have T:K37.tH (L2.KOf KX) mg:=by
   dsimp only[L2.KOf]
   constructor
   iterate 51 (refine' K37.De KX G ?a ?l ?c ?k;(case a=>k_is);(case l=>k_is);(case c=>k_is);(case k=>k_is))
   iterate 15 k_is
   exact⟨_,by k_is⟩
  have tp:=K37.Fs KX G T
  obtain⟨fa',fd,h1,h2,h3,h4⟩:=tp.defs 50 _ rfl
  have e0:=hmg.symm.trans h1
  cases e0
  refine⟨fd,fun s u=>?_,fun base kb nb=>RS.vX K37.HD tp 30 50 _ _ rfl rfl _ _ h2⟩
  obtain⟨oc,od,kV,doc,pm,an,cdv,ct,osl,e9,_,_⟩:=h2.ex
  subst e9
  exact .of_eq rfl
 case S=>exact fun K H a ns hl hO hS=>RS.Dn hO hS (K37.main ns hl)
 case C=>exact fun _ _ _ _ h=>h
